import PyProof.Rows.All
import Wide.All
import OpenK.AllK
import Wide.FinOn
import Lean
import PyProof.EqAt
import PyProof.EqKinds
import PyProof.TupleCall
import PyProof.ExcInit
import PyProof.ExcClass2
import OpenK.KGet
import OpenK.KMake
import PyProof.InstStoreFacts
import PyProof.ExcBaseAll.ValueError
import PyProof.StationsW
import PyProof.ExcArgs
import PySem.Syntax
import KE.KSortTup
import PySem.Builtin.Str.Common
import PyProof.StrBlock
import PySem.Eval
import PyProof.CompFree
import PyProof.Cells
import PyProof.NeKinds
import PyProof.FString5
import PyProof.Draws
import PyProof.EnumMake
import PyProof.TupleIter
import PyProof.EnumFor
import KE.KDictSum
import KE.KItemsList
import PyProof.IsiH_list
import PyProof.AttrMiss
import KE.KDictOf
import PyProof.ZipIter
import PyProof.NsDelKeeps
import PyProof.RulesAs
import KE.KTryMore
import KE.KLam
import PySem.Challenge.RW_dealtables_k12_keys_and_rows
set_option Elab.async false
set_option linter.all false
set_option maxRecDepth 100000
set_option maxHeartbeats 8000000
set_option genSizeOf false
set_option bootstrap.genMatcherCode false
noncomputable section
abbrev a0.{u}(x:Type u):=Option x
section
open PySem Spec PyProof.Rows
abbrev Pq:=List (Addr×Obj)
abbrev Vq:=Value->Shared->Prop
abbrev Mq:=Str->Option Value
def fS:=@List.mem_map
def cK:=@eq_of_beq
def lE:=@List.size_toArray
def jZ:=@List.getElem?_set_self
def kA:=@List.getElem_mem
def gH:=@List.nodup_cons
def lF:=@List.map_congr_left
def mE:=@beq_self_eq_true
def nJ:=@List.filter_cons
def fU:=@List.length_set
def qW:=@Array.getElem?_eq_getElem
def qX:=@Heap.SameBut.update
def eM:=@wpAny_field
def fV:=@sizeLine_eq
def kB:=@List.mem_of_mem_take
def iJ:=@List.any_cons
def mF:=@wpAny_pyIter_tuple
def oR:=@List.mem_filter
def lG:=@Int.emod_lt_of_pos
def iX:=@List.all_eq_true
def iY:=@wpAny_holding
def zZ:=@beq_eq_false_iff_ne
def oS:=@List.getElem?_append_right
def oU:=@List.getElem?_append_left
def lH:=@Int.emod_nonneg
def uX:=@wpAny_dictEntries
def mG:=@Heap.get?_update_ne
def qY:=@wpAny_typeNameOfWhole_keyiter
def lI:=@wpAny_seqItems
def qZ:=@wpAny_fieldsOf
def rA:=@List.nodup_nil
def nK:=@wpAny_setField_rec
def jJ:=@Obj.data_mapFields
def nL:=@List.length_append
def kD:=@List.mem_filterMap
def oV:=@List.getElem?_eq_none
def fW:=@Option.bind_eq_some_iff
def uY:=@List.mem_append
def rB:=@List.find?_cons
def AA:=@List.mem_singleton
def rC:=@List.mem_flatMap
def oW:=@Nat.succ_le_succ
def nM:=@beq_iff_eq
def bB:=@Option.bind_some
def aF:=@wpAny_bind
def U8:=@List.getElem?_cons_zero
def JY:=@List.getElem?_cons_succ
def aT:=@Heap.get?_push_of_some
def bE:=@List.map_cons
def dF:=@Bool.and_eq_true
def bM:=@List.length_map
def aQ:=@wpAny_pure
def cP:=@List.length_append
def cW:=@List.size_toArray
def bH:=@Nat.le_refl
def aP:=@congrArg
def dM:=@List.getElem?_eq_getElem
def bI:=@Heap.lt_size
def cQ:=@Heap.get?_push_size
def dH:=@List.mem_cons_of_mem
def gC:=@List.length_cons
def dS:=@Nat.lt_of_lt_of_le
def dW:=@Bool.false_ne_true
def iZ:=@List.getD_eq_getElem?_getD
def cL:=@Nat.ne_of_lt
def fK:=@List.mem_cons_self
def dU:=@Option.some.inj
def iK:=@List.getElem?_map
def dX:=@decide_eq_true
def gI:=@List.append_nil
def eN:=@decide_eq_false
def dQ:=@Nat.zero_le
def eU:=@Heap.size_push
def jK:=@List.filterMap_cons
def dY:=@Nat.le_trans
def eG:=@List.map_map
def hX:=@List.getElem?_set_ne
def iL:=@List.mem_append_right
def gX:=@List.lookup_cons
def kE:=@Array.length_toList
def gY:=@List.map_append
def uZ:=@List.getElem?_append_left
def jL:=@List.mem_of_getElem?
def gJ:=@Nat.lt_irrefl
def jM:=@wpAny_newObj_type
def lJ:=@wpAny_callSpecial?_slot
def AB:=@List.getElem?_append_right
def kF:=@List.append_assoc
def jN:=@wpAny_call_entry
def U9:=@List.not_mem_nil
def rD:=@List.length_singleton
def AD:=@Bool.false_eq_true
def gK:=@wpAny_mono
def rE:=@List.length_take
def AE:=@decide_eq_true_eq
def V0:=@Int.toNat_natCast
def aV{α:Type _}{a:α}{l:List α}:(a::l)[0]?=some a:=rfl
def aW{α:Type _}{a:α}{l:List α}{i:Nat}:(a::l)[i+1]?=l[i]?:=rfl
def aO{α β:Type _}{a:α}{f:α->a0 β}:(some a).bind f=f a:=rfl
def aX{α:Type _}{a:a0 α}:(some a).join=a:=rfl
def aY{α β:Type _}{a:α}{l:List α}{f:α->β}:(a::l).map f=f a::l.map f:=rfl
def aZ{α β:Type _}{f:α->β}:[].map f=[]:=rfl
def cT{α β:Type _}{a:α}{f:α->β}:(some a).map f=some (f a):=rfl
def rF{α:Type _}{a b:α}{l:List α}{n:Nat}:(a::l).set (n+1) b=a::l.set n b:=rfl
def rG{α:Type _}{a b:α}{l:List α}:(a::l).set 0 b=b::l:=rfl
end
def Ev.lw_ok:PySem.Challenge.rw_dealtables_k12_keys_and_rows.wellSaid=true:=by kernel_rfl
def obs{α β:Type}{o:a0 α}{f:α->a0 β}{b:β}:o.bind f=some b->∃a,o=some a/\f a=some b:=fW.mp
def oms{α β:Type}{o:a0 α}{f:α->β}{b:β}:o.map f=some b->∃a,o=some a/\f a=b:=Option.map_eq_some_iff.mp
def omc{α:Type}{a b:α}{l:List α}:a∈b::l->a=b\/a∈l:=List.mem_cons.mp
def oma{α:Type}{a:α}{s t:List α}:a∈s++t->a∈s\/a∈t:=uY.mp
def omm{α β:Type}{f:α->β}{l:List α}{b:β}:b∈l.map f->∃a,a∈l/\f a=b:=fS.mp
def omg{α:Type}{a b:α}:a∈[b]->a=b:=AA.mp
def oml{α:Type}{p:α->Bool}{l:List α}:l.all p=true->∀x,x∈l->p x=true:=iX.mp
def ome{α:Type}{l:List α}{i:Nat}{a:α}:l[i]?=some a->∃h:i<l.length,l[i]=a:=List.getElem?_eq_some_iff.mp
namespace L2
open PySem Spec PyProof.Rows
abbrev Key:=Sum Int (a0 Str)
def bR:Value->Bool
 |.none=>true
 |_=>false
theorem JZ(h:bR v=true):v=Value.none:=by cases v<;>first|rfl|cases h
def nN:Key->Value->Bool
 |.inl k,v=>Value.isInt k v
 |.inr (some x),v=>Value.isStrOf x v
 |.inr none,v=>bR v
def keyH(w:World):Key->Int
 |.inl k=>hashInt k
 |.inr (some x)=>hashStr w x
 |.inr none=>4238894112
theorem kG:∀{k:Key}{v:Value},nN k v=true->(∃i t,k=Sum.inl i/\v=Value.int i t)\/(∃x t,k=Sum.inr (some x)/\v=Value.str x t)\/(k=Sum.inr none/\v=Value.none)
 |.inl i,v,h=>by obtain⟨t,e⟩:=Value.isInt_shape (k:=i) (v:=v) h;exact .inl ⟨i,t,rfl,e⟩
 |.inr (some x),v,h=>by obtain⟨t,e⟩:=Value.isStrOf_shape (x:=x) (v:=v) h;exact .inr (.inl ⟨x,t,rfl,e⟩)
 |.inr none,v,h=>.inr (.inr ⟨rfl,JZ h⟩)
theorem KA(i:Int)(t:Tok):nN (.inl i) (.int i t)=true:=by simp[nN,Value.isInt]
theorem KB(x:Str)(t:Tok):nN (.inr (some x)) (.str x t)=true:=by simp[nN,Value.isStrOf]
theorem KC(a b:Int):decide ((Sum.inl a:Key)=Sum.inl b)=(a==b):=by
 by_cases e:a=b
 .subst e;simp
 .have h:¬(Sum.inl a:Key)=Sum.inl b:=fun q=>e (Sum.inl.inj q);rw[eN h];exact(zZ.mpr e).symm
theorem KD(a b:Str):decide ((Sum.inr (some a):Key)=Sum.inr (some b))=decide (a=b):=by
 by_cases e:a=b
 .subst e;simp
 .have h:¬(Sum.inr (some a):Key)=Sum.inr (some b):=fun q=>e (dU (Sum.inr.inj q));rw[eN h,eN e]
def AF(a:Int)(b:a0 Str):decide ((Sum.inl a:Key)=Sum.inr b)=false:=eN (fun q=>nomatch q)
def AG(a:a0 Str)(b:Int):decide ((Sum.inr a:Key)=Sum.inl b)=false:=eN (fun q=>nomatch q)
def KF(a:Str):decide ((Sum.inr (some a):Key)=Sum.inr none)=false:=eN (fun q=>nomatch (Sum.inr.inj q))
def KG(a:Str):decide ((Sum.inr none:Key)=Sum.inr (some a))=false:=eN (fun q=>nomatch (Sum.inr.inj q))
def KI:decide ((Sum.inr none:Key)=Sum.inr none)=true:=dX rfl
def KJ(h:Q 4238894112 {s with toks:=s.toks+1}):wpAny (model prog w) A (PySem.pyHash .none) Q E s :=
 PySem.W.pyHash_slot (T:="NoneType") rfl PySem.F.slot_NoneType_hash PySem.F.entry_NoneType_hash (PySem.F.args_NoneType_hash_1 _) (beq_builtin_none _) (.inl rfl) (aF (aQ (aF (wpAny_mkInt (aQ ⟨_,_,rfl,h⟩)))))
def eV(prog:Program)(w:World):PySem.KeyKind prog w Key where
 is:=nN
 hash:=keyH w
 inj:=fun v a b ha hb=>by rcases kG ha with⟨i,t,rfl,rfl⟩|⟨x,t,rfl,rfl⟩|⟨rfl,rfl⟩<;>rcases kG hb with⟨j,u,rfl,e⟩|⟨y,u,rfl,e⟩|⟨rfl,e⟩<;>first|(cases e;rfl)|cases e
 byValue:=fun k v h=>by rcases kG h with⟨i,t,rfl,rfl⟩|⟨x,t,rfl,rfl⟩|⟨rfl,rfl⟩<;>rfl
 pyHash:=fun hv h=>by
  rcases kG hv with⟨i,t,rfl,rfl⟩|⟨x,t,rfl,rfl⟩|⟨rfl,rfl⟩
  .exact wpAny_pyHash_int h
  .exact wpAny_pyHash_str h
  .exact KJ h
 eqBool:=fun hu hv h=>by
  rcases kG hu with⟨i,t,rfl,rfl⟩|⟨x,t,rfl,rfl⟩|⟨rfl,rfl⟩
  .rcases kG hv with⟨j,u,rfl,rfl⟩|⟨y,u,rfl,rfl⟩|⟨rfl,rfl⟩
   .rw[KC]at h;exact wpAny_eqBool_int h
   .rw[AF]at h;exact SeqAt.EqAt.int_str i t y u _ _ _ _ h
   .rw[AF]at h;exact SeqAt.EqAt.int_none i t _ _ _ _ h
  .rcases kG hv with⟨j,u,rfl,rfl⟩|⟨y,u,rfl,rfl⟩|⟨rfl,rfl⟩
   .rw[AG]at h;exact SeqAt.EqAt.str_int x t j u _ _ _ _ h
   .rw[KD]at h;exact wpAny_eqBool_str h
   .rw[KF]at h;exact SeqAt.EqAt.str_none x t _ _ _ _ h
  .rcases kG hv with⟨j,u,rfl,rfl⟩|⟨y,u,rfl,rfl⟩|⟨rfl,rfl⟩
   .rw[AG]at h;exact SeqAt.EqAt.none_int j u _ _ _ _ h
   .rw[KG]at h;exact SeqAt.EqAt.none_str y u _ _ _ _ h
   .rw[KI]at h;exact SeqAt.EqAt.same .none _ _ _ _ h
 «strs»:=fun k x t v h=>by
  rcases kG h with⟨i,u,rfl,e⟩|⟨y,u,rfl,e⟩|⟨rfl,e⟩
  .exact nomatch e
  .injection e with e1 _;subst e1;cases v<;>rfl
  .exact nomatch e
def KK(prog:Program)(w:World)(i:Int)(t:Tok):(eV prog w).is (.inl i) (.int i t)=true:=KA i t
def KM(prog:Program)(w:World)(x:Str)(t:Tok):(eV prog w).is (.inr (some x)) (.str x t)=true:=KB x t
inductive V where
 |non|bl (b:Bool)|int (i:Int)|str (x:Str)|byt (b:Array UInt8)|flt (b:UInt64)|ref (a:Addr)|ty (n:String)
 deriving DecidableEq
def aG:V->Value->Prop
 |.non,u=>u=Value.none
 |.bl b,u=>u=Value.bool b
 |.int i,u=>∃t,u=Value.int i t
 |.str x,u=>∃t,u=Value.str x t
 |.byt b,u=>∃t,u=Value.bytes b t
 |.flt b,u=>∃t,u=Value.float b t
 |.ref a,u=>u=Value.ref a
 |.ty n,u=>u=Value.type n
abbrev aJ:List V->List Value->Prop:=Paired aG
theorem aJ.length{xs:List V}{us:List Value}(r:aJ xs us):xs.length=us.length:=Paired.length r
theorem aJ.get:∀{xs:List V}{us:List Value}{i:Nat}{x:V},aJ xs us->xs[i]?=some x->∃u,us[i]?=some u/\aG x u
 |_,_,_,_,.nil,e=>by simp at e
 |_,_,0,_,.cons r _,e=>by simp at e;subst e;exact⟨_,rfl,r⟩
 |_,_,i+1,x,.cons _ t,e=>by obtain⟨u,h1,h2⟩:=aJ.get (i:=i) (x:=x) t (by simpa using e);exact⟨u,by simpa using h1,h2⟩
theorem aJ.set{x:V}{u:Value}(r:aG x u):∀{xs:List V}{us:List Value}(i:Nat),aJ xs us->aJ (xs.set i x) (us.set i u)
 |_,_,_,.nil=>.nil
 |_,_,0,.cons _ t=>.cons r t
 |_,_,i+1,.cons q t=>.cons q (aJ.set r i t)
theorem aJ.append:∀{xs ys:List V}{us ws:List Value},aJ xs us->aJ ys ws->aJ (xs++ys) (us++ws)
 |_,_,_,_,.nil,s=>s
 |_,_,_,_,.cons r t,s=>.cons r (aJ.append t s)
theorem aJ.take:∀{xs:List V}{us:List Value}(n:Nat),aJ xs us->aJ (xs.take n) (us.take n)
 |_,_,0,_=>.nil
 |_,_,_+1,.nil=>.nil
 |_,_,n+1,.cons r t=>.cons r (aJ.take n t)
theorem aJ.drop:∀{xs:List V}{us:List Value}(n:Nat),aJ xs us->aJ (xs.drop n) (us.drop n)
 |_,_,0,r=>r
 |_,_,_+1,.nil=>.nil
 |_,_,n+1,.cons _ t=>aJ.drop n t
def eF:a0 V->a0 Value->Prop
 |some v,some u=>aG v u
 |none,none=>True
 |_,_=>False
def KV{κ:Type}:List (κ×V)->List (κ×Value)->Prop:=Paired fun(p:κ×V)(q:κ×Value)=>p.1=q.1/\aG p.2 q.2
def kV:Key->V
 |.inl i=>.int i
 |.inr (some x)=>.str x
 |.inr none=>.non
abbrev Kq:=List (List Key×V)
inductive HO where
  |lst (xs:List V)
  |tup (xs:List V)
  |dK (qb:List (Key×V))|dT (qb:Kq)
  |set (S:Int->Bool) (n:Nat)
  |ins (C dx:Addr) (fs:List (Str×V))
  |own (x:Addr)
  |xd (fs:List (Str×V))
  |met (f x:Addr)
  |rng (lo hi:Int)
  |frz (o:Obj) (u:HO)
  |tbl (ps:Array Value)
  |ext (φ:Heap->Prop)
abbrev Hp:=Addr->a0 HO
def aL(H:Hp)(a:Addr)(o:HO):Hp:=fun b=>if b=a then some o else H b
def bN{H:Hp}{a:Addr}{o:HO}:aL H a o a=some o:=by unfold aL;rw[if_pos rfl]
def aR{H:Hp}{a b:Addr}{o:HO}(h:b≠a):aL H a o b=H b:=by unfold aL;rw[if_neg h]
theorem vA:aL (aL H a o) a u=aL H a u:=by funext b;unfold aL;split<;>rfl
def iM{H:Hp}(h:H a=some o)(h':H b=some u)(d:o≠u):a≠b:=by intro e;subst e;rw[h]at h';exact d (dU h')
theorem cS{H:Hp}{a b:Addr}{o:HO}(h:H a=some o)(h':H b=none):a≠b:=by intro e;subst e;rw[h]at h';cases h'
section
variable (P:Program)(w:World)
def aU(H:Hp)(h:Heap)(a:Addr):HO->Prop
 |.lst xs=>xs.length<=sizeLine/\∃(qc:List Value)(n:Nat),aJ xs qc/\h.get? a=some {cls:=.type "list",data:=.seq qc.toArray n}
 |.tup xs=>xs.length<=sizeLine/\∃qc:List Value,aJ xs qc/\IsTup h a qc.toArray
 |.dK qb=>qb.length<=sizeLine/\(a==sysModules)=false/\∃vs,KV qb vs/\h.DictOf (eV P w) a vs
 |.dT qb=>qb.length<=sizeLine/\(a==sysModules)=false/\∃xs:List (List Key×Addr×Value),
   Paired (fun(p:List Key×V)(q:List Key×Addr×Value)=>p.1=q.1/\H q.2.1=some (.tup (p.1.map kV))/\aG p.2 q.2.2) qb xs /\
   ∃o es ep,h.get? a=some o/\o.ExactDict/\o.data=.dict es ep/\es.toList=xs.map (entryOfKey (tupleKind (eV P w)))/\(xs.map (·.1)).Nodup
 |.set S n=>h.SetOf (intKind P w) a S n
 |.ins C dx fs=>H dx=some (.own a)/\fs.length<=1000/\dx≠a/\h.get? a=some (W.instObj C dx) /\
   ∃mA,h.Ns1 dx mA/\(∀f,eF (fs.lookup f) (mA f))/\PySem.Within mA (fs.map (·.1))
 |.own _=>∃o,h.get? a=some o
 |.xd fs=>∃mA,h.Ns1 a mA/\∀f,eF (fs.lookup f) (mA f)
 |.rng lo hi=>∃t u v,h.get? a=some {cls:=.type "range",data:=.fields #[.int lo t,.int hi u,.int 1 v]}
 |.frz o u=>h.get? a=some o/\aU H h a u
 |.tbl ps=>h.get? a=some {cls:=.none,data:=.fields ps}
 |.met f x=>h.get? a=some (W.methodObj (.ref f) (.ref x))
 |.ext φ=>φ h/\(∃o,h.get? a=some o)/\∀h1 h2:Heap,φ h1->(∀o,h1.get? a=some o->h2.get? a=some o)->φ h2
def HOk(H:Hp)(h:Heap):Prop:=∀a o,H a=some o->aU P w H h a o
end
theorem aU.lt(x:aU P w H h a o):a<h.objs.size:=by
 cases o with
 |lst xs=>obtain⟨_,_,_,_,e⟩:=x;exact bI e
 |tup xs=>obtain⟨_,_,_,p⟩:=x;exact p.lt
 |dK qb=>obtain⟨_,_,_,_,o,_,_,e,_⟩:=x;exact bI e
 |dT qb=>obtain⟨_,_,_,_,o,_,_,e,_⟩:=x;exact bI e
 |set S n=>obtain⟨o,_,_,_,e,_⟩:=x;exact bI e
 |ins C dx fs=>obtain⟨_,_,_,e,_⟩:=x;exact bI e
 |own y=>obtain⟨_,e⟩:=x;exact bI e
 |xd fs=>obtain⟨_,⟨_,_,_,e,_⟩,_⟩:=x;exact bI e
 |rng lo hi=>obtain⟨_,_,_,e⟩:=x;exact bI e
 |frz ob u=>obtain⟨e,_⟩:=x;exact bI e
 |tbl ps=>exact bI (show h.get? a=some _ from x)
 |met f y=>exact bI (show h.get? a=some _ from x)
 |ext φ=>obtain⟨_,⟨_,e⟩,_⟩:=x;exact bI e
theorem Paired.mapP{α β:Type}{F G:α->β->Prop}:∀{l₁:List α}{l₂:List β},Paired F l₁ l₂->(∀a b,F a b->G a b)->Paired G l₁ l₂:=fun h f=>by
 induction h with
 |nil=>exact .nil
 |cons r t ih=>exact .cons (f _ _ r) ih
def aU.stay(x:aU P w H h a o)(k:∀b u,(b=a\/H b=some (.own a))->h.get? b=some u->h'.get? b=some u)(ho:∀b,H b=some (.own a)->H' b=some (.own a))(ht:∀b xs,H b=some (.tup xs)->H' b=some (.tup xs)):aU P w H' h' a o:=by
 induction o with
 |lst xs=>obtain⟨z,qc,n,r,e⟩:=x;exact⟨z,qc,n,r,k _ _ (.inl rfl) e⟩
 |tup xs=>obtain⟨z,qc,r,ob,e,c⟩:=x;exact⟨z,qc,r,ob,k _ _ (.inl rfl) e,c⟩
 |dK qb=>obtain⟨z,y,vs,r,ob,es,ep,e,c⟩:=x;exact⟨z,y,vs,r,ob,es,ep,k _ _ (.inl rfl) e,c⟩
 |dT qb=>obtain⟨z,y,xs,r,ob,es,ep,e,c⟩:=x;exact⟨z,y,xs,Paired.mapP r fun p q z=>⟨z.1,ht _ _ z.2.1,z.2.2⟩,ob,es,ep,k _ _ (.inl rfl) e,c⟩
 |set S n=>obtain⟨ob,es,ep,t,e,c⟩:=x;exact⟨ob,es,ep,t,k _ _ (.inl rfl) e,c⟩
 |ins C dx fs=>obtain⟨d,z,ne,e,mA,⟨od,es,ep,e2,c⟩,r⟩:=x;exact⟨ho _ d,z,ne,k _ _ (.inl rfl) e,mA,⟨od,es,ep,k _ _ (.inr d) e2,c⟩,r⟩
 |own y=>obtain⟨ob,e⟩:=x;exact⟨ob,k _ _ (.inl rfl) e⟩
 |xd fs=>obtain⟨mA,⟨od,es,ep,e,c⟩,r⟩:=x;exact⟨mA,⟨od,es,ep,k _ _ (.inl rfl) e,c⟩,r⟩
 |rng lo hi=>obtain⟨t,u,v,e⟩:=x;exact⟨t,u,v,k _ _ (.inl rfl) e⟩
 |frz ob u ih=>obtain⟨e,q⟩:=x;exact⟨k _ _ (.inl rfl) e,ih q⟩
 |tbl ps=>have e:h.get? a=some {cls:=.none,data:=.fields ps}:=x;show h'.get? a=some {cls:=.none,data:=.fields ps};exact k a _ (.inl rfl) e
 |met f y=>have e:h.get? a=some (W.methodObj (.ref f) (.ref y)):=x;show h'.get? a=some (W.methodObj (.ref f) (.ref y));exact k a _ (.inl rfl) e
 |ext φ=>obtain⟨p,⟨o,e⟩,st⟩:=x;exact⟨st _ _ p fun o q=>k _ _ (.inl rfl) q,⟨o,k _ _ (.inl rfl) e⟩,st⟩
theorem HOk.lt(x:HOk P w H h)(e:H a=some o):a<h.objs.size:=(x a o e).lt
theorem HOk.fresh(x:HOk P w H h)(e:h.objs.size<=a):H a=none:=by
 cases q:H a with
 |none=>rfl
 |some u=>exact absurd (dS (x.lt q) e) (gJ _)
def HOk.kept(x:HOk P w H h)(k:∀b u,h.get? b=some u->h'.get? b=some u):HOk P w H h':=fun a o e=>(x a o e).stay (fun b u _ q=>k b u q) (fun _ q=>q) fun _ _ q=>q
theorem HOk.laid(x:HOk P w H h)(k:∀b u,h.get? b=some u->h'.get? b=some u)(hp:h.objs.size<=a)(new:aU P w (aL H a o) h' a o):HOk P w (aL H a o) h':=fun b u e=>by
 have hn:=x.fresh hp;by_cases hb:b=a
 .subst hb;rw[bN]at e;cases e;exact new
 .rw[aR hb]at e;exact(x b u e).stay (fun c v _ q=>k c v q) (fun c q=>by rw[aR (cS q hn)];exact q) fun c xs q=>by rw[aR (cS q hn)];exact q
def Rd(H:Hp)(a:Addr)(u:HO):Prop:=H a=some u\/∃o,H a=some (.frz o u)
theorem Rd.ok{P:Program}{w:World}{H:Hp}{h:Heap}{a:Addr}{u:HO}(r:Rd H a u)(x:HOk P w H h):aU P w H h a u:=by
 rcases r with r|⟨o,r⟩
 .exact x a u r
 .obtain⟨_,q⟩:=x a _ r;exact q
def Mut:a0 HO->Prop
 |some (.lst _)=>True
 |some (.dK _)=>True
 |some (.dT _)=>True
 |some (.set _ _)=>True
 |some (.ins _ _ _)=>True
 |some (.ext _)=>True
 |_=>False
theorem HOk.write(ok:HOk P w H h)(mu:Mut (H x))(he:e=x\/H e=some (.own x))(k:∀b u,b≠e->h.get? b=some u->h'.get? b=some u)(heo:∃u,h'.get? e=some u)(new:aU P w (aL H x o') h' x o'):HOk P w (aL H x o') h':=fun b u q=>by
 have nown:∀c y,H c=some (.own y)->c≠x:=fun c y r z=>by subst z;rw[r]at mu;exact mu
 have ntup:∀c xs,H c=some (.tup xs)->c≠x:=fun c xs r z=>by subst z;rw[r]at mu;exact mu
 by_cases hb:b=x
 .subst hb;rw[bN]at q;cases q;exact new
 .rw[aR hb]at q;by_cases hbe:b=e
  .have q':H b=some (.own x):=by
    rcases he with z|z
    .exact absurd (hbe.trans z) hb
    .rw[hbe];exact z
   rw[q]at q';cases q';obtain⟨v,hv⟩:=heo;exact⟨v,by rw[hbe];exact hv⟩
  .refine(ok b u q).stay (fun c v hc r=>k c v ?_ r) (fun c r=>by rw[aR (nown c b r)];exact r) fun c xs r=>by rw[aR (ntup c xs r)];exact r
   rcases hc with rfl|hc
   .exact hbe
   .rintro rfl;rcases he with z|z
    .exact nown c b hc z
    .rw[hc]at z;cases z;exact hb rfl
structure Un(fs ex:List Addr)(H H':Hp)(h h':Heap):Prop where
 keep:∀b o,h.get? b=some o->H b=none->b∉fs->b∉ex->h'.get? b=some o
 slot:∀b o,h.get? b=some o->H b=none->b∈fs->b∉ex->∃sl,h'.get? b=some {o with slots:=sl}
 free:∀b o,h.get? b=some o->H b=none->b∉ex->H' b=none
 there:∀b o,h.get? b=some o->b∉ex->∃o',h'.get? b=some o'
 tups:∀b xs,H b=some (.tup xs)->H' b=some (.tup xs)
 frzs:∀b o u,H b=some (.frz o u)->H' b=some (.frz o u)
 tbls:∀b ps,H b=some (.tbl ps)->∃gM,H' b=some (.tbl (ps++gM))
theorem Un.any(u:Un fs ex H H1 h h1){b:Addr}{ob:Obj}(q:h.get? b=some ob)(n:H b=none)(hx:b∉ex):∃sl,h1.get? b=some {ob with slots:=sl}:=by
 by_cases hb:b∈fs
 .exact u.slot b ob q n hb hx
 .exact⟨ob.slots,u.keep b ob q n hb hx⟩
theorem Un.trans(a:Un fs ex H H1 h h1)(b:Un fs ex H1 H2 h1 h2):Un fs ex H H2 h h2 where
 keep:=fun c ob q n hc hx=>b.keep c ob (a.keep c ob q n hc hx) (a.free c ob q n hx) hc hx
 slot:=fun c ob q n hc hx=>by obtain⟨sl,e1⟩:=a.slot c ob q n hc hx;obtain⟨sl',e2⟩:=b.slot c _ e1 (a.free c ob q n hx) hc hx;exact⟨sl',e2⟩
 free:=fun c ob q n hx=>by obtain⟨o',e1⟩:=a.there c ob q hx;exact b.free c o' e1 (a.free c ob q n hx) hx
 there:=fun c ob q hx=>by obtain⟨o',e1⟩:=a.there c ob q hx;exact b.there c o' e1 hx
 tups:=fun c xs q=>b.tups c xs (a.tups c xs q)
 frzs:=fun c ob xs q=>b.frzs c ob xs (a.frzs c ob xs q)
 tbls:=fun c ps q=>by obtain⟨m1,e1⟩:=a.tbls c ps q;obtain⟨m2,e2⟩:=b.tbls c _ e1;exact⟨m1++m2,by rw[e2,Array.append_assoc]⟩
theorem Un.kept(k:∀b u,h.get? b=some u->h'.get? b=some u):Un fs ex H H h h' :=
 ⟨fun b ob q _ _ _=>k b ob q,fun b ob q _ _ _=>⟨ob.slots,k b ob q⟩,fun _ _ _ n _=>n,fun b ob q _=>⟨ob,k b ob q⟩,fun _ _ q=>q,fun _ _ _ q=>q,fun _ ps q=>⟨#[],by rw[q];simp⟩⟩
def Un.refl:Un fs ex H H h h:=Un.kept fun _ _ q=>q
theorem Un.laid(k:∀b u,h.get? b=some u->h'.get? b=some u)(hp:h.objs.size<=a)(hn:H a=none):Un fs ex H (aL H a o) h h' where
 keep:=fun b u q _ _ _=>k b u q
 slot:=fun b u q _ _ _=>⟨u.slots,k b u q⟩
 free:=fun b u q n _=>by rw[aR (cL (dS (bI q) hp))];exact n
 there:=fun b u q _=>⟨u,k b u q⟩
 tups:=fun b xs q=>by rw[aR (cS q hn)];exact q
 frzs:=fun b u xs q=>by rw[aR (cS q hn)];exact q
 tbls:=fun b ps q=>⟨#[],by rw[aR (cS q hn),q];simp⟩
theorem Un.write(mu:Mut (H x))(he:e=x\/H e=some (.own x))(k:∀b u,b≠e->h.get? b=some u->h'.get? b=some u)(heo:∃u,h'.get? e=some u):Un fs ex H (aL H x o) h h':=by
 have hx:∀b,H b=none->b≠x:=fun b n z=>by subst z;rw[n]at mu;exact mu
 have hb:∀b,H b=none->b≠e:=fun b n z=>by
  subst z;rcases he with r|r
  .exact hx b n r
  .rw[n]at r;cases r
 have hm:∀b u,H b=some u->¬Mut (some u)->b≠x:=fun b u q nm z=>by subst z;rw[q]at mu;exact nm mu
 refine⟨fun b u q n _ _=>k b u (hb b n) q,fun b u q n _ _=>⟨u.slots,k b u (hb b n) q⟩,fun b u q n _=>by rw[aR (hx b n)];exact n,fun b u q _=>?_,
  fun b xs q=>by rw[aR (hm b _ q fun z=>z)];exact q,fun b u xs q=>by rw[aR (hm b _ q fun z=>z)];exact q,fun b ps q=>⟨#[],by rw[aR (hm b _ q fun z=>z),q];simp⟩⟩
 by_cases hbe:b=e
 .subst hbe;exact heo
 .exact⟨u,k b u hbe q⟩
def Un.mono(u:Un fs ex H H1 h h1)(hs:∀b∈fs,b∈fs')(hx:∀b∈ex,b∈ex'):Un fs' ex' H H1 h h1 :=
 ⟨fun b ob q n hb he=>u.keep b ob q n (fun z=>hb (hs b z)) fun z=>he (hx b z),fun _ _ q n _ he=>u.any q n fun z=>he (hx _ z),fun b ob q n he=>u.free b ob q n fun z=>he (hx b z),fun b ob q he=>u.there b ob q fun z=>he (hx b z),u.tups,u.frzs,u.tbls⟩
def trk(h:Heap)(H:Hp):List Addr:=(List.range h.objs.size).filter fun a=>(H a).isSome
def kH(h:Heap)(H:Hp):Heap:=PySem.W.hideAll h (trk h H)
def KN(h:Heap)(H:Hp):(kH h H).objs.size=h.objs.size:=PySem.W.hideAll_size _ _
theorem KO(e:h.get? b=some o)(n:H b=none):(kH h H).get? b=some o :=
 PySem.W.hideAll_get _ e fun hm=>by have q:(H b).isSome=true:=(oR.mp hm).2;rw[n]at q;simp at q
theorem KP(e:(kH h H).get? b=some o):h.get? b=some o/\H b=none:=by
 have e':h.get? b=some o:=PySem.W.of_hideAll (trk h H) e;refine⟨e',?_⟩;cases q:H b with
 |none=>rfl
 |some x=>have hm:b∈trk h H:=oR.mpr ⟨List.mem_range.mpr (Heap.lt_size e'),by simp[q]⟩;have z:(kH h H).get? b=none:=PySem.W.hideAll_none (trk h H) hm;rw[z]at e;cases e
def KQ(g h:Heap)(L:Addr):Pq:=(List.range h.objs.size).filterMap fun a=>if a=L\/(g.get? a).isSome=true then none else(h.get? a).map fun o=>(a,o)
def rest(g h:Heap)(L d:Addr):Pq:=(KQ g h L).filter fun p=>decide (p.1≠d)
section
variable {t':Nat}{E:Vq}
structure Mod(K:W.Frag)(mg:Mq)(base:Heap):Prop where
 kin:K.In base
 glob:base.Ns mainGlobals mg
 blt:∃mb,base.Ns builtinsNs mb/\∀x:Str,x≠"__name__"->mb x=bootBuiltins x
 nolimit:base.NoLimit
structure Cx where
 prog:Program
 w:World
 K:W.Frag
 mg:Mq
 base:Heap
 A:Around
 N:List Str
 s₀:Shared
 H₀:Hp
 env:Env
 outer:List Env
 stack:List Env
 ex:List Addr
 fn:Str->Bool
 calm:Bool
 pn:Pq
 xe:Value->Shared->Prop
def frs(l:List Env):List Addr:=l.filterMap (·.frame)
abbrev Cx.fs(X:Cx):List Addr:=frs X.outer
def Vis(sc:Scope)(x:Str):Prop:=sc.names.lookup x=some .local\/sc.names.lookup x=some .cell\/sc.names.lookup x=some .free
def Loc(sc:Scope)(x:Str):Prop:=sc.names.lookup x=some .local\/sc.names.lookup x=some .cell
def Look(env:Env)(h:Heap)(m:Mq)(x:Str)(u:Value):Prop :=
 (env.kindOf x=some .local/\m x=some u)\/((env.kindOf x=some .cell\/env.kindOf x=some .free)/\∃c,env.cells.lookup x=some c/\h.IsCell c (some u))
structure Cx.Ok(X:Cx):Prop where
 mod:Mod X.K X.mg X.base
 kind:X.env.scope.kind=.function
 glob:X.env.globals=mainGlobals
 blt:X.env.builtins=builtinsNs
 above:X.s₀.heap.objs.size<=X.env.locals
 inj:∀x y c,X.env.cells.lookup x=some c->X.env.cells.lookup y=some c->x=y
 has:∀x,(X.env.kindOf x=some .cell\/X.env.kindOf x=some .free)->∃c,X.env.cells.lookup x=some c
 cab:∀x c,X.fn x=true->X.env.cells.lookup x=some c->X.s₀.heap.objs.size<=c
 hd:X.calm=true->X.A.handled=none
 frames:X.A.frames=some X.stack
 stk:X.stack=X.outer\/(X.stack=X.env::X.outer/\X.env.frame=some X.env.locals)
 exf:∀b∈X.ex,b≠X.env.locals/\∀x c,X.env.cells.lookup x=some c->c≠b
 bs:∀b o,X.base.get? b=some o->X.s₀.heap.get? b=some o/\X.H₀ b=none
 bsz:X.base.objs.size<=X.s₀.heap.objs.size
 noex:∀b o,X.base.get? b=some o->b∉X.ex
 exfs:∀b∈X.ex,b∉X.fs
 funs:X.s₀.heap.FunFrames X.base X.outer
 frf:∀b∈X.fs,X.H₀ b=none
structure Inv(X:Cx)(pj:Pq)(O:List (Option V))(H:Hp)(s:Shared):Prop where
 ok:X.Ok
 os:s.os=X.s₀.os
 bare:AllBare s.gens
 base:Un X.fs X.ex X.H₀ H X.s₀.heap s.heap
 loc:∃m,s.heap.Ns X.env.locals m/\∀(i:Nat)(x:Str)(v:V),X.N[i]?=some x->O[i]?=some (some v)->Vis X.env.scope x->∃u,aG v u/\Look X.env s.heap m x u
 cell:∀x c,X.env.cells.lookup x=some c->∃v,s.heap.IsCell c v
 free:H X.env.locals=none
 freeC:∀x c,X.env.cells.lookup x=some c->H c=none
 pin:∀p∈X.pn++pj,s.heap.get? p.1=some p.2/\H p.1=none/\p.1≠X.env.locals/\p.1∉X.fs/\∀v,p.2.data≠.cell v
 hok:HOk X.prog X.w H s.heap
 len:O.length=X.N.length
section
variable {X:Cx}{pj:Pq}{O:List (a0 V)}{H H':Hp}{s:Shared}{h':Heap}
theorem Cx.Ok.nofr(ok:X.Ok)(e:X.base.get? b=some o):b∉X.fs:=fun hb=>by have:=(ok.funs.mem hb).1;rw[e]at this;cases this
theorem Inv.bs(I:Inv X pj O H s):∀b o,X.base.get? b=some o->s.heap.get? b=some o/\H b=none:=fun b o e=>⟨I.base.keep b o (I.ok.bs b o e).1 (I.ok.bs b o e).2 (I.ok.nofr e) (I.ok.noex b o e),I.base.free b o (I.ok.bs b o e).1 (I.ok.bs b o e).2 (I.ok.noex b o e)⟩
def Inv.bk(I:Inv X pj O H s):∀b o,X.base.get? b=some o->s.heap.get? b=some o:=fun b o e=>(I.bs b o e).1
theorem Inv.mod(I:Inv X pj O H s):Mod X.K X.mg X.base:=I.ok.mod
def Inv.kIn(I:Inv X pj O H s):X.K.In s.heap:=I.ok.mod.kin.keeps I.bk
def Inv.fr(I:Inv X pj O H s):∃m,Fr X.base X.env.locals s.heap m :=
 let⟨m,hn,_⟩:=I.loc
 ⟨m,hn,I.bk,dY I.ok.bsz I.ok.above⟩
theorem Inv.lt(I:Inv X pj O H s):X.env.locals<s.heap.objs.size:=let⟨_,hn,_⟩:=I.loc;hn.lt
def Inv.sz(I:Inv X pj O H s):X.s₀.heap.objs.size<=s.heap.objs.size:=dY I.ok.above (Nat.le_of_lt I.lt)
theorem Inv.nofs(I:Inv X pj O H s)(h:s.heap.objs.size<=a):a∉X.fs:=fun hb=>by obtain⟨_,o,ho,_⟩:=I.ok.funs.mem hb;exact absurd (dS (bI ho) (dY I.sz h)) (gJ _)
theorem Inv.cne(I:Inv X pj O H s):∀x c,X.env.cells.lookup x=some c->c≠X.env.locals:=fun x c e z=>by obtain⟨v,o,ho,hd⟩:=I.cell x c e;obtain⟨m,⟨o',es,ep,ho',hd',_⟩,_⟩:=I.loc;rw[z,ho']at ho;cases ho;rw[hd']at hd;cases hd
theorem Inv.funs(I:Inv X pj O H s):s.heap.FunFrames X.base X.outer:=by
 have all:∀(l:List Env),(∀b∈frs l,b∈X.fs)->X.s₀.heap.FunFrames X.base l->s.heap.FunFrames X.base l:=by
  intro l
  induction l with
  |nil=>intro _ _;trivial
  |cons env r ih=>rintro hs⟨hk,⟨L,o,hf,hn,ho,hd⟩,hr⟩;have hL:L∈X.fs:=hs L (by unfold frs;rw[jK,hf];exact fK);obtain⟨sl,e⟩:=I.base.slot L o ho (I.ok.frf L hL) hL fun z=>I.ok.exfs L z hL;exact⟨hk,⟨L,_,hf,hn,e,hd⟩,ih (fun b hb=>hs b (by unfold frs;rw[jK,hf];exact dH _ hb)) hr⟩
 exact all X.outer (fun _ hb=>hb) I.ok.funs
theorem Inv.stack(I:Inv X pj O H s):s.heap.FunFrames X.base X.stack:=by
 rcases I.ok.stk with e|⟨e,hf⟩
 .rw[e];exact I.funs
 .rw[e];obtain⟨m,hn,_⟩:=I.loc;refine .cons (by rw[I.ok.kind];decide) hf hn ?_ I.funs;exact Heap.get?_none_of_le (dY I.ok.bsz I.ok.above)
theorem Inv.stkSub(I:Inv X pj O H s):∀b∈frs X.stack,b∈X.env.locals::X.fs:=fun b hb=>by
 rcases I.ok.stk with e|⟨e,hf⟩
 .rw[e]at hb;exact dH _ hb
 .rw[e]at hb;unfold frs at hb;rw[jK,hf]at hb;exact hb
theorem Inv.stkFree(I:Inv X pj O H s):∀b∈frs X.stack,H b=none:=fun b hb=>by
 rcases omc (I.stkSub b hb)with e|hb
 .rw[e];exact I.free
 .obtain⟨_,o,ho,_⟩:=I.ok.funs.mem hb;exact I.base.free b o ho (I.ok.frf b hb) fun z=>I.ok.exfs b z hb
theorem Inv.step{g':Array GenState}{d':Drawn}{ch:List Addr}(I:Inv X pj O H s)(hch:∀b∈ch,(b∈X.ex\/X.s₀.heap.objs.size<=b)/\b≠X.env.locals/\(∀x c,X.env.cells.lookup x=some c->c≠b)/\∀p∈X.pn++pj,p.1≠b)(keep:∀b o,b≠X.env.locals->b∉X.fs->b∉ch->s.heap.get? b=some o->H b=none->h'.get? b=some o)(slot:∀b o,b≠X.env.locals->b∈X.fs->b∉ch->s.heap.get? b=some o->H b=none->∃sl,h'.get? b=some {o with slots:=sl})(free:∀b o,b∉ch->s.heap.get? b=some o->H b=none->H' b=none)(there:∀b o,b∉ch->s.heap.get? b=some o->∃o',h'.get? b=some o')(tups:∀b xs,H b=some (.tup xs)->H' b=some (.tup xs))(frzs:∀b o u,H b=some (.frz o u)->H' b=some (.frz o u))(tbls:∀b ps,H b=some (.tbl ps)->∃gM,H' b=some (.tbl (ps++gM)))(ns:∀m,s.heap.Ns X.env.locals m->h'.Ns X.env.locals m)(hok:HOk X.prog X.w H' h')(hg:AllBare g'):Inv X pj O H' {s with heap:=h',gens:=g',drawn:=d',toks:=t'}:=by
 have neL:∀b o,X.s₀.heap.get? b=some o->b≠X.env.locals:=fun b o e=>cL (dS (bI e) I.ok.above);have neC:∀b o,X.s₀.heap.get? b=some o->b∉X.ex->b∉ch:=fun b o e hx hb=>by
  rcases(hch b hb).1 with z|z
  .exact hx z
  .exact absurd (dS (bI e) z) (gJ _)
 have cellK:∀x c,X.env.cells.lookup x=some c->∀v,s.heap.IsCell c v->h'.IsCell c v:=fun x c e v ⟨o,ho,hd⟩=>by
  have nch:c∉ch:=fun z=>(hch c z).2.2.1 x c e rfl;by_cases hc:c∈X.fs
  .obtain⟨sl,q⟩:=slot c o (I.cne x c e) hc nch ho (I.freeC x c e);exact⟨_,q,hd⟩
  .exact⟨o,keep c o (I.cne x c e) hc nch ho (I.freeC x c e),hd⟩
 refine⟨I.ok,I.os,hg,⟨fun b o e n hb hx=>?_,fun b o e n hb hx=>?_,fun b o e n hx=>?_,fun b o e hx=>?_,fun b xs e=>tups b xs (I.base.tups b xs e),fun b o xs e=>frzs b o xs (I.base.frzs b o xs e),fun b ps e=>?_⟩,?_,fun x c e=>?_,?_,fun x c e=>?_,fun p hp=>?_,hok,I.len⟩
 .exact keep b o (neL b o e) hb (neC b o e hx) (I.base.keep b o e n hb hx) (I.base.free b o e n hx)
 .obtain⟨sl,e1⟩:=I.base.slot b o e n hb hx;obtain⟨sl',e2⟩:=slot b _ (neL b o e) hb (neC b o e hx) e1 (I.base.free b o e n hx);exact⟨sl',e2⟩
 .obtain⟨o',e1⟩:=I.base.there b o e hx;exact free b o' (neC b o e hx) e1 (I.base.free b o e n hx)
 .obtain⟨o',e1⟩:=I.base.there b o e hx;exact there b o' (neC b o e hx) e1
 .obtain⟨m1,e1⟩:=I.base.tbls b ps e;obtain⟨m2,e2⟩:=tbls b _ e1;exact⟨m1++m2,by rw[e2,Array.append_assoc]⟩
 .obtain⟨m,hn,hl⟩:=I.loc;refine⟨m,ns m hn,fun i x v e1 e2 e3=>?_⟩;obtain⟨u,r,l⟩:=hl i x v e1 e2 e3;refine⟨u,r,?_⟩;rcases l with l|⟨k,c,e,z⟩
  .exact .inl l
  .exact .inr ⟨k,c,e,cellK x c e _ z⟩
 .obtain⟨v,z⟩:=I.cell x c e;exact⟨v,cellK x c e v z⟩
 .obtain⟨m,⟨o,_,_,ho,_⟩,_⟩:=I.loc;exact free _ o (fun z=>(hch _ z).2.1 rfl) ho I.free
 .obtain⟨v,o,ho,hd⟩:=I.cell x c e;exact free c o (fun z=>(hch c z).2.2.1 x c e rfl) ho (I.freeC x c e)
 .obtain⟨e,n,ne,nf,d⟩:=I.pin p hp;have nch:p.1∉ch:=fun z=>(hch p.1 z).2.2.2 p hp rfl;exact⟨keep p.1 p.2 ne nf nch e n,free p.1 p.2 nch e n,ne,nf,d⟩
theorem Inv.un(I:Inv X pj O H s)(u:Un X.fs [] H H' s.heap h')(hok:HOk X.prog X.w H' h'):Inv X pj O H' {s with heap:=h',toks:=t'}:=by
 obtain⟨m,⟨o,es,ep,ho,r⟩,_⟩:=id I.loc;obtain⟨sl,hL⟩:=u.any ho I.free (by simp);exact I.step (g':=s.gens) (d':=s.drawn) (ch:=[]) (fun _ z=>nomatch z) (fun b o _ hb _ e n=>u.keep b o e n hb (by simp)) (fun b o _ hb _ e n=>u.slot b o e n hb (by simp)) (fun b o _ e n=>u.free b o e n (by simp)) (fun b o _ e=>u.there b o e (by simp)) u.tups u.frzs u.tbls (fun m' hm=>by obtain⟨o',es',ep',ho',r'⟩:=hm;rw[ho]at ho';cases ho';exact⟨_,es',ep',hL,r'⟩) hok I.bare
theorem Inv.call{g':Array GenState}{d':Drawn}{ch:List Addr}(I:Inv X pj O H s)(u:Un (frs X.stack) ch H H' s.heap h')(hok:HOk X.prog X.w H' h')(hg:AllBare g')(hch:∀b∈ch,(b∈X.ex\/X.s₀.heap.objs.size<=b)/\b≠X.env.locals/\(∀x c,X.env.cells.lookup x=some c->c≠b)/\∀p∈X.pn++pj,p.1≠b):Inv X pj O H' {s with heap:=h',gens:=g',drawn:=d',toks:=t'}:=by
 obtain⟨m,⟨o,es,ep,ho,r⟩,_⟩:=id I.loc;obtain⟨sl,hL⟩:=u.any ho I.free fun z=>(hch _ z).2.1 rfl;exact I.step (ch:=ch) hch (fun b o hL hb hc e n=>u.keep b o e n (fun z=>(omc (I.stkSub b z)).elim hL hb) hc) (fun b o _ _ hc e n=>u.any e n hc) (fun b o hc e n=>u.free b o e n hc) (fun b o hc e=>u.there b o e hc) u.tups u.frzs u.tbls (fun m' hm=>by obtain⟨o',es',ep',ho',r'⟩:=hm;rw[ho]at ho';cases ho';exact⟨_,es',ep',hL,r'⟩) hok hg
theorem Inv.turned{it:Addr}(I:Inv X pj O H s)(k:∀b o,b≠it->s.heap.get? b=some o->h'.get? b=some o)(hn:H it=none)(hL:it≠X.env.locals)(h1:it∈X.ex\/X.s₀.heap.objs.size<=it)(h2:∀x c,X.env.cells.lookup x=some c->c≠it)(h3:∀p∈X.pn++pj,p.1≠it):Inv X pj O H {s with heap:=h',toks:=t'}:=by
 have nit:∀b u,H b=some u->b≠it:=fun b u e z=>by rw[z,hn]at e;cases e
 refine I.step (g':=s.gens) (d':=s.drawn) (ch:=[it]) (fun b hb=>?_) (fun b o _ _ hc e _=>k b o (fun z=>hc (by simp[z])) e) (fun b o _ _ hc e _=>⟨o.slots,k b o (fun z=>hc (by simp[z])) e⟩) (fun _ _ _ _ n=>n)
  (fun b o hc e=>⟨o,k b o (fun z=>hc (by simp[z])) e⟩) (fun _ _ e=>e) (fun _ _ _ e=>e) (fun b ps e=>⟨#[],by rw[e];simp⟩) (fun m hm=>?_) (fun b u e=>?_) I.bare
 .have e:b=it:=by simpa using hb
  subst e;exact⟨h1,hL,h2,h3⟩
 .obtain⟨o,es,ep,ho,r⟩:=hm;exact⟨o,es,ep,k _ o (Ne.symm hL) ho,r⟩
 .refine(I.hok b u e).stay (fun c v hc q=>k c v ?_ q) (fun _ q=>q) fun _ _ q=>q;rcases hc with z|z
  .rw[z];exact nit b u e
  .exact nit c _ z
def Inv.tok(I:Inv X pj O H s)(t:Nat):Inv X pj O H {s with toks:=t}:=I.un (h':=s.heap) (t':=t) Un.refl I.hok
theorem Inv.kept(I:Inv X pj O H s)(k:∀b u,s.heap.get? b=some u->h'.get? b=some u):Inv X pj O H {s with heap:=h',toks:=t'}:=I.un (Un.kept k) (I.hok.kept k)
theorem Inv.laid{a:Addr}{o:HO}{t':Nat}(I:Inv X pj O H s)(k:∀b u,s.heap.get? b=some u->h'.get? b=some u)(hp:s.heap.objs.size<=a)(new:aU X.prog X.w (aL H a o) h' a o):Inv X pj O (aL H a o) {s with heap:=h',toks:=t'}:=I.un (Un.laid k hp (I.hok.fresh hp)) (I.hok.laid k hp new)
theorem Inv.write{x e:Addr}{o:HO}{t':Nat}(I:Inv X pj O H s)(mu:Mut (H x))(he:e=x\/H e=some (.own x))(k:∀b u,b≠e->s.heap.get? b=some u->h'.get? b=some u)(heo:∃u,h'.get? e=some u)(new:aU X.prog X.w (aL H x o) h' x o):Inv X pj O (aL H x o) {s with heap:=h',toks:=t'}:=I.un (Un.write mu he k heo) (I.hok.write mu he k heo new)
def Inv.pins_of(I:Inv X pj O H s)(h:∀p∈pins',s.heap.get? p.1=some p.2/\H p.1=none/\p.1≠X.env.locals/\p.1∉X.fs/\∀v,p.2.data≠.cell v):Inv X pins' O H s :=
 ⟨I.ok,I.os,I.bare,I.base,I.loc,I.cell,I.free,I.freeC,fun p hp=>(oma hp).elim (fun z=>I.pin p (List.mem_append_left _ z)) (h p),I.hok,I.len⟩
def vB{N:List Str}(hN:N.Nodup){i j:Nat}{x:Str}(a:N[i]?=some x)(b:N[j]?=some x):i=j:=by obtain⟨h1,e1⟩:=ome a;obtain⟨h2,e2⟩:=ome b;exact(List.getElem_inj hN).mp (e1.trans e2.symm)
theorem AH{M:Model}{A:Around}{i:Nat}{x:Str}{v:V}{u:Value}{Q:Unit->Shared->Prop}(I:Inv X pj O H s)(hN:X.N.Nodup)(hi:X.N[i]?=some x)(hx:Loc X.env.scope x)(r:aG v u)(h:∀s',Inv X pj (O.set i (some v)) H s'->(∃a,Heap.SameBut a s.heap s'.heap/\(a=X.env.locals\/X.env.cells.lookup x=some a))->Q () s')(hf:X.fn x=true\/X.env.scope.names.lookup x=some .local:=by first|exact .inl rfl|exact .inr rfl|assumption):wpAny M A (storeName X.env x u) Q E s:=by
 obtain⟨m,hn,hl⟩:=id I.loc;have hcls:(X.env.scope.kind==.class||(X.env.scope.kind==.module&&X.env.locals != X.env.globals))=false:=by rw[I.ok.kind];rfl
 have hiO:i<O.length:=by rw[I.len];exact(ome hi).1
 have cne:=I.cne;have tracked:∀{a:Addr}{h':Heap},(∃o,s.heap.get? a=some o/\H a=none)->Heap.SameBut a s.heap h'->HOk X.prog X.w H h':=fun{a h'}ha hs b ob e=>by
  obtain⟨_,_,hfree⟩:=ha;refine(I.hok b ob e).stay (fun c w' hc q=>(hs.2 c ?_).trans q) (fun _ q=>q) fun _ _ q=>q;rintro rfl;rcases hc with rfl|hc
  .rw[hfree]at e;cases e
  .rw[hfree]at hc;cases hc
 rcases hx with hk|hk
 .refine wpAny_storeName_local hk hn (fun h' hn' hs=>?_) hcls;obtain⟨oL,_,_,hoL,_⟩:=id hn;refine h _ ⟨I.ok,I.os,I.bare,⟨fun b o e n hb hx=>?_,fun b o e n hb hx=>?_,I.base.free,fun b o e hx=>?_,I.base.tups,I.base.frzs,I.base.tbls⟩,⟨_,hn',fun j y v' e1 e2 e3=>?_⟩,fun y c e=>?_,I.free,I.freeC,fun p hp=>?_,tracked ⟨oL,hoL,I.free⟩ hs,by simpa using I.len⟩ ⟨_,hs,.inl rfl⟩
  .exact(hs.2 b (cL (dS (bI e) I.ok.above))).trans (I.base.keep b o e n hb hx)
  .obtain⟨sl,e1⟩:=I.base.slot b o e n hb hx;exact⟨sl,(hs.2 b (cL (dS (bI e) I.ok.above))).trans e1⟩
  .obtain⟨o',e1⟩:=I.base.there b o e hx;exact⟨o',(hs.2 b (cL (dS (bI e) I.ok.above))).trans e1⟩
  .by_cases hj:j=i
   .subst hj;rw[hi]at e1;cases e1;rw[jZ hiO]at e2;cases e2;exact⟨u,r,.inl ⟨hk,by simp⟩⟩
   .rw[hX (Ne.symm hj)]at e2;obtain⟨u',r',q⟩:=hl j y v' e1 e2 e3;refine⟨u',r',?_⟩;rcases q with⟨k,e⟩|⟨k,c,e,z⟩
    .refine .inl ⟨k,?_⟩;have:y≠x:=fun e=>hj (vB hN e1 (e▸hi));simp[this,e]
    .exact .inr ⟨k,c,e,z.sameBut hs (cne y c e)⟩
  .obtain⟨w',z⟩:=I.cell y c e;exact⟨w',z.sameBut hs (cne y c e)⟩
  .obtain⟨e,n,ne,nf,d⟩:=I.pin p hp;exact⟨(hs.2 p.1 ne).trans e,n,ne,nf,d⟩
 .have hfn:X.fn x=true:=by
   rcases hf with z|z
   .exact z
   .rw[z]at hk;cases hk
  obtain⟨c,hc⟩:=I.ok.has x (.inl hk);obtain⟨w',z⟩:=I.cell x c hc;refine wpAny_storeName_cell I.ok.kind hk hc z (fun h' hc' hs=>?_);obtain⟨oc,hoc,hocd⟩:=id z;refine h {s with heap:=h'} ⟨I.ok,I.os,I.bare,⟨fun b o e n hb hx=>?_,fun b o e n hb hx=>?_,I.base.free,fun b o e hx=>?_,I.base.tups,I.base.frzs,I.base.tbls⟩,⟨m,hn.sameBut hs (Ne.symm (cne x c hc)),fun j y v' e1 e2 e3=>?_⟩,fun y c' e=>?_,I.free,I.freeC,fun p hp=>?_,tracked ⟨oc,hoc,I.freeC x c hc⟩ hs,by simpa using I.len⟩ ⟨c,hs,.inr hc⟩
  .exact(hs.2 b (cL (dS (bI e) (I.ok.cab x c hfn hc)))).trans (I.base.keep b o e n hb hx)
  .obtain⟨sl,e1⟩:=I.base.slot b o e n hb hx;exact⟨sl,(hs.2 b (cL (dS (bI e) (I.ok.cab x c hfn hc)))).trans e1⟩
  .obtain⟨o',e1⟩:=I.base.there b o e hx;exact⟨o',(hs.2 b (cL (dS (bI e) (I.ok.cab x c hfn hc)))).trans e1⟩
  .by_cases hj:j=i
   .subst hj;rw[hi]at e1;cases e1;rw[jZ hiO]at e2;cases e2;exact⟨u,r,.inr ⟨.inl hk,c,hc,hc'⟩⟩
   .rw[hX (Ne.symm hj)]at e2;obtain⟨u',r',q⟩:=hl j y v' e1 e2 e3;refine⟨u',r',?_⟩;rcases q with q|⟨k,c',e,z'⟩
    .exact .inl q
    .refine .inr ⟨k,c',e,z'.sameBut hs ?_⟩;rintro rfl;exact hj (vB hN e1 (I.ok.inj _ _ _ e hc▸hi))
  .by_cases hcc:c'=c
   .subst hcc;exact⟨_,hc'⟩
   .obtain⟨w2,z2⟩:=I.cell y c' e;exact⟨w2,z2.sameBut hs hcc⟩
  .obtain⟨e,n,ne,nf,d⟩:=I.pin p hp;refine⟨(hs.2 p.1 ?_).trans e,n,ne,nf,d⟩;intro q;rw[q,hoc]at e;have q':oc=p.2:=dU e;exact d w' (by rw[<-q'];exact hocd)
def vC(I:Inv X pj O H s)(hN:X.N.Nodup)(hi:X.N[i]?=some x)(hx:Loc X.env.scope x)(r:aG v u)(h:∀s',Inv X pj (O.set i (some v)) H s'->Q () s')(hf:X.fn x=true\/X.env.scope.names.lookup x=some .local:=by first|exact .inl rfl|exact .inr rfl|assumption):wpAny M A (storeName X.env x u) Q E s :=
 AH I hN hi hx r (fun s' I' _=>h s' I') hf
def Inv.call'(I:Inv X pj O H s)(ho:s'.os=s.os)(u:Un (frs X.stack) ch H H' s.heap s'.heap)(hok:HOk X.prog X.w H' s'.heap)(hg:AllBare s'.gens)(hch:∀b∈ch,(b∈X.ex\/X.s₀.heap.objs.size<=b)/\b≠X.env.locals/\(∀x c,X.env.cells.lookup x=some c->c≠b)/\∀p∈X.pn++pj,p.1≠b):Inv X pj O H' s':=by
 obtain⟨h',g',d',t',o'⟩:=s';have e:o'=s.os:=ho;subst e;exact I.call (g':=g') (t':=t') (d':=d') u hok hg hch
end
abbrev XK:=Value->a0 Addr->Hp->Prop
abbrev St:=List (a0 V)
abbrev VK:=V->Hp->Prop
abbrev TE:=St->Hp->VK->Prop
abbrev TT:=St->Hp->(Bool->Hp->Prop)->Prop
abbrev TA:=St->Hp->(List V->Hp->Prop)->Prop
structure Ends where
 nx:St->Hp->Prop
 rt:VK
 bk:St->Hp->Prop:=fun _ _=>False
 ct:St->Hp->Prop:=fun _ _=>False
abbrev TS:=Ends->St->Hp->Prop
def EP(X:Cx)(pj:Pq)(O:St)(Q:VK)(u:Value)(s':Shared):Prop:=∃v H',Inv X pj O H' s'/\aG v u/\Q v H'
def TP(X:Cx)(pj:Pq)(O:St)(Q:Bool->Hp->Prop)(b:Bool)(s':Shared):Prop:=∃H',Inv X pj O H' s'/\Q b H'
def AP(X:Cx)(pj:Pq)(O:St)(Q:List V->Hp->Prop)(us:List Value)(s':Shared):Prop:=∃vs H',Inv X pj O H' s'/\aJ vs us/\Q vs H'
def SP(X:Cx)(pj:Pq)(D:Ends)(f:Flow)(s':Shared):Prop :=
 match f with
 |.next=>∃O' H',Inv X pj O' H' s'/\D.nx O' H'
 |.brk=>∃O' H',Inv X pj O' H' s'/\D.bk O' H'
 |.cont=>∃O' H',Inv X pj O' H' s'/\D.ct O' H'
 |.ret u=>∃v O' H',Inv X pj O' H' s'/\aG v u/\D.rt v H'
def PE(X:Cx)(e:Expr)(t:TE):Prop :=
 ∀(pj:Pq)(s:Shared)(O:St)(H:Hp)(Q:VK),Inv X pj O H s->t O H Q->wpAny (model X.prog X.w) X.A (eval e X.env) (EP X pj O Q) X.xe s
def PT(X:Cx)(e:Expr)(t:TT):Prop :=
 ∀(pj:Pq)(s:Shared)(O:St)(H:Hp)(Q:Bool->Hp->Prop),Inv X pj O H s->t O H Q->wpAny (model X.prog X.w) X.A (isTrue e X.env (eval e X.env)) (TP X pj O Q) X.xe s
def PW(X:Cx)(e:Expr)(t:TT):Prop :=
 ∀(whole:Sem Value)(pj:Pq)(s:Shared)(O:St)(H:Hp)(Q:Bool->Hp->Prop),Inv X pj O H s->t O H Q->wpAny (model X.prog X.w) X.A (isTrue e X.env whole) (TP X pj O Q) X.xe s
def PW.pt(h:PW X e t):PT X e t:=h _
def PA(X:Cx)(es:List Expr)(t:TA):Prop :=
 ∀(pos:Pos)(pj:Pq)(s:Shared)(O:St)(H:Hp)(Q:List V->Hp->Prop),Inv X pj O H s->t O H Q->wpAny (model X.prog X.w) X.A (spliced (backTo pos (starEach es X.env))) (AP X pj O Q) X.xe s
def PS(X:Cx)(st:Stmt)(t:TS):Prop :=
 ∀(pj:Pq)(s:Shared)(O:St)(H:Hp)(D:Ends),Inv X pj O H s->t D O H->wpAny (model X.prog X.w) X.A (exec st X.env) (SP X pj D) X.xe s
def PSs(X:Cx)(st:List Stmt)(t:TS):Prop :=
 ∀(pj:Pq)(s:Shared)(O:St)(H:Hp)(D:Ends),Inv X pj O H s->t D O H->wpAny (model X.prog X.w) X.A (execs st X.env) (SP X pj D) X.xe s
def thn{α:Type}{t:Sem α}{Q Q':α->Shared->Prop}{M:Model}{A:Around}{s:Shared}(h:wpAny M A t Q E s)(hQ:∀a s,Q a s->Q' a s):wpAny M A t Q' E s:=gK h hQ fun _ _ x=>x
end
section
variable {X:Cx}
def nP(i:Nat):TE:=fun O H Q=>∃v,O[i]?=some (some v)/\Q v H
def tC(v:V):TE:=fun _ H Q=>Q v H
theorem kI(hN:X.N[i]?=some x)(hv:Vis X.env.scope x)(hd:(x==("__debug__":Str))=false:=by decide)(hcd:(x==("__classdict__":Str))=false:=by decide):PE X (.Name x pos) (nP i):=by
 rintro pj s O H Q I⟨v,e,h⟩;obtain⟨m,hn,hl⟩:=I.loc;obtain⟨u,r,l⟩:=hl i x v hN e hv;have fin:EP X pj O Q u s:=⟨v,H,I,r,h⟩;rcases l with⟨hk,hm⟩|⟨hk,c,hc,hcell⟩
 .exact wpAny_Name (wpAny_loadName_local I.ok.kind hk hn hm fin) hd
 .rcases hk with hk|hk
  .exact wpAny_Name (wpAny_loadName_cell I.ok.kind hk hc hcell fin) hd
  .exact wpAny_Name (wpAny_loadName_free I.ok.kind hk hc hcell fin hcd) hd
def rH{i j pos}:PE X (.Constant (.int i) j pos) (tC (.int i)):=fun _ _ _ H _ I h=>wpAny_Constant_int ⟨.int i,H,I.tok _,⟨_,rfl⟩,h⟩
def vD{b j pos}:PE X (.Constant (.bool b) j pos) (tC (.bl b)):=fun _ _ _ H _ I h=>Constant_bool ⟨.bl b,H,I,rfl,h⟩
def KR{j pos}:PE X (.Constant .none j pos) (tC .non):=fun _ _ _ H _ I h=>Constant_none ⟨.non,H,I,rfl,h⟩
def oX{x j pos}:PE X (.Constant (.str x) j pos) (tC (.str x)):=fun _ _ _ H _ I h=>Calls.Constant_str ⟨.str x,H,I.tok _,⟨_,rfl⟩,h⟩
def Gl(X:Cx)(x:Str):Prop:=X.env.kindOf x=some .globalImplicit
theorem oY(I:Inv X pj O H s)(hg:Gl X x)(hm:X.mg x=some u)(h:Q u s)(hd:(x==("__debug__":Str))=false:=by decide):wpAny (model X.prog X.w) X.A (eval (.Name x pos) X.env) Q E s :=
 Calls.Name_function_global I.ok.kind hg (Calls.loadGlobal_global (by rw[I.ok.glob];exact I.mod.glob.keeps I.bk) hm h) hd
theorem mH(I:Inv X pj O H s)(hg:Gl X x)(hm:X.mg x=none)(hv:bootBuiltins x=some u)(h:Q u s)(hn:x≠"__name__":=by decide)(hd:(x==("__debug__":Str))=false:=by decide):wpAny (model X.prog X.w) X.A (eval (.Name x pos) X.env) Q E s:=by
 obtain⟨mb,h1,h2⟩:=I.mod.blt;exact Calls.Name_function_global I.ok.kind hg (Calls.loadGlobal_builtin (by rw[I.ok.glob];exact I.mod.glob.keeps I.bk) hm (by rw[I.ok.blt];exact h1.keeps I.bk) ((h2 x hn).trans hv) h) hd
theorem KU(hg:Gl X x)(hm:X.mg x=some u)(r:aG v u)(hd:(x==("__debug__":Str))=false:=by decide):PE X (.Name x pos) (tC v) :=
 fun _ _ _ H _ I h=>oY I hg hm ⟨v,H,I,r,h⟩ hd
theorem vE(hg:Gl X x)(hm:X.mg x=none)(hv:bootBuiltins x=some u)(r:aG v u)(hn:x≠"__name__":=by decide)(hd:(x==("__debug__":Str))=false:=by decide):PE X (.Name x pos) (tC v) :=
 fun _ _ _ H _ I h=>mH I hg hm hv ⟨v,H,I,r,h⟩ hn hd
variable {a b:Expr}{ta tb:TE}{pos:Pos}
theorem KW(b:Expr)(h:op≠.In)(h2:op≠.NotIn):behindInMarks op b=false:=by
 have e1:(op==CmpOp.In)=false:=by cases op<;>first|rfl|exact absurd rfl h
 have e2:(op==CmpOp.NotIn)=false:=by cases op<;>first|rfl|exact absurd rfl h2
 cases b<;>simp[behindInMarks,e1,e2]
def tB(t:TE):TT:=fun O H Q=>t O H fun x H1=>∃c,x=.bl c/\Q c H1
theorem AI{t:TE}(h:PE X e t)(he:∀whole,isTrue e X.env whole=(do let v <-whole;standAt e.pos;holding [v] (truthy v)):=by intro _;rfl):PT X e (tB t):=by intro pj s O H Q I hw;refine isTrue_plain (thn (h pj s O H _ I hw) fun v s1 ⟨x,H1,I1,r1,q1⟩=>?_) (he _);obtain⟨d,rfl,q⟩:=q1;cases r1;exact wpAny_truthy_bool ⟨H1,I1,q⟩
variable {tA tB':TT}{rest:List Expr}
def tAnd(t u:TT):TT:=fun O H Q=>t O H fun c H1=>if c=true then u O H1 Q else Q false H1
def tOr(t u:TT):TT:=fun O H Q=>t O H fun c H1=>if c=true then Q true H1 else u O H1 Q
def tNot(t:TT):TT:=fun O H Q=>t O H fun c H1=>Q (!c) H1
theorem AJ(ha:PT X a tA):PW X (.BoolOp .And [a] pos) tA:=by
 intro wh pj s O H Q I h;refine isTrue_and (thn (ha pj s O H Q I h) fun c s1 e=>?_);cases c with
 |true=>exact isTrue_and_nil e
 |false=>exact e
theorem KY(ha:PT X a tA):PW X (.BoolOp .Or [a] pos) tA:=by
 intro wh pj s O H Q I h;refine isTrue_or (thn (ha pj s O H Q I h) fun c s1 e=>?_);cases c with
 |false=>exact isTrue_or_nil e
 |true=>exact e
theorem vF(ha:PT X a tA)(hb:PW X (.BoolOp .And (b::rest) pos) tB'):PW X (.BoolOp .And (a::b::rest) pos) (tAnd tA tB'):=by
 intro wh pj s O H Q I h;refine isTrue_and (thn (ha pj s O H _ I h) fun c s1 ⟨H1,I1,q1⟩=>?_);cases c with
 |true=>exact hb wh pj s1 O H1 Q I1 q1
 |false=>exact⟨H1,I1,q1⟩
theorem KZ(ha:PT X a tA)(hb:PW X (.BoolOp .Or (b::rest) pos) tB'):PW X (.BoolOp .Or (a::b::rest) pos) (tOr tA tB'):=by
 intro wh pj s O H Q I h;refine isTrue_or (thn (ha pj s O H _ I h) fun c s1 ⟨H1,I1,q1⟩=>?_);cases c with
 |true=>exact⟨H1,I1,q1⟩
 |false=>exact hb wh pj s1 O H1 Q I1 q1
def AK(ha:PT X a tA):PT X (.UnaryOp .Not a pos) (tNot tA):=by intro pj s O H Q I h;exact isTrue_not (ha pj s O H (fun c H1=>Q (!c) H1) I h)
def LA(ta tb:TE):TE:=fun O H Q=>ta O H fun x H1=>∃c,x=.bl c/\if c=true then tb O H1 Q else Q (.bl false) H1
def tOrV(ta tb:TE):TE:=fun O H Q=>ta O H fun x H1=>∃c,x=.bl c/\if c=true then Q (.bl true) H1 else tb O H1 Q
def LB(ta:TE):TE:=fun O H Q=>ta O H fun x H1=>∃c,x=.bl c/\Q (.bl (!c)) H1
def LC{op}(h:PE X a t):PE X (.BoolOp op [a] pos) t:=fun pj s O H Q I hw=>BoolOp_one (h pj s O H Q I hw)
theorem LD(ha:PE X a ta)(hb:PE X (.BoolOp .And (b::rest) pos) tb):PE X (.BoolOp .And (a::b::rest) pos) (LA ta tb):=by
 intro pj s O H Q I h;refine BoolOp_and (thn (ha pj s O H _ I h) fun v s1 ⟨x,H1,I1,r1,q1⟩=>?_);obtain⟨c,rfl,q1⟩:=q1;cases r1;refine wpAny_truthy_bool ?_;cases c with
 |true=>exact hb pj s1 O H1 Q I1 q1
 |false=>exact⟨.bl false,H1,I1,rfl,q1⟩
theorem LE(ha:PE X a ta)(hb:PE X (.BoolOp .Or (b::rest) pos) tb):PE X (.BoolOp .Or (a::b::rest) pos) (tOrV ta tb):=by
 intro pj s O H Q I h;refine BoolOp_or (thn (ha pj s O H _ I h) fun v s1 ⟨x,H1,I1,r1,q1⟩=>?_);obtain⟨c,rfl,q1⟩:=q1;cases r1;refine wpAny_truthy_bool ?_;cases c with
 |false=>exact hb pj s1 O H1 Q I1 q1
 |true=>exact⟨.bl true,H1,I1,rfl,q1⟩
theorem LF(ha:PE X a ta):PE X (.UnaryOp .Not a pos) (LB ta):=by intro pj s O H Q I h;refine UnaryOp_ (thn (ha pj s O H _ I h) fun v s1 ⟨x,H1,I1,r1,q1⟩=>?_);obtain⟨c,rfl,q1⟩:=q1;cases r1;exact not_of (wpAny_truthy_bool ⟨.bl (!c),H1,I1,rfl,q1⟩)
end
section
variable {K:W.Frag}
def SqL(K:W.Frag)(H:Hp)(a:Addr)(xs:List V):Prop :=
 Rd H a (.lst xs) \/
  ∃(o:Obj)(qc:Array Value)(n:Nat),K.lookup a=some o/\o.cls=.type "list"/\o.dict=none/\o.data=.seq qc n/\qc.size<=sizeLine/\aJ xs qc.toList
def SqT(K:W.Frag)(H:Hp)(a:Addr)(xs:List V):Prop :=
 Rd H a (.tup xs) \/
  ∃(o:Obj)(qc:Array Value)(n:Nat),K.lookup a=some o/\o.cls=.type "tuple"/\o.data=.seq qc n/\qc.size<=sizeLine/\aJ xs qc.toList
def absV:Value->a0 V
 |.none=>some .non
 |.bool b=>some (.bl b)
 |.int i _=>some (.int i)
 |.str x _=>some (.str x)
 |.bytes b _=>some (.byt b)
 |.float b _=>some (.flt b)
 |.ref a=>some (.ref a)
 |.type n=>some (.ty n)
 |_=>none
theorem aG.abs(r:aG x u):absV u=some x:=by
 cases x with
 |non=>cases r;rfl
 |bl _=>cases r;rfl
 |int _=>obtain⟨t,rfl⟩:=r;rfl
 |str _=>obtain⟨t,rfl⟩:=r;rfl
 |byt _=>obtain⟨t,rfl⟩:=r;rfl
 |flt _=>obtain⟨t,rfl⟩:=r;rfl
 |ref _=>cases r;rfl
 |ty _=>cases r;rfl
def aG.inj{x y:V}{u:Value}(r:aG x u)(q:aG y u):x=y:=dU (r.abs.symm.trans q.abs)
theorem aJ.inj{xs ys:List V}{us:List Value}(h:aJ xs us)(h':aJ ys us):xs=ys:=by
 induction h generalizing ys with
 |nil=>cases h';rfl
 |cons r t ih=>
  cases h' with
  |cons r' t'=>rw[r.inj r',ih t']
def SqL.of(h:H a=some (.lst xs)):SqL K H a xs:=.inl (.inl h)
def SqT.of(h:H a=some (.tup xs)):SqT K H a xs:=.inl (.inl h)
theorem Inv.list(I:Inv X pj O H s)(h:SqL X.K H a xs):∃qc:List Value,aJ xs qc/\PlainL s.heap a qc.toArray/\xs.length<=sizeLine:=by
 rcases h with h|⟨o,qc,n,hk,hc,hd,hs,hz,r⟩
 .obtain⟨z,qc,n,r,e⟩:=h.ok I.hok;exact⟨qc,r,⟨_,n,e,rfl,rfl,rfl⟩,z⟩
 .refine⟨qc.toList,r,⟨o,n,I.kIn a o hk,hc,hd,by simpa using hs⟩,?_⟩;have e:=r.length;simp only[Array.length_toList]at e;lia
theorem Inv.tuple(I:Inv X pj O H s)(h:SqT X.K H a xs):∃qc:List Value,aJ xs qc/\IsTup s.heap a qc.toArray/\xs.length<=sizeLine:=by
 rcases h with h|⟨o,qc,n,hk,hc,hs,hz,r⟩
 .obtain⟨z,qc,r,p⟩:=h.ok I.hok;exact⟨qc,r,p,z⟩
 .refine⟨qc.toList,r,⟨o,I.kIn a o hk,hc,n,by simpa using hs⟩,?_⟩;have e:=r.length;simp only[Array.length_toList]at e;lia
theorem Inv.list_inj(I:Inv X pj O H s)(h:SqL X.K H a xs)(h':SqL X.K H a ys):xs=ys:=by
 obtain⟨qc,r,⟨o,n,e,_,_,d⟩,_⟩:=I.list h;obtain⟨its',r',⟨o',n',e',_,_,d'⟩,_⟩:=I.list h';rw[e]at e';cases e';rw[d]at d';injection d' with d1 _;have:qc=its':=by simpa using congrArg Array.toList d1
 subst this;exact r.inj r'
theorem Inv.tuple_inj(I:Inv X pj O H s)(h:SqT X.K H a xs)(h':SqT X.K H a ys):xs=ys:=by
 obtain⟨qc,r,⟨o,e,_,n,d⟩,_⟩:=I.tuple h;obtain⟨its',r',⟨o',e',_,n',d'⟩,_⟩:=I.tuple h';rw[e]at e';cases e';rw[d]at d';injection d' with d1 _;have:qc=its':=by simpa using congrArg Array.toList d1
 subst this;exact r.inj r'
abbrev Cx.wish(X:Cx)(E:Vq):Cx:={X with xe:=E}
abbrev Cx.nox(X:Cx):Cx:=X.wish fun _ _=>False
theorem Cx.Ok.wish{X:Cx}(ok:X.Ok)(E:Vq):(X.wish E).Ok :=
 ⟨ok.mod,ok.kind,ok.glob,ok.blt,ok.above,ok.inj,ok.has,ok.cab,ok.hd,ok.frames,ok.stk,ok.exf,ok.bs,ok.bsz,ok.noex,ok.exfs,ok.funs,ok.frf⟩
def Cx.Ok.unwish{X:Cx}{E:Vq}(ok:(X.wish E).Ok):X.Ok :=
 ⟨ok.mod,ok.kind,ok.glob,ok.blt,ok.above,ok.inj,ok.has,ok.cab,ok.hd,ok.frames,ok.stk,ok.exf,ok.bs,ok.bsz,ok.noex,ok.exfs,ok.funs,ok.frf⟩
theorem Inv.wish(I:Inv X pj O H s)(E:Vq):Inv (X.wish E) pj O H s:=⟨I.ok.wish E,I.os,I.bare,I.base,I.loc,I.cell,I.free,I.freeC,I.pin,I.hok,I.len⟩
theorem Inv.unwish(I:Inv (X.wish E) pj O H s):Inv X pj O H s:=⟨I.ok.unwish,I.os,I.bare,I.base,I.loc,I.cell,I.free,I.freeC,I.pin,I.hok,I.len⟩
theorem SP.unwish{D:Ends}{f:Flow}{s':Shared}(h:SP (X.wish E) pj D f s'):SP X pj D f s':=by
 cases f with
 |next=>obtain⟨O',H',I,q⟩:=h;exact⟨O',H',I.unwish,q⟩
 |brk=>obtain⟨O',H',I,q⟩:=h;exact⟨O',H',I.unwish,q⟩
 |cont=>obtain⟨O',H',I,q⟩:=h;exact⟨O',H',I.unwish,q⟩
 |ret u=>obtain⟨v,O',H',I,r,q⟩:=h;exact⟨v,O',H',I.unwish,r,q⟩
theorem PSs.nox{st:List Stmt}{t:TS}(h:PSs X.nox st t):PSs X st t:=fun pj s O H D I hw=>gK (h pj s O H D (I.wish _) hw) (fun _ _ q=>q.unwish) fun _ _ z=>False.elim z
section
variable {X:Cx}{st:Stmt}{rest:List Stmt}{t u:TS}{e:Expr}{te:TE}{pos:Pos}
def LG:TS:=fun D O H=>D.nx O H
def tSeq(t u:TS):TS:=fun D O H=>t {D with nx:=u D} O H
def vG:PSs X [] LG:=fun _ _ O H _ I h=>wpAny_execs_nil ⟨O,H,I,h⟩
theorem nQ(h1:PS X st t)(h2:PSs X rest u):PSs X (st::rest) (tSeq t u):=by
 intro pj s O H D I h;refine wpAny_execs_cons (thn (h1 pj s O H {D with nx:=u D} I h) fun f s1 q=>?_);cases f with
 |next=>obtain⟨O',H',I',q⟩:=q;exact h2 pj s1 O' H' D I' q
 |ret v=>exact q
 |brk=>exact q
 |cont=>exact q
theorem oZ(h1:PS X st t):PSs X [st] t:=by
 intro pj s O H D I h;refine wpAny_execs_cons (thn (h1 pj s O H D I h) fun f s1 q=>?_);cases f with
 |next=>exact wpAny_execs_nil q
 |ret v=>exact q
 |brk=>exact q
 |cont=>exact q
theorem Inv.quiet{pj:Pq}{O:St}{H:Hp}{s:Shared}(I:Inv X pj O H s):interactive X.env=false:=by simp[interactive,I.ok.kind]
def LH(te:TE):TS:=fun D O H=>te O H fun _ H1=>D.nx O H1
theorem vH(he:PE X e te)(hs:swapsWith e none pos.line X.env=pure false:=by rfl):PS X (.Expr e pos) (LH te):=by intro pj s O H D I h;exact wpAny_Expr_any (thn (he pj s O H _ I h) fun v s1 ⟨x,H1,I1,r1,q1⟩=>⟨O,H1,I1,q1⟩) I.quiet hs
def tRet(te:TE):TS:=fun D O H=>te O H D.rt
def AM(he:PE X e te):PS X (.Return (some e) pos) (tRet te):=by intro pj s O H D I h;exact wpAny_Return_some (thn (he pj s O H _ I h) fun v s1 ⟨x,H1,I1,r1,q1⟩=>⟨x,O,H1,I1,r1,q1⟩)
def tIfS(c:TT)(t u:TS):TS:=fun D O H=>c O H fun b H1=>if b=true then t D O H1 else u D O H1
theorem vI{tc:TT}(hc:PT X c tc)(ha:PSs X a t)(hb:PSs X b u):PS X (.If c a b pos) (tIfS tc t u):=by
 intro pj s O H D I h;refine wpAny_If (thn (hc pj s O H _ I h) fun d s1 ⟨H1,I1,q1⟩=>?_);cases d with
 |true=>exact ha pj s1 O H1 D I1 q1
 |false=>exact hb pj s1 O H1 D I1 q1
end
abbrev TG:=V->St->Hp->(St->Hp->Prop)->Prop
abbrev TGs:=List V->St->Hp->(St->Hp->Prop)->Prop
def PG(X:Cx)(target:Expr)(t:TG):Prop :=
 ∀(pj:Pq)(s:Shared)(O:St)(H:Hp)(v:V)(u:Value)(Q:St->Hp->Prop),Inv X pj O H s->aG v u->t v O H Q->
  wpAny (model X.prog X.w) X.A (assign target X.env u) (fun _ s'=>∃O' H',Inv X pj O' H' s'/\Q O' H') X.xe s
def PGs(X:Cx)(ts:List Expr)(t:TGs):Prop :=
 ∀(pj:Pq)(s:Shared)(O:St)(H:Hp)(vs:List V)(us:List Value)(Q:St->Hp->Prop),Inv X pj O H s->aJ vs us->t vs O H Q->
  wpAny (model X.prog X.w) X.A (assignInOrder ((assignEach ts X.env).map (·.2)) us) (fun _ s'=>∃O' H',Inv X pj O' H' s'/\Q O' H') X.xe s
abbrev TSet:=V->V->V->Hp->(Hp->Prop)->Prop
def PSet(X:Cx)(t:TSet):Prop :=
 ∀(pj:Pq)(s:Shared)(O:St)(H:Hp)(o i v:V)(ov iv u:Value)(Q:Hp->Prop),Inv X pj O H s->aG o ov->aG i iv->aG v u->t o i v H Q->
  wpAny (model X.prog X.w) X.A (setItem ov iv u) (fun _ s'=>∃H',Inv X pj O H' s'/\Q H') X.xe s
def rJ(i:Nat):TG:=fun v O H Q=>Q (O.set i (some v)) H
theorem AN(hN:X.N.Nodup)(hi:X.N[i]?=some x)(hx:Loc X.env.scope x)(hf:X.fn x=true\/X.env.scope.names.lookup x=some .local:=by first|exact .inl rfl|exact .inr rfl|assumption):PG X (.Name x pos) (rJ i):=by intro pj s O H v u Q I r h;exact wpAny_assign_Name (vC I hN hi hx r (fun s' I'=>⟨_,H,I',h⟩) hf)
def gNil:TGs:=fun vs O H Q=>vs=[]/\Q O H
def AO(t:TG)(u:TGs):TGs:=fun vs O H Q=>∃v r,vs=v::r/\t v O H fun O' H'=>u r O' H' Q
theorem LI:PGs X [] gNil:=by rintro pj s O H vs us Q I r⟨e,h⟩;subst e;cases r;exact assignInOrder_nil ⟨O,H,I,h⟩
theorem LJ{t:TG}{u:TGs}(h1:PG X e t)(h2:PGs X es u)(hs:(assignEach (e::es) X.env).map (·.2)=assign e X.env::(assignEach es X.env).map (·.2):=by rfl):PGs X (e::es) (AO t u):=by
 rintro pj s O H vs us Q I r⟨v,vr,e1,h⟩;subst e1;cases r with
 |cons r rr=>rw[hs];refine assignInOrder_cons (thn (h1 pj s O H _ _ _ I r h) fun _ s1 ⟨O1,H1,I1,q1⟩=>?_);exact h2 pj s1 O1 H1 _ _ Q I1 rr q1
def gTup(K:W.Frag)(n:Nat)(t:TGs):TG:=fun v O H Q=>∃a xs,v=.ref a/\SqT K H a xs/\xs.length=n/\t xs O H Q
theorem LK(hc:X.calm=true)(h:PGs X es t)(hn:(assignEach es X.env).length=n:=by rfl)(hst:(assignEach es X.env).findIdx? (·.1)=none:=by rfl):PG X (.Tuple es k pos) (gTup X.K n t):=by
 rintro pj s O H v u Q I r⟨a,xs,e1,hq,hl,hw⟩;subst e1;cases r;obtain⟨qc,rv,ht,hz⟩:=I.tuple hq;refine assign_Tuple_tuple (I.ok.hd hc) ht (by simp[hn,<-hl,rv.length]) hst fun h' hx=>?_;have I1:Inv X pj O H {s with heap:=h'}:=I.kept (t':=s.toks) fun b o e=>hx b o (cL (bI e)) e;exact h pj _ O H xs _ Q I1 (by simpa using rv) hw
def tAsg(te:TE)(g:TG):TS:=fun D O H=>te O H fun x H1=>g x O H1 D.nx
theorem lK{te:TE}(hN:X.N.Nodup)(hi:X.N[i]?=some x)(hx:Loc X.env.scope x)(he:PE X e te)(hs:swapsWith e (some (.Name x pos')) pos.line X.env=pure false:=by rfl)(hf:X.fn x=true\/X.env.scope.names.lookup x=some .local:=by first|exact .inl rfl|exact .inr rfl|assumption):
  PS X (.Assign [.Name x pos'] e pos) (tAsg te (rJ i)):=by
 intro pj s O H D I h;refine wpAny_Assign_Name (thn (he pj s O H _ I h) fun v s1 ⟨y,H1,I1,r1,q1⟩=>?_) hs;exact vC I1 hN hi hx r1 (fun s2 I2=>⟨_,H1,I2,q1⟩) hf
def LL(c:TT)(tb:TS):TS:=fun D O H=>∃W:Nat->St->Hp->Prop,(∃m,W m O H)/\∀m O H,W m O H->
 c O H fun b H1=>if b=true then ∃N:St->Hp->Prop,(∀O' H',N O' H'->∃m',m'<m/\W m' O' H')/\tb {D with nx:=N,ct:=N,bk:=D.nx} O H1 else D.nx O H1
theorem LM{tc:TT}{tb:TS}(hp:PassesOwn (model X.prog X.w) X.A X.env X.xe)(hc:PT X c tc)(hb:PSs X body tb):PS X (.While c body [] pos) (LL tc tb):=by
 rintro pj s O H D I⟨W,⟨m0,w0⟩,turn⟩;refine wpAny_While (codeAny_whileLoop (fun n s'=>∃O' H',Inv X pj O' H' s'/\W n O' H') ?_ m0 ⟨O,H,I,w0⟩);rintro n s1 ⟨O1,H1,I1,w1⟩;refine wpAny_passesOwn hp (thn (hc pj s1 O1 H1 _ I1 (turn n O1 H1 w1)) fun b s2 ⟨H2,I2,q2⟩=>?_);cases b with
 |true=>
  obtain⟨N,hN,q2⟩:=q2;rw[if_pos rfl];refine wpAny_passesOwn hp (thn (hb pj s2 O1 H2 _ I2 q2) fun f s3 q3=>?_);cases f with
  |next=>obtain⟨O3,H3,I3,n3⟩:=q3;obtain⟨m',hm,w3⟩:=hN O3 H3 n3;exact⟨m',hm,O3,H3,I3,w3⟩
  |cont=>obtain⟨O3,H3,I3,n3⟩:=q3;obtain⟨m',hm,w3⟩:=hN O3 H3 n3;exact⟨m',hm,O3,H3,I3,w3⟩
  |brk=>exact q3
  |ret v=>exact q3
 |false=>rw[if_neg dW];exact wpAny_execs_nil ⟨O1,H2,I2,q2⟩
structure It where
 go:Nat->Hp->Prop
 yld:Nat->Hp->V->Hp->Prop
 stop:Nat->Hp->Prop
def fX(X:Cx)(pj:Pq)(H:Hp)(b:Addr):Prop :=
 H b=none/\b≠X.env.locals/\b∉X.fs/\(b∈X.ex\/X.s₀.heap.objs.size<=b)/\(∀x c,X.env.cells.lookup x=some c->c≠b)/\∀p∈X.pn++pj,p.1≠b
theorem Inv.fpOk(I:Inv X pj O H s)(hb:s.heap.objs.size<=b)(hn:H' b=none):fX X pj H' b:=by
 refine⟨hn,Nat.ne_of_gt (dS I.lt hb),I.nofs hb,.inr (dY I.sz hb),fun x c e z=>?_,fun p hp z=>?_⟩
 .obtain⟨v,q⟩:=I.cell x c e;exact absurd (dS q.lt (by rw[z];exact hb)) (gJ _)
 .exact absurd (dS (bI (I.pin p hp).1) (by rw[z];exact hb)) (gJ _)
structure Turn(P:Program)(w:World)(K:W.Frag)(tg:Expr)(J:It)(fp:List Addr)(it:Addr)(tn:Nat->Heap->Prop):Prop where
 mem:it∈fp
 obj:∀i h,tn i h->∀b∈fp,∃o,h.get? b=some o/\∀v,o.data≠.cell v
 keep:∀i h h',tn i h->(∀b∈fp,∀o,h.get? b=some o->h'.get? b=some o)->tn i h'
 item:∀(X:Cx),X.prog=P->X.w=w->X.K=K->X.calm=true->∀(i:Nat)(pj:Pq)(s:Shared)(O:St)(H:Hp)(E:Vq),Inv X pj O H s->(∀b∈fp,fX X pj H b)->tn i s.heap->J.go i H->
  wpAny (model P w) X.A (pyNext (.ref it)) (fun r s1=>∃u,r=some u /\
   wpAny (model P w) X.A (letOwnedTupleGo tg (.ref it) u) (fun _ s2=>∃x H',Inv X pj O H' s2/\aG x u/\J.yld i H x H'/\tn (i+1) s2.heap/\∀b∈fp,H' b=none) E s1) E s
 done:∀(X:Cx),X.prog=P->X.w=w->X.K=K->X.calm=true->∀(i:Nat)(pj:Pq)(s:Shared)(O:St)(H:Hp)(E:Vq),Inv X pj O H s->(∀b∈fp,fX X pj H b)->tn i s.heap->J.stop i H->
  wpAny (model P w) X.A (pyNext (.ref it)) (fun r s1=>r=none/\Inv X pj O H s1) E s
 self:∀(A:Around)(i:Nat)(s:Shared)(Q:Vq)(E:Vq),tn i s.heap->Q (.ref it) s->wpAny (model P w) A (pyIter (.ref it)) Q E s
abbrev TI:=St->Hp->(It->Hp->Prop)->Prop
def PIE(X:Cx)(pj:Pq)(O:St)(tg:Expr)(R:It->Hp->Prop)(itv:Value)(s2:Shared):Prop :=
 ∃(it:Addr)(fp:List Addr)(tn:Nat->Heap->Prop)(J:It)(H':Hp),itv=.ref it/\Inv X pj O H' s2/\Turn X.prog X.w X.K tg J fp it tn/\tn 0 s2.heap/\(∀b∈fp,fX X pj H' b)/\R J H'
def PI(X:Cx)(tg iter:Expr)(wi:TI):Prop :=
 ∀(pj:Pq)(s:Shared)(O:St)(H:Hp)(R:It->Hp->Prop),Inv X pj O H s->wi O H R->
  wpAny (model X.prog X.w) X.A (eval iter X.env) (fun v s1=>wpAny (model X.prog X.w) X.A (pyIter v) (PIE X pj O tg R) X.xe s1) X.xe s
theorem vJ(ho:s.heap.get? it=some o)(hc:o.cls=.type n)(hd:o.data=.fields vs)(hn:["enumerate", "zip", "dict_itemiterator", "dict_reverseitemiterator", "odict_iterator", "itertools.zip_longest", "itertools.pairwise"].contains n=false)(hQ:Q () s):wpAny M A (letOwnedTupleGo tg (.ref it) u) Q E s:=by
 unfold letOwnedTupleGo;cases tg<;>first
  |exact aQ hQ
  |(cases u<;>first
    |exact aQ hQ
    |(refine aF (wpAny_load ho ?_)
      rw[hc,hd];show wpAny M A (if(["enumerate", "zip", "dict_itemiterator", "dict_reverseitemiterator", "odict_iterator", "itertools.zip_longest", "itertools.pairwise"].contains n&&vs[0]?==some (rawInt _))=true then _ else _) Q E s;rw[if_neg (by intro h;rw[hn,Bool.false_and]at h;cases h)];exact aQ hQ))
def Itl(K:W.Frag)(a:Addr):It :=
 ⟨fun i H=>∃xs x,SqL K H a xs/\xs[i]?=some x,fun i H x H'=>H'=H/\∀xs,SqL K H a xs->xs[i]?=some x,fun i H=>∃xs,SqL K H a xs/\xs.length<=i⟩
def Itt(K:W.Frag)(a:Addr):It :=
 ⟨fun i H=>∃xs x,SqT K H a xs/\xs[i]?=some x,fun i H x H'=>H'=H/\∀xs,SqT K H a xs->xs[i]?=some x,fun i H=>∃xs,SqT K H a xs/\xs.length<=i⟩
def Itr(lo:Int)(n:Nat):It:=⟨fun i _=>i<n,fun i H x H'=>H'=H/\x=.int (lo+i),fun i _=>n<=i⟩
theorem LN(a it:Addr):Turn P w K tg (Itl K a) [it] it (fun i h=>h.IsListIter it a i) where
 mem:=by simp
 obj:=fun i h st b hb=>by
  have e:b=it:=by simpa using hb
  subst e;obtain⟨o,e,c,d⟩:=st;exact⟨o,e,fun v z=>by rw[d]at z;cases z⟩
 keep:=fun i h h' st k=>st.at fun o e=>k it (by simp) o e
 item:=by intro X hP hw hK hc i pj s O H E I hf st hg;subst hP hw hK;obtain⟨xs,x,hq,hx⟩:=hg;obtain⟨qc,rv,p,hz⟩:=I.list hq;obtain⟨u,hu,ru⟩:=rv.get hx;obtain⟨f0,f1,f2,f3,f4,f5⟩:=hf it (by simp);refine wpAny_pyNext_list_item st p.isList (x:=u) (by simpa using hu) fun h' st' sb=>?_;have I1:Inv X pj O H {s with heap:=h'}:=I.turned (t':=s.toks) (fun b o hb e=>(sb.2 b hb).trans e) f0 f1 f3 f4 f5;obtain⟨o,e,c,d⟩:=id st';exact⟨u,rfl,vJ (s:={s with heap:=h'}) e c d (by decide) ⟨x,H,I1,ru,⟨rfl,fun ys hy=>by rw[I.list_inj hy hq];exact hx⟩,st',fun b hb=>(hf b hb).1⟩⟩
 done:=by intro X hP hw hK hc i pj s O H E I hf st hg;subst hP hw hK;obtain⟨xs,hq,hx⟩:=hg;obtain⟨qc,rv,p,hz⟩:=I.list hq;obtain⟨f0,f1,f2,f3,f4,f5⟩:=hf it (by simp);have hl:=rv.length;exact wpAny_pyNext_list_end (I.ok.hd hc) st p.isList (by simp;lia) fun h' eb=>⟨rfl,I.turned (t':=s.toks) (fun b o hb e=>eb b o hb e) f0 f1 f3 f4 f5⟩
 self:=fun _ _ _ _ _ st h=>wpAny_pyIter_listiter st h
theorem LO(a it:Addr):Turn P w K tg (Itt K a) [it] it (fun i h=>h.IsTupleIter it a i) where
 mem:=by simp
 obj:=fun i h st b hb=>by
  have e:b=it:=by simpa using hb
  subst e;obtain⟨o,e,c,d⟩:=st;exact⟨o,e,fun v z=>by rw[d]at z;cases z⟩
 keep:=fun i h h' st k=>st.at fun o e=>k it (by simp) o e
 item:=by intro X hP hw hK hc i pj s O H E I hf st hg;subst hP hw hK;obtain⟨xs,x,hq,hx⟩:=hg;obtain⟨qc,rv,p,hz⟩:=I.tuple hq;obtain⟨u,hu,ru⟩:=rv.get hx;obtain⟨f0,f1,f2,f3,f4,f5⟩:=hf it (by simp);refine wpAny_pyNext_tuple_item st (show s.heap.IsTuple a qc.toArray from p) (x:=u) (by simpa using hu) fun h' st' sb=>?_;have I1:Inv X pj O H {s with heap:=h'}:=I.turned (t':=s.toks) (fun b o hb e=>(sb.2 b hb).trans e) f0 f1 f3 f4 f5;obtain⟨o,e,c,d⟩:=id st';exact⟨u,rfl,vJ (s:={s with heap:=h'}) e c d (by decide) ⟨x,H,I1,ru,⟨rfl,fun ys hy=>by rw[I.tuple_inj hy hq];exact hx⟩,st',fun b hb=>(hf b hb).1⟩⟩
 done:=by intro X hP hw hK hc i pj s O H E I hf st hg;subst hP hw hK;obtain⟨xs,hq,hx⟩:=hg;obtain⟨qc,rv,p,hz⟩:=I.tuple hq;obtain⟨f0,f1,f2,f3,f4,f5⟩:=hf it (by simp);have hl:=rv.length;exact wpAny_pyNext_tuple_end (I.ok.hd hc) st (show s.heap.IsTuple a qc.toArray from p) (by simp;lia) fun h' eb=>⟨rfl,I.turned (t':=s.toks) (fun b o hb e=>eb b o hb e) f0 f1 f3 f4 f5⟩
 self:=fun _ _ _ _ _ st h=>wpAny_pyIter_tupleiter st h
theorem LP(it:Addr)(lo:Int)(n:Nat):Turn P w K tg (Itr lo n) [it] it (fun i h=>IsRangeIter h it (lo+(i:Nat)*1) ((n:Int)-(i:Nat)) 1) where
 mem:=by simp
 obj:=fun i h st b hb=>by
  have e:b=it:=by simpa using hb
  subst e;exact⟨_,st,fun v z=>by have z':Data.fields _=Data.cell v:=z;cases z'⟩
 keep:=fun i h h' st k=>k it (by simp) _ st
 item:=by intro X hP hw hK hc i pj s O H E I hf st hg;subst hP hw hK;obtain⟨f0,f1,f2,f3,f4,f5⟩:=hf it (by simp);have W:=Walks.range (prog:=X.prog) (w:=X.w) (I.ok.hd hc) it lo 1 n;refine W.item i s _ _ hg st fun v h' tk hv st' kk=>?_;obtain⟨t,rfl⟩:=hv;have I1:Inv X pj O H {s with heap:=h',toks:=tk}:=I.turned (fun b o hb e=>kk b o (by simpa using hb) e) f0 f1 f3 f4 f5;refine⟨_,rfl,vJ (s:={s with heap:=h',toks:=tk}) (n:="range_iterator") st' rfl rfl (by decide) ⟨.int (lo+i),H,I1,⟨t,?_⟩,⟨rfl,rfl⟩,st',fun b hb=>(hf b hb).1⟩⟩;rw[Int.mul_one]
 done:=by intro X hP hw hK hc i pj s O H E I hf st hg;subst hP hw hK;obtain⟨f0,f1,f2,f3,f4,f5⟩:=hf it (by simp);exact wpAny_pyNext_range_end (I.ok.hd hc) st (by have:n<=i:=hg;lia) fun h' eb=>⟨rfl,I.turned (t':=s.toks) (fun b o hb e=>eb b o hb e) f0 f1 f3 f4 f5⟩
 self:=fun _ _ _ _ _ st h=>wpAny_pyIter_rangeiter st h
end
theorem LQ{pj:Pq}{O:St}{H:Hp}{s:Shared}{R:It->Hp->Prop}{E:Vq}{lo hi:Int}{t u v:Tok}{tk:Nat}(I:Inv X pj O H s)(h1 : -(2 ^ 62)<=lo)(h2:lo<2 ^ 62)(h3 : -(2 ^ 62)<=hi)(h4:hi<2 ^ 62)(q:R (Itr lo (hi-lo).toNat) H):wpAny (model X.prog X.w) X.A (pyIter (.ref s.heap.objs.size)) (PIE X pj O tg R) E {s with heap:=s.heap.push {cls:=.type "range",data:=.fields #[.int lo t,.int hi u,.int 1 v]},toks:=tk}:=by
 refine wpAny_pyIter_range (IsRange.new ..) (small_one h1 h2 h3 h4) ?_;have I1:Inv X pj O H {s with heap:=s.heap.push {cls:=.type "range",data:=.fields #[.int lo t,.int hi u,.int 1 v]},toks:=tk}:=I.kept fun b o e=>aT _ e;refine⟨(s.heap.push {cls:=.type "range",data:=.fields #[.int lo t,.int hi u,.int 1 v]}).objs.size,[(s.heap.push {cls:=.type "range",data:=.fields #[.int lo t,.int hi u,.int 1 v]}).objs.size],_,_,H,rfl,
  I1.kept (t':=tk) fun b o e=>aT _ e,LP _ lo (hi-lo).toNat,?_,fun b hb=>?_,q⟩
 .have e1:lo+((0:Nat):Int)*1=lo:=by simp
  have e2:(((hi-lo).toNat:Nat):Int)-((0:Nat):Int)=Builtin.Range.rangeSize lo hi 1:=by rw[rangeSize_one];split<;>lia
  show IsRangeIter _ _ (lo+((0:Nat):Int)*1) ((((hi-lo).toNat:Nat):Int)-((0:Nat):Int)) 1;rw[e1,e2];exact cQ _ rfl
 .have e:b=(s.heap.push {cls:=.type "range",data:=.fields #[.int lo t,.int hi u,.int 1 v]}).objs.size:=by simpa using hb
  subst e;exact I1.fpOk (bH _) (I1.hok.fresh (bH _))
def LR(ta:TA):TI:=fun O H R=>ta O H fun vs H1=>∃j:Int,vs=[.int j] /\ -(2 ^ 62)<=j/\j<2 ^ 62/\R (Itr 0 j.toNat) H1
theorem LS{a:Expr}{ta:TA}{p pos:Pos}(hg:Gl X "range")(hm:X.mg "range"=none)(ha:PA X [a] ta)(hs:starEach [a] X.env=[(false,eval a X.env)]:=by rfl):PI X tg (.Call (.Name "range" p) [a] [] pos) (LR ta):=by
 intro pj s O H R I h;refine Call_ (mH I hg hm boot_range (PyProof.Rows.callWith_type1 (thn (ha pos pj s O H _ I h) fun us s1 ⟨vs,H1,I1,r1,q1⟩=>?_) hs rfl));obtain⟨j,e,q1,q2,q⟩:=q1;subst e;cases r1 with
 |cons r rr=>cases rr;obtain⟨t,rfl⟩:=r;exact call_range_1 (LQ I1 (by lia) (by lia) q1 q2 (by simpa using q))
def tFor(wi:TI)(g:TG)(tb:TS):TS:=fun D O H=>wi O H fun J H1=>∃W:Nat->Nat->St->Hp->Prop,(∃m,W 0 m O H1)/\∀i m O H,W i m O H->
 (J.stop i H/\D.nx O H)\/(J.go i H/\∃N:St->Hp->Prop,(∀O' H',N O' H'->∃m',m'<m/\W (i+1) m' O' H')/\∀x H',J.yld i H x H'->g x O H' fun O2 H2=>tb {D with nx:=N,ct:=N,bk:=D.nx} O2 H2)
def pA(fp:List Addr)(h:Heap):Pq:=fp.filterMap fun b=>(h.get? b).map fun o=>(b,o)
theorem rK(hb:b∈fp)(e:h.get? b=some o):(b,o)∈pA fp h:=kD.mpr ⟨b,hb,by rw[e];rfl⟩
theorem LT(hp:p∈pA fp h):p.1∈fp/\h.get? p.1=some p.2:=by
 obtain⟨b,hb,e⟩:=kD.mp hp;cases q:h.get? b with
 |none=>rw[q]at e;cases e
 |some o=>rw[q]at e;have e':(b,o)=p:=dU e;subst e';exact⟨hb,q⟩
theorem Inv.pinned(I:Inv X pj O H s)(hf:∀b∈fp,fX X pj H b)(ho:∀b∈fp,∃o,s.heap.get? b=some o/\∀v,o.data≠.cell v):Inv X (pj++pA fp s.heap) O H s :=
 I.pins_of fun p hp=>(oma hp).elim (fun z=>I.pin p (iL _ z)) fun z=>by obtain⟨hb,e⟩:=LT z;obtain⟨f0,f1,f2,_⟩:=hf p.1 hb;obtain⟨o,e',d⟩:=ho p.1 hb;rw[e]at e';cases e';exact⟨e,f0,f1,f2,d⟩
def Inv.unpinned(I:Inv X (pj++pl) O H s):Inv X pj O H s:=I.pins_of fun p hp=>I.pin p (iL _ (List.mem_append_left _ hp))
theorem LU{wi:TI}{g:TG}{tb:TS}(hp:PassesOwn (model X.prog X.w) X.A X.env X.xe)(hc:X.calm=true)(hi:PI X tg iter wi)(hg:PG X tg g)(hb:PSs X body tb)(hs:∀x,foldedSetIterable iter X.env x=pure x:=by intro _;rfl):PS X (.For tg iter body [] pos) (tFor wi g tb):=by
 intro pj s O H D I h;refine wpAny_For (thn (hi pj s O H _ I h) fun v s1 h1=>thn h1 fun itv s2 h2=>?_) hs;obtain⟨it,fp,tn,J,H2,e,I2,T,st2,f2,W,⟨m0,w0⟩,turn⟩:=h2;subst e;have stat:∀{H':Hp},(∀b∈fp,H' b=none)->∀b∈fp,fX X pj H' b:=fun hn b hb=>⟨hn b hb,(f2 b hb).2⟩;refine codeAny_forLoop_any (fun n s'=>∃i O' H',Inv X pj O' H' s'/\tn i s'.heap/\(∀b∈fp,H' b=none)/\W i n O' H') ?_ m0 ⟨0,O,H2,I2,st2,fun b hb=>(f2 b hb).1,w0⟩;rintro n s3 ⟨i,O3,H3,I3,st3,fr3,w3⟩;rcases turn i n O3 H3 w3 with⟨stop,qn⟩|⟨go,N,hN,step⟩
 .refine wpAny_passesOwn hp (thn (T.done X rfl rfl rfl hc i pj s3 O3 H3 X.xe I3 (stat fr3) st3 stop) fun r s4 ⟨hr,I4⟩=>?_);subst hr;exact wpAny_execs_nil ⟨O3,H3,I4,qn⟩
 .refine wpAny_passesOwn hp (thn (T.item X rfl rfl rfl hc i pj s3 O3 H3 X.xe I3 (stat fr3) st3 go) fun r s4 ⟨u,hr,h4⟩=>?_);subst hr;refine wpAny_passesOwn hp (thn h4 fun _ s5 ⟨x,H5,I5,r5,y5,st5,fr5⟩=>?_);have I5':=I5.pinned (stat fr5) (T.obj _ _ st5);refine wpAny_passesOwn hp (thn (hg _ s5 O3 H5 x u _ I5' r5 (step x H5 y5)) fun _ s6 ⟨O6,H6,I6,q6⟩=>?_);refine wpAny_passesOwn hp (thn (hb _ s6 O6 H6 _ I6 q6) fun f s7 q7=>?_);have again:∀{O7:St}{H7:Hp},Inv X (pj++pA fp s5.heap) O7 H7 s7->N O7 H7->∃m,m<n/\∃i O' H',Inv X pj O' H' s7/\tn i s7.heap/\(∀b∈fp,H' b=none)/\W i m O' H':=fun{O7 H7}I7 n7=>by obtain⟨m',hm,w7⟩:=hN O7 H7 n7;refine⟨m',hm,i+1,O7,H7,I7.unpinned,T.keep _ _ _ st5 fun b hb o e=>(I7.pin (b,o) (iL _ (iL _ (rK hb e)))).1,fun b hb=>?_,w7⟩;obtain⟨o,e,d⟩:=T.obj _ _ st5 b hb;exact(I7.pin (b,o) (iL _ (iL _ (rK hb e)))).2.1
  cases f with
  |next=>obtain⟨O7,H7,I7,n7⟩:=q7;exact again I7 n7
  |cont=>obtain⟨O7,H7,I7,n7⟩:=q7;exact again I7 n7
  |brk=>obtain⟨O7,H7,I7,q7⟩:=q7;exact⟨O7,H7,I7.unpinned,q7⟩
  |ret v=>obtain⟨x7,O7,H7,I7,r7,q7⟩:=q7;exact⟨x7,O7,H7,I7.unpinned,r7,q7⟩
section
variable {g:Int->Int->Int}
abbrev R2:=V->V->Hp->VK->Prop
def OpR(X:Cx)(f:Value->Value->Sem Value)(r:R2):Prop :=
 ∀(pj:Pq)(s:Shared)(O:St)(H:Hp)(x y:V)(v u:Value)(Q:VK),Inv X pj O H s->aG x v->aG y u->r x y H Q->
  wpAny (model X.prog X.w) X.A (f v u) (EP X pj O Q) X.xe s
def UnR(X:Cx)(f:Value->Sem Value)(r:V->Hp->VK->Prop):Prop :=
 ∀(pj:Pq)(s:Shared)(O:St)(H:Hp)(x:V)(v:Value)(Q:VK),Inv X pj O H s->aG x v->r x H Q->
  wpAny (model X.prog X.w) X.A (f v) (EP X pj O Q) X.xe s
def iA(X:Cx)(f:Value)(r:List V->Hp->VK->Prop):Prop :=
 ∀(pj:Pq)(s:Shared)(O:St)(H:Hp)(xs:List V)(us:List Value)(Q:VK),Inv X pj O H s->aJ xs us->r xs H Q->
  wpAny (model X.prog X.w) X.A (call f us) (EP X pj O Q) X.xe s
def TruR(X:Cx)(r:V->Hp->(Bool->Hp->Prop)->Prop):Prop :=
 ∀(pj:Pq)(s:Shared)(O:St)(H:Hp)(x:V)(v:Value)(Q:Bool->Hp->Prop),Inv X pj O H s->aG x v->r x H Q->
  wpAny (model X.prog X.w) X.A (truthy v) (TP X pj O Q) X.xe s
def tOp(r:R2)(ta tb:TE):TE:=fun O H Q=>ta O H fun x H1=>tb O H1 fun y H2=>r x y H2 Q
def tUn(r:V->Hp->VK->Prop)(ta:TE):TE:=fun O H Q=>ta O H fun x H1=>r x H1 Q
def rI(C:Int->Int->Prop)(g:Int->Int->V):R2:=fun x y H Q=>∃i j,x=.int i/\y=.int j/\C i j/\Q (g i j) H
def rI0(g:Int->Int->V):R2:=fun x y H Q=>∃i j,x=.int i/\y=.int j/\Q (g i j) H
def rU(g:Int->V):V->Hp->VK->Prop:=fun x H Q=>∃i,x=.int i/\Q (g i) H
def bO(ha:PE X a ta)(hb:PE X b tb){H:Hp}{R:V->V->Hp->Prop}(I:Inv X pj O H s)(h:ta O H fun x H1=>tb O H1 fun y H2=>R x y H2){Q:Vq}{f:Value->Value->Sem Value}(hf:∀v u s2 x y H2,Inv X pj O H2 s2->aG x v->aG y u->R x y H2->wpAny (model X.prog X.w) X.A (f v u) Q X.xe s2):wpAny (model X.prog X.w) X.A (eval a X.env) (fun v s₁=>wpAny (model X.prog X.w) X.A (eval b X.env) (fun u s₂=>wpAny (model X.prog X.w) X.A (f v u) Q X.xe s₂) X.xe s₁) X.xe s:=by
 refine thn (ha pj s O H _ I h) fun v s1 ⟨x,H1,I1,r1,q1⟩=>?_;refine thn (hb pj s1 O H1 _ I1 q1) fun u s2 ⟨y,H2,I2,r2,q2⟩=>?_;exact hf v u s2 x y H2 I2 r1 r2 q2
def vK(ho:OpR X (binaryOp op) r)(ha:PE X a ta)(hb:PE X b tb):PE X (.BinOp a op b pos) (tOp r ta tb):=by intro pj s O H Q I h;exact wpAny_BinOp (bO ha hb I h fun v u s2 x y H2 I2 rx ry q=>ho pj s2 O H2 x y v u Q I2 rx ry q)
def AQ(ho:UnR X (unaryOp op) r)(ha:PE X a ta):PE X (.UnaryOp op a pos) (tUn r ta):=by intro pj s O H Q I h;exact UnaryOp_ (thn (ha pj s O H _ I h) fun v s1 ⟨x,H1,I1,r1,q1⟩=>ho pj s1 O H1 x v Q I1 r1 q1)
theorem opI{f:Value->Value->Sem Value}{C:Int->Int->Prop}(rule:∀(i j:Int)(t u:Tok)(s:Shared)(Q:Vq)(E:Vq),C i j->Q (.int (g i j) s.toks) {s with toks:=s.toks+1}->wpAny (model X.prog X.w) X.A (f (.int i t) (.int j u)) Q E s):OpR X f (rI C fun i j=>.int (g i j)):=by
 rintro pj s O H x y v u Q I rx ry⟨i,j,rfl,rfl,hc,q⟩;obtain⟨t,rfl⟩:=rx;obtain⟨t',rfl⟩:=ry;exact rule i j t t' s _ _ hc ⟨.int (g i j),H,I.tok _,⟨_,rfl⟩,q⟩
theorem opI0{f:Value->Value->Sem Value}(rule:∀(i j:Int)(t u:Tok)(s:Shared)(Q:Vq)(E:Vq),Q (.int (g i j) s.toks) {s with toks:=s.toks+1}->wpAny (model X.prog X.w) X.A (f (.int i t) (.int j u)) Q E s):OpR X f (rI0 fun i j=>.int (g i j)):=by
 rintro pj s O H x y v u Q I rx ry⟨i,j,rfl,rfl,q⟩;obtain⟨t,rfl⟩:=rx;obtain⟨t',rfl⟩:=ry;exact rule i j t t' s _ _ ⟨.int (g i j),H,I.tok _,⟨_,rfl⟩,q⟩
def opB0{f:Value->Value->Sem Value}{g:Int->Int->Bool}(rule:∀(i j:Int)(t u:Tok)(s:Shared)(Q:Vq)(E:Vq),Q (.bool (g i j)) s->wpAny (model X.prog X.w) X.A (f (.int i t) (.int j u)) Q E s):OpR X f (rI0 fun i j=>.bl (g i j)):=by
 rintro pj s O H x y v u Q I rx ry⟨i,j,rfl,rfl,q⟩;obtain⟨t,rfl⟩:=rx;obtain⟨t',rfl⟩:=ry;exact rule i j t t' s _ _ ⟨.bl (g i j),H,I,rfl,q⟩
def CDiv(i j:Int):Prop:=0<j/\j<1073741824
def CMul(i j:Int):Prop:=(-(2 ^ 64)<i/\i<2 ^ 64)\/(-(2 ^ 64)<j/\j<2 ^ 64)
theorem CMul.ok{i j:Int}(h:CMul i j):IntMulOk i j:=by
 rcases h with⟨h1,h2⟩|⟨h1,h2⟩
 .exact .of_left (intBits_le_64 h1 h2)
 .exact .of_right (intBits_le_64 h1 h2)
def LV:OpR X (binaryOp .Add) (rI0 fun i j=>.int (i+j)):=opI0 fun _ _ _ _ _ _ _ q=>add_int q
def LW:OpR X (binaryOp .Sub) (rI0 fun i j=>.int (i-j)):=opI0 fun _ _ _ _ _ _ _ q=>sub_int q
def LY:OpR X (binaryOp .Mult) (rI CMul fun i j=>.int (i*j)):=opI fun _ _ _ _ _ _ _ hc q=>mul_int q hc.ok
theorem LZ:OpR X (binaryOp .FloorDiv) (rI CDiv fun i j=>.int (i/j)):=opI fun i j _ _ _ _ _ hc q=>by have h1:(0:Int)<j:=hc.1;have h2:j<1073741824:=hc.2;exact floordiv_int (by lia) (by rw[Int.fdiv_eq_ediv_of_nonneg i (by lia)];exact q) (.inl (PyProof.noPylong_small (by lia)))
theorem MA:OpR X (binaryOp .Mod) (rI (fun _ j=>0<j) fun i j=>.int (i%j)):=opI fun i j _ _ _ _ _ hc q=>by have h1:(0:Int)<j:=hc;exact mod_int' (by lia) (by rw[Int.fmod_eq_emod_of_nonneg i (by lia)];exact q)
theorem MB{f:Value->Sem Value}{g:Int->Int}(rule:∀(i:Int)(t:Tok)(s:Shared)(Q:Vq)(E:Vq),Q (.int (g i) s.toks) {s with toks:=s.toks+1}->wpAny (model X.prog X.w) X.A (f (.int i t)) Q E s):UnR X f (rU fun i=>.int (g i)):=by
 rintro pj s O H x v Q I rx⟨i,rfl,q⟩;obtain⟨t,rfl⟩:=rx;exact rule i t s _ _ ⟨.int (g i),H,I.tok _,⟨_,rfl⟩,q⟩
def AR:UnR X (unaryOp .USub) (rU fun i=>.int (-i)):=MB fun _ _ _ _ _ q=>neg_int q
def scal:V->V->Bool
 |.non,.non=>true|.non,.int _=>true|.int _,.non=>true|.non,.bl _=>true|.bl _,.non=>true|.non,.str _=>true|.str _,.non=>true
 |.int _,.int _=>true|.bl _,.bl _=>true|.str _,.str _=>true|.byt _,.byt _=>true
 |.int _,.str _=>true|.str _,.int _=>true|.bl _,.str _=>true|.str _,.bl _=>true
 |_,_=>false
def rEq:R2:=fun x y H Q=>scal x y=true/\Q (.bl (decide (x=y))) H
theorem MC:decide (V.int i=V.int j)=(i==j):=by rw[Bool.eq_iff_iff];simp
theorem MD:decide (V.bl i=V.bl j)=(i==j):=by rw[Bool.eq_iff_iff];simp
theorem ME:decide (V.str i=V.str j)=(i==j):=by rw[Bool.eq_iff_iff];simp
theorem MF:decide (V.byt i=V.byt j)=(i.toList==j.toList):=by rw[Bool.eq_iff_iff];cases i;cases j;simp
def fL(I:Inv X pj O H s)(q:Q (.bl k) H)(e:k=k'):EP X pj O Q (.bool k') s:=by subst e;exact⟨.bl k,H,I,rfl,q⟩
theorem MG:OpR X (compareOp .Eq) rEq:=by
 rintro pj s O H x y v u Q I rx ry⟨hs,q⟩;cases x with
 |non=>
  cases rx;cases y with
  |non=>cases ry;exact PySem.EqNone.eq_none_none (fL I q (by simp))
  |bl j=>cases ry;exact PySem.EqNone.eq_none_bool (fL I q (by simp))
  |int j=>obtain⟨t',rfl⟩:=ry;exact PySem.EqNone.eq_none_int (fL I q (by simp))
  |str j=>obtain⟨t',rfl⟩:=ry;exact PySem.EqNone.eq_none_str (fL I q (by simp))
  |_=>exact absurd (show false=true from hs) dW
 |bl i=>
  cases rx;cases y with
  |non=>cases ry;exact PySem.EqNone.eq_bool_none (fL I q (by simp))
  |bl j=>cases ry;exact eq_bool (fL I q MD)
  |str j=>obtain⟨t',rfl⟩:=ry;exact PySem.EqMixed.eq_bool_str (fL I q (by simp))
  |_=>exact absurd (show false=true from hs) dW
 |int i=>
  obtain⟨t,rfl⟩:=rx;cases y with
  |non=>cases ry;exact PySem.EqNone.eq_int_none (fL I q (by simp))
  |int j=>obtain⟨t',rfl⟩:=ry;exact eq_int (fL I q MC)
  |str j=>obtain⟨t',rfl⟩:=ry;exact PySem.EqMixed.eq_int_str (fL I q (by simp))
  |_=>exact absurd (show false=true from hs) dW
 |str i=>
  obtain⟨t,rfl⟩:=rx;cases y with
  |non=>cases ry;exact PySem.EqNone.eq_str_none (fL I q (by simp))
  |bl j=>cases ry;exact PySem.EqMixed.eq_str_bool (fL I q (by simp))
  |int j=>obtain⟨t',rfl⟩:=ry;exact PySem.EqMixed.eq_str_int (fL I q (by simp))
  |str j=>obtain⟨t',rfl⟩:=ry;exact eq_str (fL I q ME)
  |_=>exact absurd (show false=true from hs) dW
 |byt i=>
  obtain⟨t,rfl⟩:=rx;cases y with
  |byt j=>obtain⟨t',rfl⟩:=ry;exact PySem.W.eq_bytes (fL I q MF)
  |_=>exact absurd (show false=true from hs) dW
 |_=>cases y<;>exact absurd (show false=true from hs) dW
def MH:OpR X (compareOp .Lt) (rI0 fun i j=>.bl (decide (i<j))):=opB0 fun _ _ _ _ _ _ _ q=>lt_int q
def MI:OpR X (compareOp .Gt) (rI0 fun i j=>.bl (decide (j<i))):=opB0 fun _ _ _ _ _ _ _ q=>gt_int q
def MJ:OpR X (compareOp .Lt) (fun x y H Q=>∃i j,x=.str i/\y=.str j/\Q (.bl (decide (i.cps.toList<j.cps.toList))) H):=by rintro pj s O H x y v u Q I rx ry⟨i,j,rfl,rfl,q⟩;obtain⟨t,rfl⟩:=rx;obtain⟨t',rfl⟩:=ry;exact lt_str (fL I q rfl)
theorem MK:OpR X (compareOp .Is) (fun x y H Q=>y=.non/\Q (.bl (decide (x=.non))) H):=by
 rintro pj s O H x y v u Q I rx ry⟨rfl,q⟩;cases ry;refine is_none_gen (fL I q ?_);cases x<;>first
  |(cases rx;rfl)
  |(obtain⟨t,rfl⟩:=rx;rfl)
theorem ML:OpR X (compareOp .IsNot) (fun x y H Q=>y=.non/\Q (.bl (!decide (x=.non))) H):=by
 rintro pj s O H x y v u Q I rx ry⟨rfl,q⟩;cases ry;refine isnot_none_gen (fL I q ?_);cases x<;>first
  |(cases rx;rfl)
  |(obtain⟨t,rfl⟩:=rx;rfl)
theorem mI(b:Expr)(h:op≠.In:=by decide)(h2:op≠.NotIn:=by decide):behindInMarks op b=false:=by
 have e1:(op==CmpOp.In)=false:=by cases op<;>first|rfl|exact absurd rfl h
 have e2:(op==CmpOp.NotIn)=false:=by cases op<;>first|rfl|exact absurd rfl h2
 cases b<;>simp[behindInMarks,e1,e2]
def MM(ho:OpR X (compareOp op) r)(ha:PE X a ta)(hb:PE X b tb)(hm:behindInMarks op b=false):PE X (.Compare a [op] [b] pos) (tOp r ta tb):=by intro pj s O H Q I h;exact wpAny_Compare1 (bO ha hb I h fun v u s2 x y H2 I2 rx ry q=>ho pj s2 O H2 x y v u Q I2 rx ry q) hm
def MN(t:TE):TT:=fun O H Q=>t O H fun x H'=>∃k,x=.bl k/\Q k H'
theorem AS(ho:OpR X (compareOp op) r)(ha:PE X a ta)(hb:PE X b tb)(hm:behindInMarks op b=false):PT X (.Compare a [op] [b] pos) (MN (tOp r ta tb)):=by
 intro pj s O H Q I h;refine wpAny_isTrue_Compare1 (thn (ha pj s O H _ I h) fun v s1 ⟨x,H1,I1,r1,q1⟩=>thn (hb pj s1 O H1 _ I1 q1) fun u s2 ⟨y,H2,I2,r2,q2⟩=>thn (ho pj s2 O H2 x y v u _ I2 r1 r2 q2) fun c s3 ⟨z,H3,I3,r3,k,e,q3⟩=>?_) hm;subst e;cases r3;exact wpAny_truthy_bool ⟨H3,I3,q3⟩
def vL(K:W.Frag)(x:V)(H:Hp)(k:Bool):Prop :=
 match x with
 |.non=>k=false
 |.bl b=>k=b
 |.int i=>k=(i != 0)
 |.str y=>y.length<=sizeLine/\k=((y.length:Int) != 0)
 |.byt y=>y.size<=sizeLine/\k=((y.size:Int) != 0)
 |.ref p=>(∃xs,SqL K H p xs/\k=!xs.isEmpty)\/(∃xs,SqT K H p xs/\k=!xs.isEmpty)\/∃qb,H p=some (.dK qb)/\k=!qb.isEmpty
 |_=>False
theorem MO{κ:Type}{qb:List (κ×V)}{vs:List (κ×Value)}(r:KV qb vs):(!vs.isEmpty)=!qb.isEmpty:=by cases r<;>rfl
theorem AT{xs:List V}{qc:List Value}(r:aJ xs qc):(!qc.toArray.isEmpty)=!xs.isEmpty:=by cases r<;>simp
theorem pB:(sizeLine:Nat)<2 ^ 63:=by rw[fV];decide
theorem MP:TruR X (fun x H Q=>∃k,vL X.K x H k/\Q k H):=by
 rintro pj s O H x v Q I rx⟨k,e,q⟩;have hl:=pB;have hs:sizeLine=16777216:=fV;cases x with
 |non=>cases rx;have e':k=false:=e;subst e';exact truthy_none ⟨H,I,q⟩
 |bl b=>cases rx;have e':k=b:=e;subst e';exact wpAny_truthy_bool ⟨H,I,q⟩
 |int i=>obtain⟨t,rfl⟩:=rx;have e':k=(i != 0):=e;subst e';exact PySem.P.truthy_int ⟨H,I,q⟩
 |str y=>obtain⟨t,rfl⟩:=rx;obtain⟨hy,e'⟩:y.length<=sizeLine/\k=((y.length:Int) != 0):=e;subst e';exact PySem.P.truthy_str (by lia) ⟨H,I.tok _,q⟩
 |byt y=>obtain⟨t,rfl⟩:=rx;obtain⟨hy,e'⟩:y.size<=sizeLine/\k=((y.size:Int) != 0):=e;subst e';exact PySem.W.truthy_bytes (by lia) ⟨H,I.tok _,q⟩
 |ref p=>
  cases rx;have e':(∃xs,SqL X.K H p xs/\k=!xs.isEmpty)\/(∃xs,SqT X.K H p xs/\k=!xs.isEmpty)\/∃qb,H p=some (.dK qb)/\k=!qb.isEmpty:=e;rcases e' with⟨xs,hx,e'⟩|⟨xs,hx,e'⟩|⟨qb,hx,e'⟩
  .subst e';obtain⟨qc,r,pl,hz⟩:=I.list hx;have hlen:=r.length;exact wpAny_truthy_list pl.isList (by simp only[List.size_toArray];lia) ⟨H,I.tok _,by rw[AT r];exact q⟩
  .subst e';obtain⟨qc,r,pl,hz⟩:=I.tuple hx;have hlen:=r.length;exact truthy_tuple pl (by simp only[List.size_toArray];lia) ⟨H,I.tok _,by rw[AT r];exact q⟩
  .subst e';obtain⟨hz,hS,vs,r,m⟩:qb.length<=sizeLine/\(p==sysModules)=false/\∃vs,KV qb vs/\s.heap.DictOf (eV X.prog X.w) p vs:=I.hok p _ hx;have hlen:qb.length=vs.length:=Paired.length r;exact wpAny_truthy_dict hS m (by lia) ⟨H,I.tok _,by rw[MO r];exact q⟩
 |_=>exact(show False from e).elim
def MQ(ha:PE X a ta)(he:∀whole,isTrue a X.env whole=(do let v <-whole;standAt a.pos;holding [v] (truthy v))):PT X a (fun O H Q=>ta O H fun x H'=>∃k,vL X.K x H' k/\Q k H'):=by
 intro pj s O H Q I h;exact isTrue_plain (thn (ha pj s O H _ I h) fun v s1 ⟨x,H1,I1,r1,q1⟩=>MP pj s1 O H1 x v Q I1 r1 q1) (he _)
theorem iC(r:aJ [x] us):∃u,us=[u]/\aG x u:=by
 cases r with
 |cons r1 r2=>cases r2;exact⟨_,rfl,r1⟩
theorem vM(r:aJ [x,y] us):∃u w',us=[u,w']/\aG x u/\aG y w':=by
 cases r with
 |cons r1 r2=>
  cases r2 with
  |cons r3 r4=>cases r4;exact⟨_,_,rfl,r1,r3⟩
theorem AU:iA X (.type "int") (fun xs H Q=>(∃i,xs=[.int i]/\Q (.int i) H)\/∃k,xs=[.bl k]/\Q (.int (if k then 1 else 0)) H):=by
 intro pj s O H xs us Q I r h;rcases h with⟨i,rfl,q⟩|⟨k,rfl,q⟩
 .obtain⟨u,rfl,t,rfl⟩:=iC r;exact call_int_int ⟨.int i,H,I,⟨_,rfl⟩,q⟩
 .obtain⟨u,rfl,r1⟩:=iC r;cases r1;exact call_int_bool ⟨.int (if k then 1 else 0),H,I.tok _,⟨_,rfl⟩,q⟩
end
theorem MR{h:Heap}{dx:Addr}{mA:Mq}(n:h.Ns1 dx mA):∃od,h.get? dx=some od/\∀name,PySem.W.lookIn name od=some (mA name):=by
 obtain⟨o,es,ep,ho,hd,hk,_,hm⟩:=n;refine⟨o,ho,fun name=>?_⟩;have e:=hm name;unfold nsFind findBy at e;rw[<-Array.find?_toList]at e;unfold PySem.W.lookIn;rw[hd];dsimp only;split
 .rename_i y q;rw[q]at e;exact aP some e
 .rename_i q;rw[q]at e;have a:es.toList.any (·.refKey)=false:=by rw[List.any_eq_false];intro y hy;obtain⟨z,t,hkey⟩:=hk y (Array.mem_toList_iff.mp hy);simp[DictEntry.refKey,hkey]
  have a':¬es.toList.any (·.refKey)=true:=by rw[a];exact dW
  rw[if_neg a'];exact aP some e
theorem eF.some_of(r:eF (some v) o):∃u,o=some u/\aG v u:=by
 cases o with
 |none=>exact(show False from r).elim
 |some u=>exact⟨u,rfl,r⟩
theorem MS(r:aG v u):PySem.W.handedIn u=true:=by
 cases v with
 |non=>cases(show u=Value.none from r);rfl
 |bl b=>cases(show u=Value.bool b from r);rfl
 |int i=>obtain⟨t,e⟩:=(show ∃t,u=Value.int i t from r);cases e;rfl
 |str x=>obtain⟨t,e⟩:=(show ∃t,u=Value.str x t from r);cases e;rfl
 |byt b=>obtain⟨t,e⟩:=(show ∃t,u=Value.bytes b t from r);cases e;rfl
 |flt b=>obtain⟨t,e⟩:=(show ∃t,u=Value.float b t from r);cases e;rfl
 |ref a=>cases(show u=Value.ref a from r);rfl
 |ty n=>cases(show u=Value.type n from r);rfl
theorem MT(hb:attributeBase e f env (eval e env)=eval e env)(h:wpAny (model prog w) A (eval e env) (fun o s₁=>wpAny (model prog w) A (getAttr o f true) Q E s₁) E s):wpAny (model prog w) A (eval (.Attribute e f pos) env) Q E s :=
 Attribute_any_ h (by rw[arm_eval_Attribute,hb])
section
variable {kw:List (Str×Value)}{K:W.Frag}{mg:Mq}{outer:List Env}{scope:Scope}
structure Room(k:Nat)(A:Around):Prop where
 hd:A.handled=none
 dp:A.depth+3*k+5<recursionLimit
 un:A.units+16*k+200<cLine
theorem Room.mono(r:Room k A)(h:j<=k):Room j A:=⟨r.hd,by have:=r.dp;lia,by have:=r.un;lia⟩
theorem Room.deeper{k:Nat}{A:Around}(r:Room (k+1) A)(env:Env):Room k (A.deeper env) :=
 ⟨r.hd,by have:=r.dp;show A.depth+1+3*k+5<_;lia,by have:=r.un;show A.units+3+16*k+200<_;lia⟩
theorem MU{A:Around}:(A.under (.builtin "type.__call__" ⟨.ref C::us,kw⟩)).depth=A.depth+1:=by first|rfl|simp[Around.under,Code.weight,Code.isCreation,Code.isGuard,Code.isCaller,Code.frames,Code.isFrame,guardIds]
theorem MV{A:Around}:(A.under (.builtin "type.__call__" ⟨.ref C::us,kw⟩)).units=A.units+1:=by first|rfl|simp[Around.under,Code.cUnits,Code.frames,Code.isFrame]
theorem Room.make(r:Room (k+1) A)(C:Addr)(us:List Value)(kw:List (Str×Value)):Room k (A.under (.builtin "type.__call__" ⟨.ref C::us,kw⟩)) :=
 ⟨r.hd,by have:=r.dp;rw[MU];lia,by have:=r.un;rw[MV];lia⟩
theorem Room.depth{k:Nat}{A:Around}(r:Room k A):A.depth<recursionLimit:=by have:=r.dp;lia
def rL:TA:=fun _ H Q=>Q [] H
def mJ(ta:TE)(tr:TA):TA:=fun O H Q=>ta O H fun x H1=>tr O H1 fun xs H2=>Q (x::xs) H2
def gE:PA X [] rL:=fun _ _ _ _ H Q I h=>Calls.spliced_nil ⟨[],H,I,.nil,h⟩
theorem cU(ha:PE X e te)(hr:PA X es t)(hs:starEach (e::es) X.env=(false,eval e X.env)::starEach es X.env:=by rfl):PA X (e::es) (mJ te t):=by intro pos pj s O H Q I h;rw[hs];show wpAny _ _ (spliced ((false,eval e X.env)::backTo pos (starEach es X.env))) _ _ s;refine Calls.spliced_cons (thn (ha pj s O H _ I h) fun u s1 ⟨x,H1,I1,r1,q1⟩=>?_);exact thn (hr pos pj s1 O H1 _ I1 q1) fun us s2 ⟨xs,H2,I2,r2,q2⟩=>⟨x::xs,H2,I2,.cons r1 r2,q2⟩
def tTup(t:TA):TE:=fun O H Q=>t O H fun xs H1=>xs.length<=sizeLine/\∀p,H1 p=none->Q (.ref p) (aL H1 p (.tup xs))
def tLst(t:TA):TE:=fun O H Q=>t O H fun xs H1=>xs.length<=sizeLine/\∀p,H1 p=none->Q (.ref p) (aL H1 p (.lst xs))
theorem rM{x1}(h:PA X es t):PE X (.Tuple es x1 pos) (tTup t):=by intro pj s O H Q I hq;refine wpAny_Tuple_spliced (thn (h pos pj s O H _ I hq) fun us s1 ⟨xs,H1,I1,r,z,q⟩=>⟨by rw[<-r.length];exact z,?_⟩);have hf:H1 s1.heap.objs.size=none:=I1.hok.fresh (bH _);refine⟨.ref s1.heap.objs.size,aL H1 s1.heap.objs.size (.tup xs),I1.laid (t':=s1.toks) (fun b u e=>aT _ e) (bH _) ?_,rfl,q _ hf⟩;exact⟨z,us,r,⟨_,cQ _ rfl,rfl,_,rfl⟩⟩
theorem vN(h:PA X es t):PE X (.List es pos) (tLst t):=by intro pj s O H Q I hq;refine wpAny_List_spliced (thn (h pos pj s O H _ I hq) fun us s1 ⟨xs,H1,I1,r,z,q⟩=>⟨by rw[<-r.length];exact z,?_⟩);have hf:H1 s1.heap.objs.size=none:=I1.hok.fresh (bH _);refine⟨.ref s1.heap.objs.size,aL H1 s1.heap.objs.size (.lst xs),I1.laid (t':=s1.toks) (fun b u e=>aT _ e) (bH _) ?_,rfl,q _ hf⟩;exact⟨z,us,0,r,cQ _ rfl⟩
abbrev Sp:=List V->Hp->VK->XK->Prop
abbrev CXT:=List Env->Hp->Shared->XK->Value->Shared->Prop
structure Env0(P:Program)(w:World)(K:W.Frag)(mg:Mq)(base:Heap)(A:Around)(outer:List Env)(s:Shared)(H:Hp):Prop where
 frames:A.frames=some outer
 mod:Mod K mg base
 bs:∀b o,base.get? b=some o->s.heap.get? b=some o/\H b=none
 bsz:base.objs.size<=s.heap.objs.size
 funs:s.heap.FunFrames base outer
 frf:∀b∈frs outer,H b=none
 hok:HOk P w H s.heap
 bare:AllBare s.gens
def CE(outer:List Env)(P:Program)(w:World)(H:Hp)(s:Shared)(Q:VK)(u:Value)(s':Shared):Prop :=
 ∃v H',s'.os=s.os/\AllBare s'.gens/\Un (frs outer) [] H H' s.heap s'.heap/\HOk P w H' s'.heap/\aG v u/\Q v H'
def CR(CX:CXT)(outer:List Env)(P:Program)(w:World)(H:Hp)(s:Shared)(Q:VK)(E:XK)(r:Result)(s':Shared):Prop :=
 match r with
 |.ok (.ret u)=>CE outer P w H s Q u s'
 |.ok _=>False
 |.error e=>CX outer H s E e s'
structure FnOk(P:Program)(w:World)(K:W.Frag)(mg:Mq)(base:Heap)(CX:CXT)(k:Nat)(f:Addr)(fd:FuncData)(ps:List Str)(sp:Sp):Prop where
 len:∀vs H Q E,sp vs H Q E->vs.length=ps.length
 run:∀(A:Around)(outer:List Env)(s:Shared)(H:Hp)(args:Args)(us:List Value)(vs:List V)(Q:VK)(E:XK),Room k A->Env0 P w K mg base A outer s H->BindsTo s fd args (ps.zip us)->aJ vs us->sp vs H Q E->
  codeAny (model P w) A (.call (.ref f) args) (CR CX outer P w H s Q E) s
theorem FnOk.mono{K:W.Frag}{mg:Mq}{CX:CXT}{fd:FuncData}{sp:Sp}(F:FnOk P w K mg base CX j f fd ps sp)(h:j<=k):FnOk P w K mg base CX k f fd ps sp:=⟨F.len,fun A outer s H args us vs Q E hr=>F.run A outer s H args us vs Q E (hr.mono h)⟩
theorem Env0.make{A:Around}{H:Hp}(e:Env0 P w K mg base A outer s H)(C:Addr)(us:List Value)(kw:List (Str×Value)):Env0 P w K mg base (A.under (.builtin "type.__call__" ⟨.ref C::us,kw⟩)) outer s H:=⟨by first|exact e.frames|(simpa[Around.under,Code.envs,Code.isFrame,pushEnvs]using e.frames),e.mod,e.bs,e.bsz,e.funs,e.frf,e.hok,e.bare⟩
def Inv.env0(I:Inv X pj O H s):Env0 X.prog X.w X.K X.mg X.base X.A X.stack s H :=
 ⟨I.ok.frames,I.ok.mod,I.bs,dY I.ok.bsz I.sz,I.stack,I.stkFree,I.hok,I.bare⟩
theorem Inv.after(I:Inv X pj O H s)(h:CE X.stack X.prog X.w H s Q u s'):EP X pj O Q u s':=by obtain⟨v,H',os,bare,un,hok,r,q⟩:=h;obtain⟨hh,g,d,t,os'⟩:=s';obtain rfl:os'=s.os:=os;exact⟨v,H',I.call (h':=hh) (g':=g) (d':=d) (t':=t) (ch:=[]) un hok bare (fun b z=>absurd z (by simp)),r,q⟩
def MW(sp:Sp)(dvs:List V)(E:XK)(t:TA):TE:=fun O H Q=>t O H fun vs H1=>sp (vs++dvs) H1 Q E
def Binds(K:W.Frag)(fd:FuncData)(ps:List Str)(ds:List Value):Prop :=
 ∀(s:Shared)(us:List Value),K.In s.heap->(us++ds).length=ps.length->BindsTo s fd ⟨us,[]⟩ (ps.zip (us++ds))
theorem Binds.all{fd:FuncData}(h:∀us:List Value,us.length=ps.length->bindArgs fd ⟨us,[]⟩=pure (ps.zip us)):Binds K fd ps []:=fun s us _ hl=>by rw[gI]at hl ⊢;exact .of_eq (h us hl)
def lL(CX:CXT)(X:Cx)(E:XK):Prop:=∀(pj:Pq)(O:St)(H:Hp)(s:Shared)(e:Value)(s':Shared),Inv X pj O H s->CX X.stack H s E e s'->X.xe e s'
theorem MX(F:FnOk X.prog X.w X.K X.mg X.base CX k f fd ps sp)(hr:Room k X.A)(hb:Binds X.K fd ps ds)(hd:aJ dvs ds)(hx:lL CX X E)(I:Inv X pj O H s)(r:aJ vs us)(h:sp (vs++dvs) H Q E):wpAny (model X.prog X.w) X.A (call (.ref f) us) (EP X pj O Q) X.xe s:=by
 have r2:aJ (vs++dvs) (us++ds):=r.append hd;have hl:(us++ds).length=ps.length:=by rw[<-r2.length];exact F.len _ _ _ _ h
 refine wpAny_call (codeAny_mono (F.run X.A X.stack s H ⟨us,[]⟩ (us++ds) (vs++dvs) Q E hr I.env0 (hb s us I.kIn hl) r2 h) fun r s' hq=>?_);cases r with
 |error e=>exact hx pj O H s e s' I hq
 |ok fl=>
  cases fl with
  |ret u=>exact I.after hq
  |next=>exact False.elim hq
  |brk=>exact False.elim hq
  |cont=>exact False.elim hq
theorem AV(F:FnOk X.prog X.w X.K X.mg X.base CX k f fd ps sp)(hr:Room k X.A)(hg:Gl X x)(hm:X.mg x=some (.ref f))(hk:W.keepIn X.K (.ref f)=true)(hb:Binds X.K fd ps ds)(hd:aJ dvs ds)(hx:lL CX X E)(ha:PA X (e::es) t)(hdb:(x==("__debug__":Str))=false:=by decide)(he:starEach (e::es) X.env=(false,eval e X.env)::starEach es X.env:=by rfl)(hpl:(backTo pos (starEach es X.env)).any (·.1)=false:=by rfl):
  PE X (.Call (.Name x p) (e::es) [] pos) (MW sp dvs E t):=by
 intro pj s O H Q I h;refine wpAny_Call_Name_kw (oY I hg hm ?_ hdb);refine PySem.W.callWith_K (h₀:=X.base) I.ok.mod.kin hk (thn (ha pos pj s O H _ I h) fun us s1 ⟨vs,H1,I1,r,q⟩=>⟨I1.kIn,?_⟩) he hpl;exact MX F hr hb hd hx I1 r q
structure FnScope(N P:List Str)(sc:Scope):Prop where
 kind:sc.kind=.function
 co:sc.isCoroutine=false
 gen:sc.isGenerator=false
 nd:N.Nodup
 pre:N.take P.length=P
 par:∀x∈P,sc.names.lookup x=some .local\/sc.names.lookup x=some .cell
 nofree:∀y∈sc.names,y.2≠.free
theorem AW{kindOf:Str->a0 NameKind}:∀{binds:List (Str×Value)}{m:Mq},(∀v,(x,v)∉binds)->bindL kindOf binds m x=m x
 |[],_,_=>rfl
 |(n,v)::r,m,h=>by
  unfold bindL;rw[AW fun w hw=>h w (dH _ hw)];split
  .have:x≠n:=by rintro rfl;exact h v fK
   simp[this]
  .rfl
theorem AX{kindOf:Str->a0 NameKind}:∀{binds:List (Str×Value)}{m:Mq},(∀v,(x,v)∉binds)->bindC kindOf binds m x=m x
 |[],_,_=>rfl
 |(n,v)::r,m,h=>by
  unfold bindC;rw[AX fun w hw=>h w (dH _ hw)];split
  .rfl
  .have:x≠n:=by rintro rfl;exact h v fK
   simp[this]
theorem AY{kindOf:Str->a0 NameKind}:∀{P:List Str}{vs:List Value}{i:Nat}{m:Mq},P.Nodup->P[i]?=some x->vs[i]?=some v->kindOf x=some .local ->bindL kindOf (P.zip vs) m x=some v
 |[],_,_,_,_,h,_,_=>by simp at h
 |_::_,[],_,_,_,_,h,_=>by simp at h
 |p::P,w::vs,0,m,nd,h1,h2,hk=>by simp at h1 h2;subst h1;subst h2;show bindL kindOf ((p,w)::P.zip vs) m p=_;unfold bindL;rw[AW fun v hv=>(gH.mp nd).1 (List.of_mem_zip hv).1,if_pos hk];simp
 |p::P,w::vs,i+1,m,nd,h1,h2,hk=>by show bindL kindOf ((p,w)::P.zip vs) m x=_;unfold bindL;exact AY (i:=i) (gH.mp nd).2 (by simpa using h1) (by simpa using h2) hk
theorem AZ{kindOf:Str->a0 NameKind}:∀{P:List Str}{vs:List Value}{i:Nat}{m:Mq},P.Nodup->P[i]?=some x->vs[i]?=some v->kindOf x≠some .local ->bindC kindOf (P.zip vs) m x=some v
 |[],_,_,_,_,h,_,_=>by simp at h
 |_::_,[],_,_,_,_,h,_=>by simp at h
 |p::P,w::vs,0,m,nd,h1,h2,hk=>by simp at h1 h2;subst h1;subst h2;show bindC kindOf ((p,w)::P.zip vs) m p=_;unfold bindC;rw[AX fun v hv=>(gH.mp nd).1 (List.of_mem_zip hv).1,if_neg hk];simp
 |p::P,w::vs,i+1,m,nd,h1,h2,hk=>by show bindC kindOf ((p,w)::P.zip vs) m x=_;unfold bindC;exact AZ (i:=i) (gH.mp nd).2 (by simpa using h1) (by simpa using h2) hk
def start(N:List Str)(vs:List V):St:=vs.map some++List.replicate (N.length-vs.length) none
def gN(CX:CXT)(P:Program)(w:World)(K:W.Frag)(mg:Mq)(base:Heap)(N:List Str)(qual:Str)(scope:Scope)(f:Addr)(cd:Value)(A:Around)(outer:List Env)(s:Shared)(H:Hp)(E:XK):Cx where
 prog:=P
 w:=w
 K:=K
 mg:=mg
 base:=base
 A:=A.deeper (envOfC qual scope s.heap.objs.size f cd)
 N:=N
 s₀:=s
 H₀:=H
 env:=envOfC qual scope s.heap.objs.size f cd
 outer:=outer
 stack:=envOfC qual scope s.heap.objs.size f cd::outer
 ex:=[]
 calm:=true
 fn:=fun _=>true
 pn:=[]
 xe:=fun e s'=>wpAny (model P w) (A.deeper (envOfC qual scope s.heap.objs.size f cd)) (leaving (envOfC qual scope s.heap.objs.size f cd) e) (fun _ s''=>CX outer H s E e s'') (fun e' s''=>CX outer H s E e' s'') s'
def BA{sc:Scope}{n:Nat}{x:Str}(h:sc.names.lookup x=some .cell):∃c,(cellsFrom n sc.names []).lookup x=some c:=by have q:=W.cellsFrom_some sc.names n [] (.inl h);exact Option.isSome_iff_exists.mp q
theorem BB{CX:CXT}{P:Program}{w:World}{base:Heap}{N ps:List Str}{qual:Str}{f:Addr}{cd:Value}{A:Around}{s s1:Shared}{H:Hp}{E:XK}{us:List Value}{vs:List V}(S:FnScope N ps scope)(hd:A.handled=none)(e0:Env0 P w K mg base A outer s H)(hl:vs.length=ps.length)(r:aJ vs us)(x:InCallC s s.heap.objs.size (bindL (envOfC qual scope s.heap.objs.size f cd).kindOf (ps.zip us) fun _=>none) (cellsFrom (s.heap.objs.size+1) scope.names []) (bindC (envOfC qual scope s.heap.objs.size f cd).kindOf (ps.zip us) fun _=>none) s1):Inv (gN CX P w K mg base N qual scope f cd A outer s H E) [] (start N vs) H s1:=by
 have hpl:ps.length<=N.length:=by have:=aP List.length S.pre;rw[rE]at this;lia
 obtain⟨h1,tk,rfl,hk⟩:=x.done;have noA:∀b:Addr,b∉(gN CX P w K mg base N qual scope f cd A outer s H E).ex:=fun b z=>absurd (show b∈([]:List Addr)from z) (by simp);refine⟨⟨e0.mod,S.kind,rfl,rfl,bH _,fun y z c h1 h2=>?_,fun y hy=>?_,fun y c _ h=>?_,fun _=>hd,Around.frames_deeper e0.frames,.inr ⟨rfl,rfl⟩,fun b z=>absurd z (noA b),e0.bs,e0.bsz,fun b _ _=>noA b,fun b z=>absurd z (noA b),e0.funs,e0.frf⟩,
  rfl,e0.bare,Un.kept hk,⟨_,x.toInCall.ns,fun i y v h1 h2 h3=>?_⟩,fun y c h=>⟨_,x.cell y c h⟩,e0.hok.fresh (Nat.le_refl _),fun y c h=>?_,fun p hp=>absurd (show p∈([]:Pq)from hp) (by simp),e0.hok.kept hk,?_⟩
 .exact name_of_addr x.apart (PySem.mem_of_lookup h1) (PySem.mem_of_lookup h2)
 .have hy:scope.names.lookup y=some .cell\/scope.names.lookup y=some .free:=hy;rcases hy with hy|hy
  .exact BA hy
  .exact absurd rfl (S.nofree _ (PySem.mem_of_lookup hy))
 .exact Nat.le_of_lt (x.above y c (PySem.mem_of_lookup h))
 .have hi:i<vs.length:=by
   unfold start at h2;by_cases hi:i<vs.length
   .exact hi
   .rw[oS (by simpa using hi)]at h2;rw[List.getElem?_replicate]at h2;split at h2<;>cases h2
  have ha:vs[i]?=some v:=by
   unfold start at h2;rw[oU (by simpa using hi),List.getElem?_map]at h2;cases e:vs[i]? with
   |none=>rw[e]at h2;cases h2
   |some a=>rw[e]at h2;cases h2;rfl
  obtain⟨u,hu,rv⟩:=r.get ha;have hp:ps[i]?=some y:=by rw[<-S.pre,List.getElem?_take_of_lt (by lia)];exact h1
  have ndP:ps.Nodup:=by rw[<-S.pre];exact S.nd.sublist (List.take_sublist _ _)
  refine⟨u,rv,?_⟩;rcases S.par y (jL hp)with k|k
  .exact .inl ⟨k,AY ndP hp hu k⟩
  .obtain⟨c,e⟩:=BA (n:=s.heap.objs.size+1) k;refine .inr ⟨.inl k,c,e,?_⟩;have q:=x.cell y c e;rw[AZ ndP hp hu (by show scope.names.lookup y≠_;rw[k];decide)]at q;exact q
 .exact e0.hok.fresh (Nat.le_of_lt (x.above y c (PySem.mem_of_lookup h)))
 .unfold start;show _=N.length;rw[cP,bM,List.length_replicate];lia
theorem rN{CX:CXT}{P:Program}{w:World}{base:Heap}{k:Nat}{f:Addr}{name qual:Str}{params:Arguments}{body:List Stmt}{dV kV doc pm cdv ct oc:Value}{an od:a0 Addr}{osl:Array (a0 Value)}{N ps:List Str}{sp:Sp}(lk:K.lookup f=some ⟨oc,od,.func (W.fnOf name qual params body scope dV kV doc pm an cdv ct),osl⟩)(hcd:W.codeIn K cdv qual=true)(S:FnScope N ps scope)(len:∀vs H Q E,sp vs H Q E->vs.length=ps.length)(hbody:∀(A:Around)(outer:List Env)(s:Shared)(H:Hp)(vs:List V)(Q:VK)(E:XK),Room k (A.deeper (envOfC qual scope s.heap.objs.size f cdv))->sp vs H Q E ->∃t,PSs (gN CX P w K mg base N qual scope f cdv A outer s H E) body t/\t {nx:=fun _ H'=>Q .non H',rt:=Q} (start N vs) H):FnOk P w K mg base CX (k+1) f (W.fnOf name qual params body scope dV kV doc pm an cdv ct) ps sp:=by
 refine⟨len,fun A outer s H args us vs Q E hr e0 hb r hsp=>?_⟩;have hl:=len _ _ _ _ hsp;have KX:K.In s.heap:=e0.mod.kin.keeps fun b o e=>(e0.bs b o e).1;have lim:s.heap.NoLimit:=e0.mod.nolimit.keeps fun b o e=>(e0.bs b o e).1;have hkind:∀y∈ps.zip us,scope.names.lookup y.1=some .local\/(scope.names.lookup y.1=some .cell/\((cellsFrom (s.heap.objs.size+1) scope.names []).lookup y.1).isSome=true):=fun⟨n,v⟩ hy=>by
  rcases S.par n (List.of_mem_zip hy).1 with q|q
  .exact .inl q
  .exact .inr ⟨q,W.cellsFrom_some _ _ _ (.inl q)⟩
 refine codeAny_call_function hr.depth (KX _ _ lk) rfl S.co S.gen rfl (PySem.W.codeRec_of KX hcd) (hb _ _ _ _ ?_);refine wpAny_newFunctionEnv_cells S.kind hkind fun env he s1 x=>?_;subst he;refine⟨lim.keeps x.toInCall.keep,codeAny_func ?_⟩;obtain⟨t,ht,hq⟩:=hbody A outer s H vs Q E (hr.deeper _) hsp;have I:Inv (gN CX P w K mg base N qual scope f cdv A outer s H E) [] (start N vs) H s1:=BB S hr.hd e0 hl r x;refine gK (ht [] s1 (start N vs) H _ I hq) (fun fl s' hs=>?_) fun e s' hs=>hs;have fin:∀{O':St}{H':Hp}{v:V}{u:Value},Inv (gN CX P w K mg base N qual scope f cdv A outer s H E) [] O' H' s'->aG v u->Q v H'->CE outer P w H s Q u s' :=
  fun{O' H' v u}J rv q=>⟨v,H',J.os,J.bare,J.base,J.hok,rv,q⟩
 cases fl with
 |ret u=>obtain⟨v,O',H',J,rv,q⟩:=hs;exact fin J rv q
 |next=>obtain⟨O',H',J,q⟩:=hs;exact fin (v:=V.non) (u:=Value.none) J rfl q
 |brk=>obtain⟨_,_,_,q⟩:=hs;exact False.elim q
 |cont=>obtain⟨_,_,_,q⟩:=hs;exact False.elim q
end
section
variable {X:Cx}{x:Str}{p pos:Pos}{e:Expr}{es:List Expr}{t:TA}{id T:String}{r:List V->Hp->VK->Prop}
def tCB(r:List V->Hp->VK->Prop)(t:TA):TE:=fun O H Q=>t O H fun vs H1=>r vs H1 Q
theorem pC(hc:iA X (.builtin id) r)(hg:Gl X x)(hm:X.mg x=none)(hv:bootBuiltins x=some (.builtin id))(ha:PA X (e::es) t)(hn:x≠"__name__":=by decide)(hdb:(x==("__debug__":Str))=false:=by decide)
  (he:starEach (e::es) X.env=(false,eval e X.env)::starEach es X.env:=by rfl) (hpl:(backTo pos (starEach es X.env)).any (·.1)=false:=by rfl):PE X (.Call (.Name x p) (e::es) [] pos) (tCB r t):=by
 intro pj s O H Q I h;refine wpAny_Call_Name_kw (mH I hg hm hv ?_ hn hdb);exact PyProof.Rows.callWith_builtin1 (thn (ha pos pj s O H _ I h) fun us s1 ⟨vs,H1,I1,r1,q1⟩=>hc pj s1 O H1 vs us Q I1 r1 q1) he hpl
theorem BC(hc:iA X (.type T) r)(hg:Gl X x)(hm:X.mg x=none)(hv:bootBuiltins x=some (.type T))(ha:PA X (e::es) t)(hn:x≠"__name__":=by decide)(hdb:(x==("__debug__":Str))=false:=by decide)
  (he:starEach (e::es) X.env=(false,eval e X.env)::starEach es X.env:=by rfl) (hpl:(backTo pos (starEach es X.env)).any (·.1)=false:=by rfl):PE X (.Call (.Name x p) (e::es) [] pos) (tCB r t):=by
 intro pj s O H Q I h;refine wpAny_Call_Name_kw (mH I hg hm hv ?_ hn hdb);exact PyProof.Rows.callWith_type1 (thn (ha pos pj s O H _ I h) fun us s1 ⟨vs,H1,I1,r1,q1⟩=>hc pj s1 O H1 vs us Q I1 r1 q1) he hpl
end
end L2
namespace HT
open PySem PyProof.Rows
variable {lo hi:a0 Int}
section
open PySem.SeqAt
open PySem.AutoSeq1 (wpAny_loadPart')
open PySem.MeetsSeq PySem.MeetsSeq2 PySem.MeetsSeq3
end
theorem cat_tup(ht:IsTup s.heap t vs.toArray)(hb:IsTup s.heap b ws.toArray)(hv:vs≠[])(h1:ws=[]->Q (.ref t) s)(h2:ws≠[]->Q (.ref s.heap.objs.size) {s with heap:=s.heap.push {cls:=.type "tuple",data:=.seq (vs++ws).toArray} })(hsz:vs.length+ws.length<=sizeLine):wpAny (model prog w) A (binaryOp .Add (.ref t) (.ref b)) Q E s:=by
 obtain⟨⟨cls,dd,data,sl⟩,ho,hc,n,hd⟩:=id ht;obtain⟨⟨cls2,dd2,data2,sl2⟩,ho2,hc2,n2,hd2⟩:=id hb;simp only at hc hd hc2 hd2;subst hc hd hc2 hd2;have e:vs.toArray++ws.toArray=(vs++ws).toArray:=by simp
 by_cases hw:ws=[]
 .exact concat_meets ⟨_,ho,rfl⟩ ⟨_,ho2,rfl⟩ noFill_tuple_add seq_tuple_add PySem.F.slot_tuple_add PySem.F.entry_tuple_add (PySem.F.args_tuple_add_2 _ _)
   (tuple_addW1 t b vs.toArray ws.toArray n n2 dd dd2 sl sl2 (by simpa using hv) (by simp[hw])) ⟨ho,ho2,h1 hw⟩
 .refine concat_meets ⟨_,ho,rfl⟩ ⟨_,ho2,rfl⟩ noFill_tuple_add seq_tuple_add PySem.F.slot_tuple_add PySem.F.entry_tuple_add (PySem.F.args_tuple_add_2 _ _)
   (tuple_addW2 t b vs.toArray ws.toArray n n2 dd dd2 sl sl2 (by simpa using hv) (by simpa using hw) (by rw[lE,lE];exact hsz)) ⟨ho,ho2,?_⟩
  rw[e];exact h2 hw
def sIx(n d:Nat):a0 Int->Nat
 |none=>d
 |some v=>if v<0 then(v+(n:Int)).toNat else min v.toNat n
theorem MY(n d:Nat)(hd:d<=n)(o:a0 Int):sIx n d o<=n:=by
 cases o with
 |none=>exact hd
 |some v=>
  show(if v<0 then(v+(n:Int)).toNat else min v.toNat n)<=n;by_cases hv:v<0
  .rw[if_pos hv];lia
  .rw[if_neg hv];exact Nat.min_le_right _ _
theorem BD(v:Int)(n d:Nat):(if v<0 then max (v+(n:Int)) 0 else min v (n:Int))=((sIx n d (some v):Nat):Int):=by
 show(if v<0 then max (v+(n:Int)) 0 else min v (n:Int))=(((if v<0 then(v+(n:Int)).toNat else min v.toNat n):Nat):Int);by_cases hv:v<0
 .simp only[if_pos hv];lia
 .simp only[if_neg hv];lia
theorem MZ(lo hi:a0 Int)(n:Nat):Builtin.Slice.sliceAdjust lo hi 1 (n:Int)=(((sIx n 0 lo:Nat):Int),((sIx n n hi:Nat):Int)):=by
 have h1:¬((1:Int)<0):=by lia
 unfold Builtin.Slice.sliceAdjust;simp only[h1,if_false];refine Prod.ext ?_ ?_
 .cases lo with
  |none=>rfl
  |some v=>exact BD v n 0
 .cases hi with
  |none=>rfl
  |some v=>exact BD v n n
theorem NA(i j:Nat):Builtin.Slice.slicePlaces (i:Int) (j:Int) 1=j-i:=by
 unfold Builtin.Slice.slicePlaces;have h1:(1:Int)>0:=by lia
 simp only[h1,if_true,Int.ediv_one];split<;>lia
theorem BE(p:IsPart v o)(h:Q o s):wpAny (model prog w) A (Builtin.Slice.slicePartIndex v) Q E s:=by
 cases p with
 |none=>exact slicePart_none h
 |int i t=>exact slicePart_int h
theorem sliceApplied_gen{Q:Int×Int×Nat->Shared->Prop}(hs:s.heap.IsSliceOf sl vl vu .none)(pl:IsPart vl lo)(pu:IsPart vu hi)(h:Q (((sIx n 0 lo:Nat):Int),1,sIx n n hi-sIx n 0 lo) s):wpAny (model prog w) A (Builtin.Slice.sliceApplied (.ref sl) (pure (n:Int))) Q E s:=by
 obtain⟨os,hos,hcs,hds⟩:=id hs;unfold Builtin.Slice.sliceApplied Builtin.Slice.sliceFields;refine aF (aF (eM hos hds (x:=vl) rfl (aF (eM hos hds (x:=vu) rfl (aF (eM hos hds (x:=.none) rfl (aQ ?_)))))));refine aF (slicePart_none ?_);show wpAny _ _ (if((1:Int)==0)=true then _ else _) _ _ s;rw[if_neg (by decide)];refine aF (BE pl (aF (BE pu (aF (aQ ?_)))));show wpAny _ _ (match Builtin.Slice.sliceAdjust lo hi 1 (n:Int)with|(lo,hi)=>pure (lo,(1:Int),Builtin.Slice.slicePlaces lo hi 1)) _ _ s;rw[MZ lo hi n];show wpAny _ _ (pure (((sIx n 0 lo:Nat):Int),(1:Int),Builtin.Slice.slicePlaces ((sIx n 0 lo:Nat):Int) ((sIx n n hi:Nat):Int) 1)) _ _ s;rw[NA];exact aQ h
theorem NB(xs:Array Value)(i k:Nat):((List.range k).filterMap fun(m:Nat)=>xs[((i:Int)+(m:Int)*1).toNat]?).toArray=((xs.toList.drop i).take k).toArray:=by
 have e:(fun(m:Nat)=>xs[((i:Int)+(m:Int)*1).toNat]?)=fun m=>xs[i+m]?:=by
  funext m;have:((i:Int)+(m:Int)*1).toNat=i+m:=by lia
  rw[this]
 rw[e];have:=pick_run xs i k;rw[List.filterMap_map]at this;have e2:((fun x=>xs[x]?)∘fun x=>i+x)=fun m=>xs[i+m]?:=rfl;rw[e2]at this;rw[this]
theorem getItem_tuple_cut{Q:Vq}(ht:IsTup s.heap t items)(hs:s.heap.IsSliceOf sl vl vu .none)(pl:IsPart vl lo)(pu:IsPart vu hi)(hw:¬(sIx items.size 0 lo=0/\sIx items.size items.size hi=items.size))(h:Q (.ref s.heap.objs.size) {s with heap:=s.heap.push {cls:=.type "tuple",data:=.seq ((items.toList.drop (sIx items.size 0 lo)).take (sIx items.size items.size hi-sIx items.size 0 lo)).toArray} })(hsz:items.size<=sizeLine):wpAny (model prog w) A (getItem (.ref t) (.ref sl)) Q E s:=by
 have htake:sizeOk (.seq ((items.toList.drop (sIx items.size 0 lo)).take (sIx items.size items.size hi-sIx items.size 0 lo)).toArray):=by show((items.toList.drop (sIx items.size 0 lo)).take (sIx items.size items.size hi-sIx items.size 0 lo)).toArray.size<=sizeLine;rw[cW,rE,List.length_drop,kE];lia
 have hj:sIx items.size items.size hi<=items.size:=MY _ _ (bH _) hi;obtain⟨os,hos,hcs,hds⟩:=id hs;have hTs:s.TypeIs (.ref sl) "slice":=⟨os,hos,hcs⟩;unfold getItem
 try with_reducible refine iY ?_
 first|refine aF (aQ ?_)|skip
 refine aF (wpAny_sequenceKey ht.typeIs (by decide) ?_);refine aF (lJ (name:=Str.ofString "__getitem__") ht.typeIs PyProof.Rows.slot_tuple_getitem
  (jN PyProof.Rows.slot_tuple_getitem ht.typeIs entry_tuple_getitem ?_ (args_tuple_getitem _ _)))
 show wpAny _ _ (Builtin.Tuple.tupleItemsOf (.ref t) >>= _) _ _ s;refine aF (tupleItemsOf_ ht ?_);refine aF (wpAny_typeOf hTs ?_);rw[if_pos (by decide)];refine aF (sliceApplied_gen hs pl pu ?_);have hno:¬((((sIx items.size 0 lo:Nat):Int)==0&&(1:Int)==1&&(sIx items.size items.size hi-sIx items.size 0 lo)==items.size)=true):=by intro q;rw[dF,dF]at q;have q1:((sIx items.size 0 lo:Nat):Int)=0:=cK q.1.1;have q2:sIx items.size items.size hi-sIx items.size 0 lo=items.size:=cK q.2;exact hw ⟨by lia,by lia⟩
 show wpAny _ _ (if(((sIx items.size 0 lo:Nat):Int)==0&&(1:Int)==1&&(sIx items.size items.size hi-sIx items.size 0 lo)==items.size)=true then _ else _) _ _ s;rw[if_neg hno,NB]
 first
  |exact aF (m:=Builtin.Tuple.tupleExact _) (jM (aQ ⟨_,rfl,aQ h⟩) htake)
  |exact aF (m:=Builtin.Tuple.tupleExact _) (jM (aF (aQ (aQ ⟨_,rfl,aQ h⟩))) htake)
  |exact aF (aF (m:=Builtin.Tuple.tupleExact _) (jM (aQ (aQ ⟨_,rfl,aQ h⟩)) htake))
  |exact aF (aF (m:=Builtin.Tuple.tupleExact _) (jM (aQ ⟨_,rfl,aQ h⟩) htake))
end HT
namespace L2
open PySem Spec PyProof.Rows
abbrev TO:=St->Hp->(a0 Int->Hp->Prop)->Prop
def PO(X:Cx)(e:a0 Expr)(t:TO):Prop :=
 ∀(pj:Pq)(s:Shared)(O:St)(H:Hp)(Q:a0 Int->Hp->Prop),Inv X pj O H s->t O H Q->
  wpAny (model X.prog X.w) X.A (evalPart e X.env) (fun u s'=>∃o H',Inv X pj O H' s'/\IsPart u o/\Q o H') X.xe s
def NC:TO:=fun _ H Q=>Q none H
def ND(t:TE):TO:=fun O H Q=>t O H fun x H1=>∃i,x=.int i/\Q (some i) H1
theorem NE:∀{us:List Value},aJ (ns.map V.int) us->IntsAre us ns:=by
 induction ns with
 |nil=>intro us r;rw[List.map_nil]at r;cases r;exact .nil
 |cons n ns ih=>
  intro us r;rw[bE]at r;cases r with
  |cons r1 r2=>obtain⟨t,e⟩:=r1;subst e;exact .cons n t (ih r2)
section
variable {X:Cx}{e:Expr}{te:TE}{lo hi:a0 Expr}{tl th:TO}{pos p2:Pos}
def NF:PO X none NC:=by intro pj s O H Q I h;rw[evalPart_none];exact aQ ⟨none,H,I,.none,h⟩
def NG(h:PE X e te):PO X (some e) (ND te):=by intro pj s O H Q I hw;rw[evalPart_some];refine thn (h pj s O H _ I hw) fun u s1 ⟨x,H1,I1,r1,q1⟩=>?_;obtain⟨i,rfl,q⟩:=q1;obtain⟨t,rfl⟩:=r1;exact⟨some i,H1,I1,.int i t,q⟩
def SlR(X:Cx)(r:V->a0 Int->a0 Int->Hp->VK->Prop):Prop :=
 ∀(pj:Pq)(s:Shared)(O:St)(H:Hp)(x:V)(v vl vu:Value)(lo hi:a0 Int)(sl:Addr)(Q:VK),Inv X pj O H s->aG x v->s.heap.IsSliceOf sl vl vu .none->IsPart vl lo->IsPart vu hi->r x lo hi H Q->
  ∃T id,typeLookup (.type T) "__getitem__"=pure (some (.builtin id))/\s.TypeIs v T/\wpAny (model X.prog X.w) X.A (getItem v (.ref sl)) (EP X pj O Q) X.xe s
def tSl(r:V->a0 Int->a0 Int->Hp->VK->Prop)(te:TE)(tl th:TO):TE:=fun O H Q=>te O H fun x H1=>tl O H1 fun l H2=>th O H2 fun u H3=>r x l u H3 Q
theorem BF(hr:SlR X r)(he:PE X e te)(hl:PO X lo tl)(hu:PO X hi th):PE X (.Subscript e (.Slice lo hi none p2) pos) (tSl r te tl th):=by intro pj s O H Q I h;refine Subscript_ (thn (he pj s O H _ I h) fun v s1 ⟨x,H1,I1,r1,q1⟩=>?_);refine wpAny_Slice (thn (hl pj s1 O H1 _ I1 q1) fun vl s2 ⟨l,H2,I2,pl,q2⟩=>thn (hu pj s2 O H2 _ I2 q2) fun vu s3 ⟨u,H3,I3,pu,q3⟩=>?_);rw[evalPart_none];refine aQ ?_;have I4:Inv X pj O H3 {s3 with heap:=s3.heap.push {cls:=.type "slice",data:=.fields #[vl,vu,.none]} }:=I3.kept (t':=s3.toks) fun b ob q=>aT _ q;obtain⟨T,id,hT,ht,hg⟩:=hr pj {s3 with heap:=s3.heap.push {cls:=.type "slice",data:=.fields #[vl,vu,.none]} } O H3 x v vl vu l u s3.heap.objs.size Q I4 r1 (Heap.IsSliceOf.new ..) pl pu q3;show wpAny (model X.prog X.w) X.A (subscriptTail e (.Slice lo hi none p2) v (.ref s3.heap.objs.size)) (EP X pj O Q) X.xe {s3 with heap:=s3.heap.push {cls:=.type "slice",data:=.fields #[vl,vu,.none]} };exact tail_any (ops:=[.ref s3.heap.objs.size,v]) ht hT hg (by with_unfolding_all rfl)
def jO(xs:List V)(lo hi:a0 Int):List V:=(xs.drop (HT.sIx xs.length 0 lo)).take (HT.sIx xs.length xs.length hi-HT.sIx xs.length 0 lo)
theorem BG(xs:List V)(lo hi:a0 Int):(jO xs lo hi).length<=xs.length:=by unfold jO;rw[rE,List.length_drop];lia
def rSlT(K:W.Frag):V->a0 Int->a0 Int->Hp->VK->Prop:=fun x lo hi H Q=>∃a xs,x=.ref a/\SqT K H a xs /\
 ¬(HT.sIx xs.length 0 lo=0/\HT.sIx xs.length xs.length hi=xs.length)/\∀p,H p=none->Q (.ref p) (aL H p (.tup (jO xs lo hi)))
theorem NH:SlR X (rSlT X.K):=by
 rintro pj s O H x v vl vu lo hi sl Q I rx hs pl pu⟨a,xs,rfl,hx,hw,q⟩;cases rx;obtain⟨qc,r,ht,hz⟩:=I.tuple hx;have hlen:qc.toArray.size=xs.length:=by rw[cW];exact r.length.symm
 refine⟨"tuple",_,PyProof.Rows.slot_tuple_getitem.lookup,ht.typeIs,?_⟩;refine HT.getItem_tuple_cut ht hs pl pu (by rw[hlen];exact hw) ?_ (by rw[hlen];exact hz);rw[hlen];refine⟨.ref s.heap.objs.size,_,I.laid (t':=s.toks) (o:=.tup (jO xs lo hi)) (fun b ob q=>aT _ q) (bH _) ?_,rfl,q _ (I.hok.fresh (bH _))⟩;exact⟨dY (BG xs lo hi) hz,_,(r.drop (HT.sIx xs.length 0 lo)).take (HT.sIx xs.length xs.length hi-HT.sIx xs.length 0 lo),IsTup.new _ _⟩
end
def ixN(n:Nat)(i:Int):a0 Nat:=if 0<=i then(if i<n then some i.toNat else none)else if -(n:Int)<=i then some (i+n).toNat else none
def atI{α:Type}(xs:List α)(i:Int):a0 α:=(ixN xs.length i).bind fun j=>xs[j]?
theorem BH(h:ixN n i=some j):seqIndex? i n=some j/\j<n /\ -(n:Int)<=i/\i<n:=by
 unfold ixN at h;by_cases h0:0<=i
 .rw[if_pos h0]at h;by_cases h1:i<n
  .rw[if_pos h1]at h;have e:i.toNat=j:=dU h;exact⟨by rw[seqIndex_of h0 h1,e],by lia,by lia,h1⟩
  .rw[if_neg h1]at h;cases h
 .rw[if_neg h0]at h;by_cases h1 : -(n:Int)<=i
  .rw[if_pos h1]at h;have e:(i+n).toNat=j:=dU h;exact⟨by rw[seqIndex_neg (by lia) h1,e],by lia,h1,by lia⟩
  .rw[if_neg h1]at h;cases h
theorem BI{α:Type}{xs:List α}{i:Int}{v:α}(h:atI xs i=some v):∃j,seqIndex? i xs.length=some j/\xs[j]?=some v/\j<xs.length /\ -(xs.length:Int)<=i/\i<xs.length:=by
 unfold atI at h;cases e:ixN xs.length i with
 |none=>rw[e]at h;cases h
 |some j=>rw[e]at h;obtain⟨h1,h2,h3,h4⟩:=BH e;exact⟨j,h1,h,h2,h3,h4⟩
def vO(b:Expr):Prop:=∀o i,subscripted b false o i=operate [o,i] (getItem o i)
def IxR(X:Cx)(r:R2):Prop :=
 ∀(value slice:Expr)(pj:Pq)(s:Shared)(O:St)(H:Hp)(x y:V)(v u:Value)(Q:VK),Inv X pj O H s->aG x v->aG y u->r x y H Q->
  subscripted slice false v u=operate [v,u] (getItem v u)->wpAny (model X.prog X.w) X.A (subscriptTail value slice v u) (EP X pj O Q) X.xe s
def MtR(X:Cx)(id:String)(r:V->List V->Hp->VK->Prop):Prop :=
 ∀(pj:Pq)(s:Shared)(O:St)(H:Hp)(x:V)(xs:List V)(v:Value)(us:List Value)(Q:VK),Inv X pj O H s->aG x v->aJ xs us->r x xs H Q->
  wpAny (model X.prog X.w) X.A (call (.builtin id) (v::us)) (EP X pj O Q) X.xe s
section
variable {X:Cx}{a b:Expr}{ta tb:TE}{pos:Pos}
def NI(hr:IxR X r)(ha:PE X a ta)(hb:PE X b tb)(hs:vO b):PE X (.Subscript a b pos) (tOp r ta tb):=by intro pj s O H Q I h;exact Subscript_ (bO ha hb I h fun v u s2 x y H2 I2 rx ry q=>hr a b pj s2 O H2 x y v u Q I2 rx ry q (hs _ _))
def rIxL(K:W.Frag):R2:=fun x y H Q=>∃p xs i v,x=.ref p/\y=.int i/\SqL K H p xs/\atI xs i=some v/\Q v H
def rIxT(K:W.Frag):R2:=fun x y H Q=>∃p xs i v,x=.ref p/\y=.int i/\SqT K H p xs/\atI xs i=some v/\Q v H
theorem NJ:IxR X (rIxL X.K):=by
 intro value slice pj s O H x y v u Q I rx ry h hs;obtain⟨p,xs,i,z,rfl,rfl,hq,he,q⟩:=h;cases rx;obtain⟨t,rfl⟩:=ry;obtain⟨qc,r,pl,hz⟩:=I.list hq;obtain⟨j,h1,h2,h3,h4,h5⟩:=BI he;obtain⟨w,ew,rw'⟩:=r.get h2;have hl:=r.length;have hn:=pB;have fin:EP X pj O Q w s:=⟨z,H,I,rw',q⟩;by_cases h0:0<=i
 .have hj:i.toNat=j:=by rw[seqIndex_of h0 h5]at h1;exact dU h1
  exact item_listR pl.isList h0 (by lia) (by rw[hj];simpa using ew) fin hs
 .have hj:(i+(qc.toArray.size:Int)).toNat=j:=by rw[seqIndex_neg (by lia) h4]at h1;rw[cW,<-hl];exact dU h1
  exact subscriptTail_builtinR (x:=w) pl.isList.typeIs slot_list_getitem.lookup
   (wpAny_getItem_list_neg (Q:=fun r s'=>r=w/\EP X pj O Q r s') pl.isList (by lia) (by rw[lE]<;>lia) (by lia) (by rw[hj];simpa using ew) ⟨rfl,fin⟩) hs
theorem NK:IxR X (rIxT X.K):=by
 intro value slice pj s O H x y v u Q I rx ry h hs;obtain⟨p,xs,i,z,rfl,rfl,hq,he,q⟩:=h;cases rx;obtain⟨t,rfl⟩:=ry;obtain⟨qc,r,pl,hz⟩:=I.tuple hq;obtain⟨j,h1,h2,h3,h4,h5⟩:=BI he;obtain⟨w,ew,rw'⟩:=r.get h2;have hl:=r.length;have hn:=pB;have fin:EP X pj O Q w s:=⟨z,H,I,rw',q⟩;exact subscriptTail_builtinR (x:=w) pl.typeIs slot_tuple_getitem.lookup
  (getItem_tuple (j:=j) (Q:=fun r s'=>r=w/\EP X pj O Q r s') pl (by lia) (by lia) (by rw[lE,<-hl];exact h1) (by simpa using ew) ⟨rfl,fin⟩) hs
theorem NM(qc:List Value)(n j:Nat)(u:Value):Obj.mapSeq (·.setIfInBounds j u) {cls:=.type "list",data:=.seq qc.toArray n}={cls:=.type "list",data:=.seq (qc.set j u).toArray n}:=by simp[Obj.mapSeq]
theorem Inv.lst{pj:Pq}{O:St}{H:Hp}{s:Shared}{p:Addr}{xs:List V}(I:Inv X pj O H s)(h:H p=some (.lst xs)):∃(qc:List Value)(n:Nat),aJ xs qc/\s.heap.get? p=some {cls:=.type "list",data:=.seq qc.toArray n}/\xs.length<=sizeLine:=by
 obtain⟨z,qc,n,r,e⟩:=I.hok p _ h;exact⟨qc,n,r,e,z⟩
theorem Inv.lstUpd{pj:Pq}{O:St}{H:Hp}{s:Shared}{p:Addr}{xs ys:List V}{qc its':List Value}{n n':Nat}{f:Obj->Obj}(I:Inv X pj O H s)(h:H p=some (.lst xs))(ho:s.heap.get? p=some {cls:=.type "list",data:=.seq qc.toArray n})(hf:f {cls:=.type "list",data:=.seq qc.toArray n}={cls:=.type "list",data:=.seq its'.toArray n'})(r:aJ ys its')(hz:ys.length<=sizeLine)(t:Nat):Inv X pj O (aL H p (.lst ys)) {s with heap:=s.heap.update p f,toks:=t}:=by
 have e:(s.heap.update p f).get? p=some {cls:=.type "list",data:=.seq its'.toArray n'}:=by rw[Heap.get?_update_self f ho (by rw[hf]<;>rfl),hf]
 refine I.write (x:=p) (e:=p) (by rw[h];trivial) (.inl rfl) (fun b u hb q=>(Heap.get?_update_other _ _ (Ne.symm hb)).trans q) ⟨_,e⟩ ?_;exact⟨hz,its',n',r,e⟩
def BJ:V->V->V->Hp->(Hp->Prop)->Prop:=fun o i v H Q=>∃p xs k j,o=.ref p/\i=.int k/\H p=some (.lst xs)/\ixN xs.length k=some j/\Q (aL H p (.lst (xs.set j v)))
theorem NN:PSet X BJ:=by
 rintro pj s O H o i v ov iv u Q I ro ri rv⟨p,xs,k,j,rfl,rfl,hp,hj,q⟩;cases ro;obtain⟨t,rfl⟩:=ri;obtain⟨qc,n,r,ho,hz⟩:=I.lst hp;obtain⟨h1,h2,h3,h4⟩:=BH hj;have hl:=r.length;have hn:=pB;have I':Inv X pj O (aL H p (.lst (xs.set j v))) {s with heap:=s.heap.update p (Obj.mapSeq (·.setIfInBounds j u))} :=
  I.lstUpd hp ho (NM qc n j u) (r.set rv j) (by rw[fU];exact hz) s.toks
 by_cases h0:0<=k
 .have hk:k.toNat=j:=by rw[seqIndex_of h0 h4]at h1;exact dU h1
  exact PySem.W.ki_setAt ho h0 (by lia) (by rw[cW,<-hl];exact h4) (by rw[hk];exact⟨_,I',q⟩)
 .have hk:(k+(qc.toArray.size:Int)).toNat=j:=by rw[seqIndex_neg (by lia) h3]at h1;rw[cW,<-hl];exact dU h1
  exact PySem.W.ki_setBack ho (by lia) (by rw[cW,<-hl];exact h3) (by lia) (by rw[hk];exact⟨_,I',q⟩)
theorem NO(lo hi:a0 Int)(n:Nat):(sliceBounds lo hi none n).1=((HT.sIx n 0 lo:Nat):Int)/\(sliceBounds lo hi none n).2.1=((HT.sIx n n hi:Nat):Int)/\(sliceBounds lo hi none n).2.2=1:=by
 refine⟨?_,?_,rfl⟩
 .cases lo with
  |none=>simp[sliceBounds,HT.sIx]
  |some i=>
   simp only[sliceBounds,HT.sIx,Option.getD_none,show(1:Int)>0 by decide,if_true];by_cases h:i<0
   .simp only[h,if_true]<;>lia
   .simp only[h,if_false]<;>lia
 .cases hi with
  |none=>simp[sliceBounds,HT.sIx]
  |some i=>
   simp only[sliceBounds,HT.sIx,Option.getD_none,show(1:Int)>0 by decide,if_true];by_cases h:i<0
   .simp only[h,if_true]<;>lia
   .simp only[h,if_false]<;>lia
theorem NP(qc:List Value)(lo hi:a0 Int):slicePick qc.toArray lo hi none=((qc.drop (HT.sIx qc.length 0 lo)).take (HT.sIx qc.length qc.length hi-HT.sIx qc.length 0 lo)).toArray:=by obtain⟨h1,h2,h3⟩:=NO lo hi qc.toArray.size;unfold slicePick;rw[h1,h2,h3];simp only[sliceRange_one,pick_run,List.size_toArray]<;>rfl
def rSlL(K:W.Frag):V->a0 Int->a0 Int->Hp->VK->Prop:=fun x lo hi H Q=>∃a xs,x=.ref a/\SqL K H a xs/\∀p,H p=none->Q (.ref p) (aL H p (.lst (jO xs lo hi)))
theorem BK:SlR X (rSlL X.K):=by rintro pj s O H x v vl vu lo hi sl Q I rx hs pl pu⟨a,xs,rfl,hx,q⟩;cases rx;obtain⟨qc,r,ht,hz⟩:=I.list hx;have hlen:=r.length;refine⟨"list",_,slot_list_getitem.lookup,ht.isList.typeIs,?_⟩;refine wpAny_getItem_list_slice ht.isList hs pl pu .none (by simp) ?_ (by rw[lE]<;>lia);rw[NP,<-hlen];refine⟨.ref s.heap.objs.size,_,I.laid (t':=s.toks) (o:=.lst (jO xs lo hi)) (fun b ob q=>aT _ q) (bH _) ?_,rfl,q _ (I.hok.fresh (bH _))⟩;exact⟨dY (BG xs lo hi) hz,_,0,(r.drop (HT.sIx xs.length 0 lo)).take (HT.sIx xs.length xs.length hi-HT.sIx xs.length 0 lo),cQ _ rfl⟩
theorem BM:iA X (.builtin "len") (fun xs H Q=>∃p ys,xs=[.ref p]/\(SqL X.K H p ys\/SqT X.K H p ys)/\Q (.int ys.length) H):=by
 rintro pj s O H xs us Q I r⟨p,ys,rfl,hq,q⟩;obtain⟨u,rfl,rx⟩:=iC r;cases rx;have hn:=pB;rcases hq with hq|hq
 .obtain⟨qc,r',pl,hz⟩:=I.list hq;have hlen:=r'.length;exact Calls.call_len_list pl.isList (by simp only[List.size_toArray]<;>lia) ⟨.int ys.length,H,I.tok _,⟨s.toks+1,by rw[lE,hlen]⟩,q⟩
 .obtain⟨qc,r',pl,hz⟩:=I.tuple hq;have hlen:=r'.length;exact len_tuple pl (by simp only[List.size_toArray]<;>lia) ⟨.int ys.length,H,I.tok _,⟨s.toks+1,by rw[lE,hlen]⟩,q⟩
theorem rO:iA X (.type "list") (fun xs H Q=>∃p ys,xs=[.ref p]/\(SqL X.K H p ys\/SqT X.K H p ys)/\∀l,H l=none->Q (.ref l) (aL H l (.lst ys))):=by
 rintro pj s O H xs us Q I r⟨p,ys,rfl,hq,q⟩;obtain⟨u,rfl,rx⟩:=iC r;cases rx;have fin:∀(qc:List Value),aJ ys qc->ys.length<=sizeLine->∀(h':Heap)(c':Nat),(∀b o',s.heap.get? b=some o'->h'.get? b=some o')->
   h'.get? s.heap.objs.size=some {cls:=.type "list",dict:=none,data:=.seq qc.toArray c',slots:=#[]}->EP X pj O Q (.ref s.heap.objs.size) {s with heap:=h'}:=fun qc r' hz h' c' kp e=>
  ⟨.ref s.heap.objs.size,_,I.laid (t':=s.toks) kp (bH _) (show aU X.prog X.w _ h' _ (.lst ys)from⟨hz,qc,c',r',e⟩),rfl,q _ (I.hok.fresh (bH _))⟩
 rcases hq with hq|hq
 .obtain⟨qc,r',pl,hz⟩:=I.list hq;have hlen:=r'.length;obtain⟨o,ho,hc,n,hd⟩:=pl.isList;exact call_list_seq p (.inl rfl) ho hc hd (fun h' c' kp e=>fin qc r' hz h' c' kp e) (by simp only[List.size_toArray]<;>lia)
 .obtain⟨qc,r',pl,hz⟩:=I.tuple hq;have hlen:=r'.length;obtain⟨o,ho,hc,n,hd⟩:=pl;exact call_list_seq p (.inr rfl) ho hc hd (fun h' c' kp e=>fin qc r' hz h' c' kp e) (by simp only[List.size_toArray]<;>lia)
theorem BN:iA X (.type "tuple") (fun xs H Q=>∃p ys,xs=[.ref p]/\((SqL X.K H p ys/\∀l,H l=none->Q (.ref l) (aL H l (.tup ys)))\/(SqT X.K H p ys/\Q (.ref p) H))):=by
 rintro pj s O H xs us Q I r⟨p,ys,rfl,h⟩;obtain⟨u,rfl,rx⟩:=iC r;cases rx;rcases h with⟨hq,q⟩|⟨hq,q⟩
 .obtain⟨qc,r',pl,hz⟩:=I.list hq;have hlen:=r'.length;refine call_tuple_list pl.isList (fun h' kp=>?_) (by simp only[List.size_toArray]<;>lia);have I1:Inv X pj O H {s with heap:=h'}:=I.kept (t':=s.toks) kp;have I2:Inv X pj O (aL H h'.objs.size (.tup ys)) {s with heap:=h'.push {cls:=.type "tuple",data:=.seq qc.toArray} } :=
   I1.laid (t':=s.toks) (fun b o e=>aT _ e) (bH _) (show aU X.prog X.w _ _ _ (.tup ys)from⟨hz,qc,r',IsTup.new _ _⟩)
  exact⟨.ref h'.objs.size,_,I2,rfl,q _ (I1.hok.fresh (bH _))⟩
 .obtain⟨qc,r',pl,hz⟩:=I.tuple hq;exact call_tuple_same pl ⟨.ref p,H,I,rfl,q⟩
def tyV(K:W.Frag)(T:String)(x:V)(H:Hp):Prop:=match x with
 |.str _=>T="str"
 |.int _=>T="int"
 |.ref p=>(T="list"/\∃xs,SqL K H p xs)\/(T="tuple"/\∃o,K.lookup p=some o/\o.cls=.type "tuple"/\o.dict=none) \/
   (T="dict"/\((∃qb,H p=some (.dK qb))\/∃qb,H p=some (.dT qb)))\/(T="set"/\∃S n,H p=some (.set S n))
 |_=>False
theorem BO(I:Inv X pj O H s)(r:aG x v)(ty:tyV X.K T x H):s.TypeIs v T/\∀a,v=.ref a->∃ob,s.heap.get? a=some ob/\ob.dict=none:=by
 cases x with
 |str z=>obtain⟨t,rfl⟩:=r;cases(show T="str" from ty);exact⟨typeIs_str s z t,fun _ e=>nomatch e⟩
 |int i=>obtain⟨t,rfl⟩:=r;cases(show T="int" from ty);exact⟨typeIs_int s i t,fun _ e=>nomatch e⟩
 |ref p=>
  cases r;rcases ty with⟨rfl,xs,hq⟩|⟨rfl,o,hk,hc,hd⟩|⟨rfl,hk⟩|⟨rfl,S,n,hk⟩
  .obtain⟨qc,_,pl,_⟩:=I.list hq;refine⟨pl.isList.typeIs,fun a e=>?_⟩;cases e;obtain⟨o,n,e,c,hd,_⟩:=pl;exact⟨o,e,hd⟩
  .refine⟨⟨o,I.kIn p o hk,hc⟩,fun a e=>?_⟩;cases e;exact⟨o,I.kIn _ o hk,hd⟩
  .have z:∃o,s.heap.get? p=some o/\o.ExactDict:=by
    rcases hk with⟨qb,hk⟩|⟨qb,hk⟩
    .obtain⟨_,_,_,_,o,_,_,e,ex,_⟩:=I.hok p _ hk;exact⟨o,e,ex⟩
    .obtain⟨_,_,_,_,o,_,_,e,ex,_⟩:=I.hok p _ hk;exact⟨o,e,ex⟩
   obtain⟨o,e,ex⟩:=z;refine⟨⟨o,e,ex.1⟩,fun a e2=>?_⟩;cases e2;exact⟨o,e,ex.2.1⟩
  .obtain⟨o,_,_,_,e,ex,_⟩:=I.hok p _ hk;refine⟨⟨o,e,ex.1⟩,fun a e2=>?_⟩;cases e2;exact⟨o,e,ex.2.1⟩
 |_=>exact False.elim ty
def tBM0(K:W.Frag)(T:String)(r:V->List V->Hp->VK->Prop)(to:TE):TE:=fun O H Q=>to O H fun x H1=>tyV K T x H1/\r x [] H1 Q
def tBM(K:W.Frag)(T:String)(r:V->List V->Hp->VK->Prop)(to:TE)(t:TA):TE:=fun O H Q=>to O H fun x H1=>tyV K T x H1/\t O H1 fun xs H2=>r x xs H2 Q
variable {o e:Expr}{es:List Expr}{to:TE}{t:TA}{name:Str}{apos cpos:Pos}{T id:String}{r:V->List V->Hp->VK->Prop}
theorem NQ(pa:PlainAttrs T)(slot:Slot T name id)(hty:typeOf (.builtin id)=pure (.type "method_descriptor"))(hm:MtR X id r)(ho:PE X o to)(hbase:attributeBase o name X.env (eval o X.env)=eval o X.env:=by rfl)(hline:(apos.endLine==cpos.line)=true:=by rfl):PE X (.Call (.Attribute o name apos) [] [] cpos) (tBM0 X.K T r to):=by
 intro pj s O H Q I h;refine wpAny_Call_method0_late hbase hline (thn (ho pj s O H _ I h) fun v s1 ⟨x,H1,I1,r1,ty,q1⟩=>?_);obtain⟨h1,h2⟩:=BO I1 r1 ty;exact⟨T,id,pa,slot,hty,h1,h2,Calls.callWith_builtin rfl (PySem.evalArgs_none (hm pj s1 O H1 x [] v [] Q I1 r1 .nil q1))⟩
theorem pE(pa:PlainAttrs T)(slot:Slot T name id)(hty:typeOf (.builtin id)=pure (.type "method_descriptor"))(hm:MtR X id r)(ho:PE X o to)(ha:PA X (e::es) t)(hbase:attributeBase o name X.env (eval o X.env)=eval o X.env:=by rfl)
  (hfew:((backTo cpos (starEach (e::es) X.env)).all (fun x=>!x.1)&&(backToKw cpos (keywordEach [] X.env)).all (fun x=>x.1.isSome)
   && decide ((e::es).length+([]:List Keyword).length+(if([]:List Keyword).isEmpty then 0 else 1)<30))=true:=by rfl)
  (hline:(apos.endLine==cpos.line)=true:=by rfl) (hs:starEach (e::es) X.env=(false,eval e X.env)::starEach es X.env:=by rfl) (hplain:(backTo cpos (starEach es X.env)).any (·.1)=false:=by rfl):
  PE X (.Call (.Attribute o name apos) (e::es) [] cpos) (tBM X.K T r to t):=by
 intro pj s O H Q I h;refine wpAny_Call_method_late hbase hfew hline rfl (thn (ho pj s O H _ I h) fun v s1 ⟨x,H1,I1,r1,ty,q1⟩=>?_);obtain⟨h1,h2⟩:=BO I1 r1 ty;refine⟨T,id,pa,slot,hty,h1,h2,?_⟩;have hA:=ha cpos pj s1 O H1 _ I1 q1;rw[hs]at hA ⊢;refine Calls.callWith_builtin (by show(false||(backTo cpos (starEach es X.env)).any (·.1))=false;rw[hplain]<;>rfl) (Calls.evalArgs_plain ?_);exact thn hA fun us s2 ⟨vs,H2,I2,r2,q2⟩=>hm pj s2 O H2 x vs v us Q I2 r1 r2 q2
end
def MtM(X:Cx)(id:String)(r:V->List V->Hp->VK->Prop):Prop :=
 ∀(pj:Pq)(s:Shared)(O:St)(H:Hp)(x:V)(xs:List V)(v:Value)(us:List Value)(Q:VK),Inv X pj O H s->aG x v->aJ xs us->r x xs H Q->
  wpAny (model X.prog X.w) X.A (call (.builtin id) (v::us)) (EP X pj O Q) X.xe s
theorem aJ.one{x:V}{us:List Value}(h:aJ [x] us):∃u,us=[u]/\aG x u:=by
 cases h with
 |cons r t=>cases t;exact⟨_,rfl,r⟩
theorem aJ.zero:∀{us:List Value},aJ [] us->us=[]
 |_,.nil=>rfl
theorem aJ.dropLast{xs:List V}{us:List Value}(h:aJ xs us):aJ xs.dropLast us.dropLast:=by
 induction h with
 |nil=>exact .nil
 |cons r t ih=>
  cases t with
  |nil=>exact .nil
  |cons q t'=>exact .cons r ih
theorem aJ.rep(h:aJ xs us):∀k:Nat,aJ (List.replicate k xs).flatten (List.replicate k us).flatten
 |0=>.nil
 |k+1=>by rw[List.replicate_succ,List.replicate_succ,List.flatten_cons,List.flatten_cons];exact aJ.append h (aJ.rep h k)
theorem NR{α:Type}(l:List α):l.eraseIdx (l.length-1)=l.dropLast:=by
 induction l with
 |nil=>rfl
 |cons a r ih=>
  cases r with
  |nil=>rfl
  |cons b r=>
   have e:(a::b::r).length-1=((b::r).length-1)+1:=by have h1:(a::b::r).length=r.length+2:=rfl;have h2:(b::r).length=r.length+1:=rfl;lia
   rw[e,List.eraseIdx_cons_succ,ih]
   all_goals rfl
theorem BP(qc:List Value):∀(k:Nat)(acc:List Value),List.foldl (fun x1 x2=>x1++x2) acc.toArray (List.replicate k qc.toArray)=(acc++(List.replicate k qc).flatten).toArray
 |0,acc=>by simp
 |k+1,acc=>by
  have e:acc.toArray++qc.toArray=(acc++qc).toArray:=by simp
  have e2:(acc++qc)++(List.replicate k qc).flatten=acc++(List.replicate (k+1) qc).flatten:=by rw[List.replicate_succ,List.flatten_cons,kF]
  rw[<-e2,<-BP qc k (acc++qc),<-e,List.replicate_succ,List.foldl_cons]
theorem Inv.lset{qc its':List Value}{n:Nat}{f:Array Value->Array Value}{t':Nat}(I:Inv X pj O H s)(hH:H l=some (.lst xs))(e:s.heap.get? l=some {cls:=.type "list",data:=.seq qc.toArray n})(hf:f qc.toArray=its'.toArray)(hv:aJ ys its')(hz:ys.length<=sizeLine):Inv X pj O (aL H l (.lst ys)) {s with heap:=s.heap.update l (Obj.mapSeq f),toks:=t'}:=by
 have q:=PySem.IsL.update e f;rw[hf]at q;refine I.write (x:=l) (e:=l) (by rw[hH];exact trivial) (.inl rfl) (fun b' u hb hu=>(Heap.get?_update_other s.heap (Obj.mapSeq f) (Ne.symm hb)).trans hu) ⟨_,q⟩ ?_;exact⟨hz,its',_,hv,q⟩
def Inv.lnew(I:Inv X pj O H s)(hv:aJ ys qc)(hz:ys.length<=sizeLine):Inv X pj O (aL H s.heap.objs.size (.lst ys)) {s with heap:=s.heap.push {cls:=.type "list",data:=.seq qc.toArray},toks:=t'} :=
 I.laid (fun _ _ q=>aT _ q) (bH _) ⟨hz,qc,0,hv,cQ _ rfl⟩
theorem Inv.fresh(I:Inv X pj O H s):H s.heap.objs.size=none:=I.hok.fresh (bH _)
theorem Inv.lstM(I:Inv X pj O H s)(hH:H l=some (.lst xs)):xs.length<=sizeLine/\∃(qc:List Value)(n:Nat),aJ xs qc/\xs.length=qc.length/\s.heap.get? l=some {cls:=.type "list",data:=.seq qc.toArray n}:=by obtain⟨z,qc,n,r,e⟩:=I.hok l _ hH;exact⟨z,qc,n,r,r.length,e⟩
theorem NS(h:n<=sizeLine):Builtin.List.listTooLong n=false:=by unfold Builtin.List.listTooLong;exact eN (by lia)
def NT:V->List V->Hp->VK->Prop:=fun x vs H Q=>∃l xs y,x=.ref l/\vs=[y]/\H l=some (.lst xs)/\xs.length<sizeLine/\Q .non (aL H l (.lst (xs++[y])))
theorem vP:MtM X "list.append" NT:=by rintro pj s O H x vs v us Q I rx rv⟨l,xs,y,rfl,rfl,hH,hz,q⟩;cases rx;obtain⟨u,rfl,ru⟩:=rv.one;obtain⟨z,qc,n,r,hl,e⟩:=I.lstM hH;refine call_meets F.slot_list_append ⟨_,e,rfl⟩ F.entry_list_append (F.args_list_append_2 _ _) (PySem.list_append l qc.toArray n u (by rw[cW];lia)) ⟨e,?_⟩;refine⟨.non,_,I.lset (its':=qc++[u]) hH e (by simp) (r.append (.cons ru .nil)) ?_,rfl,q⟩;rw[cP,rD];lia
def rPop:V->List V->Hp->VK->Prop:=fun x vs H Q=>∃l xs y,x=.ref l/\vs=[]/\H l=some (.lst xs)/\xs[xs.length-1]?=some y/\Q y (aL H l (.lst xs.dropLast))
theorem NU:MtM X "list.pop" rPop:=by
 rintro pj s O H x vs v us Q I rx rv⟨l,xs,y,rfl,rfl,hH,hy,q⟩;cases rx;have hus:=rv.zero;subst hus;obtain⟨z,qc,n,r,hl,e⟩:=I.lstM hH;obtain⟨u,hu,ru⟩:=r.get hy;have hy':qc.toArray[qc.toArray.size-1]?=some u:=by show qc.toArray[qc.length-1]?=some u;rw[<-Array.getElem?_toList,<-hl];exact hu
 refine call_meets F.slot_list_pop ⟨_,e,rfl⟩ F.entry_list_pop (F.args_list_pop_1 _) (MeetsSeq.list_pop_last l qc.toArray n u hy' (by rw[cW];lia)) ⟨e,?_⟩;refine⟨y,_,I.lset (its':=qc.dropLast) hH e ?_ r.dropLast ?_,ru,q⟩
 .show qc.toArray.eraseIdxIfInBounds (qc.toArray.size-1)=qc.dropLast.toArray;rw[cW,List.eraseIdxIfInBounds_toArray,NR]
 .rw[List.length_dropLast];lia
def rCat:R2:=fun x y H Q=>∃l b xs zs,x=.ref l/\y=.ref b/\H l=some (.lst xs)/\H b=some (.lst zs)/\xs.length+zs.length<=sizeLine/\∀p,H p=none->Q (.ref p) (aL H p (.lst (xs++zs)))
theorem NV:OpR X (binaryOp .Add) rCat:=by
 rintro pj s O H x y v u Q I rx ry⟨l,b,xs,zs,rfl,rfl,hH,hB,hz,q⟩;cases rx;cases ry;obtain⟨z,qc,n,r,hl,e⟩:=I.lstM hH;obtain⟨z2,its2,n2,r2,hl2,e2⟩:=I.lstM hB;refine PySem.P.add_list e e2 ?_ (by rw[cW,cW];lia);have ea:qc.toArray++its2.toArray=(qc++its2).toArray:=by simp
 rw[ea];exact⟨.ref _,_,I.lnew (t':=s.toks) (r.append r2) (by rw[cP];lia),rfl,q _ I.fresh⟩
theorem NW{α:Type}(xs:List α)(k:Nat):(List.replicate k xs).flatten.length=k*xs.length:=by
 induction k with
 |zero=>simp
 |succ k ih=>rw[List.replicate_succ,List.flatten_cons,cP,ih,Nat.succ_mul,Nat.add_comm]
end L2
namespace Att
open PySem PySem.W PySem.Calls PyProof.Rows
theorem NX:∀(ns:List Int)(vs:List Value),WellAll P h vs (ns.map WData.int)->IntsAre vs ns:=by
 intro ns
 induction ns with
 |nil=>intro vs w;rw[List.map_nil]at w;cases w;exact .nil
 |cons n ns ih=>
  intro vs w;rw[bE]at w;cases w with
  |cons a b=>cases a;exact .cons _ _ (ih _ b)
theorem NY{l:OpenLaw}(hn:l.most=some n){P:Params}{args:List WData}(hpre:l.row.toRowW.claim.pre args=true)(hwl:WellAll P h vals args):∃a vs ns,vals=[Value.ref a]/\args=[WData.list (ns.map WData.int)]/\h.get? a=some {cls:=.type "list",data:=.seq vs.toArray}/\IntsAre vs ns/\ns.length<=n:=by
 have hsh:WShape.hasAll [] args [.list .int]=true:=(pre_splitW hpre).1;have hc:l.pre.holds [] {args:=args}=true:=(pre_splitW hpre).2;obtain⟨d,r,rfl,h1,h2⟩:=hasAllW_cons hsh;obtain rfl:=hasAllW_nil h2;obtain⟨xs,rfl,h3⟩:=hasW_list h1;obtain⟨ns,rfl⟩:=items_int h3;have hlen:ns.length<=n:=by
  unfold OpenLaw.pre at hc;have h4:(WTm.not (.lt (.lit (.int (n:Int))) (.len (.arg 0)))).holds [] {args:=[.list (ns.map .int)]}=true:=by have h4:=(holds_andW hc).1;rw[hn]at h4;exact h4
  have h5:=condW_of h4 (w_not (w_lt w_lit (w_len_list (w_arg rfl))));rw[bM]at h5;refine Nat.le_of_not_lt fun q=>?_;have q':(n:Int)<((ns.length:Nat):Int):=by lia
  first
   |(rw[dX q']at h5;exact absurd h5 (by decide))
   |(simp at h5;lia)
 cases hwl with
 |cons w1 w2=>
  cases w2;cases w1 with
  |list ho hall=>exact⟨_,_,ns,rfl,rfl,ho,NX ns _ hall,hlen⟩
theorem NZ(l:OpenLaw)(args:List WData):l.row.toRowW.claim.post args (.bool true) args=true :=
 postW_of (r:=l.row.toRowW) (X:=(true==true))
  (show WShape.has [] (.bool true) .bool=true by first|rfl|decide|simp[WShape.has,WShape.arms,WShape.armsAll])
  (show(WTm.eq .res (.lit (.bool true))).value [] {args:=args,res:=some (.bool true),after:=args}=some (.bool (true==true))from w_eq_bool (w_res rfl) w_lit) rfl
theorem attach_call{l:OpenLaw}{XP:(Mq)->Heap->Prop}{YP:World->Heap->Prop}{d:DefRec}(hn:l.most=some n)(hdf:d.params.defaults=[])(call:∀(w:World)(s₀ s₁:Shared)(mg mb:Mq)(fa:Addr)(o:Obj)(pm cd doc:Value)(a:Addr)(vs:List Value)(ns:List Int),Ground q loose [] XP w s₀ mg mb s₁.heap->YP w s₁.heap ->s₁.heap.get? fa=some o->o.data=.func (docDef d.name d.params d.body d.scope pm cd doc)->s₁.heap.CodeRec cd d.name->mg d.name=some (.ref fa) ->s₁.heap.get? a=some {cls:=.type "list",data:=.seq vs.toArray}->IntsAre vs ns->ns.length<=n->s₁.gens=#[] ->codeAny (model l.prog w) callerA (.call (.ref fa) ⟨[.ref a],[]⟩) (fun r s'=>r=.ok (.ret (.bool true))/\OldK s₁.heap s'.heap/\s'.os=s₁.os/\AllBare s'.gens) s₁):WalkO q loose XP YP l.row.toRowW d [] (fun f vs=>PySem.call f vs):=by
 intro w s₀ s₁ mg mb G Y fa o pm cd doc dV kV ho hd hcd hD hmg hg args vals as hpre hlay hrd hwl hlo;obtain rfl:dV=.none:=Dflts.none hD hdf;obtain rfl:kV=.none:=Dflts.noKw hD;obtain⟨a,vs,ns,rfl,rfl,hobj,hints,hlen⟩:=NY hn hpre hwl;refine enter_call (codeAny_mono (call w s₀ s₁ mg mb fa o pm cd doc a vs ns G Y ho (fd_plain hd) hcd hmg hobj hints hlen hg) fun r s' hq=>?_);obtain⟨rfl,h2,h3,h4⟩:=hq;exact⟨.inl ⟨.bool true,.bool true,[],rfl,fun _=>rfl,.bool true,NZ l _,fun _=>⟨List.Pairwise.nil,fun _ hm=>(nomatch hm)⟩⟩,h2,h3,h4⟩
end Att
namespace L2
open PySem Spec PyProof.Rows
theorem BQ:∀{vs:List Value}{ns:List Int},IntsAre vs ns->aJ (ns.map V.int) vs
 |_,_,.nil=>.nil
 |_,_,.cons n t h=>.cons ⟨t,rfl⟩ (BQ h)
section
variable {qual:Str}{st:Stmt}{f:Addr}{fd:FuncData}{ps:List Str}
def fE(s:Stmt):Arguments:=match s with
 |.FunctionDef _ a _ _ _ _ _ _ _ _=>a
 |_=>{posonlyargs:=[],args:=[],vararg:=none,kwonlyargs:=[],kw_defaults:=[],kwarg:=none,defaults:=[]}
def dI(s:Stmt):List Stmt:=match s with
 |.FunctionDef _ _ b _ _ _ _ _ _ _=>b
 |_=>[]
def aM(s:Stmt):Scope:=match s with
 |.FunctionDef _ _ _ _ _ _ sc _ _ _=>sc
 |_=>{kind:=.function,names:=[],isGenerator:=false,isCoroutine:=false}
abbrev CX0:CXT:=fun _ _ _ _ _ _=>False
abbrev E0:XK:=fun _ _ _=>False
def BR:lL CX0 X E0:=fun _ _ _ _ _ _ _ h=>h.elim
structure Fun(K:W.Frag)(x qual:Str)(st:Stmt)(f:Addr)(fd:FuncData):Prop where
 ex:∃(oc:Value)(od:Option Addr)(kV doc pm:Value)(an:Option Addr)(cdv ct:Value)(osl:Array (Option Value)),
  fd=W.fnOf x qual (fE st) (dI st) (aM st) .none kV doc pm an cdv ct/\K.lookup f=some ⟨oc,od,.func fd,osl⟩/\W.codeIn K cdv qual=true
 kp:W.keepIn K (.ref f)=true
section
variable {P:Program}{w:World}{K:W.Frag}{mg:Mq}{base:Heap}
theorem Fun.ok{x:Str}{N:List Str}{k:Nat}{sp:Sp}(F:Fun K x qual st f fd)(S:FnScope N ps (aM st))(len:∀vs H Q E,sp vs H Q E->vs.length=ps.length)(hbody:∀(cdv:Value)(A:Around)(outer:List Env)(s:Shared)(H:Hp)(vs:List V)(Q:VK)(E:XK),Room k (A.deeper (envOfC qual (aM st) s.heap.objs.size f cdv))->sp vs H Q E ->∃t,PSs (gN CX0 P w K mg base N qual (aM st) f cdv A outer s H E).nox (dI st) t/\t {nx:=fun _ H'=>Q .non H',rt:=Q} (start N vs) H):FnOk P w K mg base CX0 (k+1) f fd ps sp:=by
 obtain⟨oc,od,kV,doc,pm,an,cdv,ct,osl,rfl,lk,hcd⟩:=F.ex;refine rN lk hcd S len fun A outer s H vs Q E hr hsp=>?_;obtain⟨t,h,q⟩:=hbody cdv A outer s H vs Q E hr hsp;exact⟨t,h.nox,q⟩
def Fun.binds{x:Str}(F:Fun K x qual st f fd)(h:∀(kV doc pm:Value)(an:a0 Addr)(cdv ct:Value)(us:List Value),us.length=ps.length->bindArgs (W.fnOf x qual (fE st) (dI st) (aM st) .none kV doc pm an cdv ct) ⟨us,[]⟩=pure (ps.zip us)):Binds K fd ps []:=by
 obtain⟨oc,od,kV,doc,pm,an,cdv,ct,osl,rfl,lk,hcd⟩:=F.ex;exact .all (h kV doc pm an cdv ct)
def OA{x:Str}{oc:Value}{od an:a0 Addr}{osl:Array (a0 Value)}{kV doc pm cdv ct:Value}(l:K.lookup f=some ⟨oc,od,.func (W.fnOf x qual (fE st) (dI st) (aM st) .none kV doc pm an cdv ct),osl⟩)(c:W.codeIn K cdv qual=true)(k:W.keepIn K (.ref f)=true):Fun K x qual st f (W.fnOf x qual (fE st) (dI st) (aM st) .none kV doc pm an cdv ct):=⟨⟨oc,od,kV,doc,pm,an,cdv,ct,osl,rfl,l,c⟩,k⟩
end
theorem BS(h:n<=1000):n<sizeLine:=Nat.lt_of_le_of_lt h (by decide)
theorem pv(i:Nat)(hN:X.N[i]?=some x:=by rfl)(hv:Vis X.env.scope x:=by first|exact Or.inl rfl|exact Or.inr (Or.inl rfl)|exact Or.inr (Or.inr rfl))(hd:(x==("__debug__":Str))=false:=by decide)
  (hcd:(x==("__classdict__":Str))=false:=by decide):PE X (.Name x pos) (nP i):=kI hN hv hd hcd
def pF{A B:Prop}(h:B):if false=true then A else B:=by rw[if_neg dW];exact h
def pG{A B:Prop}(h:A):if true=true then A else B:=by rw[if_pos rfl];exact h
def Same(H H':Hp):Prop:=∀b o,H b=some o->H' b=some o
def Same.refl(H:Hp):Same H H:=fun _ _ h=>h
def Same.trans{H H1 H2:Hp}(a:Same H H1)(b:Same H1 H2):Same H H2:=fun c o h=>b c o (a c o h)
theorem Same.free{H H':Hp}(e:Same H H'){l:Addr}(h:H' l=Option.none):H l=Option.none:=by
 cases q:H l with
 |none=>rfl
 |some o=>rw[e l o q]at h;cases h
theorem Same.seq{K:W.Frag}{H H':Hp}{a:Addr}{xs:List V}(e:Same H H')(h:SqL K H a xs):SqL K H' a xs:=by
 rcases h with(h|⟨o,h⟩)|h
 .exact .inl (.inl (e _ _ h))
 .exact .inl (.inr ⟨o,e _ _ h⟩)
 .exact .inr h
end
end L2
namespace Ev.Ex
open PySem
structure Mr(B:String)(l:List Value):Prop where
 b:l.contains (.type B)=true
 a:l.contains (.type "AttributeError")=false
 n:l.contains (.type "NameError")=false
def Mr.cb(m:Mr B l):(Value.ref C::l).contains (.type B)=true:=by rw[List.contains_cons,m.b];rfl
def Mr.ca(m:Mr B l):(Value.ref C::l).contains (.type "AttributeError")=false:=by rw[List.contains_cons,m.a];rfl
def Mr.cn(m:Mr B l):(Value.ref C::l).contains (.type "NameError")=false:=by rw[List.contains_cons,m.n];rfl
section
variable {P:Program}{w:World}{A:Around}{E:Vq}{h:Heap}{g:Array GenState}{d:Drawn}{t:Nat}{os:OsState}{k y:Str}{C N:Addr}{b l lB:List Value}{hd ab:Bool}{s8:List Str}{sub:List Value}{cl:a0 Bool}{dd:a0 Addr}{k0 k1 k2 k3 k5:a0 Value}{B nw ni:String}{us:List Value}
theorem OB(F:ExcBaseFacts B nw ni lB)(m:Mr B l)(hC:h.get? C=some (excClassObj k y C N b l hd s8 sub ab cl dd k0 k1 k2 k3 k5 nw))(q:Q () ⟨h,g,d,t,os⟩):wpAny M A (checkBuiltinCall nw ⟨.ref C::us,[]⟩) Q E ⟨h,g,d,t,os⟩:=by
 have c:=m.cb (C:=C);have st:=F.noStar;simp only[checkBuiltinCall,F.newKind,F.newSplit,F.newRow]
 repeat(first|(refine wpAny_isSubtype_exc hC ?_;rw[c])|refine wpAny_loadPart_at hC ?_|refine wpAny_madeBy_exc hC ?_|refine wpAny_staticBase_exc hC ?_|simp only[bne_self_eq_false,Bool.false_eq_true,if_false]|wp_step)
 exact q
def exH(h:Heap)(C:Addr)(us:List Value):Heap:=(h.push {cls:=.type "tuple",data:=.seq us.toArray}).push {cls:=.ref C,data:=.fields #[.ref h.objs.size,.none,.none,.none,.bool false,.none]}
def OC(F:ExcBaseFacts B nw ni lB)(m:Mr B l)(hC:h.get? C=some (excClassObj k y C N b l hd s8 sub ab cl dd k0 k1 k2 k3 k5 nw))(hl:us.length<=sizeLine)(q:R (.ok (.ret (.ref (h.objs.size+1)))) ⟨exH h C us,g,d,t,os⟩):codeAny (model P w) A (.builtin nw ⟨.ref C::us,[]⟩) R ⟨h,g,d,t,os⟩:=by
 have c1:=m.cb (C:=C);have c2:=m.ca (C:=C);have c3:=m.cn (C:=C);have fe:=F.ends;have hrest:=hl;refine codeAny_builtinAt F.entry ?_;unfold Builtin.«BaseException.__new__»;refine PySem.wpAt_bind (show PySem.wpAt _ _ _ (stack >>= _) _ _ _ from PySem.wpAt_bind (PySem.wpAt_stack fun p below=>PySem.wpAt_of_wpAny ?_))
 wp_walk
 refine PySem.wpAt_of_wpAny ?_;rw[F.owner]
 repeat(first|with_reducible refine wpAny_loadPart_at hC ?_|with_reducible refine wpAny_madeHere_exc F.canon hC ?_|(with_reducible refine wpAny_isSubtype_exc hC ?_;first|rw[c1]|rw[c2]|rw[c3])|wp_step)
 show R _ _;rw[eU];exact q
def Ini(h:Heap)(C fI:Addr):Prop:=∃K:W.Frag,K.In h/\W.findIn K (.ref C) "__init__"=some (some (.ref fI))/\W.typeIn K (.ref fI)=some (.type "function")
theorem Ini.up(i:Ini h C fI)(up:∀b o,h.get? b=some o->h'.get? b=some o):Ini h' C fI:=let⟨K,k,r⟩:=i;⟨K,k.keeps up,r⟩
def Ini.fn(i:Ini h C fI):∃o,h.get? fI=some o/\o.cls=.type "function":=by obtain⟨K,k,_,e⟩:=i;obtain⟨o,h1,h2⟩:=oms e;exact⟨o,k _ _ h1,h2⟩
def OD(i:Ini h C fI)(q:Q (some (.ref fI)) ⟨h,g,d,t,os⟩):wpAny M A (typeLookup (.ref C) "__init__") Q E ⟨h,g,d,t,os⟩:=by obtain⟨K,k,e,_⟩:=i;exact(W.looks_findIn k e).here q
def vQ:∀b o,h.get? b=some o->(exH h C us).get? b=some o:=fun _ _ e=>aT _ (aT _ e)
theorem BT:(exH h C us).get? (h.objs.size+1)=some {cls:=.ref C,data:=.fields #[.ref h.objs.size,.none,.none,.none,.bool false,.none]}:=by unfold exH;heap_get
theorem OE(F:ExcBaseFacts B nw ni lB)(m:Mr B l)(hC:h.get? C=some (excClassObj k y C N b l hd s8 sub ab cl dd k0 k1 k2 k3 k5 nw))(hl:us.length<=sizeLine)(i:Ini h C fI)(q:wpAny (model P w) A (call (.ref fI) (.ref (h.objs.size+1)::us)) (fun r s'=>r=.none/\Q (.done (.ret (.ref (h.objs.size+1)))) s') E ⟨exH h C us,g,d,t,os⟩):wpAny (model P w) A (Builtin.«type.__call__» ⟨.ref C::us,[]⟩) Q E ⟨h,g,d,t,os⟩:=by
 repeat(first|with_reducible refine wpAny_madeBy_exc hC ?_|with_reducible refine wpAny_loadPart_at hC ?_|wp_step)
 refine codeAny_call_builtin_code (Code.quiet_builtin _ F.quiet) (OB F m hC (OC F m hC hl ?_));show wpAny _ _ _ _ _ _;have C1:=vQ (C:=C) (us:=us) _ _ hC;have i1:=i.up (vQ (C:=C) (us:=us));have cc:(Value.ref C::l).contains (.ref C)=true:=by simp
 have ee:=BT (h:=h) (C:=C) (us:=us);unfold isInstance
 repeat(first|(with_reducible refine wpAny_isSubtype_exc C1 ?_;rw[cc])|with_reducible refine wpAny_loadPart_at ee ?_|wp_step)
 show wpAny _ _ (typeLookup (.ref C) _) _ _ _;refine OD i1 (iY (aF ?_));obtain⟨o,o1,o2⟩:=i1.fn;unfold bindSpecial;refine aF (wpAny_typeOf (T:="function") ⟨o,o1,o2⟩ ?_);rw[if_pos (by decide)];refine aQ (aF (gK q (fun r s' ⟨hr,hq⟩=>?_) fun _ _ x=>x));subst hr
 wp_walk
 exact hq
theorem OG(F:ExcBaseFacts B nw ni lB)(m:Mr B l)(hC:h.get? C=some (excClassObj k y C N b l hd s8 sub ab cl dd k0 k1 k2 k3 k5 nw))(hl:us.length<=sizeLine)(i:Ini h C fI)(q:wpAny (model P w) (A.under (.builtin "type.__call__" ⟨.ref C::us,[]⟩)) (call (.ref fI) (.ref (h.objs.size+1)::us)) (fun r s'=>r=.none/\Q (.ref (h.objs.size+1)) s') E ⟨exH h C us,g,d,t,os⟩):wpAny (model P w) A (call (.ref C) us) Q E ⟨h,g,d,t,os⟩:=by
 have f1:=tc_lookup;have f2:=tc_bind (.ref C);have ty:(⟨h,g,d,t,os⟩:Shared).TypeIs (.ref C) "type":=⟨_,hC,rfl⟩;refine wpAny_call (codeAny_of_tree (show wpAny _ _ (callAny (.ref C) _) _ _ _ from ?_))
 repeat(any_goals (first|with_reducible refine wpAny_loadPart_at hC ?_|assumption|wp_step))
 exact⟨rfl,codeAny_call_builtin_at (Code.quiet_builtin _ (by decide +kernel)) entry_typeCall (wpAny_check_type_call_sub hC (OE F m hC hl i q))⟩
end
section
variable {P:Program}{w:World}{A:Around}{E:Vq}{h:Heap}{g:Array GenState}{d:Drawn}{t:Nat}{os:OsState}{k y:Str}{C N:Addr}{b l lB:List Value}{hd ab:Bool}{s8:List Str}{sub:List Value}{cl:a0 Bool}{dd:a0 Addr}{k0 k1 k2 k3 k5:a0 Value}{B nw ni:String}{us:List Value}
theorem OH(F:ExcBaseFacts B nw ni lB)(m:Mr B l)(hC:h.get? C=some (excClassObj k y C N b l hd s8 sub ab cl dd k0 k1 k2 k3 k5 nw))(he:h.get? e=some o)(ho:o.cls=.ref C)(q:Q () ⟨h,g,d,t,os⟩):wpAny M A (checkBuiltinCall ni ⟨.ref e::us,[]⟩) Q E ⟨h,g,d,t,os⟩:=by
 have c:=m.cb (C:=C);have st:=F.noStar;simp only[checkBuiltinCall,F.initKind,F.initSplit,F.initRow]
 repeat(first|(with_reducible refine wpAny_isSubtype_exc hC ?_;rw[c])|with_reducible refine wpAny_loadPart_at hC ?_|(with_reducible refine wpAny_loadPart_at he ?_;rw[ho])|wp_step)
 refine wpAny_onRaise ?_;rw[show ∀(a b:String)(n:Nat),Bind.check ⟨.positional, "*",B,.self,[⟨"args",.varPos,false⟩]⟩ a b n (List.map (fun x=>x.fst) ({pos:=Value.ref e::us}:Args).kw)=pure ()from fun a b n=>check_star_args _ _ _ _ _ _];exact aQ q
theorem OI(F:ExcBaseFacts B nw ni lB)(m:Mr B l)(hC:h.get? C=some (excClassObj k y C N b l hd s8 sub ab cl dd k0 k1 k2 k3 k5 nw))(hl:us.length<=sizeLine)(he:h.get? e=some {cls:=.ref C,data:=.fields #[.ref z,.none,.none,.none,.bool false,.none]})(q:Q .none ⟨(h.push {cls:=.type "tuple",data:=.seq us.toArray}).update e (Obj.mapFields (·.setIfInBounds 0 (.ref h.objs.size))),g,d,t,os⟩):wpAny (model P w) A (call (.builtin ni) (.ref e::us)) Q E ⟨h,g,d,t,os⟩:=by
 have hrest:=hl;refine wpAny_call (codeAny_call_builtin F.init.plain F.initEntry (OH F m hC he rfl ?_));have he':=aT {cls:=.type "tuple",data:=.seq us.toArray} he
 wp_walk
 exact q
end
section
open PySem PySem.W Builtin Builtin.ObjectAttr
def veL:List Value:=[.type "ValueError",.type "Exception",.type "BaseException",.type "object"]
theorem BU(x:Value):∀rs:List Addr,refuseLoop x "__setattr__" (rs.map Value.ref++veL)=pure ()
 |[]=>PySem.F.store_ValueError.passes x
 |r::rs=>(refuseLoop_ref _ _ _ _).trans (BU x rs)
theorem BW:∀rs:List Addr,(rs.map Value.ref++veL).contains (.type "object")=true
 |[]=>by decide
 |r::rs=>by rw[bE,List.cons_append,List.contains_cons,BW rs,Bool.or_true]
section
variable {P:Program}{w:World}{A:Around}{E:Vq}{s:Shared}{K:Frag}{C e:Addr}{cd:ClassData}{rs:List Addr}{fs:Array Value}{n:Str}{v:Value}
theorem OJ(X:K.In s.heap)(he:s.heap.get? e=some {cls:=.ref C,data:=.fields fs})(hc:clsIn K C=some cd)(hm:cd.mro=rs.map Value.ref++veL)(hd:cd.hasDict=true)(hs:findIn K (.ref C) "__setattr__"=some (some (.builtin "object.__setattr__")))(ha:findIn K (.ref C) n=some none)(q:∀h' tk,h'.get? e=some {cls:=.ref C,dict:=some s.heap.objs.size,data:=.fields fs}->h'.Ns1 s.heap.objs.size (fun x=>if x=n then some v else none)->(∀b o,b≠e->s.heap.get? b=some o->h'.get? b=some o)->Q () {s with heap:=h',toks:=tk}):wpAny (model P w) A (setAttr (.ref e) n v) Q E s:=by
 have I:W.InstAt s.heap e {cls:=.ref C,data:=.fields fs} C none:=⟨he,rfl,rfl,trivial⟩;refine set_plain X I hs ?_;obtain⟨h,g,d,t,os⟩:=s;dsimp only at X he I q ⊢;have SF:=PySem.F.store_object;have ne:cd.mro.isEmpty=false:=by rw[hm];cases rs<;>rfl
 have sub:Looks (model P w) h (isInstance (.ref e) (.type "object")) true:=I.type.andThen (looks_mroIn X (by unfold mroIn;rw[hc,bB,if_neg (by rw[ne];decide),hm,BW]));refine codeAny_call_builtin SF.slot.plain SF.entry (@check_slot (model P w) _ _ ⟨h,g,d,t+1,os⟩ "object.__setattr__" "object" "__setattr__" (.ref e) [.str n t,v] [] _ SF.kind SF.split sub (SF.args (.ref e) (.str n t) v) ?_);have mr:Looks (model P w) h (mroOf (.ref C)) cd.mro:=(looks_clsIn X hc).andThen .now;rw[osa_eq,refuse_eq];refine aF (aF (I.type.here (aF (mr.here ?_))));rw[hm,BU];refine aQ (aF (I.type.here (aF ((looks_findIn X ha).here (aF (aQ ?_))))));show wpAny _ _ (storeInOwnDict _ _ _ _ _ _) _ _ _;refine aF (aQ (aF (aF (wpAny_loadPart he (aF ((looks_clsIn X hc).here ?_))))));rw[hd];have he1:=aT {cls:=.type "dict",data:=.dict #[]} he;have hne:e≠h.objs.size:=cL (bI he);show wpAny _ _ (alloc {cls:=Value.type "dict",data:=Data.dict #[]} >>= fun d=>update e (fun o=>{cls:=o.cls,dict:=some d,data:=o.data,slots:=o.slots}) >>= fun _=>dictMade (Value.ref C) e d) _ _ _;refine aF (wpAny_alloc' (aF (wpAny_update' he1 (aQ (a:=some h.objs.size) ?_))));have gd:((h.push {cls:=.type "dict",data:=.dict #[]}).update e fun o=>{cls:=o.cls,dict:=some h.objs.size,data:=o.data,slots:=o.slots}).get? h.objs.size=some {cls:=.type "dict",data:=.dict #[]}:=(mG _ _ _ _ hne.symm).trans (Heap.get?_push_at rfl rfl);show wpAny _ _ (storeInDict h.objs.size (.str n t) n v) _ _ _;unfold storeInDict newKeyGuard;refine wpAny_bind (wpAny_pure (wpAny_bind (wpAny_nsSet1 (Heap.Ns1.of_empty ⟨_,#[],_,gd,rfl,fun _ z=>absurd z (by simp),fun _=>rfl⟩) fun h' hn sb=>?_)));obtain⟨oD,eD,pD,g1,g2,g3⟩:=hn.count (Within.cons n v Within.nil);refine aF (wpAny_lookBehind g1 (by rw[g2];exact pastItsLine_dict (dY g3 (by rw[gC,List.length_nil,fV];lia))) (aQ ?_));exact q h' _ ((sb.2 e hne).trans (Heap.get?_update_self _ he1 rfl)) hn fun b o hb hbo=>(sb.2 b (cL (bI hbo))).trans ((mG _ _ _ _ hb).trans (aT _ hbo))
end
end
section
open PySem Spec PyProof.Rows L2
def dN(C z:Addr)(dx:a0 Addr):Obj:={cls:=.ref C,dict:=dx,data:=.fields #[.ref z,.none,.none,.none,.bool false,.none]}
def exO(e:Addr)(o:Obj):HO:=.ext fun h=>h.get? e=some o
def rP(x:h.get? e=some o):aU P w H h e (exO e o):=⟨x,⟨o,x⟩,fun _ _ a b=>b o a⟩
def nR(ok:HOk P w H h)(x:H e=some (exO e o)):h.get? e=some o:=(ok e _ x).1
structure XC(K:W.Frag)(C:Addr):Prop where
 ob:∃k y N b l hd s8 sub ab cl dd k0 k1 k2 k3 k5,K.lookup C=some (excClassObj k y C N b l hd s8 sub ab cl dd k0 k1 k2 k3 k5 "ValueError.__new__")/\Mr "ValueError" l
 at_:∃cd rs,W.clsIn K C=some cd/\cd.mro=List.map Value.ref rs++veL/\cd.hasDict=true
 sa:W.findIn K (.ref C) "__setattr__"=some (some (.builtin "object.__setattr__"))
def fv(K:W.Frag):W.findCls K (.type "ValueError") (.type "type") "__init__"=some (.val (.builtin "ValueError.__init__")):=by kernel_rfl
def tVi(K:W.Frag)(t:TA):TE:=fun O H Q=>t O H fun vs H1=>∃e C z x,vs=[V.ref e,x]/\XC K C/\H1 e=some (exO e (dN C z none))/\∀z',H1 z'=none->Q .non (aL H1 e (exO e (dN C z' none)))
theorem OL{pj:Pq}{O:L2.St}{H:Hp}{s:Shared}{e C z:Addr}{us:List Value}{Q:VK}(I:Inv X pj O H s)(he:H e=some (exO e (dN C z none)))(ee:s.heap.get? e=some (dN C z none))(q:∀z',H z'=none->Q .non (aL H e (exO e (dN C z' none)))):EP X pj O Q .none {s with heap:=(s.heap.push {cls:=.type "tuple",data:=.seq us.toArray}).update e (Obj.mapFields (·.setIfInBounds 0 (.ref s.heap.objs.size)))}:=by
 have e1:=aT {cls:=.type "tuple",data:=.seq us.toArray} ee;have e2:((s.heap.push {cls:=.type "tuple",data:=.seq us.toArray}).update e (Obj.mapFields (·.setIfInBounds 0 (.ref s.heap.objs.size)))).get? e=some (dN C s.heap.objs.size none):=Heap.get?_update_self _ e1 rfl;exact⟨.non,_,I.write (x:=e) (e:=e) (t':=s.toks) (by rw[he];trivial) (.inl rfl) (fun b u n h=>(mG _ _ _ _ n).trans (aT _ h)) ⟨_,e2⟩ (rP e2),rfl,q _ (I.hok.fresh (bH _))⟩
theorem OM(hg:Gl X "ValueError")(hm:X.mg "ValueError"=none)(ha:PA X (e1::es) t)(hst:starEach (e1::es) X.env=(false,eval e1 X.env)::starEach es X.env:=by rfl)(hpl:(backTo pos (starEach es X.env)).any (·.1)=false:=by rfl)
  (ht:eval (.Call (.Attribute (.Name "ValueError" p) "__init__" ap) (e1::es) [] pos) X.env=(do
   let ov <-eval (.Name "ValueError" p) X.env
   standAt ap.atName
   let(f,first) <-holding [ov] (getMethod ov "__init__" pl)
   callWith pos f first (backTo pos (starEach (e1::es) X.env)) (backToKw pos (keywordEach [] X.env))):=by rfl):
  PE X (.Call (.Attribute (.Name "ValueError" p) "__init__" ap) (e1::es) [] pos) (tVi X.K t):=by
 intro pj s O H Q I h;refine W.methodCall_KW (pl:=pl) (mH I hg hm (u:=.type "ValueError") (by decide +kernel) ?_) ht;obtain⟨m,hf⟩:=I.fr;refine W.method_type hf I.ok.mod.kin (by kernel_rfl) (by decide +kernel) (fv _) (by decide +kernel) ?_;have I0:=I.tok (s.toks+1);refine callWith_builtin1 (thn (ha pos pj _ O H _ I0 h) fun us s1 zz=>?_) hst hpl;obtain⟨vs,H1,I1,r1,e,C,z,x,ev,xc,he,q⟩:=zz;subst ev;obtain⟨⟨k,y,N,b,l,hd,s8,sub,ab,cl,dd,k0,k1,k2,k3,k5,lk,mr⟩,_,_⟩:=xc;cases r1 with
 |cons ra r2=>cases r2 with
  |cons rb r3=>cases r3;cases ra;obtain⟨hh,g,d,tk,os⟩:=s1;have ee:=nR I1.hok he;refine OI PySem.F.excBase_ValueError mr (I1.kIn _ _ lk) (by rw[fV];simp) ee ?_;exact OL I1 he ee q
def sAt(K:W.Frag)(ta tv:TE)(n:Str):TS:=fun D O H=>tv O H fun y H1=>ta O H1 fun x H2=>∃e C z,x=V.ref e/\XC K C/\W.findIn K (.ref C) n=some none/\H2 e=some (exO e (dN C z none)) /\
 ∀dx,H2 dx=none->dx≠e->D.nx O (aL (aL H2 dx (.xd [(n,y)])) e (exO e (dN C z (some dx))))
theorem ON(I:Inv X pj O H s)(he:H e=some (exO e (dN C z none)))(ry:aG y v)(e1:h'.get? e=some (dN C z (some s.heap.objs.size)))(ns:h'.Ns1 s.heap.objs.size (fun x=>if x=n then some v else none))(kp:∀b o,b≠e->s.heap.get? b=some o->h'.get? b=some o):Inv X pj O (aL (aL H s.heap.objs.size (.xd [(n,y)])) e (exO e (dN C z (some s.heap.objs.size)))) {s with heap:=h',toks:=tk}:=by
 have ee:=nR I.hok he;have ne:s.heap.objs.size≠e:=(cL (bI ee)).symm;have m1:(h'.update e fun _=>dN C z none).get? e=some (dN C z none):=Heap.get?_update_self _ e1 rfl;have m2:∀{b:Addr},b≠e->(h'.update e fun _=>dN C z none).get? b=h'.get? b:=fun nb=>mG _ _ _ _ nb;have k1:∀b u,s.heap.get? b=some u->(h'.update e fun _=>dN C z none).get? b=some u:=fun b u q=>by
  by_cases hb:b=e
  .subst hb;rw[ee]at q;cases q;exact m1
  .exact(m2 hb).trans (kp b u hb q)
 have nw:aU X.prog X.w (aL H s.heap.objs.size (.xd [(n,y)])) (h'.update e fun _=>dN C z none) s.heap.objs.size (.xd [(n,y)]):=by
  obtain⟨o,es,ep,a1,a2⟩:=ns;refine⟨_,⟨o,es,ep,(m2 ne).trans a1,a2⟩,fun f=>?_⟩;by_cases hf:f=n
  .subst hf;rw[if_pos rfl,List.lookup_cons_self];exact ry
  .rw[if_neg hf,gX,show(f==n)=false from beq_false_of_ne hf];exact trivial
 have hn:H s.heap.objs.size=none:=I.hok.fresh (bH _);have mu:Mut (aL H s.heap.objs.size (.xd [(n,y)]) e):=by rw[aR ne.symm,he];trivial
 have k2:∀b u,b≠e->(h'.update e fun _=>dN C z none).get? b=some u->h'.get? b=some u:=fun b u nb q=>(m2 nb).symm.trans q;exact I.un (t':=tk) ((Un.laid k1 (bH _) hn).trans (Un.write mu (.inl rfl) k2 ⟨_,e1⟩)) ((I.hok.laid k1 (bH _) nw).write mu (.inl rfl) k2 ⟨_,e1⟩ (rP e1))
def OO(ha:PE X o ta)(hv:PE X value tv)(hs:swapsWith value (some (.Attribute o f pos')) pos.line X.env=pure false):PS X (.Assign [.Attribute o f pos'] value pos) (sAt X.K ta tv f):=by intro pj s O H D I h;refine plainObj_wpAny_Assign_Attribute (thn (hv pj s O H _ I h) fun u s1 zz=>?_) hs;obtain⟨y,H1,I1,ry,q⟩:=zz;refine thn (ha pj s1 O H1 _ I1 q) fun ov s2 zz=>?_;obtain⟨x,H2,I2,rx,e,C,z,ex,xc,na,he,q2⟩:=zz;subst ex;obtain rfl:ov=Value.ref e:=rx;have ee:=nR I2.hok he;obtain⟨cd,rs,c1,c2,c3⟩:=xc.at_;exact OJ I2.kIn ee c1 c2 c3 xc.sa na fun h' tk e1 ns kp=>⟨O,_,ON I2 he ry e1 ns kp,q2 _ (I2.hok.fresh (bH _)) (cL (bI ee)).symm⟩
end
section
open PySem Spec PyProof.Rows L2
def vR(K:W.Frag):Sp:=fun vs H Q _=>∃e C z x y,vs=[V.ref e,x,y]/\XC K C/\W.findIn K (.ref C) "at"=some none/\H e=some (exO e (dN C z none)) /\
 ∀z' dx,H z'=none->H dx=none->dx≠e->Q .non (aL (aL (aL H e (exO e (dN C z' none))) dx (.xd [("at",y)])) e (exO e (dN C z' (some dx))))
theorem OP{CX:CXT}{P:Program}{w:World}{K:W.Frag}{mg:Mq}{base:Heap}{k:Nat}{f:Addr}{name qual:Str}{params:Arguments}{sc:Scope}{dV kV doc pm cdv ct oc:Value}{an od:a0 Addr}{osl:Array (a0 Value)}{p ap pos p1 p2 q1 p3 p4 p5 q2:Pos}(lk:K.lookup f=some ⟨oc,od,.func (W.fnOf name qual params [.Expr (.Call (.Attribute (.Name "ValueError" p) "__init__" ap) [.Name "self" p1,.Name "words" p2] [] pos) q1,.Assign [.Attribute (.Name "self" p3) "at" p4] (.Name "at" p5) q2] sc dV kV doc pm an cdv ct),osl⟩)(hcd:W.codeIn K cdv qual=true)(S:FnScope ["self", "words", "at"] ["self", "words", "at"] sc)(v0:sc.names.lookup ("self":Str)=some .local)(v1:sc.names.lookup ("words":Str)=some .local)(v2:sc.names.lookup ("at":Str)=some .local)(vg:sc.names.lookup ("ValueError":Str)=some .globalImplicit)(hm:mg "ValueError"=none) (ht:∀env:PySem.Env,∃pl:Sem Bool,eval (.Call (.Attribute (.Name "ValueError" p) "__init__" ap) [.Name "self" p1,.Name "words" p2] [] pos) env=(do
   let ov <-eval (.Name "ValueError" p) env
   standAt ap.atName
   let(f,first) <-holding [ov] (getMethod ov "__init__" pl)
   callWith pos f first (backTo pos (starEach [.Name "self" p1,.Name "words" p2] env)) (backToKw pos (keywordEach [] env)))):
  FnOk P w K mg base CX (k+1) f (W.fnOf name qual params [.Expr (.Call (.Attribute (.Name "ValueError" p) "__init__" ap) [.Name "self" p1,.Name "words" p2] [] pos) q1,.Assign [.Attribute (.Name "self" p3) "at" p4] (.Name "at" p5) q2] sc dV kV doc pm an cdv ct) ["self", "words", "at"] (vR K):=by
 refine rN lk hcd S (by rintro vs H Q E ⟨e,C,z,x,y,h,_⟩;subst h;rfl) fun A outer s H vs Q E hr hsp=>?_;obtain⟨e,C,z,x,y,rfl,xc,na,he,q⟩:=hsp;obtain⟨pl,ht⟩:=ht (gN CX P w K mg base ["self", "words", "at"] qual sc f cdv A outer s H E).env;refine⟨_,nQ (vH (OM (pl:=pl) vg hm (cU (pv 0 rfl (.inl v0)) (cU (pv 1 rfl (.inl v1)) gE)) rfl rfl ht)) (oZ (OO (pv 0 rfl (.inl v0)) (pv 2 rfl (.inl v2)) rfl)),?_⟩;refine⟨_,rfl,_,rfl,e,C,z,x,rfl,xc,he,fun z' hz=>?_⟩;refine⟨_,rfl,_,rfl,e,C,z',rfl,xc,na,bN,fun dx hd nd=>?_⟩;rw[aR nd]at hd;exact q z' dx hz hd nd
end
section
open PySem Spec PyProof.Rows L2
def OQ(c:(Value.ref C::l).contains (.type "BaseException")=true)(hh:A.handled=none)(h:wpAny M A x (fun v s1=>∃e z dx,v=.ref e/\s1.heap.get? C=some (excClassObj k y C N b l hd s8 sub ab cl dd k0 k1 k2 k3 k5 nw)/\s1.heap.get? e=some (dN C z dx)/\E (.ref e) s1) E s):wpAny M A (raiseStmt env (some x) none) Q E s:=by
 unfold raiseStmt;refine aF (gK h (fun v s1 zz=>?_) fun _ _ r=>r);obtain⟨e,z,dx,ev,hC,he,q⟩:=zz;subst ev;obtain⟨hp,g,d,tk,os⟩:=s1;unfold dN at he
 repeat(first|with_reducible refine wpAny_loadPart_at hC ?_|with_reducible refine wpAny_loadPart_at he ?_|(with_reducible refine wpAny_isSubtype_exc hC ?_;rw[c])|wp_step)
 exact wpAny_raiseNew_none hh q
theorem BX:∀rs:List Addr,(rs.map Value.ref++veL).contains (.type "BaseException")=true
 |[]=>by decide
 |r::rs=>by rw[bE,List.cons_append,List.contains_cons,BX rs,Bool.or_true]
def OR(X:Cx)(C:Addr)(te:TE):TS:=fun _ O H=>te O H fun v H1=>∃e z dx,v=V.ref e/\H1 e=some (exO e (dN C z dx))/\∀pj s,Inv X pj O H1 s->X.xe (.ref e) s
theorem OS(xc:XC X.K C)(hh:X.A.handled=none)(he:PE X e te):PS X (.Raise (some e) none pos) (OR X C te):=by
 intro pj s O H D I h;rw[arm_exec_Raise];obtain⟨⟨k,y,N,b,l,hd,s8,sub,ab,cl,dd,k0,k1,k2,k3,k5,lk,mr⟩,⟨cd,rs,c1,c2,c3⟩,_⟩:=xc;have c:(Value.ref C::l).contains (.type "BaseException")=true:=by unfold W.clsIn at c1;rw[lk]at c1;cases c1;have c2:Value.ref C::l=rs.map Value.ref++veL:=c2;rw[c2,BX]
 refine aF (wpAny_standAt (OQ (C:=C) (k:=k) (y:=y) (N:=N) (b:=b) (hd:=hd) (s8:=s8) (sub:=sub) (ab:=ab) (cl:=cl) (dd:=dd) (k0:=k0) (k1:=k1) (k2:=k2) (k3:=k3) (k5:=k5) (nw:="ValueError.__new__") c hh (aF (thn (he pj s O H _ I h) fun u s1 zz=>?_))));obtain⟨v,H1,I1,r,e,z,dx,ev,ee,q⟩:=zz;subst ev;obtain rfl:u=Value.ref e:=r;exact aF (wpAny_standAt (aQ ⟨e,z,dx,rfl,I1.kIn _ _ lk,nR I1.hok ee,q _ _ I1⟩))
end
section
open PySem Spec PyProof.Rows L2
section
variable {X:Cx}{CX:CXT}{n:Nat}{fI C N:Addr}{fd:FuncData}{ps:List Str}{sp:Sp}{dvs:List V}{ds:List Value}{E:XK}{x:Str}{p pos:Pos}{e1:Expr}{es:List Expr}{t:TA}
 {k y:Str} {b l:List Value} {hd ab:Bool} {s8:List Str} {sub:List Value} {cl:a0 Bool} {dd:a0 Addr} {k0 k1 k2 k3 k5:a0 Value}
theorem OT(hC:X.K.lookup C=some (excClassObj k y C N b l hd s8 sub ab cl dd k0 k1 k2 k3 k5 "ValueError.__new__"))(mr:Mr "ValueError" l)(hi:∀h,X.K.In h->Ini h C fI)(F:FnOk X.prog X.w X.K X.mg X.base CX n fI fd ps sp)(hr:Room (n+1) X.A)(hb:Binds X.K fd ps ds)(hv:aJ dvs ds)(hx:lL CX X E)(I:Inv X pj O H s)(r:aJ vs us)(hz:us.length<=sizeLine)(h:∀e z,H e=none->H z=none->sp (.ref e::(vs++dvs)) (aL H e (exO e (dN C z none))) (fun v H2=>v=.non/\Q (.ref e) H2) E):wpAny (model X.prog X.w) X.A (call (.ref C) us) (EP X pj O Q) X.xe s:=by
 have hq:=h (s.heap.objs.size+1) s.heap.objs.size (I.hok.fresh (Nat.le_succ _)) (I.hok.fresh (bH _));have I2:Inv X pj O (aL H (s.heap.objs.size+1) (exO (s.heap.objs.size+1) (dN C s.heap.objs.size none))) {s with heap:=exH s.heap C us,toks:=s.toks}:=I.laid vQ (Nat.le_succ _) (rP BT);have r2:aJ (V.ref (s.heap.objs.size+1)::(vs++dvs)) (Value.ref (s.heap.objs.size+1)::(us++ds)):=.cons rfl (r.append hv);have hl:(Value.ref (s.heap.objs.size+1)::us++ds).length=ps.length:=(r2.length.symm.trans (F.len _ _ _ _ hq));refine OG (h:=s.heap) (g:=s.gens) (d:=s.drawn) (t:=s.toks) (os:=s.os) PySem.F.excBase_ValueError mr (I.kIn _ _ hC) hz (hi _ I.kIn) ?_;refine wpAny_call (codeAny_mono (F.run _ X.stack _ _ ⟨Value.ref (s.heap.objs.size+1)::us,[]⟩ (Value.ref (s.heap.objs.size+1)::(us++ds)) _ _ E (hr.make C us []) (I2.env0.make C us []) (hb _ (Value.ref (s.heap.objs.size+1)::us) I2.kIn hl) r2 hq) fun r' s' hq'=>?_);cases r' with
 |error e=>exact hx pj O _ _ e s' I2 hq'
 |ok fl=>
  cases fl with
  |ret u=>obtain⟨v,H',I3,rv,ev,q3⟩:=I2.after hq';subst ev;exact⟨rv,V.ref (s.heap.objs.size+1),H',I3,rfl,q3⟩
  |next=>exact False.elim hq'
  |brk=>exact False.elim hq'
  |cont=>exact False.elim hq'
def tErr(C:Addr)(sp:Sp)(dvs:List V)(E:XK)(t:TA):TE:=fun O H Q=>t O H fun vs H1=>vs.length<=sizeLine/\∀e z,H1 e=none->H1 z=none->
 sp (.ref e::(vs++dvs)) (aL H1 e (exO e (dN C z none))) (fun v H2=>v=.non/\Q (.ref e) H2) E
theorem OU(hC:X.K.lookup C=some (excClassObj k y C N b l hd s8 sub ab cl dd k0 k1 k2 k3 k5 "ValueError.__new__"))(mr:Mr "ValueError" l)(hkp:W.keepIn X.K (.ref C)=true)(hi:∀h,X.K.In h->Ini h C fI)(F:FnOk X.prog X.w X.K X.mg X.base CX n fI fd ps sp)(hr:Room (n+1) X.A)(hg:Gl X x)(hm:X.mg x=some (.ref C))(hb:Binds X.K fd ps ds)(hv:aJ dvs ds)(hx:lL CX X E)(ha:PA X (e1::es) t)(hdb:(x==("__debug__":Str))=false:=by decide)(he:starEach (e1::es) X.env=(false,eval e1 X.env)::starEach es X.env:=by rfl)(hpl:(backTo pos (starEach es X.env)).any (·.1)=false:=by rfl):
  PE X (.Call (.Name x p) (e1::es) [] pos) (tErr C sp dvs E t):=by
 intro pj s O H Q I h;refine wpAny_Call_Name_kw (oY I hg hm ?_ hdb);refine W.callWith_K (h₀:=X.base) I.ok.mod.kin hkp (thn (ha pos pj s O H _ I h) fun us s1 ⟨vs,H1,I1,r,hz,q⟩=>⟨I1.kIn,?_⟩) he hpl;exact OT hC mr hi F hr hb hv hx I1 r (show us.length<=sizeLine by rw[<-r.length];exact hz) q
end
end
section
open PySem Spec PyProof.Rows L2
structure Flown(h:Heap)(a C dx:Addr)(o:Obj):Prop where
 ob:h.get? a=some o
 cl:o.cls=.ref C
 di:o.dict=some dx
 tr:∃vs,o.data=.fields vs/\1<vs.size/\(vs[1]?=some .none\/∃T oT ts,vs[1]?=some (.ref T)/\T≠a/\h.get? T=some oT/\oT.data=.fields ts/\ts[3]?=some .none)
section
variable {M:Model}{A:Around}{E:Vq}{s:Shared}{base:Heap}{env:PySem.Env}{outer:List PySem.Env}{L a C dx:Addr}{o:Obj}{vs:Array Value}{Q:Unit->Shared->Prop}
theorem ent(hfr:A.frames=some (env::outer))(hl:s.heap.FunFrames base (env::outer))(hf:env.frame=some L)(e0:s.heap.get? a=some o)(hv:o.data=.fields vs)(hz:1<vs.size)(h:∀h' T,h'.get? a=some (o.mapFields (·.setIfInBounds 1 (.ref T)))->T≠a->(∃oT ts,h'.get? T=some oT/\oT.data=.fields ts/\ts[3]?=some .none) ->(∀b u,b≠a->b∉frs (env::outer)->s.heap.get? b=some u->h'.get? b=some u)->(∀b u,b≠a->s.heap.get? b=some u->∃sl,h'.get? b=some {u with slots:=sl})->Q () {s with heap:=h'}):wpAny M A (do let f <-frameOf env;let pl <-entryPlaceOf L hn;let b <-EntryCells.newEntry head f .none (rawInt L) .none pl;setField (.ref a) 1 b) (fun _ s'=>wpAny M A (setFlight (.ref a) none) Q E s') E s:=by
 have na:a∉(env::outer).filterMap (·.frame):=fun z=>by obtain⟨_,u,e1,e2⟩:=hl.mem z;rw[e0]at e1;cases e1;exact e2 vs hv
 refine aF (wpAny_frameOf_fun hfr hl hf fun h1 ⟨z1,z2,z3⟩=>aF (wpAny_entryPlaceOf fun pl hpl=>?_));unfold EntryCells.newEntry newFields;refine aF (jM ?_ (hpl.sizeOk5 _ _ _ _ _));have e1:h1.get? a=some o:=(z2 a na).trans e0;generalize hT:({cls:=.type "traceback",dict:=none,data:=.fields ([head,.ref L,.none,rawInt L,.none]++(if pl.isEmpty then List.replicate 6 Value.none else pl)).toArray}:Obj)=oT;have dT:oT.data=.fields ([head,.ref L,.none,rawInt L,.none]++(if pl.isEmpty then List.replicate 6 Value.none else pl)).toArray:=by rw[<-hT]
 have fT:oT.isFreed=false:=by rw[<-hT];rfl
 have e2:=aT oT e1;refine wpAny_setField e2 hv hz ?_;have ne:h1.objs.size≠a:=Nat.ne_of_gt (bI e1);have d3:=jJ hv (·.setIfInBounds 1 (Value.ref h1.objs.size));have e3:=Heap.get?_update_self (Obj.mapFields (·.setIfInBounds 1 (Value.ref h1.objs.size))) e2 (Obj.isFreed_of_fields d3);have t3:((h1.push oT).update a (Obj.mapFields (·.setIfInBounds 1 (Value.ref h1.objs.size)))).get? h1.objs.size=some oT:=(Heap.get?_update_other _ _ (Ne.symm ne)).trans (cQ h1 fT);unfold setFlight;refine wpAny_bind (eM e3 d3 (x:=.ref h1.objs.size) (by simp[hz]) ?_);rw[if_pos (show(Value.ref h1.objs.size != Value.none)=true from by simp)];refine wpAny_setField t3 dT (by simp) ?_;have k:∀b u,b≠a->h1.get? b=some u->(((h1.push oT).update a (Obj.mapFields (·.setIfInBounds 1 (Value.ref h1.objs.size)))).update h1.objs.size (Obj.mapFields (·.setIfInBounds 3 ((none:a0 Addr).elim Value.none fun f=>rawInt f)))).get? b=some u:=fun b u nb q=>by rw[Heap.get?_update_other _ _ (Nat.ne_of_gt (bI q)),Heap.get?_update_other _ _ (Ne.symm nb)];exact aT _ q
 refine h _ h1.objs.size ?_ ne ⟨_,_,Heap.get?_update_self _ t3 (Obj.isFreed_of_fields (jJ dT _)),jJ dT _,by simp⟩ (fun b u nb nf q=>k b u nb ((z2 b nf).trans q)) fun b u nb q=>?_
 .rw[Heap.get?_update_other _ _ ne];exact e3
 .obtain⟨sl,e⟩:=z3 b u q;exact⟨sl,k b _ nb e⟩
theorem BY(e:h.get? a=some (o.mapFields (·.setIfInBounds 1 (.ref T))))(hc:o.cls=.ref C)(hd:o.dict=some dx)(hv:o.data=.fields vs)(hz:1<vs.size)(ne:T≠a)(t:∃oT ts,h.get? T=some oT/\oT.data=.fields ts/\ts[3]?=some .none):Flown h a C dx (o.mapFields (·.setIfInBounds 1 (.ref T))):=by
 obtain⟨oT,ts,t1,t2,t3⟩:=t;refine⟨e,(Obj.cls_mapFields _ _).trans hc,?_,_,jJ hv _,by simpa using hz,.inr ⟨T,oT,ts,by simp[hz],ne,t1,t2,t3⟩⟩;obtain⟨c,d,dt,sl⟩:=o;cases dt<;>first|exact hd|cases hv
theorem nf(hfr:A.frames=some (env::outer))(hl:s.heap.FunFrames base (env::outer))(hf:env.frame=some L)(fl:Flown s.heap a C dx o)(h:∀h' o',Flown h' a C dx o'->(∀b u,b≠a->b∉frs (env::outer)->s.heap.get? b=some u->h'.get? b=some u)->(∀b u,b≠a->s.heap.get? b=some u->∃sl,h'.get? b=some {u with slots:=sl})->Q () {s with heap:=h'}):wpAny M A (noteFrame (.ref a) env) (fun _ s'=>wpAny M A (setFlight (.ref a) none) Q E s') E s:=by
 obtain⟨e0,hc,hd,vs,hv,hz,ht⟩:=fl;unfold noteFrame;simp only[hf];rcases ht with ht|⟨T,oT,ts,h1,h2,h3,h4,h5⟩
 .refine aF (eM e0 hv ht ?_);rw[if_neg (by decide)];exact ent hfr hl hf e0 hv hz fun h' T g1 g2 g3 g4 g5=>h h' _ (BY g1 hc hd hv hz g2 g3) g4 g5
 .refine aF (eM e0 hv h1 ?_);rw[if_pos (show(Value.ref T != Value.none)=true from by simp)];refine aF (eM h3 h4 h5 ?_);rw[if_neg (show ¬((Value.none==rawInt L)=true)from by simp[rawInt])];refine aF (wpAny_setField h3 h4 (Array.getElem?_eq_some_iff.mp h5).1 ?_);have same:∀b u,s.heap.get? b=some u->(s.heap.update T (Obj.mapFields (·.setIfInBounds 3 Value.none))).get? b=some u:=fun b u q=>by
   by_cases hb:b=T
   .subst hb;rw[h3]at q;cases q;rw[Heap.get?_update_self _ h3 (Obj.isFreed_of_fields (jJ h4 _))];obtain⟨c,d,dt,sl⟩:=oT;cases h4;obtain⟨l1,l2⟩:=Array.getElem?_eq_some_iff.mp h5;have:ts.setIfInBounds 3 Value.none=ts:=by rw[<-l2];simp[Array.setIfInBounds,l1]
    simp[Obj.mapFields,this]
   .rw[Heap.get?_update_other _ _ (Ne.symm hb)];exact q
  exact ent (s:={s with heap:=s.heap.update T (Obj.mapFields (·.setIfInBounds 3 Value.none))}) hfr (hl.of_keeps fun b u q _=>⟨u,same b u q,rfl⟩) hf (same _ _ e0) hv hz fun h' T' g1 g2 g3 g4 g5=>h h' _ (BY g1 hc hd hv hz g2 g3) (fun b u nb nf q=>g4 b u nb nf (same b u q)) fun b u nb q=>g5 b u nb (same b u q)
def lv(hfr:A.frames=some (env::outer))(hl:s.heap.FunFrames base (env::outer))(hf:env.frame=some L)(fl:Flown s.heap a C dx o)(h:∀h' o',Flown h' a C dx o'->(∀b u,b≠a->b∉frs (env::outer)->s.heap.get? b=some u->h'.get? b=some u)->(∀b u,b≠a->s.heap.get? b=some u->∃sl,h'.get? b=some {u with slots:=sl})->Q () {s with heap:=h'}):wpAny M A (leaving env (.ref a)) Q E s:=aF (nf hfr hl hf fl h)
end
end
section
open PySem Spec PyProof.Rows L2
def CX1(P:Program)(w:World):CXT:=fun outer H s E e s'=>∃a C dx o H',e=.ref a/\s'.os=s.os/\AllBare s'.gens/\Un (frs outer) [] H H' s.heap s'.heap/\HOk P w H' s'.heap /\
 H' a=some (exO a o)/\Flown s'.heap a C dx o/\∀o',E (.ref C) (some dx) (aL H' a (exO a o'))
section
variable {P:Program}{w:World}{fs:List Addr}{H H':Hp}{h h':Heap}{a:Addr}{o o':Obj}
theorem BZ(ha:H a=some (exO a o))(ob:h'.get? a=some o')(k:∀b u,b≠a->b∉fs->h.get? b=some u->h'.get? b=some u)(sl:∀b u,b≠a->h.get? b=some u->∃sl,h'.get? b=some {u with slots:=sl}):Un fs [] H (aL H a (exO a o')) h h':=by
 have n0:∀{b:Addr},H b=none->b≠a:=fun n z=>by rw[z,ha]at n;cases n
 have nx:∀{b:Addr}{u:HO},H b=some u->u≠exO a o->b≠a:=fun e d=>iM e ha d;refine⟨fun b u e n hb _=>k b u (n0 n) hb e,fun b u e n _ _=>sl b u (n0 n) e,fun b u _ n _=>by rw[aR (n0 n)];exact n,fun b u e _=>?_,fun b xs e=>?_,fun b u v e=>?_,fun b ps e=>⟨#[],?_⟩⟩
 .by_cases hb:b=a
  .subst hb;exact⟨_,ob⟩
  .obtain⟨_,q⟩:=sl b u hb e;exact⟨_,q⟩
 .rw[aR (nx e (by intro z;cases z))];exact e
 .rw[aR (nx e (by intro z;cases z))];exact e
 .rw[aR (nx e (by intro z;cases z)),e];simp
theorem CA(ok:HOk P w H h)(ha:H a=some (exO a o))(frf:∀b∈fs,H b=none)(ob:h'.get? a=some o')(k:∀b u,b≠a->b∉fs->h.get? b=some u->h'.get? b=some u):HOk P w (aL H a (exO a o')) h':=by
 have nx:∀{b:Addr}{u:HO},H b=some u->u≠exO a o->b≠a:=fun e d=>iM e ha d;have nf:∀{b:Addr}{u:HO},H b=some u->b∉fs:=fun e z=>by rw[frf _ z]at e;cases e
 intro b u e;by_cases hb:b=a
 .subst hb;rw[bN]at e;cases e;exact rP ob
 .rw[aR hb]at e;refine(ok b u e).stay (fun c v hc q=>?_) (fun c q=>by rw[aR (nx q (by intro z;cases z))];exact q) fun c xs q=>by rw[aR (nx q (by intro z;cases z))];exact q
  rcases hc with rfl|hc
  .exact k c v hb (nf e) q
  .exact k c v (nx hc (by intro z;cases z)) (nf hc) q
def OV(u:Un (L::fs) [] H H' h h')(hL:∀o,h.get? L≠some o):Un fs [] H H' h h' :=
 ⟨fun b o e n hb hx=>u.keep b o e n (fun z=>(omc z).elim (fun q=>hL o (q▸e)) hb) hx,fun b o e n hb hx=>u.slot b o e n (dH _ hb) hx,u.free,u.there,u.tups,u.frzs,u.tbls⟩
end
section
variable {X:Cx}{pj:Pq}{O:L2.St}{H:Hp}{s:Shared}{a C dx:Addr}{o:Obj}{E:XK}{E':Vq}
theorem CB(hs:X.stack=X.env::X.outer)(hf:X.env.frame=some X.env.locals)(hx:X.ex=[])(I:Inv X pj O H s)(ha:H a=some (exO a o))(fl:Flown s.heap a C dx o)(q:∀o',E (.ref C) (some dx) (aL H a (exO a o'))):wpAny (model X.prog X.w) X.A (leaving X.env (.ref a)) (fun _ s2=>CX1 X.prog X.w X.outer X.H₀ X.s₀ E (.ref a) s2) E' s:=by
 have fr:=I.ok.frames;have st:=I.stack;have sf:=I.stkFree;rw[hs]at fr st sf;refine lv fr st hf fl fun h' o' fl' k sl=>?_;have fe:frs (X.env::X.outer)=X.env.locals::X.fs:=by unfold frs;rw[jK,hf];rfl
 have b0:=I.base;rw[hx]at b0;rw[fe]at k sf;have U:=(b0.mono (fs':=X.env.locals::X.fs) (fun b hb=>dH _ hb) fun b hb=>hb).trans (BZ ha fl'.ob k sl);exact⟨a,C,dx,o',_,rfl,I.os,I.bare,OV U fun u z=>absurd (dS (bI z) I.ok.above) (gJ _),CA I.hok ha sf fl'.ob k,bN,fl',fun o2=>by rw[vA];exact q o2⟩
theorem OW(hs:X.stack=X.env::X.outer)(hf:X.env.frame=some X.env.locals)(hx:X.ex=[])(xe:X.xe=fun e s'=>wpAny (model X.prog X.w) X.A (leaving X.env e) (fun _ s2=>CX1 X.prog X.w X.outer X.H₀ X.s₀ E e s2) (fun e2 s2=>CX1 X.prog X.w X.outer X.H₀ X.s₀ E e2 s2) s'):lL (CX1 X.prog X.w) X E:=by
 rintro pj O H s e s' I ⟨a,C,dx,o,H',e1,os,bare,un,hok,ha,fl,q⟩;subst e1;rw[xe];exact CB hs hf hx (I.call' os un hok bare (fun b z=>absurd z (by simp))) ha fl q
end
end
section
open PySem Spec PyProof.Rows L2
structure IsEr(H:Hp)(a D dx:Addr)(o:Obj)(y:V):Prop where
 ob:H a=some (exO a o)
 cl:o.cls=.ref D
 di:o.dict=some dx
 fd:∃vs,o.data=.fields vs
 xd:H dx=some (.xd [("at",y)])
structure ErC(K:W.Frag)(D:Addr):Prop where
 ga:W.findIn K (.ref D) "__getattribute__"=some (some (.builtin "BaseException.__getattribute__"))
 gn:W.findIn K (.ref D) "__getattr__"=some none
 sb:W.mroIn K D (.type "BaseException")=some true
 hd:W.hasDictIn K D=true
 ha:W.findIn K (.ref D) "__class__"=some (some (.builtin "object.__class__"))
 hn:W.specialIn K (.builtin "object.__class__") "__get__"=some (some (.builtin "getset_descriptor.__get__"))
 ht:W.takesIn K (.builtin "object.__class__")=some true
 hm:W.mroIn K D (.type "object")=some true
 na:W.findIn K (.ref D) "at"=some none
section
variable {P:Program}{w:World}{A:Around}{E:Vq}{s:Shared}{K:W.Frag}{a D:Addr}{o:Obj}{od:a0 Obj}{name:Str}{tk:Tok}{fill expr:Bool}{Q:Vq}
theorem CC:builtinKind "BaseException.__getattribute__"=some .slot:=by decide +kernel
theorem CD:splitId "BaseException.__getattribute__"=some ("BaseException", "__getattribute__"):=by decide +kernel
theorem CF(X:K.In s.heap)(J:W.InstAt s.heap a o D od)(k:ErC K D)(q:∀R:Result->Shared->Prop,(∀v s',W.handedIn v=true->Q v s'->R (.ok (.ret v)) s')->codeAny (model P w) A (.call (.builtin "BaseException.__getattribute__") ⟨[.ref a,.str name tk],[]⟩) R s):wpAny (model P w) A (getAttrBy (.ref a) (.str name tk) fill expr) Q E s:=by
 have e0:onTheHeap (Value.builtin "BaseException.__getattribute__")=false:=rfl;have e1:(onTheHeap (Value.ref D)&&Value.builtin "BaseException.__getattribute__"==Value.builtin "object.__getattribute__")=false:=by rw[show(Value.builtin "BaseException.__getattribute__"==Value.builtin "object.__getattribute__")=false by decide +kernel];rfl
 unfold getAttrBy;refine iY (aF ((J.type (M:=model P w)).here (aF ((W.looks_findIn X k.ga).here ?_))));dsimp only;rw[e1,if_neg dW];unfold getAttrByItsOwn hookBefore;rw[if_pos (show onTheHeap (.ref D)=true from rfl)];refine aF ((W.looks_findIn X k.gn).here (aF (wpAny_attempt (iY ?_))));unfold callGetattribute;rw[e0,Bool.and_false,if_neg dW];unfold boundAndCalled;rw[PySem.F.excAttr_ValueError.ga.bind];refine aF (aQ ?_);refine wpAny_call (q _ fun v s' hv hq=>?_);exact W.handed_on hv hq
def CG(X:K.In s.heap)(J:W.InstAt s.heap a o D od)(k:ErC K D):W.Looks (model P w) s.heap (isInstance (.ref a) (.type "BaseException")) true:=(J.type (M:=model P w)).andThen (W.looks_mroIn X k.sb)
def CH:∃miss:Value->Sem Fin,Builtin.«object.__getattribute__» ⟨[.ref a,.str name tk],[]⟩=(typeOf (.ref a) >>= fun tp=>Builtin.ObjectAttr.find (.ref a) tp name >>= fun r=>match r with
  |.value v=>ret v
  |.bind g b=>Builtin.ObjectAttr.bindTo g b (.ref a) tp
  |.missing=>miss tp):=⟨_,rfl⟩
def OX(X:K.In s.heap)(J:W.InstAt s.heap a o D od)(k:ErC K D)(hf:W.findObj K D od name=some (.value v))(q:R (.ok (.ret v)) s):codeAny (model P w) A (.call (.builtin "BaseException.__getattribute__") ⟨[.ref a,.str name tk],[]⟩) R s:=by
 refine codeAny_call_builtin PySem.F.excAttr_ValueError.ga.plain PySem.F.entry_bexc_ga (@W.check_slot (model P w) _ _ s "BaseException.__getattribute__" "BaseException" "__getattribute__" (.ref a) [.str name tk] [] _ CC CD (CG X J k) (PySem.F.args_bexc_ga _ _) ?_);obtain⟨miss,e⟩:=CH (a:=a) (name:=name) (tk:=tk);rw[e];refine aF ((J.type (M:=model P w)).here (aF ((W.looks_find (M:=model P w) X J hf).here ?_)));exact aQ q
def OY(X:K.In s.heap)(J:W.InstAt s.heap a o D od)(k:ErC K D)(hf:W.findObj K D od name=some (.bind (.builtin "getset_descriptor.__get__") (.builtin "object.__class__")))(q:R (.ok (.ret (.ref D))) s):codeAny (model P w) A (.call (.builtin "BaseException.__getattribute__") ⟨[.ref a,.str name tk],[]⟩) R s:=by
 refine codeAny_call_builtin PySem.F.excAttr_ValueError.ga.plain PySem.F.entry_bexc_ga (@W.check_slot (model P w) _ _ s "BaseException.__getattribute__" "BaseException" "__getattribute__" (.ref a) [.str name tk] [] _ CC CD (CG X J k) (PySem.F.args_bexc_ga _ _) ?_);obtain⟨miss,e⟩:=CH (a:=a) (name:=name) (tk:=tk);rw[e];refine aF ((J.type (M:=model P w)).here (aF ((W.looks_find (M:=model P w) X J hf).here ?_)));refine aF (iY (wpAny_call (W.class_get (ox:=o) (od:=od) X J k.hm ?_)));exact aQ q
theorem rQ(X:K.In s.heap)(J:W.InstAt s.heap a o D od)(k:ErC K D)(hf:W.findObj K D od name=some (.value v))(hh:W.handedIn v=true)(q:Q v {s with toks:=s.toks+1}):wpAny (model P w) A (getAttr (.ref a) name expr) Q E s:=by unfold getAttr;refine aF (wpAny_mkText ?_);exact CF (s:={s with toks:=s.toks+1}) X J k fun R hR=>OX (s:={s with toks:=s.toks+1}) X J k hf (hR v _ hh q)
theorem OZ{Q:a0 Value->Shared->Prop}{od:Obj}(X:K.In s.heap)(J:W.InstAt s.heap a o D (some od))(k:ErC K D)(q:Q (some (.ref D)) {s with toks:=s.toks+1}):wpAny (model P w) A (getAttr? (.ref a) "__class__") Q E s:=by have hf:W.findObj K D (some od) "__class__"=some (.bind (.builtin "getset_descriptor.__get__") (.builtin "object.__class__")):=W.findObj_data (by obtain⟨cd,hc,_⟩:=W.any_some k.hd;rw[hc];rfl) k.ha k.hn k.ht;unfold getAttr? getAttrBy?;refine aF (wpAny_mkText (aF (wpAny_attempt ?_)));exact CF (s:={s with toks:=s.toks+1}) X J k fun R hR=>OY (s:={s with toks:=s.toks+1}) X J k hf (hR _ _ rfl (aQ q))
theorem PB{od:Obj}(k:ErC K D):W.KitX K (.ref a) (.ref D) (fun h=>W.InstAt h a o D (some od)) where
 ty:=fun _ _ _ I=>I.type
 it:=fun _ _ X _=>by
  obtain⟨cdD,hcD,_⟩:=W.any_some k.hd;unfold W.clsIn at hcD;split at hcD
  .rename_i ho;intro A' Q' E' s' kk q;unfold isType loadHead;exact aF (wpAny_loadPart (kk _ _ (X _ _ ho)) (aQ q))
  .cases hcD
 ne:=fun h tp dd qc n sl X htp=>by
  obtain⟨cdD,hcD,_⟩:=W.any_some k.hd;refine Bool.eq_false_iff.mpr fun q=>?_;have e:D=tp:=Value.ref.inj (nM.mp q);subst e;unfold W.clsIn at hcD;split at hcD
  .rename_i ho;cases(X _ _ ho).symm.trans htp
  .cases hcD
 ca:=fun X I q=>OZ X I k q
end
theorem IsEr.look(I:Inv X pj O H s)(r:IsEr H a D dx o y):∃od u,W.InstAt s.heap a o D (some od)/\W.lookIn "at" od=some (some u)/\aG y u:=by obtain⟨mA,ns,rl⟩:=(show aU X.prog X.w H s.heap dx (.xd [("at",y)])from I.hok _ _ r.xd);obtain⟨od,h1,h2⟩:=MR ns;obtain⟨u,hu,ru⟩:=eF.some_of (v:=y) (o:=mA "at") (rl "at");obtain⟨vs,hv⟩:=r.fd;exact⟨od,u,⟨nR I.hok r.ob,r.cl,by unfold W.notCls;rw[hv],by rw[r.di];exact h1⟩,by rw[h2,hu],ru⟩
def nS:V->Value
 |.ref a=>.ref a
 |.ty n=>.type n
 |_=>.none
theorem PC(r:aG c u)(h:nS c≠.none):u=nS c:=by
 cases c with
 |ref a=>exact r
 |ty n=>exact r
 |_=>exact absurd rfl h
theorem rR:iA X (.builtin "isinstance") (fun xs H Q=>∃a D dx o y c b,xs=[.ref a,c]/\nS c≠.none/\IsEr H a D dx o y/\ErC X.K D/\W.kitOne X.K (.ref D) (nS c)=some b/\Q (.bl b) H):=by
 rintro pj s O H xs us Q I r⟨a,D,dx,o,y,c,b,rfl,hc,ie,k,e,q⟩;cases r with
 |cons r1 r=>cases r with
  |cons r2 r=>cases r;cases r1;obtain rfl:=PC r2 hc;obtain⟨od,u,J,_,_⟩:=ie.look I;exact W.kia_one (PB k) I.kIn J e (fun z=>nomatch z) fun tk=>⟨.bl b,H,I.tok tk,rfl,q⟩
def tAt(K:W.Frag)(te:TE):TE:=fun O H Q=>te O H fun x H1=>∃a D dx o y,x=.ref a/\IsEr H1 a D dx o y/\ErC K D/\Q y H1
def CI(he:PE X e te)(hb:attributeBase e "at" X.env (eval e X.env)=eval e X.env):PE X (.Attribute e "at" pos) (tAt X.K te):=by intro pj s O H Q I h;refine MT hb (thn (he pj s O H _ I h) fun u s1 zz=>?_);obtain⟨x,H1,I1,rx,a,D,dx,o,y,ex,ie,k,q⟩:=zz;subst ex;obtain rfl:u=Value.ref a:=rx;obtain⟨od,v,J,l,ry⟩:=ie.look I1;exact rQ I1.kIn J k (W.findObj_own k.hd k.na rfl l) (MS ry) ⟨y,H1,I1.tok _,ry,q⟩
end
end Ev.Ex
namespace Ev
open PySem
abbrev Kt:=Sum Int (a0 Str)
inductive T where
 |non|bl (b:Bool)|int (i:Int)|str (x:Str)|tup (xs:List T)|lst (xs:List T)
 |dk (ks:List Kt) (vs:List T)|dt (ks:List (List Kt)) (vs:List T)
 deriving Inhabited
inductive Bo where
 |add|sub|mul|fdiv|mod
 deriving DecidableEq
inductive Co where
 |eq|ne|lt|gt|isin|notin|isN|notN|notF
 deriving DecidableEq
inductive Ik where
 |plain|range|enum|zip
 deriving DecidableEq
noncomputable def Ik.pair:Ik->Bool
 |.enum=>true
 |.zip=>true
 |_=>false
inductive Ty where
 |tint|tbool
 deriving DecidableEq
inductive Bn where
 |len|toInt|toList|toTuple|any|least|most|sorted|dict
 deriving DecidableEq
inductive Mt where
 |index|count
 deriving DecidableEq
inductive E where
 |w (i:Nat)|c (t:T)
 |bin (o:Bo) (a b:E)|cmp (o:Co) (a b:E)
 |land (a b:E)|lor (a b:E)|lnot (a:E)|neg (a:E)|tru (a:E)
 |tup (es:List E)|lst (es:List E)
 |idx (a b:E)|sli (a:E) (lo hi:Option E)
 |call (f:Str) (es:List E)|blt (f:Bn) (a:E)|isi (a:E) (k:Ty)|mth (m:Mt) (a b:E)
 |comp (elt:E) (n:Nat) (k:Ik) (src:List E) (cond:Option E)
 deriving Inhabited
inductive S where
 |asg (i:Nat) (e:E)
 |app (i:Nat) (e:E)
 |dnew (i:Nat)
 |dput (i:Nat) (k v:E)
 |wloop (c:E) (body:List S)
 |lpop (j i:Nat)
 |nw (i:Nat) (e:E)
 |ret (e:E)
 |fail|tif (f:Str) (es:List E) (e:E) (a:List S)
 |ite (c:E) (a b:List S)
 |loop (is:List Nat) (k:Ik) (src:List E) (body:List S)
 deriving Inhabited
abbrev SZ:Nat:=16777216
abbrev Env:=List (a0 T)
structure Glo where
 call:Str->List T->Option T
 exc:Str->List T->Option (Str×Int)
noncomputable def mK:T->a0 Kt
 |.int i=>some (.inl i)
 |.str x=>some (.inr (some x))
 |.non=>some (.inr none)
 |_=>none
def lM:List T->a0 (List Kt)
 |[]=>some []
 |x::r=>(mK x).bind fun k=>(lM r).bind fun ks=>some (k::ks)
noncomputable def kT:Kt->T
 |.inl i=>.int i
 |.inr (some x)=>.str x
 |.inr none=>.non
def tkT(k:List Kt):T:=.tup (k.map kT)
section
variable {κ β:Type}[DecidableEq κ]
noncomputable def mL:List κ->List β->κ->a0 β
 |k::ks,v::vs,q=>if k=q then some v else mL ks vs q
 |_,_,_=>none
noncomputable def valP:List (κ×β)->κ->a0 β
 |[],_=>none
 |p::r,k=>if p.1=k then some p.2 else valP r k
noncomputable def eW(qb:List (κ×β))(k:κ)(v:β):List (κ×β) :=
 if(qb.any fun kv=>decide (kv.1=k))=true then qb.map (fun kv=>if kv.1=k then(kv.1,v)else kv)else qb++[(k,v)]
end
def kLt:Kt->Kt->Bool
 |.inl a,.inl b=>decide (a<b)
 |.inr (some a),.inr (some b)=>decide (a.cps.toList<b.cps.toList)
 |_,_=>false
noncomputable def mM:Kt->Kt->Bool
 |.inl _,.inl _=>true
 |.inr (some _),.inr (some _)=>true
 |_,_=>false
def mN:List Kt->List Kt->Bool
 |x::xs,y::ys=>if x=y then mN xs ys else kLt x y
 |_,_=>false
def alike:List Kt->List Kt->Bool
 |[],[]=>true
 |x::xs,y::ys=>mM x y&&alike xs ys
 |_,_=>false
noncomputable def pH{α:Type}(c:Nat->Nat->Bool):W.KasT α->α
 |.ret a=>a
 |.ask i j k=>pH c (k (c i j))
def eX(l:List (List Kt)):List (List Kt):=if l.length<2 then l else(pH (fun i j=>mN (l.getD i []) (l.getD j [])) (W.kas_sort l.length)).toList.map fun i=>l.getD i []
def pI(l:List (List Kt)):a0 T:=if l.length<=60/\∀x∈l,x≠[]/\∀y∈l,alike x y=true then some (.lst ((eX l).map tkT))else none
noncomputable def nU(i:Int):Bool:=decide (-18446744073709551616<i)&&decide (i<18446744073709551616)
def cC:T->T->a0 T
 |.int a,y=>(match y with
  |.int b=>some (.int (a+b))
  |_=>none)
 |.lst a,y=>(match y with
  |.lst b=>if a.length+b.length<=SZ then some (.lst (a++b))else none
  |_=>none)
 |.tup a,y=>(match y with
  |.tup b=>if a.length+b.length<=SZ then some (.tup (a++b))else none
  |_=>none)
 |_,_=>none
def pJ:T->T->a0 T
 |.int a,.int b=>some (.int (a-b))
 |_,_=>none
def kJ:T->T->a0 T
 |.int a,.int b=>if nU a||nU b then some (.int (a*b))else none
 |.lst xs,.int n=>if 0<=n/\n<=1000/\xs.length<=1000 then some (.lst (List.replicate n.toNat xs).flatten)else none
 |_,_=>none
def cZ:T->T->a0 T
 |.int a,.int b=>if 0<b/\b<1073741824 then some (.int (a/b))else none
 |_,_=>none
def dA:T->T->a0 T
 |.int a,.int b=>if 0<b then some (.int (a%b))else none
 |_,_=>none
def bO:Bo->T->T->a0 T
 |.add=>cC|.sub=>pJ|.mul=>kJ|.fdiv=>cZ|.mod=>dA
mutual
noncomputable def eqT:T->T->Bool
 |.non,y=>(match y with
  |.non=>true
  |_=>false)
 |.bl a,y=>(match y with
  |.bl b=>a==b
  |.int b=>(if a then 1 else 0)==b
  |_=>false)
 |.int a,y=>(match y with
  |.bl b=>a==(if b then 1 else 0)
  |.int b=>a==b
  |_=>false)
 |.str a,y=>(match y with
  |.str b=>a==b
  |_=>false)
 |.tup a,y=>(match y with
  |.tup b=>eO a b
  |_=>false)
 |.lst a,y=>(match y with
  |.lst b=>eO a b
  |_=>false)
 |_,_=>false
noncomputable def eO:List T->List T->Bool
 |[],[]=>true
 |x::xs,y::ys=>eqT x y&&eO xs ys
 |_,_=>false
end
mutual
noncomputable def dpP:T->T->Nat
 |.tup a,y=>(match y with
  |.tup b=>fM a b+1
  |.dk _ _=>20000
  |.dt _ _=>20000
  |_=>0)
 |.lst a,y=>(match y with
  |.lst b=>fM a b+1
  |.dk _ _=>20000
  |.dt _ _=>20000
  |_=>0)
 |.dk _ _,_=>20000
 |.dt _ _,_=>20000
 |_,y=>(match y with
  |.dk _ _=>20000
  |.dt _ _=>20000
  |_=>0)
noncomputable def fM:List T->List T->Nat
 |x::xs,y::ys=>max (dpP x y) (fM xs ys)
 |_,_=>0
end
noncomputable def flat:T->Bool
 |.tup _=>false
 |.lst _=>false
 |.dk _ _=>false
 |.dt _ _=>false
 |_=>true
def eqC(x y:T):a0 T:=if dpP x y<=30 then some (.bl (eqT x y))else none
def neC(x y:T):a0 T:=if dpP x y<=30 then some (.bl (!eqT x y))else none
def ltC:T->T->a0 T
 |.int a,.int b=>some (.bl (decide (a<b)))
 |.str a,.str b=>some (.bl (decide (a.cps.toList<b.cps.toList)))
 |_,_=>none
noncomputable def CJ:T->a0 (List T)
 |.tup xs=>some xs
 |.lst xs=>some xs
 |_=>none
def dpI(x:T)(xs:List T):Bool:=xs.all fun z=>decide (dpP z x<=30)
def inC(x y:T):a0 Bool :=
 match y with
 |.tup xs=>if dpI x xs then some (xs.any fun z=>eqT z x)else none
 |.lst xs=>if dpI x xs then some (xs.any fun z=>eqT z x)else none
 |.dk ks _=>(mK x).map fun k=>ks.any fun q=>decide (q=k)
 |_=>none
def bF:Co->T->T->a0 T
 |.eq,x,y=>eqC x y
 |.ne,x,y=>neC x y
 |.lt,x,y=>ltC x y
 |.gt,x,y=>(match x,y with
  |.int a,.int b=>some (.bl (decide (b<a)))
  |_,_=>none)
 |.isin,x,y=>(inC x y).map .bl
 |.notin,x,y=>(inC x y).map fun b=>.bl (!b)
 |.isN,x,y=>(match x,y with
  |.non,.non=>some (.bl true)
  |_,.non=>some (.bl false)
  |_,_=>none)
 |.notN,x,y=>(match x,y with
  |.non,.non=>some (.bl false)
  |_,.non=>some (.bl true)
  |_,_=>none)
 |.notF,x,y=>(match x,y with
  |.bl b,.bl false=>some (.bl b)
  |.non,.bl false=>some (.bl true)
  |_,_=>none)
noncomputable def ixI(n:Nat)(i:Int):a0 Nat:=if 0<=i then(if i<n then some i.toNat else none)else if -(n:Int)<=i then some (i+n).toNat else none
def cJ(xs:List T)(i:Int):a0 T:=(ixI xs.length i).bind fun j=>xs[j]?
def aK:T->T->a0 T
 |.tup xs,.int i=>cJ xs i
 |.lst xs,.int i=>cJ xs i
 |.dt ks vs,.tup xs=>(lM xs).bind fun k=>mL ks vs k
 |_,_=>none
noncomputable def gZ(n d:Nat):a0 Int->Nat
 |none=>d
 |some v=>if v<0 then(v+(n:Int)).toNat else min v.toNat n
def cut(xs:List T)(lo hi:a0 Int):List T:=(xs.drop (gZ xs.length 0 lo)).take (gZ xs.length xs.length hi-gZ xs.length 0 lo)
def fN:T->a0 Int->a0 Int->a0 T
 |.tup xs,lo,hi=>some (.tup (cut xs lo hi))
 |.lst xs,lo,hi=>some (.lst (cut xs lo hi))
 |_,_,_=>none
def iD:T->a0 Bool
 |.non=>some false
 |.bl b=>some b
 |.int i=>some (i != 0)
 |.tup xs=>some (!xs.isEmpty)
 |.lst xs=>some (!xs.isEmpty)
 |_=>none
noncomputable def nV(x:T):Ty->Bool
 |.tint=>(match x with
  |.int _=>true
  |.bl _=>true
  |_=>false)
 |.tbool=>(match x with
  |.bl _=>true
  |_=>false)
noncomputable def vS:List T->a0 (List Int)
 |[]=>some []
 |.int i::r=>(vS r).map (i::·)
 |_=>none
noncomputable def vT(l:List Int):a0 T:=l.min?.map .int
noncomputable def vU(l:List Int):a0 T:=l.max?.map .int
def vV(g:List Int->a0 T):T->a0 T
 |.lst xs=>(vS xs).bind g
 |_=>none
def nW:List T->a0 (List Bool)
 |[]=>some []
 |.bl b::r=>(nW r).map (b::·)
 |_=>none
def rS:T->a0 (List Kt×T)
 |.tup [.tup ks,v]=>(lM ks).map fun k=>(k,v)
 |_=>none
def lN:List T->a0 (List (List Kt×T))
 |[]=>some []
 |x::r=>(rS x).bind fun p=>(lN r).bind fun ps=>some (p::ps)
def gO(l:List (List Kt×T)):List (List Kt×T):=l.foldl (fun acc p=>eW acc p.1 p.2) []
def bW:Bn->T->a0 T
 |.len,x=>(match x with
  |.tup xs=>some (.int xs.length)
  |.lst xs=>some (.int xs.length)
  |_=>none)
 |.toInt,x=>(match x with
  |.int i=>some (.int i)
  |.bl b=>some (.int (if b then 1 else 0))
  |_=>none)
 |.toList,x=>(match x with
  |.tup xs=>some (.lst xs)
  |.lst xs=>some (.lst xs)
  |_=>none)
 |.toTuple,x=>(match x with
  |.tup xs=>some (.tup xs)
  |.lst xs=>some (.tup xs)
  |_=>none)
 |.least,x=>vV vT x
 |.most,x=>vV vU x
 |.any,x=>(match x with
  |.lst xs=>(nW xs).map fun bs=>.bl (bs.any id)
  |_=>none)
 |.sorted,x=>(match x with
  |.dt ks _=>pI ks
  |_=>none)
 |.dict,x=>(match x with
  |.lst xs=>(lN xs).bind fun l=>if l.length<=1000 then some (.dt ((gO l).map (·.1)) ((gO l).map (·.2)))else none
  |_=>none)
def hG(x:T):List T->a0 Nat
 |[]=>none
 |y::r=>if eqT y x then some 0 else(hG x r).map (·+1)
def dZ:Mt->T->T->a0 T
 |.count,.lst xs,y=>if dpI y xs then some (.int ((xs.filter fun z=>eqT z y).length:Nat))else none
 |.index,.lst xs,y=>if(flat y&&xs.all flat)||dpI y xs then(hG y xs).map fun(i:Nat)=>T.int (i:Int)else none
 |_,_,_=>none
noncomputable def eI:List T->Nat->List T
 |[],_=>[]
 |x::r,i=>.tup [.int i,x]::eI r (i+1)
noncomputable def fG:List T->List T->List T
 |x::xs,y::ys=>.tup [x,y]::fG xs ys
 |_,_=>[]
noncomputable def kK(n:Nat):List T:=(List.range n).map fun(i:Nat)=>T.int (i:Int)
noncomputable def iE(x:Str):Bool:=x.cps.all (·<128)
def items:Ik->List T->a0 (List T)
 |.plain,l=>(match l with
  |[.tup xs]=>some xs
  |[.lst xs]=>some xs
  |_=>none)
 |.range,l=>(match l with
  |[.int n]=>if -4611686018427387904<=n/\n<4611686018427387904 then some (kK n.toNat)else none
  |_=>none)
 |.enum,l=>(match l with
  |[.tup xs]=>some (eI xs 0)
  |[.lst xs]=>some (eI xs 0)
  |_=>none)
 |.zip,l=>(match l with
  |[x,y]=>(match x with
   |.tup xs=>(CJ y).bind fun ys=>some (fG xs ys)
   |_=>none)
  |_=>none)
def bP(k:Ik)(xs:List T):a0 (List T):=(items k xs).bind fun qc=>if qc.length<=SZ then some qc else none
noncomputable def bnd(n:Nat)(x:T)(ρ:Env):a0 Env :=
 if n=1 then some (some x::ρ)else
  match x with
  |.tup xs=>if xs.length=n then some (xs.map some++ρ)else none
  |_=>none
noncomputable def eE(f:T->a0 (a0 T)):List T->a0 (List T)
 |[]=>some []
 |x::xs=>(f x).bind fun r=>(eE f xs).bind fun rs=>match r with
  |none=>some rs
  |some y=>some (y::rs)
noncomputable def asI:a0 T->a0 (a0 Int)
 |none=>some none
 |some (.int i)=>some (some i)
 |some _=>none
mutual
noncomputable def evE(G:Glo):E->Env->a0 T
 |.w i,ρ=>(ρ[i]?).join
 |.c t,_=>some t
 |.bin o a b,ρ=>(evE G a ρ).bind fun x=>(evE G b ρ).bind fun y=>bO o x y
 |.cmp o a b,ρ=>(evE G a ρ).bind fun x=>(evE G b ρ).bind fun y=>bF o x y
 |.land a b,ρ=>(evE G a ρ).bind fun x=>match x with
  |.bl true=>evE G b ρ
  |.bl false=>some (.bl false)
  |_=>none
 |.lor a b,ρ=>(evE G a ρ).bind fun x=>match x with
  |.bl true=>some (.bl true)
  |.bl false=>evE G b ρ
  |_=>none
 |.lnot a,ρ=>(evE G a ρ).bind fun x=>match x with
  |.bl b=>some (.bl (!b))
  |_=>none
 |.neg a,ρ=>(evE G a ρ).bind fun x=>match x with
  |.int i=>some (.int (-i))
  |_=>none
 |.tru a,ρ=>(evE G a ρ).bind fun x=>(iD x).map .bl
 |.tup es,ρ=>if es.length<=1000 then(aD G es ρ).map .tup else none
 |.lst es,ρ=>if es.length<=1000 then(aD G es ρ).map .lst else none
 |.idx a b,ρ=>(evE G a ρ).bind fun x=>(evE G b ρ).bind fun y=>aK x y
 |.sli a lo hi,ρ=>(evE G a ρ).bind fun x=>(evO G lo ρ).bind fun l=>(evO G hi ρ).bind fun h=>(asI l).bind fun l'=>(asI h).bind fun h'=>fN x l' h'
 |.call f es,ρ=>(aD G es ρ).bind fun xs=>G.call f xs
 |.blt f a,ρ=>(evE G a ρ).bind fun x=>bW f x
 |.isi a k,ρ=>(evE G a ρ).bind fun x=>some (.bl (nV x k))
 |.mth m a b,ρ=>(evE G a ρ).bind fun x=>(evE G b ρ).bind fun y=>dZ m x y
 |.comp elt n k src cond,ρ=>(aD G src ρ).bind fun xs=>(bP k xs).bind fun qc=>
   (eE (fun x=>(bnd n x ρ).bind fun ρ'=>(evO G cond ρ').bind fun c=>match c with
    |none=>(evE G elt ρ').map some
    |some (.bl true)=>(evE G elt ρ').map some
    |some (.bl false)=>some none
    |some _=>none) qc).map .lst
noncomputable def aD(G:Glo):List E->Env->a0 (List T)
 |[],_=>some []
 |e::es,ρ=>(evE G e ρ).bind fun x=>(aD G es ρ).bind fun xs=>some (x::xs)
noncomputable def evO(G:Glo):a0 E->Env->a0 (a0 T)
 |none,_=>some none
 |some e,ρ=>(evE G e ρ).map some
end
inductive Sl where
 |no|val (t:T)|own (ts:List T)|dk (qb:List (Kt×T))
 deriving Inhabited
def Sl.get:Sl->a0 T
 |.val t=>some t
 |_=>none
noncomputable def Sl.frz:Sl->Sl
 |.own ts=>.val (.lst ts)
 |.dk qb=>.val (.dk (qb.map (·.1)) (qb.map (·.2)))
 |s=>s
instance:Coe T Sl:=⟨.val⟩
inductive Out where
 |nx (τ:List Sl)|rt (t:T)
 deriving Inhabited
noncomputable def aA(τ:List Sl):Env:=τ.map Sl.get
noncomputable def aS:List Nat->List Sl->List Sl
 |[],τ=>τ
 |i::r,τ=>aS r (τ.modify i Sl.frz)
mutual
noncomputable def aN:E->List Nat
 |.w i=>[i]
 |.c _=>[]
 |.bin _ a b=>aN a++aN b
 |.cmp _ a b=>aN a++aN b
 |.land a b=>aN a++aN b
 |.lor a b=>aN a++aN b
 |.lnot a=>aN a
 |.neg a=>aN a
 |.tru a=>aN a
 |.tup es=>bS es
 |.lst es=>bS es
 |.idx a b=>aN a++aN b
 |.sli a lo hi=>aN a++(jP lo++jP hi)
 |.call _ es=>bS es
 |.blt _ a=>aN a
 |.isi a _=>aN a
 |.mth _ a b=>aN a++aN b
 |.comp elt n _ src cond=>bS src++((aN elt++jP cond).filterMap fun i=>if n<=i then some (i-n)else none)
noncomputable def bS:List E->List Nat
 |[]=>[]
 |e::es=>aN e++bS es
noncomputable def jP:a0 E->List Nat
 |none=>[]
 |some e=>aN e
end
noncomputable def fresh:E->Bool
 |.lst _=>true
 |.bin .add _ _=>true
 |_=>false
def dO(e:E)(t:T):Sl:=match fresh e,t with
 |true,.lst ts=>.own ts
 |_,t=>.val t
noncomputable def setAll:List Nat->List T->List Sl->a0 (List Sl)
 |[],[],τ=>some τ
 |i::is,x::xs,τ=>setAll is xs (τ.set i (.val x))
 |_,_,_=>none
def bL(is:List Nat)(x:T)(τ:List Sl):a0 (List Sl) :=
 match is,x with
 |[i],x=>some (τ.set i (.val x))
 |is,.tup xs=>setAll is xs τ
 |_,_=>none
def bU(f:T->List Sl->a0 Out):List T->List Sl->a0 Out
 |[],τ=>some (.nx τ)
 |x::xs,τ=>(f x τ).bind fun o=>match o with
  |.nx τ'=>bU f xs τ'
  |.rt t=>some (.rt t)
def vW(s:a0 Sl)(k v:T):a0 Sl :=
 match s with
 |some (.dk qb)=>(mK k).bind fun q=>if qb.length<SZ then some (.dk (eW qb q v))else none
 |_=>none
def setS(s:a0 Sl)(k v:T):a0 Sl :=
 match s with
 |some (.own ts)=>(match k with
  |.int i=>(ixI ts.length i).map fun j=>.own (ts.set j v)
  |_=>none)
 |s=>vW s k v
def lO(f:List Sl->a0 Out)(g:List Sl->a0 T):Nat->List Sl->a0 Out
 |0,_=>none
 |n+1,τ=>(g τ).bind fun t=>match t with
  |.bl true=>(f τ).bind fun o=>(match o with
   |.nx τ'=>lO f g n τ'
   |.rt t=>some (.rt t))
  |.bl false=>some (.nx τ)
  |_=>none
noncomputable def clsN:List Str:=["NoText", "NoRow", "Twice", "BadCheck", "NoRef", "Held", "NoMark", "BadLog", "Clash"]
noncomputable def pK(x:Str):List Str->Nat->a0 Nat
 |[],_=>none
 |y::r,i=>if y=x then some i else pK x r (i+1)
def lP(G:Glo)(f:Str)(ts:List T):a0 T:=match G.call f ts with
 |some t=>some (.tup [.str "told",t])
 |none=>(G.exc f ts).bind fun x=>(pK x.1 clsN 0).map fun(j:Nat)=>T.tup [.str "refused",.int (j:Int),.int x.2]
mutual
noncomputable def evS(G:Glo):S->List Sl->a0 Out
 |.asg i e,τ=>(evE G e (aA (aS (aN e) τ))).bind fun t=>some (.nx ((aS (aN e) τ).set i (dO e t)))
 |.app i e,τ=>(evE G e (aA (aS (aN e) τ))).bind fun t=>match(aS (aN e) τ)[i]? with
  |some (.own ts)=>if ts.length<SZ then some (.nx ((aS (aN e) τ).set i (.own (ts++[t]))))else none
  |_=>none
 |.dnew i,τ=>some (.nx (τ.set i (.dk [])))
 |.dput i k v,τ=>(evE G v (aA (aS (aN v++aN k) τ))).bind fun y=>(evE G k (aA (aS (aN v++aN k) τ))).bind fun x=>(setS (aS (aN v++aN k) τ)[i]? x y).map fun s=>.nx ((aS (aN v++aN k) τ).set i s)
 |.wloop c body,τ=>lO (fun τ=>aC G body τ) (fun τ=>evE G c (aA (aS (aN c) τ))) 1000 τ
 |.lpop j i,τ=>(match τ[i]? with
  |some (.own ts)=>(match ts[ts.length-1]? with
   |some t=>if i=j then none else some (.nx ((τ.set i (.own ts.dropLast)).set j (.val t)))
   |none=>none)
  |_=>none)
 |.nw i e,τ=>(evE G e (aA (aS (aN e) τ))).bind fun t=>match t with
  |.lst ts=>some (.nx ((aS (aN e) τ).set i (.own ts)))
  |_=>none
 |.fail,_=>none
 |.tif f es e a,τ=>(aD G es (aA (aS (bS es++aN e) τ))).bind fun ts=>(lP G f ts).bind fun t=>(evE G e (aA (aS (bS es++aN e) τ))).bind fun u=>(bF .ne t u).bind fun b=>match b with
  |.bl true=>aC G a (aS (bS es++aN e) τ)
  |.bl false=>some (.nx (aS (bS es++aN e) τ))
  |_=>none
 |.ret e,τ=>(evE G e (aA (aS (aN e) τ))).map .rt
 |.ite c a b,τ=>(evE G c (aA (aS (aN c) τ))).bind fun t=>match t with
  |.bl true=>aC G a τ
  |.bl false=>aC G b τ
  |_=>none
 |.loop is k src body,τ=>(aD G src (aA (aS (bS src) τ))).bind fun xs=>(items k xs).bind fun qc=>bU (fun x τ=>(bL is x τ).bind fun τ'=>aC G body τ') qc (aS (bS src) τ)
noncomputable def aC(G:Glo):List S->List Sl->a0 Out
 |[],τ=>some (.nx τ)
 |s::ss,τ=>(evS G s τ).bind fun o=>match o with
  |.nx τ'=>aC G ss τ'
  |o=>some o
end
structure Fd where
 np:Nat
 ns:Nat
 body:List S
 deriving Inhabited
noncomputable def cD(D:Fd)(ts:List T):List Sl:=ts.map .val++List.replicate (D.ns-ts.length) .no
def bG:a0 Out->a0 T
 |some (.nx _)=>some .non
 |some (.rt t)=>some t
 |none=>none
structure Pr where
 fn:Str->Option Fd
def glo(P:Pr)(run:Str->List T->a0 T):Glo:=⟨run,fun _ _=>none⟩
def run(P:Pr):Nat->Str->List T->a0 T
 |0,_,_=>none
 |n+1,f,ts=>(P.fn f).bind fun D=>if ts.length=D.np then bG (aC (glo P (run P n)) D.body (cD D ts))else none
inductive R1 where
 |fail (x:Str)|nrm (s:S)
def hJ(G:Glo):List R1->List Sl->a0 (Str×Int)
 |[],_=>none
 |.fail x::_,_=>some (x,0)
 |.nrm s::r,τ=>(evS G s τ).bind fun o=>(match o with
  |.nx τ'=>hJ G r τ'
  |_=>none)
structure Rxd where
 np:Nat
 ns:Nat
 body:List R1
def kL(P:Pr)(T:Str->a0 Rxd):Nat->Str->List Ev.T->a0 (Str×Int)
 |0,_,_=>none
 |n+1,f,ts=>(T f).bind fun D=>if ts.length=D.np then hJ ⟨run P n,kL P T n⟩ D.body (cD ⟨D.np,D.ns,[]⟩ ts)else none
def kM(P:Pr)(T:Str->a0 Rxd)(n:Nat):Glo:=⟨run P n,kL P T n⟩
section
open PySem PySem.Spec PySem.W PyProof.Rows L2 Ex
noncomputable def bnames:List Str:=["len", "int", "str", "list", "tuple", "bool", "isinstance", "range", "enumerate", "zip", "all", "any", "set", "sorted", "min", "max", "sum", "dict", "ord"]
noncomputable def dP{α β:Type}(f:α->a0 β):List α->a0 (List β)
 |[]=>some []
 |x::r=>(f x).bind fun y=>(dP f r).bind fun ys=>some (y::ys)
noncomputable def dB:Str:="_law_told"
def vX:a0 Obj->a0 Addr
 |some ⟨_,_,.func fd,_⟩=>(match fd.code with|.ref c=>some c|_=>none)
 |_=>none
def CK(i:Nat):a0 Obj->a0 Addr
 |some ⟨_,_,.fields vs,_⟩=>(match vs.getD i .none with|.ref c=>some c|_=>none)
 |_=>none
def mO:a0 (a0 Value)->a0 Addr
 |some (some (.ref f))=>some f
 |_=>none
def jQ(h:Heap)(ns:Addr)(x:Str):a0 (a0 Value):=match h.get? ns with
 |some ⟨_,_,.dict es _,_⟩=>(match es.toList.find? (·.key.isStr x)with
   |some e=>some (some e.val)
   |none=>if es.toList.any (·.refKey)then none else some none)
 |_=>none
structure FnV where
 name:Str
 qual:Str
 params:Arguments
 body:FuncBody
 scope:Scope
 globals:Addr
 closure:List (Str×Addr)
 defaults:Value
 builtins:Addr
def fnV(f:FuncData):FnV:=⟨f.name,f.qualname,f.params,f.body,f.scope,f.globals,f.closure,f.defaults,f.builtins⟩
def rT(x:Str)(st:Stmt):FnV:=fnV (W.fnOf x x (fE st) (dI st) (aM st) .none .none .none .none none .none .none)
def rV(h:Heap)(cd:Value)(q:Str):Bool:=match cd with
 |.ref c=>(match h.get? c with
   |some ⟨_,_,.fields vs,_⟩=>(match vs.toList with|_::.str n _::_=>n==q|_=>false)
   |_=>false)
 |_=>false
def rW(h:Heap)(x:Str):a0 (FnV×Bool):=match jQ h mainGlobals x with
 |some (some (.ref a))=>(match h.get? a with
   |some ⟨_,_,.func f,_⟩=>some (fnV f,rV h f.code x)
   |_=>none)
 |_=>none
def seeT(h:Heap):Nat->Value->a0 T
 |_,.none=>some .non
 |_,.bool b=>some (.bl b)
 |_,.int i _=>some (.int i)
 |_,.str x _=>some (.str x)
 |_,_=>none
def nX(fs bs:List Str)(h:Heap):List (a0 (FnV×Bool))×List (a0 (a0 Value)):=(fs.map (rW h),bs.map (jQ h mainGlobals))
def lQ(fs:List (Str×Stmt))(bs:List Str):List (a0 (FnV×Bool))×List (a0 (a0 Value)):=(fs.map fun p=>some (rT p.1 p.2,true),bs.map fun _=>some none)
def KH(h:Heap):W.Frag:=(List.range h.objs.size).filterMap fun a=>(h.get? a).map fun o=>(a,o)
def nY(h:Heap):a0 Addr:=(mO (jQ h mainGlobals "law")).bind fun f=>vX (h.get? f)
def nZ(h:Heap):a0 Addr:=(nY h).bind fun c=>CK 11 (h.get? c)
def CM:Value->Bool|.str _ _=>true|_=>false
def rX:Value->Bool|.int _ _=>true|_=>false
def CN:Value->Bool|.bool _=>true|_=>false
def CO(p:Addr):Value->Bool|.ref q=>q==p|_=>false
def vY(c p:Addr):a0 Obj->Bool
 |some ⟨.type ty,_,.fields vs,_⟩=>ty=="code"&&decide (11<vs.size)&&CO p (vs.getD 11 .none)&&CM (vs.getD 18 .none)&&rX (vs.getD 7 .none)&&CN (vs.getD 9 .none)&&rX (vs.getD 10 .none)&&!(c==p)
 |_=>false
def vZ:a0 Obj->Bool
 |some ⟨.none,none,.fields vs,sl⟩=>vs.size==0&&sl.size==0
 |_=>false
def rY(p:Addr)(h:Heap):Bool:=match mO (jQ h mainGlobals "__builtins__")with
 |some b=>!(b==builtinsNs)&&!(b==mainGlobals)&&!(b==p)&&(match h.get? b with
   |some ⟨.type ty,some d,.plain,_⟩=>ty=="module"&&d==builtinsNs
   |_=>false)
 |none=>false
def mP(K:W.Frag)(x:Str):a0 Addr:=mO (W.nsIn K mainGlobals x)
def boN:List String:=["ValueError", "Exception", "BaseException", "object"]
def boX:List Str:=["__setattr__", "__getattribute__", "__getattr__", "__class__", "at"]
def boT(n:String)(x:Str):a0 Value:=if n=="BaseException"&&x=="__getattribute__" then some (.builtin "BaseException.__getattribute__")else if n=="object" then(if x=="__setattr__" then some (.builtin "object.__setattr__")else if x=="__class__" then some (.builtin "object.__class__")else if x=="__getattribute__" then some (.builtin "object.__getattribute__")else none)else none
def oI(K:W.Frag)(x:Str):Value->a0 (a0 Value)
 |.type n=>if boN.contains n&&boX.contains x then some (boT n x)else none
 |.ref a=>(W.clsIn K a).bind fun cd=>W.nsIn K cd.ns x
 |_=>none
def aI(K:W.Frag)(x:Str):List Value->a0 (a0 Value)
 |[]=>some none
 |c::r=>(oI K x c).bind fun o=>if o.isSome then some o else aI K x r
def fIn(K:W.Frag)(C:Addr)(x:Str):a0 (a0 Value):=(W.clsIn K C).bind fun cd=>aI K x cd.mro
def wA(K:W.Frag)(D:Addr):Bool:=fIn K D "__getattribute__"==some (some (.builtin "BaseException.__getattribute__"))&&fIn K D "__getattr__"==some none&&W.mroIn K D (.type "BaseException")==some true&&W.hasDictIn K D &&
 fIn K D "__class__"==some (some (.builtin "object.__class__"))&&W.mroIn K D (.type "object")==some true&&fIn K D "at"==some none
def kC(K:W.Frag)(D C:Addr):a0 Bool:=if((W.clsIn K C).isSome&&(K.lookup C).map (·.cls)==some (.type "type"))=true then W.mroIn K D (.ref C)else none
def kO(K:W.Frag)(D C:Addr):a0 Bool:=if(Value.ref D==Value.ref C)=true then some true else kC K D C
def wB(K:W.Frag)(cs:List Addr)(DE D:Addr)(j:Nat):Bool:=wA K D&&(cs.map fun C=>kO K D C)==((List.range 9).map fun i=>some (decide (i=j)))&&W.mroIn K D (.type "ValueError")==some true&&decide (j<9)&&W.mroIn K DE (.type "BaseException")==some true&&kC K D DE==some true
def isR:Value->Bool|.ref _=>true|_=>false
def pL(C:Addr):List Value->Bool
 |[a,b,x,y,z,u]=>a==.ref C&&isR b&&[x,y,z,u]==veL
 |_=>false
def pM:List (a0 Value)->Bool
 |[_,_,_,_,k,_]=>k==some (.builtin "ValueError.__new__")
 |_=>false
def wC(C:Addr):a0 Obj->Bool
 |some ⟨c,_,.cls cd,sl⟩=>c==.type "type"&&!cd.hasDel&&cd.hasDict&&pL C cd.mro&&pM sl.toList
 |_=>false
def rZ(K:W.Frag)(C fI:Addr):Bool:=wC C (K.lookup C)&&fIn K C "__init__"==some (some (.ref fI))&&(K.lookup fI).map (·.cls)==some (.type "function")&&fIn K C "__setattr__"==some (some (.builtin "object.__setattr__"))&&fIn K C "at"==some none
def PD(K:W.Frag):a0 (List Addr):=dP (mP K) clsN
def sA(K:W.Frag)(C:Addr):a0 Addr:=mO (fIn K C "__init__")
def ckX(K:W.Frag):Bool:=match PD K,mP K "DealError",mP K "NoRow" with
 |some cs,some DE,some C=>((cs.zipIdx 0).all fun p=>wB K cs DE p.1 p.2)&&(match sA K C with
  |some fI=>rZ K C fI
  |none=>false)
 |_,_,_=>false
def mQ(h:Heap):a0 Obj->a0 (FnV×Bool×List (a0 T))
 |some ⟨_,_,.func f,_⟩=>(match f.defaults with
  |.ref a=>(match h.get? a with
   |some ⟨_,_,.seq qc _,_⟩=>some ({fnV f with defaults:=.none},rV h f.code f.qualname,qc.toList.map (seeT h 4))
   |_=>none)
  |_=>none)
 |_=>none
def wD(h:Heap):a0 (FnV×Bool×List (a0 T)):=(mP (KH h) "NoRow").bind fun C=>(sA (KH h) C).bind fun fI=>mQ h (h.get? fI)
def mR:Str:="DealError.__init__"
def fnVI(st:Stmt):FnV:=fnV (W.fnOf "__init__" mR (fE st) (dI st) (aM st) .none .none .none .none none .none .none)
def mS(st:Stmt):a0 (FnV×Bool×List (a0 T)):=some (fnVI st,true,[some (.str ""),some (.int 0)])
def seeX(fs bs:List Str)(h:Heap)(p:Addr):(List (a0 (FnV×Bool))×List (a0 (a0 Value)))×Bool×Bool×a0 (FnV×Bool×List (a0 T)) :=
 (nX fs bs (h.hide p),vZ (h.get? p)&&(nZ (h.hide p)==some p)&&(match nY (h.hide p)with|some c=>vY c p ((h.hide p).get? c)|none=>false)&&rY p (h.hide p),ckX (KH (h.hide p)),wD (h.hide p))
def bnX:List Str:="ValueError"::bnames
def wE(fs bs:List Str)(h:Heap):=(nZ h).map (seeX fs bs h)
abbrev pT:=PySem.Challenge.pw_dealtables_k12_keys_and_rows
noncomputable def wF(p:Program)(i:Nat):Stmt:=p.main.body.getD i (.Pass ⟨0,0,0,0⟩)
def clD:Stmt->Stmt
 |.ClassDef _ _ _ b _ _ _ _ _ _ _=>b.getD 0 (.Pass ⟨0,0,0,0⟩)
 |s=>s
noncomputable def qPp(p:Program):Program:=PySem.W.view p [1,2,3,4,5,6,7,8,9,10,12,13,15,16,17,18,20,21,22,23,24,25,27,28,29,30,31,32,33,34,35,36,37,38,39,40,41,42,43,44,45,46,47,48,49,50,51,52,53,54,55,56]
noncomputable def lsT:List Str:=[("DealError":Str),("Clash":Str)]
def CP(p:Program)(s:Shared):Bool:=xlAt (qPp p) [] s&&recOk [] s
def stN:List (Str×Nat):=("table_of",12)::("worths_of",13)::("holds",15)::("opposite",16)::("joined",17)::("compared",18)::("key_of",20)::("rows_of",21)::("row_of",22)::("is_same_key",23)::("kept",24)::("is_kept",25)::("_law_cell_at",27)::("_law_mixed",28)::("_law_drawn",29)::("_law_names",30)::("_law_table",31)::("_law_key",32)::("_law_worths",33)::("_law_rows",34)::("_law_test",35)::("_law_bare",36)::("_law_pairs",37)::("_law_rule",38)::("_law_schema",39)::("_law_worth",40)::("_law_row",41)::("_law_level",42)::("_law_broken",43)::("_law_links",44)::("_law_going",45)::("_law_put",46)::("_law_with",47)::("_law_dropped",48)::("_law_raw",49)::("_law_done",50)::("_law_late",51)::("_law_deed",53)::("_law_store",54)::("law",56)::(dB,55)::[]
def stQ(l:List (Str×Nat))(p:Program):List (Str×Stmt):=l.map fun x=>(x.1,wF p x.2)
def hdL(l:List (Str×Nat))(p:Program)(w:World):=(openEnds treeTable p w 7008).map fun s=>(openSeen (qPp p) lsT (importedModules p.main.body) (CP p) true s,wE ((stQ l p).map (·.1)) bnX s.heap)
def hdR(l:List (Str×Nat))(p:Program)(w:World):=some (openGood (qPp p) lsT,some (lQ (stQ l p) bnX,true,true,mS (clD (wF p 1))))
lay_quick Ev.hdL Ev.hdR
theorem PF:∀w,PySem.W.Fast.tw16613198539260469538 stN pT w=PySem.W.Fast.tw4742246816059606431 stN pT w:=fun w=>by kernel_rfl
end
noncomputable def cI:List Str->Str->a0 Nat
 |[],_=>none
 |y::r,x=>if y==x then some 0 else(cI r x).map (·+1)
structure Tc where
 sc:Scope
 nm:List Str
noncomputable def cX(sc:Scope)(x:Str):Bool:=match sc.names.lookup x with
 |some .local=>true
 |some .cell=>true
 |some .free=>true
 |_=>false
noncomputable def glB(sc:Scope)(x:Str):Bool:=sc.names.lookup x==some .globalImplicit
noncomputable def bX(x:Str):Bool:=!(x==("__debug__":Str))&&!(x==("__classdict__":Str))&&!(x==("__name__":Str))&&(!(x==(".0":Str))&&(!(x==(".put":Str))&&!(x==(".lam":Str))))
noncomputable def pN(x:Str):a0 Ty :=
 if x==("int":Str)then some .tint else if x==("bool":Str)then some .tbool else none
noncomputable def wG(x:Str):a0 Bn :=
 if x==("len":Str)then some .len else if x==("int":Str)then some .toInt else if x==("list":Str)then some .toList else if x==("tuple":Str)then some .toTuple else if x==("min":Str)then some .least else if x==("max":Str)then some .most else if x==("any":Str)then some .any else if x==("sorted":Str)then some .sorted else none
def sB(x:Str):a0 Bn:=if x==("dict":Str)then some .dict else wG x
noncomputable def wH(x:Str):a0 Mt:=if x==("index":Str)then some .index else if x==("count":Str)then some .count else none
noncomputable def wI:Operator->a0 Bo
 |.Add=>some .add|.Sub=>some .sub|.Mult=>some .mul|.FloorDiv=>some .fdiv|.Mod=>some .mod
 |_=>none
noncomputable def PH:Expr->Bool
 |.Constant (.bool false) _ _=>true
 |_=>false
noncomputable def CQ:Expr->Bool
 |.Constant .none _ _=>true
 |_=>false
def lR:CmpOp->Expr->a0 Co
 |.Eq,_=>some .eq|.NotEq,_=>some .ne|.Lt,_=>some .lt|.Gt,_=>some .gt
 |.In,e=>if behindInMarks .In e then none else some .isin
 |.NotIn,e=>if behindInMarks .NotIn e then none else some .notin
 |.Is,e=>if CQ e then some .isN else none
 |.IsNot,e=>if CQ e then some .notN else if PH e then some .notF else none
 |_,_=>none
noncomputable def kN:Expr->a0 (List Str)
 |.Name x _=>some [x]
 |.Tuple es _ _=>es.mapM fun e=>match e with
  |.Name x _=>some x
  |_=>none
 |_=>none
noncomputable def pO:Expr->Bool
 |.Slice ..=>true
 |.Tuple ..=>true
 |.Starred ..=>true
 |_=>false
noncomputable def oA:List Str->Bool
 |[]=>true
 |x::r=>!r.contains x&&oA r
def pP(out sc:Scope)(xs:List Str):Bool :=
 sc.kind==.function&&oA xs&&(xs.all fun x=>bX x&&(sc.names.lookup x==some .local||sc.names.lookup x==some .cell)) &&
 (sc.names.all fun p=>match p.2 with
  |.free=>(sc.names.lookup p.1==some .free)&&(out.names.lookup p.1==some .cell||out.names.lookup p.1==some .free)
  |.local=>(sc.names.lookup p.1==some .local)&&(xs.contains p.1||p.1==(".0":Str))
  |.cell=>(sc.names.lookup p.1==some .cell)&&xs.contains p.1
  |_=>true)
noncomputable def eJ:Expr->Bool
 |.Tuple ..=>true
 |_=>false
noncomputable def wJ{α β:Type}(f:α->a0 β):a0 α->a0 (a0 β)
 |none=>some none
 |some x=>(f x).map some
inductive Md where
 |val|tst
 deriving DecidableEq
mutual
noncomputable def tr:Nat->Tc->Md->Expr->a0 E
 |0,_,_,_=>none
 |n+1,c,.tst,e=>trT n c e
 |n+1,c,.val,e=>trV n c e
noncomputable def trT:Nat->Tc->Expr->a0 E
 |0,_,_=>none
 |n+1,c,.BoolOp .And [a] _=>trT n c a
 |n+1,c,.BoolOp .And (a::b::r) pos=>(trT n c a).bind fun x=>(trT n c (.BoolOp .And (b::r) pos)).bind fun y=>some (.land x y)
 |n+1,c,.BoolOp .Or [a] _=>trT n c a
 |n+1,c,.BoolOp .Or (a::b::r) pos=>(trT n c a).bind fun x=>(trT n c (.BoolOp .Or (b::r) pos)).bind fun y=>some (.lor x y)
 |n+1,c,.UnaryOp .Not a _=>(trT n c a).bind fun x=>some (.lnot x)
 |n+1,c,.Compare a [op] [b] _=>(lR op b).bind fun o=>(trV n c a).bind fun x=>(trV n c b).bind fun y=>some (.cmp o x y)
 |n+1,c,.Name x pos=>(trV n c (.Name x pos)).bind fun x=>some (.tru x)
 |n+1,c,.Call f es ks pos=>(trV n c (.Call f es ks pos)).bind fun x=>some (.tru x)
 |n+1,c,.Subscript a b pos=>(trV n c (.Subscript a b pos)).bind fun x=>some (.tru x)
 |_,_,_=>none
noncomputable def trV:Nat->Tc->Expr->a0 E
 |0,_,_=>none
 |_+1,_,.Constant .none _ _=>some (.c .non)
 |_+1,_,.Constant (.bool b) _ _=>some (.c (.bl b))
 |_+1,_,.Constant (.int i) _ _=>some (.c (.int i))
 |_+1,_,.Constant (.str x) _ _=>some (.c (.str x))
 |_+1,c,.Name x _=>if bX x then(if cX c.sc x then(cI c.nm x).map .w else none)else none
 |n+1,c,.BinOp a op b _=>(wI op).bind fun o=>(trV n c a).bind fun x=>(trV n c b).bind fun y=>some (.bin o x y)
 |n+1,c,.UnaryOp .Not a _=>(trV n c a).bind fun x=>some (.lnot x)
 |n+1,c,.UnaryOp .USub a _=>(trV n c a).bind fun x=>some (.neg x)
 |n+1,c,.BoolOp _ [a] _=>trV n c a
 |n+1,c,.BoolOp .And (a::b::r) pos=>(trV n c a).bind fun x=>(trV n c (.BoolOp .And (b::r) pos)).bind fun y=>some (.land x y)
 |n+1,c,.BoolOp .Or (a::b::r) pos=>(trV n c a).bind fun x=>(trV n c (.BoolOp .Or (b::r) pos)).bind fun y=>some (.lor x y)
 |n+1,c,.Compare a [op] [b] _=>(lR op b).bind fun o=>(trV n c a).bind fun x=>(trV n c b).bind fun y=>some (.cmp o x y)
 |n+1,c,.Tuple es _ _=>(dP (trV n c) es).bind fun xs=>some (.tup xs)
 |n+1,c,.List es _=>(dP (trV n c) es).bind fun xs=>some (.lst xs)
 |n+1,c,.Subscript a (.Slice lo hi none _) _=>(trV n c a).bind fun x=>(wJ (trV n c) lo).bind fun l=>(wJ (trV n c) hi).bind fun h=>some (.sli x l h)
 |n+1,c,.Subscript a b _=>if pO b then none else(trV n c a).bind fun x=>(trV n c b).bind fun y=>some (.idx x y)
 |n+1,c,.Call (.Name f _) [a,b] [] _=>
  if f==("isinstance":Str)then
   (match b with
   |.Name ty _=>if glB c.sc f&&glB c.sc ty then(pN ty).bind fun k=>(trV n c a).bind fun x=>some (.isi x k)else none
   |_=>none)
  else if glB c.sc f&&bX f&&!bnames.contains f then(dP (trV n c) [a,b]).bind fun xs=>some (.call f xs)else none
 |n+1,c,.Call (.Name f _) [a] [] _=>if glB c.sc f&&bX f then(match sB f with
  |some k=>(trV n c a).bind fun x=>some (.blt k x)
  |none=>if bnames.contains f then none else(trV n c a).bind fun x=>some (.call f [x]))else none
 |n+1,c,.Call (.Name f _) (e::es) [] _=>if glB c.sc f&&bX f&&!bnames.contains f then(dP (trV n c) (e::es)).bind fun xs=>some (.call f xs)else none
 |n+1,c,.Call (.Attribute o m apos) [a] [] cpos=>if apos.endLine==cpos.line then(wH m).bind fun k=>(trV n c o).bind fun x=>(trV n c a).bind fun y=>some (.mth k x y)else none
 |n+1,c,.ListComp elt [⟨tg,iter,ifs,0⟩] scope _=>(kN tg).bind fun xs=>(trI n c iter).bind fun ki=>if pP c.sc scope xs&&(!ki.1.pair||eJ tg)&&(!eJ tg||decide (2<=xs.length))then
   (match ifs with
   |[]=>(trV n ⟨scope,xs++c.nm⟩ elt).bind fun x=>some (.comp x xs.length ki.1 ki.2 none)
   |[t]=>(trV n ⟨scope,xs++c.nm⟩ elt).bind fun x=>(trT n ⟨scope,xs++c.nm⟩ t).bind fun y=>some (.comp x xs.length ki.1 ki.2 (some y))
   |_=>none)else none
 |_,_,_=>none
noncomputable def trI:Nat->Tc->Expr->a0 (Ik×List E)
 |0,_,_=>none
 |n+1,c,.Call (.Name f p) [a] [] pos=>if f==("range":Str)&&glB c.sc f then(trV n c a).bind fun x=>some (.range,[x])
   else if f==("enumerate":Str)&&glB c.sc f then(trV n c a).bind fun x=>some (.enum,[x])
   else(trV n c (.Call (.Name f p) [a] [] pos)).bind fun x=>some (.plain,[x])
 |n+1,c,.Call (.Name f p) [a,b] [] pos=>if f==("zip":Str)&&glB c.sc f then(trV n c a).bind fun x=>(trV n c b).bind fun y=>some (.zip,[x,y])
   else(trV n c (.Call (.Name f p) [a,b] [] pos)).bind fun x=>some (.plain,[x])
 |n+1,c,e=>(trV n c e).bind fun x=>some (.plain,[x])
end
noncomputable def sC:Expr->Bool
 |.List ..=>true
 |.BinOp ..=>true
 |_=>false
noncomputable def wL:Expr->Bool
 |.ListComp ..=>true
 |_=>false
noncomputable def sD:Expr->Bool
 |.Dict [] [] _=>true
 |_=>false
noncomputable def PJ:(e:Expr)->Option {y:Str // ∃p1 apos cpos,e=.Call (.Attribute (.Name y p1) "pop" apos) [] [] cpos/\(apos.endLine==cpos.line)=true}
 |.Call (.Attribute (.Name y p) m apos) [] [] cpos=>if h:(m==("pop":Str)&&apos.endLine==cpos.line)=true then some ⟨y,p,apos,cpos,(by rw[dF]at h;rw[cK h.1];exact⟨rfl,h.2⟩)⟩else none
 |_=>none
def wM(e:Expr):a0 Str:=(PJ e).map (·.1)
noncomputable def newV(x:Str):(e:Expr)->Option {u:Unit // (∃p a q,e=.Call (.Name "list" p) [a] [] q)\/∃p lo hi p2 q,e=.Subscript (.Name x p) (.Slice lo hi none p2) q}
 |.Call (.Name g p) [a] [] q=>if h:(g==("list":Str))=true then some ⟨(),.inl ⟨p,a,q,by rw[cK h]⟩⟩else none
 |.Subscript (.Name y p) (.Slice lo hi none p2) q=>if h:(y==x)=true then some ⟨(),.inr ⟨p,lo,hi,p2,q,by rw[cK h]⟩⟩else none
 |_=>none
def pQ(x:Str)(e:Expr):Bool:=(newV x e).isSome
def raiV:(a b:a0 Expr)->Option {x:Str // ∃p w j q p1,a=some (.Call (.Name x p) [.Constant (.str w) j q] [] p1)/\b=none/\clsN.contains x=true}
 |some (.Call (.Name x p) [.Constant (.str w) j q] [] p1),none=>if h:clsN.contains x=true then some ⟨x,p,w,j,q,p1,rfl,rfl,h⟩else none
 |_,_=>none
def raiC(a b:a0 Expr):a0 Str:=(raiV a b).map (·.1)
structure TellR where
 g:Str
 es:List Expr
 ls:Scope
 e:Expr
 p1:Pos
 p2:Pos
 p3:Pos
 p4:Pos
 p5:Pos
 p6:Pos
noncomputable def TellR.lam(r:TellR):Expr:=.Lambda ⟨[],[],none,[],[],none,[]⟩ (.Call (.Name r.g r.p1) r.es [] r.p2) r.ls r.p3
def TellR.call(r:TellR):Expr:=.Call (.Name dB r.p4) [r.lam] [] r.p5
noncomputable def TellR.test(r:TellR):Expr:=.Compare r.call [.NotEq] [r.e] r.p6
def PK:(e:Expr)->Option {r:TellR // e=r.test}
 |.Compare (.Call (.Name x p4) [.Lambda ⟨[],[],none,[],[],none,[]⟩ (.Call (.Name g p1) es [] p2) ls p3] [] p5) [.NotEq] [e] p6=>if h:(x==dB)=true then some ⟨⟨g,es,ls,e,p1,p2,p3,p4,p5,p6⟩,by rw[cK h];rfl⟩else none
 |_=>none
def wN(e:Expr):a0 TellR:=(PK e).map (·.1)
def pR(c:Tc)(ls:Scope):Bool:=ls.kind==.function&&!ls.isCoroutine&&!ls.isGenerator&&(ls.names.all fun p=>(p.2==.free&&c.sc.names.lookup p.1==some .cell&&(bX p.1&&ls.names.lookup p.1==some .free))||p.2==.globalImplicit)&&oA (ls.names.map (·.1))
mutual
noncomputable def trS:Nat->Tc->Stmt->a0 S
 |0,_,_=>none
 |n+1,c,.Assign [.Subscript (.Name x _) k _] v _=>if cX c.sc x&&bX x&&!pO k then(cI c.nm x).bind fun i=>(trV n c k).bind fun y=>if wL v then none else(trV n c v).bind fun z=>some (.dput i y z)else none
 |n+1,c,.Assign [.Name x _] e _=>if bX x&&(c.sc.names.lookup x==some .local||c.sc.names.lookup x==some .cell)then(cI c.nm x).bind fun i=>if sD e then some (.dnew i)else(match wM e with
   |some y=>if cX c.sc y&&bX y then(cI c.nm y).bind fun j=>some (.lpop i j)else none
   |none=>if pQ x e then(trV n c e).bind fun y=>some (.nw i y)else(trV n c e).bind fun y=>if fresh y&&!sC e then none else some (.asg i y))else none
 |n+1,c,.Expr (.Call (.Attribute (.Name x _) m apos) [a] [] cpos) _=>if apos.endLine==cpos.line&&cX c.sc x&&bX x then(cI c.nm x).bind fun i=>(trV n c a).bind fun y=>(if m==("append":Str)then some (.app i y)else none)else none
 |_+1,_,.Raise _ _ _=>some .fail
 |n+1,c,.Return (some e) _=>(trV n c e).bind fun y=>some (.ret y)
 |n+1,c,.While t body [] _=>(trT n c t).bind fun z=>(gP n c body).bind fun b=>some (.wloop z b)
 |n+1,c,.If t a b _=>(match wN t with
  |some r=>if pR c r.ls&&(glB c.sc dB&&(glB r.ls r.g&&(bX r.g&&(b.isEmpty&&!r.es.isEmpty))))then(dP (trV n ⟨r.ls,c.nm⟩) r.es).bind fun es=>(trV n c r.e).bind fun e=>(gP n c a).bind fun x=>some (.tif r.g es e x)else none
  |none=>(trT n c t).bind fun z=>(gP n c a).bind fun x=>(gP n c b).bind fun y=>some (.ite z x y))
 |n+1,c,.For tg iter body [] _=>(kN tg).bind fun xs=>(dP (cI c.nm) xs).bind fun is=>(trI n c iter).bind fun ki=>(gP n c body).bind fun b=>if(!ki.1.pair||eJ tg)&&(!eJ tg||decide (2<=xs.length))&&oA xs&&(xs.all fun x=>bX x&&(c.sc.names.lookup x==some .local||c.sc.names.lookup x==some .cell))then some (.loop is ki.1 ki.2 b)else none
 |_,_,_=>none
noncomputable def gP:Nat->Tc->List Stmt->a0 (List S)
 |0,_,_=>none
 |_+1,_,[]=>some []
 |n+1,c,s::ss=>(trS n c s).bind fun x=>(gP n c ss).bind fun xs=>some (x::xs)
end
def trR(n:Nat)(c:Tc):Stmt->a0 R1
 |.Raise a b _=>(raiC a b).bind fun x=>if glB c.sc x then some (.fail x)else none
 |st=>(trS n c st).map .nrm
noncomputable def cM(sc:Scope):List Str:=(sc.names.filter fun p=>p.2==.local||p.2==.cell).map (·.1)
end Ev
namespace L2
open PySem
def fP(env:Env):List (Str×NameKind)->List (Str×Addr)->List (Str×Addr)
 |[],acc=>acc
 |(n,k)::r,acc=>if k==.free then fP env r ((n,(env.cells.lookup n).getD 0)::acc)else fP env r acc
theorem wO(f:Str×NameKind->List (Str×Addr)->Sem (ForInStep (List (Str×Addr))))(hf:∀n k cs,f (n,k) cs=if k==.free then(do let a <-cellOf env n;pure (ForInStep.yield ((n,a)::cs)))else pure (.yield cs)):∀(names:List (Str×NameKind))(acc:List (Str×Addr)),(∀y∈names,y.2=.free->∃c,env.cells.lookup y.1=some c)->(forIn names acc f:Sem _)=pure (fP env names acc)
 |[],acc,_=>rfl
 |(n,k)::r,acc,h=>by
  rw[List.forIn_cons,hf];unfold fP;by_cases hk:(k==.free)=true
  .rw[if_pos hk,if_pos hk];obtain⟨c,hc⟩:=h (n,k) List.mem_cons_self (by simpa using hk);have e:cellOf env n=pure c:=by unfold cellOf;rw[hc]
   rw[e,hc];simp only[pure_bind,Option.getD_some];exact wO f hf r _ fun y hy=>h y (dH _ hy)
  .rw[if_neg hk,if_neg hk];simp only[pure_bind];exact wO f hf r _ fun y hy=>h y (dH _ hy)
theorem wP(h:∀y∈scope.names,y.2=.free->∃c,env.cells.lookup y.1=some c):closureFor scope env=pure (fP env scope.names []):=by simp only[closureFor];rw[wO (env:=env) _ (fun n k cs=>by by_cases hk:(k==NameKind.free)=true<;>simp[hk]) scope.names [] h];simp only[pure_bind]
theorem pS:∀(names:List (Str×NameKind))(acc:List (Str×Addr)),(∀x c,acc.lookup x=some c->env.cells.lookup x=some c)->(∀y∈names,y.2=.free->∃c,env.cells.lookup y.1=some c) ->∀x c,(fP env names acc).lookup x=some c->env.cells.lookup x=some c
 |[],acc,h,_,x,c,e=>h x c e
 |(n,k)::r,acc,h,hn,x,c,e=>by
  unfold fP at e;have hr:∀y∈r,y.2=.free->∃c,env.cells.lookup y.1=some c:=fun y hy=>hn y (dH _ hy);by_cases hk:(k==.free)=true
  .rw[if_pos hk]at e;obtain⟨c',hc'⟩:=hn (n,k) List.mem_cons_self (by simpa using hk);refine pS r _ (fun x c e=>?_) hr x c e;rw[gX]at e;cases hb:x==n with
   |true=>rw[hb]at e;have e':some ((env.cells.lookup n).getD 0)=some c:=e;rw[hc']at e';cases e';rw[nM.mp hb];exact hc'
   |false=>rw[hb]at e;exact h x c e
  .rw[if_neg hk]at e;exact pS r acc h hr x c e
theorem oB:∀(names:List (Str×NameKind))(acc:List (Str×Addr)),((x,NameKind.free)∈names\/(acc.lookup x).isSome=true)->((fP env names acc).lookup x).isSome=true
 |[],acc,h=>h.elim (fun z=>nomatch z) id
 |(n,k)::r,acc,h=>by
  unfold fP;have up:∀a:Addr,(acc.lookup x).isSome=true->(List.lookup x ((n,a)::acc)).isSome=true:=fun a z=>by
   rw[gX];cases x==n with
   |true=>rfl
   |false=>exact z
  by_cases hk:(k==.free)=true
  .rw[if_pos hk];refine oB r _ ?_;rcases h with h|h
   .rcases omc h with e|e
    .cases e;right;rw[gX,mE];rfl
    .exact .inl e
   .exact .inr (up _ h)
  .rw[if_neg hk];refine oB r _ ?_;rcases h with h|h
   .rcases omc h with e|e
    .cases e;exact absurd rfl hk
    .exact .inl e
   .exact .inr h
theorem PM(hn:∀y∈names,y.2=.free->∃c,env.cells.lookup y.1=some c)(h:(x,NameKind.free)∈names):(fP env names []).lookup x=env.cells.lookup x:=by obtain⟨c,hc⟩:=Option.isSome_iff_exists.mp (oB (env:=env) names [] (.inl h));rw[hc,pS names [] (fun _ _ e=>by cases e) hn x c hc]
theorem oC:∀(names:List (Str×NameKind))(n:Nat)(acc:List (Str×Addr)),cellsFrom n names acc=cellsFrom n names []++acc
 |[],n,acc=>rfl
 |(x,k)::r,n,acc=>by
  unfold cellsFrom;by_cases hk:(k==.cell)=true
  .rw[if_pos hk,if_pos hk,oC r (n+1) ((x,n)::acc),oC r (n+1) [(x,n)],kF];rfl
  .rw[if_neg hk,if_neg hk];exact oC r n acc
theorem sE:∀(names:List (Str×NameKind))(n:Nat),(x,c)∈cellsFrom n names []->n<=c/\(x,NameKind.cell)∈names
 |[],n,h=>by cases h
 |(y,k)::r,n,h=>by
  unfold cellsFrom at h;by_cases hk:(k==.cell)=true
  .rw[if_pos hk,oC]at h;have ek:k=.cell:=by simpa using hk
   rcases oma h with h|h
   .obtain⟨h1,h2⟩:=sE r (n+1) h;exact⟨by lia,dH _ h2⟩
   .have e:(x,c)=(y,n):=by simpa using h
    cases e;exact⟨bH _,by rw[ek];exact fK⟩
  .rw[if_neg hk]at h;obtain⟨h1,h2⟩:=sE r n h;exact⟨h1,dH _ h2⟩
theorem sG:∀(names:List (Str×NameKind))(n:Nat)(acc:List (Str×Addr)),((x,NameKind.cell)∈names\/(acc.lookup x).isSome=true)->((cellsFrom n names acc).lookup x).isSome=true
 |[],_,acc,h=>h.elim (fun z=>nomatch z) id
 |(y,k)::r,n,acc,h=>by
  unfold cellsFrom;by_cases hk:(k==.cell)=true
  .rw[if_pos hk];refine sG r _ _ ?_;rcases h with h|h
   .rcases omc h with e|e
    .cases e;right;rw[gX,mE];rfl
    .exact .inl e
   .right;rw[gX];cases x==y with
    |true=>rfl
    |false=>exact h
  .rw[if_neg hk];refine sG r _ _ ?_;rcases h with h|h
   .rcases omc h with e|e
    .cases e;exact absurd rfl hk
    .exact .inl e
   .exact .inr h
theorem PN(h:(cellsFrom n names acc).lookup x=some c):(x,c)∈cellsFrom n names []\/((cellsFrom n names []).lookup x=none/\acc.lookup x=some c):=by
 rw[oC,List.lookup_append]at h;cases e:(cellsFrom n names []).lookup x with
 |none=>rw[e]at h;exact .inr ⟨rfl,by simpa using h⟩
 |some d=>
  rw[e]at h;have h':some d=some c:=by simpa using h
  cases h';exact .inl (mem_of_lookup e)
theorem PQ
  (hQ:Q {scope:=scope,locals:=s.heap.objs.size,globals:=globals,cells:=cellsFrom (s.heap.objs.size+1) scope.names cl,qual:=qual,func:=none,code:=env.code,frame:=env.frame,builtins:=env.builtins}
   {s with heap:=pushCells (s.heap.push {cls:=.type "dict",data:=.dict #[]}) scope.names}):
  wpAny M A (newFunctionEnv scope globals cl [] qual none .none (some env)) Q E s:=by
 simp only[newFunctionEnv,Option.isSome_some,if_true];refine aF (wpAny_alloc ?_);refine wpAny_bind (wpAny_layCells _ (fun name kind cells=>by cases hkc:kind==NameKind.cell<;>simp[]) _ _ _ _ ?_);rw[show({s with heap:=s.heap.push {cls:=.type "dict",data:=.dict #[]} }:Shared).heap.objs.size=s.heap.objs.size+1 from eU ..];simp only[List.forIn_nil,pure_bind];exact aQ hQ
end L2
namespace Ev
open PySem Spec PyProof.Rows L2
section
open PySem.AutoSeq1 (wpAny_loadPart')
section
variable {prog:Program}{w:World}{A:Around}{E:Vq}{s:Shared}
theorem CU{α β:Type}{f g:α->a0 β}:∀{l:List α},(∀a∈l,f a=g a)->l.filterMap f=l.filterMap g
 |[],_=>rfl
 |a::l,h=>by rw[jK,jK,h a fK,CU fun b hb=>h b (dH _ hb)]
theorem PR{lo hi:a0 Int}{Q:Vq}(ht:IsTup s.heap t zs)(hs:s.heap.IsSliceOf sl vl vu .none)(pl:IsPart vl lo)(pu:IsPart vu hi)(hw:HT.sIx zs.size 0 lo=0/\HT.sIx zs.size zs.size hi=zs.size)(h:Q (.ref t) s):wpAny (model prog w) A (getItem (.ref t) (.ref sl)) Q E s:=by
 obtain⟨os,hos,hcs,hds⟩:=id hs;have hT:s.TypeIs (.ref sl) "slice":=⟨os,hos,hcs⟩;unfold getItem
 try with_reducible refine iY ?_
 first|refine aF (aQ ?_)|skip
 refine aF (wpAny_sequenceKey ht.typeIs (by decide) ?_);refine aF (lJ (name:=Str.ofString "__getitem__") ht.typeIs PyProof.Rows.slot_tuple_getitem (jN PyProof.Rows.slot_tuple_getitem ht.typeIs PyProof.Rows.entry_tuple_getitem ?_ (PyProof.Rows.args_tuple_getitem _ _)));show wpAny _ _ (Builtin.Tuple.tupleItemsOf (.ref t) >>= _) _ _ s;refine aF (tupleItemsOf_ ht ?_);refine aF (wpAny_typeOf hT ?_);rw[if_pos (by decide)];refine aF (HT.sliceApplied_gen hs pl pu ?_);have hyes:(((HT.sIx zs.size 0 lo:Nat):Int)==0&&(1:Int)==1&&(HT.sIx zs.size zs.size hi-HT.sIx zs.size 0 lo)==zs.size)=true:=by rw[hw.1,hw.2];simp
 show wpAny _ _ (if(((HT.sIx zs.size 0 lo:Nat):Int)==0&&(1:Int)==1&&(HT.sIx zs.size zs.size hi-HT.sIx zs.size 0 lo)==zs.size)=true then _ else _) _ _ s;rw[if_pos hyes];refine aF (show wpAny _ _ (Builtin.Tuple.tupleIsExact (.ref t)) _ _ s from ?_);unfold Builtin.Tuple.tupleIsExact;refine aF (wpAny_typeOf ht.typeIs (aQ ?_));simp only[beq_self_eq_true,if_true];exact aF (wpAny_rule (aQ ⟨_,rfl,aQ h⟩))
end
section
variable {X:Cx}{c:Tc}{a:Expr}{pos p2:Pos}
theorem PU:SlR X (fun x lo hi H Q=>∃a xs,x=.ref a/\SqT X.K H a xs/\(HT.sIx xs.length 0 lo=0/\HT.sIx xs.length xs.length hi=xs.length)/\Q (.ref a) H):=by
 rintro pj s O H x v vl vu lo hi sl Q I rx hs pl pu⟨a,xs,rfl,hx,hw,q⟩;cases rx;obtain⟨qc,r,ht,hz⟩:=I.tuple hx;have hlen:qc.toArray.size=xs.length:=by rw[cW];exact r.length.symm
 exact⟨"tuple",_,PyProof.Rows.slot_tuple_getitem.lookup,ht.typeIs,PR ht hs pl pu (by rw[hlen];exact hw) ⟨.ref a,H,I,rfl,q⟩⟩
end
end
section
variable {K:W.Frag}
def Ls(K:W.Frag)(H:Hp)(a:Addr)(xs:List V):Prop :=
 Rd H a (.lst xs)\/∃(qc:Array Value)(n:Nat),K.lookup a=some {cls:=.type "list",data:=.seq qc n}/\qc.size<=sizeLine/\aJ xs qc.toList
def Ls.of{H:Hp}{a:Addr}{xs:List V}(h:H a=some (.lst xs)):Ls K H a xs:=.inl (.inl h)
theorem Ls.sq{H:Hp}(h:Ls K H a xs):SqL K H a xs:=by
 rcases h with h|⟨qc,n,h1,h2,h3⟩
 .exact .inl h
 .exact .inr ⟨_,qc,n,h1,rfl,rfl,rfl,h2,h3⟩
theorem Ls.ok(h:Ls X.K H a xs)(I:Inv X pj O H s):xs.length<=sizeLine/\∃(qc:List Value)(n:Nat),aJ xs qc/\s.heap.get? a=some {cls:=.type "list",data:=.seq qc.toArray n}:=by
 rcases h with h|⟨qc,n,h1,h2,h3⟩
 .obtain⟨z,qc,n,r,e⟩:=h.ok I.hok;exact⟨z,qc,n,r,e⟩
 .exact⟨by rw[h3.length,kE];exact h2,qc.toList,n,h3,by rw[Array.toArray_toList];exact I.kIn a _ h1⟩
abbrev Tq(_K:W.Frag)(F:Hp)(a:Addr)(xs:List V):Prop:=F a=some (.tup xs)
mutual
def Rep(K:W.Frag)(F:Hp):T->V->Prop
 |.non,v=>v=.non
 |.bl b,v=>v=.bl b
 |.int i,v=>v=.int i
 |.str x,v=>v=.str x
 |.tup ts,v=>∃a vs,v=.ref a/\Tq K F a vs/\aH K F ts vs
 |.lst ts,v=>∃a vs,v=.ref a/\Ls K F a vs/\aH K F ts vs
 |.dk ks ts,v=>∃a ws,v=.ref a/\F a=some (.dK ws)/\ws.map (·.1)=ks/\aH K F ts (ws.map (·.2))
 |.dt ks ts,v=>∃a ws,v=.ref a/\F a=some (.dT ws)/\ws.map (·.1)=ks/\aH K F ts (ws.map (·.2))
def aH(K:W.Frag)(F:Hp):List T->List V->Prop
 |[],vs=>vs=[]
 |t::ts,vs=>∃v r,vs=v::r/\Rep K F t v/\aH K F ts r
end
theorem CV(e:Same F F')(h:Rd F a o):Rd F' a o:=by
 rcases h with h|⟨b,h⟩
 .exact .inl (e _ _ h)
 .exact .inr ⟨b,e _ _ h⟩
theorem Ls.same{F F':Hp}{a:Addr}{xs:List V}(e:Same F F')(h:Ls K F a xs):Ls K F' a xs:=by
 rcases h with h|h
 .exact .inl (CV e h)
 .exact .inr h
def dC{F F':Hp}{a:Addr}{xs:List V}(e:Same F F')(h:Tq K F a xs):SqT K F' a xs:=SqT.of (e _ _ h)
mutual
theorem Rep.mono{K:W.Frag}{F F':Hp}(e:Same F F'):∀{t:T}{v:V},Rep K F t v->Rep K F' t v
 |.non,_,h=>h
 |.bl _,_,h=>h
 |.int _,_,h=>h
 |.str _,_,h=>h
 |.tup _,_,h=>by obtain⟨a,vs,h1,h2,h3⟩:=h;exact⟨a,vs,h1,e _ _ h2,aH.mono e h3⟩
 |.lst _,_,h=>by obtain⟨a,vs,h1,h2,h3⟩:=h;exact⟨a,vs,h1,Ls.same e h2,aH.mono e h3⟩
 |.dk _ _,_,h=>by obtain⟨a,ws,h1,h2,h3,h4⟩:=h;exact⟨a,ws,h1,e _ _ h2,h3,aH.mono e h4⟩
 |.dt _ _,_,h=>by obtain⟨a,ws,h1,h2,h3,h4⟩:=h;exact⟨a,ws,h1,e _ _ h2,h3,aH.mono e h4⟩
theorem aH.mono{K:W.Frag}{F F':Hp}(e:Same F F'):∀{ts:List T}{vs:List V},aH K F ts vs->aH K F' ts vs
 |[],_,h=>h
 |_::_,_,h=>by obtain⟨v,r,h1,h2,h3⟩:=h;exact⟨v,r,h1,Rep.mono e h2,aH.mono e h3⟩
end
theorem aH.length{K:W.Frag}{F:Hp}:∀{ts:List T}{vs:List V},aH K F ts vs->vs.length=ts.length
 |[],_,h=>by cases h;rfl
 |_::_,_,h=>by obtain⟨v,r,rfl,_,h3⟩:=h;simp[aH.length h3]
def aH.cons{F:Hp}{t:T}{v:V}{ts:List T}{vs:List V}(h:Rep K F t v)(r:aH K F ts vs):aH K F (t::ts) (v::vs):=⟨v,vs,rfl,h,r⟩
theorem aH.app{K:W.Frag}{F:Hp}:∀{ts us:List T}{vs ws:List V},aH K F ts vs->aH K F us ws->aH K F (ts++us) (vs++ws)
 |[],_,_,_,h,r=>by cases h;exact r
 |_::_,_,_,_,h,r=>by obtain⟨v,q,rfl,h2,h3⟩:=h;exact⟨v,_,rfl,h2,aH.app h3 r⟩
theorem aH.drop{K:W.Frag}{F:Hp}:∀(n:Nat){ts:List T}{vs:List V},aH K F ts vs->aH K F (ts.drop n) (vs.drop n)
 |0,_,_,h=>h
 |_+1,[],_,h=>by cases h;exact rfl
 |n+1,_::_,_,h=>by obtain⟨v,q,rfl,h2,h3⟩:=h;exact aH.drop n h3
theorem aH.take{K:W.Frag}{F:Hp}:∀(n:Nat){ts:List T}{vs:List V},aH K F ts vs->aH K F (ts.take n) (vs.take n)
 |0,_,_,_=>rfl
 |_+1,[],_,h=>by cases h;exact rfl
 |n+1,_::_,_,h=>by obtain⟨v,q,rfl,h2,h3⟩:=h;exact⟨v,_,rfl,h2,aH.take n h3⟩
theorem aH.get{K:W.Frag}{F:Hp}:∀{ts:List T}{vs:List V}{i:Nat}{t:T},aH K F ts vs->ts[i]?=some t->∃v,vs[i]?=some v/\Rep K F t v
 |[],_,_,_,_,e=>by simp at e
 |_::_,_,0,_,h,e=>by obtain⟨v,q,rfl,h2,h3⟩:=h;simp at e;subst e;exact⟨v,rfl,h2⟩
 |_::_,_,i+1,t,h,e=>by obtain⟨v,q,rfl,h2,h3⟩:=h;obtain⟨w,h4,h5⟩:=aH.get (i:=i) (t:=t) h3 (by simpa using e);exact⟨w,by simpa using h4,h5⟩
def sH:HO->Bool
 |.tbl _=>true
 |_=>false
def fY:Str:="law.<locals>.<lambda>"
def CdAt(H:Hp)(cv:Value):Prop:=∃a oc vs t,cv=.ref a/\H a=some (.frz oc (.own 0))/\oc.data=.fields vs/\vs[1]?=some (.str fY t)
def iI(H:Hp)(b:Addr):Prop:=∃ps:Array Value,H b=some (.tbl ps)/\TriplesOk ps.toList/\∀pos cv,codeAmong pos ps.toList=some cv->CdAt H cv
def CdAt.up(h:CdAt H cv)(k:∀a o u,H a=some (.frz o u)->H' a=some (.frz o u)):CdAt H' cv:=by obtain⟨a,oc,vs,t,h1,h2,h3,h4⟩:=h;exact⟨a,oc,vs,t,h1,k _ _ _ h2,h3,h4⟩
theorem iI.up(h:iI H b)(k:∀a o u,H a=some (.frz o u)->H' a=some (.frz o u))(kt:∀a ps,H a=some (.tbl ps)->H' a=some (.tbl ps)):iI H' b:=by obtain⟨ps,h1,h2,h3⟩:=h;exact⟨ps,kt _ _ h1,h2,fun pos cv e=>(h3 pos cv e).up k⟩
structure SameT(H H':Hp):Prop where
 st:∀b u,H b=some u->sH u=false->H' b=some u
 fr:∀b,H' b=none->H b=none
 tb:∀b,iI H b->iI H' b
 tt:∀b ps,H b=some (.tbl ps)->∃qs,H' b=some (.tbl qs)
def wQ(e:Same H H'):SameT H H':=⟨fun b u h _=>e b u h,fun _ h=>e.free h,fun _ h=>h.up (fun a o u q=>e a _ q) fun a ps q=>e a _ q,fun b ps h=>⟨ps,e b _ h⟩⟩
theorem SameT.refl(H:Hp):SameT H H:=wQ (Same.refl H)
def SameT.free(e:SameT H H')(h:H' l=none):H l=none:=e.fr l h
def SameT.trans(a:SameT H H1)(b:SameT H1 H2):SameT H H2:=⟨fun c u h q=>b.st c u (a.st c u h q) q,fun c h=>a.fr c (b.fr c h),fun c h=>b.tb c (a.tb c h),fun c ps h=>let⟨qs,g⟩:=a.tt c ps h;b.tt c qs g⟩
theorem SameT.aL(e:SameT H H1)(h0:H a=none)(h1:H1 a=some o1)(k1:sH o1=false)(k2:∀p u,o1≠.frz p u):SameT H (aL H1 a o):=by
 refine⟨fun b u h q=>?_,fun b h=>?_,fun b h=>?_,fun b ps h=>?_⟩
 .rw[aR (cS h h0)];exact e.st b u h q
 .by_cases hb:b=a
  .subst hb;exact h0
  .rw[aR hb]at h;exact e.fr b h
 .refine(e.tb b h).up (fun c p u q=>?_) fun c ps q=>?_
  .rw[aR (iM q h1 fun z=>k2 _ _ z.symm)];exact q
  .rw[aR (iM q h1 (by intro z;subst z;cases k1))];exact q
 .obtain⟨qs,g⟩:=e.tt b ps h;exact⟨qs,by rw[aR (cS h h0)];exact g⟩
def pU(K:W.Frag):a0 Addr:=(mO (W.nsIn K mainGlobals "law")).bind fun f=>(vX (K.lookup f)).bind fun c=>CK 11 (K.lookup c)
structure Step(F H F' H':Hp):Prop where
 hh:SameT H H'
 ff:Same F F'
 fh:Same F' H'
 nw:∀a,F' a≠none->F a≠none\/H a=none\/∃xs,H a=some (.tup xs)
theorem Step.refl{F H:Hp}(h:Same F H):Step F H F H:=⟨SameT.refl H,Same.refl F,h,fun _ z=>.inl z⟩
def Tbk(K:W.Frag)(F H:Hp):Prop:=∀p,pU K=some p->F p=none/\iI H p
theorem Tbk.up{F H F' H':Hp}(h:Tbk K F H)(S:Step F H F' H'):Tbk K F' H':=fun p q=>by
 obtain⟨h1,h2⟩:=h p q;refine⟨?_,S.hh.tb p h2⟩;cases e:F' p with
 |none=>rfl
 |some v=>
  rcases S.nw p (by rw[e];simp)with z|z|⟨xs,z⟩
  .exact absurd h1 z
  .obtain⟨ps,h3,_⟩:=h2;rw[h3]at z;cases z
  .obtain⟨ps,h3,_⟩:=h2;rw[h3]at z;cases z
theorem Step.trans(a:Step F H F1 H1)(b:Step F1 H1 F2 H2):Step F H F2 H2 :=
 ⟨a.hh.trans b.hh,a.ff.trans b.ff,b.fh,fun x z=>by
  rcases b.nw x z with q|q|⟨xs,q⟩
  .exact a.nw x q
  .exact .inr (.inl (a.hh.free q))
  .cases h:H x with
   |none=>exact .inr (.inl rfl)
   |some o=>
    by_cases ht:sH o=true
    .cases o with
     |tbl ps=>obtain⟨qs,g⟩:=a.hh.tt x ps h;rw[q]at g;cases g
     |_=>cases ht
    .have h':=a.hh.st x o h (by simpa using ht);rw[q]at h';cases h';exact .inr (.inr ⟨xs,rfl⟩)⟩
theorem PV(h:Same F H):Same (aL F p o) (aL H p o):=fun b u e=>by
 by_cases hb:b=p
 .subst hb;rw[bN]at e ⊢;exact e
 .rw[aR hb]at e ⊢;exact h b u e
theorem iN(h:H p=none):Same H (aL H p o):=fun b u e=>by rw[aR (cS e h)];exact e
theorem Step.new{F H F1 H1:Hp}{p:Addr}{o:HO}(a:Step F H F1 H1)(h:H1 p=none):Step F H (aL F1 p o) (aL H1 p o) :=
 ⟨a.hh.trans (wQ (iN h)),a.ff.trans (iN (a.fh.free h)),PV a.fh,fun x z=>by
  by_cases hx:x=p
  .subst hx;exact .inr (.inl (a.hh.free h))
  .rw[aR hx]at z;exact a.nw x z⟩
def Step.newH(a:Step F H F1 H1)(h:H1 p=none):Step F H F1 (aL H1 p o) :=
 ⟨a.hh.trans (wQ (iN h)),a.ff,a.fh.trans (iN h),a.nw⟩
structure EnvE(X:Cx)(c:Tc)(r:Env)(F:Hp)(O:L2.St)(H:Hp):Prop where
 fh:Same F H
 tb:Tbk X.K F H
 get:∀(x:Str)(i:Nat)(t:T),bX x=true->cI c.nm x=some i->cX c.sc x=true->r[i]?=some (some t)->∃(j:Nat)(v:V),X.N[j]?=some x/\O[j]?=some (some v)/\Rep X.K F t v
def EnvE.step(e:EnvE X c r F O H)(s:Step F H F' H'):EnvE X c r F' O H' :=
 ⟨s.fh,e.tb.up s,fun x i t pn a b d=>let⟨j,v,h1,h2,h3⟩:=e.get x i t pn a b d;⟨j,v,h1,h2,h3.mono s.ff⟩⟩
def spT(K:W.Frag)(g:List T->a0 T):Sp:=fun vs H Q _=>∃F ts t,Same F H/\Tbk K F H/\aH K F ts vs/\g ts=some t/\∀v F' H',Step F H F' H'->Rep K F' t v->Q v H'
def lS(f:Str):Bool:=!(f==(".put":Str))&&!(f==(".lam":Str))
structure Gd(X:Cx)(c:Tc)(G:Glo)(k:Nat):Prop where
 room:Room k X.A
 calm:X.calm=true
 nob:∀x∈bnames,X.mg x=none
 call:∀f ts t,lS f=true->G.call f ts=some t->∃(a:Addr)(fd:FuncData)(ps:List Str),FnOk X.prog X.w X.K X.mg X.base CX0 k a fd ps (spT X.K (G.call f))/\X.mg f=some (.ref a)/\W.keepIn X.K (.ref a)=true/\Binds X.K fd ps []
 vis:∀x,cX c.sc x=true->Vis X.env.scope x
 gl:∀x,glB c.sc x=true->Gl X x
 cap:∀x,(c.sc.names.lookup x=some .cell\/c.sc.names.lookup x=some .free)->(X.env.kindOf x=some .cell\/X.env.kindOf x=some .free)
 nd:X.N.Nodup
def spE(X:Cx)(c:Tc)(f:Env->a0 T):TE:=fun O H Q=>∃r F t,EnvE X c r F O H/\f r=some t/\∀v F' H',Step F H F' H'->Rep X.K F' t v->Q v H'
def spB(X:Cx)(c:Tc)(f:Env->a0 T):TT:=fun O H Q=>∃r F b,EnvE X c r F O H/\f r=some (.bl b)/\∀F' H',Step F H F' H'->Q b H'
def spL(X:Cx)(c:Tc)(f:Env->a0 (List T)):TA:=fun O H Q=>∃r F ts,EnvE X c r F O H/\f r=some ts/\∀vs F' H',Step F H F' H'->aH X.K F' ts vs->Q vs H'
abbrev Oke(X:Cx)(c:Tc)(e:Expr)(f:Env->a0 T):Prop:=PE X e (spE X c f)
abbrev Okt(X:Cx)(c:Tc)(e:Expr)(f:Env->a0 T):Prop:=PT X e (spB X c f)
def fH(h:PE X e t)(m:∀O H Q,t' O H Q->t O H Q):PE X e t':=fun pj s O H Q I q=>h pj s O H Q I (m O H Q q)
def wR(h:PT X e t)(m:∀O H Q,t' O H Q->t O H Q):PT X e t':=fun pj s O H Q I q=>h pj s O H Q I (m O H Q q)
def CW(h:PW X e t)(m:∀O H Q,t' O H Q->t O H Q):PW X e t':=fun wh pj s O H Q I q=>h wh pj s O H Q I (m O H Q q)
def jR(h:PS X e t)(m:∀D O H,t' D O H->t D O H):PS X e t':=fun pj s O H D I q=>h pj s O H D I (m D O H q)
def wS(h:PSs X e t)(m:∀D O H,t' D O H->t D O H):PSs X e t':=fun pj s O H D I q=>h pj s O H D I (m D O H q)
def OpS(X:Cx)(f:Value->Value->Sem Value)(g:T->T->a0 T):Prop :=
 OpR X f (fun x y H Q=>∃F t1 t2 t,Same F H/\Rep X.K F t1 x/\Rep X.K F t2 y/\g t1 t2=some t/\∀v F' H',Step F H F' H'->Rep X.K F' t v->Q v H')
def PX(ho:OpS X (binaryOp op) h)(ha:Oke X c a f)(hb:Oke X c b g):Oke X c (.BinOp a op b pos) (fun r=>(f r).bind fun x=>(g r).bind fun y=>h x y):=by refine fH (vK ho ha hb) fun O H Q q=>?_;obtain⟨r,F,t,e,ht,q⟩:=q;obtain⟨t1,e1,ht⟩:=obs ht;obtain⟨t2,e2,ht⟩:=obs ht;refine⟨r,F,t1,e,e1,fun v1 F1 H1 s1 r1=>⟨r,F1,t2,e.step s1,e2,fun v2 F2 H2 s2 r2=>?_⟩⟩;exact⟨F2,t1,t2,t,s2.fh,r1.mono s2.ff,r2,ht,fun v F' H' s3 r3=>q v F' H' (s1.trans (s2.trans s3)) r3⟩
def PY(ho:OpS X (compareOp op) h)(ha:Oke X c a f)(hb:Oke X c b g)(hm:behindInMarks op b=false):Oke X c (.Compare a [op] [b] pos) (fun r=>(f r).bind fun x=>(g r).bind fun y=>h x y):=by refine fH (MM ho ha hb hm) fun O H Q q=>?_;obtain⟨r,F,t,e,ht,q⟩:=q;obtain⟨t1,e1,ht⟩:=obs ht;obtain⟨t2,e2,ht⟩:=obs ht;refine⟨r,F,t1,e,e1,fun v1 F1 H1 s1 r1=>⟨r,F1,t2,e.step s1,e2,fun v2 F2 H2 s2 r2=>?_⟩⟩;exact⟨F2,t1,t2,t,s2.fh,r1.mono s2.ff,r2,ht,fun v F' H' s3 r3=>q v F' H' (s1.trans (s2.trans s3)) r3⟩
def CY(ho:OpS X (compareOp op) h)(ha:Oke X c a f)(hb:Oke X c b g)(hm:behindInMarks op b=false):Okt X c (.Compare a [op] [b] pos) (fun r=>(f r).bind fun x=>(g r).bind fun y=>h x y):=by refine wR (AS ho ha hb hm) fun O H Q q=>?_;obtain⟨r,F,k,e,ht,q⟩:=q;obtain⟨t1,e1,ht⟩:=obs ht;obtain⟨t2,e2,ht⟩:=obs ht;refine⟨r,F,t1,e,e1,fun v1 F1 H1 s1 r1=>⟨r,F1,t2,e.step s1,e2,fun v2 F2 H2 s2 r2=>?_⟩⟩;exact⟨F2,t1,t2,_,s2.fh,r1.mono s2.ff,r2,ht,fun v F' H' s3 r3=>⟨k,r3,q F' H' (s1.trans (s2.trans s3))⟩⟩
def oE:SZ=sizeLine:=fV.symm
theorem CZ:OpR X (binaryOp .Add) (fun x y H Q=>∃l b xs zs,x=.ref l/\y=.ref b/\Ls X.K H l xs/\Ls X.K H b zs/\xs.length+zs.length<=sizeLine/\∀p,H p=none->Q (.ref p) (aL H p (.lst (xs++zs)))):=by
 rintro pj s O H x y v u Q I rx ry⟨l,b,xs,zs,rfl,rfl,hH,hB,hz,q⟩;cases rx;cases ry;obtain⟨z,qc,n,r,e⟩:=hH.ok I;obtain⟨z2,its2,n2,r2,e2⟩:=hB.ok I;have hl:=r.length;have hl2:=r2.length;refine PySem.P.add_list e e2 ?_ (by rw[cW,cW];lia);have ea:qc.toArray++its2.toArray=(qc++its2).toArray:=by simp
 rw[ea];exact⟨.ref _,_,I.lnew (t':=s.toks) (r.append r2) (by rw[cP];lia),rfl,q _ I.fresh⟩
theorem PZ:OpR X (binaryOp .Add) (fun x y H Q=>∃a b xs ys,x=.ref a/\y=.ref b/\SqT X.K H a xs/\SqT X.K H b ys/\xs.length+ys.length<=sizeLine /\
  (xs=[]->Q (.ref b) H)/\(xs≠[]->ys=[]->Q (.ref a) H)/\(xs≠[]->ys≠[]->∀p,H p=none->Q (.ref p) (aL H p (.tup (xs++ys))))):=by
 rintro pj s O H x y v u Q I rx ry⟨a,b,xs,ys,rfl,rfl,ha,hb,hz,q0,q1,q2⟩;cases rx;cases ry;obtain⟨qc,r,ht,_⟩:=I.tuple ha;obtain⟨its2,r2,ht2,_⟩:=I.tuple hb;have hl:=r.length;have hl2:=r2.length;by_cases hx:xs=[]
 .subst hx;have hi:qc=[]:=by
   cases qc with
   |nil=>rfl
   |cons _ _=>simp at hl
  subst hi;obtain⟨⟨cls,dd,data,sl⟩,ho,hc,n,hd⟩:=id ht;obtain⟨⟨cls2,dd2,data2,sl2⟩,ho2,hc2,n2,hd2⟩:=id ht2;simp only at hc hd hc2 hd2;subst hc hd hc2 hd2;exact concat_meets ⟨_,ho,rfl⟩ ⟨_,ho2,rfl⟩ noFill_tuple_add seq_tuple_add PySem.F.slot_tuple_add PySem.F.entry_tuple_add (PySem.F.args_tuple_add_2 _ _)
   (tuple_addW0 a b _ _ n n2 dd dd2 sl sl2 (by simp)) ⟨ho,ho2,⟨.ref b,H,I.tok _,rfl,q0 rfl⟩⟩
 .refine HT.cat_tup ht ht2 (by intro z;subst z;exact hx (by cases xs with|nil=>rfl|cons _ _=>simp at hl)) (fun hw=>?_) (fun hw=>?_) (by lia)
  .have hy:ys=[]:=by subst hw;cases ys with|nil=>rfl|cons _ _=>simp at hl2
   exact⟨.ref a,H,I,rfl,q1 hx hy⟩
  .have hy:ys≠[]:=by intro z;subst z;exact hw (by cases its2 with|nil=>rfl|cons _ _=>simp at hl2)
   exact⟨.ref _,_,I.laid (t':=s.toks) (fun b o e=>aT _ e) (bH _) (show aU X.prog X.w _ _ _ (.tup (xs++ys))from⟨by rw[cP];lia,qc++its2,r.append r2,IsTup.new _ _⟩),rfl,q2 hx hy _ I.fresh⟩
theorem QA:OpS X (binaryOp .Add) cC:=by
 rintro pj s O H x y v u Q I rx ry⟨F,t1,t2,t,fh,r1,r2,ht,q⟩;cases t1 with
 |int i=>
  cases t2 with
  |int j=>cases r1;cases r2;cases ht;exact LV pj s O H _ _ v u Q I rx ry ⟨_,_,rfl,rfl,q _ F H (Step.refl fh) rfl⟩
  |_=>simp[cC]at ht
 |lst i=>
  cases t2 with
  |lst j=>
   obtain⟨l,xs,rfl,h1,h2⟩:=r1;obtain⟨l',ys,rfl,h3,h4⟩:=r2;simp only[cC]at ht;split at ht
   .rename_i hz;cases ht;refine CZ pj s O H _ _ v u Q I rx ry ⟨_,_,_,_,rfl,rfl,Ls.same fh h1,Ls.same fh h3,by rw[h2.length,h4.length,<-oE];exact hz,fun p hp=>?_⟩;have st:=(Step.refl fh).new (o:=.lst (xs++ys)) hp;exact q _ _ _ st ⟨p,_,rfl,Ls.of bN,(h2.app h4).mono st.ff⟩
   .cases ht
  |_=>simp[cC]at ht
 |tup i=>
  cases t2 with
  |tup j=>
   obtain⟨l,xs,rfl,h1,h2⟩:=r1;obtain⟨l',ys,rfl,h3,h4⟩:=r2;simp only[cC]at ht;split at ht
   .rename_i hz;cases ht;refine PZ pj s O H _ _ v u Q I rx ry ⟨_,_,_,_,rfl,rfl,dC fh h1,dC fh h3,by rw[h2.length,h4.length,<-oE];exact hz,fun z=>?_,fun _ z=>?_,fun _ _ p hp=>?_⟩
    .subst z;refine q _ F H (Step.refl fh) ⟨l',ys,rfl,h3,?_⟩;have e:=h2.length;cases i with
     |nil=>exact h4
     |cons _ _=>simp at e
    .subst z;refine q _ F H (Step.refl fh) ⟨l,xs,rfl,h1,?_⟩;have e:=h4.length;cases j with
     |nil=>rw[gI];exact h2
     |cons _ _=>simp at e
    .have st:=(Step.refl fh).new (o:=.tup (xs++ys)) hp;exact q _ _ _ st ⟨p,_,rfl,bN,(h2.app h4).mono st.ff⟩
   .cases ht
  |_=>simp[cC]at ht
 |_=>cases t2<;>simp[cC]at ht
theorem QB:OpS X (binaryOp .Sub) pJ:=by rintro pj s O H x y v u Q I rx ry⟨F,t1,t2,t,fh,r1,r2,ht,q⟩;cases t1<;>cases t2<;>simp only[pJ]at ht<;>cases ht;cases r1;cases r2;exact LW pj s O H _ _ v u Q I rx ry ⟨_,_,rfl,rfl,q _ F H (Step.refl fh) rfl⟩
theorem aH.rep{K:W.Frag}{F:Hp}{ts:List T}{vs:List V}(h:aH K F ts vs):∀k:Nat,aH K F (List.replicate k ts).flatten (List.replicate k vs).flatten
 |0=>rfl
 |k+1=>by rw[List.replicate_succ,List.replicate_succ,List.flatten_cons,List.flatten_cons];exact h.app (aH.rep h k)
theorem QC:OpR X (binaryOp .Mult) (fun x y H Q=>∃l k xs,x=.ref l/\y=.int k/\Ls X.K H l xs/\0<=k/\k<=1000/\xs.length<=1000/\∀p,H p=none->Q (.ref p) (aL H p (.lst (List.replicate k.toNat xs).flatten))):=by
 rintro pj s O H x y v u Q I rx ry⟨l,k,xs,rfl,rfl,hH,h1,h2,h3,q⟩;cases rx;obtain⟨t,rfl⟩:=ry;obtain⟨z,qc,n,r,e⟩:=hH.ok I;have hl:xs.length=qc.length:=r.length;have hz:xs.length*k.toNat<=1000000:=by
  have:k.toNat<=1000:=by lia
  exact Nat.mul_le_mul h3 this
 have hsz:(1000000:Nat)<=sizeLine:=by decide
 have hlen:qc.toArray.size*k.toNat<=sizeLine:=by rw[cW,<-hl];lia
 have hcap:¬qc.toArray.size*k.toNat>(2 ^ 63-1)/8:=by
  rw[cW,<-hl];have:(1000000:Nat)<=(2 ^ 63-1)/8:=by decide
  lia
 have e63:(2:Int) ^ 63=9223372036854775808:=by decide
 have hfit:¬(!Builtin.List.listFitsIndex k)=true:=by rw[fitsIndex_both (by rw[e63];lia) (by rw[e63];lia)];exact dW
 have hlong:¬Builtin.List.listTooLong (qc.toArray.size*k.toNat)=true:=by rw[NS hlen];exact dW
 have hnew:List.foldl (fun x1 x2=>x1++x2) #[] (List.replicate (if qc.toArray.isEmpty=true then 0 else k.toNat) qc.toArray)=(List.replicate k.toNat qc).flatten.toArray:=by
  have f0:∀m:Nat,List.foldl (fun x1 x2=>x1++x2) #[] (List.replicate m qc.toArray)=(List.replicate m qc).flatten.toArray:=fun m=>by have:=BP qc m [];rw[List.nil_append]at this;exact this
  rw[f0];cases qc with
  |nil=>simp
  |cons a r'=>rw[if_neg (by simp)]
 refine wpAny_binaryOp_repeat_ref (T:="list") (U:="int") (by decide) ⟨_,e,rfl⟩ (fun s'=>typeIs_int s' k t) noFill_list_mul F.fills_int_mul F.slot_int_rmul repeat_list F.slot_int_index.lookup
  (call_meets F.slot_int_rmul (typeIs_int s k t) F.entry_int_rmul (F.args_int_rmul_2 _ _) (int___rmul___int_list k t l qc.toArray n)
   ⟨e,rfl,⟨_,e,rfl⟩,call_meets F.slot_list_mul ⟨_,e,rfl⟩ F.entry_list_mul (F.args_list_mul_2 _ _) (AutoListH.list___mul___list_int_3 l qc.toArray n k t hfit hcap hlong) ⟨e,?_⟩⟩)
 rw[hnew];exact⟨.ref _,_,I.lnew (t':=s.toks) (r.rep k.toNat) (by rw[NW,Nat.mul_comm];lia),rfl,q _ I.fresh⟩
theorem QD:OpS X (binaryOp .Mult) kJ:=by
 rintro pj s O H x y v u Q I rx ry⟨F,t1,t2,t,fh,r1,r2,ht,q⟩;cases t1 with
 |int i=>
  cases t2 with
  |int j=>
   cases r1;cases r2;simp only[kJ]at ht;split at ht
   .rename_i hz;cases ht;refine LY pj s O H _ _ v u Q I rx ry ⟨_,_,rfl,rfl,?_,q _ F H (Step.refl fh) rfl⟩;rw[Bool.or_eq_true]at hz;have e64:(2:Int) ^ 64=18446744073709551616:=by decide
    rcases hz with hz|hz<;>simp only[nU,Bool.and_eq_true,decide_eq_true_eq]at hz
    .exact .inl (by rw[e64];exact hz)
    .exact .inr (by rw[e64];exact hz)
   .cases ht
  |_=>simp[kJ]at ht
 |lst ts=>
  cases t2 with
  |int j=>
   cases r2;simp only[kJ]at ht;split at ht
   .rename_i hz;cases ht;obtain⟨a,vs,rfl,h1,h2⟩:=r1;refine QC pj s O H _ _ v u Q I rx ry ⟨a,j,vs,rfl,rfl,Ls.same fh h1,hz.1,hz.2.1,by rw[h2.length];exact hz.2.2,fun p hp=>?_⟩;have st:=(Step.refl fh).new (o:=.lst (List.replicate j.toNat vs).flatten) hp;exact q _ _ _ st ⟨p,_,rfl,Ls.of bN,(h2.rep j.toNat).mono st.ff⟩
   .cases ht
  |_=>simp[kJ]at ht
 |_=>cases t2<;>simp[kJ]at ht
theorem QE:OpS X (binaryOp .FloorDiv) cZ:=by
 rintro pj s O H x y v u Q I rx ry⟨F,t1,t2,t,fh,r1,r2,ht,q⟩;cases t1<;>cases t2<;>simp only[cZ]at ht<;>try cases ht
 split at ht
 .rename_i hz;cases ht;cases r1;cases r2;exact LZ pj s O H _ _ v u Q I rx ry ⟨_,_,rfl,rfl,hz,q _ F H (Step.refl fh) rfl⟩
 .cases ht
theorem QF:OpS X (binaryOp .Mod) dA:=by
 rintro pj s O H x y v u Q I rx ry⟨F,t1,t2,t,fh,r1,r2,ht,q⟩;cases t1<;>cases t2<;>simp only[dA]at ht<;>try cases ht
 split at ht
 .rename_i hz;cases ht;cases r1;cases r2;exact MA pj s O H _ _ v u Q I rx ry ⟨_,_,rfl,rfl,hz,q _ F H (Step.refl fh) rfl⟩
 .cases ht
end
end Ev
namespace L2
open PySem Spec PyProof.Rows
section
variable {qb:Kq}{xs:List (List Key×Addr×Value)}{H':Hp}{Q:Vq}
section
variable {κ:Type}[DecidableEq κ]
def hV(qb:List (κ×V))(k:κ):a0 V:=(qb.find? fun kv=>decide (kv.1=k)).map (·.2)
def gQ(qb:List (κ×V))(k:κ)(v:V):List (κ×V) :=
 if(qb.any fun kv=>decide (kv.1=k))=true then qb.map (fun kv=>if kv.1=k then(kv.1,v)else kv)else qb++[(k,v)]
theorem sJ{p:κ×V}{r:List (κ×V)}{k:κ}(e:p.1=k):hV (p::r) k=some p.2:=by simp[hV,List.find?_cons,e]
theorem sK{p:κ×V}{r:List (κ×V)}{k:κ}(e:¬p.1=k):hV (p::r) k=hV r k:=by simp[hV,List.find?_cons,e]
theorem wT(k:κ):∀qb:List (κ×V),(qb.any fun kv=>decide (kv.1=k))=(hV qb k).isSome
 |[]=>rfl
 |p::r=>by
  rw[iJ];by_cases e:p.1=k
  .simp only[sJ e,decide_eq_true e,Bool.true_or,Option.isSome_some]
  .rw[sK e,eN e,Bool.false_or];exact wT k r
theorem wU(qb:List (κ×V))(k:κ)(v:V):(gQ qb k v).length<=qb.length+1:=by
 unfold gQ;split
 .rw[bM];lia
 .rw[cP,gC,List.length_nil];lia
theorem eF.isSome_eq{o:a0 V}{u:a0 Value}(r:eF o u):o.isSome=u.isSome:=by
 cases o with
 |none=>cases u with
  |none=>rfl
  |some _=>exact(show False from r).elim
 |some _=>cases u with
  |none=>exact(show False from r).elim
  |some _=>rfl
theorem KV.val{qb:List (κ×V)}{vs:List (κ×Value)}(r:KV qb vs)(k:κ):eF (hV qb k) (valueAt vs k):=by
 unfold KV at r
 induction r with
 |nil=>exact True.intro
 | @cons p q ps qs h t ih=>
  obtain⟨h1,h2⟩:=h;by_cases e:p.1=k
  .have e':q.1=k:=h1.symm.trans e;have b:valueAt (q::qs) k=some q.2:=by simp[valueAt,List.find?_cons,e']
   rw[sJ e,b];exact h2
  .have e':¬q.1=k:=fun z=>e (h1.trans z);have b:valueAt (q::qs) k=valueAt qs k:=by simp[valueAt,List.find?_cons,e']
   rw[sK e,b];exact ih
theorem KV.any{qb:List (κ×V)}{vs:List (κ×Value)}(r:KV qb vs)(k:κ):(qb.any fun kv=>decide (kv.1=k))=vs.any fun kv=>decide (kv.1=k):=by
 unfold KV at r
 induction r with
 |nil=>rfl
 |cons h t ih=>rw[iJ,iJ,ih,h.1]
def KV.repl{qb:List (κ×V)}{vs:List (κ×Value)}(r:KV qb vs)(k:κ){y:V}{u:Value}(ry:aG y u):KV (qb.map fun kv=>if kv.1=k then(kv.1,y)else kv) (vs.map fun kv=>if kv.1=k then(kv.1,u)else kv):=by
 unfold KV at r ⊢
 induction r with
 |nil=>exact .nil
 | @cons p q ps qs h t ih=>
  rw[bE,bE];refine .cons ?_ ih;obtain⟨h1,h2⟩:=h;by_cases e:p.1=k
  .rw[if_pos e,if_pos (h1.symm.trans e)];exact⟨h1,ry⟩
  .rw[if_neg e,if_neg (fun z=>e (h1.trans z))];exact⟨h1,h2⟩
theorem KV.put{qb:List (κ×V)}{vs:List (κ×Value)}(r:KV qb vs)(k:κ){y:V}{u:Value}(ry:aG y u):KV (gQ qb k y) (stored vs k u):=by
 unfold gQ stored;rw[r.any k];by_cases e:(vs.any fun kv=>decide (kv.1=k))=true
 .rw[if_pos e,if_pos e];exact r.repl k ry
 .rw[if_neg e,if_neg e];exact Paired.snoc r ⟨rfl,ry⟩
theorem KV.length{qb:List (κ×V)}{vs:List (κ×Value)}(r:KV qb vs):qb.length=vs.length:=Paired.length r
end
theorem pV{P:Program}{w:World}{k:Key}{u:Value}(r:aG (kV k) u):(eV P w).is k u=true:=by
 rcases k with i|_|x
 .obtain⟨t,e⟩:=(show ∃t,u=Value.int i t from r);subst e;exact KK P w i t
 .cases(show u=Value.none from r);rfl
 .obtain⟨t,e⟩:=(show ∃t,u=Value.str x t from r);subst e;exact KM P w x t
theorem DA{P:Program}{w:World}:∀{ks:List Key}{us:List Value},aJ (ks.map kV) us->ItemsAre (eV P w) ks us
 |[],_,r=>by rw[List.map_nil]at r;cases r;exact .nil
 |k::ks,_,r=>by
  rw[bE]at r;cases r with
  |cons h t=>exact .cons (pV h) (DA t)
abbrev KT(H:Hp):Kq->List (List Key×Addr×Value)->Prop:=Paired fun p q=>p.1=q.1/\H q.2.1=some (.tup (p.1.map kV))/\aG p.2 q.2.2
theorem KT.val{H:Hp}(r:KT H qb xs)(k:List Key):eF (hV qb k) ((atKey xs k).map (·.2)):=by
 induction r with
 |nil=>exact True.intro
 | @cons p q ps qs h t ih=>
  obtain⟨h1,_,h2⟩:=h;by_cases e:p.1=k
  .have e':q.1=k:=h1.symm.trans e;have b:atKey (q::qs) k=some q.2:=by simp[atKey,List.find?_cons,e']
   rw[sJ e,b];exact h2
  .have e':¬q.1=k:=fun z=>e (h1.trans z);have b:atKey (q::qs) k=atKey qs k:=by simp[atKey,List.find?_cons,e']
   rw[sK e,b];exact ih
def KT.repl{H:Hp}(r:KT H qb xs)(k:List Key){y:V}{u:Value}(ry:aG y u):KT H (qb.map fun kv=>if kv.1=k then(kv.1,y)else kv) (xs.map (putAt k u)):=by
 induction r with
 |nil=>exact .nil
 | @cons p q ps qs h t ih=>
  rw[bE,bE];refine .cons ?_ ih;obtain⟨h1,h2,h3⟩:=h;unfold putAt;by_cases e:p.1=k
  .rw[if_pos e,if_pos (h1.symm.trans e)];exact⟨h1,h2,ry⟩
  .rw[if_neg e,if_neg (fun z=>e (h1.trans z))];exact⟨h1,h2,h3⟩
theorem KT.put{H:Hp}(r:KT H qb xs)(k:List Key){b:Addr}{y:V}{u:Value}(hb:H b=some (.tup (k.map kV)))(ry:aG y u):KT H (gQ qb k y) (storedH xs k b u):=by
 have e:(qb.any fun kv=>decide (kv.1=k))=(atKey xs k).isSome:=by rw[wT,(r.val k).isSome_eq,Option.isSome_map]
 unfold gQ storedH;rw[e];by_cases q:(atKey xs k).isSome=true
 .rw[if_pos q,if_pos q];exact r.repl k ry
 .rw[if_neg q,if_neg q];exact Paired.snoc r ⟨rfl,hb,ry⟩
def KT.keeps{H:Hp}(r:KT H qb xs)(ht:∀b ys,H b=some (.tup ys)->H' b=some (.tup ys)):KT H' qb xs :=
 Paired.mapP r fun _ _ z=>⟨z.1,ht _ _ z.2.1,z.2.2⟩
def DB{u:HO}(ok:HOk P w H h)(e:Rd H a u):aU P w H h a u:=e.ok ok
def pW{qb:List (Key×V)}(ok:HOk P w H h)(e:Rd H a (.dK qb)):qb.length<=sizeLine/\(a==sysModules)=false/\∃vs,KV qb vs/\h.DictOf (eV P w) a vs :=
 show aU P w H h a (.dK qb)from DB ok e
def DC{qb:List (Key×V)}(ok:HOk P w H h)(e:H a=some (.dK qb)):qb.length<=sizeLine/\(a==sysModules)=false/\∃vs,KV qb vs/\h.DictOf (eV P w) a vs:=pW ok (.inl e)
theorem oF{ks:List Key}(ok:HOk P w H h)(e:H a=some (.tup (ks.map kV))):(tupleKind (eV P w)).is h ks a:=by obtain⟨_,qc,r,o,h1,h2,n,h3⟩:=(show aU P w H h a (.tup (ks.map kV))from ok a _ e);exact⟨o,qc.toArray,n,h1,h2,h3,by simpa using DA r⟩
theorem pX(ok:HOk P w H h)(e:Rd H a (.dT qb)):qb.length<=sizeLine/\(a==sysModules)=false /\
  ∃xs,KT H qb xs/\h.DictOfH (tupleKind (eV P w)) a xs:=by
 obtain⟨z,y,xs,r,o,es,ep,h1,h2,h3,h4,h5⟩:=(show aU P w H h a (.dT qb)from DB ok e);refine⟨z,y,xs,r,o,es,ep,h1,h2,h3,h4,fun x hx=>?_,h5⟩;have all:∀{l:Kq}{m:List (List Key×Addr×Value)},KT H l m->∀x∈m,(tupleKind (eV P w)).is h x.1 x.2.1:=by
  intro l m q
  induction q with
  |nil=>intro x hx;exact nomatch hx
  | @cons p q ps qs hq t ih=>
   intro x hx;rcases omc hx with e|hx
   .subst e;exact oF ok (by rw[<-hq.1];exact hq.2.1)
   .exact ih x hx
 exact all r x hx
def wV(ok:HOk P w H h)(e:H a=some (.dT qb)):qb.length<=sizeLine/\(a==sysModules)=false /\
  ∃xs,KT H qb xs/\h.DictOfH (tupleKind (eV P w)) a xs:=pX ok (.inl e)
def dR(H:Hp)(a:Addr)(y:V)(r:a0 V):Prop :=
 (∃qb k,Rd H a (.dK qb)/\y=kV k/\r=hV qb k)\/∃qb k b,Rd H a (.dT qb)/\y=.ref b/\H b=some (.tup (k.map kV))/\r=hV qb k
def jI(H:Hp)(a:Addr)(y v:V)(H':Hp):Prop :=
 (∃qb k,H a=some (.dK qb)/\y=kV k/\qb.length<sizeLine/\H'=aL H a (.dK (gQ qb k v))) \/
 ∃qb k b,H a=some (.dT qb)/\y=.ref b/\H b=some (.tup (k.map kV))/\qb.length<sizeLine/\H'=aL H a (.dT (gQ qb k v))
theorem dR.k{H:Hp}{a:Addr}{qb:List (Key×V)}{k:Key}(e:H a=some (.dK qb)):dR H a (kV k) (hV qb k):=.inl ⟨qb,k,.inl e,rfl,rfl⟩
def dR.t{H:Hp}{a b:Addr}{k:List Key}(e:H a=some (.dT qb))(eb:H b=some (.tup (k.map kV))):dR H a (.ref b) (hV qb k):=.inr ⟨qb,k,b,.inl e,rfl,eb,rfl⟩
theorem jI.k{H:Hp}{a:Addr}{qb:List (Key×V)}{k:Key}{v:V}(e:H a=some (.dK qb))(hl:qb.length<sizeLine):jI H a (kV k) v (aL H a (.dK (gQ qb k v))):=.inl ⟨qb,k,e,rfl,hl,rfl⟩
theorem Inv.big(I:Inv X pj O H s):sysModules<s.heap.objs.size:=by have h:mainGlobals<s.heap.objs.size:=(I.mod.glob.keeps I.bk).lt;exact Nat.lt_trans (by decide) h
theorem QG(hu:A.units+1<cLine)(I:Inv X pj O H s)(g:dR H a y (some v))(ry:aG y u)(h:∀w' s',Inv X pj O H s'->aG v w'->Q w' s'):wpAny (model X.prog X.w) A (getItem (.ref a) u) Q E s:=by
 rcases g with⟨qb,k,e,ey,l⟩|⟨qb,k,b,e,ey,eb,l⟩
 .subst ey;obtain⟨z,hd,vs,rel,dd⟩:=pW I.hok e;obtain⟨w',hw,rw'⟩:=eF.some_of (v:=v) (o:=valueAt vs k) (by rw[l];exact rel.val k);exact wpAny_getItem_of (pV ry) dd.mapOf hw (h w' _ (I.tok _) rw')
 .subst ey;cases(show u=Value.ref b from ry);obtain⟨z,hd,xs,rel,dd⟩:=pX I.hok e;obtain⟨w',hw,rw'⟩:=eF.some_of (v:=v) (o:=(atKey xs k).map (·.2)) (by rw[l];exact rel.val k);obtain⟨p,hp,hp2⟩:=oms hw;refine wpAny_getItem_heap (tupleKind_room_in1 hu) (oF I.hok eb) dd hp ?_;rw[hp2];exact h w' _ (I.tok _) rw'
theorem d_in(hu:A.units+1<cLine)(I:Inv X pj O H s)(g:dR H a y o)(ry:aG y u)(h:∀s',Inv X pj O H s'->Q (.bool o.isSome) s'):wpAny (model X.prog X.w) A (compareOp .In u (.ref a)) Q E s:=by
 rcases g with⟨qb,k,e,ey,l⟩|⟨qb,k,b,e,ey,eb,l⟩
 .subst ey;obtain⟨z,hd,vs,rel,dd⟩:=pW I.hok e;refine wpAny_in_of (pV ry) hd dd.mapOf ?_;rw[<-(rel.val k).isSome_eq,<-l];exact h _ (I.tok _)
 .subst ey;cases(show u=Value.ref b from ry);obtain⟨z,hd,xs,rel,dd⟩:=pX I.hok e;refine wpAny_in_heap (tupleKind_room_in1 hu) (oF I.hok eb) hd dd ?_;have q:=(rel.val k).isSome_eq;rw[Option.isSome_map]at q;rw[<-q,<-l];exact h _ (I.tok _)
theorem QH(hu:A.units+1<cLine)(I:Inv X pj O H s)(g:dR H a y o)(ry:aG y u)(h:∀s',Inv X pj O H s'->Q (.bool (!o.isSome)) s'):wpAny (model X.prog X.w) A (compareOp .NotIn u (.ref a)) Q E s:=by
 rcases g with⟨qb,k,e,ey,l⟩|⟨qb,k,b,e,ey,eb,l⟩
 .subst ey;obtain⟨z,hd,vs,rel,dd⟩:=pW I.hok e;refine wpAny_notIn_of (pV ry) hd dd.mapOf ?_;rw[<-(rel.val k).isSome_eq,<-l];exact h _ (I.tok _)
 .subst ey;cases(show u=Value.ref b from ry);obtain⟨z,hd,xs,rel,dd⟩:=pX I.hok e;refine wpAny_notIn_heap (tupleKind_room_in1 hu) (oF I.hok eb) hd dd ?_;have q:=(rel.val k).isSome_eq;rw[Option.isSome_map]at q;rw[<-q,<-l];exact h _ (I.tok _)
def DD{h':Heap}{t':Nat}{ob:HO}(I:Inv X pj O H s)(mu:Mut (H a))(hs:Heap.SameBut a s.heap h')(he:∃q,h'.get? a=some q)(new:aU X.prog X.w (aL H a ob) h' a ob):Inv X pj O (aL H a ob) {s with heap:=h',toks:=t'} :=
 I.write (x:=a) (e:=a) mu (.inl rfl) (fun b q hb z=>(hs.2 b hb).trans z) he new
def QI{P:Program}{w:World}{h':Heap}{qb:List (Key×V)}{vs:List (Key×Value)}(z:qb.length<=sizeLine)(hd:(a==sysModules)=false)(rel:KV qb vs)(dd:h'.DictOf (eV P w) a vs):aU P w H' h' a (.dK qb):=⟨z,hd,vs,rel,dd⟩
theorem QJ{Q:Unit->Shared->Prop}(hu:A.units+1<cLine)(I:Inv X pj O H s)(g:jI H a y v H')(ry:aG y u)(rv:aG v r)(h:∀s',Inv X pj O H' s'->Q () s'):wpAny (model X.prog X.w) A (setItem (.ref a) u r) Q E s:=by
 rcases g with⟨qb,k,e,ey,l,eH⟩|⟨qb,k,b,e,ey,eb,l,eH⟩
 .subst ey eH;obtain⟨z,hd,vs,rel,dd⟩:=DC I.hok e;have hz:vs.length<=sizeLine:=by rw[<-rel.length];exact z
  have hl:(gQ qb k v).length<=sizeLine:=by have:=wU qb k v;lia
  refine wpAny_setItem_pairs (hsz:=hz) (pV ry) dd fun h' dd' hs=>h _ ?_;have he:∃q,h'.get? a=some q:=let⟨q,_,_,hq,_⟩:=dd';⟨q,hq⟩
  exact DD I (by rw[e];exact True.intro) hs he (QI hl hd (rel.put k rv) dd')
 .subst ey eH;cases(show u=Value.ref b from ry);obtain⟨z,hd,xs,rel,dd⟩:=wV I.hok e;have hz:xs.length<=sizeLine:=by rw[<-Paired.length rel];exact z
  have hl:(gQ qb k v).length<=sizeLine:=by have:=wU qb k v;lia
  refine wpAny_setItem_heap (hsz:=hz) (tupleKind_room_in1 hu) (oF I.hok eb) dd fun h' dd' hs=>h _ ?_;obtain⟨q,es,ep,hq,h2,h3,h4,_,h5⟩:=dd';refine DD I (by rw[e];exact True.intro) hs ⟨q,hq⟩ ⟨hl,hd,_,(rel.put k eb rv).keeps fun c ys ec=>?_,q,es,ep,hq,h2,h3,h4,h5⟩;rw[aR (iM ec e (fun z=>nomatch z))];exact ec
theorem QK{X:Cx}{pj:Pq}{O:St}{H:Hp}{s:Shared}{a:Addr}{y:V}{o:a0 V}(I:Inv X pj O H s)(g:dR H a y o):s.TypeIs (.ref a) "dict":=by
 rcases g with⟨qb,k,e,_,_⟩|⟨qb,k,b,e,_,_,_⟩
 .obtain⟨_,_,vs,_,dd⟩:=pW I.hok e;exact dd.typeIs
 .obtain⟨_,_,xs,_,dd⟩:=pX I.hok e;exact dd.typeIs
def QL(td ty tv:TE):TS:=fun D O H=>tv O H fun v H1=>td O H1 fun x H2=>ty O H2 fun y H3=>∃a H4,x=.ref a/\jI H3 a y v H4/\D.nx O H4
def QM(hu:X.A.units+1<cLine)(ho:PE X o td)(hi:PE X i ty)(hv:PE X value tv)(hs:swapsWith value (some (.Subscript o i pos')) pos.line X.env=pure false):PS X (.Assign [.Subscript o i pos'] value pos) (QL td ty tv):=by
 intro pj s O H D I h;refine wpAny_Assign_Subscript (thn (hv pj s O H _ I h) fun r s1 ⟨v,H1,I1,rv,q1⟩=>thn (ho pj s1 O H1 _ I1 q1) fun u s2 ⟨x,H2,I2,rx,q2⟩=>thn (hi pj s2 O H2 _ I2 q2) fun iv s3 ⟨y,H3,I3,ry,a,H4,ex,g,q3⟩=>?_) hs;subst ex;obtain rfl:u=Value.ref a:=rx;exact QJ hu I3 g ry rv fun s4 I4=>⟨O,H4,I4,q3⟩
def QN{P:Program}{w:World}{H:Hp}(h:Heap)(hb:sysModules<h.objs.size):aU P w H (h.push {cls:=.type "dict",data:=.dict #[]}) h.objs.size (.dK []) :=
 ⟨dQ _,zZ.mpr (Ne.symm (cL hb)),[],.nil,Heap.DictOf.new h⟩
def QO:TE:=fun _ H Q=>∀p,H p=none->Q (.ref p) (aL H p (.dK []))
def QP:PE X (.Dict [] [] pos) QO:=fun pj s O H Q I h=>wpAny_Dict_empty ⟨.ref s.heap.objs.size,_,I.laid (a:=s.heap.objs.size) (o:=.dK []) (t':=s.toks) (fun _ _ q=>aT _ q) (bH _) (QN s.heap I.big),rfl,h _ (I.hok.fresh (bH _))⟩
end
section
variable {κ:Type}[DecidableEq κ]
end
end L2
namespace Ev
open PySem Spec PyProof.Rows L2
section
variable {t1 t2:T}{n:Nat}{a:Addr}{vs:List V}{ts us:List T}{v u:Value}{x y:V}{A:Around}{qc jts:List Value}
mutual
theorem wW:∀t:T,dpP t t<20000->eqT t t=true
 |.non,_=>by rw[eqT]
 |.bl b,_=>by rw[eqT];simp
 |.int i,_=>by rw[eqT];simp
 |.str x,_=>by rw[eqT];simp
 |.tup a,h=>by rw[eqT];rw[dpP]at h;exact wX a (by lia)
 |.lst a,h=>by rw[eqT];rw[dpP]at h;exact wX a (by lia)
 |.dk _ _,h=>by rw[dpP]at h;lia
 |.dt _ _,h=>by rw[dpP]at h;lia
theorem wX:∀ts:List T,fM ts ts<20000->eO ts ts=true
 |[],_=>by rw[eO]
 |t::ts,h=>by rw[fM]at h;rw[eO,wW t (by lia),wX ts (by lia)];rfl
end
theorem DF:∀{xs ys:List T}{j:Nat}{x y:T},xs[j]?=some x->ys[j]?=some y->dpP x y<=fM xs ys
 |[],_,_,_,_,h,_=>by simp at h
 |_::_,[],_,_,_,_,h=>by simp at h
 |a::xs,b::ys,0,x,y,h1,h2=>by simp at h1 h2;subst h1 h2;rw[fM];exact Nat.le_max_left _ _
 |a::xs,b::ys,j+1,x,y,h1,h2=>by rw[fM];exact Nat.le_trans (DF (j:=j) (by simpa using h1) (by simpa using h2)) (Nat.le_max_right _ _)
theorem pY:∀xs ys:List T,eO xs ys=((List.range (min xs.length ys.length)).all (fun j=>eqT (xs.getD j .non) (ys.getD j .non))&&xs.length==ys.length)
 |[],[]=>by rw[eO];rfl
 |[],b::ys=>by simp[eO]
 |a::xs,[]=>by simp[eO]
 |a::xs,b::ys=>by
  rw[eO,pY xs ys,gC,gC,show min (xs.length+1) (ys.length+1)=min xs.length ys.length+1 by lia,List.range_succ_eq_map,List.all_cons,List.all_map];have e:(xs.length+1==ys.length+1)=(xs.length==ys.length):=by
   by_cases h:xs.length=ys.length
   .simp[h]
   .simp[]
  rw[e,Bool.and_assoc];rfl
def isD:T->Bool
 |.dk _ _=>true
 |.dt _ _=>true
 |_=>false
theorem sM(hd:dpP t1 t2<=n)(hn:n<20000):isD t1=false/\isD t2=false:=by cases t1<;>cases t2<;>first|exact⟨rfl,rfl⟩|(exfalso;simp[dpP]at hd;lia)
def fZ:T->T->Bool
 |.tup _,.tup _=>true
 |.lst _,.lst _=>true
 |.dk _ _,_=>true
 |.dt _ _,_=>true
 |_,.dk _ _=>true
 |_,.dt _ _=>true
 |_,_=>false
section
variable {X:Cx}{pj:Pq}{O:L2.St}{H F:Hp}{s:Shared}
theorem sN(I:Inv X pj O H s)(h:(∃ws,H a=some (.dK ws))\/∃ws,H a=some (.dT ws)):∃o,s.heap.get? a=some o/\o.cls=.type "dict":=by
 rcases h with⟨ws,h⟩|⟨ws,h⟩
 .obtain⟨_,_,vs,_,o,es,ep,h1,h2,_⟩:=DC I.hok h;exact⟨o,h1,h2.1⟩
 .obtain⟨_,_,xs,_,o,es,ep,h1,h2,_⟩:=wV I.hok h;exact⟨o,h1,h2.1⟩
theorem sO(I:Inv X pj O H s)(h:(∃ws,H a=some (.dK ws))\/∃ws,H a=some (.dT ws))(p:SqT X.K H a vs):False:=by obtain⟨o,h1,h2⟩:=sN I h;obtain⟨qc,_,⟨o',e,c,_⟩,_⟩:=I.tuple p;rw[h1]at e;cases e;rw[h2]at c;exact absurd c (by decide +kernel)
theorem sP(I:Inv X pj O H s)(h:(∃ws,H a=some (.dK ws))\/∃ws,H a=some (.dT ws))(p:Ls X.K H a vs):False:=by obtain⟨o,h1,h2⟩:=sN I h;obtain⟨qc,_,p',_⟩:=I.list p.sq;obtain⟨o',e,c,_⟩:=p'.isList;rw[h1]at e;cases e;rw[h2]at c;exact absurd c (by decide +kernel)
theorem mT(I:Inv X pj O H s)(fh:Same F H){v:V}(r:Rep X.K F (.tup ts) v)(ru:aG v u):∃a vs qc,v=.ref a/\u=.ref a/\Tq X.K F a vs/\aH X.K F ts vs/\aJ vs qc/\s.heap.IsTuple a qc.toArray:=by obtain⟨a,vs,rfl,h1,h2⟩:=r;cases ru;obtain⟨qc,rv,p,_⟩:=I.tuple (dC fh h1);exact⟨a,vs,qc,rfl,rfl,h1,h2,rv,p⟩
theorem oG(I:Inv X pj O H s)(fh:Same F H){v:V}(r:Rep X.K F (.lst ts) v)(ru:aG v u):∃a vs qc,v=.ref a/\u=.ref a/\Ls X.K F a vs/\aH X.K F ts vs/\aJ vs qc/\s.heap.IsList a qc.toArray:=by obtain⟨a,vs,rfl,h1,h2⟩:=r;cases ru;obtain⟨qc,rv,p,_⟩:=I.list (Ls.same fh h1).sq;exact⟨a,vs,qc,rfl,rfl,h1,h2,rv,p.isList⟩
theorem DG{xs ys:Array Value}(h1:s.heap.IsTuple a xs)(h2:s.heap.IsList a ys):False:=by obtain⟨o,e,c,_⟩:=h1;obtain⟨o',e',c',_⟩:=h2;rw[e]at e';cases e';rw[c]at c';exact absurd c' (by decide +kernel)
theorem QQ(h1:aG x u)(h2:aG y u):x=y:=by
 cases x with
 |non=>cases h1;cases y<;>first|rfl|(obtain⟨_,e⟩:=h2;cases e;done)|(cases h2;done)
 |bl _=>cases h1;cases y<;>first|(obtain⟨_,e⟩:=h2;cases e;done)|(cases h2;done)|(cases h2;rfl)
 |ref _=>cases h1;cases y<;>first|(obtain⟨_,e⟩:=h2;cases e;done)|(cases h2;done)|(cases h2;rfl)
 |ty _=>cases h1;cases y<;>first|(obtain⟨_,e⟩:=h2;cases e;done)|(cases h2;done)|(cases h2;rfl)
 |_=>obtain⟨_,rfl⟩:=h1;cases y<;>first|(obtain⟨_,e⟩:=h2;cases e;done)|(cases h2;done)|(obtain⟨_,e⟩:=h2;cases e;rfl)
mutual
theorem sQ(I:Inv X pj O H s)(fh:Same F H):∀{t1 t2:T}{v:V},Rep X.K F t1 v->Rep X.K F t2 v->t1=t2
 |.non,t2,v,r1,r2=>by cases r1;cases t2<;>first|rfl|(obtain⟨_,_,e,_⟩:=r2;cases e)|cases r2
 |.bl b,t2,v,r1,r2=>by cases r1;cases t2<;>first|(cases r2;rfl)|(obtain⟨_,_,e,_⟩:=r2;cases e)|cases r2
 |.int b,t2,v,r1,r2=>by cases r1;cases t2<;>first|(cases r2;rfl)|(obtain⟨_,_,e,_⟩:=r2;cases e)|cases r2
 |.str b,t2,v,r1,r2=>by cases r1;cases t2<;>first|(cases r2;rfl)|(obtain⟨_,_,e,_⟩:=r2;cases e)|cases r2
 |.tup ts,t2,v,r1,r2=>by
  obtain⟨a,vs,rfl,h1,h2⟩:=r1;cases t2 with
  |tup us=>obtain⟨b,ws,e,h3,h4⟩:=r2;cases e;have:=I.tuple_inj (dC fh h1) (dC fh h3);subst this;rw[pZ I fh h2 h4]
  |lst us=>obtain⟨b,ws,e,h3,h4⟩:=r2;cases e;obtain⟨qc,_,p,_⟩:=I.tuple (dC fh h1);obtain⟨jts,_,p',_⟩:=I.list (Ls.same fh h3).sq;exact absurd (DG (s:=s) p p'.isList) id
  |dk _ _=>obtain⟨b,ws,e,h3,h4⟩:=r2;cases e;exact(sO I (.inl ⟨_,fh _ _ h3⟩) (dC fh h1)).elim
  |dt _ _=>obtain⟨b,ws,e,h3,h4⟩:=r2;cases e;exact(sO I (.inr ⟨_,fh _ _ h3⟩) (dC fh h1)).elim
  |_=>cases r2
 |.lst ts,t2,v,r1,r2=>by
  obtain⟨a,vs,rfl,h1,h2⟩:=r1;cases t2 with
  |lst us=>obtain⟨b,ws,e,h3,h4⟩:=r2;cases e;have:=I.list_inj (Ls.same fh h1).sq (Ls.same fh h3).sq;subst this;rw[pZ I fh h2 h4]
  |tup us=>obtain⟨b,ws,e,h3,h4⟩:=r2;cases e;obtain⟨qc,_,p,_⟩:=I.tuple (dC fh h3);obtain⟨jts,_,p',_⟩:=I.list (Ls.same fh h1).sq;exact absurd (DG (s:=s) p p'.isList) id
  |dk _ _=>obtain⟨b,ws,e,h3,h4⟩:=r2;cases e;exact(sP I (.inl ⟨_,fh _ _ h3⟩) (Ls.same fh h1)).elim
  |dt _ _=>obtain⟨b,ws,e,h3,h4⟩:=r2;cases e;exact(sP I (.inr ⟨_,fh _ _ h3⟩) (Ls.same fh h1)).elim
  |_=>cases r2
 |.dk ks ts,t2,v,r1,r2=>by
  obtain⟨a,ws,rfl,h1,h2,h2'⟩:=r1;cases t2 with
  |dk _ _=>obtain⟨b,zs,e,h3,h4,h4'⟩:=r2;cases e;rw[h1]at h3;cases h3;subst h2 h4;rw[pZ I fh h2' h4']
  |dt _ _=>obtain⟨b,zs,e,h3,_⟩:=r2;cases e;rw[h1]at h3;cases h3
  |tup _=>obtain⟨b,zs,e,h3,_⟩:=r2;cases e;exact(sO I (.inl ⟨_,fh _ _ h1⟩) (dC fh h3)).elim
  |lst _=>obtain⟨b,zs,e,h3,_⟩:=r2;cases e;exact(sP I (.inl ⟨_,fh _ _ h1⟩) (Ls.same fh h3)).elim
  |_=>cases r2
 |.dt ks ts,t2,v,r1,r2=>by
  obtain⟨a,ws,rfl,h1,h2,h2'⟩:=r1;cases t2 with
  |dt _ _=>obtain⟨b,zs,e,h3,h4,h4'⟩:=r2;cases e;rw[h1]at h3;cases h3;subst h2 h4;rw[pZ I fh h2' h4']
  |dk _ _=>obtain⟨b,zs,e,h3,_⟩:=r2;cases e;rw[h1]at h3;cases h3
  |tup _=>obtain⟨b,zs,e,h3,_⟩:=r2;cases e;exact(sO I (.inr ⟨_,fh _ _ h1⟩) (dC fh h3)).elim
  |lst _=>obtain⟨b,zs,e,h3,_⟩:=r2;cases e;exact(sP I (.inr ⟨_,fh _ _ h1⟩) (Ls.same fh h3)).elim
  |_=>cases r2
theorem pZ(I:Inv X pj O H s)(fh:Same F H):∀{ts us:List T}{vs:List V},aH X.K F ts vs->aH X.K F us vs->ts=us
 |[],us,vs,r1,r2=>by
  cases r1;cases us with
  |nil=>rfl
  |cons _ _=>obtain⟨_,_,e,_⟩:=r2;cases e
 |t::ts,us,vs,r1,r2=>by
  obtain⟨v,r,rfl,h1,h2⟩:=r1;cases us with
  |nil=>cases r2
  |cons u us=>obtain⟨_,_,e,h3,h4⟩:=r2;cases e;rw[sQ I fh h1 h3,pZ I fh h2 h4]
end
theorem sR(ih:∀(t1 t2:T)(x y:V)(v u:Value),dpP t1 t2<=n->Rep X.K F t1 x->Rep X.K F t2 y->aG x v->aG y u->SeqAt.EqAt A s v u (eqT t1 t2)){ws:List V}(hd:fM ts us<=n)(r1:aH X.K F ts vs)(r2:aH X.K F us ws)(v1:aJ vs qc)(v2:aJ ws jts):∀j(h1:j<qc.toArray.size)(h2:j<jts.toArray.size),SeqAt.EqAt A s qc.toArray[j] jts.toArray[j] (eqT (ts.getD j .non) (us.getD j .non)):=by
 intro j h1 h2;have l1:qc.length=ts.length:=by rw[<-v1.length,r1.length]
 have l2:jts.length=us.length:=by rw[<-v2.length,r2.length]
 have h1':j<ts.length:=by rw[cW]at h1;lia
 have h2':j<us.length:=by rw[cW]at h2;lia
 have e1:ts[j]?=some ts[j]:=dM h1';have e2:us[j]?=some us[j]:=dM h2';obtain⟨x,hx,rx⟩:=r1.get e1;obtain⟨y,hy,ry⟩:=r2.get e2;obtain⟨v,hv,rv⟩:=v1.get hx;obtain⟨u,hu,ru⟩:=v2.get hy;have g1:qc.toArray[j]=v:=by
  have:qc[j]?=some qc.toArray[j]:=by simp
  rw[hv]at this;exact(dU this).symm
 have g2:jts.toArray[j]=u:=by
  have:jts[j]?=some jts.toArray[j]:=by simp
  rw[hu]at this;exact(dU this).symm
 rw[g1,g2,iZ,iZ,e1,e2];exact ih _ _ x y v u (dY (DF e1 e2) hd) rx ry rv ru
def sU{ws:List V}(r1:aH X.K F ts vs)(r2:aH X.K F us ws)(v1:aJ vs qc)(v2:aJ ws jts):qc.toArray.size=ts.length/\jts.toArray.size=us.length:=by rw[cW,cW,<-v1.length,<-v2.length,r1.length,r2.length];exact⟨rfl,rfl⟩
theorem DH(h:ts.length=us.length):eO ts us=(List.range ts.length).all fun j=>eqT (ts.getD j .non) (us.getD j .non):=by rw[pY,h];simp
theorem DI(h:ts.length≠us.length):eO ts us=false:=by rw[pY,show(ts.length==us.length)=false by simpa using h,Bool.and_false]
theorem kind{P:T->Value->Prop}(I:Inv X pj O H s)(fh:Same F H){t:T}(r:Rep X.K F t x)(rx:aG x v)(h0:P .non .none)(h1:∀b,P (.bl b) (.bool b))(h2:∀i k,P (.int i) (.int i k))(h3:∀i k,P (.str i) (.str i k))(h4:∀ts a qc,s.heap.IsTuple a qc->P (.tup ts) (.ref a))(h5:∀ts a qc,s.heap.IsList a qc->P (.lst ts) (.ref a))(h6:isD t=true->P t v):P t v:=by
 cases t with
 |non=>cases r;cases rx;exact h0
 |bl b=>cases r;cases rx;exact h1 b
 |int i=>cases r;obtain⟨k,rfl⟩:=rx;exact h2 i k
 |str i=>cases r;obtain⟨k,rfl⟩:=rx;exact h3 i k
 |tup ts=>obtain⟨a,_,qc,_,rfl,_,_,_,p⟩:=mT I fh r rx;exact h4 ts a _ p
 |lst ts=>obtain⟨a,_,qc,_,rfl,_,_,_,p⟩:=oG I fh r rx;exact h5 ts a _ p
 |dk _ _=>exact h6 rfl
 |dt _ _=>exact h6 rfl
theorem QR(h:isD t2=true):fZ t1 t2=true:=by cases t2<;>first|(cases h;done)|(cases t1<;>rfl)
theorem QS(h:isD t1=true):fZ t1 t2=true:=by cases t1<;>first|(cases h;done)|rfl
def mix{Q:Value->Value->Bool->Prop}{g:Bool->Bool}(mnn:Q .none .none (g true))(mnb:∀(b:Bool),Q .none (.bool b) (g false))(mni:∀(b:Int)(b':Tok),Q .none (.int b b') (g false))(mns:∀(b:Str)(b':Tok),Q .none (.str b b') (g false))(mnt:∀{b:Addr}{b':Array Value},s.heap.IsTuple b b'->A.units<cLine->Q .none (.ref b) (g false))(mnl:∀{b:Addr}{b':Array Value},s.heap.IsList b b'->A.units<cLine->Q .none (.ref b) (g false))(mbn:∀(a:Bool),Q (.bool a) .none (g false))(mbb:∀(a:Bool)(b:Bool),Q (.bool a) (.bool b) (g (a==b)))(mbi:∀(a:Bool)(b:Int)(b':Tok),Q (.bool a) (.int b b') (g ((if a then 1 else 0)==b)))(mbs:∀(a:Bool)(b:Str)(b':Tok),Q (.bool a) (.str b b') (g false))(mbt:∀{b:Addr}{b':Array Value}(a:Bool),s.heap.IsTuple b b'->A.units<cLine->Q (.bool a) (.ref b) (g false))(mbl:∀{b:Addr}{b':Array Value}(a:Bool),s.heap.IsList b b'->A.units<cLine->Q (.bool a) (.ref b) (g false))(min:∀(a:Int)(a':Tok),Q (.int a a') .none (g false))(mib:∀(a:Int)(a':Tok)(b:Bool),Q (.int a a') (.bool b) (g (a==(if b then 1 else 0))))(mii:∀(a:Int)(a':Tok)(b:Int)(b':Tok),Q (.int a a') (.int b b') (g (a==b)))(mis:∀(a:Int)(a':Tok)(b:Str)(b':Tok),Q (.int a a') (.str b b') (g false))(mit:∀{b:Addr}{b':Array Value}(a:Int)(a':Tok),s.heap.IsTuple b b'->A.units<cLine->Q (.int a a') (.ref b) (g false))(mil:∀{b:Addr}{b':Array Value}(a:Int)(a':Tok),s.heap.IsList b b'->A.units<cLine->Q (.int a a') (.ref b) (g false))(msn:∀(a:Str)(a':Tok),Q (.str a a') .none (g false))(msb:∀(a:Str)(a':Tok)(b:Bool),Q (.str a a') (.bool b) (g false))(msi:∀(a:Str)(a':Tok)(b:Int)(b':Tok),Q (.str a a') (.int b b') (g false))(mss:∀(a:Str)(a':Tok)(b:Str)(b':Tok),Q (.str a a') (.str b b') (g (a==b)))(mst:∀{b:Addr}{b':Array Value}(a:Str)(a':Tok),s.heap.IsTuple b b'->A.units<cLine->Q (.str a a') (.ref b) (g false))(msl:∀{b:Addr}{b':Array Value}(a:Str)(a':Tok),s.heap.IsList b b'->A.units<cLine->Q (.str a a') (.ref b) (g false))(mtn:∀{a:Addr}{a':Array Value},s.heap.IsTuple a a'->A.units<cLine->Q (.ref a) .none (g false))(mtb:∀{a:Addr}{a':Array Value}(b:Bool),s.heap.IsTuple a a'->A.units<cLine->Q (.ref a) (.bool b) (g false))(mti:∀{a:Addr}{a':Array Value}(b:Int)(b':Tok),s.heap.IsTuple a a'->A.units<cLine->Q (.ref a) (.int b b') (g false))(mts:∀{a:Addr}{a':Array Value}(b:Str)(b':Tok),s.heap.IsTuple a a'->A.units<cLine->Q (.ref a) (.str b b') (g false))(mtl:∀{a:Addr}{a':Array Value}{b:Addr}{b':Array Value},s.heap.IsTuple a a'->s.heap.IsList b b'->A.units<cLine->Q (.ref a) (.ref b) (g false))(mln:∀{a:Addr}{a':Array Value},s.heap.IsList a a'->A.units<cLine->Q (.ref a) .none (g false))(mlb:∀{a:Addr}{a':Array Value}(b:Bool),s.heap.IsList a a'->A.units<cLine->Q (.ref a) (.bool b) (g false))(mli:∀{a:Addr}{a':Array Value}(b:Int)(b':Tok),s.heap.IsList a a'->A.units<cLine->Q (.ref a) (.int b b') (g false))(mls:∀{a:Addr}{a':Array Value}(b:Str)(b':Tok),s.heap.IsList a a'->A.units<cLine->Q (.ref a) (.str b b') (g false))(mlt:∀{a:Addr}{a':Array Value}{b:Addr}{b':Array Value},s.heap.IsList a a'->s.heap.IsTuple b b'->A.units<cLine->Q (.ref a) (.ref b) (g false))(I:Inv X pj O H s)(fh:Same F H){t1 t2:T}{x y:V}{v u:Value}(hu:A.units<cLine)(hne:fZ t1 t2≠true)(r1:Rep X.K F t1 x)(r2:Rep X.K F t2 y)(rx:aG x v)(ry:aG y u):Q v u (g (eqT t1 t2)):=by
 revert hne;have two:∀{t v},(fZ t .non≠true->Q v .none (g (eqT t .non)))->(∀b,fZ t (.bl b)≠true->Q v (.bool b) (g (eqT t (.bl b))))->(∀i k,fZ t (.int i)≠true->Q v (.int i k) (g (eqT t (.int i))))->(∀i k,fZ t (.str i)≠true->Q v (.str i k) (g (eqT t (.str i))))->
   (∀ts a qc,s.heap.IsTuple a qc->fZ t (.tup ts)≠true->Q v (.ref a) (g (eqT t (.tup ts))))->(∀ts a qc,s.heap.IsList a qc->fZ t (.lst ts)≠true->Q v (.ref a) (g (eqT t (.lst ts))))->fZ t t2≠true->Q v u (g (eqT t t2)) :=
  fun{t v}h0 h1 h2 h3 h4 h5=>kind (P:=fun w u=>fZ t w≠true->Q v u (g (eqT t w))) I fh r2 ry h0 h1 h2 h3 h4 h5 fun e z=>absurd (QR e) z
 refine kind (P:=fun t v=>fZ t t2≠true->Q v u (g (eqT t t2))) I fh r1 rx ?_ ?_ ?_ ?_ ?_ ?_ fun e z=>absurd (QS e) z
 .exact two (fun _=>mnn) (fun b' _=>mnb b') (fun i' k' _=>mni i' k') (fun i' k' _=>mns i' k') (fun _ _ _ p' _=>mnt p' hu) (fun _ _ _ p' _=>mnl p' hu)
 .intro b;exact two (fun _=>mbn b) (fun b' _=>mbb b b') (fun i' k' _=>mbi b i' k') (fun i' k' _=>mbs b i' k') (fun _ _ _ p' _=>mbt b p' hu) (fun _ _ _ p' _=>mbl b p' hu)
 .intro i k;exact two (fun _=>min i k) (fun b' _=>mib i k b') (fun i' k' _=>mii i k i' k') (fun i' k' _=>mis i k i' k') (fun _ _ _ p' _=>mit i k p' hu) (fun _ _ _ p' _=>mil i k p' hu)
 .intro i k;exact two (fun _=>msn i k) (fun b' _=>msb i k b') (fun i' k' _=>msi i k i' k') (fun i' k' _=>mss i k i' k') (fun _ _ _ p' _=>mst i k p' hu) (fun _ _ _ p' _=>msl i k p' hu)
 .intro _ _ _ p;exact two (fun _=>mtn p hu) (fun b' _=>mtb b' p hu) (fun i' k' _=>mti i' k' p hu) (fun i' k' _=>mts i' k' p hu) (fun _ _ _ _ z=>absurd rfl z) (fun _ _ _ p' _=>mtl p p' hu)
 .intro _ _ _ p;exact two (fun _=>mln p hu) (fun b' _=>mlb b' p hu) (fun i' k' _=>mli i' k' p hu) (fun i' k' _=>mls i' k' p hu) (fun _ _ _ p' _=>mlt p p' hu) (fun _ _ _ _ z=>absurd rfl z)
open SeqAt.EqAt in
def DJ(I:Inv X pj O H s)(fh:Same F H)(hu:A.units<cLine)(hne:fZ t1 t2≠true)(r1:Rep X.K F t1 x)(r2:Rep X.K F t2 y)(rx:aG x v)(ry:aG y u):SeqAt.EqAt A s v u (eqT t1 t2) :=
 mix (g:=id) (Q:=SeqAt.EqAt A s) (same .none) none_bool none_int none_str none_tuple none_list bool_none bool_bool bool_int bool_str bool_tuple bool_list int_none int_bool int_int int_str int_tuple int_list str_none str_bool str_int str_str str_tuple str_list tuple_none tuple_bool tuple_int tuple_str tuple_list list_none list_bool list_int list_str list_tuple I fh hu hne r1 r2 rx ry
open SeqAt.RcAt in
def QT(I:Inv X pj O H s)(fh:Same F H)(hu:A.units<cLine)(hne:fZ t1 t2≠true)(r1:Rep X.K F t1 x)(r2:Rep X.K F t2 y)(rx:aG x v)(ry:aG y u):SeqAt.RcAt A s v u (eqT t1 t2) :=
 mix (g:=id) (Q:=SeqAt.RcAt A s) none_none none_bool none_int none_str none_tuple none_list bool_none bool_bool bool_int bool_str bool_tuple bool_list int_none int_bool int_int int_str int_tuple int_list str_none str_bool str_int str_str str_tuple str_list tuple_none tuple_bool tuple_int tuple_str tuple_list list_none list_bool list_int list_str list_tuple I fh hu hne r1 r2 rx ry
open SeqAt.RcNeAt in
def QU(I:Inv X pj O H s)(fh:Same F H)(hu:A.units<cLine)(hne:fZ t1 t2≠true)(r1:Rep X.K F t1 x)(r2:Rep X.K F t2 y)(rx:aG x v)(ry:aG y u):SeqAt.RcNeAt A s v u (!eqT t1 t2) :=
 mix (g:=not) (Q:=SeqAt.RcNeAt A s) none_none none_bool none_int none_str none_tuple none_list bool_none bool_bool bool_int bool_str bool_tuple bool_list int_none int_bool int_int int_str int_tuple int_list str_none str_bool str_int str_str str_tuple str_list tuple_none tuple_bool tuple_int tuple_str tuple_list list_none list_bool list_int list_str list_tuple I fh hu hne r1 r2 rx ry
theorem DK(I:Inv X pj O H s)(fh:Same F H):∀(n:Nat)(A:Around)(t1 t2:T)(x y:V)(v u:Value),A.units+n<cLine->dpP t1 t2<=n->Rep X.K F t1 x->Rep X.K F t2 y->aG x v->aG y u->SeqAt.EqAt A s v u (eqT t1 t2):=by
 intro n
 induction n with
 |zero=>intro A t1 t2 x y v u hA hd r1 r2 rx ry;refine DJ I fh hA ?_ r1 r2 rx ry;intro h;have nd:=sM hd (by lia);cases t1<;>cases t2<;>first|(cases h;done)|(cases nd.1;done)|(cases nd.2;done)|(rw[dpP]at hd;lia)
 |succ n ih=>
  intro A t1 t2 x y v u hA hd r1 r2 rx ry;have hu:A.units<cLine:=by lia
  have ih':=fun(t1 t2:T)(x y:V)(v u:Value)h=>ih A.in1 t1 t2 x y v u (show A.units+1+n<cLine by lia) h;have nd:=sM hd (by have:cLine=9900:=rfl;lia);by_cases hb:fZ t1 t2=true
  .cases t1 with
   |tup ts=>
    cases t2 with
    |tup us=>
     rw[dpP]at hd;by_cases hs:v=u
     .subst hs;have e:x=y:=by obtain⟨_,_,rfl,_⟩:=r1;obtain⟨_,_,rfl,_⟩:=r2;cases rx;cases ry;rfl
      subst e;have e:=sQ I fh r1 r2;cases e;rw[wW _ (by rw[dpP];have:cLine=9900:=rfl;lia)];exact .same v
     .obtain⟨l1,vs1,its1,rfl,rfl,_,q1,w1,p1⟩:=mT I fh r1 rx;obtain⟨l2,vs2,its2,rfl,rfl,_,q2,w2,p2⟩:=mT I fh r2 ry;have h:=SeqAt.RcAt.tuples p1 p2 hu (sR (fun t1 t2 x y v u h a b c d=>ih' t1 t2 x y v u h a b c d) (Nat.le_of_succ_le_succ hd) q1 q2 w1 w2);obtain⟨z1,z2⟩:=sU q1 q2 w1 w2;rw[z1,z2,<-pY]at h;rw[eqT];exact .of_refs (fun e=>hs (by rw[e])) h
    |dk _ _=>cases nd.2
    |dt _ _=>cases nd.2
    |_=>cases hb
   |lst ts=>
    cases t2 with
    |lst us=>
     rw[dpP]at hd;by_cases hs:v=u
     .subst hs;have e:x=y:=by obtain⟨_,_,rfl,_⟩:=r1;obtain⟨_,_,rfl,_⟩:=r2;cases rx;cases ry;rfl
      subst e;have e:=sQ I fh r1 r2;cases e;rw[wW _ (by rw[dpP];have:cLine=9900:=rfl;lia)];exact .same v
     .obtain⟨l1,vs1,its1,rfl,rfl,_,q1,w1,p1⟩:=oG I fh r1 rx;obtain⟨l2,vs2,its2,rfl,rfl,_,q2,w2,p2⟩:=oG I fh r2 ry;obtain⟨z1,z2⟩:=sU q1 q2 w1 w2;rw[eqT];refine .of_refs (fun e=>hs (by rw[e])) ?_;by_cases hl:ts.length=us.length
      .have h:=SeqAt.RcAt.lists p1 p2 (by rw[z1,z2,hl]) hu (sR (fun t1 t2 x y v u h a b c d=>ih' t1 t2 x y v u h a b c d) (Nat.le_of_succ_le_succ hd) q1 q2 w1 w2);rw[z1]at h;rw[DH hl];exact h
      .rw[DI hl];exact SeqAt.RcAt.lists_lengths p1 p2 (by rw[z1,z2];simpa using hl) hu
    |dk _ _=>cases nd.2
    |dt _ _=>cases nd.2
    |_=>cases hb
   |dk _ _=>cases nd.1
   |dt _ _=>cases nd.1
   |_=>cases t2<;>first|(cases hb;done)|(cases nd.2;done)
  .exact DJ I fh hu hb r1 r2 rx ry
theorem DL(I:Inv X pj O H s)(fh:Same F H)(hA:A.units+n<cLine)(hd:dpP t1 t2<=n)(r1:Rep X.K F t1 x)(r2:Rep X.K F t2 y)(rx:aG x v)(ry:aG y u):SeqAt.RcAt A s v u (eqT t1 t2)/\SeqAt.RcNeAt A s v u (!eqT t1 t2):=by
 have hu:A.units<cLine:=by lia
 have nd:=sM hd (by have:cLine=9900:=rfl;lia);by_cases hb:fZ t1 t2=true
 .cases n with
  |zero=>exfalso;have nd:=sM hd (by lia);cases t1<;>cases t2<;>first|(cases hb;done)|(cases nd.1;done)|(cases nd.2;done)|(rw[dpP]at hd;lia)
  |succ n=>
   have ih':=fun(t1 t2:T)(x y:V)(v u:Value)h=>DK I fh n A.in1 t1 t2 x y v u (show A.units+1+n<cLine by lia) h;cases t1 with
   |tup ts=>
    cases t2 with
    |tup us=>rw[dpP]at hd;obtain⟨l1,vs1,its1,rfl,rfl,_,q1,w1,p1⟩:=mT I fh r1 rx;obtain⟨l2,vs2,its2,rfl,rfl,_,q2,w2,p2⟩:=mT I fh r2 ry;have pa:=sR (fun t1 t2 x y v u h a b c d=>ih' t1 t2 x y v u h a b c d) (Nat.le_of_succ_le_succ hd) q1 q2 w1 w2;have h:=SeqAt.RcAt.tuples p1 p2 hu pa;have g:=SeqAt.RcNeAt.tuples p1 p2 hu pa;obtain⟨z1,z2⟩:=sU q1 q2 w1 w2;rw[z1,z2,<-pY]at h g;rw[eqT];exact⟨h,g⟩
    |dk _ _=>cases nd.2
    |dt _ _=>cases nd.2
    |_=>cases hb
   |lst ts=>
    cases t2 with
    |lst us=>
     rw[dpP]at hd;obtain⟨l1,vs1,its1,rfl,rfl,_,q1,w1,p1⟩:=oG I fh r1 rx;obtain⟨l2,vs2,its2,rfl,rfl,_,q2,w2,p2⟩:=oG I fh r2 ry;obtain⟨z1,z2⟩:=sU q1 q2 w1 w2;rw[eqT];by_cases hl:ts.length=us.length
     .have pa:=sR (fun t1 t2 x y v u h a b c d=>ih' t1 t2 x y v u h a b c d) (Nat.le_of_succ_le_succ hd) q1 q2 w1 w2;have h:=SeqAt.RcAt.lists p1 p2 (by rw[z1,z2,hl]) hu pa;have g:=SeqAt.RcNeAt.lists p1 p2 (by rw[z1,z2,hl]) hu pa;rw[z1]at h g;rw[DH hl];exact⟨h,g⟩
     .rw[DI hl];exact⟨SeqAt.RcAt.lists_lengths p1 p2 (by rw[z1,z2];simpa using hl) hu,SeqAt.RcNeAt.lists_lengths p1 p2 (by rw[z1,z2];simpa using hl) hu⟩
    |dk _ _=>cases nd.2
    |dt _ _=>cases nd.2
    |_=>cases hb
   |dk _ _=>cases nd.1
   |dt _ _=>cases nd.1
   |_=>cases t2<;>first|(cases hb;done)|(cases nd.2;done)
 .exact⟨QT I fh hu hb r1 r2 rx ry,QU I fh hu hb r1 r2 rx ry⟩
end
end
section
open PySem PyProof.Rows L2
section
open PySem.SeqAt
open PySem.AutoSeq1 (wpAny_loadPart')
open PySem.MeetsSeq PySem.MeetsSeq2 PySem.MeetsSeq3
end
end
def sV(I:Inv X pj O H s)(h:Ls X.K H a xs):∃qc:List Value,aJ xs qc/\s.heap.IsList a qc.toArray/\xs.length<=sizeLine:=by have q:SqL X.K H a xs:=h.sq;obtain⟨qc,r,p,z⟩:=I.list q;exact⟨qc,r,p.isList,z⟩
theorem QV(hu:X.A.units+100<cLine):OpS X (compareOp .Eq) eqC:=by
 rintro pj s O H x y v u Q I rx ry⟨F,t1,t2,t,fh,r1,r2,ht,q⟩;simp only[eqC]at ht;split at ht
 .rename_i hd;cases ht;exact(DL I fh (n:=30) (by lia) hd r1 r2 rx ry).1 _ _ _ _ ⟨.bl _,H,I,rfl,q _ F H (Step.refl fh) rfl⟩
 .cases ht
theorem QW(hu:X.A.units+100<cLine):OpS X (compareOp .NotEq) neC:=by
 rintro pj s O H x y v u Q I rx ry⟨F,t1,t2,t,fh,r1,r2,ht,q⟩;simp only[neC]at ht;split at ht
 .rename_i hd;cases ht;exact(DL I fh (n:=30) (by lia) hd r1 r2 rx ry).2 _ _ _ _ ⟨.bl _,H,I,rfl,q _ F H (Step.refl fh) rfl⟩
 .cases ht
theorem wY{K:W.Frag}{F:Hp}{t:T}{v:V}{k:Kt}(r:Rep K F t v)(h:mK t=some k):v=kV k:=by cases t<;>first|(cases h;exact r)|cases h
theorem wZ{K:W.Frag}{F:Hp}:∀{ts:List T}{vs:List V}{ks:List Kt},aH K F ts vs->lM ts=some ks->vs=ks.map kV
 |[],_,_,r,h=>by cases r;cases h;rfl
 |t::ts,_,_,r,h=>by obtain⟨v,vr,rfl,r1,r2⟩:=r;obtain⟨k,h1,h⟩:=obs h;obtain⟨ks,h2,h⟩:=obs h;cases h;rw[wY r1 h1,wZ r2 h2];rfl
theorem QX(hu:X.A.units+100<cLine):OpS X (compareOp .Lt) ltC:=by
 rintro pj s O H x y v u Q I rx ry⟨F,t1,t2,t,fh,r1,r2,ht,q⟩;cases t1 with
 |int i=>
  cases t2 with
  |int j=>cases ht;cases r1;cases r2;exact MH pj s O H _ _ v u Q I rx ry ⟨_,_,rfl,rfl,q _ F H (Step.refl fh) rfl⟩
  |_=>cases ht
 |str i=>
  cases t2 with
  |str j=>cases ht;cases r1;cases r2;exact MJ pj s O H _ _ v u Q I rx ry ⟨_,_,rfl,rfl,q _ F H (Step.refl fh) rfl⟩
  |_=>cases ht
 |_=>cases ht
theorem QY:OpS X (compareOp .Gt) (bF .gt):=by rintro pj s O H x y v u Q I rx ry⟨F,t1,t2,t,fh,r1,r2,ht,q⟩;cases t1<;>cases t2<;>simp only[bF]at ht<;>cases ht;cases r1;cases r2;exact MI pj s O H _ _ v u Q I rx ry ⟨_,_,rfl,rfl,q _ F H (Step.refl fh) rfl⟩
theorem sW(I:Inv X pj O H s)(fh:Same F H)(hA:A.units+30<cLine)(r1:Rep X.K F t1 x)(rx:aG x v):∀{ts:List T}{vs:List V}{us:List Value},dpI t1 ts=true->aH X.K F ts vs->aJ vs us ->∃e:Value->Bool,(∀w∈us,SeqAt.EqAt A s w v (e w))/\us.map e=ts.map fun z=>eqT z t1:=by
 classical
 intro ts vs us hd r rv;have one:∀{ts:List T}{vs:List V}{us:List Value},dpI t1 ts=true->aH X.K F ts vs->aJ vs us->∀w∈us,∃t∈ts,SeqAt.EqAt A s w v (eqT t t1)/\∃y,Rep X.K F t y/\aG y w:=by
  intro ts
  induction ts with
  |nil=>intro vs us _ r rv w hw;cases r;cases rv;cases hw
  |cons t ts ih=>
   intro vs us hd r rv w hw;obtain⟨y,vr,rfl,r2,r3⟩:=r;cases rv with
   |cons a b=>
    unfold dpI at hd;rw[List.all_cons,dF,AE]at hd;rcases omc hw with rfl|hw
    .exact⟨t,fK,DK I fh 30 A _ _ _ _ _ _ hA hd.1 r2 r1 a rx,_,r2,a⟩
    .obtain⟨t',h1,h2⟩:=ih hd.2 r3 b w hw;exact⟨t',dH _ h1,h2⟩
 obtain⟨e,he⟩:∃e:Value->Bool,∀w t y,Rep X.K F t y->aG y w->e w=eqT t t1:=by refine⟨fun w=>if h:∃t,(∃y,Rep X.K F t y/\aG y w)then eqT (Classical.choose h) t1 else false,fun w t y h3 h4=>?_⟩;have h:∃t,(∃y,Rep X.K F t y/\aG y w):=⟨t,y,h3,h4⟩;obtain⟨y',h5,h6⟩:=Classical.choose_spec h;have e:y=y':=QQ h4 h6;subst e;simp only[dif_pos h];rw[<-sQ I fh h3 h5]
 refine⟨e,fun w hw=>?_,?_⟩
 .obtain⟨t,_,h2,y,h3,h4⟩:=one hd r rv w hw;rw[he w t y h3 h4];exact h2
 .clear one
  induction ts generalizing vs us with
  |nil=>cases r;cases rv;rfl
  |cons t ts ih=>
   obtain⟨y,vr,rfl,r2,r3⟩:=r;cases rv with
   |cons a b=>unfold dpI at hd;rw[List.all_cons,dF]at hd;rw[bE,bE,ih hd.2 r3 b,he _ t y r2 a]
theorem DM{pj:Pq}{O:L2.St}{H F:Hp}{s:Shared}(I:Inv X pj O H s)(fh:Same F H){A:Around}(hA:A.units+30<cLine){t1:T}{x:V}{v:Value}(r1:Rep X.K F t1 x)(rx:aG x v):∀{ts:List T}{vs:List V}{us:List Value},dpI t1 ts=true->aH X.K F ts vs->aJ vs us ->∃e:Value->Bool,(∀w∈us,SeqAt.EqAt A s w v (e w))/\us.any e=ts.any fun z=>eqT z t1:=by
 intro ts vs us hd r rv;obtain⟨e,e1,e2⟩:=sW I fh hA r1 rx hd r rv;refine⟨e,e1,?_⟩;have:=aP (fun l:List Bool=>l.any id) e2;simpa[List.any_map,Function.comp_def]using this
theorem DN(hu:X.A.units+100<cLine){pj:Pq}{O:L2.St}{H F:Hp}{s:Shared}{t1 t2:T}{x y:V}{v u:Value}{b:Bool}(I:Inv X pj O H s)(fh:Same F H)(r1:Rep X.K F t1 x)(r2:Rep X.K F t2 y)(rx:aG x v)(ry:aG y u)(h:inC t1 t2=some b)(hnk:∀ks us,t2≠.dk ks us){Q:Bool->Shared->Prop}(q:Q b s){Q2:Vq}:((∀b,Q b s->Q2 (.bool b) s)->wpAny (model X.prog X.w) X.A (compareOp .In v u) Q2 X.xe s)/\((∀b,Q b s->Q2 (.bool (!b)) s)->wpAny (model X.prog X.w) X.A (compareOp .NotIn v u) Q2 X.xe s):=by
 cases t2 with
 |tup ts=>
  simp only[inC]at h;split at h
  .rename_i hd;cases h;obtain⟨a,vs,qc,rfl,rfl,_,q1,w1,p1⟩:=mT I fh r2 ry;obtain⟨e,e1,e2⟩:=DM I fh (A:=X.A.in1) (show X.A.units+1+30<cLine by lia) r1 rx hd q1 w1;have e3:qc.toArray.any e=ts.any fun z=>eqT z t1:=by rw[<-e2];simp
   exact⟨fun k=>SeqAt.in_tupleAt e p1 (fun w hw=>e1 w (by simpa using hw)) (by rw[e3];exact k _ q),fun k=>SeqAt.notIn_tupleAt e p1 (fun w hw=>e1 w (by simpa using hw)) (by rw[e3];exact k _ q)⟩
  .cases h
 |lst ts=>
  simp only[inC]at h;split at h
  .rename_i hd;cases h;obtain⟨a,vs,qc,rfl,rfl,_,q1,w1,p1⟩:=oG I fh r2 ry;obtain⟨e,e1,e2⟩:=DM I fh (A:=X.A.in1) (show X.A.units+1+30<cLine by lia) r1 rx hd q1 w1;have e3:qc.toArray.any e=ts.any fun z=>eqT z t1:=by rw[<-e2];simp
   exact⟨fun k=>SeqAt.in_listAt e p1 (fun w hw=>e1 w (by simpa using hw)) (by rw[e3];exact k _ q),fun k=>SeqAt.notIn_listAt e p1 (fun w hw=>e1 w (by simpa using hw)) (by rw[e3];exact k _ q)⟩
  .cases h
 |dk ks us=>exact absurd rfl (hnk ks us)
 |_=>cases h
theorem DO{pj:Pq}{O:L2.St}{H F:Hp}{s:Shared}{t1:T}{ks:List Kt}{us:List T}{x y:V}{v u:Value}{b:Bool}(I:Inv X pj O H s)(fh:Same F H)(r1:Rep X.K F t1 x)(r2:Rep X.K F (.dk ks us) y)(rx:aG x v)(ry:aG y u)(h:inC t1 (.dk ks us)=some b):∃a z o,u=.ref a/\dR H a z o/\aG z v/\o.isSome=b:=by simp only[inC]at h;obtain⟨k,hk,rfl⟩:=oms h;obtain⟨a,ws,rfl,g1,g2,g3⟩:=r2;cases ry;subst g2;have eb:=wY r1 hk;subst eb;exact⟨a,kV k,hV ws k,rfl,dR.k (fh _ _ g1),rx,by rw[<-wT,List.any_map];rfl⟩
theorem QZ(hu:X.A.units+100<cLine):OpS X (compareOp .In) (bF .isin):=by
 rintro pj s O H x y v u Q I rx ry⟨F,t1,t2,t,fh,r1,r2,ht,q⟩;simp only[bF]at ht;obtain⟨b,hb,rfl⟩:=oms ht;by_cases hk:∃ks us,t2=.dk ks us
 .obtain⟨ks,us,rfl⟩:=hk;obtain⟨a,z,o,rfl,g,rz,e⟩:=DO I fh r1 r2 rx ry hb;exact d_in (by lia) I g rz fun s' I'=>⟨.bl o.isSome,H,I',rfl,by rw[e];exact q _ F H (Step.refl fh) rfl⟩
 exact(DN hu I fh r1 r2 rx ry hb (fun ks us e=>hk ⟨ks,us,e⟩) (Q:=fun b _=>Q (.bl b) H) (q _ F H (Step.refl fh) rfl)).1 fun b k=>⟨.bl b,H,I,rfl,k⟩
theorem RA(hu:X.A.units+100<cLine):OpS X (compareOp .NotIn) (bF .notin):=by
 rintro pj s O H x y v u Q I rx ry⟨F,t1,t2,t,fh,r1,r2,ht,q⟩;simp only[bF]at ht;obtain⟨b,hb,rfl⟩:=oms ht;by_cases hk:∃ks us,t2=.dk ks us
 .obtain⟨ks,us,rfl⟩:=hk;obtain⟨a,z,o,rfl,g,rz,e⟩:=DO I fh r1 r2 rx ry hb;exact QH (by lia) I g rz fun s' I'=>⟨.bl (!o.isSome),H,I',rfl,by rw[e];exact q _ F H (Step.refl fh) rfl⟩
 exact(DN hu I fh r1 r2 rx ry hb (fun ks us e=>hk ⟨ks,us,e⟩) (Q:=fun b _=>Q (.bl (!b)) H) (q _ F H (Step.refl fh) rfl)).2 fun b k=>⟨.bl (!b),H,I,rfl,k⟩
theorem RB:OpS X (compareOp .Is) (bF .isN):=by
 rintro pj s O H x y v u Q I rx ry⟨F,t1,t2,t,fh,r1,r2,ht,q⟩;have e2:t2=.non:=by cases t2<;>first|rfl|(cases t1<;>simp[bF]at ht)
 subst e2;cases r2;have e:t=.bl (decide (x=.non)):=by
  cases t1 with
  |non=>cases r1;cases ht;simp
  |bl _=>cases r1;cases ht;simp
  |int _=>cases r1;cases ht;simp
  |str _=>cases r1;cases ht;simp
  |tup _=>obtain⟨a,vs,rfl,_⟩:=r1;cases ht;simp
  |lst _=>obtain⟨a,vs,rfl,_⟩:=r1;cases ht;simp
  |dk _ _=>obtain⟨a,vs,rfl,_⟩:=r1;cases ht;simp
  |dt _ _=>obtain⟨a,vs,rfl,_⟩:=r1;cases ht;simp
 subst e;exact MK pj s O H _ _ v u Q I rx ry ⟨rfl,q _ F H (Step.refl fh) rfl⟩
theorem RC:OpS X (compareOp .IsNot) (bF .notN):=by
 rintro pj s O H x y v u Q I rx ry⟨F,t1,t2,t,fh,r1,r2,ht,q⟩;have e2:t2=.non:=by cases t2<;>first|rfl|(cases t1<;>simp[bF]at ht)
 subst e2;cases r2;have e:t=.bl (!decide (x=.non)):=by
  cases t1 with
  |non=>cases r1;cases ht;simp
  |bl _=>cases r1;cases ht;simp
  |int _=>cases r1;cases ht;simp
  |str _=>cases r1;cases ht;simp
  |tup _=>obtain⟨a,vs,rfl,_⟩:=r1;cases ht;simp
  |lst _=>obtain⟨a,vs,rfl,_⟩:=r1;cases ht;simp
  |dk _ _=>obtain⟨a,vs,rfl,_⟩:=r1;cases ht;simp
  |dt _ _=>obtain⟨a,vs,rfl,_⟩:=r1;cases ht;simp
 subst e;exact ML pj s O H _ _ v u Q I rx ry ⟨rfl,q _ F H (Step.refl fh) rfl⟩
theorem RD:OpS X (compareOp .IsNot) (bF .notF):=by
 rintro pj s O H x y v u Q I rx ry⟨F,t1,t2,t,fh,r1,r2,ht,q⟩;have e2:t2=.bl false:=by
  cases t2 with
  |bl b=>cases b<;>first|rfl|(cases t1<;>simp[bF]at ht)
  |_=>cases t1<;>simp[bF]at ht
 subst e2;cases r2;cases ry;cases t1 with
 |bl b=>cases r1;cases rx;cases ht;refine isnot_bool ⟨.bl b,H,I,?_,q _ F H (Step.refl fh) rfl⟩;cases b<;>rfl
 |non=>cases r1;cases rx;cases ht;exact aQ (a:=Value.bool (Value.none != Value.bool false)) ⟨.bl true,H,I,rfl,q _ F H (Step.refl fh) rfl⟩
 |_=>simp[bF]at ht
theorem xA(hu:X.A.units+100<cLine)(h:lR op e=some o):OpS X (compareOp op) (bF o)/\behindInMarks op e=false:=by
 cases op with
 |Eq=>cases h;exact⟨QV hu,mI _⟩
 |NotEq=>cases h;exact⟨QW hu,mI _⟩
 |Lt=>cases h;exact⟨QX hu,mI _⟩
 |LtE=>cases h
 |Gt=>cases h;exact⟨QY,mI _⟩
 |GtE=>cases h
 |Is=>
  simp only[lR]at h;split at h
  .cases h;exact⟨RB,mI _⟩
  .cases h
 |IsNot=>
  simp only[lR]at h;split at h
  .cases h;exact⟨RC,mI _⟩
  .split at h
   .cases h;exact⟨RD,mI _⟩
   .cases h
 |In=>
  simp only[lR]at h;split at h
  .cases h
  .rename_i hb;cases h;exact⟨QZ hu,by simpa using hb⟩
 |NotIn=>
  simp only[lR]at h;split at h
  .cases h
  .rename_i hb;cases h;exact⟨RA hu,by simpa using hb⟩
theorem RE(h:wI op=some o):OpS X (binaryOp op) (bO o):=by
 cases op<;>simp only[wI]at h<;>cases h
 .exact QA
 .exact QB
 .exact QD
 .exact QF
 .exact QE
section
variable {K:W.Frag}{rest:List Expr}
def rQ{F:Hp}{ts:List T}{vs:List V}{i:Int}{t:T}(r:aH K F ts vs)(h:cJ ts i=some t):∃v,atI vs i=some v/\Rep K F t v:=by unfold cJ at h;obtain⟨j,h1,h2⟩:=obs h;obtain⟨v,h3,h4⟩:=r.get h2;refine⟨v,?_,h4⟩;unfold atI;rw[r.length];exact fW.mpr ⟨j,h1,h3⟩
theorem RF{prog:Program}{w:World}{A:Around}{E:Vq}{s:Shared}{value slice:Expr}{o i:Value}{T id:String}{Q:Vq}(hl:typeLookup (.type T) "__getitem__"=pure (some (.builtin id)))(hs:subscripted slice false o i=operate [o,i] (getItem o i))(hT:s.TypeIs o T)(h:wpAny (model prog w) A (getItem o i) Q E s):wpAny (model prog w) A (subscriptTail value slice o i) Q E s:=by
 unfold subscriptTail;refine aF ?_;rw[getitemInPython_of_ne hT.not_modules];refine aF (wpAny_specialOf hT hl ?_);have fin:wpAny (model prog w) A (subscripted slice false o i) (fun r qz=>wpAny (model prog w) A (letTemporaryGo value o r >>= fun _=>pure r) Q E qz) E s:=by rw[hs];exact wpAny_operating (gK h (fun r qz h₃=>aF (wpAny_letTemporaryGo (aQ h₃))) fun _ _ x=>x)
 first
  |exact aQ (aF fin)
  |exact aF (aQ (aF fin))
  |exact aF fin
theorem DP{κ:Type}[DecidableEq κ]{K:W.Frag}{F:Hp}:∀{ws:List (κ×V)}{ts:List T}{k:κ}{t:T},aH K F ts (ws.map (·.2))->mL (ws.map (·.1)) ts k=some t->∃v,hV ws k=some v/\Rep K F t v
 |[],_,_,_,_,h=>by simp[mL]at h
 |p::ws,[],_,_,r,_=>by cases r
 |p::ws,u::ts,k,t,r,h=>by
  obtain⟨v,vr,e,r1,r2⟩:=r;rw[bE]at e;injection e with e1 e2;rw[bE,mL]at h;by_cases hk:p.1=k
  .rw[if_pos hk]at h;cases h;exact⟨p.2,sJ hk,by rw[e1];exact r1⟩
  .rw[if_neg hk]at h;rw[sK hk];exact DP (by rw[e2];exact r2) h
theorem ixs(hu:X.A.units+1<cLine):IxR X (fun x y H Q=>∃F t1 t2 t,Same F H/\Rep X.K F t1 x/\Rep X.K F t2 y/\aK t1 t2=some t/\∀v F' H',Step F H F' H'->Rep X.K F' t v->Q v H'):=by
 intro value slice pj s O H x y v u Q I rx ry h hs;obtain⟨F,t1,t2,t,fh,r1,r2,ht,q⟩:=h;cases t1 with
 |tup ts=>
  cases t2 with
  |int i=>cases r2;obtain⟨p,vs,rfl,h1,h2⟩:=r1;obtain⟨w,h3,h4⟩:=rQ h2 ht;exact NK value slice pj s O H _ _ v u Q I rx ry ⟨p,vs,i,w,rfl,rfl,dC fh h1,h3,q _ F H (Step.refl fh) h4⟩ hs
  |_=>cases ht
 |lst ts=>
  cases t2 with
  |int i=>cases r2;obtain⟨p,vs,rfl,h1,h2⟩:=r1;obtain⟨w,h3,h4⟩:=rQ h2 ht;exact NJ value slice pj s O H _ _ v u Q I rx ry ⟨p,vs,i,w,rfl,rfl,(Ls.same fh h1).sq,h3,q _ F H (Step.refl fh) h4⟩ hs
  |_=>cases ht
 |dt ks us=>
  cases t2 with
  |tup xs=>
   obtain⟨k,h1,h2⟩:=obs ht;obtain⟨a,ws,rfl,g1,g2,g3⟩:=r1;obtain⟨b,vs,rfl,g4,g5⟩:=r2;cases rx;cases ry;subst g2;obtain⟨w,w1,w2⟩:=DP g3 h2;have eb:=wZ g5 h1;subst eb;have g:dR H a (.ref b) (some w):=by rw[<-w1];exact dR.t (fh _ _ g1) (fh _ _ g4)
   exact RF PySem.F.slot_dict_getitem.lookup hs (QK I g) (QG hu I g rfl fun w' s3 I3 rw'=>⟨w,H,I3,rw',q _ F H (Step.refl fh) w2⟩)
  |_=>cases ht
 |_=>cases t2<;>cases ht
def RG(hu:X.A.units+1<cLine)(ha:Oke X c a f)(hb:Oke X c b g)(hs:vO b):Oke X c (.Subscript a b pos) (fun r=>(f r).bind fun x=>(g r).bind fun y=>aK x y):=by refine fH (NI (ixs hu) ha hb hs) fun O H Q q=>?_;obtain⟨r,F,t,e,ht,q⟩:=q;obtain⟨t1,e1,ht⟩:=obs ht;obtain⟨t2,e2,ht⟩:=obs ht;refine⟨r,F,t1,e,e1,fun v1 F1 H1 s1 r1=>⟨r,F1,t2,e.step s1,e2,fun v2 F2 H2 s2 r2=>?_⟩⟩;exact⟨F2,t1,t2,t,s2.fh,r1.mono s2.ff,r2,ht,fun v F' H' s3 r3=>q v F' H' (s1.trans (s2.trans s3)) r3⟩
theorem xB{F:Hp}(r:aH K F ts vs)(lo hi:a0 Int):aH K F (cut ts lo hi) (jO vs lo hi):=by
 unfold cut jO;have e:∀(n d:Nat)(o:a0 Int),HT.sIx n d o=gZ n d o:=fun n d o=>by cases o<;>rfl
 rw[e,e,r.length];exact(r.drop _).take _
theorem sls:SlR X (fun x lo hi H Q=>∃F t1 t,Same F H/\Rep X.K F t1 x/\fN t1 lo hi=some t/\∀v F' H',Step F H F' H'->Rep X.K F' t v->Q v H'):=by
 rintro pj s O H x v vl vu lo hi sl Q I rx hs pl pu⟨F,t1,t,fh,r1,ht,q⟩;cases t1 with
 |tup ts=>
  simp only[fN]at ht;cases ht;obtain⟨p,vs,rfl,h1,h2⟩:=r1;have e:∀(n d:Nat)(o:a0 Int),HT.sIx n d o=gZ n d o:=fun n d o=>by cases o<;>rfl
  by_cases hw:gZ ts.length 0 lo=0/\gZ ts.length ts.length hi=ts.length
  .refine PU pj s O H _ v vl vu lo hi sl Q I rx hs pl pu ⟨p,vs,rfl,dC fh h1,by rw[e,e,h2.length];exact hw,?_⟩;have ec:cut ts lo hi=ts:=by unfold cut;rw[hw.1,hw.2];simp
   exact q _ F H (Step.refl fh) ⟨p,vs,rfl,h1,by rw[ec];exact h2⟩
  .refine NH pj s O H _ v vl vu lo hi sl Q I rx hs pl pu ⟨p,vs,rfl,dC fh h1,by rw[e,e,h2.length];exact hw,fun p' hp=>?_⟩;have st:=(Step.refl fh).new (o:=.tup (jO vs lo hi)) hp;exact q _ _ _ st ⟨p',_,rfl,bN,(xB h2 lo hi).mono st.ff⟩
 |lst ts=>simp only[fN]at ht;cases ht;obtain⟨p,vs,rfl,h1,h2⟩:=r1;refine BK pj s O H _ v vl vu lo hi sl Q I rx hs pl pu ⟨p,vs,rfl,(Ls.same fh h1).sq,fun p' hp=>?_⟩;have st:=(Step.refl fh).new (o:=.lst (jO vs lo hi)) hp;exact q _ _ _ st ⟨p',_,rfl,Ls.of bN,(xB h2 lo hi).mono st.ff⟩
 |_=>simp[fN]at ht
def spO(X:Cx)(c:Tc)(f:Env->a0 (a0 T)):TO:=fun O H Q=>∃r F o,EnvE X c r F O H/\(f r).bind asI=some o/\∀F' H',Step F H F' H'->Q o H'
def DQ(h:PO X e t)(m:∀O H Q,t' O H Q->t O H Q):PO X e t':=fun pj s O H Q I q=>h pj s O H Q I (m O H Q q)
theorem RH:PO X none (spO X c fun _=>some none):=by refine DQ NF fun O H Q q=>?_;obtain⟨r,F,o,e,ht,q⟩:=q;cases ht;exact q F H (Step.refl e.fh)
theorem RI(h:Oke X c a f):PO X (some a) (spO X c fun r=>(f r).map some):=by
 refine DQ (NG h) fun O H Q q=>?_;obtain⟨r,F,o,e,ht,q⟩:=q;obtain⟨o',e1,ht⟩:=obs ht;obtain⟨t,e2,rfl⟩:=oms e1;refine⟨r,F,t,e,e2,fun v F' H' s1 r1=>?_⟩;cases t with
 |int i=>cases ht;cases r1;exact⟨i,rfl,q F' H' s1⟩
 |_=>cases ht
def RJ{lo hi:a0 Expr}{f:Env->a0 T}{g h:Env->a0 (a0 T)}(ha:Oke X c a f)(hl:PO X lo (spO X c g))(hh:PO X hi (spO X c h)):Oke X c (.Subscript a (.Slice lo hi none p2) pos) (fun r=>(f r).bind fun x=>(g r).bind fun l=>(h r).bind fun u=>(asI l).bind fun l'=>(asI u).bind fun u'=>fN x l' u'):=by
 refine fH (BF sls ha hl hh) fun O H Q q=>?_;obtain⟨r,F,t,e,ht,q⟩:=q;obtain⟨t1,e1,ht⟩:=obs ht;obtain⟨l,e2,ht⟩:=obs ht;obtain⟨u,e3,ht⟩:=obs ht;obtain⟨l',e4,ht⟩:=obs ht;obtain⟨u',e5,ht⟩:=obs ht;refine⟨r,F,t1,e,e1,fun v1 F1 H1 s1 r1=>⟨r,F1,l',e.step s1,fW.mpr ⟨l,e2,e4⟩,fun F2 H2 s2=>⟨r,F2,u',e.step (s1.trans s2),fW.mpr ⟨u,e3,e5⟩,fun F3 H3 s3=>?_⟩⟩⟩;exact⟨F3,t1,t,s3.fh,r1.mono (s2.trans s3).ff,ht,fun v F' H' s4 r4=>q v F' H' (s1.trans (s2.trans (s3.trans s4))) r4⟩
theorem RK(h:PE X a (tC v))(r:∀F,Rep X.K F t v):Oke X c a (fun _=>some t):=by refine fH h fun O H Q q=>?_;obtain⟨r',F,t',e,ht,q⟩:=q;cases ht;exact q v F H (Step.refl e.fh) (r F)
theorem RL(gd:Gd X c G k)(hp:bX x=true)(hv:cX c.sc x=true)(hi:cI c.nm x=some i):Oke X c (.Name x pos) (fun r=>(r[i]?).join):=by
 have hpn:=hp;simp only[bX,Bool.and_eq_true,Bool.not_eq_true']at hp;rintro pj s O H Q I⟨r,F,t,e,ht,q⟩;have ht:(r[i]?).join=some t:=ht;have ht':r[i]?=some (some t):=by
  cases h:r[i]? with
  |none=>rw[h]at ht;cases ht
  |some o=>rw[h]at ht;cases o with
   |none=>cases ht
   |some z=>cases ht;rfl
 obtain⟨j,v,h1,h2,h3⟩:=e.get x i t hpn hi hv ht';exact kI h1 (gd.vis x hv) hp.1.1.1 hp.1.1.2 pj s O H Q I ⟨v,h2,q v F H (Step.refl e.fh) h3⟩
theorem RM(ha:Oke X c a f):Oke X c (.UnaryOp .Not a pos) (fun r=>(f r).bind fun x=>match x with|.bl b=>some (.bl (!b))|_=>none):=by
 refine fH (LF ha) fun O H Q q=>?_;obtain⟨r,F,t,e,ht,q⟩:=q;obtain⟨t1,e1,ht⟩:=obs ht;cases t1 with
 |bl b=>cases ht;exact⟨r,F,_,e,e1,fun v F' H' s1 r1=>by cases r1;exact⟨b,rfl,q _ F' H' s1 rfl⟩⟩
 |_=>cases ht
theorem RN(ha:Oke X c a f):Oke X c (.UnaryOp .USub a pos) (fun r=>(f r).bind fun x=>match x with|.int i=>some (.int (-i))|_=>none):=by
 refine fH (AQ AR ha) fun O H Q q=>?_;obtain⟨r,F,t,e,ht,q⟩:=q;obtain⟨t1,e1,ht⟩:=obs ht;cases t1 with
 |int b=>cases ht;exact⟨r,F,_,e,e1,fun v F' H' s1 r1=>by cases r1;exact⟨b,rfl,q _ F' H' s1 rfl⟩⟩
 |_=>cases ht
theorem RO{f g:Env->a0 T}(ha:Oke X c a f)(hb:Oke X c (.BoolOp .And (b::rest) pos) g):Oke X c (.BoolOp .And (a::b::rest) pos) (fun r=>(f r).bind fun x=>match x with|.bl true=>g r|.bl false=>some (.bl false)|_=>none):=by
 refine fH (LD ha hb) fun O H Q q=>?_;obtain⟨r,F,t,e,ht,q⟩:=q;obtain⟨t1,e1,ht⟩:=obs ht;cases t1 with
 |bl d=>
  refine⟨r,F,_,e,e1,fun v F' H' s1 r1=>?_⟩;cases r1;cases d with
  |true=>exact⟨true,rfl,pG ⟨r,F',t,e.step s1,ht,fun v2 F2 H2 s2 r2=>q v2 F2 H2 (s1.trans s2) r2⟩⟩
  |false=>cases ht;exact⟨false,rfl,pF (q _ F' H' s1 rfl)⟩
 |_=>cases ht
theorem RP{f g:Env->a0 T}(ha:Oke X c a f)(hb:Oke X c (.BoolOp .Or (b::rest) pos) g):Oke X c (.BoolOp .Or (a::b::rest) pos) (fun r=>(f r).bind fun x=>match x with|.bl true=>some (.bl true)|.bl false=>g r|_=>none):=by
 refine fH (LE ha hb) fun O H Q q=>?_;obtain⟨r,F,t,e,ht,q⟩:=q;obtain⟨t1,e1,ht⟩:=obs ht;cases t1 with
 |bl d=>
  refine⟨r,F,_,e,e1,fun v F' H' s1 r1=>?_⟩;cases r1;cases d with
  |true=>cases ht;exact⟨true,rfl,pG (q _ F' H' s1 rfl)⟩
  |false=>exact⟨false,rfl,pF ⟨r,F',t,e.step s1,ht,fun v2 F2 H2 s2 r2=>q v2 F2 H2 (s1.trans s2) r2⟩⟩
 |_=>cases ht
abbrev Okw(X:Cx)(c:Tc)(e:Expr)(f:Env->a0 T):Prop:=PW X e (spB X c f)
theorem RQ{f g:Env->a0 T}(ha:Okt X c a f)(hb:Okw X c (.BoolOp .And (b::rest) pos) g):Okw X c (.BoolOp .And (a::b::rest) pos) (fun r=>(f r).bind fun x=>match x with|.bl true=>g r|.bl false=>some (.bl false)|_=>none):=by
 refine CW (vF ha hb) fun O H Q q=>?_;obtain⟨r,F,k,e,ht,q⟩:=q;obtain⟨t1,e1,ht⟩:=obs ht;cases t1 with
 |bl d=>
  refine⟨r,F,d,e,e1,fun F' H' s1=>?_⟩;cases d with
  |true=>exact pG ⟨r,F',k,e.step s1,ht,fun F2 H2 s2=>q F2 H2 (s1.trans s2)⟩
  |false=>cases ht;exact pF (q F' H' s1)
 |_=>cases ht
theorem RR{f g:Env->a0 T}(ha:Okt X c a f)(hb:Okw X c (.BoolOp .Or (b::rest) pos) g):Okw X c (.BoolOp .Or (a::b::rest) pos) (fun r=>(f r).bind fun x=>match x with|.bl true=>some (.bl true)|.bl false=>g r|_=>none):=by
 refine CW (KZ ha hb) fun O H Q q=>?_;obtain⟨r,F,k,e,ht,q⟩:=q;obtain⟨t1,e1,ht⟩:=obs ht;cases t1 with
 |bl d=>
  refine⟨r,F,d,e,e1,fun F' H' s1=>?_⟩;cases d with
  |true=>cases ht;exact pG (q F' H' s1)
  |false=>exact pF ⟨r,F',k,e.step s1,ht,fun F2 H2 s2=>q F2 H2 (s1.trans s2)⟩
 |_=>cases ht
theorem RS(ha:Okt X c a f):Okt X c (.UnaryOp .Not a pos) (fun r=>(f r).bind fun x=>match x with|.bl b=>some (.bl (!b))|_=>none):=by
 refine wR (AK ha) fun O H Q q=>?_;obtain⟨r,F,k,e,ht,q⟩:=q;obtain⟨t1,e1,ht⟩:=obs ht;cases t1 with
 |bl d=>refine⟨r,F,d,e,e1,fun F' H' s1=>?_⟩;cases ht;exact q F' H' s1
 |_=>cases ht
theorem RT{F H:Hp}{t:T}{v:V}{b:Bool}(fh:Same F H)(r:Rep K F t v)(h:iD t=some b):vL K v H b:=by
 cases t with
 |non=>cases r;cases h;rfl
 |bl _=>cases r;cases h;rfl
 |int _=>cases r;cases h;rfl
 |str _=>cases h
 |tup ts=>obtain⟨p,vs,rfl,h1,h2⟩:=r;cases h;refine .inr (.inl ⟨vs,dC fh h1,?_⟩);have e:=h2.length;cases vs<;>cases ts<;>first|rfl|simp at e
 |lst ts=>obtain⟨p,vs,rfl,h1,h2⟩:=r;cases h;refine .inl ⟨vs,(Ls.same fh h1).sq,?_⟩;have e:=h2.length;cases vs<;>cases ts<;>first|rfl|simp at e
 |dk _ _=>cases h
 |dt _ _=>cases h
theorem RU(ha:Oke X c a f)(he:∀whole,isTrue a X.env whole=(do let v <-whole;standAt a.pos;holding [v] (truthy v))):Okt X c a (fun r=>(f r).bind fun x=>(iD x).map .bl):=by refine wR (MQ ha he) fun O H Q q=>?_;obtain⟨r,F,k,e,ht,q⟩:=q;obtain⟨t1,e1,ht⟩:=obs ht;obtain⟨b,e2,h2⟩:=oms ht;cases h2;exact⟨r,F,t1,e,e1,fun v F' H' s1 r1=>⟨k,RT s1.fh r1 e2,q F' H' s1⟩⟩
def xC(h:PA X es t)(m:∀O H Q,t' O H Q->t O H Q):PA X es t':=fun p pj s O H Q I q=>h p pj s O H Q I (m O H Q q)
theorem DR:PA X [] (spL X c fun _=>some []):=by refine xC gE fun O H Q q=>?_;obtain⟨r,F,ts,e,ht,q⟩:=q;cases ht;exact q [] F H (Step.refl e.fh) rfl
theorem xD(ha:Oke X c a f)(hr:PA X es (spL X c g))(hs:starEach (a::es) X.env=(false,eval a X.env)::starEach es X.env):PA X (a::es) (spL X c fun r=>(f r).bind fun x=>(g r).bind fun xs=>some (x::xs)):=by refine xC (cU ha hr hs) fun O H Q q=>?_;obtain⟨r,F,ts,e,ht,q⟩:=q;obtain⟨t1,e1,ht⟩:=obs ht;obtain⟨t2,e2,ht⟩:=obs ht;cases ht;exact⟨r,F,t1,e,e1,fun v1 F1 H1 s1 r1=>⟨r,F1,t2,e.step s1,e2,fun vs F2 H2 s2 r2=>q _ F2 H2 (s1.trans s2) ⟨v1,vs,rfl,r1.mono s2.ff,r2⟩⟩⟩
theorem RV(h:PA X es (spL X c g))(hl:∀r ts,g r=some ts->ts.length=n):Oke X c (.Tuple es k pos) (fun r=>if n<=1000 then(g r).map .tup else none):=by
 refine fH (rM h) fun O H Q q=>?_;obtain⟨r,F,t,e,ht,q⟩:=q;split at ht
 .rename_i hn;obtain⟨ts,e1,rfl⟩:=oms ht;refine⟨r,F,ts,e,e1,fun vs F' H' s1 r1=>⟨by rw[r1.length,hl r ts e1];exact Nat.le_of_lt (BS hn),fun p hp=>?_⟩⟩;have st:=s1.new (o:=.tup vs) hp;exact q _ _ _ st ⟨p,vs,rfl,bN,r1.mono (iN (s1.fh.free hp))⟩
 .cases ht
def spN(X:Cx)(c:Tc)(f:Env->a0 T):TE:=fun O H Q=>∃r F ts,EnvE X c r F O H/\f r=some (.lst ts)/\∀p vs F' H1,Step F H F' H1->H1 p=none->aH X.K F' ts vs->Q (.ref p) (aL H1 p (.lst vs))
theorem DS(h:PA X es (spL X c g))(hl:∀r ts,g r=some ts->ts.length=n):PE X (.List es pos) (spN X c (fun r=>if n<=1000 then(g r).map .lst else none)):=by
 refine fH (vN h) fun O H Q q=>?_;obtain⟨r,F,t,e,ht,q⟩:=q;split at ht
 .rename_i hn;obtain⟨ts,e1,e2⟩:=oms ht;cases e2;exact⟨r,F,t,e,e1,fun vs F' H' s1 r1=>⟨by rw[r1.length,hl r t e1];exact Nat.le_of_lt (BS hn),fun p hp=>q p vs F' H' s1 hp r1⟩⟩
 .cases ht
theorem RW(h:PA X es (spL X c g))(hl:∀r ts,g r=some ts->ts.length=n):Oke X c (.List es pos) (fun r=>if n<=1000 then(g r).map .lst else none):=by
 refine fH (DS h hl) fun O H Q q=>?_;obtain⟨r,F,t,e,ht,q⟩:=q;have ht':=ht;split at ht
 .obtain⟨ts,e1,rfl⟩:=oms ht;refine⟨r,F,ts,e,ht',fun p vs F' H' s1 hp r1=>?_⟩;exact q _ _ _ (s1.new hp) ⟨p,vs,rfl,Ls.of bN,r1.mono (iN (s1.fh.free hp))⟩
 .cases ht
theorem RX(gd:Gd X c G k)(hg:glB c.sc f=true)(hp:bX f=true)(h:PA X (a::es) (spL X c g))(he:starEach (a::es) X.env=(false,eval a X.env)::starEach es X.env)(hpl:(backTo pos (starEach es X.env)).any (·.1)=false):Oke X c (.Call (.Name f p) (a::es) [] pos) (fun r=>(g r).bind fun xs=>G.call f xs):=by
 simp only[bX,Bool.and_eq_true,Bool.not_eq_true']at hp;rintro pj s O H Q I⟨r,F,t,e,ht,q⟩;obtain⟨ts,e1,ht⟩:=obs ht;obtain⟨ad,fd,ps,h1,h2,h3,h4⟩:=gd.call f ts t (by rw[lS,hp.2.2.1,hp.2.2.2];rfl) ht;refine AV h1 gd.room (gd.gl f hg) h2 h3 h4 .nil BR h hp.1.1.1 he hpl pj s O H Q I ?_;refine⟨r,F,ts,e,e1,fun vs F' H' s1 r1=>?_⟩;show spT X.K (G.call f) (vs++[]) H' Q E0;rw[gI];exact⟨F',ts,t,s1.fh,e.tb.up s1,r1,ht,fun v F2 H2 s2 r2=>q v F2 H2 (s1.trans s2) r2⟩
end
end Ev
namespace L2
open PySem
section
open PySem.AutoSeq1 (wpAny_loadPart')
theorem RY(hit:s.heap.IsTupleIter it l i)(hl:s.heap.IsTuple l items)(hx:items[i]?=some x)(hQ:∀h',h'.IsTupleIter it l (i+1)->Heap.SameBut it s.heap h'->Q x {s with heap:=h'}):wpAny (model prog w) A (Builtin.SmallTypes.nextOf (.ref it)) Q E s:=by
 obtain⟨o,ho,hc,hd⟩:=id hit;obtain⟨ol,hol,_,nl,hdl⟩:=hl;unfold Builtin.SmallTypes.nextOf;refine aF (lJ (name:=Str.ofString "__next__") hit.typeIs F.slot_tuple_iterator_next
  (jN F.slot_tuple_iterator_next hit.typeIs F.entry_tuple_iterator_next ?_ (F.args_tuple_iterator_next_1 _)))
 show wpAny _ _ (field (.ref it) 0 >>= _) _ _ s;refine aF (eM ho hd (x:=.ref l) rfl ?_);show wpAny _ _ (if(Value.ref l==Value.none)=true then _ else _) _ _ s;rw[if_neg (show ¬((Value.ref l==Value.none)=true)from dW)];show wpAny _ _ (field (.ref it) 1 >>= _) _ _ s;refine aF (eM ho hd (x:=.int i 0) rfl ?_);show wpAny _ _ (seqItems? (.ref l) >>= _) _ _ s;refine aF (lI hol hdl ?_);simp only[Int.toNat_natCast,hx];refine wpAny_bind (wpAny_setField ho hd (by simp) (wpAny_pure ⟨x,rfl,wpAny_pure (hQ _ ?_ (qX ..))⟩));exact⟨_,Heap.get?_update_self _ ho (Obj.isFreed_of_fields (jJ hd _)),(Obj.cls_mapFields ..).trans hc,by rw[jJ hd];simp[rawInt]⟩
theorem RZ(hh:A.handled=none)(hit:s.heap.IsTupleIter it l i)(hl:s.heap.IsTuple l items)(hx:items[i]?=none)(hE:∀h' e,Heap.ExtBut it s.heap h'->(∃o,h'.get? e=some o/\o.cls=.type "StopIteration")->E (.ref e) {s with heap:=h'}):wpAny (model prog w) A (Builtin.SmallTypes.nextOf (.ref it)) Q E s:=by
 obtain⟨o,ho,hc,hd⟩:=id hit;obtain⟨ol,hol,_,nl,hdl⟩:=hl;unfold Builtin.SmallTypes.nextOf;refine aF (lJ (name:=Str.ofString "__next__") hit.typeIs F.slot_tuple_iterator_next
  (jN F.slot_tuple_iterator_next hit.typeIs F.entry_tuple_iterator_next ?_ (F.args_tuple_iterator_next_1 _)))
 show wpAny _ _ (field (.ref it) 0 >>= _) _ _ s;refine aF (eM ho hd (x:=.ref l) rfl ?_);show wpAny _ _ (if(Value.ref l==Value.none)=true then _ else _) _ _ s;rw[if_neg (show ¬((Value.ref l==Value.none)=true)from dW)];show wpAny _ _ (field (.ref it) 1 >>= _) _ _ s;refine aF (eM ho hd (x:=.int i 0) rfl ?_);show wpAny _ _ (seqItems? (.ref l) >>= _) _ _ s;refine aF (lI hol hdl ?_);simp only[Int.toNat_natCast,hx]
 first
  |refine wpAny_bind (wpAny_rule (wpAny_bind (wpAny_setField ho hd (by simp) (wpAny_bind (wpAny_letGo ?_)))))
  |refine wpAny_bind (wpAny_rule (wpAny_bind (wpAny_setField ho hd (by simp) ?_)))
 show wpAny _ _ (newExc (.type "StopIteration") [] >>= _) _ _ _;refine aF ?_;simp only[newExc,newTuple];refine aF (jM ?_ (by size_fits));refine wpAny_bind (m:=firstArgMember _ _) (wpAny_of_eq (a:=Value.none) (by first|rfl|(simp only[firstArgMember];rfl)) ?_);refine jM ?_ (by size_fits);simp only[raiseNew];refine aF (wpAny_handled ?_)
 first|rw[show A.in1.handled=none from hh]|rw[hh]
 refine aF (aQ (wpAny_throw ?_));exact hE _ _ (((qX ..).extBut.push _).push _) ⟨_,cQ _ rfl,rfl⟩
theorem SA(hh:A.handled=none)(it l:Addr)(hne:l≠it)(items:Array Value):Draws prog w A it [it,l] items.size (fun i v=>items[i]?=some v) (fun i h=>h.IsTupleIter it l i/\h.IsTuple l items) where
 live:=fun _ _ st=>let⟨o,ho,_⟩:=st.1;⟨o,ho⟩
 frame:=fun _ _ _ st hk=>⟨let⟨o,ho,r⟩:=st.1;⟨o,hk it (by simp) o ho,r⟩,let⟨o,ho,r⟩:=st.2;⟨o,hk l (by simp) o ho,r⟩⟩
 item:=fun i s Q E hi st hQ=>by refine RY st.1 st.2 (x:=items[i]) (by simp[hi]) fun h' hit' hs'=>?_;exact hQ _ h' s.toks (by simp[hi]) ⟨hit',let⟨o,ho,r⟩:=st.2;⟨o,hs'.extBut l o hne ho,r⟩⟩ hs'
 done:=fun s Q E st hE=>RZ hh st.1 st.2 (by simp) hE
theorem SB(l:Addr)(items:Array Value)(n:Nat)(dct:a0 Addr)(sl:Array (a0 Value)):Meets (Builtin.«enumerate.__new__» ⟨[.type "enumerate",.ref l],[]⟩) (fun _ R s=>s.heap.get? l=some {cls:=.type "tuple",dict:=dct,data:=.seq items n,slots:=sl} /\
   R (.ok (.ret (.ref (s.heap.push {cls:=.type "tuple_iterator",data:=.fields #[.ref l,.int 0 0]}).objs.size)))
    {s with heap:=(s.heap.push {cls:=.type "tuple_iterator",data:=.fields #[.ref l,.int 0 0]}).push {cls:=.type "enumerate",data:=.fields #[.none,.bool false,.ref s.heap.objs.size,rawInt 0,.none,.none]} }) :=
 .of_wp fun prog w A R s h=>by
  obtain⟨hp,g,d,tk,os⟩:=s;obtain⟨hl,h⟩:=h;have hsub:=sub_enumerate;have hL:Heap.IsTuple (Shared.heap ⟨hp,g,d,tk,os⟩) l items:=⟨_,hl,rfl,n,rfl⟩
  wp_walk using wpAny_loadPart' hl
  refine wpAny_stack_any fun st=>aQ ?_;split
  .rename_i c _ _ _ _ _;cases(c==Value.type "enumerate")
   .wp_walk using wpAny_loadPart' hl,mF hL
    exact⟨_,rfl,h⟩
   .wp_walk using wpAny_loadPart' hl,mF hL
    exact⟨_,rfl,h⟩
  .wp_walk using wpAny_loadPart' hl,mF hL
   exact⟨_,rfl,h⟩
theorem SC(hL:s.heap.IsTuple l items)(h:∀h',IsEnum h' (s.heap.objs.size+1) s.heap.objs.size 0 .none->h'.IsTupleIter s.heap.objs.size l 0->h'.objs.size=s.heap.objs.size+2 ->(∀b o,s.heap.get? b=some o->h'.get? b=some o)->Q (.ref (s.heap.objs.size+1)) {s with heap:=h'}):wpAny (model prog w) A (call (.type "enumerate") [.ref l]) Q E s:=by
 obtain⟨⟨c,dct,dt,sl⟩,hl,hc,n,hd⟩:=hL;replace hc:c=.type "tuple":=hc;replace hd:dt=.seq items n:=hd;subst hc hd;refine callType_new F.called_enumerate (by decide) (F.typeCall_enumerate_1 _) (F.newCall_enumerate_1 _) (fun obj=>F.args_object_init_2 obj _) F.entry_enumerate_new
  (SB l items n dct sl) ⟨hl,?_⟩
 have hz:(s.heap.push {cls:=.type "tuple_iterator",data:=.fields #[.ref l,.int 0 0]}).objs.size=s.heap.objs.size+1:=eU ..;show _/\_;rw[hz];have he:IsEnum ((s.heap.push {cls:=.type "tuple_iterator",data:=.fields #[.ref l,.int 0 0]}).push
   {cls:=.type "enumerate",data:=.fields #[.none,.bool false,.ref s.heap.objs.size,rawInt 0,.none,.none]}) (s.heap.objs.size+1) s.heap.objs.size 0 .none:=by
  have:=cQ (s.heap.push {cls:=.type "tuple_iterator",data:=.fields #[.ref l,.int 0 0]})
   (o:={cls:=.type "enumerate",data:=.fields #[.none,.bool false,.ref s.heap.objs.size,rawInt 0,.none,.none]}) rfl
  rw[hz]at this;exact this
 refine⟨⟨_,he,rfl⟩,h _ he ⟨_,aT _ (cQ _ rfl),rfl,rfl⟩ (by rw[eU,hz]) fun b o x=>aT _ (aT _ x)⟩
end
section
open PySem Spec PyProof.Rows
theorem DT{env:PySem.Env}:∀(names:List (Str×NameKind))(x:Str),(names.map fun(n,k)=>if(k==NameKind.free&&env.scope.kind==.function&&env.kindOf n==some .cell)then(n,NameKind.cell)else(n,k)).lookup x =(match names.lookup x with|some .free=>if(env.scope.kind==.function&&env.kindOf x==some .cell)then some .cell else some .free|o=>o)
 |[],_=>rfl
 |(n,k)::r,x=>by
  rw[bE];cases hx:x==n with
  |false=>
   have e:∀k',List.lookup x ((n,k')::(r.map fun(n,k)=>if(k==NameKind.free&&env.scope.kind==.function&&env.kindOf n==some .cell)then(n,NameKind.cell)else(n,k)))=List.lookup x (r.map fun(n,k)=>if(k==NameKind.free&&env.scope.kind==.function&&env.kindOf n==some .cell)then(n,NameKind.cell)else(n,k)):=fun k'=>by rw[gX,hx]
   have e2:List.lookup x ((n,k)::r)=List.lookup x r:=by rw[gX,hx]
   rw[e2,<-DT r x];show List.lookup x ((if(k==NameKind.free&&env.scope.kind==.function&&env.kindOf n==some .cell)=true then(n,NameKind.cell)else(n,k))::_)=_;by_cases hc:(k==NameKind.free&&env.scope.kind==.function&&env.kindOf n==some .cell)=true
   .rw[if_pos hc];exact e _
   .rw[if_neg hc];exact e _
  |true=>
   have en:x=n:=nM.mp hx;subst en;have e2:List.lookup x ((x,k)::r)=some k:=by rw[gX,mE]
   rw[e2];have e:∀k',List.lookup x ((x,k')::(r.map fun(n,k)=>if(k==NameKind.free&&env.scope.kind==.function&&env.kindOf n==some .cell)then(n,NameKind.cell)else(n,k)))=some k':=fun k'=>by rw[gX,mE]
   cases k<;>simp only[beq_self_eq_true,Bool.true_and,Bool.false_and,Bool.false_eq_true,if_false,show(NameKind.local==NameKind.free)=false from rfl,show(NameKind.cell==NameKind.free)=false from rfl,show(NameKind.globalExplicit==NameKind.free)=false from rfl,show(NameKind.globalImplicit==NameKind.free)=false from rfl]<;>first|exact e _|(split<;>exact e _)
def eY(sc:Scope)(N:List Str):List Str:=N.filter fun y=>sc.names.lookup y==some .free
def eP(sc:Scope):List Str->St->St
 |x::N,o::O=>if sc.names.lookup x==some .free then o::eP sc N O else eP sc N O
 |_,_=>[]
theorem DU(sc:Scope):∀(N:List Str)(O:St),O.length=N.length->(eP sc N O).length=(eY sc N).length
 |[],[],_=>rfl
 |[],_::_,h=>by simp at h
 |_::_,[],h=>by simp at h
 |x::N,o::O,h=>by
  unfold eP eY;rw[nJ];have ih:=DU sc N O (by simpa using h);unfold eY at ih;split
  .simp[ih]
  .exact ih
theorem DV(sc:Scope)(hx:sc.names.lookup x=some .free):∀(N:List Str)(O:St),O.length=N.length->∀{j:Nat}{v:V},N[j]?=some x->O[j]?=some (some v)->∃(i:Nat),(eY sc N)[i]?=some x/\(eP sc N O)[i]?=some (some v)
 |[],[],_,j,v,h1,h2=>by simp at h1
 |[],_::_,h,_,_,_,_=>by simp at h
 |_::_,[],h,_,_,_,_=>by simp at h
 |y::N,o::O,h,0,v,h1,h2=>by
  simp at h1 h2;subst h1 h2;refine⟨0,?_,?_⟩
  .unfold eY;rw[nJ,if_pos (by rw[hx];rfl)];rfl
  .unfold eP;rw[if_pos (by rw[hx];rfl)];rfl
 |y::N,o::O,h,j+1,v,h1,h2=>by
  obtain⟨i,h3,h4⟩:=DV sc hx N O (by simpa using h) (j:=j) (v:=v) (by simpa using h1) (by simpa using h2);unfold eY at h3 ⊢;rw[nJ];unfold eP;split
  .exact⟨i+1,by simpa using h3,by simpa using h4⟩
  .exact⟨i,h3,h4⟩
theorem xE(sc:Scope):∀(N:List Str)(O:St){i:Nat}{x:Str}{v:V},(eY sc N)[i]?=some x->(eP sc N O)[i]?=some (some v)->O.length=N.length->sc.names.lookup x=some .free/\∃(j:Nat),N[j]?=some x/\O[j]?=some (some v)
 |[],_,i,x,v,h1,_,_=>by unfold eY at h1;simp at h1
 |_::_,[],_,_,_,_,_,h=>by simp at h
 |y::N,o::O,i,x,v,h1,h2,h=>by
  unfold eY at h1;rw[nJ]at h1;unfold eP at h2;by_cases hy:(sc.names.lookup y==some .free)=true
  .rw[if_pos hy]at h1 h2;cases i with
   |zero=>simp at h1 h2;subst h1 h2;exact⟨by simpa using hy,0,rfl,rfl⟩
   |succ i=>obtain⟨h3,j,h4,h5⟩:=xE sc N O (i:=i) (by simpa[eY]using h1) (by simpa using h2) (by simpa using h);exact⟨h3,j+1,by simpa using h4,by simpa using h5⟩
  .rw[if_neg hy]at h1 h2;obtain⟨h3,j,h4,h5⟩:=xE sc N O (i:=i) (by simpa[eY]using h1) h2 (by simpa using h);exact⟨h3,j+1,by simpa using h4,by simpa using h5⟩
def blk(X:Cx)(pj:Pq)(scope:Scope)(xs:List Str)(fp:List Addr)(qz:Shared)(qy:Hp):Cx where
 prog:=X.prog
 w:=X.w
 K:=X.K
 mg:=X.mg
 base:=X.base
 A:=X.A
 N:=xs++eY scope X.N
 s₀:=qz
 H₀:=qy
 env:={scope:=relabel scope X.env,locals:=qz.heap.objs.size,globals:=X.env.globals,cells:=cellsFrom (qz.heap.objs.size+1) scope.names (fP X.env scope.names []),qual:=X.env.qual,func:=none,code:=X.env.code,frame:=X.env.frame,builtins:=X.env.builtins}
 outer:=X.stack
 stack:=X.stack
 ex:=fp
 fn:=fun x=>scope.names.lookup x==some .cell
 calm:=X.calm
 pn:=X.pn++pj
 xe:=fun _ _=>False
structure CompSc(X:Cx)(scope:Scope)(xs:List Str):Prop where
 kind:scope.kind=.function
 nd:xs.Nodup
 own:∀x∈xs,scope.names.lookup x=some .local\/scope.names.lookup x=some .cell
 free:∀y∈scope.names,y.2=.free->scope.names.lookup y.1=some .free/\(X.env.kindOf y.1=some .cell\/X.env.kindOf y.1=some .free)
 loc:∀y∈scope.names,y.2=.local->scope.names.lookup y.1=some .local
 cel:∀y∈scope.names,y.2=.cell->scope.names.lookup y.1=some .cell
theorem CompSc.has(S:CompSc X scope xs)(ok:X.Ok):∀y∈scope.names,y.2=.free->∃c,X.env.cells.lookup y.1=some c:=fun y hy hf=>ok.has y.1 (S.free y hy hf).2
def mU(scope:Scope)(X:Cx)(pj:Pq)(xs:List Str)(fp:List Addr)(qz:Shared)(qy:Hp)(x:Str):(blk X pj scope xs fp qz qy).env.scope.names.lookup x =(match scope.names.lookup x with|some .free=>if(X.env.scope.kind==.function&&X.env.kindOf x==some .cell)then some .cell else some .free|o=>o):=DT scope.names x
theorem oH(S:CompSc X scope xs)(ok:X.Ok){x:Str}{c:Addr}(h:(blk X pj scope xs fp qz qy).env.cells.lookup x=some c):(qz.heap.objs.size+1<=c/\(x,c)∈cellsFrom (qz.heap.objs.size+1) scope.names []/\(x,NameKind.cell)∈scope.names)\/((cellsFrom (qz.heap.objs.size+1) scope.names []).lookup x=none/\X.env.cells.lookup x=some c):=by
 rcases PN h with h|⟨h1,h2⟩
 .obtain⟨h1,h2⟩:=sE scope.names _ h;exact .inl ⟨h1,h,h2⟩
 .exact .inr ⟨h1,pS scope.names [] (fun _ _ e=>by cases e) (S.has ok) x c h2⟩
def mV{l:List (Str×NameKind)}{x:Str}{k:NameKind}(h:l.lookup x=some k):(x,k)∈l:=PySem.mem_of_lookup h
theorem DW(S:CompSc X scope xs)(I:Inv X pj O qy qz)(ff:∀b∈fp,fX X pj qy b)(fl:∀b∈fp,b<qz.heap.objs.size):(blk X pj scope xs fp qz qy).Ok where
 mod:=I.ok.mod
 kind:=S.kind
 glob:=I.ok.glob
 blt:=I.ok.blt
 above:=bH _
 inj:=fun x y c h1 h2=>by
  have up:∀{z:Str}{c:Addr},X.env.cells.lookup z=some c->c<qz.heap.objs.size:=fun{z c}h=>by obtain⟨v,q⟩:=I.cell z c h;exact q.lt
  rcases oH S I.ok h1 with⟨a1,a2,_⟩|⟨_,a2⟩<;>rcases oH S I.ok h2 with⟨b1,b2,_⟩|⟨_,b2⟩
  .have ok:=cellsFrom_ok scope.names (qz.heap.push {cls:=.type "dict",data:=.dict #[]}) (qz.heap.objs.size+1) [] ⟨fun _ _ hm=>(nomatch hm),List.Pairwise.nil⟩ (by rw[eU];exact bH _);rw[eU]at ok;exact name_of_addr ok.apart a2 b2
  .exact absurd (dS (up b2) (Nat.le_of_succ_le a1)) (gJ _)
  .exact absurd (dS (up a2) (Nat.le_of_succ_le b1)) (gJ _)
  .exact I.ok.inj x y c a2 b2
 has:=fun x h=>by
  have h':(blk X pj scope xs fp qz qy).env.scope.names.lookup x=some .cell\/(blk X pj scope xs fp qz qy).env.scope.names.lookup x=some .free:=h;rw[mU]at h';have key:(x,NameKind.cell)∈scope.names\/(x,NameKind.free)∈scope.names:=by
   cases e:scope.names.lookup x with
   |none=>rw[e]at h';rcases h' with h'|h'<;>cases h'
   |some k=>
    rw[e]at h';cases k with
    |cell=>exact .inl (mV e)
    |free=>exact .inr (mV e)
    |_=>rcases h' with h'|h'<;>cases h'
  refine Option.isSome_iff_exists.mp (sG scope.names _ _ ?_);rcases key with k|k
  .exact .inl k
  .exact .inr (oB scope.names [] (.inl k))
 cab:=fun x c hf h=>by
  have hf':scope.names.lookup x=some .cell:=by simpa[blk]using hf
  have hs:=sG (x:=x) scope.names (qz.heap.objs.size+1) [] (.inl (mV hf'));rcases oH S I.ok h with⟨a1,_⟩|⟨a1,_⟩
  .exact Nat.le_of_lt (dS (Nat.lt_succ_self _) a1)
  .rw[a1]at hs;cases hs
 hd:=I.ok.hd
 frames:=I.ok.frames
 stk:=.inl rfl
 exf:=fun b hb=>⟨cL (fl b hb),fun x c h=>by
  rcases oH S I.ok h with⟨a1,_⟩|⟨_,a2⟩
  .exact fun z=>by have h1:=fl b hb;rw[<-z]at h1;exact absurd (dS h1 (Nat.le_of_succ_le a1)) (gJ _)
  .exact(ff b hb).2.2.2.2.1 x c a2⟩
 bs:=I.bs
 bsz:=dY I.ok.bsz I.sz
 noex:=fun b o e hb=>by
  obtain⟨_,_,_,h4,_⟩:=ff b hb;rcases h4 with h4|h4
  .exact I.ok.noex b o e h4
  .exact absurd (dS (bI (I.ok.bs b o e).1) h4) (gJ _)
 exfs:=fun b hb hf=>by
  rcases omc (I.stkSub b hf)with z|z
  .exact(ff b hb).2.1 z
  .exact(ff b hb).2.2.1 z
 funs:=I.stack
 frf:=I.stkFree
def qC(scope:Scope)(xs:List Str)(N:List Str)(O:St):St:=List.replicate xs.length none++eP scope N O
theorem SD(S:CompSc X scope xs)(I:Inv X pj O qy qz)(ff:∀b∈fp,fX X pj qy b)(fl:∀b∈fp,b<qz.heap.objs.size):Inv (blk X pj scope xs fp qz qy) [] (qC scope xs X.N O) qy {qz with heap:=pushCells (qz.heap.push {cls:=.type "dict",data:=.dict #[]}) scope.names}:=by
 have keep:∀b o,qz.heap.get? b=some o->(pushCells (qz.heap.push {cls:=.type "dict",data:=.dict #[]}) scope.names).get? b=some o:=fun b o e=>pushCells_keeps _ _ b o (aT _ e);have cok:=cellsFrom_ok scope.names (qz.heap.push {cls:=.type "dict",data:=.dict #[]}) (qz.heap.objs.size+1) [] ⟨fun _ _ hm=>(nomatch hm),List.Pairwise.nil⟩ (by rw[eU];exact bH _);rw[eU]at cok;have hlen:O.length=X.N.length:=I.len;refine⟨DW S I ff fl,rfl,I.bare,Un.kept keep,⟨fun _=>none,(Heap.Ns.new qz.heap (.type "dict")).keeps (pushCells_keeps _ _),fun i x v e1 e2 e3=>?_⟩,fun x c h=>?_,I.fresh,fun x c h=>?_,fun p hp=>?_,I.hok.kept keep,?_⟩
 .have hi:xs.length<=i:=by refine Nat.le_of_not_lt fun hlt=>?_;unfold qC at e2;rw[oU (by simpa using hlt),List.getElem?_replicate]at e2;split at e2<;>cases e2
  have e1':(eY scope X.N)[i-xs.length]?=some x:=by have e1:(xs++eY scope X.N)[i]?=some x:=e1;rw[AB hi]at e1;exact e1
  have e2':(eP scope X.N O)[i-xs.length]?=some (some v):=by unfold qC at e2;rw[oS (by simpa using hi)]at e2;simpa using e2
  obtain⟨hf,j,h1,h2⟩:=xE scope X.N O e1' e2' hlen;have hm:=mV hf;have hk:=(S.free _ hm rfl).2;obtain⟨m,hn,hl⟩:=I.loc;obtain⟨u,r,l⟩:=hl j x v h1 h2 (hk.elim (fun z=>.inr (.inl z)) fun z=>.inr (.inr z));refine⟨u,r,?_⟩;rcases l with⟨k,_⟩|⟨k,c,hc,z⟩
  .rcases hk with hk|hk<;>rw[hk]at k<;>cases k
  .refine .inr ⟨?_,c,?_,?_⟩
   .show(blk X pj scope xs fp qz qy).env.scope.names.lookup x=_\/(blk X pj scope xs fp qz qy).env.scope.names.lookup x=_;rw[mU,hf];dsimp only;split
    .exact .inl rfl
    .exact .inr rfl
   .show(cellsFrom (qz.heap.objs.size+1) scope.names (fP X.env scope.names [])).lookup x=some c;have e0:(cellsFrom (qz.heap.objs.size+1) scope.names []).lookup x=none:=by
     cases q:(cellsFrom (qz.heap.objs.size+1) scope.names []).lookup x with
     |none=>rfl
     |some d=>have:=S.cel _ (sE scope.names _ (PySem.mem_of_lookup q)).2 rfl;rw[hf]at this;cases this
    rw[oC,List.lookup_append,e0,PM (S.has I.ok) hm];exact hc
   .obtain⟨o,ho,hd⟩:=z;exact⟨o,keep c o ho,hd⟩
 .rcases oH S I.ok h with⟨_,a2,_⟩|⟨_,a2⟩
  .exact⟨_,(cok.empty x c a2).1⟩
  .obtain⟨v,o,ho,hd⟩:=I.cell x c a2;exact⟨v,o,keep c o ho,hd⟩
 .rcases oH S I.ok h with⟨a1,_⟩|⟨_,a2⟩
  .exact I.hok.fresh (by lia)
  .exact I.freeC x c a2
 .have hp':p∈X.pn++pj:=by have hp:p∈(X.pn++pj)++[]:=hp;rw[gI]at hp;exact hp
  obtain⟨e,n,ne,nf,d⟩:=I.pin p hp';refine⟨keep p.1 p.2 e,n,cL (bI e),fun z=>?_,d⟩;rcases omc (I.stkSub p.1 z)with q|q
  .exact ne q
  .exact nf q
 .unfold qC;show _=(xs++eY scope X.N).length;rw[cP,cP,List.length_replicate,DU scope X.N O hlen]
theorem SE{J:It}{tn:Nat->Heap->Prop}{H2:Hp}{E:Vq}{g:Shared->Hp->TG}{tc:Shared->Hp->TT}{te:Shared->Hp->TE}(hc:X.calm=true)(S:CompSc X scope xs)(I2:Inv X pj O H2 s2)(T:Turn X.prog X.w X.K tg J fp it tn)(st2:tn 0 s2.heap)(f2:∀b∈fp,fX X pj H2 b)(hg:∀qz qy,(blk X pj scope xs fp qz qy).Ok->PG (blk X pj scope xs fp qz qy) tg (g qz qy))(hi:∀qz qy,(blk X pj scope xs fp qz qy).Ok->∀(pn:Pq)(s:Shared)(O:St)(H:Hp)(Q:Bool->Hp->Prop),Inv (blk X pj scope xs fp qz qy) pn O H s->tc qz qy O H Q ->wpAny (model X.prog X.w) X.A (forIn ifs true fun c r=>if r=true then do let ok <-isTrue c (blk X pj scope xs fp qz qy).env (eval c (blk X pj scope xs fp qz qy).env);pure (ForInStep.yield ok)else pure (ForInStep.yield r)) (TP (blk X pj scope xs fp qz qy) pn O Q) (fun _ _=>False) s)(he:∀qz qy,(blk X pj scope xs fp qz qy).Ok->PE (blk X pj scope xs fp qz qy) elt (te qz qy))(W:Addr->Nat->Nat->St->Hp->Prop)(R:Addr->Hp->Prop)(start:∀D,H2 D=none->∃m,W D 0 m (qC scope xs X.N O) (aL H2 D (.lst []))) (turn:∀qz qy D i m O' H',(blk X pj scope xs fp qz qy).Ok->W D i m O' H'->(J.stop i H'/\R D H')\/(J.go i H'/\∃N:St->Hp->Prop,(∀O'' H'',N O'' H''->∃m',m'<m/\W D (i+1) m' O'' H'') /\
   ∀x H5,J.yld i H' x H5->g qz qy x O' H5 fun O2 H6=>tc qz qy O2 H6 fun ok H7=>if ok=true then te qz qy O2 H7 fun y H8=>∃ys,H8 D=some (.lst ys)/\ys.length<sizeLine/\N O2 (aL H8 D (.lst (ys++[y])))else N O2 H7)):
  wpAny (model X.prog X.w) X.A (newList []) (fun acc qz=>wpAny (model X.prog X.w) X.A (newFunctionEnv scope X.env.globals (fP X.env scope.names []) [] X.env.qual none .none (some X.env)) (fun cenv s₄=>
   codeAny (model X.prog X.w) X.A (.compStart (.ListComp elt [⟨tg,iter,ifs,0⟩] scope pos) 0 (.ref it) acc {cenv with scope:=relabel scope X.env})
    (fun r s'=>r=.ok .next/\∃D H',acc=.ref D/\Inv X pj O H' s'/\fX X pj H' cenv.locals/\(∃m,s'.heap.Ns cenv.locals m)/\R D H') s₄) E qz) E s2:=by
 refine jM ?_ (by size_fits);have I3:Inv X pj O (aL H2 s2.heap.objs.size (.lst [])) {s2 with heap:=s2.heap.push {cls:=.type "list",data:=.seq ([]:List Value).toArray} }:=I2.lnew (t':=s2.toks) (ys:=[]) (qc:=[]) .nil (dQ _);have hD:H2 s2.heap.objs.size=none:=I2.fresh;have fl2:∀b∈fp,b<s2.heap.objs.size:=fun b hb=>by obtain⟨o,e,_⟩:=T.obj 0 _ st2 b hb;exact bI e
 have hsz:(s2.heap.push {cls:=.type "list",data:=.seq ([]:List Value).toArray}).objs.size=s2.heap.objs.size+1:=eU ..;have f3:∀b∈fp,fX X pj (aL H2 s2.heap.objs.size (.lst [])) b:=fun b hb=>⟨by rw[aR (cL (fl2 b hb))];exact(f2 b hb).1,(f2 b hb).2⟩;have fl3:∀b∈fp,b<(s2.heap.push {cls:=.type "list",data:=.seq ([]:List Value).toArray}).objs.size:=fun b hb=>by rw[hsz];exact Nat.lt_succ_of_lt (fl2 b hb)
 refine PQ ?_;generalize hs3:({s2 with heap:=s2.heap.push {cls:=.type "list",data:=.seq ([]:List Value).toArray} }:Shared)=s3 at I3 fl3 ⊢;have fl3:∀b∈fp,b<s3.heap.objs.size:=by rw[<-hs3];exact fl3
 have st3:tn 0 s3.heap:=T.keep 0 _ _ st2 fun b _ o e=>by rw[<-hs3];exact aT _ e
 generalize hH3:aL H2 s2.heap.objs.size (.lst [])=H3 at I3 f3;obtain⟨m0,w0⟩:=start s2.heap.objs.size hD;rw[hH3]at w0;generalize hDD:s2.heap.objs.size=D at w0;have BOk:=DW (fp:=fp) S I3 f3 fl3;have I4:=SD (fp:=fp) S I3 f3 fl3;have hg':=hg s3 H3 BOk;have hi':=hi s3 H3 BOk;have he':=he s3 H3 BOk;have st4:tn 0 (pushCells (s3.heap.push {cls:=.type "dict",data:=.dict #[]}) scope.names):=T.keep 0 _ _ st3 fun b _ o e=>pushCells_keeps _ _ b o (aT _ e);have stat:∀{H':Hp}{pn:Pq},pn=[]->(∀b∈fp,H' b=none)->∀b∈fp,fX (blk X pj scope xs fp s3 H3) pn H' b:=fun{H' pn}hp hn b hb=>by subst hp;refine⟨hn b hb,(BOk.exf b hb).1,BOk.exfs b hb,.inl hb,(BOk.exf b hb).2,fun p hp=>?_⟩;have hp:p∈(X.pn++pj)++[]:=hp;rw[gI]at hp;exact(f3 b hb).2.2.2.2.2 p hp
 have loop:codeAny (model X.prog X.w) X.A (.compLoop (.ListComp elt [⟨tg,iter,ifs,0⟩] scope pos) 0 (.ref it) (.ref D) (blk X pj scope xs fp s3 H3).env)
   (fun r s'=>r=.ok .next/\∃D' H',Value.ref D=.ref D'/\Inv X pj O H' s'/\fX X pj H' s3.heap.objs.size/\(∃m,s'.heap.Ns s3.heap.objs.size m)/\R D' H') {s3 with heap:=pushCells (s3.heap.push {cls:=.type "dict",data:=.dict #[]}) scope.names}:=by
  refine codeAny_loop rfl (fun n s'=>∃i O' H',Inv (blk X pj scope xs fp s3 H3) [] O' H' s'/\tn i s'.heap/\(∀b∈fp,H' b=none)/\W D i n O' H') ?_ m0 ⟨0,_,_,I4,st4,fun b hb=>(f3 b hb).1,w0⟩;rintro n s5 ⟨i,O5,H5,I5,st5,fr5,w5⟩;show wpAny _ X.A ((compTurn (.ListComp elt [⟨tg,iter,ifs,0⟩] scope pos) 0 (.ref it) (.ref D) (blk X pj scope xs fp s3 H3).env).onRaise (fun x=>do noteFrame x (blk X pj scope xs fp s3 H3).env;theTreesLotGoes x)) _ _ s5;refine wpAny_noted ?_;rw[compTurn_list];refine aF (wpAny_standAt (aF ?_));rcases turn s3 H3 D i n O5 H5 BOk w5 with⟨stop,q⟩|⟨go,N,hN,step⟩
  .refine thn (T.done (blk X pj scope xs fp s3 H3) rfl rfl rfl hc i [] s5 O5 H5 _ I5 (stat rfl fr5) st5 stop) fun r s6 ⟨hr,I6⟩=>?_;subst hr;refine aQ ⟨rfl,D,H5,rfl,?_,?_,?_,q⟩
   .exact I3.call' I6.os I6.base I6.hok I6.bare fun b hb=>⟨(f3 b hb).2.2.2.1,(f3 b hb).2.1,(f3 b hb).2.2.2.2.1,(f3 b hb).2.2.2.2.2⟩
   .exact I3.fpOk (bH _) I6.free
   .obtain⟨m,hn,_⟩:=I6.loc;exact⟨m,hn⟩
  .refine thn (T.item (blk X pj scope xs fp s3 H3) rfl rfl rfl hc i [] s5 O5 H5 _ I5 (stat rfl fr5) st5 go) fun r s6 ⟨u,hr,h6⟩=>?_;subst hr;refine aF (thn h6 fun _ s7 ⟨x,H7,I7,r7,y7,st7,fr7⟩=>?_);have I7':=I7.pinned (stat rfl fr7) (T.obj _ _ st7);have hl:∀{α:Type}{t:Sem α}{Q:α->Shared->Prop}{E':Vq}{s:Shared},wpAny (model X.prog X.w) X.A t Q (fun _ _=>False) s->wpAny (model X.prog X.w) X.A t Q E' s:=fun h=>gK h (fun _ _ q=>q) fun _ _ z=>False.elim z;refine aF (hl (thn (hg' _ s7 O5 H7 x u _ I7' r7 (step x H7 y7)) fun _ s8 ⟨O8,H8,I8,q8⟩=>?_));refine aF (hl (thn (hi' _ s8 O8 H8 _ I8 q8) fun ok s9 ⟨H9,I9,q9⟩=>?_));have again:∀{O7:St}{H7':Hp}{s7':Shared},Inv (blk X pj scope xs fp s3 H3) ([]++pA fp s7.heap) O7 H7' s7'->N O7 H7'->∃m,m<n/\∃i O' H',Inv (blk X pj scope xs fp s3 H3) [] O' H' s7'/\tn i s7'.heap/\(∀b∈fp,H' b=none)/\W D i m O' H':=fun{O7 H7' s7'}I8 n8=>by obtain⟨m',hm,w8⟩:=hN O7 H7' n8;refine⟨m',hm,i+1,O7,H7',I8.unpinned,T.keep _ _ _ st7 fun b hb o e=>(I8.pin (b,o) (iL _ (iL _ (rK hb e)))).1,fun b hb=>?_,w8⟩;obtain⟨o,e,d⟩:=T.obj _ _ st7 b hb;exact(I8.pin (b,o) (iL _ (iL _ (rK hb e)))).2.1
   cases ok with
   |false=>rw[if_neg dW]at q9;exact aQ ⟨rfl,again I9 q9⟩
   |true=>rw[if_pos rfl]at q9;refine aF (aF (hl (thn (he' _ s9 O8 H9 _ I9 q9) fun y s10 ⟨yv,H10,I10,r10,ys,e10,z10,q10⟩=>?_)));refine aF (hl (thn (vP (X:=blk X pj scope xs fp s3 H3) _ s10 O8 H10 (.ref D) [yv] (.ref D) [y] (fun _ H'=>N O8 H') I10 rfl (.cons r10 .nil) ⟨D,ys,yv,rfl,rfl,e10,z10,q10⟩) fun _ s11 ⟨_,H11,I11,_,q11⟩=>?_));exact aQ (aQ ⟨rfl,again I11 q11⟩)
 exact codeAny_compStart_list loop (T.self X.A 0 _ _ _ st4 loop)
end
section
open PySem Spec PyProof.Rows
variable {ch:List Addr}
theorem Inv.turnedC{t':Nat}(I:Inv X pj O H s)(k:∀b o,b∉ch->s.heap.get? b=some o->h'.get? b=some o)(f:∀b∈ch,fX X pj H b):Inv X pj O H {s with heap:=h',toks:=t'}:=by
 have nfp:∀{b:Addr}{u:HO},H b=some u->b∉ch:=fun{b u}q z=>by rw[(f b z).1]at q;cases q
 refine I.step (g':=s.gens) (d':=s.drawn) (ch:=ch) (fun b hb=>⟨(f b hb).2.2.2.1,(f b hb).2.1,(f b hb).2.2.2.2.1,(f b hb).2.2.2.2.2⟩) (fun b o _ _ hc q _=>k b o hc q) (fun b o _ _ hc q _=>⟨o.slots,k b o hc q⟩)
  (fun b o hc q z=>z) (fun b o hc q=>⟨o,k b o hc q⟩) (fun b ys q=>q) (fun b o u q=>q) (fun b ps q=>⟨#[],by rw[q];simp⟩) (fun m hm=>?_) (fun b u q=>?_) I.bare
 .obtain⟨o,es,ep,ho,r⟩:=hm;exact⟨o,es,ep,k _ o (fun z=>(f _ z).2.1 rfl) ho,r⟩
 .refine(I.hok b u q).stay (fun c v hc z=>?_) (fun c z=>z) fun c ys z=>z;rcases hc with rfl|hc
  .exact k c v (nfp q) z
  .exact k c v (nfp hc) z
theorem Inv.turnedN{T:Addr}{xs:List V}{t':Nat}(I:Inv X pj O H s)(k:∀b o,b∉ch->s.heap.get? b=some o->h'.get? b=some o)(f:∀b∈ch,fX X pj H b)(hT:s.heap.objs.size<=T)(new:aU X.prog X.w (aL H T (.tup xs)) h' T (.tup xs)):Inv X pj O (aL H T (.tup xs)) {s with heap:=h',toks:=t'}:=by
 have hn:H T=none:=I.hok.fresh hT;have nT:∀{b:Addr}{o:Obj},s.heap.get? b=some o->b≠T:=fun{b o}q=>cL (dS (bI q) hT);have nfp:∀{b:Addr}{u:HO},H b=some u->b∉ch:=fun{b u}q z=>by rw[(f b z).1]at q;cases q
 refine I.step (g':=s.gens) (d':=s.drawn) (ch:=ch) (fun b hb=>⟨(f b hb).2.2.2.1,(f b hb).2.1,(f b hb).2.2.2.2.1,(f b hb).2.2.2.2.2⟩) (fun b o _ _ hc q _=>k b o hc q) (fun b o _ _ hc q _=>⟨o.slots,k b o hc q⟩)
  (fun b o hc q z=>by rw[aR (nT q)];exact z) (fun b o hc q=>⟨o,k b o hc q⟩)
  (fun b ys q=>by rw[aR (cS q hn)];exact q) (fun b o u q=>by rw[aR (cS q hn)];exact q) (fun b ps q=>⟨#[],by rw[aR (cS q hn),q];simp⟩) (fun m hm=>?_) (fun b u q=>?_) I.bare
 .obtain⟨o,es,ep,ho,r⟩:=hm;exact⟨o,es,ep,k _ o (fun z=>(f _ z).2.1 rfl) ho,r⟩
 .by_cases hb:b=T
  .subst hb;rw[bN]at q;cases q;exact new
  .rw[aR hb]at q;refine(I.hok b u q).stay (fun c v hc z=>?_) (fun c z=>by rw[aR (cS z hn)];exact z) fun c ys z=>by rw[aR (cS z hn)];exact z
   rcases hc with rfl|hc
   .exact k c v (nfp q) z
   .exact k c v (nfp hc) z
def SqB(t:Bool)(K:W.Frag)(H:Hp)(a:Addr)(xs:List V):Prop:=if t then SqT K H a xs else SqL K H a xs
def ItB(t:Bool)(h:Heap)(j l:Addr)(i:Nat):Prop:=if t then h.IsTupleIter j l i else h.IsListIter j l i
def IsB(t:Bool)(h:Heap)(l:Addr)(qc:Array Value):Prop:=if t then h.IsTuple l qc else h.IsList l qc
theorem ItB.at(x:ItB t h j l i)(k:∀o,h.get? j=some o->h'.get? j=some o):ItB t h' j l i:=by
 cases t with
 |true=>obtain⟨o,e,r⟩:=(show h.IsTupleIter j l i from x);exact(show h'.IsTupleIter j l i from⟨o,k o e,r⟩)
 |false=>obtain⟨o,e,r⟩:=(show h.IsListIter j l i from x);exact(show h'.IsListIter j l i from⟨o,k o e,r⟩)
theorem ItB.obj(x:ItB t h j l i):∃o,h.get? j=some o/\∀v,o.data≠.cell v:=by
 cases t with
 |true=>obtain⟨o,e,_,d⟩:=(show h.IsTupleIter j l i from x);exact⟨o,e,fun v q=>by rw[d]at q;cases q⟩
 |false=>obtain⟨o,e,_,d⟩:=(show h.IsListIter j l i from x);exact⟨o,e,fun v q=>by rw[d]at q;cases q⟩
theorem Inv.sqB(I:Inv X pj O H s)(q:SqB t X.K H a xs):∃qc:List Value,aJ xs qc/\IsB t s.heap a qc.toArray/\a<s.heap.objs.size:=by
 cases t with
 |true=>obtain⟨qc,rv,p,_⟩:=I.tuple (show SqT X.K H a xs from q);obtain⟨o,e,_⟩:=id p;exact⟨qc,rv,p,bI e⟩
 |false=>obtain⟨qc,rv,p,_⟩:=I.list (show SqL X.K H a xs from q);obtain⟨o,e,_⟩:=id p.isList;exact⟨qc,rv,p.isList,bI e⟩
theorem Inv.sqB_inj(I:Inv X pj O H s)(q:SqB t X.K H a xs)(q':SqB t X.K H a ys):xs=ys:=by
 cases t with
 |true=>exact I.tuple_inj (show SqT X.K H a xs from q) q'
 |false=>exact I.list_inj (show SqL X.K H a xs from q) q'
theorem oJ(t:Bool)(hh:A.handled=none)(j l:Addr)(hne:l≠j)(qc:Array Value):Draws prog w A j [j,l] qc.size (fun i v=>qc[i]?=some v) (fun i h=>ItB t h j l i/\IsB t h l qc):=by
 cases t with
 |true=>exact SA hh j l hne qc
 |false=>exact Draws.list hh j l hne qc
theorem IsB.ne(p:IsB t h a qc)(x:ItB t h j l i):a≠j:=fun z=>by
 subst z;cases t with
 |true=>obtain⟨o,e,c,_⟩:=(show h.IsTupleIter a l i from x);obtain⟨o',e',c',_⟩:=(show h.IsTuple a qc from p);rw[e]at e';cases e';rw[c]at c';exact absurd c' (by decide +kernel)
 |false=>obtain⟨o,e,c,_⟩:=(show h.IsListIter a l i from x);obtain⟨o',e',c',_⟩:=(show h.IsList a qc from p);rw[e]at e';cases e';rw[c]at c';exact absurd c' (by decide +kernel)
theorem IsB.nen(p:IsB t h a qc)(x:IsEnum h e it n old):e≠a:=fun z=>by
 subst z;have x:h.get? e=_:=x;cases t with
 |true=>obtain⟨o',e',c',_⟩:=(show h.IsTuple e qc from p);rw[x]at e';cases e';exact absurd c' (by show Value.type "enumerate"≠Value.type "tuple";decide +kernel)
 |false=>obtain⟨o',e',c',_⟩:=(show h.IsList e qc from p);rw[x]at e';cases e';exact absurd c' (by show Value.type "enumerate"≠Value.type "list";decide +kernel)
def Ite(sq:Hp->Addr->List V->Prop)(a:Addr):It :=
 ⟨fun i H=>∃xs x,sq H a xs/\xs[i]?=some x,fun i H x H'=>∃p v,H p=none/\x=.ref p/\H'=aL H p (.tup [.int (i:Int),v])/\∀xs,sq H a xs->xs[i]?=some v,fun i H=>∃xs,sq H a xs/\xs.length=i⟩
theorem DX{K:W.Frag}(t:Bool)(a it e:Addr)(hei:e≠it):Turn P w K (.Tuple elts kx pos) (Ite (SqB t K) a) [e,it] e (fun i h=>(∃old,IsEnum h e it (i:Int) old)/\ItB t h it a i) where
 mem:=by simp
 obj:=fun i h st b hb=>by
  obtain⟨⟨old,he⟩,hi⟩:=st;rcases omc hb with z|z
  .rw[z];exact⟨_,he,fun v q=>by cases q⟩
  .rw[omg z];exact hi.obj
 keep:=fun i h h' st k=>by obtain⟨⟨old,he⟩,hi⟩:=st;exact⟨⟨old,k e (by simp) _ he⟩,hi.at fun o e=>k it (by simp) o e⟩
 item:=by
  intro X hP hw hK hc i pj s O H E I hf st hg;subst hP hw hK;obtain⟨xs,x,hq,hx⟩:=hg;obtain⟨⟨old,he⟩,hit⟩:=st;obtain⟨qc,rv,p,_⟩:=I.sqB hq;obtain⟨u,hu,ru⟩:=rv.get hx;obtain⟨oi,hoi,_⟩:=hit.obj;have hai:=p.ne hit;have hae:=p.nen he;have D:=oJ (prog:=X.prog) (w:=X.w) (A:=X.A.in1) t (show X.A.in1.handled=none from I.ok.hd hc) it a hai qc.toArray;have hlt:i<qc.toArray.size:=by have:=rv.length;have h2:=(ome hx).1;rw[cW];lia
  refine wpAny_pyNext_enum_itemD D he ⟨hit,p⟩ hlt hei (fun z=>(omc z).elim hei fun q=>hae (omg q)) fun x' h1 tk hPx ho st1 hT hsz hk=>?_;refine⟨_,rfl,wpAny_letOwnedTupleGo_enum ho fun h2 he2 hs2=>?_⟩;have hx':x'=u:=by
   have hPx:qc.toArray[i]?=some x':=hPx;have:qc[i]?=some x':=by simpa using hPx
   rw[hu]at this;exact(dU this).symm
  subst hx';have hk2:∀b o,b≠e->b≠it->s.heap.get? b=some o->h2.get? b=some o:=fun b o hbe hbi q=>(hs2.2 b hbe).trans (hk b o hbe hbi q);have hTe:s.heap.objs.size≠e:=Nat.ne_of_gt (bI he);have I1:Inv X pj O (aL H s.heap.objs.size (.tup [.int (i:Int),x])) {s with heap:=h2,toks:=tk+1}:=I.turnedN (ch:=[e,it]) (fun b o hb=>hk2 b o (fun z=>hb (by simp[z])) fun z=>hb (by simp[z])) hf (Nat.le_refl _)
   ⟨by show 2<=sizeLine;decide,[.int (i:Int) tk,x'],.cons ⟨_,rfl⟩ (.cons ru .nil),⟨_,(hs2.2 _ hTe).trans hT,rfl,_,rfl⟩⟩
  refine⟨.ref s.heap.objs.size,_,I1,rfl,⟨_,x,I.fresh,rfl,rfl,fun ys hy=>by rw[I.sqB_inj hy hq];exact hx⟩,⟨⟨_,by simpa using he2⟩,?_⟩,fun b hb=>?_⟩
  .exact st1.1.at fun o ho'=>(hs2.2 it (Ne.symm hei)).trans ho'
  .have hb0:=(hf b hb).1;have hbl:b<s.heap.objs.size:=by
    rcases omc hb with z|z
    .rw[z];exact bI he
    .rw[omg z];exact bI hoi
   rw[aR (cL hbl)];exact hb0
 done:=by
  intro X hP hw hK hc i pj s O H E I hf st hg;subst hP hw hK;obtain⟨xs,hq,hx⟩:=hg;obtain⟨⟨old,he⟩,hit⟩:=st;obtain⟨qc,rv,p,_⟩:=I.sqB hq;have hai:=p.ne hit;have D:=oJ (prog:=X.prog) (w:=X.w) (A:=X.A.in1) t (show X.A.in1.handled=none from I.ok.hd hc) it a hai qc.toArray;have hl:qc.toArray.size=i:=by rw[cW,<-rv.length];exact hx
  obtain⟨f0,f1,f2,f3,f4,f5⟩:=hf it (by simp);refine wpAny_pyNext_enum_endD D he (by rw[hl];exact⟨hit,p⟩) fun h1 eb=>⟨rfl,I.turned (t':=s.toks) (fun b o hb q=>eb b o hb q) f0 f1 f3 f4 f5⟩
 self:=fun _ _ _ _ _ st h=>by obtain⟨⟨old,he⟩,_⟩:=st;exact wpAny_pyIter_enum he h
theorem SG(hl:PE X l tl):PI X tg l (fun O H R=>tl O H fun x H1=>∃a,x=.ref a/\((∃xs,SqL X.K H1 a xs/\R (Itl X.K a) H1)\/∃xs,SqT X.K H1 a xs/\R (Itt X.K a) H1)):=by
 intro pj s O H R I h;refine thn (hl pj s O H _ I h) fun v s1 ⟨x,H1,I1,r1,q1⟩=>?_;obtain⟨a,e,q1⟩:=q1;subst e;cases r1;rcases q1 with⟨xs,hq,q⟩|⟨xs,hq,q⟩
 .obtain⟨qc,rv,p,hz⟩:=I1.list hq;refine wpAny_pyIter_list p.isList ?_;refine⟨s1.heap.objs.size,[s1.heap.objs.size],_,_,H1,rfl,I1.kept (t':=s1.toks) fun b o e=>aT _ e,LN a _,⟨_,cQ _ rfl,rfl,rfl⟩,fun b hb=>?_,q⟩;have e:b=s1.heap.objs.size:=by simpa using hb
  subst e;exact I1.fpOk (bH _) (I1.hok.fresh (bH _))
 .obtain⟨qc,rv,p,hz⟩:=I1.tuple hq;refine mF (show s1.heap.IsTuple a qc.toArray from p) ?_;refine⟨s1.heap.objs.size,[s1.heap.objs.size],_,_,H1,rfl,I1.kept (t':=s1.toks) fun b o e=>aT _ e,LO a _,⟨_,cQ _ rfl,rfl,rfl⟩,fun b hb=>?_,q⟩;have e:b=s1.heap.objs.size:=by simpa using hb
  subst e;exact I1.fpOk (bH _) (I1.hok.fresh (bH _))
theorem SH{ta:TA}(hg:Gl X "enumerate")(hm:X.mg "enumerate"=none)(ha:PA X [a] ta)(hs:starEach [a] X.env=[(false,eval a X.env)]):PI X (.Tuple elts kx p2) (.Call (.Name "enumerate" p) [a] [] pos) (fun O H R=>ta O H fun vs H1=>∃a,vs=[.ref a]/\((∃xs,SqL X.K H1 a xs/\R (Ite (SqL X.K) a) H1)\/∃xs,SqT X.K H1 a xs/\R (Ite (SqT X.K) a) H1)):=by
 intro pj s O H R I h;refine Call_ (mH I hg hm boot_enumerate (PyProof.Rows.callWith_type1 (thn (ha pos pj s O H _ I h) fun us s1 ⟨vs,H1,I1,r1,q1⟩=>?_) hs rfl));obtain⟨l,e,q1⟩:=q1;subst e;obtain⟨u,rfl,rx⟩:=iC r1;cases rx;have fin:∀{h':Heap}{J:It}{tn:Nat->Heap->Prop},(∀b o,s1.heap.get? b=some o->h'.get? b=some o)->h'.objs.size=s1.heap.objs.size+2->
   Turn X.prog X.w X.K (.Tuple elts kx p2) J [s1.heap.objs.size+1,s1.heap.objs.size] (s1.heap.objs.size+1) tn->tn 0 h'->R J H1->PIE X pj O (.Tuple elts kx p2) R (.ref (s1.heap.objs.size+1)) {s1 with heap:=h'}:=fun{h' J tn}hk hsz T st q=>by
  refine⟨s1.heap.objs.size+1,[s1.heap.objs.size+1,s1.heap.objs.size],tn,J,H1,rfl,I1.kept (t':=s1.toks) hk,T,st,fun b hb=>?_,q⟩;rcases omc hb with z|z
  .rw[z];exact I1.fpOk (Nat.le_succ _) (I1.hok.fresh (Nat.le_succ _))
  .rw[omg z];exact I1.fpOk (bH _) (I1.hok.fresh (bH _))
 have hne:s1.heap.objs.size+1≠s1.heap.objs.size:=Nat.succ_ne_self _;rcases q1 with⟨xs,hq,q⟩|⟨xs,hq,q⟩
 .obtain⟨qc,rv,pl,hz⟩:=I1.list hq;refine call_enumerate_list pl.isList fun h' he hit hsz hk=>?_;exact wpAny_pyIter_enum (s:={s1 with heap:=h'}) he (fin hk hsz (DX false l s1.heap.objs.size (s1.heap.objs.size+1) hne) ⟨⟨_,by simpa using he⟩,hit⟩ q)
 .obtain⟨qc,rv,pl,hz⟩:=I1.tuple hq;refine SC (show s1.heap.IsTuple l qc.toArray from pl) fun h' he hit hsz hk=>?_;exact wpAny_pyIter_enum (s:={s1 with heap:=h'}) he (fin hk hsz (DX true l s1.heap.objs.size (s1.heap.objs.size+1) hne) ⟨⟨_,by simpa using he⟩,hit⟩ q)
end
end L2
namespace Ev
open PySem PySem.W PyProof.Rows
def KAll{α:Type}(n:Nat)(Q:α->Prop):KasT α->Prop
 |.ret a=>Q a
 |.ask i j k=>i<n/\j<n/\∀b,KAll n Q (k b)
def Pm(n:Nat)(p:Array Nat):Prop:=p.toList.Perm (List.range n)
theorem KAll.bd{α β:Type}{Q:β->Prop}{f:α->KasT β}:∀{t:KasT α},KAll n (fun a=>KAll n Q (f a)) t->KAll n Q (t.bind f)
 |.ret _,h=>h
 |.ask _ _ _,h=>⟨h.1,h.2.1,fun b=>KAll.bd (h.2.2 b)⟩
theorem KAll.mo{α:Type}{Q R:α->Prop}(q:∀a,Q a->R a):∀{t:KasT α},KAll n Q t->KAll n R t
 |.ret _,h=>q _ h
 |.ask _ _ _,h=>⟨h.1,h.2.1,fun b=>KAll.mo q (h.2.2 b)⟩
theorem KAll.run{α:Type}{Q:α->Prop}{c:Nat->Nat->Bool}:∀{t:KasT α},KAll n Q t->Q (pH c t)
 |.ret _,h=>h
 |.ask i j k,h=>KAll.run (t:=k (c i j)) (h.2.2 _)
theorem Pm.lt(h:Pm n p){i:Nat}(hi:i<n):p.getD i 0<n:=by
 have z:p.size=n:=by
  have:=List.Perm.length_eq h
  rwa[kE,List.length_range]at this
 rw[Array.getD_eq_getD_getElem?,qW (by lia)];exact List.mem_range.mp ((List.Perm.mem_iff h).mp (Array.getElem_mem_toList (by lia)))
def Pm.rev(P:Pm n p){i j:Nat}:Pm n (kas_rev p i j):=List.Perm.trans (Array.perm_iff_toList_perm.mp (mirror_perm p i j _)) P
theorem xF(P:Pm n p):∀f k,k+f<=n->KAll n (fun m=>k<=m/\m<=n) (kas_asc p f k)
 |0,k,h=>⟨bH k,h⟩
 |f+1,k,h=>⟨P.lt (by lia),P.lt (by lia),fun b=>by
  cases b
  .exact(xF P f (k+1) (by lia)).mo fun m h=>⟨by lia,h.2⟩
  .exact⟨bH k,by lia⟩⟩
theorem DY:∀f(p:Array Nat)(k e:Nat),Pm n p->k+f<=n->KAll n (fun r=>Pm n r.1/\k<=r.2.1/\r.2.1<=n) (kas_desc f p k e)
 |0,p,k,_,P,h=>⟨P,bH k,h⟩
 |f+1,p,k,e,P,h=>⟨P.lt (by lia),P.lt (by lia),fun b=>by
  have w:∀{q:Array Nat}{e:Nat},Pm n q->KAll n (fun r=>Pm n r.1/\k<=r.2.1/\r.2.1<=n) (kas_desc f q (k+1) e):=fun Q=>(DY f _ (k+1) _ Q (by lia)).mo fun r h=>⟨h.1,by lia,h.2.2⟩;cases b
  .refine⟨P.lt (by lia),P.lt (by lia),fun d=>?_⟩;cases d
   .exact w P
   .exact⟨P,bH k,(by lia:k<=n)⟩
  .show KAll n _ (if e>0 then _ else _);split
   .exact w P.rev
   .exact w P⟩
theorem DZ(P:Pm n p){m:Nat}(h1:1<=m)(h:m<=n):KAll n (fun r=>1<=r.1/\Pm n r.2) (kas_tail3 m n p):=KAll.bd ((xF P.rev (n-m) m (by lia)).mo fun k h=>⟨by lia,P.rev⟩)
theorem EA(P:Pm n p){m:Nat}(h:m<n):KAll n (fun r=>1<=r.1/\Pm n r.2) (kas_descPart m n p):=KAll.bd ((DY (n-(m+1)) p (m+1) 0 P (by lia)).mo fun r h=>by
 split
 .exact DZ h.1.rev (by lia) h.2.2
 .exact DZ h.1 (by lia) h.2.2)
theorem xG(P:Pm n p){k:Nat}(hk:k<n):∀f l r,r<=k->KAll n (fun _=>True) (kas_place p k f l r)
 |0,_,_,_=>trivial
 |f+1,l,r,h=>by
  rw[kas_place];split
  .trivial
  .refine⟨P.lt hk,P.lt (by lia),fun b=>?_⟩;cases b
   .exact xG P hk f _ _ h
   .exact xG P hk f _ _ (by lia)
theorem EB:∀f(p:Array Nat)k,Pm n p->k+f<=n->KAll n (Pm n) (kas_bin f p k)
 |0,_,_,P,_=>P
 |f+1,p,k,P,h=>KAll.bd ((xG P (k:=k) (by lia) k 0 k (bH k)).mo fun l _=>EB f _ (k+1) (List.Perm.trans (Array.perm_iff_toList_perm.mp (bubble_perm p k (k-l))) P) (by lia))
theorem xH(h2:2<=n):KAll n (Pm n) (kas_sort n):=KAll.bd (KAll.mo (Q:=fun r=>1<=r.1/\Pm n r.2) (fun r q=>by
 split
 .exact EB _ _ _ q.2 (by lia)
 .exact q.2) (KAll.bd ((xF (List.Perm.refl _:Pm n (List.range n).toArray) (n-1) 1 (by lia)).mo fun m h=>by
  have P:Pm n (List.range n).toArray:=List.Perm.refl _;split
  .exact⟨h.1,P⟩
  .rename_i e;have e:m≠n:=by simpa using e
   split
   .refine⟨P.lt (by lia),P.lt (by lia),fun b=>?_⟩;cases b
    .exact EA P.rev (by lia)
    .exact⟨h.1,P⟩
   .exact EA P (by lia))))
theorem EC{α:Type}{cmp:Nat->Nat->(Bool->Shared->Prop)->Shared->Prop}{c:Nat->Nat->Bool}{R:α->Prop}(h:∀i j C,i<n->j<n->C (c i j) s->cmp i j C s){Q:α->Shared->Prop}:∀t:KasT α,KAll n R t->Q (pH c t) s->t.kasWp cmp Q s
 |.ret _,_,q=>q
 |.ask i j k,hk,q=>h i j _ hk.1 hk.2.1 (EC h (k (c i j)) (hk.2.2 _) q)
section
open PySem W Spec PyProof.Rows L2
section
variable {prog:Program}{w:World}{A:Around}{E:Vq}{s:Shared}{b:Bool}{Q:Bool->Shared->Prop}
theorem SJ(rx:aG (kV x) v)(ry:aG (kV y) u)(hs:mM x y=true)(c:Bool)(h:Q (kLt x y) s):wpAny (model prog w) A (oneLt' c v u) Q E s:=by
 match x,y,hs with
 |.inl i,.inl j,_=>
  obtain⟨t,rfl⟩:=rx;obtain⟨t',rfl⟩:=ry;cases c with
  |true=>exact kat_lt_int h
  |false=>exact kat_one _ _ (PyProof.Rows.lt_int h)
 |.inr (some i),.inr (some j),_=>
  obtain⟨t,rfl⟩:=rx;obtain⟨t',rfl⟩:=ry;cases c with
  |true=>exact oneLt_str h
  |false=>exact kat_one _ _ (PyProof.Rows.lt_str h)
theorem SK(rx:aG (kV x) v)(ry:aG (kV y) u)(hs:mM x y=true)(h:Q (decide (x=y)) s):wpAny (model prog w) A (eqBool v u) Q E s:=by
 match x,y,hs with
 |.inl i,.inl j,_=>
  obtain⟨t,rfl⟩:=rx;obtain⟨t',rfl⟩:=ry;refine wpAny_eqBool_int ?_;have e:(i==j)=decide ((Sum.inl i:Key)=Sum.inl j):=by
   by_cases q:i=j
   .subst q;simp
   .simp[q]
  rw[e];exact h
 |.inr (some i),.inr (some j),_=>
  obtain⟨t,rfl⟩:=rx;obtain⟨t',rfl⟩:=ry;refine wpAny_eqBool_str ?_;have e:decide (i=j)=decide ((Sum.inr (some i):Key)=Sum.inr (some j)):=by
   by_cases q:i=j
   .subst q;simp
   .simp[q]
  rw[e];exact h
theorem ED:∀(ks ls:List Key)(vs us:List Value)(i:Nat),aJ (ks.map kV) vs->aJ (ls.map kV) us->alike ks ls=true->Q (mN ks ls) s->KatLex prog w A b false Q (vs.zip us) i s
 |[],[],vs,us,i,hv,hu,_,h=>by cases hv;exact kat_nil h
 |x::ks,y::ls,vs,us,i,hv,hu,ha,h=>by
  rw[alike,dF]at ha;cases hv with
  |cons rx hv=>
   cases hu with
   |cons ry hu=>
    rw[List.zip_cons_cons];refine kat_cons (SK rx ry ha.1 ?_);rw[mN]at h;by_cases e:x=y
    .rw[if_pos e]at h;rw[dX e];exact kat_yes (ED ks ls _ _ (i+1) hv hu ha.2 h)
    .rw[if_neg e]at h;rw[eN e];exact kat_no (SJ rx ry ha.1 _ h)
 |[],_::_,_,_,_,_,_,ha,_=>by cases ha
 |_::_,[],_,_,_,_,_,ha,_=>by cases ha
end
end
section
open PySem W Spec PyProof.Rows L2
theorem SM{A:Around}{kss:List (List Key)}{Q:Array Nat->Shared->Prop}(hl:vs.length=kss.length)(h2:2<=kss.length)(al:∀x∈kss,∀y∈kss,alike x y=true)(hp:∀i,i<kss.length->∃a o qc n,vs.getD i .none=.ref a/\s.heap.get? a=some o/\o.data=.seq qc n/\aJ ((kss.getD i []).map kV) qc.toList)(q:Q (pH (fun i j=>mN (kss.getD i []) (kss.getD j [])) (kas_sort kss.length)) s):(kas_sort vs.length).kasWp (kas_ask prog w A (tuples' b) vs) Q s:=by
 rw[hl];have mem:∀i,i<kss.length->kss.getD i []∈kss:=fun i hi=>by rw[iZ,dM hi];exact kA hi
 refine EC (n:=kss.length) (c:=fun i j=>mN (kss.getD i []) (kss.getD j [])) (fun i j C hi hj hC=>?_) _ (xH h2) q;obtain⟨a,o,qc,n,e1,e2,e3,e4⟩:=hp i hi;obtain⟨a',o',its',n',f1,f2,f3,f4⟩:=hp j hj;show wpAny (model prog w) A (keyLt' (tuples' b) (vs.getD i .none) (vs.getD j .none)) C (fun _ _=>False) s;rw[e1,f1];have hz:decide (qc.size<its'.size)=false:=by
  have l1:=e4.length;have l2:=f4.length;have l3:∀{x y:List Key},alike x y=true->x.length=y.length:=fun{x}=>by
   induction x with
   |nil=>intro y h;cases y with|nil=>rfl|cons _ _=>cases h
   |cons p x ih=>intro y h;cases y with|nil=>cases h|cons r y=>rw[alike,Bool.and_eq_true]at h;simp[ih h.2]
  have:=l3 (al _ (mem i hi) _ (mem j hj));rw[bM]at l1 l2;have s1:qc.toList.length=qc.size:=kE;have s2:its'.toList.length=its'.size:=kE;exact eN (by rw[<-s1,<-s2,<-l1,<-l2,this];exact gJ _)
 refine kat_lt e2 e3 f2 f3 ?_;rw[hz];exact ED _ _ _ _ 0 e4 f4 (al _ (mem i hi) _ (mem j hj)) hC
end
section
open PySem L2
theorem xI{α:Type}(d:α)(l:List α):l=(List.range l.length).map fun i=>l.getD i d:=by
 apply List.ext_getElem?;intro i;rw[iK];by_cases hi:i<l.length
 .rw[List.getElem?_range hi,dM hi];simp[List.getD_eq_getElem?_getD,hi]
 .rw[oV (by simpa using hi),oV (by simpa using hi)];rfl
theorem qD(l:List (List Kt)):(eX l).Perm l:=by
 unfold eX;split
 .exact .refl _
 .have:=List.Perm.map (fun i=>l.getD i []) (show List.Perm _ _ from KAll.run (Q:=Pm _) (c:=fun i j=>mN (l.getD i []) (l.getD j [])) (xH (n:=l.length) (by lia)))
  rwa[<-xI]at this
theorem SN(h:pI l=some r):l.length<=60/\(∀x∈l,x≠[]/\∀y∈l,alike x y=true)/\r=.lst ((eX l).map tkT):=by
 unfold pI at h;split at h
 .rename_i hc;cases h;exact⟨hc.1,hc.2,rfl⟩
 .cases h
end
section
open PySem W Spec PyProof.Rows L2
def eT(g:Heap)(d:Addr)(en:Array DictEntry)(ep:Nat):Prop:=∃o,g.get? d=some o/\o.ExactDict/\o.data=.dict en ep
section
variable {prog:Program}{w:World}{A:Around}{E:Vq}{s:Shared}{d j:Addr}{en:Array DictEntry}{ep i:Nat}
def eT.ty(r:eT s.heap d en ep):s.TypeIs (.ref d) "dict":=let⟨o,a,b,_⟩:=r;⟨o,a,b.1⟩
def eT.to(r:eT g d en ep)(k:∀o,g.get? d=some o->g'.get? d=some o):eT g' d en ep:=let⟨o,a,b⟩:=r;⟨o,k o a,b⟩
theorem SO(hm:(d==sysModules)=false)(r:eT s.heap d en ep)(q:Q (.ref s.heap.objs.size) {s with heap:=s.heap.push {cls:=.type "dict_keyiterator",data:=.fields #[.ref d,.int 0 0,.int en.size 0,.int ep 0]} }):wpAny (model prog w) A (pyIter (.ref d)) Q E s:=by
 obtain⟨o,a,b,c⟩:=id r;refine wpAny_pyIter_slot r.ty PySem.F.slot_dict_iter (jN PySem.F.slot_dict_iter r.ty PySem.F.entry_dict_iter ?_ (PySem.F.args_dict_iter_1 _));unfold Builtin.«dict.__iter__»;refine aF ?_;unfold Builtin.Dict.dictSlotNone;refine aF (wpAny_notOrdered_dict r.ty ?_);show wpAny _ _ (pure (Value.ref d)) _ _ s;refine aQ (show wpAny _ _ (Builtin.Dict.showsAll d >>= _) _ _ s from ?_);unfold Builtin.Dict.showsAll;rw[if_neg (by rw[hm];exact dW)];refine aF (aQ (aF (uX a c (aF (wpAny_dictEpoch a c ?_)))));refine aF (jM (aQ ⟨_,rfl, "dict_keyiterator",_,⟨_,cQ _ rfl,rfl⟩,PySem.F.slot_dict_keyiterator_next.lookup,?_⟩));simpa[rawInt]using q
theorem SQ(t:s.heap.IsKeyIter j d i en.size ep)(r:eT s.heap d en ep)(hi:i<en.size)(q:∀g,g.IsKeyIter j d (i+1) en.size ep->Heap.SameBut j s.heap g->Q (some en[i].key) {s with heap:=g}):wpAny (model prog w) A (pyNext (.ref j)) Q E s:=by
 obtain⟨o,a,b,c⟩:=id t;obtain⟨od,ad,bd,cd⟩:=id r;unfold pyNext;refine aF (wpAny_attempt (lJ (name:=Str.ofString "__next__") t.typeIs PySem.F.slot_dict_keyiterator_next (jN PySem.F.slot_dict_keyiterator_next t.typeIs PySem.F.entry_dict_keyiterator_next ?_ (PySem.F.args_dict_keyiterator_next_1 _))));refine aF (aQ (aF (aF ?_)))
 first|refine aF (qY t.typeIs (aQ (aF (qZ a c ?_))))|refine aF (wpAny_typeNameOf_keyiter t.typeIs (aQ (aF (qZ a c ?_))))
 simp only[show Builtin.Dict_items.ownsTuple "dict_keyiterator"=false by decide,AD,if_false];refine(show wpAny _ _ (if(Value.ref d==Value.none)=true then _ else _) _ _ s from ?_);rw[if_neg (show ¬((Value.ref d==Value.none)=true)from dW)];refine aF (aQ (aF (uX ad cd ?_)));rw[if_neg (by simp)];refine aF (aQ (aF (wpAny_dictEpoch ad cd ?_)));rw[if_neg (by simp)];refine aQ ?_;simp only[show ¬((i:Int)<0)from by lia,if_false,Int.toNat_natCast,Array.getElem?_eq_getElem hi];refine aF ?_
 first|refine aF (qY t.typeIs (aQ (aF (wpAny_isOneOf_keyiter t.typeIs ?_))))|refine aF (wpAny_typeNameOf_keyiter t.typeIs (aQ (aF (wpAny_isOneOf_keyiter t.typeIs ?_))))
 refine(show wpAny _ _ (setField (.ref j) 1 (rawInt ((i:Int)+1)) >>= _) _ _ s from wpAny_bind (wpAny_setField a c (by simp) ?_));have t':(s.heap.update j (Obj.mapFields (·.setIfInBounds 1 (rawInt ((i:Int)+1))))).IsKeyIter j d (i+1) en.size ep :=
  ⟨_,Heap.get?_update_self _ a (Obj.isFreed_of_fields (jJ c _)),(Obj.cls_mapFields ..).trans b,by rw[jJ c];simp[rawInt]⟩
 refine aF (iY (aF (wpAny_isOneOf_keyiter (s:={s with heap:=s.heap.update j (Obj.mapFields (·.setIfInBounds 1 (rawInt ((i:Int)+1))))}) t'.typeIs ?_)));show wpAny _ _ (pure en[i].key) _ _ _;exact aQ (aQ ⟨_,rfl,aQ (q _ t' (qX ..))⟩)
theorem SR(hh:A.handled=none)(t:s.heap.IsKeyIter j d en.size en.size ep)(r:eT s.heap d en ep)(q:∀g,Heap.ExtBut j s.heap g->Q none {s with heap:=g}):wpAny (model prog w) A (pyNext (.ref j)) Q E s:=by
 obtain⟨o,a,b,c⟩:=id t;obtain⟨od,ad,bd,cd⟩:=id r;unfold pyNext;refine aF (wpAny_attempt (lJ (name:=Str.ofString "__next__") t.typeIs PySem.F.slot_dict_keyiterator_next (jN PySem.F.slot_dict_keyiterator_next t.typeIs PySem.F.entry_dict_keyiterator_next ?_ (PySem.F.args_dict_keyiterator_next_1 _))));refine aF (aQ (aF (aF ?_)))
 first|refine aF (qY t.typeIs (aQ (aF (qZ a c ?_))))|refine aF (wpAny_typeNameOf_keyiter t.typeIs (aQ (aF (qZ a c ?_))))
 simp only[show Builtin.Dict_items.ownsTuple "dict_keyiterator"=false by decide,AD,if_false];refine(show wpAny _ _ (if(Value.ref d==Value.none)=true then _ else _) _ _ s from ?_);rw[if_neg (show ¬((Value.ref d==Value.none)=true)from dW)];refine aF (aQ (aF (uX ad cd ?_)));rw[if_neg (by simp)];refine aF (aQ (aF (wpAny_dictEpoch ad cd ?_)));rw[if_neg (by simp)];refine aQ ?_;simp only[show ¬((en.size:Int)<0)from by lia,if_false,Int.toNat_natCast,Array.getElem?_eq_none (Nat.le_refl en.size)];refine aF ?_
 first|refine aF (qY t.typeIs (aQ ?_))|refine aF (wpAny_typeNameOf_keyiter t.typeIs (aQ ?_))
 refine(show wpAny _ _ (setField (.ref j) 0 .none >>= _) _ _ s from wpAny_bind (wpAny_setField a c (by simp) ?_));refine(show wpAny _ _ (newExc (.type "StopIteration") [] >>= _) _ _ _ from aF ?_);simp only[newExc,newTuple];refine aF (jM ?_ (by size_fits));refine wpAny_bind (m:=firstArgMember _ _) (wpAny_of_eq (a:=Value.none) (by first|rfl|(simp only[firstArgMember];rfl)) (wpAny_newObj_type ?_ (by size_fits)));simp only[raiseNew];refine aF (wpAny_handled ?_);rw[show A.in1.handled=none from hh];refine aF (aQ (wpAny_throw ?_));exact aF (wpAny_isInstance (T:="StopIteration") (b:=true) ⟨_,cQ _ rfl,rfl⟩ isSubtype_stop (aQ (q _ (((qX ..).extBut.push _).push _))))
theorem SS(hh:A.handled=none)(j d:Addr)(hne:d≠j)(en:Array DictEntry)(ep:Nat):Walks prog w A j [j,d] [j] en.size (fun i v=>∃e,en[i]?=some e/\v=e.key) (fun i h=>h.IsKeyIter j d i en.size ep/\eT h d en ep) where
 sub:=fun b hb=>by simp at hb;simp[hb]
 frame:=fun _ _ _ st hk=>⟨st.1.at fun o e=>hk j (by simp) o e,st.2.to fun o e=>hk d (by simp) o e⟩
 item:=fun i s Q E hi st hQ=>SQ st.1 st.2 hi fun g t' hs=>hQ _ g s.toks ⟨en[i],by simp[hi],rfl⟩ ⟨t',st.2.to fun o e=>hs.extBut d o hne e⟩ fun b o hb e=>hs.extBut b o (fun h=>hb (by simp[h])) e
 done:=fun s Q E st hQ=>SR hh st.1 st.2 fun g he=>hQ g s.toks fun b o hb e=>he b o (fun h=>hb (by simp[h])) e
 self:=fun _ _ _ _ st hQ=>wpAny_pyIter_keyiter st.1 hQ
theorem SU(lo:(d==sysModules)=false):KdlSrc prog w "dict" d d en.size (fun i v=>∃e,en[i]?=some e/\v=e.key) (fun h=>eT h d en ep) where
 type:=fun _ r=>r.ty
 there:=fun _ r=>⟨let⟨_,a,_⟩:=r;bI a,let⟨_,a,_⟩:=r;bI a⟩
 keep:=fun _ _ r hk=>r.to fun o e=>hk d (.inl rfl) o e
 notList:=by decide
 notTuple:=by decide
 hint:=fun _ _ _ _ r hq=>kdl_hint_dict r.ty hq
 iter:=fun _ s hh r=>⟨_,_,(fun _ _ hq=>SO lo r hq),SS hh _ d (cL (let⟨_,a,_⟩:=r;bI a)) en ep,⟨⟨_,cQ _ rfl,rfl,rfl⟩,r.to fun o e=>aT _ e⟩⟩
end
end
section
open PySem W Spec PyProof.Rows L2
def jH(g:Heap)(v:Value)(k:List Key):Prop:=∃a o qc n,v=.ref a/\g.get? a=some o/\o.cls=.type "tuple"/\o.data=.seq qc n/\aJ (k.map kV) qc.toList
def jH.to(h:jH g v k)(q:∀a o,v=.ref a->g.get? a=some o->g'.get? a=some o):jH g' v k :=
 let⟨a,o,qc,n,e,h1,h2⟩:=h;⟨a,o,qc,n,e,q a o e h1,h2⟩
abbrev bQ(g:Heap):List Value->List (List Key)->Prop:=Paired (jH g)
theorem bQ.get:∀{vs:List Value}{ks:List (List Key)},bQ g vs ks->∀i,i<ks.length->jH g (vs.getD i .none) (ks.getD i [])
 |_,_,.nil,i,h=>by simp at h
 |_,_,.cons r t,0,_=>by simpa using r
 |_,_,.cons r t,i+1,h=>by simpa using bQ.get t i (by simpa using h)
theorem bQ.to:∀{vs:List Value}{ks:List (List Key)},bQ g vs ks->(∀a o,g.get? a=some o->Value.ref a∈vs->g'.get? a=some o)->bQ g' vs ks
 |_,_,.nil,_=>.nil
 |_,_,.cons r t,q=>.cons (r.to fun a o e h=>q a o h (by rw[e];exact .head _)) (bQ.to t fun a o h m=>q a o h (.tail _ m))
def bQ.len(h:bQ g vs ks):vs.length=ks.length:=Paired.length h
theorem EE:∀vs:List Value,(vs.zip vs).map (·.2)=vs
 |[]=>rfl
 |v::vs=>by rw[List.zip_cons_cons,bE,EE vs]
def tyK:Key->Value
 |.inl _=>.type "int"
 |.inr (some _)=>.type "str"
 |.inr none=>.type "NoneType"
theorem SV(k:Key):(tyK k==tyK k)=true:=by
 rcases k with _|_|_
 .show(Value.type "int"==Value.type "int")=true;decide
 .show(Value.type "NoneType"==Value.type "NoneType")=true;decide
 .show(Value.type "str"==Value.type "str")=true;decide
theorem SW(h:mM a b=true):tyK a=tyK b:=by rcases a with a|_|a<;>rcases b with b|_|b<;>first|rfl|cases h
section
variable {prog:Program}{w:World}{A:Around}{E:Vq}{s:Shared}
theorem SY(r:aG (kV k) v):Looks M g (typeOf v) (tyK k):=by
 rcases k with i|_|x
 .obtain⟨t,rfl⟩:=r;exact .now
 .cases r;exact .now
 .obtain⟨t,rfl⟩:=r;exact .now
theorem EF:∀{vs:List Value}{ks:List (List Key)},bQ g vs ks->(∀k∈ks,∃a r,k=a::r/\mM k0 a=true)->∃fs,KatTups g vs fs/\fs.length=ks.length/\∀v∈fs,∃a,aG (kV a) v/\tyK a=tyK k0
 |_,_,.nil,_=>⟨[],KatTups.nil,rfl,fun _ h=>nomatch h⟩
 |_,k::ks,.cons r t,h=>by
  obtain⟨a,o,qc,n,e,h1,h2,h3,h4⟩:=r;obtain⟨b,q,rfl,hb⟩:=h k (.head _);obtain⟨fs,f1,f2,f3⟩:=EF t fun k hk=>h k (.tail _ hk);rw[bE]at h4;cases hi:qc.toList with
  |nil=>rw[hi]at h4;cases h4
  |cons u us=>
   rw[hi]at h4;cases h4 with
   |cons r0 _=>
    subst e;refine⟨u::fs,KatTups.cons h1 h2 h3 ?_ f1,by simp[f2],fun v hv=>?_⟩
    .have:qc.toList[0]?=some u:=by rw[hi];rfl
     rwa[Array.getElem?_toList]at this
    .rcases omc hv with rfl|hv
     .exact⟨b,r0,(SW hb).symm⟩
     .exact f3 v hv
theorem TC(ho:s.heap.get? a=some (seqObj "list" vs.toArray n))(hk:bQ s.heap vs kss)(ha':Value.ref a∉vs)(h5:kss.length<=60)(al:∀x∈kss,x≠[]/\∀y∈kss,alike x y=true)(h:∀(out:List Value)(p:List Nat),(∀i∈p,i<kss.length)->out=p.map (fun i=>vs.getD i .none)->eX kss=p.map (fun i=>kss.getD i [])->P (.done (.ret .none)) {s with heap:=sortedHeap s.heap a vs out.toArray}):wpAny (model prog w) A (Builtin.«list.sort» ⟨[.ref a],[]⟩) P E s:=by
 rw[list_sort_plain];have hl:=hk.len;have ha:a<s.heap.objs.size:=bI ho;have hz:vs.toArray.size<=sizeLine:=by rw[cW,fV];lia
 refine aF (listItems_at ho rfl (aF (listUpdate_at ho rfl ?_ hz (dQ _))));obtain⟨e1,ho1⟩:∃e1,(s.heap.update a (Obj.mapSeq fun _=>#[])).get? a=some (seqObj "list" #[] e1):=⟨_,get?_update_seq ho (fun _=>#[])⟩;refine aF (seqEpoch_at ho1 rfl (aF (wpAny_newTuple ?_ (by show vs.length<=_;rw[fV];lia))));refine aF (wpAny_newList (iY ?_) (dQ _));have ho6:(((s.heap.update a (Obj.mapSeq fun _=>#[])).push (seqObj "tuple" vs.toArray 0)).push (seqObj "list" #[] 0)).get? a=some (seqObj "list" #[] e1):=aT _ (aT _ ho1);have kp:∀b o,b≠a->s.heap.get? b=some o->(((s.heap.update a (Obj.mapSeq fun _=>#[])).push (seqObj "tuple" vs.toArray 0)).push (seqObj "list" #[] 0)).get? b=some o:=fun b o hb e=>aT _ (aT _ (by rw[mG _ _ _ _ hb];exact e));have hk':bQ (((s.heap.update a (Obj.mapSeq fun _=>#[])).push (seqObj "tuple" vs.toArray 0)).push (seqObj "list" #[] 0)) vs kss:=hk.to fun b o e m=>kp b o (fun z=>ha' (by rw[<-z];exact m)) e;show wpAny (model prog w) A _ P E {s with heap:=((s.heap.update a (Obj.mapSeq fun _=>#[])).push (seqObj "tuple" vs.toArray 0)).push (seqObj "list" #[] 0)};dsimp only;by_cases h2:vs.toArray.size<2
 .rw[if_pos h2,if_pos h2];refine aF (aQ ?_);rw[StateT.run_pure];refine aF (aQ ?_);dsimp only;refine aF (seqEpoch_at ho6 rfl ?_);have eo:(arrOf (SortSt.mk' general' (vs.toArray.zip vs.toArray) #[] 7 none)).map (·.2)=vs.toArray:=by show(vs.toArray.zip vs.toArray).map (·.2)=vs.toArray;apply Array.toList_inj.mp;rw[Array.toList_map,Array.toList_zip];exact EE vs
  rw[eo];refine aF (listUpdate_at ho6 rfl ?_ (dQ _) (by show vs.toArray.size<=_;lia));simp only[bne_self_eq_false,Bool.false_eq_true,if_false];have hv2:vs.length<2:=by simpa using h2
  have er:vs=(List.range kss.length).map fun i=>vs.getD i .none:=by rw[<-hl];exact xI _ vs
  have es:eX kss=(List.range kss.length).map fun i=>kss.getD i []:=by rw[eX,if_pos (by lia),<-xI]
  have:=h vs (List.range kss.length) (fun i hi=>by simpa using hi) er es;exact aQ this
 .rw[if_neg h2,if_neg h2];have hn2:2<=kss.length:=by rw[cW]at h2;lia
  obtain⟨k0,hk0⟩:∃k0:Key,∀k∈kss,∃b r,k=b::r/\mM k0 b=true:=by
   cases hks:kss with
   |nil=>rw[hks]at hn2;simp at hn2
   |cons x r=>
    have hx:x∈kss:=by rw[hks];exact .head _
    cases x with
    |nil=>exact absurd rfl (al _ hx).1
    |cons k0 x=>
     refine⟨k0,fun k hk=>?_⟩;have q:=(al _ hx).2 k (by rw[hks];exact hk);cases k with
     |nil=>cases q
     |cons b r=>rw[alike,dF]at q;exact⟨b,r,rfl,q.1⟩
  obtain⟨fs,f1,f2,f3⟩:=EF hk' hk0;refine aF (kat_kind (T:=tyK k0) f1 (by rw[f2];lia) (fun v hv=>by obtain⟨b,r,e⟩:=f3 v hv;rw[<-e];exact SY r) (SV k0) ?_);have ask:=SM (prog:=prog) (w:=w) (A:=A) (s:={s with heap:=((s.heap.update a (Obj.mapSeq fun _=>#[])).push (seqObj "tuple" vs.toArray 0)).push (seqObj "list" #[] 0)}) (b:=tyK k0 != Value.type "tuple") (vs:=vs) (kss:=kss)
   (Q:=fun p s'=>s'={s with heap:=((s.heap.update a (Obj.mapSeq fun _=>#[])).push (seqObj "tuple" vs.toArray 0)).push (seqObj "list" #[] 0)}/\(∀i∈p.toList,i<kss.length)/\eX kss=p.toList.map fun i=>kss.getD i []) hl hn2 (fun x hx y hy=>(al x hx).2 y hy)
   (fun i hi=>by obtain⟨b,o,qc,m,e,g1,g2,g3,g4⟩:=hk'.get i hi;exact⟨b,o,qc,m,e,g1,g3,g4⟩)
   ⟨rfl,fun i hi=>List.mem_range.mp ((List.Perm.mem_iff (KAll.run (Q:=Pm _) (xH hn2))).mp hi),by rw[eX,if_neg (by lia)]⟩
  refine aF (gK (kat_run (Q:=fun st' s'=>∃p:Array Nat,p.size=vs.length/\arrOf st'=p.map (kas_item (vs.toArray.zip vs.toArray))/\failedOf st'=none/\s'={s with heap:=((s.heap.update a (Obj.mapSeq fun _=>#[])).push (seqObj "tuple" vs.toArray 0)).push (seqObj "list" #[] 0)}/\(∀i∈p.toList,i<kss.length)/\eX kss=p.toList.map fun i=>kss.getD i [])
   rfl (by lia) (by lia) (fun p' st' s' a1 a2 a3 a4=>⟨p',a1,a2,a3,a4⟩) ask) ?_ fun _ _ e=>e)
  rintro⟨⟨⟩,st'⟩ s' ⟨p,hp,har,hf,rfl,p1,p2⟩;dsimp only;have hout:=kat_snds rfl har;refine aF (seqEpoch_at ho6 rfl ?_);rw[hout];refine aF (listUpdate_at ho6 rfl ?_ (dQ _) (by show(List.toArray _).size<=_;rw[cW,bM,kE,hp,fV];lia));rw[hf];simp only[bne_self_eq_false,Bool.false_eq_true,if_false];exact aQ (h _ p.toList p1 rfl p2)
def TD(ho:g.get? a=some (seqObj "list" vs.toArray n))(out:Array Value):∃c,(sortedHeap g a vs out).get? a=some (seqObj "list" out c):=by obtain⟨e1,ho1⟩:∃e1,(g.update a (Obj.mapSeq fun _=>#[])).get? a=some (seqObj "list" #[] e1):=⟨_,get?_update_seq ho (fun _=>#[])⟩;have ho6:(((g.update a (Obj.mapSeq fun _=>#[])).push (seqObj "tuple" vs.toArray 0)).push (seqObj "list" #[] 0)).get? a=some (seqObj "list" #[] e1):=aT _ (aT _ ho1);exact⟨_,get?_update_seq ho6 fun _=>out⟩
theorem TF(hb:b≠a)(e:g.get? b=some o):(sortedHeap g a vs out).get? b=some o:=by unfold sortedHeap;rw[mG _ _ _ _ hb];exact aT _ (aT _ (by rw[mG _ _ _ _ hb];exact e))
theorem EG:∀{vs:List Value}{ks:List (List Key)},bQ g vs ks->∀b,Value.ref b∈vs->b<g.objs.size
 |_,_,.nil,_,h=>nomatch h
 |_,_,.cons r t,b,h=>by
  rcases omc h with e|h
  .obtain⟨a,o,_,_,rfl,h1,_⟩:=r;cases e;exact bI h1
  .exact EG t b h
theorem TH (h:wpAny (model prog w) A.in1 (collect r) (fun vs s1=>∃kss,bQ s1.heap vs kss/\kss.length<=60/\(∀x∈kss,x≠[]/\∀y∈kss,alike x y=true) /\
   ∀(out:List Value)(p:List Nat)(c:Nat)(g:Heap),(∀i∈p,i<kss.length)->out=p.map (fun i=>vs.getD i .none)->eX kss=p.map (fun i=>kss.getD i [])->(∀b o,s1.heap.get? b=some o->g.get? b=some o)->
    g.get? s1.heap.objs.size=some {cls:=.type "list",data:=.seq out.toArray c}->Q (.ref s1.heap.objs.size) {s1 with heap:=g}) E s):wpAny (model prog w) A (call (.builtin "sorted") [r]) Q E s:=by
 refine Calls.call_function_entry kind_sorted plain_sorted entry_sorted (args_sorted1 _) ?_;unfold Builtin.«sorted»;refine aF (m:=checkCount "sorted" 1 1 _) (aQ ?_);refine aF (gK h (fun vs s1 x=>?_) fun _ _ e=>e);obtain⟨kss,hk,h5,al,q⟩:=x;have hl:=hk.len;refine aF (wpAny_newList ?_ (by rw[fV];lia));have hoL:(s1.heap.push (seqObj "list" vs.toArray 0)).get? s1.heap.objs.size=some (seqObj "list" vs.toArray 0):=cQ _ rfl;refine aF (iY (jN slot_list_sort ⟨_,hoL,rfl⟩ entry_list_sort ?_ (args_list_sort _)));refine TC (s:={s1 with heap:=s1.heap.push (seqObj "list" vs.toArray 0)}) hoL (hk.to fun b o e _=>aT _ e) (fun m=>gJ _ (EG hk _ m)) h5 al fun out p p1 p2 p3=>⟨_,rfl,?_⟩;obtain⟨c,hc⟩:=TD hoL out.toArray;exact aQ ⟨_,rfl,q out p c _ p1 p2 p3 (fun b o e=>TF (cL (bI e)) (aT _ e)) hc⟩
end
end
section
open PySem W Spec PyProof.Rows L2
variable {as:List Addr}
theorem TJ{K:W.Frag}{F:Hp}(k:Kt):Rep K F (kT k) (kV k):=by rcases k with _|_|_<;>rfl
theorem EH{K:W.Frag}{F:Hp}:∀ks:List Kt,aH K F (ks.map kT) (ks.map kV)
 |[]=>rfl
 |k::ks=>⟨_,_,rfl,TJ k,EH ks⟩
theorem EI{K:W.Frag}{F:Hp}{as:List Addr}{kss:List (List Kt)}(hF:∀i,i<kss.length->F (as.getD i 0)=some (.tup ((kss.getD i []).map kV))):∀{p:List Nat},(∀i∈p,i<kss.length) ->aH K F ((p.map fun i=>kss.getD i []).map tkT) (p.map fun i=>V.ref (as.getD i 0))
 |[],_=>rfl
 |i::p,h=>⟨_,_,rfl,⟨_,_,rfl,hF i (h i (.head _)),EH _⟩,EI hF fun j hj=>h j (.tail _ hj)⟩
theorem TL(I1:L2.Inv X pj O H1 s1)(fh:Same F1 H1){kss:List (List Kt)}(hl:as.length=kss.length)(hF:∀i,i<kss.length->F1 (as.getD i 0)=some (.tup ((kss.getD i []).map kV))){p:List Nat}{out:List Value}{c:Nat}{g:Heap}(p1:∀i∈p,i<kss.length)(p2:out=p.map (fun i=>(as.map Value.ref).getD i .none))(p3:eX kss=p.map (fun i=>kss.getD i []))(h5:kss.length<=60)(kp:∀b o,s1.heap.get? b=some o->g.get? b=some o)(hD:g.get? s1.heap.objs.size=some {cls:=.type "list",data:=.seq out.toArray c})(q:∀v F' H',Step F1 H1 F' H'->Rep X.K F' (.lst ((eX kss).map tkT)) v->Q v H'):EP X pj O Q (.ref s1.heap.objs.size) {s1 with heap:=g}:=by
 have hn:H1 s1.heap.objs.size=none:=I1.hok.fresh (bH _);have hp:p.length=kss.length:=by rw[<-(qD kss).length_eq,p3,bM]
 have rv:aJ (p.map fun i=>V.ref (as.getD i 0)) out:=by
  subst p2;clear p3 hD hp
  induction p with
  |nil=>exact .nil
  |cons i p ih=>
   refine .cons ?_ (ih fun j hj=>p1 j (.tail _ hj));have hi:i<as.length:=by rw[hl];exact p1 i (.head _)
   show(as.map Value.ref).getD i .none=Value.ref (as.getD i 0);simp[hi]
 have I2:=I1.laid (a:=s1.heap.objs.size) (o:=.lst (p.map fun i=>V.ref (as.getD i 0))) (t':=s1.toks) kp (bH _) ⟨by rw[bM,hp,fV];lia,out,c,rv,hD⟩;have st:=(Step.refl fh).new (o:=.lst (p.map fun i=>V.ref (as.getD i 0))) hn;refine⟨.ref s1.heap.objs.size,_,I2,rfl,q _ _ _ st ⟨_,_,rfl,Ls.of bN,?_⟩⟩;rw[p3];exact EI (fun i hi=>st.ff _ _ (hF i hi)) p1
theorem EJ{H:Hp}:∀{ws:Kq}{zs:List (List Key×Addr×Value)},KT H ws zs->∀i,i<ws.length->H ((zs.map (·.2.1)).getD i 0)=some (.tup (((ws.map (·.1)).getD i []).map kV))
 |_,_,.nil,i,h=>by simp at h
 |_,_,.cons r t,0,_=>by simpa using r.2.1
 |_,_,.cons r t,i+1,h=>by simpa using EJ t i (by simpa using h)
theorem EL{P:Program}{w:World}{H:Hp}{g:Heap}(ok:∀a xs,H a=some (.tup xs)->∃qc:List Value,aJ xs qc/\IsTup g a qc.toArray):∀{as:List Addr}{kss:List (List Kt)},as.length=kss.length->(∀i,i<kss.length->H (as.getD i 0)=some (.tup ((kss.getD i []).map kV)))->bQ g (as.map Value.ref) kss
 |[],[],_,_=>.nil
 |a::as,k::ks,hl,h=>by refine .cons ?_ (EL (P:=P) (w:=w) ok (by simpa using hl) fun i hi=>by simpa using h (i+1) (by simpa using hi));obtain⟨qc,rv,o,h1,h2,n,h3⟩:=ok a (k.map kV) (by simpa using h 0 (by simp));exact⟨a,o,qc.toArray,n,rfl,h1,h2,h3,by simpa using rv⟩
theorem TM{F H:Hp}(fh:Same F H)(h:∀a∈as,∃xs,H a=some (.tup xs)):∃F1,Step F H F1 H/\∀a∈as,F1 a=H a:=by
 refine⟨fun b=>if b∈as then H b else F b,⟨SameT.refl H,fun b o e=>?_,fun b o e=>?_,fun b z=>?_⟩,fun a ha=>by simp[ha]⟩
 .by_cases hb:b∈as
  .simp[hb,fh b o e]
  .simp[hb,e]
 .by_cases hb:b∈as
  .simpa[hb]using e
  .simp[hb]at e;exact fh b o e
 .by_cases hb:b∈as
  .exact .inr (.inr (h b hb))
  .simp[hb]at z;exact .inl z
def TN{i:Nat}(h:i<as.length):as.getD i 0∈as:=by rw[iZ,dM h];exact kA h
theorem TQ{X:Cx}{pj:Pq}{O:L2.St}{H:Hp}{s:Shared}(I:L2.Inv X pj O H s){g:Heap}(k:∀b o,s.heap.get? b=some o->g.get? b=some o):∀a xs,H a=some (.tup xs)->∃qc:List Value,aJ xs qc/\IsTup g a qc.toArray:=fun a xs h=>by obtain⟨_,qc,r,o,h1,h2⟩:=(show aU X.prog X.w H s.heap a (.tup xs)from I.hok a _ h);exact⟨qc,r,o,k a o h1,h2⟩
theorem TR(hu:X.A.units+100<cLine)(hcalm:X.calm=true):iA X (.builtin "sorted") (fun xs H Q=>∃F t1 t x,xs=[x]/\Same F H/\Rep X.K F t1 x/\bW .sorted t1=some t/\∀v F' H',Step F H F' H'->Rep X.K F' t v->Q v H'):=by
 rintro pj s O H xs us Q I r⟨F,t1,t,x,rfl,fh,r1,ht,q⟩;obtain⟨u,rfl,ru⟩:=iC r;have hh:X.A.handled=none:=I.ok.hd hcalm;cases t1 with
 |dt ks ts=>
  obtain⟨a,ws,rfl,g1,g2,g3⟩:=r1;cases ru;obtain⟨h5,al,rfl⟩:=SN ht;obtain⟨z,lo,zs,rel,o,es,ep,e1,e2,e3,e4,e5,e6⟩:=wV I.hok (fh _ _ g1);subst g2;have hlz:ws.length=zs.length:=Paired.length rel;have hle:es.size=zs.length:=by rw[<-kE,e4,bM]
  have hln:(zs.map (·.2.1)).length=(ws.map (·.1)).length:=by simp[hlz]
  have hA:∀i,i<(ws.map (·.1)).length->H ((zs.map (·.2.1)).getD i 0)=some (.tup (((ws.map (·.1)).getD i []).map kV)):=fun i hi=>EJ rel i (by simpa using hi);refine TH (kdu_collect (A:=X.A.in1) (SU (en:=es) (ep:=ep) lo) hh ⟨o,e1,e2,e3⟩ (by rw[hle,<-hlz];exact z) fun h' tk acc hk hacc=>?_);have ea:acc.toList=(zs.map (·.2.1)).map Value.ref:=by
   apply List.ext_getElem?;intro i;by_cases hi:i<zs.length
   .have hi':i<acc.size:=by rw[hacc.1,hle];exact hi
    obtain⟨e,he,hv⟩:=hacc.2 i acc[i] (by simp[hi']);rw[Array.getElem?_toList,qW hi',hv,eG,iK,dM hi];rw[<-Array.getElem?_toList,e4,iK,dM hi]at he;cases he;rfl
   .rw[oV (by rw[Array.length_toList,hacc.1,hle];lia),oV (by simp;lia)]
  refine⟨ws.map (·.1),?_,h5,al,fun out p c g p1 p2 p3 kp hD=>?_⟩
  .rw[ea];exact EL (P:=X.prog) (w:=X.w) (TQ I hk) hln hA
  .have I1:L2.Inv X pj O H {s with heap:=h',toks:=tk}:=I.kept hk;obtain⟨F1,st,hF⟩:=TM fh (as:=zs.map (·.2.1)) fun b hb=>by obtain⟨i,hi,rfl⟩:=List.getElem_of_mem hb;have:=hA i (by rw[<-hln];exact hi);rw[iZ,dM hi]at this;exact⟨_,this⟩
   rw[ea]at p2;exact TL (s1:={s with heap:=h',toks:=tk}) I1 st.fh hln (fun i hi=>by rw[hF _ (TN (by rw[hln];exact hi))];exact hA i hi) p1 p2 p3 h5 kp hD fun v F' H' st' r'=>q v F' H' (st.trans st') r'
 |_=>cases ht
end
section
open PySem W Spec PyProof.Rows L2
variable {xs:List (List Key×Addr×Value)}
abbrev tkd(prog:Program)(w:World):=tupleKind (eV prog w)
def sX(h:IsTupleKey (eV prog w) g k a)(q:∀o,g.get? a=some o->g'.get? a=some o):IsTupleKey (eV prog w) g' k a :=
 let⟨o,qc,n,h1,h2⟩:=h;⟨o,qc,n,q o h1,h2⟩
theorem EM:entryFor table "dict.update.loop"=some Builtin.«dict.update.loop»:=entryFor_of_tree (by kernel_rfl)
theorem sY:plainId "dict.update.loop"=true:=by decide +kernel
section
variable {prog:Program}{w:World}{A:Around}{R:Result->Shared->Prop}{I:Addr}{fp wr:List Addr}{G:Array GenState->Array GenState->Prop}{P:Nat->Value->Prop}{St:Nat->Shared->Prop}
def kP(ky:Nat->List Key)(ka:Nat->Addr)(us:Nat->Value):Nat->List (List Key×Addr×Value)
 |0=>[]
 |i+1=>storedH (kP ky ka us i) (ky i) (ka i) (us i)
theorem TU{k:List Key}:(storedH xs k a v).length<=xs.length+1:=by unfold storedH;split<;>simp
theorem EN{ky:Nat->List Key}{ka:Nat->Addr}{us:Nat->Value}:∀i,(kP ky ka us i).length<=i
 |0=>bH _
 |i+1=>dY TU (oW (EN i))
theorem sZ:∀i{x},x∈kP ky ka us i->∃j,j<i/\x.1=ky j/\x.2.1=ka j
 |0,_,h=>nomatch h
 |i+1,x,h=>by
  rw[kP]at h;unfold storedH at h;split at h
  .obtain⟨y,hy,e⟩:=omm h;obtain⟨j,hj,e1,e2⟩:=sZ i hy;refine⟨j,by lia,?_⟩;unfold putAt at e;split at e<;>(subst e;exact⟨e1,e2⟩)
  .rcases oma h with h|h
   .obtain⟨j,hj,e⟩:=sZ i h;exact⟨j,by lia,e⟩
   .rw[omg h];exact⟨i,by lia,rfl,rfl⟩
def xJ{g g':Heap}{D:Addr}(h:g.DictOfH (tkd prog w) D xs)(hD:∀o,g.get? D=some o->g'.get? D=some o)(hk:∀x∈xs,∀o,g.get? x.2.1=some o->g'.get? x.2.1=some o):g'.DictOfH (tkd prog w) D xs:=by obtain⟨o,es,ep,ho,hc,hd,he,his,hn⟩:=h;exact⟨o,es,ep,hD o ho,hc,hd,he,fun x hx=>sX (his x hx) fun o e=>hk x hx o e,hn⟩
theorem TV{n:Nat}{pr ka:Nat->Addr}{ky:Nat->List Key}{us:Nat->Value}(W:WalksS prog w A.in1 I fp wr G n P St)(D:Addr)(hf:D∉fp)(hv:∀i,i<n->∀v,P i v->v=.ref (pr i))(hnw:∀i,i<n->pr i∉wr/\ka i∉wr)(hnD:∀i,i<n->pr i≠D/\ka i≠D)(hn:n<=1000)(hu:A.in1.units+1<cLine):∀(k i:Nat)(s:Shared),n-i=k->i<=n->St i s->(∀j,j<n->IsTup s.heap (pr j) #[.ref (ka j),us j]/\IsTupleKey (eV prog w) s.heap (ky j) (ka j))->s.heap.DictOfH (tkd prog w) D (kP ky ka us i) ->(∀s',Moved (D::wr) G s s'->s'.heap.DictOfH (tkd prog w) D (kP ky ka us n)->R (.ok (.ret .none)) s')->codeAny (model prog w) A (.builtin "dict.update.loop" ⟨[.ref D,.ref I,rawInt i,.none],[]⟩) R s:=by
 have hw:D∉wr:=fun z=>hf (W.sub _ z);have hsu:∀c∈wr,c∈D::wr:=fun c hc=>dH _ hc;intro k
 induction k with
 |zero=>
  intro i s e1 e2 st ht hd r;have e3:i=n:=by lia
  subst e3;refine codeAny_builtin EM (show wpAny _ _ _ _ _ _ from ?_);rw[Around.under_plainId sY _];show wpAny _ A.in1 (pyNext (.ref I) >>= _) _ _ s;refine aF (W.done s _ _ st fun s1 mv=>?_);show wpAny _ A.in1 (Builtin.Dict.addKeywords D [] >>= fun _=>ret Value.none) _ _ s1;refine aF (show wpAny _ _ (pure ()) _ _ _ from aQ (aQ (r s1 (mv.mono hsu) ?_)));exact xJ hd (fun o e=>mv.heap D o hw e) fun x hx=>by obtain⟨j,hj,_,e⟩:=sZ _ hx;rw[e];exact fun o q=>mv.heap _ o (hnw j hj).2 q
 |succ k ih=>
  intro i s e1 e2 st ht hd r;have lt:i<n:=by lia
  refine codeAny_builtin EM (show wpAny _ _ _ _ _ _ from ?_);rw[Around.under_plainId sY _];show wpAny _ A.in1 (pyNext (.ref I) >>= _) _ _ s;refine aF (W.item i s _ _ lt st fun v s1 hP st1 mv=>?_);obtain rfl:=hv i lt v hP;dsimp only;obtain⟨⟨o,h1,h2,m,h3⟩,hk⟩:=ht i lt;have g1:s1.heap.get? (pr i)=some o:=mv.heap _ o (hnw i lt).1 h1;refine aF (iY (aF (wpAny_tryCatch ?_)));unfold Builtin.Dict.pairItems;refine aF (Looks.here (show Looks _ s1.heap (typeOf (.ref (pr i))) o.cls from(Looks.ld g1).andThen .now) ?_);rw[h2,if_pos (by decide)];refine aF (Looks.here (show Looks _ s1.heap (seqItems? (.ref (pr i))) (some #[.ref (ka i),us i])from(Looks.ld g1).andThen (by rw[h3];exact .now)) (aQ ?_));show wpAny _ _ (holding [.ref (ka i),us i] (dictSet D (.ref (ka i)) (us i))) _ _ s1;have hk1:∀j,j<n->IsTupleKey (eV prog w) s1.heap (ky j) (ka j):=fun j hj=>sX (ht j hj).2 fun o e=>mv.heap _ o (hnw j hj).2 e;have hd1:s1.heap.DictOfH (tkd prog w) D (kP ky ka us i):=xJ hd (fun o e=>mv.heap D o hw e) fun x hx=>by obtain⟨j,hj,_,e⟩:=sZ _ hx;rw[e];exact fun o q=>mv.heap _ o (hnw j (by lia)).2 q
  refine iY (wpAny_dictSet_heap (hsz:=by have:=EN (ky:=ky) (ka:=ka) (us:=us) i;rw[fV];lia) (tupleKind_room_in1 (by have:A.units+1+1<cLine:=hu;lia)) (hk1 i lt) hd1 fun h' dd' hs=>?_);refine aQ ⟨plainId_quiet sY _,ih (i+1) _ (by lia) lt ?_ (fun j hj=>⟨?_,?_⟩) dd' fun s2 mv2 d2=>r s2 ?_ d2⟩
  .exact W.frame _ s1 _ _ st1 (Nat.le_add_right _ _) fun c hc o e=>by show h'.get? c=some o;rw[hs.2 c fun z:c=D=>hf (by rw[<-z];exact hc)];exact e
  .obtain⟨o',q1,q2,q3⟩:=(ht j hj).1;exact⟨o',by show h'.get? (pr j)=some o';rw[hs.2 _ (hnD j hj).1];exact mv.heap _ o' (hnw j hj).1 q1,q2,q3⟩
  .exact sX (hk1 j hj) fun o e=>by show h'.get? (ka j)=some o;rw[hs.2 _ (hnD j hj).2];exact e
  .refine Moved.trans W.gtrans ((mv.mono hsu).then_heap (Nat.le_add_right _ _) fun c o hc e=>?_) mv2;rw[hs.2 c fun z:c=D=>hc (by rw[z];exact fK)];exact e
end
end
section
open PySem W Spec PyProof.Rows L2
def TW:typeLookup (.type "list") "keys"=pure none:=by rw[typeLookup_type,builtinLookup_eq_fast];kernel_rfl
def TX:typeLookup (.type "list") "__getattr__"=pure none:=by rw[typeLookup_type,builtinLookup_eq_fast];kernel_rfl
section
variable {prog:Program}{w:World}{A:Around}{E:Vq}{a:Addr}{xs:Array Value}{n:Nat}{sl:Array (a0 Value)}
theorem TY(hx:s.heap.get? a=some {cls:=.type "list",dict:=none,data:=.seq xs n,slots:=sl})(hA:A.handled=none)(h:∀h' tk,(∀b o,s.heap.get? b=some o->h'.get? b=some o)->Q none {s with heap:=h',toks:=tk}):wpAny (model prog w) A (getAttr? (.ref a) "keys") Q E s:=by
 obtain⟨hp,g,d,tk,os⟩:=s;have hT:∀t,(⟨hp,g,d,t,os⟩:Shared).TypeIs (.ref a) "list":=fun t=>⟨_,hx,rfl⟩;have f1:=sub_AttributeError;have f3:=F.slot_list_getattribute.lookup;have f4:=F.slot_list_getattribute.bind (.ref a);have f5:=TX;unfold getAttr? getAttrBy? getAttrBy
 repeat(any_goals (first|assumption|exact hT _|wp_step))
 refine codeAny_call_builtin F.slot_list_getattribute.plain F.entry_list_ga (F.slot_list_getattribute.check _ _ _ _ _ _ _ _ (hT _) (F.args_list_getattribute_2 _ _) ?_);have f6:=TW;have hT':=hT (tk+1);unfold Builtin.«object.__getattribute__»
 repeat(any_goals (first|assumption|exact hT _|wp_step))
 refine wpAny_raiseAttrError (by first|exact hA|simp[hA]) (fun h' tk' e hx'=>?_) (attrMsg_fits (by decide +kernel) (by rw[fV];decide +kernel));obtain⟨t',u',he⟩:=hx'.there;show wpAny _ _ (getattributeRaised _ _ _ _ _ _ _) _ _ _;unfold getattributeRaised
 repeat(any_goals (first|assumption|wp_step))
 exact h h' tk' hx'.keeps
end
end
section
open PySem W Spec PyProof.Rows L2
section
variable {prog:Program}{w:World}{A:Around}{E:Vq}{sl:Array (a0 Value)}
def TZ(h:Heap):(h.push {cls:=.type "dict",data:=.dict #[]}).DictOfH (tkd prog w) h.objs.size [] :=
 ⟨_,#[],0,cQ _ rfl,⟨rfl,rfl,rfl⟩,rfl,rfl,fun x hx=>(nomatch hx),rA⟩
theorem UA{pr ka:Nat->Addr}{ky:Nat->List Key}{us:Nat->Value}{Q:Vq}(hh:A.handled=none)(hl:s.heap.get? l=some {cls:=.type "list",dict:=none,data:=.seq qc m,slots:=sl})(hn:qc.size=N)(hN:N<=1000)(hu:A.units+10<cLine)(hp:∀i,i<N->qc[i]?=some (.ref (pr i)))(ht:∀i,i<N->IsTup s.heap (pr i) #[.ref (ka i),us i]/\IsTupleKey (eV prog w) s.heap (ky i) (ka i))(h:∀g tk,(∀b o,s.heap.get? b=some o->g.get? b=some o)->g.DictOfH (tkd prog w) s.heap.objs.size (kP ky ka us N)->Q (.ref s.heap.objs.size) {s with heap:=g,toks:=tk}):wpAny (model prog w) A (call (.type "dict") [.ref l]) Q E s:=by
 refine callType_codes (Q₁:=fun obj s₁=>obj=.ref s.heap.objs.size/\s₁={s with heap:=s.heap.push {cls:=.type "dict",data:=.dict #[]} }) F.kt_called_dict (F.kt_typeCall_dict_1 _) F.entry_dict_init (kt_code_dict_new _ ⟨rfl,rfl⟩) ?_;rintro obj s₁ ⟨rfl,rfl⟩;have hnew:(s.heap.push {cls:=.type "dict",data:=.dict #[]}).DictOfH (tkd prog w) s.heap.objs.size []:=TZ s.heap;have hty:({s with heap:=s.heap.push {cls:=.type "dict",data:=.dict #[]} }:Shared).TypeIs (.ref s.heap.objs.size) "dict":=⟨_,cQ _ rfl,rfl⟩;have hl1:(s.heap.push {cls:=.type "dict",data:=.dict #[]}).get? l=some {cls:=.type "list",dict:=none,data:=.seq qc m,slots:=sl}:=aT _ hl;refine⟨hty,F.args_dict_init_2 _ _,?_⟩;unfold Builtin.«dict.__init__»;refine aF ?_;unfold Builtin.Dict.selfAndRest;refine aF (wpAny_notOrdered_dict hty ?_);show wpAny _ _ (pure (s.heap.objs.size,[Value.ref l])) _ _ _;refine aQ ?_;show wpAny _ _ (Builtin.Dict.updateFrom "dict.__init__" s.heap.objs.size (.ref l) [] .none) _ _ _;unfold Builtin.Dict.updateFrom;refine aF (wpAny_typeOf (show Shared.TypeIs _ (.ref l) "list" from⟨_,hl1,rfl⟩) ?_);rw[if_pos (by decide)];refine wpAny_bind (TY hl1 (by simp[hh]) fun h' tk' kp=>?_);rw[if_pos (show(none:a0 Value).isNone=true from rfl)];refine aF (wpAny_rule ?_);have hl2:h'.get? l=some {cls:=.type "list",dict:=none,data:=.seq qc m,slots:=sl}:=kp _ _ hl1;have hl3:h'.IsList l qc:=⟨_,hl2,rfl,m,rfl⟩;have kp':∀b o,s.heap.get? b=some o->h'.get? b=some o:=fun b o e=>kp _ _ (aT _ e);refine aF (wpAny_pyIter_list hl3 (aQ ⟨plainId_quiet sY _,?_⟩));have ll:l<h'.objs.size:=bI hl2;have hD0:h'.get? s.heap.objs.size=some {cls:=.type "dict",data:=.dict #[]}:=kp _ _ (cQ _ rfl);have lD:s.heap.objs.size<h'.objs.size:=bI hD0;have ll0:l<s.heap.objs.size:=bI hl;have W:=(Walks.list (prog:=prog) (w:=w) (A:=A.in1.in1) (by simp[hh]) h'.objs.size l (Nat.ne_of_lt ll) qc).toS;rw[hn]at W;have lp:∀i,i<N->pr i<s.heap.objs.size:=fun i hi=>let⟨o,e,_⟩:=(ht i hi).1;bI e
 have lk:∀i,i<N->ka i<s.heap.objs.size:=fun i hi=>let⟨o,_,_,e,_⟩:=(ht i hi).2;bI e
 refine TV (pr:=pr) (ka:=ka) (ky:=ky) (us:=us) W s.heap.objs.size ?_ (fun i hi v hP=>?_) (fun i hi=>?_) (fun i hi=>⟨cL (lp i hi),cL (lk i hi)⟩) hN (by show A.units+1+1+1<cLine;lia) (N-0) 0 _ rfl (dQ _) ?_ (fun j hj=>?_) ?_ fun s' mv dd=>?_
 .simp only[List.mem_cons,List.not_mem_nil,or_false,not_or];exact⟨cL lD,Nat.ne_of_gt ll0⟩
 .exact dU (hP.symm.trans (hp i hi))
 .simp only[List.mem_cons,List.not_mem_nil,or_false];exact⟨cL (Nat.lt_trans (lp i hi) lD),cL (Nat.lt_trans (lk i hi) lD)⟩
 .exact⟨⟨_,cQ _ rfl,rfl,rfl⟩,⟨_,aT _ hl2,rfl,m,rfl⟩⟩
 .obtain⟨o,q1,q2,q3⟩:=(ht j hj).1;exact⟨⟨o,aT _ (kp' _ _ q1),q2,q3⟩,sX (ht j hj).2 fun o e=>aT _ (kp' _ _ e)⟩
 .exact xJ hnew (fun o e=>aT _ (kp _ _ e)) fun x hx=>nomatch hx
 .obtain⟨g3,gs3,d3,tk3,os3⟩:=s';have eg:gs3=s.gens:=mv.gens;have ed:d3=s.drawn:=mv.drawn;have eo:os3=s.os:=mv.os;subst eg;subst ed;subst eo;refine⟨rfl,h g3 tk3 (fun b o e=>mv.heap b o ?_ (aT _ (kp' _ _ e))) dd⟩;have hb:=bI e;simp only[List.mem_cons,List.not_mem_nil,or_false,not_or];exact⟨cL hb,cL (Nat.lt_trans hb lD)⟩
end
end
section
open PySem Spec PyProof.Rows L2
abbrev dE{κ:Type}(K:W.Frag)(F:Hp):List (κ×T)->List (κ×V)->Prop:=Paired fun p q=>q.1=p.1/\Rep K F p.2 q.2
section
variable {κ:Type}[DecidableEq κ]{K:W.Frag}{F:Hp}
theorem dE.of:∀{qb:List (κ×T)}{ws:List (κ×V)},ws.map (·.1)=qb.map (·.1)->aH K F (qb.map (·.2)) (ws.map (·.2))->dE K F qb ws
 |[],[],_,_=>.nil
 |[],_::_,h,_=>by simp at h
 |_::_,[],h,_=>by simp at h
 |p::qb,q::ws,h,r=>by rw[bE,bE]at h;injection h with h1 h2;obtain⟨v,vr,e,r1,r2⟩:=r;rw[bE]at e;injection e with e1 e2;exact .cons ⟨h1,by rw[e1];exact r1⟩ (dE.of h2 (by rw[e2];exact r2))
def dE.keys{qb:List (κ×T)}{ws:List (κ×V)}(r:dE K F qb ws):ws.map (·.1)=qb.map (·.1):=by
 induction r with
 |nil=>rfl
 |cons h t ih=>rw[bE,bE,ih,h.1]
def dE.vals{qb:List (κ×T)}{ws:List (κ×V)}(r:dE K F qb ws):aH K F (qb.map (·.2)) (ws.map (·.2)):=by
 induction r with
 |nil=>rfl
 |cons h t ih=>exact⟨_,_,rfl,h.2,ih⟩
theorem dE.any(r:dE K F qb ws)(k:κ):(ws.any fun kv=>decide (kv.1=k))=qb.any fun kv=>decide (kv.1=k):=by
 induction r with
 |nil=>rfl
 |cons h t ih=>rw[iJ,iJ,ih,h.1]
theorem dE.put(r:dE K F qb ws)(k:κ)(ry:Rep K F y v):dE K F (eW qb k y) (gQ ws k v):=by
 unfold eW gQ;rw[r.any k];by_cases e:(qb.any fun kv=>decide (kv.1=k))=true
 .rw[if_pos e,if_pos e];clear e
  induction r with
  |nil=>exact .nil
  | @cons p q ps qs h t ih=>
   rw[bE,bE];refine .cons ?_ ih;by_cases e:p.1=k
   .rw[if_pos e,if_pos (h.1.trans e)];exact⟨h.1,ry⟩
   .rw[if_neg e,if_neg (fun z=>e (h.1.symm.trans z))];exact h
 .rw[if_neg e,if_neg e];exact Paired.snoc r ⟨rfl,ry⟩
end
end
section
open PySem W Spec PyProof.Rows L2
theorem EO:∀{xs:List T}{l:List (List Kt×T)},lN xs=some l->xs.length=l.length/\∀i(h:i<l.length),∃x,xs[i]?=some x/\rS x=some l[i]
 |[],l,h=>by cases h;exact⟨rfl,fun i hi=>absurd hi (Nat.not_lt_zero _)⟩
 |x::r,l,h=>by
  obtain⟨p,h1,h⟩:=obs h;obtain⟨ps,h2,h⟩:=obs h;cases h;obtain⟨e,g⟩:=EO h2;refine⟨by simp[e],fun i hi=>?_⟩;cases i with
  |zero=>exact⟨x,rfl,h1⟩
  |succ i=>exact g i (by simpa using hi)
theorem UB(I:Inv X pj O H s)(fh:Same F H)(h:rS x=some p)(r:Rep X.K F x v)(ru:aG v u):∃(q c:Addr)(y:V)(z:Value),u=.ref q/\IsTup s.heap q #[.ref c,z]/\H c=some (.tup (p.1.map kV))/\F c=some (.tup (p.1.map kV))/\Rep X.K F p.2 y/\aG y z:=by
 unfold rS at h;split at h
 .rename_i ks w;obtain⟨k,hk,rfl⟩:=oms h;obtain⟨q,vs,qc,rfl,rfl,g1,g2,g3,g4⟩:=mT I fh r ru;obtain⟨v1,r1,rfl,k1,v2,r2,rfl,k2,rfl⟩:=g2;cases g3 with
  |cons a1 g3=>
   cases g3 with
   |cons a2 g3=>cases g3;obtain⟨c,ws,rfl,m1,m2⟩:=k1;have:=wZ m2 hk;subst this;cases a1;exact⟨q,c,v2,_,rfl,g4,fh _ _ m1,m1,k2,a2⟩
 .cases h
theorem UC(hcalm:X.calm=true)(hu:X.A.units+100<cLine):iA X (.type "dict") (fun zs H Q=>∃F xs l x,zs=[x]/\Same F H/\Rep X.K F (.lst xs) x/\lN xs=some l/\l.length<=1000/\∀v F' H',Step F H F' H'->Rep X.K F' (.dt ((gO l).map (·.1)) ((gO l).map (·.2))) v->Q v H'):=by
 rintro pj s O H zs us Q I r⟨F,xs,l,x,rfl,fh,r1,hp,h1000,q⟩;obtain⟨u,rfl,ru⟩:=iC r;obtain⟨a,vs,rfl,g1,g2⟩:=r1;cases ru;obtain⟨z,qc,n,rv,ho⟩:=(Ls.same fh g1).ok I;obtain⟨e1,hg⟩:=EO hp;have hl:qc.length=l.length:=by rw[<-rv.length,g2.length,e1]
 have ex:∀i,∃f:Addr×Addr×V×Value,i<l.length->qc[i]?=some (.ref f.1)/\IsTup s.heap f.1 #[.ref f.2.1,f.2.2.2]/\H f.2.1=some (.tup ((l.getD i ([],.non)).1.map kV))/\Rep X.K F (l.getD i ([],.non)).2 f.2.2.1/\aG f.2.2.1 f.2.2.2:=fun i=>by
  by_cases hi:i<l.length
  .obtain⟨x,hx,hpx⟩:=hg i hi;obtain⟨v,hv,rv1⟩:=g2.get hx;obtain⟨u,hu',ru⟩:=rv.get hv;obtain⟨q,c,y,z,rfl,t1,t2,_,t3,t4⟩:=UB I fh hpx rv1 ru;have el:l.getD i ([],.non)=l[i]:=by rw[iZ,dM hi];rfl
   exact⟨(q,c,y,z),fun _=>⟨hu',t1,by rw[el];exact t2,by rw[el];exact t3,t4⟩⟩
  .exact⟨(0,0,.non,.none),fun z=>absurd z hi⟩
 obtain⟨f,hf⟩:=Classical.axiomOfChoice ex;refine UA (pr:=fun i=>(f i).1) (ka:=fun i=>(f i).2.1) (ky:=fun i=>(l.getD i ([],.non)).1) (us:=fun i=>(f i).2.2.2) (N:=l.length) (I.ok.hd hcalm) ho (by simpa using hl) h1000 (by lia) (fun i hi=>by simpa using(hf i hi).1) (fun i hi=>⟨(hf i hi).2.1,oF I.hok (hf i hi).2.2.1⟩) fun g tk kp dd=>?_;have main:∀i,i<=l.length->∃ws:Kq,KT H ws (kP (fun i=>(l.getD i ([],.non)).1) (fun i=>(f i).2.1) (fun i=>(f i).2.2.2) i)/\dE X.K F (gO (l.take i)) ws/\ws.length<=i:=by
  intro i
  induction i with
  |zero=>exact fun _=>⟨[],.nil,.nil,bH _⟩
  |succ i ih=>
   intro hi;obtain⟨ws,k1,k2,k3⟩:=ih (by lia);obtain⟨t1,t2,t3,t4,t5⟩:=hf i (by lia);refine⟨gQ ws (l.getD i ([],.non)).1 (f i).2.2.1,k1.put _ t3 t5,?_,?_⟩
   .have e:l.take (i+1)=l.take i++[l.getD i ([],.non)]:=by rw[List.take_succ,dM (show i<l.length by lia),iZ,dM (show i<l.length by lia)];rfl
    have e2:gO (l.take (i+1))=eW (gO (l.take i)) (l.getD i ([],.non)).1 (l.getD i ([],.non)).2:=by unfold gO;rw[e,List.foldl_append];rfl
    rw[e2];exact k2.put _ t4
   .have:=wU ws (l.getD i ([],.non)).1 (f i).2.2.1;lia
 obtain⟨ws,k1,k2,k3⟩:=main l.length (bH _);rw[List.take_length]at k2;have hn:H s.heap.objs.size=none:=I.hok.fresh (bH _);have hsys:(s.heap.objs.size==sysModules)=false:=by have:=I.big;simpa using Nat.ne_of_gt this
 obtain⟨o,es,ep,d1,d2,d3,d4,d5,d6⟩:=dd;have I1:=I.laid (a:=s.heap.objs.size) (o:=.dT ws) (t':=tk) kp (bH _) ⟨by rw[fV];lia,hsys,_,k1.keeps fun c ys ec=>by rw[aR (cS ec hn)];exact ec,o,es,ep,d1,d2,d3,d4,d6⟩;have st:=(Step.refl fh).new (o:=.dT ws) hn;exact⟨.ref s.heap.objs.size,_,I1,rfl,q _ _ _ st ⟨_,ws,rfl,bN,k2.keys,k2.vals.mono st.ff⟩⟩
end
section
open PySem Spec PyProof.Rows L2
variable {ys:Array (Int×Tok)}
def BlS(X:Cx)(f:Value)(g:T->a0 T):Prop :=
 iA X f (fun xs H Q=>∃F t1 t x,xs=[x]/\Same F H/\Rep X.K F t1 x/\g t1=some t/\∀v F' H',Step F H F' H'->Rep X.K F' t v->Q v H')
theorem UD:BlS X (.builtin "len") (bW .len):=by
 rintro pj s O H xs us Q I r⟨F,t1,t,x,rfl,fh,r1,ht,q⟩;cases t1 with
 |tup ts=>obtain⟨l,vs,rfl,h1,h2⟩:=r1;cases ht;exact BM pj s O H _ us Q I r ⟨l,vs,rfl,.inr (dC fh h1),q _ F H (Step.refl fh) (by rw[h2.length];rfl)⟩
 |lst ts=>obtain⟨l,vs,rfl,h1,h2⟩:=r1;cases ht;exact BM pj s O H _ us Q I r ⟨l,vs,rfl,.inl (Ls.same fh h1).sq,q _ F H (Step.refl fh) (by rw[h2.length];rfl)⟩
 |_=>cases ht
theorem UE:BlS X (.type "int") (bW .toInt):=by
 rintro pj s O H xs us Q I r⟨F,t1,t,x,rfl,fh,r1,ht,q⟩;cases t1 with
 |int i=>cases r1;cases ht;exact AU pj s O H _ us Q I r (.inl ⟨i,rfl,q _ F H (Step.refl fh) rfl⟩)
 |bl k=>cases r1;cases ht;exact AU pj s O H _ us Q I r (.inr ⟨k,rfl,q _ F H (Step.refl fh) rfl⟩)
 |_=>cases ht
theorem UF:BlS X (.type "list") (bW .toList):=by
 rintro pj s O H xs us Q I r⟨F,t1,t,x,rfl,fh,r1,ht,q⟩;have fin:∀{vs:List V}{ts:List T},aH X.K F ts vs->t=.lst ts->∀l,H l=none->Q (.ref l) (aL H l (.lst vs)):=fun{vs ts}h2 e l hl=>by subst e;have st:=(Step.refl fh).new (o:=.lst vs) hl;exact q _ _ _ st ⟨l,vs,rfl,Ls.of bN,h2.mono st.ff⟩
 cases t1 with
 |tup ts=>obtain⟨l,vs,rfl,h1,h2⟩:=r1;cases ht;exact rO pj s O H _ us Q I r ⟨l,vs,rfl,.inr (dC fh h1),fin h2 rfl⟩
 |lst ts=>obtain⟨l,vs,rfl,h1,h2⟩:=r1;cases ht;exact rO pj s O H _ us Q I r ⟨l,vs,rfl,.inl (Ls.same fh h1).sq,fin h2 rfl⟩
 |_=>cases ht
theorem UG:BlS X (.type "tuple") (bW .toTuple):=by
 rintro pj s O H xs us Q I r⟨F,t1,t,x,rfl,fh,r1,ht,q⟩;cases t1 with
 |tup ts=>obtain⟨l,vs,rfl,h1,h2⟩:=r1;cases ht;exact BN pj s O H _ us Q I r ⟨l,vs,rfl,.inr ⟨dC fh h1,q _ F H (Step.refl fh) ⟨l,vs,rfl,h1,h2⟩⟩⟩
 |lst ts=>obtain⟨l,vs,rfl,h1,h2⟩:=r1;cases ht;refine BN pj s O H _ us Q I r ⟨l,vs,rfl,.inl ⟨(Ls.same fh h1).sq,fun l' hl=>?_⟩⟩;have st:=(Step.refl fh).new (o:=.tup vs) hl;exact q _ _ _ st ⟨l',vs,rfl,bN,h2.mono st.ff⟩
 |_=>cases ht
theorem UH{K:W.Frag}{F:Hp}{ts:List T}:∀{vs:List V}{ns:List Int},aH K F ts vs->vS ts=some ns->vs=ns.map V.int:=by
 induction ts with
 |nil=>intro _ _ h e;cases h;cases e;rfl
 |cons t ts ih=>
  intro _ _ h e;cases t with
  |int i=>obtain⟨v,w,rfl,h1,h2⟩:=h;obtain⟨ms,e1,rfl⟩:=oms e;cases h1;rw[ih h2 e1];rfl
  |_=>cases e
theorem EQ(hcalm:X.calm=true){f:Value}{g:List Int->a0 T}{k:Array (Int×Tok)->Nat}(M:∀{s l ys Q E},X.A.handled=none->s.heap.IsList l (intItems ys)->0<ys.size->(∀v h' tk,(intItems ys)[k ys]?=some v->(∀b o,s.heap.get? b=some o->h'.get? b=some o)->Q v {s with heap:=h',toks:=tk})->wpAny (model X.prog X.w) X.A (call f [.ref l]) Q E s)(B:∀ys,0<ys.size->g (ys.toList.map (·.1))=some (.int (numAt ys (k ys))))(Z:g []=none):BlS X f (vV g):=by
 rintro pj s O H xs us Q I r⟨F,t1,t,x,rfl,fh,r1,ht,q⟩;cases t1 with
 |lst ts=>
  obtain⟨l,vs,rfl,h1,h2⟩:=r1;obtain⟨u,rfl,ru⟩:=iC r;cases ru;obtain⟨ns,hns,ht⟩:=obs ht;have hvs:=UH h2 hns;subst hvs;obtain⟨qc,rv,hl,hz⟩:=sV I (Ls.same fh h1);have hi:=NE rv;obtain⟨ys,e⟩:=hi.allInts.items;have hn:ns=ys.toList.map (·.1):=by rw[<-hi.numsOf,<-nums_intItems,<-e]
  have hsz:0<ys.size:=Nat.pos_of_ne_zero fun z=>by rw[hn,show ys.toList=[]from by simpa using z,List.map_nil,Z]at ht;cases ht
  rw[hn,B ys hsz]at ht;cases ht;rw[e]at hl;refine M (I.ok.hd hcalm) hl hsz fun v h' tk hv hk=>?_;obtain⟨t',rfl⟩:=intItems_at hv;exact⟨.int _,H,I.kept hk,⟨_,rfl⟩,q _ F H (Step.refl fh) rfl⟩
 |_=>cases ht
theorem ER{i:Nat}(h:i<ys.size):numAt ys i∈ys.toList.map (·.1):=by rw[numAt_eq];exact getD_mem (by rw[bM,kE];exact h)
theorem ES{a:Int}(h:a∈ys.toList.map (·.1)):∃j,j<=ys.size-1/\a=numAt ys j:=by obtain⟨j,hj,rfl⟩:=mem_getD h;rw[bM,kE]at hj;exact⟨j,by lia,(numAt_eq ..).symm⟩
theorem UI(hc:X.calm=true):BlS X (.builtin "min") (bW .least):=EQ hc min_intList (fun ys h=>by obtain⟨b1,b2⟩:=argBest_lt (numAt ys) (ys.size-1);rw[vT,List.min?_eq_some_iff.mpr ⟨ER (Nat.lt_of_le_of_lt b1 (by lia)),fun a ha=>by obtain⟨j,hj,rfl⟩:=ES ha;exact b2 j hj⟩];rfl) rfl
theorem UJ(hc:X.calm=true):BlS X (.builtin "max") (bW .most):=EQ hc max_intList (fun ys h=>by obtain⟨b1,b2⟩:=argBest_gt (numAt ys) (ys.size-1);rw[vU,List.max?_eq_some_iff.mpr ⟨ER (Nat.lt_of_le_of_lt b1 (by lia)),fun a ha=>by obtain⟨j,hj,rfl⟩:=ES ha;exact b2 j hj⟩];rfl) rfl
theorem ET{K:W.Frag}{F:Hp}:∀{ts:List T}{vs:List V}{bs:List Bool},aH K F ts vs->nW ts=some bs->vs=bs.map V.bl
 |[],_,_,h,e=>by cases h;cases e;rfl
 |t::ts,_,_,h,e=>by
  cases t with
  |bl i=>obtain⟨v,w,rfl,h1,h2⟩:=h;obtain⟨ms,e1,rfl⟩:=oms e;cases h1;rw[ET h2 e1];rfl
  |_=>cases e
theorem EU:∀{bs:List Bool}{us:List Value},aJ (bs.map V.bl) us->us=bs.map Value.bool
 |[],_,h=>by cases h;rfl
 |b::bs,_,h=>by
  rw[bE]at h;cases h with
  |cons h1 h2=>cases h1;rw[EU h2];rfl
theorem UK(hcalm:X.calm=true):BlS X (.builtin "any") (bW .any):=by
 rintro pj s O H xs us Q I r⟨F,t1,t,x,rfl,fh,r1,ht,q⟩;cases t1 with
 |lst ts=>
  obtain⟨l,vs,rfl,h1,h2⟩:=r1;obtain⟨u,rfl,ru⟩:=iC r;cases ru;simp only[bW]at ht;obtain⟨bs,hbs,rfl⟩:=oms ht;have hvs:=ET h2 hbs;subst hvs;obtain⟨qc,rv,hl,hz⟩:=sV I (Ls.same fh h1);have ei:=EU rv;subst ei;have hlt:l<s.heap.objs.size:=by obtain⟨_,e,_⟩:=hl;exact bI e
  refine call_any_walk (wpAny_pyIter_list hl ?_);refine⟨s.heap.objs.size,[s.heap.objs.size,l],[s.heap.objs.size],(bs.map Value.bool).toArray.size,_,_,fun i=>(bs[i]?).getD true,rfl,Walks.list (A:=X.A.in1) (I.ok.hd hcalm) _ l (cL hlt) (bs.map Value.bool).toArray,
   ⟨⟨_,cQ _ rfl,rfl,rfl⟩,hl.push _⟩,fun i v s' Q' E' hP hQ=>?_,fun h' tk hk=>?_⟩
  .have hP':(bs.map Value.bool)[i]?=some v:=by simpa using hP
   rw[iK]at hP';obtain⟨b,hb,rfl⟩:=oms hP';replace hQ:Q' ((bs[i]?).getD true) s':=hQ;rw[hb]at hQ;exact wpAny_truthy_bool hQ
  .have e:((List.range (bs.map Value.bool).toArray.size).any fun i=>(bs[i]?).getD true)=bs.any id:=by
    rw[cW,bM];have:∀(l:List Bool),((List.range l.length).any fun i=>(l[i]?).getD true)=l.any id:=by
     intro l
     induction l with
     |nil=>rfl
     |cons a l ih=>rw[gC,List.range_succ_eq_map,iJ,List.any_map,iJ,<-ih];rfl
    exact this bs
   rw[e];exact⟨.bl _,H,I.kept fun b o eo=>hk b o (fun hm=>by rw[omg hm]at eo;exact gJ _ (bI eo)) (aT _ eo),rfl,q _ F H (Step.refl fh) rfl⟩
 |_=>cases ht
def UL(hu:X.A.units+100<cLine)(hcalm:X.calm=true):BlS X (.builtin "sorted") (bW .sorted):=TR hu hcalm
def lU(ha:Oke X c a f)(hs:starEach [a] X.env=[(false,eval a X.env)]):PA X [a] (spL X c fun r=>(f r).bind fun x=>some [x]):=by refine xC (xD ha DR hs) fun O H Q q=>?_;obtain⟨r,F,ts,e,ht,q⟩:=q;exact⟨r,F,ts,e,ht,q⟩
theorem qE(gd:Gd X c G k){id:String}{f:Env->a0 T}{g:T->a0 T}(hc:BlS X (.builtin id) g)(hb:x∈bnames)(hg:glB c.sc x=true)(hv:bootBuiltins x=some (.builtin id))(hn:x≠"__name__")(hdb:(x==("__debug__":Str))=false)(ha:Oke X c a f)(hs:starEach [a] X.env=[(false,eval a X.env)]):Oke X c (.Call (.Name x p) [a] [] pos) (fun r=>(f r).bind fun x=>g x):=by
 refine fH (pC hc (gd.gl x hg) (gd.nob x hb) hv (lU ha hs) hn hdb hs rfl) fun O H Q q=>?_;obtain⟨r,F,t,e,ht,q⟩:=q;obtain⟨t1,e1,ht⟩:=obs ht;refine⟨r,F,[t1],e,fW.mpr ⟨t1,e1,rfl⟩,fun vs F' H' s1 r1=>?_⟩;obtain⟨v,w,rfl,h1,h2⟩:=r1;cases h2;exact⟨F',t1,t,v,rfl,s1.fh,h1,ht,fun v' F2 H2 s2 r2=>q v' F2 H2 (s1.trans s2) r2⟩
theorem tD(gd:Gd X c G k)(hc:BlS X (.type ty) g)(hb:x∈bnames)(hg:glB c.sc x=true)(hv:bootBuiltins x=some (.type ty))(hn:x≠"__name__")(hdb:(x==("__debug__":Str))=false)(ha:Oke X c a f)(hs:starEach [a] X.env=[(false,eval a X.env)]):Oke X c (.Call (.Name x p) [a] [] pos) (fun r=>(f r).bind fun x=>g x):=by
 refine fH (BC hc (gd.gl x hg) (gd.nob x hb) hv (lU ha hs) hn hdb hs rfl) fun O H Q q=>?_;obtain⟨r,F,t,e,ht,q⟩:=q;obtain⟨t1,e1,ht⟩:=obs ht;refine⟨r,F,[t1],e,fW.mpr ⟨t1,e1,rfl⟩,fun vs F' H' s1 r1=>?_⟩;obtain⟨v,w,rfl,h1,h2⟩:=r1;cases h2;exact⟨F',t1,t,v,rfl,s1.fh,h1,ht,fun v' F2 H2 s2 r2=>q v' F2 H2 (s1.trans s2) r2⟩
theorem UM(hcalm:X.calm=true)(hu:X.A.units+100<cLine):BlS X (.type "dict") (bW .dict):=by
 rintro pj s O H xs us Q I r⟨F,t1,t,x,rfl,fh,r1,ht,q⟩;cases t1 with
 |lst ts=>
  obtain⟨l,hl,ht⟩:=obs (show((lN ts).bind fun l=>if l.length<=1000 then some (T.dt ((gO l).map (·.1)) ((gO l).map (·.2)))else none)=some t from ht);split at ht
  .rename_i hz;cases ht;exact UC hcalm hu pj s O H _ _ Q I r ⟨F,ts,l,x,rfl,fh,r1,hl,hz,q⟩
  .cases ht
 |_=>cases ht
theorem UN(gd:Gd X c G k)(hk:wG x=some kb)(hg:glB c.sc x=true)(ha:Oke X c a f)(hs:starEach [a] X.env=[(false,eval a X.env)]):Oke X c (.Call (.Name x p) [a] [] pos) (fun r=>(f r).bind fun x=>bW kb x):=by
 unfold wG at hk;split at hk
 .rename_i e;have e:=cK e;subst e;cases hk;exact qE gd UD (by decide +kernel) hg PySem.boot_len (by decide) (by decide) ha hs
 .split at hk
  .rename_i e;have e:=cK e;subst e;cases hk;exact tD gd UE (by decide +kernel) hg PyProof.Rows.boot_int (by decide) (by decide) ha hs
  .split at hk
   .rename_i e;have e:=cK e;subst e;cases hk;exact tD gd UF (by decide +kernel) hg PyProof.Rows.boot_list (by decide) (by decide) ha hs
   .split at hk
    .rename_i e;have e:=cK e;subst e;cases hk;exact tD gd UG (by decide +kernel) hg PyProof.Rows.boot_tuple (by decide) (by decide) ha hs
    .split at hk
     .rename_i e;have e:=cK e;subst e;cases hk;exact qE gd (UI gd.calm) (by decide +kernel) hg PyProof.Rows.boot_min (by decide) (by decide) ha hs
     .split at hk
      .rename_i e;have e:=cK e;subst e;cases hk;exact qE gd (UJ gd.calm) (by decide +kernel) hg PyProof.Rows.boot_max (by decide) (by decide) ha hs
      .split at hk
       .rename_i e;have e:=cK e;subst e;cases hk;exact qE gd (UK gd.calm) (by decide +kernel) hg PyProof.Rows.boot_any (by decide) (by decide) ha hs
       .split at hk
        .rename_i e;have e:=cK e;subst e;cases hk;exact qE gd (UL (by have:=gd.room.un;lia) gd.calm) (by decide +kernel) hg (show bootBuiltins "sorted"=some (.builtin "sorted") by decide +kernel) (by decide) (by decide) ha hs
        .cases hk
theorem UO(gd:Gd X c G k)(hk:sB x=some kb)(hg:glB c.sc x=true)(ha:Oke X c a f)(hs:starEach [a] X.env=[(false,eval a X.env)]):Oke X c (.Call (.Name x p) [a] [] pos) (fun r=>(f r).bind fun x=>bW kb x):=by
 unfold sB at hk;split at hk
 .rename_i e;have e:=cK e;subst e;cases hk;exact tD gd (UM gd.calm (by have:=gd.room.un;lia)) (by decide +kernel) hg PyProof.Rows.boot_dict (by decide) (by decide) ha hs
 .exact UN gd hk hg ha hs
def tyS:Ty->String
 |.tint=>"int" |.tbool=>"bool"
theorem rR:iA X (.builtin "isinstance") (fun xs H Q=>∃F t1 x k,xs=[x,.ty (tyS k)]/\Same F H/\Rep X.K F t1 x/\Q (.bl (nV t1 k)) H):=by
 rintro pj s O H xs us Q I r⟨F,t1,x,k,rfl,fh,r1,q⟩;obtain⟨u,w',rfl,rx,ry⟩:=vM r;cases ry;have fT:∀b,b=nV t1 k->EP X pj O Q (.bool b) s:=fun b e=>by subst e;exact⟨.bl _,H,I,rfl,q⟩
 have fF:∀b,b=nV t1 k->EP X pj O Q (.bool b) {s with toks:=s.toks+1}:=fun b e=>by subst e;exact⟨.bl _,H,I.tok _,rfl,q⟩
 cases t1 with
 |non=>
  cases r1;cases rx;cases k
  .exact IsiPair.NoneType_int (fF _ rfl)
  .exact IsiPair.NoneType_bool (fF _ rfl)
 |bl b=>
  cases r1;cases rx;cases k
  .exact IsiPair.bool_int (fT _ rfl)
  .exact IsiPair.bool_bool (fT _ rfl)
 |int b=>
  cases r1;obtain⟨t,rfl⟩:=rx;cases k
  .exact IsiPair.int_int (fT _ rfl)
  .exact IsiPair.int_bool (fF _ rfl)
 |str b=>
  cases r1;obtain⟨t,rfl⟩:=rx;cases k
  .exact IsiPair.str_int (fF _ rfl)
  .exact IsiPair.str_bool (fF _ rfl)
 |tup ts=>
  obtain⟨l,vs,rfl,h1,h2⟩:=r1;cases rx;obtain⟨qc,_,⟨o,ho,hc,_⟩,_⟩:=I.tuple (dC fh h1);cases k
  .exact IsiPair.tuple_int ho hc (fF _ rfl)
  .exact IsiPair.tuple_bool ho hc (fF _ rfl)
 |lst ts=>
  obtain⟨l,vs,rfl,h1,h2⟩:=r1;cases rx;obtain⟨qc,_,⟨o,ho,hc,_⟩,_⟩:=sV I (Ls.same fh h1);cases k
  .exact IsiPair.list_int ho hc (fF _ rfl)
  .exact IsiPair.list_bool ho hc (fF _ rfl)
 |dk ks ts=>
  obtain⟨l,vs,rfl,h1,h2⟩:=r1;cases rx;obtain⟨o,ho,hc⟩:=sN I (.inl ⟨_,fh _ _ h1⟩);cases k
  .exact IsiPair.dict_int ho hc (fF _ rfl)
  .exact IsiPair.dict_bool ho hc (fF _ rfl)
 |dt ks ts=>
  obtain⟨l,vs,rfl,h1,h2⟩:=r1;cases rx;obtain⟨o,ho,hc⟩:=sN I (.inr ⟨_,fh _ _ h1⟩);cases k
  .exact IsiPair.dict_int ho hc (fF _ rfl)
  .exact IsiPair.dict_bool ho hc (fF _ rfl)
theorem UP(h:pN x=some k):bootBuiltins x=some (.type (tyS k))/\x∈bnames/\x≠"__name__"/\(x==("__debug__":Str))=false:=by
 unfold pN at h;split at h
 .rename_i e;have e:=cK e;subst e;cases h;exact⟨PyProof.Rows.boot_int,by decide +kernel,by decide,by decide⟩
 .split at h
  .rename_i e;have e:=cK e;subst e;cases h;exact⟨PyProof.Rows.boot_bool,by decide +kernel,by decide,by decide⟩
  .cases h
theorem UQ(gd:Gd X c G k)(hk:pN ty=some kt)(hg:glB c.sc "isinstance"=true)(hgt:glB c.sc ty=true)(ha:Oke X c a f)(hs:starEach [a,.Name ty p2] X.env=(false,eval a X.env)::starEach [.Name ty p2] X.env):Oke X c (.Call (.Name "isinstance" p) [a,.Name ty p2] [] pos) (fun r=>(f r).bind fun x=>some (.bl (nV x kt))):=by
 obtain⟨h1,h2,h3,h4⟩:=UP hk;have hb:PE X (.Name ty p2) (tC (.ty (tyS kt))):=vE (gd.gl ty hgt) (gd.nob ty h2) h1 rfl h3 h4;refine fH (pC rR (gd.gl _ hg) (gd.nob _ (by decide +kernel)) boot_isinstance (cU ha (cU hb gE rfl) hs) (by decide) (by decide) hs rfl) fun O H Q q=>?_;obtain⟨r,F,t,e,ht,q⟩:=q;obtain⟨t1,e1,ht⟩:=obs ht;cases ht;refine⟨r,F,t1,e,e1,fun v F' H' s1 r1=>?_⟩;exact⟨F',t1,v,kt,rfl,s1.fh,r1,q _ F' H' s1 rfl⟩
theorem UR(hx:flat x=true)(hy:flat y=true):dpP x y=0:=by cases x<;>cases y<;>first|(cases hx;done)|(cases hy;done)|rfl
def US(hy:flat y=true)(hx:xs.all flat=true):dpI y xs=true:=by unfold dpI;rw[iX]at hx ⊢;intro z hz;rw[UR (hx z hz) hy];rfl
theorem EV:∀{ts:List T}{x:T}{i:Nat},hG x ts=some i->∃t,ts[i]?=some t/\eqT t x=true/\∀(j:Nat)u,j<i->ts[j]?=some u->eqT u x=false
 |[],_,_,h=>by cases h
 |y::ts,x,i,h=>by
  simp only[hG]at h;split at h
  .rename_i e;cases h;exact⟨y,rfl,e,fun j u hj=>absurd hj (Nat.not_lt_zero _)⟩
  .rename_i e;obtain⟨k,e1,rfl⟩:=oms h;obtain⟨t,h1,h2,h3⟩:=EV e1;refine⟨t,by simpa using h1,h2,fun j u hj hu=>?_⟩;cases j with
   |zero=>simp only[aV,Option.some.injEq]at hu;subst hu;simpa using e
   |succ j=>exact h3 j u (by lia) (by simpa using hu)
def MtS(X:Cx)(id:String)(m:Mt):Prop:=MtR X id (fun x xs H Q=>∃F t1 t2 t y,xs=[y]/\Same F H/\Rep X.K F t1 x/\Rep X.K F t2 y/\dZ m t1 t2=some t/\∀v F' H',Step F H F' H'->Rep X.K F' t v->Q v H')
theorem EW(hu:X.A.units+100<cLine):MtS X "list.index" .index:=by
 rintro pj s O H x xs v us Q I rx rs⟨F,t1,t2,t,y,rfl,fh,r1,r2,ht,q⟩;obtain⟨u,rfl,ru⟩:=iC rs;cases t1 with
 |lst ts=>
  simp only[dZ]at ht;split at ht
  .rename_i hf;have hf:dpI t2 ts=true:=by
    rw[Bool.or_eq_true]at hf;rcases hf with hf|hf
    .rw[dF]at hf;exact US hf.1 hf.2
    .exact hf
   obtain⟨i,hi,rfl⟩:=oms ht;obtain⟨l,vs,rfl,h1,h2⟩:=r1;cases rx;obtain⟨t0,a1,a2,a3⟩:=EV hi;obtain⟨z,qc,n,r,ho⟩:=(Ls.same fh h1).ok I;obtain⟨e,e1,e2⟩:=sW I fh (A:=X.A.in1) (show X.A.units+1+30<cLine by lia) r2 ru hf h2 r;have hlt:i<ts.length:=(ome a1).1;have hlen:qc.length=ts.length:=by have:=congrArg List.length e2;simpa using this
   have hz:ts.length<=sizeLine:=by have:=(sV I (Ls.same fh h1)).choose_spec.2.2;rw[h2.length]at this;exact this
   have get:∀(m:Nat)(hm:m<qc.toArray.size),∃tm,ts[m]?=some tm/\e qc.toArray[m]=eqT tm t2:=fun m hm=>by
    have hm':m<ts.length:=by rw[<-hlen];simpa using hm
    refine⟨ts[m],dM hm',?_⟩;have:=aP (fun l:List Bool=>l[m]?) e2;simp only[List.getElem?_map]at this;rw[dM hm',dM (show m<qc.length by rw[hlen];exact hm')]at this;simpa using this
   have hj:i<qc.toArray.size:=by rw[cW,hlen];exact hlt
   refine call_meets PySem.F.slot_list_index ⟨_,ho,rfl⟩ PySem.F.entry_list_index (PySem.F.args_list_index_2 _ _) (PySem.SeqAt.list_indexAt l qc.toArray n _ _ u e i hj (by unfold sizeLine at hz;lia) ?_ ?_) ⟨ho,?_,?_⟩
   .obtain⟨tm,g1,g2⟩:=get i hj;rw[g2];rw[a1]at g1;cases g1;exact a2
   .intro m hm hmi;obtain⟨tm,g1,g2⟩:=get m hm;rw[g2];exact a3 m tm hmi g1
   .exact fun y hy=>e1 y (by simpa using hy)
   .exact⟨.int _,H,I.tok _,⟨_,rfl⟩,q _ F H (Step.refl fh) rfl⟩
  .cases ht
 |_=>cases t2<;>cases ht
theorem UT(hu:X.A.units+100<cLine):MtS X "list.count" .count:=by
 rintro pj s O H x xs v us Q I rx rs⟨F,t1,t2,t,y,rfl,fh,r1,r2,ht,q⟩;obtain⟨u,rfl,ru⟩:=iC rs;cases t1 with
 |lst ts=>
  simp only[dZ]at ht;split at ht
  .rename_i hf;cases ht;obtain⟨l,vs,rfl,h1,h2⟩:=r1;cases rx;obtain⟨z,qc,n,r,ho⟩:=(Ls.same fh h1).ok I;obtain⟨e,e1,e2⟩:=sW I fh (A:=X.A.in1) (show X.A.units+1+30<cLine by lia) r2 ru hf h2 r;refine call_meets PySem.F.slot_list_count ⟨_,ho,rfl⟩ PySem.F.entry_list_count (PySem.F.args_list_count_2 _ _) (PySem.SeqAt.list_countAt l qc.toArray n _ _ u e) ⟨ho,fun y hy=>e1 y (by simpa using hy),?_⟩;refine⟨.int _,H,I.tok _,⟨_,rfl⟩,q _ F H (Step.refl fh) ?_⟩;show V.int _=V.int _;have e3:qc.countP e=(ts.filter fun z=>eqT z t2).length:=by have:=aP (fun l:List Bool=>l.countP id) e2;simp only[List.countP_map,Function.comp_def,id]at this;rw[show qc.countP e=qc.countP (fun x=>e x)from rfl,this,List.countP_eq_length_filter]
   rw[List.toList_toArray,e3]
  .cases ht
 |_=>cases t2<;>cases ht
theorem EX{nm:Str}{id:String}{m:Mt}(sl:Slot "list" nm id)(ty:typeOf (.builtin id)=pure (.type "method_descriptor"))(hm:MtS X id m)(ho:Oke X c o f)(ha:Oke X c a g)(hbase:attributeBase o nm X.env (eval o X.env)=eval o X.env)(hs:starEach [a] X.env=[(false,eval a X.env)])(hl:(apos.endLine==cpos.line)=true):Oke X c (.Call (.Attribute o nm apos) [a] [] cpos) (fun r=>(f r).bind fun x=>(g r).bind fun y=>dZ m x y):=by
 refine fH (pE F.plainAttrs_list sl ty hm ho (lU ha hs) hbase (by rw[hs];rfl) hl hs rfl) fun O H Q q=>?_;obtain⟨r,F,t,e,ht,q⟩:=q;obtain⟨t1,e1,ht⟩:=obs ht;obtain⟨t2,e2,ht⟩:=obs ht;refine⟨r,F,t1,e,e1,fun v F' H' s1 r1=>⟨?_,r,F',[t2],e.step s1,fW.mpr ⟨t2,e2,rfl⟩,fun vs F2 H2 s2 r2=>?_⟩⟩
 .cases t1 with
  |lst z=>obtain⟨l,vs,rfl,h1,h2⟩:=r1;exact .inl ⟨rfl,_,(Ls.same s1.fh h1).sq⟩
  |_=>cases m<;>cases t2<;>cases ht
 .obtain⟨w,z,rfl,h1,h2⟩:=r2;cases h2;exact⟨F2,t1,t2,t,w,rfl,s2.fh,r1.mono s2.ff,h1,ht,fun v' F3 H3 s3 r3=>q v' F3 H3 (s1.trans (s2.trans s3)) r3⟩
end
end Ev
namespace L2
open PySem Spec PyProof.Rows
structure ZAp(z TI TO j1 j2:Addr)(f1 f2:List Addr):Prop where
 nz:TI≠z/\TO≠z/\j1≠z/\j2≠z
 nT:TI≠TO/\TI≠j1/\TI≠j2
 nO:TO≠j1/\TO≠j2
 nj:j1≠j2
 fz:z∉f1/\z∉f2
 fO:TO∉f1/\TO∉f2
 fj:j2∉f1/\j1∉f2
section
variable {prog:Program}{w:World}{A:Around}{E:Vq}{s:Shared}
variable {z TI TO j1 j2:Addr}{f1 f2:List Addr}{n1 n2 k:Nat}{P1 P2:Nat->Value->Prop}{S1 S2:Nat->Heap->Prop}{a b:Value}
theorem UU{Q:Vq}(D1:Draws prog w A j1 f1 n1 P1 S1)(D2:Draws prog w A j2 f2 n2 P2 S2)(ap:ZAp z TI TO j1 j2 f1 f2)(hz:IsZip s.heap z TI TO .none)(hI:IsPair s.heap TI (.ref j1) (.ref j2))(hO:IsPair s.heap TO a b)(t1:S1 k s.heap)(t2:S2 k s.heap)(l1:k<n1)(l2:k<n2)(hQ:∀x y g tk,P1 k x->P2 k y->IsZip g z TI TO (rawInt s.heap.objs.size)->IsPair g TO x y->S1 (k+1) g->S2 (k+1) g->IsPair g s.heap.objs.size x y->g.objs.size=s.heap.objs.size+1 ->(∀c o,c≠z->c≠TO->c≠j1->c≠j2->s.heap.get? c=some o->g.get? c=some o)->Q (.ref s.heap.objs.size) {s with heap:=g,toks:=tk}):wpAny (model prog w) A (Builtin.«zip.__next__» ⟨[.ref z],[]⟩) (fun e s'=>∃v,e=.done (.ret v)/\Q v s') E s:=by
 show wpAny _ _ (field (.ref z) 2 >>= _) _ _ s;refine aF (eM (x:=.bool false) hz rfl rfl ?_);show wpAny _ _ (field (.ref z) 3 >>= _) _ _ s;refine aF (eM (x:=.ref TI) hz rfl rfl (aF (lI hI rfl ?_)));show wpAny _ _ (Builtin.SmallTypes.ownedTupleIsFree (.ref z) >>= _) _ _ s;refine aF (show wpAny _ _ (Builtin.SmallTypes.ownedTupleIsFree (.ref z)) _ _ s from ?_);unfold Builtin.SmallTypes.ownedTupleIsFree;refine aF (eM (x:=.none) hz rfl rfl (aQ ?_));simp only[if_true];refine aF (wpAny_rule (aF (eM (x:=.ref TO) hz rfl rfl ?_)));refine wpAny_bind (nK hz (by simp) fun g1 hz1 e1=>?_);replace hz1:IsZip g1 z TI TO .ellipsis:=hz1;refine aF (show wpAny _ _ _ _ _ _ from ?_);simp only[List.zipIdx_nil,List.zipIdx_cons,List.forIn_nil,List.forIn_cons];refine aF (aF (wpAny_onRaise ?_));show wpAny _ _ (Builtin.SmallTypes.nextOf (.ref j1) >>= _) _ _ {s with heap:=g1};have q1:S1 k g1:=D1.frame _ _ _ t1 fun c hc o e=>e1.extBut _ _ (fun y=>ap.fz.1 (y▸hc)) e;refine aF (D1.item k _ _ _ l1 q1 fun x g2 tk2 hx u1 e2=>aQ ?_);have hO2:IsPair g2 TO a b:=e2.extBut _ _ ap.nO.1 (e1.extBut _ _ ap.nz.2.1 hO);refine aF (lI hO2 rfl (aF (wpAny_updateSeq_pair hO2 fun g3 hO3 e3=>?_)));replace hO3:IsPair g3 TO x b:=hO3;refine aF (wpAny_letGo (aQ (aF (aF (wpAny_onRaise ?_)))));show wpAny _ _ (Builtin.SmallTypes.nextOf (.ref j2) >>= _) _ _ {s with heap:=g3,toks:=tk2};have q2:S2 k g3:=D2.frame _ _ _ t2 fun c hc o e=>e3.extBut _ _ (fun y=>ap.fO.2 (y▸hc)) (e2.extBut _ _ (fun y=>ap.fj.2 (y▸hc)) (e1.extBut _ _ (fun y=>ap.fz.2 (y▸hc)) e));refine aF (D2.item k _ _ _ l2 q2 fun y g4 tk4 hy u2 e4=>aQ ?_);have hO4:IsPair g4 TO x b:=e4.extBut _ _ ap.nO.2 hO3;refine aF (lI hO4 rfl (aF (wpAny_updateSeq_pair hO4 fun g5 hO5 e5=>?_)));replace hO5:IsPair g5 TO x y:=hO5;refine aF (wpAny_letGo (aQ (aQ (aF (lI hO5 rfl (aF (wpAny_newTuple ?_)))))));have sz:g5.objs.size=s.heap.objs.size:=by rw[e5.1,e4.1,e3.1,e2.1,e1.1]
 have hz5:IsZip g5 z TI TO .ellipsis:=e5.extBut _ _ (Ne.symm ap.nz.2.1) (e4.extBut _ _ (Ne.symm ap.nz.2.2.2) (e3.extBut _ _ (Ne.symm ap.nz.2.1) (e2.extBut _ _ (Ne.symm ap.nz.2.2.1) hz1)));have k5:∀c o,c≠z->c≠TO->c≠j1->c≠j2->s.heap.get? c=some o->g5.get? c=some o:=fun c o c1 c2 c3 c4 e=>e5.extBut _ _ c2 (e4.extBut _ _ c4 (e3.extBut _ _ c2 (e2.extBut _ _ c3 (e1.extBut _ _ c1 e))));have v1:S1 (k+1) g5:=D1.frame _ _ _ u1 fun c hc o e=>e5.extBut _ _ (fun y=>ap.fO.1 (y▸hc)) (e4.extBut _ _ (fun y=>ap.fj.1 (y▸hc)) (e3.extBut _ _ (fun y=>ap.fO.1 (y▸hc)) e));have v2:S2 (k+1) g5:=D2.frame _ _ _ u2 fun c hc o e=>e5.extBut _ _ (fun y=>ap.fO.2 (y▸hc)) e;have ltz:z<g5.objs.size:=bI hz5;show wpAny _ _ (Builtin.SmallTypes.ownedTupleHandOut (.ref z) (.ref g5.objs.size) >>= _) _ _ _;refine aF (show wpAny _ _ (Builtin.SmallTypes.ownedTupleHandOut (.ref z) (.ref g5.objs.size)) _ _ _ from ?_);unfold Builtin.SmallTypes.ownedTupleHandOut;have hz6:IsZip (g5.push {cls:=.type "tuple",data:=.seq #[x,y]}) z TI TO .ellipsis:=aT _ hz5;refine wpAny_bind (nK hz6 (by simp) fun g7 hz7 e7=>?_);replace hz7:IsZip g7 z TI TO (rawInt g5.objs.size):=hz7;refine nK hz7 (by simp) fun g8 hz8 e8=>?_;replace hz8:IsZip g8 z TI TO (rawInt g5.objs.size):=hz8;have up:∀c o,c≠z->g5.get? c=some o->g8.get? c=some o:=fun c o c1 e=>e8.extBut _ _ c1 (e7.extBut _ _ c1 (aT _ e));have hT8:IsPair g8 g5.objs.size x y:=e8.extBut _ _ (Nat.ne_of_gt ltz) (e7.extBut _ _ (Nat.ne_of_gt ltz) (cQ _ rfl));have sz8:g8.objs.size=g5.objs.size+1:=by rw[e8.1,e7.1,eU]
 rw[sz]at hz8 hT8 sz8;refine aQ ⟨_,rfl,?_⟩;show Q (.ref g5.objs.size) {s with heap:=g8,toks:=tk4};rw[sz];exact hQ x y g8 tk4 hx hy hz8 (up _ _ ap.nz.2.1 hO5) (D1.frame _ _ _ v1 fun c hc o e=>up c o (fun y=>ap.fz.1 (y▸hc)) e) (D2.frame _ _ _ v2 fun c hc o e=>up c o (fun y=>ap.fz.2 (y▸hc)) e) hT8 sz8
  fun c o c1 c2 c3 c4 e=>up c o c1 (k5 c o c1 c2 c3 c4 e)
theorem UV(D1:Draws prog w A j1 f1 n1 P1 S1)(D2:Draws prog w A j2 f2 n2 P2 S2)(ap:ZAp z TI TO j1 j2 f1 f2)(hz:IsZip s.heap z TI TO .none)(hI:IsPair s.heap TI (.ref j1) (.ref j2))(hO:IsPair s.heap TO a b)(t1:S1 k s.heap)(t2:S2 k s.heap)(hk:k=n1\/k<n1/\k=n2)(hE:∀g e tk,(∀c o,c≠z->c≠TO->c≠j1->c≠j2->s.heap.get? c=some o->g.get? c=some o)->(∃o,g.get? e=some o/\o.cls=.type "StopIteration")->E (.ref e) {s with heap:=g,toks:=tk}):wpAny (model prog w) A (Builtin.«zip.__next__» ⟨[.ref z],[]⟩) Q E s:=by
 show wpAny _ _ (field (.ref z) 2 >>= _) _ _ s;refine aF (eM (x:=.bool false) hz rfl rfl ?_);show wpAny _ _ (field (.ref z) 3 >>= _) _ _ s;refine aF (eM (x:=.ref TI) hz rfl rfl (aF (lI hI rfl ?_)));show wpAny _ _ (Builtin.SmallTypes.ownedTupleIsFree (.ref z) >>= _) _ _ s;refine aF (show wpAny _ _ (Builtin.SmallTypes.ownedTupleIsFree (.ref z)) _ _ s from ?_);unfold Builtin.SmallTypes.ownedTupleIsFree;refine aF (eM (x:=.none) hz rfl rfl (aQ ?_));simp only[if_true];refine aF (wpAny_rule (aF (eM (x:=.ref TO) hz rfl rfl ?_)));refine wpAny_bind (nK hz (by simp) fun g1 hz1 e1=>?_);replace hz1:IsZip g1 z TI TO .ellipsis:=hz1;refine aF (show wpAny _ _ _ _ _ _ from ?_);simp only[List.zipIdx_nil,List.zipIdx_cons,List.forIn_nil,List.forIn_cons];refine aF (aF (wpAny_onRaise ?_));show wpAny _ _ (Builtin.SmallTypes.nextOf (.ref j1) >>= _) _ _ {s with heap:=g1};have q1:S1 k g1:=D1.frame _ _ _ t1 fun c hc o e=>e1.extBut _ _ (fun y=>ap.fz.1 (y▸hc)) e;rcases hk with rfl|⟨hlt,rfl⟩
 .refine aF (D1.done _ _ _ q1 fun g2 e e2 he=>?_);obtain⟨oe,hoe,hce⟩:=he;have hz2:IsZip g2 z TI TO .ellipsis:=e2 _ _ (Ne.symm ap.nz.2.2.1) hz1;have ez:e≠z:=fun y=>by subst y;rw[hz2]at hoe;cases hoe;simp at hce
  exact nK hz2 (by simp) fun g3 _ e3=>hE g3 e s.toks (fun c o c1 _ c3 _ y=>e3.extBut _ _ c1 (e2 _ _ c3 (e1.extBut _ _ c1 y))) ⟨oe,e3.extBut _ _ ez hoe,hce⟩
 .refine aF (D1.item _ _ _ _ hlt q1 fun x g2 tk2 hx u1 e2=>aQ ?_);have hO2:IsPair g2 TO a b:=e2.extBut _ _ ap.nO.1 (e1.extBut _ _ ap.nz.2.1 hO);refine aF (lI hO2 rfl (aF (wpAny_updateSeq_pair hO2 fun g3 hO3 e3=>?_)));refine aF (wpAny_letGo (aQ (aF (aF (wpAny_onRaise ?_)))));show wpAny _ _ (Builtin.SmallTypes.nextOf (.ref j2) >>= _) _ _ {s with heap:=g3,toks:=tk2};have q2:S2 k g3:=D2.frame _ _ _ t2 fun c hc o e=>e3.extBut _ _ (fun y=>ap.fO.2 (y▸hc)) (e2.extBut _ _ (fun y=>ap.fj.2 (y▸hc)) (e1.extBut _ _ (fun y=>ap.fz.2 (y▸hc)) e));refine aF (D2.done _ _ _ q2 fun g4 e e4 he=>?_);obtain⟨oe,hoe,hce⟩:=he;have hz4:IsZip g4 z TI TO .ellipsis:=e4 _ _ (Ne.symm ap.nz.2.2.2) (e3.extBut _ _ (Ne.symm ap.nz.2.1) (e2.extBut _ _ (Ne.symm ap.nz.2.2.1) hz1));have ez:e≠z:=fun y=>by subst y;rw[hz4]at hoe;cases hoe;simp at hce
  exact nK hz4 (by simp) fun g5 _ e5=>hE g5 e tk2 (fun c o c1 c2 c3 c4 y=>e5.extBut _ _ c1 (e4 _ _ c4 (e3.extBut _ _ c2 (e2.extBut _ _ c3 (e1.extBut _ _ c1 y))))) ⟨oe,e5.extBut _ _ ez hoe,hce⟩
theorem UW{Q:a0 Value->Shared->Prop}(D1:Draws prog w A.in1 j1 f1 n1 P1 S1)(D2:Draws prog w A.in1 j2 f2 n2 P2 S2)(ap:ZAp z TI TO j1 j2 f1 f2)(hz:IsZip s.heap z TI TO .none)(hI:IsPair s.heap TI (.ref j1) (.ref j2))(hO:IsPair s.heap TO a b)(t1:S1 k s.heap)(t2:S2 k s.heap)(l1:k<n1)(l2:k<n2)(hQ:∀x y g tk,P1 k x->P2 k y->IsZip g z TI TO (rawInt s.heap.objs.size)->IsPair g TO x y->S1 (k+1) g->S2 (k+1) g->IsPair g s.heap.objs.size x y->g.objs.size=s.heap.objs.size+1 ->(∀c o,c≠z->c≠TO->c≠j1->c≠j2->s.heap.get? c=some o->g.get? c=some o)->Q (some (.ref s.heap.objs.size)) {s with heap:=g,toks:=tk}):wpAny (model prog w) A (pyNext (.ref z)) Q E s:=by
 have ty:s.TypeIs (.ref z) "zip":=⟨_,hz,rfl⟩;unfold pyNext;exact aF (wpAny_attempt (lJ (name:=Str.ofString "__next__") ty F.slot_zip_next (jN F.slot_zip_next ty F.entry_zip_next
  (UU D1 D2 ap hz hI hO t1 t2 l1 l2 fun x y g tk b1 b2 b3 b4 b5 b6 b7 b8 b9=>aQ (hQ x y g tk b1 b2 b3 b4 b5 b6 b7 b8 b9)) (F.args_zip_next_1 _))))
theorem UX(D1:Draws prog w A.in1 j1 f1 n1 P1 S1)(D2:Draws prog w A.in1 j2 f2 n2 P2 S2)(ap:ZAp z TI TO j1 j2 f1 f2)(hz:IsZip s.heap z TI TO .none)(hI:IsPair s.heap TI (.ref j1) (.ref j2))(hO:IsPair s.heap TO a b)(t1:S1 k s.heap)(t2:S2 k s.heap)(hk:k=n1\/k<n1/\k=n2)(hQ:∀g tk,(∀c o,c≠z->c≠TO->c≠j1->c≠j2->s.heap.get? c=some o->g.get? c=some o)->Q none {s with heap:=g,toks:=tk}):wpAny (model prog w) A (pyNext (.ref z)) Q E s:=by
 have ty:s.TypeIs (.ref z) "zip":=⟨_,hz,rfl⟩;unfold pyNext;refine aF (wpAny_attempt (lJ (name:=Str.ofString "__next__") ty F.slot_zip_next (jN F.slot_zip_next ty F.entry_zip_next
  (UV D1 D2 ap hz hI hO t1 t2 hk fun g e tk hc he=>?_) (F.args_zip_next_1 _))))
 obtain⟨o,ho,hc2⟩:=he;exact aF (wpAny_isInstance (b:=true) (T:="StopIteration") ⟨o,ho,hc2⟩ isSubtype_stop (aQ (hQ _ _ hc)))
end
abbrev tE(h:Heap)(l1:Addr):Heap:=h.push {cls:=.type "tuple_iterator",data:=.fields #[.ref l1,.int 0 0]}
abbrev tF(h:Heap)(l1 l2:Addr):Heap:=(tE h l1).push {cls:=.type "list_iterator",data:=.fields #[.ref l2,.int 0 0]}
abbrev tG(h:Heap)(l1 l2:Addr):Heap:=(tF h l1 l2).push {cls:=.type "tuple",data:=.seq #[.ref h.objs.size,.ref (tE h l1).objs.size]}
abbrev tH(h:Heap)(l1 l2:Addr):Heap:=(tG h l1 l2).push {cls:=.type "tuple",data:=.seq #[.none,.none]}
abbrev mW(h:Heap)(l1 l2:Addr):Heap:=(tH h l1 l2).push {cls:=.type "zip",data:=.fields #[.none,.bool false,.bool false,.ref (tF h l1 l2).objs.size,.ref (tG h l1 l2).objs.size]}
theorem UY(l1 l2:Addr)(xs ys:Array Value):Meets (Builtin.«zip.__new__» ⟨[.type "zip",.ref l1,.ref l2],[]⟩) (fun _ R s=>s.heap.IsTuple l1 xs/\s.heap.IsList l2 ys /\
   R (.ok (.ret (.ref (tH s.heap l1 l2).objs.size))) {s with heap:=mW s.heap l1 l2}) :=
 .of_wp fun prog w A R s q=>by
  obtain⟨hp,gs,dr,tk,os⟩:=s;obtain⟨q1,q2,q⟩:=q;have hsub:=sub_zip;have y1:Heap.IsTuple (Shared.heap ⟨hp,gs,dr,tk,os⟩) l1 xs:=q1;have y2:Heap.IsList (Shared.heap ⟨hp.push {cls:=.type "tuple_iterator",data:=.fields #[.ref l1,.int 0 0]},gs,dr,tk,os⟩) l2 ys:=Heap.IsList.push q2 _
  wp_walk using mF y1,wpAny_pyIter_list y2
  exact⟨_,rfl,q⟩
theorem UZ(q1:s.heap.IsTuple l1 xs)(q2:s.heap.IsList l2 ys)(q:∀g,IsZip g (s.heap.objs.size+4) (s.heap.objs.size+2) (s.heap.objs.size+3) .none->IsPair g (s.heap.objs.size+2) (.ref s.heap.objs.size) (.ref (s.heap.objs.size+1))->IsPair g (s.heap.objs.size+3) .none .none ->g.IsTupleIter s.heap.objs.size l1 0->g.IsListIter (s.heap.objs.size+1) l2 0->g.objs.size=s.heap.objs.size+5->(∀c o,s.heap.get? c=some o->g.get? c=some o)->Q (.ref (s.heap.objs.size+4)) {s with heap:=g}):wpAny (model prog w) A (call (.type "zip") [.ref l1,.ref l2]) Q E s:=by
 refine callType_new F.called_zip (by decide) (F.typeCall_zip_2 _ _) (F.newCall_zip_2 _ _) (fun ob=>F.args_object_init_3 ob _ _) F.entry_zip_new (UY l1 l2 xs ys) ⟨q1,q2,?_⟩;have a1:(tE s.heap l1).objs.size=s.heap.objs.size+1:=eU ..;have a2:(tF s.heap l1 l2).objs.size=s.heap.objs.size+2:=by rw[eU,a1]
 have a3:(tG s.heap l1 l2).objs.size=s.heap.objs.size+3:=by rw[eU,a2]
 have a4:(tH s.heap l1 l2).objs.size=s.heap.objs.size+4:=by rw[eU,a3]
 have a5:(mW s.heap l1 l2).objs.size=s.heap.objs.size+5:=by rw[eU,a4]
 have b5:(mW s.heap l1 l2).get? (tH s.heap l1 l2).objs.size=some _:=cQ _ rfl;have b4:(mW s.heap l1 l2).get? (tG s.heap l1 l2).objs.size=some _:=aT _ (cQ _ rfl);have b3:(mW s.heap l1 l2).get? (tF s.heap l1 l2).objs.size=some _:=aT _ (aT _ (cQ _ rfl));have b2:(mW s.heap l1 l2).get? (tE s.heap l1).objs.size=some _:=aT _ (aT _ (aT _ (cQ _ rfl)));have b1:(mW s.heap l1 l2).get? s.heap.objs.size=some _:=aT _ (aT _ (aT _ (aT _ (cQ _ rfl))));show _/\_;rw[a2,a3,a4]at b5;rw[a1,a2]at b3;rw[a3]at b4;rw[a1]at b2;rw[a4];exact⟨⟨_,b5,rfl⟩,q _ b5 b3 b4 ⟨_,b1,rfl,rfl⟩ ⟨_,b2,rfl,rfl⟩ a5 fun c o y=>aT _ (aT _ (aT _ (aT _ (aT _ y))))⟩
abbrev tI(h:Heap)(l1:Addr):Heap:=h.push {cls:=.type "tuple_iterator",data:=.fields #[.ref l1,.int 0 0]}
abbrev tJ(h:Heap)(l1 l2:Addr):Heap:=(tI h l1).push {cls:=.type "tuple_iterator",data:=.fields #[.ref l2,.int 0 0]}
abbrev tK(h:Heap)(l1 l2:Addr):Heap:=(tJ h l1 l2).push {cls:=.type "tuple",data:=.seq #[.ref h.objs.size,.ref (tI h l1).objs.size]}
abbrev tL(h:Heap)(l1 l2:Addr):Heap:=(tK h l1 l2).push {cls:=.type "tuple",data:=.seq #[.none,.none]}
abbrev mX(h:Heap)(l1 l2:Addr):Heap:=(tL h l1 l2).push {cls:=.type "zip",data:=.fields #[.none,.bool false,.bool false,.ref (tJ h l1 l2).objs.size,.ref (tK h l1 l2).objs.size]}
theorem VA(l1 l2:Addr)(xs ys:Array Value):Meets (Builtin.«zip.__new__» ⟨[.type "zip",.ref l1,.ref l2],[]⟩) (fun _ R s=>s.heap.IsTuple l1 xs/\s.heap.IsTuple l2 ys /\
   R (.ok (.ret (.ref (tL s.heap l1 l2).objs.size))) {s with heap:=mX s.heap l1 l2}) :=
 .of_wp fun prog w A R s q=>by
  obtain⟨hp,gs,dr,tk,os⟩:=s;obtain⟨q1,q2,q⟩:=q;have hsub:=sub_zip;have y1:Heap.IsTuple (Shared.heap ⟨hp,gs,dr,tk,os⟩) l1 xs:=q1;have y2:Heap.IsTuple (Shared.heap ⟨hp.push {cls:=.type "tuple_iterator",data:=.fields #[.ref l1,.int 0 0]},gs,dr,tk,os⟩) l2 ys:=let⟨o,ho,r⟩:=q2;⟨o,aT _ ho,r⟩
  wp_walk using mF y1,mF y2
  exact⟨_,rfl,q⟩
theorem VB(q1:s.heap.IsTuple l1 xs)(q2:s.heap.IsTuple l2 ys)(q:∀g,IsZip g (s.heap.objs.size+4) (s.heap.objs.size+2) (s.heap.objs.size+3) .none->IsPair g (s.heap.objs.size+2) (.ref s.heap.objs.size) (.ref (s.heap.objs.size+1))->IsPair g (s.heap.objs.size+3) .none .none ->g.IsTupleIter s.heap.objs.size l1 0->g.IsTupleIter (s.heap.objs.size+1) l2 0->g.objs.size=s.heap.objs.size+5->(∀c o,s.heap.get? c=some o->g.get? c=some o)->Q (.ref (s.heap.objs.size+4)) {s with heap:=g}):wpAny (model prog w) A (call (.type "zip") [.ref l1,.ref l2]) Q E s:=by
 refine callType_new F.called_zip (by decide) (F.typeCall_zip_2 _ _) (F.newCall_zip_2 _ _) (fun ob=>F.args_object_init_3 ob _ _) F.entry_zip_new (VA l1 l2 xs ys) ⟨q1,q2,?_⟩;have a1:(tI s.heap l1).objs.size=s.heap.objs.size+1:=eU ..;have a2:(tJ s.heap l1 l2).objs.size=s.heap.objs.size+2:=by rw[eU,a1]
 have a3:(tK s.heap l1 l2).objs.size=s.heap.objs.size+3:=by rw[eU,a2]
 have a4:(tL s.heap l1 l2).objs.size=s.heap.objs.size+4:=by rw[eU,a3]
 have a5:(mX s.heap l1 l2).objs.size=s.heap.objs.size+5:=by rw[eU,a4]
 have b5:(mX s.heap l1 l2).get? (tL s.heap l1 l2).objs.size=some _:=cQ _ rfl;have b4:(mX s.heap l1 l2).get? (tK s.heap l1 l2).objs.size=some _:=aT _ (cQ _ rfl);have b3:(mX s.heap l1 l2).get? (tJ s.heap l1 l2).objs.size=some _:=aT _ (aT _ (cQ _ rfl));have b2:(mX s.heap l1 l2).get? (tI s.heap l1).objs.size=some _:=aT _ (aT _ (aT _ (cQ _ rfl)));have b1:(mX s.heap l1 l2).get? s.heap.objs.size=some _:=aT _ (aT _ (aT _ (aT _ (cQ _ rfl))));show _/\_;rw[a2,a3,a4]at b5;rw[a1,a2]at b3;rw[a3]at b4;rw[a1]at b2;rw[a4];exact⟨⟨_,b5,rfl⟩,q _ b5 b3 b4 ⟨_,b1,rfl,rfl⟩ ⟨_,b2,rfl,rfl⟩ a5 fun c o y=>aT _ (aT _ (aT _ (aT _ (aT _ y))))⟩
def Itz(K:W.Frag)(t1 t2:Bool)(l1 l2:Addr):It :=
 ⟨fun i H=>∃xs ys x y,SqB t1 K H l1 xs/\SqB t2 K H l2 ys/\xs[i]?=some x/\ys[i]?=some y,
  fun i H v H'=>∃p x y,H p=none/\v=.ref p/\H'=aL H p (.tup [x,y])/\(∀xs,SqB t1 K H l1 xs->xs[i]?=some x)/\∀ys,SqB t2 K H l2 ys->ys[i]?=some y,
  fun i H=>∃xs ys,SqB t1 K H l1 xs/\SqB t2 K H l2 ys/\(i=xs.length\/i<xs.length/\i=ys.length)⟩
theorem ane{a b:Nat}(h:a<b\/b<a):(show Addr from a)≠(show Addr from b):=fun e=>by have e:a=b:=e;lia
theorem anm{z a b:Nat}(h1:z<a\/a<z)(h2:z<b\/b<z):(show Addr from z)∉[(show Addr from a),(show Addr from b)]:=fun e=>by
 rcases omc e with e|e
 .exact ane h1 e
 .exact ane h2 (omg e)
theorem EY{N l1 l2:Nat}(h1:l1<N)(h2:l2<N):ZAp (N+4) (N+2) (N+3) N (N+1) [N,l1] [N+1,l2] :=
 ⟨⟨ane (by lia),ane (by lia),ane (by lia),ane (by lia)⟩,⟨ane (by lia),ane (by lia),ane (by lia)⟩,⟨ane (by lia),ane (by lia)⟩,ane (by lia),⟨anm (by lia) (by lia),anm (by lia) (by lia)⟩,⟨anm (by lia) (by lia),anm (by lia) (by lia)⟩,⟨anm (by lia) (by lia),anm (by lia) (by lia)⟩⟩
theorem VC{P:Program}{w:World}{K:W.Frag}{elts:List Expr}{kx:Nat}{pos:Pos}(t1 t2:Bool)(l1 l2 N:Nat)(h1:l1<N)(h2:l2<N):Turn P w K (.Tuple elts kx pos) (Itz K t1 t2 l1 l2) [N+4,N+2,N+3,N,N+1] (N+4) (fun i h=>IsZip h (N+4) (N+2) (N+3) .none/\IsPair h (N+2) (.ref N) (.ref (N+1))/\(∃a b,IsPair h (N+3) a b)/\ItB t1 h N l1 i/\ItB t2 h (N+1) l2 i) where
 mem:=by simp
 obj:=fun i h st b hb=>by
  obtain⟨s1,s2,⟨a,c,s3⟩,s4,s5⟩:=st;simp only[List.mem_cons,List.not_mem_nil,or_false]at hb;rcases hb with rfl|rfl|rfl|rfl|rfl
  .exact⟨_,s1,fun v q=>by cases q⟩
  .exact⟨_,s2,fun v q=>by cases q⟩
  .exact⟨_,s3,fun v q=>by cases q⟩
  .exact s4.obj
  .exact s5.obj
 keep:=fun i h h' st k=>by obtain⟨s1,s2,⟨a,c,s3⟩,s4,s5⟩:=st;exact⟨k _ (by simp) _ s1,k _ (by simp) _ s2,⟨a,c,k _ (by simp) _ s3⟩,s4.at fun o e=>k _ (by simp) o e,s5.at fun o e=>k _ (by simp) o e⟩
 item:=by
  intro X hP hw hK hc i pj s O H E I hf st hg;subst hP hw hK;obtain⟨xs,ys,x,y,q1,q2,hx,hy⟩:=hg;obtain⟨s1,s2,⟨a,c,s3⟩,s4,s5⟩:=st;obtain⟨qc,rv,p,_⟩:=I.sqB q1;obtain⟨jts,rw',p',_⟩:=I.sqB q2;obtain⟨u,hu,ru⟩:=rv.get hx;obtain⟨u',hu',ru'⟩:=rw'.get hy;have hd:X.A.in1.handled=none:=I.ok.hd hc;have D1:=oJ (prog:=X.prog) (w:=X.w) (A:=X.A.in1) t1 hd N l1 (ane (.inl h1)) qc.toArray;have D2:=oJ (prog:=X.prog) (w:=X.w) (A:=X.A.in1) t2 hd (N+1) l2 (ane (by lia)) jts.toArray;have lt1:i<qc.toArray.size:=by have:=(ome hu).1;rw[cW];exact this
  have lt2:i<jts.toArray.size:=by have:=(ome hu').1;rw[cW];exact this
  have zlt:N+4<s.heap.objs.size:=bI s1;refine UW D1 D2 (EY h1 h2) s1 s2 s3 ⟨s4,p⟩ ⟨s5,p'⟩ lt1 lt2 fun v v' g tk hv hv' b3 b4 b5 b6 b7 b8 b9=>⟨_,rfl,wpAny_letOwnedTupleGo_zip b3 fun g2 z2 e2=>?_⟩;have ev:v=u:=by
   have z:qc[i]?=some v:=by simpa using hv
   rw[hu]at z;exact(dU z).symm
  have ev':v'=u':=by
   have z:jts[i]?=some v':=by simpa using hv'
   rw[hu']at z;exact(dU z).symm
  subst ev ev';have up:∀b o,b≠N+4->g.get? b=some o->g2.get? b=some o:=fun b o hb e=>(e2.2 b hb).trans e;have hk2:∀b o,b∉[N+4,N+2,N+3,N,N+1]->s.heap.get? b=some o->g2.get? b=some o:=fun b o hb e=>by simp only[List.mem_cons,List.not_mem_nil,or_false,not_or]at hb;exact up b o hb.1 (b9 b o hb.1 hb.2.2.1 hb.2.2.2.1 hb.2.2.2.2 e)
  have nT:s.heap.objs.size≠N+4:=Nat.ne_of_gt zlt;have I1:Inv X pj O (aL H s.heap.objs.size (.tup [x,y])) {s with heap:=g2,toks:=tk}:=I.turnedN hk2 hf (bH _)
   ⟨by show 2<=sizeLine;decide,[v,v'],.cons ru (.cons ru' .nil),⟨_,up _ _ nT b7,rfl,_,rfl⟩⟩
  refine⟨.ref s.heap.objs.size,_,I1,rfl,⟨_,x,y,I.fresh,rfl,rfl,fun zs hz=>by rw[I.sqB_inj hz q1];exact hx,fun zs hz=>by rw[I.sqB_inj hz q2];exact hy⟩,⟨z2,?_,⟨_,_,up _ _ (ane (a:=N+3) (b:=N+4) (by lia)) b4⟩,?_,?_⟩,fun b hb=>?_⟩
  .exact up _ _ (ane (a:=N+2) (b:=N+4) (by lia)) (b9 _ _ (ane (a:=N+2) (b:=N+4) (by lia)) (ane (a:=N+2) (b:=N+3) (by lia)) (ane (a:=N+2) (b:=N) (by lia)) (ane (a:=N+2) (b:=N+1) (by lia)) s2)
  .exact b5.1.at fun o e=>up _ o (ane (a:=N) (b:=N+4) (by lia)) e
  .exact b6.1.at fun o e=>up _ o (ane (a:=N+1) (b:=N+4) (by lia)) e
  .have hbl:b<s.heap.objs.size:=by have zl:N+4<s.heap.objs.size:=zlt;simp only[List.mem_cons,List.not_mem_nil,or_false]at hb;rcases hb with e|e|e|e|e<;>(rw[e];show(_:Nat)<_;lia)
   rw[aR (cL hbl)];exact(hf b hb).1
 done:=by intro X hP hw hK hc i pj s O H E I hf st hg;subst hP hw hK;obtain⟨xs,ys,q1,q2,hx⟩:=hg;obtain⟨s1,s2,⟨a,c,s3⟩,s4,s5⟩:=st;obtain⟨qc,rv,p,_⟩:=I.sqB q1;obtain⟨jts,rw',p',_⟩:=I.sqB q2;have hd:X.A.in1.handled=none:=I.ok.hd hc;have D1:=oJ (prog:=X.prog) (w:=X.w) (A:=X.A.in1) t1 hd N l1 (ane (.inl h1)) qc.toArray;have D2:=oJ (prog:=X.prog) (w:=X.w) (A:=X.A.in1) t2 hd (N+1) l2 (ane (by lia)) jts.toArray;refine UX D1 D2 (EY h1 h2) s1 s2 s3 ⟨s4,p⟩ ⟨s5,p'⟩ (k:=i) (by rw[cW,cW,<-rv.length,<-rw'.length];exact hx) fun g tk hk=>⟨rfl,I.turnedC (fun b o hb e=>?_) hf⟩;simp only[List.mem_cons,List.not_mem_nil,or_false,not_or]at hb;exact hk b o hb.1 hb.2.2.1 hb.2.2.2.1 hb.2.2.2.2 e
 self:=fun _ _ _ _ _ st q=>wpAny_pyIter_zip st.1 q
theorem VD{ta:TA}(hg:Gl X "zip")(hm:X.mg "zip"=none)(ha:PA X [a,b] ta)(hs:starEach [a,b] X.env=[(false,eval a X.env),(false,eval b X.env)])(hs2:starEach [b] X.env=[(false,eval b X.env)]):PI X (.Tuple elts kx p2) (.Call (.Name "zip" p) [a,b] [] pos) (fun O H R=>ta O H fun vs H1=>∃l1 l2 t2 xs ys,vs=[.ref l1,.ref l2]/\SqB true X.K H1 l1 xs/\SqB t2 X.K H1 l2 ys/\R (Itz X.K true t2 l1 l2) H1):=by
 intro pj s O H R I h;refine Call_ (mH I hg hm (show bootBuiltins "zip"=some (.type "zip") by decide +kernel) (PyProof.Rows.callWith_type1 (thn (ha pos pj s O H _ I h) fun us s1 ⟨vs,H1,I1,r1,q1⟩=>?_) (by rw[hs,hs2]) (by rw[hs2];rfl)));obtain⟨l1,l2,t2,xs,ys,e,q1,q2,q⟩:=q1;subst e;obtain⟨u,u',rfl,rx,ry⟩:=vM r1;cases rx;cases ry;obtain⟨qc,rv,b1,lt1⟩:=I1.sqB q1;obtain⟨jts,rw',b2,lt2⟩:=I1.sqB q2;have fin:∀{g:Heap},IsZip g (s1.heap.objs.size+4) (s1.heap.objs.size+2) (s1.heap.objs.size+3) .none->IsPair g (s1.heap.objs.size+2) (.ref s1.heap.objs.size) (.ref (s1.heap.objs.size+1))->IsPair g (s1.heap.objs.size+3) .none .none->
   ItB true g s1.heap.objs.size l1 0->ItB t2 g (s1.heap.objs.size+1) l2 0->(∀c o,s1.heap.get? c=some o->g.get? c=some o)->wpAny (model X.prog X.w) X.A (pyIter (.ref (s1.heap.objs.size+4))) (PIE X pj O (.Tuple elts kx p2) R) X.xe {s1 with heap:=g}:=fun{g}y1 y2 y3 y4 y5 k=>by
  refine wpAny_pyIter_zip (s:={s1 with heap:=g}) y1 ⟨_,_,_,_,H1,rfl,I1.kept (t':=s1.toks) k,VC true t2 l1 l2 s1.heap.objs.size lt1 lt2,⟨y1,y2,⟨_,_,y3⟩,y4,y5⟩,fun b hb=>?_,q⟩;have le:s1.heap.objs.size<=b:=by simp only[List.mem_cons,List.not_mem_nil,or_false]at hb;rcases hb with e|e|e|e|e<;>(rw[e];show(_:Nat)<=_;lia)
  exact I1.fpOk le (I1.hok.fresh le)
 cases t2
 .exact UZ b1 b2 fun g y1 y2 y3 y4 y5 _ k=>fin y1 y2 y3 y4 y5 k
 .exact VB b1 b2 fun g y1 y2 y3 y4 y5 _ k=>fin y1 y2 y3 y4 y5 k
end L2
namespace Ev
open PySem Spec PyProof.Rows L2
section
variable {K:W.Frag}{F':Hp}
structure Walk(K:W.Frag)(J:It)(ts:List T)(F':Hp):Prop where
 go:∀(i:Nat)(H:Hp),i<ts.length->Same F' H->J.go i H
 yld:∀(i:Nat)(H:Hp)(x:V)(H5 F:Hp)(t:T),ts[i]?=some t->Same F' F->Same F H->J.yld i H x H5->∃F5,Step F H F5 H5/\Rep K F5 t x
 stop:∀(H:Hp),Same F' H->J.stop ts.length H
def spI(X:Cx)(c:Tc)(f:Env->a0 (List T)):TI:=fun O H R=>∃r F ts,EnvE X c r F O H/\f r=some ts/\∀J F' H',Step F H F' H'->Walk X.K J ts F'->R J H'
def tM(h:PI X tg it t)(m:∀O H R,t' O H R->t O H R):PI X tg it t':=fun pj s O H R I q=>h pj s O H R I (m O H R q)
theorem VE(h1:Ls K F' l vs)(h2:aH K F' ts vs):Walk K (Itl K l) ts F' where
 go:=fun i H hi sm=>by obtain⟨v,hv,_⟩:=h2.get (dM hi);exact⟨vs,v,(Ls.same sm h1).sq,hv⟩
 yld:=fun i H x H5 F t ht sF fh y=>by obtain⟨rfl,y⟩:=y;obtain⟨v,hv,hr⟩:=h2.get ht;have e:=y vs ((Ls.same fh (Ls.same sF h1)).sq);rw[hv]at e;cases e;exact⟨F,Step.refl fh,hr.mono sF⟩
 stop:=fun H sm=>⟨vs,(Ls.same sm h1).sq,by rw[h2.length];exact bH _⟩
theorem VF{F:Hp}{a:Addr}{xs:List V}(e:Same F F')(h:SqT K F a xs):SqT K F' a xs:=by
 rcases h with h|h
 .exact .inl (CV e h)
 .exact .inr h
theorem VG(h1:Tq K F' l vs)(h2:aH K F' ts vs):Walk K (Itt K l) ts F' where
 go:=fun i H hi sm=>by obtain⟨v,hv,_⟩:=h2.get (dM hi);exact⟨vs,v,dC sm h1,hv⟩
 yld:=fun i H x H5 F t ht sF fh y=>by obtain⟨rfl,y⟩:=y;obtain⟨v,hv,hr⟩:=h2.get ht;have e:=y vs (dC (sF.trans fh) h1);rw[hv]at e;cases e;exact⟨F,Step.refl fh,hr.mono sF⟩
 stop:=fun H sm=>⟨vs,dC sm h1,by rw[h2.length];exact bH _⟩
theorem VH(h:(kK n)[i]?=some t):i<n/\t=.int (i:Int):=by unfold kK at h;rw[iK]at h;obtain⟨j,hj,e⟩:=oms h;have:=ome hj;obtain⟨h1,h2⟩:=this;rw[List.getElem_range]at h2;subst h2;exact⟨by simpa using h1,e.symm⟩
theorem VI(n:Nat):Walk K (Itr 0 n) (kK n) F' where
 go:=fun i H hi _=>by
  have:i<n:=by simpa[kK]using hi
  exact this
 yld:=fun i H x H5 F t ht _ fh y=>by obtain⟨rfl,rfl⟩:=y;obtain⟨_,rfl⟩:=VH ht;exact⟨F,Step.refl fh,by show V.int (0+(i:Int))=V.int (i:Int);rw[Int.zero_add]⟩
 stop:=fun H _=>by show n<=(kK n).length;simp[kK]
theorem EZ:∀{ts:List T}{i j:Nat}{t:T},(eI ts j)[i]?=some t->∃u,ts[i]?=some u/\t=.tup [.int ((j+i:Nat):Int),u]
 |[],_,_,_,h=>by simp[eI]at h
 |u::ts,0,j,t,h=>by simp[eI]at h;exact⟨u,rfl,by rw[<-h];simp⟩
 |u::ts,i+1,j,t,h=>by simp only[eI,aW]at h;obtain⟨w,h1,h2⟩:=EZ (ts:=ts) (i:=i) (j:=j+1) h;exact⟨w,by simpa using h1,by rw[h2,show j+1+i=j+(i+1) by lia]⟩
theorem xK:∀(ts:List T)(j:Nat),(eI ts j).length=ts.length
 |[],_=>rfl
 |_::ts,j=>by simp[eI,xK ts (j+1)]
theorem FA{sq:Hp->Addr->List V->Prop}(mono:∀{F G:Hp}{xs:List V},Same F G->sq F l xs->sq G l xs)(h1:sq F' l vs)(h2:aH K F' ts vs):Walk K (Ite sq l) (eI ts 0) F' where
 go:=fun i H hi sm=>by rw[xK]at hi;obtain⟨v,hv,_⟩:=h2.get (dM hi);exact⟨vs,v,mono sm h1,hv⟩
 yld:=fun i H x H5 F t ht sF fh y=>by obtain⟨p,v,hp,rfl,rfl,y⟩:=y;obtain⟨u,hu,rfl⟩:=EZ ht;obtain⟨w,hw,hr⟩:=h2.get hu;have e:=y vs (mono fh (mono sF h1));rw[hw]at e;cases e;have st:=(Step.refl fh).new (o:=.tup [.int (i:Int),v]) hp;refine⟨_,st,p,_,rfl,bN,.int (i:Int),[v],rfl,?_,v,[],rfl,(hr.mono sF).mono st.ff,rfl⟩;show V.int (i:Int)=V.int ((0+i:Nat):Int);rw[Nat.zero_add]
 stop:=fun H sm=>⟨vs,mono sm h1,by rw[xK,h2.length]⟩
theorem VJ(ha:Oke X c a f):PI X tg a (spI X c fun r=>(f r).bind fun x=>items .plain [x]):=by
 refine tM (SG ha) fun O H R q=>?_;obtain⟨r,F,ts,e,ht,q⟩:=q;obtain⟨t,e1,ht⟩:=obs ht;refine⟨r,F,t,e,e1,fun v F' H' s1 r1=>?_⟩;cases t with
 |tup us=>cases ht;obtain⟨l,vs,rfl,h1,h2⟩:=r1;exact⟨l,rfl,.inr ⟨vs,dC s1.fh h1,q _ F' H' s1 (VG h1 h2)⟩⟩
 |lst us=>cases ht;obtain⟨l,vs,rfl,h1,h2⟩:=r1;exact⟨l,rfl,.inl ⟨vs,(Ls.same s1.fh h1).sq,q _ F' H' s1 (VE h1 h2)⟩⟩
 |_=>cases ht
theorem VL(gd:Gd X c G k)(hg:glB c.sc "range"=true)(ha:Oke X c a f)(hs:starEach [a] X.env=[(false,eval a X.env)]):PI X tg (.Call (.Name "range" p) [a] [] pos) (spI X c fun r=>(f r).bind fun x=>items .range [x]):=by
 refine tM (LS (gd.gl _ hg) (gd.nob _ (by decide +kernel)) (lU ha hs) hs) fun O H R q=>?_;obtain⟨r,F,ts,e,ht,q⟩:=q;obtain⟨t,e1,ht⟩:=obs ht;refine⟨r,F,[t],e,fW.mpr ⟨t,e1,rfl⟩,fun vs F' H' s1 r1=>?_⟩;obtain⟨v,w,rfl,h1,h2⟩:=r1;cases h2;cases t with
 |int n=>
  cases h1;simp only[items]at ht;split at ht
  .rename_i hz;cases ht;have e62:(2:Int) ^ 62=4611686018427387904:=by decide
   exact⟨n,rfl,by rw[e62];exact hz.1,by rw[e62];exact hz.2,q _ F' H' s1 (VI _)⟩
  .cases ht
 |_=>cases ht
theorem VM(gd:Gd X c G k)(hg:glB c.sc "enumerate"=true)(ha:Oke X c a f)(hs:starEach [a] X.env=[(false,eval a X.env)]):PI X (.Tuple elts kx p2) (.Call (.Name "enumerate" p) [a] [] pos) (spI X c fun r=>(f r).bind fun x=>items .enum [x]):=by
 refine tM (SH (gd.gl _ hg) (gd.nob _ (by decide +kernel)) (lU ha hs) hs) fun O H R q=>?_;obtain⟨r,F,ts,e,ht,q⟩:=q;obtain⟨t,e1,ht⟩:=obs ht;refine⟨r,F,[t],e,fW.mpr ⟨t,e1,rfl⟩,fun vs F' H' s1 r1=>?_⟩;obtain⟨v,w,rfl,h1,h2⟩:=r1;cases h2;cases t with
 |tup us=>cases ht;obtain⟨l,vs,rfl,h1,h2⟩:=h1;exact⟨l,rfl,.inr ⟨vs,dC s1.fh h1,q _ F' H' s1 (FA (sq:=SqT X.K) (fun e h=>VF e h) (SqT.of h1) h2)⟩⟩
 |lst us=>cases ht;obtain⟨l,vs,rfl,h1,h2⟩:=h1;exact⟨l,rfl,.inl ⟨vs,(Ls.same s1.fh h1).sq,q _ F' H' s1 (FA (sq:=SqL X.K) (fun e h=>e.seq h) h1.sq h2)⟩⟩
 |_=>cases ht
theorem xL:∀(xs ys:List T),(fG xs ys).length=min xs.length ys.length
 |[],_=>by simp[fG]
 |_::_,[]=>by simp[fG]
 |x::xs,y::ys=>by simp only[fG,List.length_cons,xL xs ys];lia
theorem FB:∀{xs ys:List T}{i:Nat}{t:T},(fG xs ys)[i]?=some t->∃x y,xs[i]?=some x/\ys[i]?=some y/\t=.tup [x,y]
 |[],_,_,_,h=>by simp[fG]at h
 |_::_,[],_,_,h=>by simp[fG]at h
 |x::xs,y::ys,0,t,h=>by simp[fG]at h;exact⟨x,y,rfl,rfl,h.symm⟩
 |x::xs,y::ys,i+1,t,h=>by simp only[fG,aW]at h;obtain⟨u,v,h1,h2,h3⟩:=FB h;exact⟨u,v,by simpa using h1,by simpa using h2,h3⟩
theorem VN{F:Hp}(h:CJ t=some ts)(r:Rep K F t v):∃b l vs,v=.ref l/\aH K F ts vs/\∀H,Same F H->SqB b K H l vs:=by
 cases t with
 |tup us=>cases h;obtain⟨l,vs,rfl,h1,h2⟩:=r;exact⟨true,l,vs,rfl,h2,fun H sm=>dC sm h1⟩
 |lst us=>cases h;obtain⟨l,vs,rfl,h1,h2⟩:=r;exact⟨false,l,vs,rfl,h2,fun H sm=>(Ls.same sm h1).sq⟩
 |_=>cases h
theorem VO(q1:∀H,Same F' H->SqB b1 K H l1 vs)(q2:∀H,Same F' H->SqB b2 K H l2 ws)(h1:aH K F' xs vs)(h2:aH K F' ys ws):Walk K (Itz K b1 b2 l1 l2) (fG xs ys) F' where
 go:=fun i H hi sm=>by rw[xL]at hi;obtain⟨v,hv,_⟩:=h1.get (dM (show i<xs.length by lia));obtain⟨u,hu,_⟩:=h2.get (dM (show i<ys.length by lia));exact⟨vs,ws,v,u,q1 H sm,q2 H sm,hv,hu⟩
 yld:=fun i H x H5 F t ht sF fh y=>by obtain⟨p,v,u,hp,rfl,rfl,y1,y2⟩:=y;obtain⟨a,b,ha,hb,rfl⟩:=FB ht;obtain⟨va,hva,ra⟩:=h1.get ha;obtain⟨vb,hvb,rb⟩:=h2.get hb;have e1:=y1 vs (q1 H (sF.trans fh));have e2:=y2 ws (q2 H (sF.trans fh));rw[hva]at e1;rw[hvb]at e2;cases e1;cases e2;have st:=(Step.refl fh).new (o:=.tup [v,u]) hp;exact⟨_,st,p,_,rfl,bN,v,[u],rfl,(ra.mono sF).mono st.ff,u,[],rfl,(rb.mono sF).mono st.ff,rfl⟩
 stop:=fun H sm=>⟨vs,ws,q1 H sm,q2 H sm,by rw[xL,h1.length,h2.length];lia⟩
theorem VP(gd:Gd X c G k){f g:Env->a0 T}(hg:glB c.sc "zip"=true)(ha:Oke X c a f)(hb:Oke X c b g)(hs:starEach [a,b] X.env=[(false,eval a X.env),(false,eval b X.env)])(hs2:starEach [b] X.env=[(false,eval b X.env)]):PI X (.Tuple elts kx p2) (.Call (.Name "zip" p) [a,b] [] pos) (spI X c fun r=>(f r).bind fun x=>(g r).bind fun y=>items .zip [x,y]):=by
 refine tM (VD (gd.gl _ hg) (gd.nob _ (by decide +kernel)) (xD ha (lU hb hs2) (by rw[hs,hs2])) hs hs2) fun O H R q=>?_;obtain⟨r,F,ts,e,ht,q⟩:=q;obtain⟨t1,e1,ht⟩:=obs ht;obtain⟨t2,e2,ht⟩:=obs ht;refine⟨r,F,[t1,t2],e,fW.mpr ⟨t1,e1,fW.mpr ⟨[t2],fW.mpr ⟨t2,e2,rfl⟩,rfl⟩⟩,fun vs F' H' s1 r1=>?_⟩;obtain⟨v,w1,rfl,r1,w,w2,rfl,r2,r3⟩:=r1;cases r3;cases t1 with
 |tup xs=>obtain⟨ys,y1,ht⟩:=obs ht;cases ht;obtain⟨l1,vs1,rfl,a2,a1⟩:=r1;have a2:∀H,Same F' H->SqB true X.K H l1 vs1:=fun H sm=>dC sm a2;obtain⟨b2,l2,vs2,rfl,a3,a4⟩:=VN y1 r2;exact⟨l1,l2,b2,vs1,vs2,rfl,a2 H' s1.fh,a4 H' s1.fh,q _ F' H' s1 (VO a2 a4 a1 a3)⟩
 |_=>cases ht
def mY:List Nat->List V->L2.St->L2.St
 |i::is,v::vs,O=>mY is vs (O.set i (some v))
 |_,_,O=>O
def gL:List Nat->TGs
 |[]=>gNil
 |i::is=>AO (rJ i) (gL is)
theorem FC:∀{is:List Nat}{vs:List V}{O:L2.St}{H:Hp}{Q:L2.St->Hp->Prop},vs.length=is.length->Q (mY is vs O) H->gL is vs O H Q
 |[],[],_,_,_,_,q=>⟨rfl,q⟩
 |[],_::_,_,_,_,h,_=>by simp at h
 |_::_,[],_,_,_,h,_=>by simp at h
 |i::is,v::vs,O,H,Q,h,q=>⟨v,vs,rfl,FC (is:=is) (by simpa using h) q⟩
structure At(X:Cx)(x:Str)(i:Nat):Prop where
 ix:X.N[i]?=some x
 loc:Loc X.env.scope x
 fn:X.fn x=true\/X.env.scope.names.lookup x=some .local
inductive Ats(X:Cx):List Str->List Nat->Prop
 |nil:Ats X [] []
 |cons {x:Str} {i:Nat} {xs:List Str} {is:List Nat}:At X x i->Ats X xs is->Ats X (x::xs) (i::is)
theorem FD(hN:X.N.Nodup):∀{es:List Expr}{xs:List Str}{is:List Nat},(es.mapM fun e=>match e with|.Name x _=>some x|_=>none)=some xs->Ats X xs is ->PGs X es (gL is)/\(assignEach es X.env).length=xs.length/\(assignEach es X.env).findIdx? (·.1)=none
 |[],xs,is,h,ha=>by
  have e:xs=[]:=by simpa using h.symm
  subst e;cases ha;exact⟨LI,rfl,rfl⟩
 |e::es,xs,is,h,ha=>by
  rw[List.mapM_cons]at h;obtain⟨x,h1,h⟩:=obs h;obtain⟨xs',h2,h⟩:=obs h;cases h;cases ha with
  |cons a1 a2=>
   obtain⟨q1,q2,q3⟩:=FD hN (es:=es) h2 a2;cases e with
   |Name y pos=>
    cases h1;refine⟨LJ (AN hN a1.ix a1.loc a1.fn) q1 rfl,?_,?_⟩
    .show(assignEach es X.env).length+1=xs'.length+1;rw[q2]
    .show List.findIdx? (·.1) ((false,_)::assignEach es X.env)=none;rw[List.findIdx?_cons];simp[q3]
   |_=>cases h1
def gT(K:W.Frag)(one:Bool)(is:List Nat):TG:=fun v O H Q=>
 match one,is with
 |true,[i]=>Q (O.set i (some v)) H
 |true,_=>False
 |false,is=>∃a vs,v=.ref a/\SqT K H a vs/\vs.length=is.length/\Q (mY is vs O) H
theorem xM:∀{xs:List Str}{is:List Nat},Ats X xs is->xs.length=is.length
 |_,_,.nil=>rfl
 |_,_,.cons _ h=>by simp[xM h]
theorem FE(hN:X.N.Nodup)(hc:X.calm=true)(h:kN tg=some xs)(ha:Ats X xs is):PG X tg (gT X.K (!eJ tg) is):=by
 cases tg with
 |Name x pos=>
  cases h;cases ha with
  |cons a1 a2=>cases a2;exact AN hN a1.ix a1.loc a1.fn
 |Tuple es k pos=>obtain⟨q1,q2,q3⟩:=FD hN h ha;rintro pj s O H v u Q I r⟨a,vs,rfl,h1,h2,q⟩;exact LK hc q1 (q2.trans (xM ha)) q3 pj s O H _ u Q I r ⟨a,vs,rfl,h1,h2,FC h2 q⟩
 |_=>cases h
end
theorem lV:∀{l:List Str}{x:Str}{i:Nat},cI l x=some i->l[i]?=some x
 |[],_,_,h=>by cases h
 |y::r,x,i,h=>by
  unfold cI at h;split at h
  .rename_i e;cases h;rw[cK e];rfl
  .obtain⟨j,hj,rfl⟩:=oms h;simpa using lV hj
theorem FF:∀{l r:List Str}{x:Str}{i:Nat},cI (l++r) x=some i->(cI l x=some i/\i<l.length)\/(x∉l/\l.length<=i/\cI r x=some (i-l.length))
 |[],r,x,i,h=>.inr ⟨by simp,Nat.zero_le _,by simpa using h⟩
 |y::l,r,x,i,h=>by
  rw[List.cons_append,cI]at h;split at h
  .rename_i e;cases h;left;rw[cI,if_pos e];exact⟨rfl,by simp⟩
  .rename_i e;obtain⟨j,hj,rfl⟩:=oms h;rcases FF hj with⟨h1,h2⟩|⟨h1,h2,h3⟩
   .left;rw[cI,if_neg e,h1];exact⟨rfl,by simpa using h2⟩
   .right;refine⟨fun z=>?_,by simpa using h2,?_⟩
    .rcases omc z with q|q
     .exact e (by rw[q];exact mE _)
     .exact h1 q
    .rw[h3,gC,show j+1-(l.length+1)=j-l.length by lia]
theorem FG:∀{xs:List Str},oA xs=true->xs.Nodup
 |[],_=>rA
 |x::r,h=>by simp only[oA,Bool.and_eq_true,Bool.not_eq_true']at h;refine gH.mpr ⟨fun z=>?_,FG h.2⟩;have:=h.1;rw[List.contains_iff_mem.mpr z]at this;cases this
structure CsB(out sc:Scope)(xs:List Str):Prop where
 kind:sc.kind=.function
 nd:xs.Nodup
 own:∀x∈xs,bX x=true/\(sc.names.lookup x=some .local\/sc.names.lookup x=some .cell)
 free:∀y∈sc.names,y.2=.free->sc.names.lookup y.1=some .free/\(out.names.lookup y.1=some .cell\/out.names.lookup y.1=some .free)
 loc:∀y∈sc.names,y.2=.local->sc.names.lookup y.1=some .local/\(y.1∈xs\/y.1=".0")
 cel:∀y∈sc.names,y.2=.cell->sc.names.lookup y.1=some .cell/\y.1∈xs
theorem VQ(h:pP out sc xs=true):CsB out sc xs:=by
 simp only[pP,Bool.and_eq_true]at h;obtain⟨⟨⟨h1,h2⟩,h3⟩,h4⟩:=h;have all:=oml h4;refine⟨by simpa using h1,FG h2,fun x hx=>?_,fun y hy e=>?_,fun y hy e=>?_,fun y hy e=>?_⟩
 .have:=oml h3 x hx;simp only[Bool.and_eq_true,Bool.or_eq_true,beq_iff_eq]at this;exact this
 .have:=all y hy;rw[e]at this;simp only[Bool.and_eq_true,Bool.or_eq_true,beq_iff_eq]at this;exact this
 .have:=all y hy;rw[e]at this;simp only[Bool.and_eq_true,Bool.or_eq_true,beq_iff_eq]at this;exact⟨this.1,this.2.imp (fun z=>List.contains_iff_mem.mp z) id⟩
 .have:=all y hy;rw[e]at this;simp only[Bool.and_eq_true,beq_iff_eq]at this;exact⟨this.1,List.contains_iff_mem.mp this.2⟩
section
variable {X:Cx}{c:Tc}{G:Glo}{k:Nat}{scope:Scope}{xs:List Str}{pj:Pq}{fp:List Addr}{qz:Shared}{qy:Hp}
theorem CsB.sc(S:CsB c.sc scope xs)(gd:Gd X c G k):CompSc X scope xs :=
 ⟨S.kind,S.nd,fun x hx=>(S.own x hx).2,fun y hy e=>⟨(S.free y hy e).1,gd.cap y.1 (S.free y hy e).2⟩,fun y hy e=>(S.loc y hy e).1,fun y hy e=>(S.cel y hy e).1⟩
def VR(h:N.Nodup):(eY scope N).Nodup:=h.sublist List.filter_sublist
theorem VS(S:CsB c.sc scope xs)(gd:Gd X c G k):(xs++eY scope X.N).Nodup:=by
 refine List.nodup_append.mpr ⟨S.nd,VR gd.nd,fun x hx y hy e=>?_⟩;subst e;have h1:=(S.own x hx).2;have h2:scope.names.lookup x=some .free:=by have:=(oR.mp hy).2;simpa using this
 rw[h2]at h1;rcases h1 with z|z<;>cases z
theorem VT(S:CsB c.sc scope xs)(gd:Gd X c G k):Gd (blk X pj scope xs fp qz qy) ⟨scope,xs++c.nm⟩ G k where
 room:=gd.room
 calm:=gd.calm
 nob:=gd.nob
 call:=gd.call
 vis:=fun x h=>by
  show(blk X pj scope xs fp qz qy).env.scope.names.lookup x=_\/(blk X pj scope xs fp qz qy).env.scope.names.lookup x=_\/(blk X pj scope xs fp qz qy).env.scope.names.lookup x=_;rw[mU];have h:cX scope x=true:=h;unfold cX at h;cases e:scope.names.lookup x with
  |none=>rw[e]at h;cases h
  |some q=>
   rw[e]at h;cases q with
   | «local»=>exact .inl rfl
   |cell=>exact .inr (.inl rfl)
   |free=>
    dsimp only;split
    .exact .inr (.inl rfl)
    .exact .inr (.inr rfl)
   |_=>cases h
 gl:=fun x h=>by
  show(blk X pj scope xs fp qz qy).env.scope.names.lookup x=_;rw[mU];have h:scope.names.lookup x=some .globalImplicit:=by simpa[glB]using h
  rw[h]
 cap:=fun x h=>by
  show(blk X pj scope xs fp qz qy).env.scope.names.lookup x=_\/(blk X pj scope xs fp qz qy).env.scope.names.lookup x=_;rw[mU];have h:scope.names.lookup x=some .cell\/scope.names.lookup x=some .free:=h;rcases h with h|h<;>rw[h]
  .exact .inl rfl
  .dsimp only;split
   .exact .inl rfl
   .exact .inr rfl
 nd:=VS S gd
theorem FH(S:CsB c.sc scope xs):∀(l:List Str)(n:Nat),(∀(j:Nat)(x:Str),l[j]?=some x->xs[n+j]?=some x)->Ats (blk X pj scope xs fp qz qy) l (List.range' n l.length)
 |[],_,_=>.nil
 |x::l,n,h=>by
  have h0:xs[n]?=some x:=by simpa using h 0 x rfl
  have hx:x∈xs:=jL h0;have own:=(S.own x hx).2;have hn:n<xs.length:=(ome h0).1;rw[gC,List.range'_succ];refine .cons ⟨?_,?_,?_⟩ (FH S l (n+1) fun j y e=>by have:=h (j+1) y (by simpa using e);rwa[show n+(j+1)=n+1+j by lia]at this)
  .show(xs++eY scope X.N)[n]?=some x;rw[uZ hn];exact h0
  .show(blk X pj scope xs fp qz qy).env.scope.names.lookup x=_\/(blk X pj scope xs fp qz qy).env.scope.names.lookup x=_;rw[mU];rcases own with e|e<;>rw[e]
   .exact .inl rfl
   .exact .inr rfl
  .rcases own with e|e
   .right;rw[mU,e]
   .left;show(scope.names.lookup x==some .cell)=true;rw[e];rfl
theorem VU(S:CsB c.sc scope xs)(e:EnvE X c r F O H)(hl:O.length=X.N.length)(ht:ts.length=xs.length)(rv:aH X.K F ts vs)(fh:Same F Hc)(tb:Tbk X.K F Hc):EnvE (blk X pj scope xs fp qz qy) ⟨scope,xs++c.nm⟩ (ts.map some++r) F (vs.map some++eP scope X.N O) Hc where
 fh:=fh
 tb:=tb
 get:=fun x i t hpn hi hv hr=>by
  have hvl:vs.length=xs.length:=by rw[rv.length,ht]
  have hv:cX scope x=true:=hv;rcases FF (show cI (xs++c.nm) x=some i from hi)with⟨h1,h2⟩|⟨h1,h2,h3⟩
  .have hi':i<ts.length:=by lia
   rw[oU (by simpa using hi'),List.getElem?_map]at hr;obtain⟨t',ht',e'⟩:=oms hr;cases e';obtain⟨v,hv1,hv2⟩:=rv.get ht';refine⟨i,v,?_,?_,hv2⟩
   .show(xs++eY scope X.N)[i]?=some x;rw[uZ h2];exact lV h1
   .rw[oU (by simp;lia),List.getElem?_map,hv1];rfl
  .rw[oS (by simp;lia)]at hr;have hr':r[i-xs.length]?=some (some t):=by simpa[ht]using hr
   have hfree:scope.names.lookup x=some .free:=by
    unfold cX at hv;cases q:scope.names.lookup x with
    |none=>rw[q]at hv;cases hv
    |some kd=>
     rw[q]at hv;cases kd with
     |free=>rfl
     | «local»=>
      have:=(S.loc _ (mV q) rfl).2;rcases this with z|z
      .exact absurd z h1
      .rw[show x=".0" from z]at hpn;exact absurd hpn (by decide +kernel)
     |cell=>exact absurd (S.cel _ (mV q) rfl).2 h1
     |_=>cases hv
   have hout:cX c.sc x=true:=by rcases(S.free _ (mV hfree) rfl).2 with z|z<;>simp[cX,z]
   obtain⟨j,v,g1,g2,g3⟩:=e.get x (i-xs.length) t hpn h3 hout hr';obtain⟨m,m1,m2⟩:=DV scope hfree X.N O hl g1 g2;refine⟨xs.length+m,v,?_,?_,g3⟩
   .show(xs++eY scope X.N)[xs.length+m]?=some x;rw[AB (by lia)];simpa using m1
   .rw[oS (by simp;lia)];simpa[hvl]using m2
end
theorem FI:∀(vs:List V)(front pre rest:L2.St),pre.length=vs.length->mY (List.range' front.length vs.length) vs (front++pre++rest)=front++vs.map some++rest
 |[],front,pre,rest,h=>by
  cases pre with
  |nil=>simp[mY]
  |cons _ _=>simp at h
 |v::vs,front,pre,rest,h=>by
  cases pre with
  |nil=>simp at h
  |cons p pre=>
   rw[gC,List.range'_succ,mY];have e:(front++(p::pre)++rest).set front.length (some v)=(front++[some v])++pre++rest:=by rw[kF,List.set_append,if_neg (gJ _)];simp
   have e2:(front++[some v]).length=front.length+1:=by simp
   rw[e,<-e2,FI vs (front++[some v]) pre rest (by simpa using h)];simp
def spC(X:Cx)(c:Tc)(fc:Env->a0 Bool):TT:=fun O H Q=>∃r F b,EnvE X c r F O H/\fc r=some b/\∀F' H',Step F H F' H'->Q b H'
def elM(n:Nat)(r:Env)(fc:Env->a0 Bool)(fe:Env->a0 T):T->a0 (a0 T):=fun x=>(bnd n x r).bind fun r'=>(fc r').bind fun b=>if b=true then(fe r').map some else some none
theorem FJ(gd:Gd X c G k)(S:CsB c.sc scope xs)(htg:kN tg=some xs)(h2n:eJ tg=true->2<=xs.length)(he:∀pj fp qz qy,Gd (blk X pj scope xs fp qz qy) ⟨scope,xs++c.nm⟩ G k->Oke (blk X pj scope xs fp qz qy) ⟨scope,xs++c.nm⟩ elt fe)(hi:∀pj fp qz qy,Gd (blk X pj scope xs fp qz qy) ⟨scope,xs++c.nm⟩ G k->∀(pn:Pq)(s:Shared)(O:L2.St)(H:Hp)(Q:Bool->Hp->Prop),L2.Inv (blk X pj scope xs fp qz qy) pn O H s->spC (blk X pj scope xs fp qz qy) ⟨scope,xs++c.nm⟩ fc O H Q ->wpAny (model X.prog X.w) X.A (forIn ifs true fun c r=>if r=true then do let ok <-isTrue c (blk X pj scope xs fp qz qy).env (eval c (blk X pj scope xs fp qz qy).env);pure (ForInStep.yield ok)else pure (ForInStep.yield r)) (TP (blk X pj scope xs fp qz qy) pn O Q) (fun _ _=>False) s){pj:Pq}{fp:List Addr}{O:L2.St}{H2 F2:Hp}{s2:Shared}{J:It}{it:Addr}{tn:Nat->Heap->Prop}{E:Vq}{ts total:List T}{r:Env}(I2:L2.Inv X pj O H2 s2)(Tn:Turn X.prog X.w X.K tg J fp it tn)(st2:tn 0 s2.heap)(f2:∀b∈fp,fX X pj H2 b)(wk:Walk X.K J ts F2)(e2:EnvE X c r F2 O H2)(hts:ts.length<=SZ)(hcm:eE (elM xs.length r fc fe) ts=some total):wpAny (model X.prog X.w) X.A (newList []) (fun acc qz=>wpAny (model X.prog X.w) X.A (newFunctionEnv scope X.env.globals (fP X.env scope.names []) [] X.env.qual none .none (some X.env)) (fun cenv s₄=>
   codeAny (model X.prog X.w) X.A (.compStart (.ListComp elt [⟨tg,iter,ifs,0⟩] scope pos) 0 (.ref it) acc {cenv with scope:=relabel scope X.env})
    (fun r s'=>r=.ok .next/\∃D H',acc=.ref D/\L2.Inv X pj O H' s'/\fX X pj H' cenv.locals/\(∃m,s'.heap.Ns cenv.locals m) /\
     ∃F vs,Step F2 H2 F H'/\F D=none/\H2 D=none/\H' D=some (.lst vs)/\aH X.K F total vs) s₄) E qz) E s2:=by
 have hl:O.length=X.N.length:=I2.len;have gb:∀qz qy,Gd (blk X pj scope xs fp qz qy) ⟨scope,xs++c.nm⟩ G k:=fun qz qy=>VT S gd;have hat:∀qz qy,Ats (blk X pj scope xs fp qz qy) xs (List.range' 0 xs.length):=fun qz qy=>FH S xs 0 fun j x e=>by rw[Nat.zero_add];exact e
 refine SE (g:=fun _ _=>gT X.K (!eJ tg) (List.range' 0 xs.length)) (tc:=fun qz qy=>spC (blk X pj scope xs fp qz qy) ⟨scope,xs++c.nm⟩ fc) (te:=fun qz qy=>spE (blk X pj scope xs fp qz qy) ⟨scope,xs++c.nm⟩ fe)
  gd.calm (S.sc gd) I2 Tn st2 f2 (fun qz qy _=>FE (X:=blk X pj scope xs fp qz qy) (gb qz qy).nd gd.calm htg (hat qz qy)) (fun qz qy _=>hi pj fp qz qy (gb qz qy)) (fun qz qy _=>he pj fp qz qy (gb qz qy))
  (fun D i m O' H'=>i<=ts.length/\m=ts.length-i/\(∃pre:L2.St,O'=pre++eP scope X.N O/\pre.length=xs.length)/\∃F vs rs rest,Step F2 H2 F H'/\F D=none/\H2 D=none/\H' D=some (.lst vs)/\aH X.K F rs vs/\vs.length<=i/\eE (elM xs.length r fc fe) (ts.drop i)=some rest/\rs++rest=total)
  (fun D H'=>∃F vs,Step F2 H2 F H'/\F D=none/\H2 D=none/\H' D=some (.lst vs)/\aH X.K F total vs) ?_ ?_
 .intro D hD;exact⟨ts.length,Nat.zero_le _,rfl,⟨_,rfl,by simp⟩,F2,[],[],total,(Step.refl e2.fh).newH hD,e2.fh.free hD,hD,bN,rfl,Nat.le_refl _,hcm,rfl⟩
 .rintro qz qy D i m O' H' BOk ⟨hi1,rfl,⟨pre,rfl,hpre⟩,F,vs,rs,rest,st,hF,hH2,hH',hrs,hvl,hcr,htot⟩;have sm:Same F2 H':=st.ff.trans st.fh;by_cases hlt:i<ts.length
  .right;have hti:ts[i]?=some ts[i]:=dM hlt;generalize hT:ts[i]=t at hti;rw[List.drop_eq_getElem_cons hlt,hT,eE]at hcr;obtain⟨o,ho,hcr⟩:=obs hcr;obtain⟨rest',hr',hcr⟩:=obs hcr;obtain⟨r',hb,ho⟩:=obs (show(bnd xs.length t r).bind _=some o from ho);obtain⟨bb,hfc,ho⟩:=obs ho;refine⟨wk.go i H' hlt sm,fun O'' H''=>i+1<=ts.length/\(∃pre:L2.St,O''=pre++eP scope X.N O/\pre.length=xs.length)/\∃F vs rs rest,Step F2 H2 F H''/\F D=none/\H2 D=none/\H'' D=some (.lst vs)/\aH X.K F rs vs/\vs.length<=i+1/\eE (elM xs.length r fc fe) (ts.drop (i+1))=some rest/\rs++rest=total,?_,?_⟩
   .rintro O'' H'' ⟨a1,a2,a3⟩;exact⟨ts.length-(i+1),by lia,a1,rfl,a2,a3⟩
   .intro x H5 y;obtain⟨F5,st5,r5⟩:=wk.yld i H' x H5 F t hti st.ff st.fh y;have cont:∀(us:List T)(ws:List V),us.length=xs.length->aH X.K F5 us ws->r'=us.map some++r->(spC (blk X pj scope xs fp qz qy) ⟨scope,xs++c.nm⟩ fc) (ws.map some++eP scope X.N O) H5 fun ok H7=>if ok=true then(spE (blk X pj scope xs fp qz qy) ⟨scope,xs++c.nm⟩ fe) (ws.map some++eP scope X.N O) H7 fun y H8=>∃ys,H8 D=some (.lst ys)/\ys.length<sizeLine /\
      (i+1<=ts.length/\(∃pre:L2.St,ws.map some++eP scope X.N O=pre++eP scope X.N O/\pre.length=xs.length)/\∃F vs rs rest,Step F2 H2 F (aL H8 D (.lst (ys++[y])))/\F D=none/\H2 D=none/\aL H8 D (.lst (ys++[y])) D=some (.lst vs)/\aH X.K F rs vs/\vs.length<=i+1/\eE (elM xs.length r fc fe) (ts.drop (i+1))=some rest/\rs++rest=total)
      else(i+1<=ts.length/\(∃pre:L2.St,ws.map some++eP scope X.N O=pre++eP scope X.N O/\pre.length=xs.length)/\∃F vs rs rest,Step F2 H2 F H7/\F D=none/\H2 D=none/\H7 D=some (.lst vs)/\aH X.K F rs vs/\vs.length<=i+1/\eE (elM xs.length r fc fe) (ts.drop (i+1))=some rest/\rs++rest=total):=by
     intro us ws hul hrw hrr;have hwl:(ws.map some:L2.St).length=xs.length:=by rw[bM,hrw.length,hul]
     have e5:=VU (pj:=pj) (fp:=fp) (qz:=qz) (qy:=qy) S (e2.step (st.trans st5)) hl hul hrw st5.fh (e2.tb.up (st.trans st5));rw[<-hrr]at e5;refine⟨r',F5,bb,e5,hfc,fun F7 H7 s7=>?_⟩;have st7:=st5.trans s7;have hD7:H7 D=some (.lst vs):=st7.hh.st D _ hH' rfl;have nD:∀{F8 H8:Hp},Step F H' F8 H8->F8 D=none:=fun{F8 H8}s8=>by
      cases q:F8 D with
      |none=>rfl
      |some o=>
       rcases s8.nw D (by rw[q];simp)with z|z|⟨_,z⟩
       .exact absurd hF z
       .rw[hH']at z;cases z
       .rw[hH']at z;cases z
     cases bb with
     |false=>dsimp only at ho ⊢;rw[if_neg dW]at ho ⊢;cases ho;cases hcr;exact⟨hlt,⟨_,rfl,hwl⟩,F7,vs,rs,_,st.trans st7,nD st7,hH2,hD7,hrs.mono st7.ff,by lia,hr',htot⟩
     |true=>
      dsimp only at ho ⊢;rw[if_pos rfl]at ho ⊢;obtain⟨yt,hye,rfl⟩:=oms ho;cases hcr;refine⟨r',F7,yt,e5.step s7,hye,fun v F8 H8 s8 r8=>?_⟩;have st8:=st7.trans s8;have S8:=st.trans st8;have hF8:=nD st8;refine⟨vs,st8.hh.st D _ hH' rfl,?_,hlt,⟨_,rfl,hwl⟩,F8,vs++[v],rs++[yt],_,⟨S8.hh.aL hH2 (st8.hh.st D _ hH' rfl) rfl (fun _ _ z=>nomatch z),S8.ff,fun b o q=>?_,S8.nw⟩,hF8,hH2,bN,(hrs.mono st8.ff).app ⟨v,[],rfl,r8,rfl⟩,by simp;lia,hr',by rw[List.append_assoc];exact htot⟩
      .rw[<-oE];lia
      .rw[aR (cS q hF8)];exact S8.fh b o q
    cases htup:eJ tg with
    |false=>
     have hx1:∃z,xs=[z]:=by
      cases tg with
      |Name z p=>cases htg;exact⟨z,rfl⟩
      |Tuple _ _ _=>cases htup
      |_=>cases htg
     obtain⟨z,rfl⟩:=hx1;have hb':some (some t::r)=some r':=hb;cases hb';obtain⟨p0,rfl⟩:∃p0,pre=[p0]:=by
      cases pre with
      |nil=>simp at hpre
      |cons p0 q=>cases q with
       |nil=>exact⟨p0,rfl⟩
       |cons _ _=>simp at hpre
     exact cont [t] [x] rfl ⟨x,[],rfl,r5,rfl⟩ rfl
    |true=>
     have hn2:=h2n htup;unfold bnd at hb;rw[if_neg (by lia)]at hb;cases t with
     |tup us=>
      simp only at hb;split at hb
      .rename_i hul;cases hb;obtain⟨a,ws,rfl,q1,q2⟩:=r5;refine⟨a,ws,rfl,dC st5.fh q1,by rw[List.length_range',q2.length,hul],?_⟩;have es:=FI ws [] pre (eP scope X.N O) (by rw[hpre,q2.length,hul]);rw[q2.length,hul]at es;simp only[List.length_nil,List.nil_append]at es;rw[es];exact cont us ws hul q2 rfl
      .cases hb
     |_=>cases hb
  .left;have hie:i=ts.length:=by lia
   subst hie;rw[List.drop_length]at hcr;cases hcr;rw[gI]at htot;subst htot;exact⟨wk.stop H' sm,F,vs,st,hF,hH2,hH',hrs⟩
theorem FK(a:Step F H F2 H2)(b:Step F2 H2 F3 H')(h1:F3 D=none)(h2:H2 D=none)(h3:H' D=some (.lst vs)):Step F H (aL F3 D (.lst vs)) H' :=
 have S:=a.trans b
 ⟨S.hh,S.ff.trans (iN h1),fun x o q=>by
  by_cases hx:x=D
  .subst hx;rw[bN]at q;cases q;exact h3
  .rw[aR hx]at q;exact S.fh x o q,fun x z=>by
  by_cases hx:x=D
  .subst hx;exact .inr (.inl (a.hh.free h2))
  .rw[aR hx]at z;exact S.nw x z⟩
def lW(xs:List Str)(fi:Env->a0 (List T))(fc:Env->a0 Bool)(fe:Env->a0 T):Env->a0 T :=
 fun r=>((fi r).bind fun qc=>if qc.length<=SZ then some qc else none).bind fun qc=>(eE (elM xs.length r fc fe) qc).map .lst
theorem FL(h:lW xs fi fc fe r=some t):∃qc total,fi r=some qc/\qc.length<=SZ/\eE (elM xs.length r fc fe) qc=some total/\t=.lst total:=by
 unfold lW at h;obtain⟨qc,h1,h⟩:=obs h;obtain⟨its',h2,h1⟩:=obs h1;split at h1
 .rename_i hz;cases h1;obtain⟨total,h3,rfl⟩:=oms h;exact⟨qc,total,h2,hz,h3,rfl⟩
 .cases h1
section
variable {ifs:List Expr}(gd:Gd X c G k)(S:CsB c.sc scope xs)(htg:kN tg=some xs)(h2n:eJ tg=true->2<=xs.length)(he:∀pj fp qz qy,Gd (blk X pj scope xs fp qz qy) ⟨scope,xs++c.nm⟩ G k->Oke (blk X pj scope xs fp qz qy) ⟨scope,xs++c.nm⟩ elt fe)(hi:∀pj fp qz qy,Gd (blk X pj scope xs fp qz qy) ⟨scope,xs++c.nm⟩ G k->∀(pn:Pq)(s:Shared)(O:L2.St)(H:Hp)(Q:Bool->Hp->Prop),L2.Inv (blk X pj scope xs fp qz qy) pn O H s->spC (blk X pj scope xs fp qz qy) ⟨scope,xs++c.nm⟩ fc O H Q-> wpAny (model X.prog X.w) X.A (forIn ifs true fun c r=>if r=true then do let ok <-isTrue c (blk X pj scope xs fp qz qy).env (eval c (blk X pj scope xs fp qz qy).env);pure (ForInStep.yield ok)else pure (ForInStep.yield r)) (TP (blk X pj scope xs fp qz qy) pn O Q) (fun _ _=>False) s)(hit:PI X tg iter (spI X c fi))(hfs:∀x,foldedSetIterable iter X.env x=pure x)
include gd S htg h2n he hi hit hfs
theorem xN:Oke X c (.ListComp elt [⟨tg,iter,ifs,0⟩] scope pos) (lW xs fi fc fe):=by
 rintro pj s O H Q I⟨r,F,t,e,ht,q⟩;obtain⟨qc,total,hf,hz,hcm,rfl⟩:=FL ht;rw[eval_ListComp];refine wpAny_comprehension_free (use:=none) rfl hfs (wP ((S.sc gd).has I.ok)) S.kind (fun y hy e=>(S.loc y hy e).1)
  (thn (hit pj s O H (fun J H'=>∃F',Step F H F' H'/\Walk X.K J qc F') I ⟨r,F,qc,e,hf,fun J F' H' s1 wk=>⟨F',s1,wk⟩⟩) fun v s1 h1=>thn h1 fun itv s2 h2=>?_)
 obtain⟨it,fp,tn,J,H2,rfl,I2,T,st2,f2,F2,s12,wk⟩:=h2;refine thn (FJ (E:=X.xe) gd S htg h2n he hi I2 T st2 f2 wk (e.step s12) hz hcm) fun acc s3 h3=>thn h3 fun cenv s4 h4=>codeAny_mono h4 fun res s' hres=>?_;obtain⟨rfl,D,H',rfl,I',fC,⟨m,hm⟩,F3,vs,st3,d1,d2,d3,d4⟩:=hres;refine⟨m,hm,fun h' hsb=>⟨.ref D,H',I'.turned (t':=s'.toks) (fun b o hb q=>(hsb.2 b hb).trans q) fC.1 fC.2.1 fC.2.2.2.1 fC.2.2.2.2.1 fC.2.2.2.2.2,rfl,?_⟩⟩;have S3:=FK s12 st3 d1 d2 d3;exact q _ _ _ S3 ⟨D,vs,rfl,Ls.of bN,d4.mono (iN d1)⟩
def xO(X:Cx)(c:Tc)(i:Nat)(f:Env->a0 T):TS:=fun D O H=>∃r F t,EnvE X c r F O H/\f r=some t/\∀v F' H',Step F H F' H'->Rep X.K F' t v->D.nx (O.set i (some v)) H'
theorem FM{y:Str}{py spos:Pos}{i:Nat}(hy:At X y i):PS X (.Assign [.Name y py] (.ListComp elt [⟨tg,iter,ifs,0⟩] scope pos) spos) (xO X c i (lW xs fi fc fe)):=by
 obtain⟨b,hb⟩:∃b:Bool,swapsWith (.ListComp elt [⟨tg,iter,ifs,0⟩] scope pos) (some (.Name y py)) spos.line X.env=pure b:=⟨_,rfl⟩;cases b with
 |false=>refine jR (lK gd.nd hy.ix hy.loc (xN gd S htg h2n he hi hit hfs) hb hy.fn) fun D O H q=>?_;exact q
 |true=>
  rintro pj s O H Dn I⟨r,F,t,e,ht,q⟩;obtain⟨qc,total,hf,hz,hcm,rfl⟩:=FL ht;rw[exec_Assign_Name_used _ _ _ _ hb];refine aF (wpAny_standAt (aF ?_));show wpAny _ X.A (do let _ <-comprehension (.ListComp elt [⟨tg,iter,ifs,0⟩] scope pos) scope X.env _ (newList []) false (eval iter X.env) (some (assign (.Name y py) X.env))) _ _ s;refine aF (gK (wpAny_comprehension_free (use:=some (assign (.Name y py) X.env)) (Q:=fun _ s'=>SP X pj Dn .next s') rfl hfs (wP ((S.sc gd).has I.ok)) S.kind (fun y hy e=>(S.loc y hy e).1)
   (thn (hit pj s O H (fun J H'=>∃F',Step F H F' H'/\Walk X.K J qc F') I ⟨r,F,qc,e,hf,fun J F' H' s1 wk=>⟨F',s1,wk⟩⟩) fun v s1 h1=>thn h1 fun itv s2 h2=>?_)) (fun _ s' hq=>aQ (aQ hq)) fun _ _ e=>e)
  obtain⟨it,fp,tn,J,H2,rfl,I2,T,st2,f2,F2,s12,wk⟩:=h2;refine thn (FJ (E:=X.xe) gd S htg h2n he hi I2 T st2 f2 wk (e.step s12) hz hcm) fun acc s3 h3=>thn h3 fun cenv s4 h4=>codeAny_mono h4 fun res s' hres=>?_;obtain⟨rfl,D,H',rfl,I',fC,⟨m,hm⟩,F3,vs,st3,d1,d2,d3,d4⟩:=hres;show wpAny _ X.A (assign (.Name y py) X.env (.ref D)) _ _ s';refine wpAny_assign_Name (AH I' gd.nd hy.ix hy.loc (v:=.ref D) (u:=.ref D) rfl (fun s'' I'' hsb=>?_) hy.fn);obtain⟨a,hsb,ha⟩:=hsb;have hCa:cenv.locals≠a:=by
   rcases ha with z|z
   .rw[z];exact fC.2.1
   .exact Ne.symm (fC.2.2.2.2.1 y a z)
  refine⟨m,hm.sameBut hsb hCa,fun h' hsb2=>⟨_,H',I''.turned (t':=s''.toks) (fun b o hb q=>(hsb2.2 b hb).trans q) fC.1 fC.2.1 fC.2.2.2.1 fC.2.2.2.2.1 fC.2.2.2.2.2,?_⟩⟩;have S3:=FK s12 st3 d1 d2 d3;exact q _ _ _ S3 ⟨D,vs,rfl,Ls.of bN,d4.mono (iN d1)⟩
end
theorem mZ(h:trV n c e=some e')(es:List Expr)(env:PySem.Env):starEach (e::es) env=(false,eval e env)::starEach es env:=by
 cases n with
 |zero=>cases h
 |succ n=>cases e<;>first|rfl|(cases h)
def kQ(h:trV n c e=some e')(env:PySem.Env):starEach [e] env=[(false,eval e env)]:=mZ h [] env
theorem xP(pos:Pos)(env:PySem.Env):∀{es:List Expr}{xs:List E},dP (trV n c) es=some xs->(backTo pos (starEach es env)).any (·.1)=false
 |[],_,_=>rfl
 |e::es,xs,h=>by obtain⟨x,h1,h⟩:=obs h;obtain⟨ys,h2,_⟩:=obs h;rw[mZ h1];have ih:=xP pos env h2;unfold backTo at ih ⊢;rw[bE,iJ,ih];rfl
theorem VV(h:pO b=false):vO b:=by cases b<;>first|(intro o i;rfl)|(cases h)
theorem FN(h:trV n c o=some e')(m:Str)(env:PySem.Env)(w:Sem Value):attributeBase o m env w=w:=by
 cases n with
 |zero=>cases h
 |succ n=>
  cases o with
  |Call f args kws pos=>
   cases f with
   |Name id p=>
    cases args with
    |nil=>cases kws<;>(cases h;done)
    |cons _ _=>rfl
   |_=>rfl
  |_=>rfl
theorem tO:∀{xs:List E}{r:Env}{ts:List T},aD G xs r=some ts->ts.length=xs.length
 |[],_,_,h=>by rw[aD]at h;cases h;rfl
 |x::xs,r,ts,h=>by rw[aD]at h;obtain⟨t,_,h⟩:=obs h;obtain⟨us,h2,h⟩:=obs h;cases h;simp[tO h2]
def isBO:Expr->Bool
 |.BoolOp ..=>true
 |_=>false
structure Snd(G:Glo)(k n:Nat):Prop where
 v:∀{X:Cx}{c:Tc}{e:Expr}{e':E},Gd X c G k->trV n c e=some e'->Oke X c e (evE G e')
 t:∀{X:Cx}{c:Tc}{e:Expr}{e':E},Gd X c G k->trT n c e=some e'->Okt X c e (evE G e')/\(isBO e=true->Okw X c e (evE G e'))
 i:∀{X:Cx}{c:Tc}{tg e:Expr}{ki:Ik×List E},Gd X c G k->trI n c e=some ki->(ki.1.pair=true->eJ tg=true)->PI X tg e (spI X c fun r=>(aD G ki.2 r).bind fun xs=>items ki.1 xs)
theorem Snd.l(S:Snd G k n)(gd:Gd X c G k):∀{es:List Expr}{xs:List E},dP (trV n c) es=some xs->PA X es (spL X c (aD G xs))
 |[],xs,h=>by
  cases h;have e:aD G []=fun _=>some []:=by funext r;rw[aD]
  rw[e];exact DR
 |a::es,xs,h=>by
  obtain⟨x,h1,h⟩:=obs h;obtain⟨ys,h2,h⟩:=obs h;cases h;have e:aD G (x::ys)=fun r=>(evE G x r).bind fun t=>(aD G ys r).bind fun ts=>some (t::ts):=by funext r;rw[aD]
  rw[e];exact xD (S.v gd h1) (Snd.l S gd h2) (mZ h1 es X.env)
theorem Snd.o(S:Snd G k n)(gd:Gd X c G k)(h:wJ (trV n c) e=some x):PO X e (spO X c (evO G x)):=by
 cases e with
 |none=>
  cases h;have e:evO G none=fun _=>some none:=by funext r;rw[evO]
  rw[e];exact RH
 |some a=>
  obtain⟨y,h1,rfl⟩:=oms h;have e:evO G (some y)=fun r=>(evE G y r).map some:=by funext r;rw[evO]
  rw[e];exact RI (S.v gd h1)
theorem Gd.hu(gd:Gd X c G k):X.A.units+100<cLine:=by have:=gd.room.un;lia
theorem VW(S:Snd G k n)(gd:Gd X c G k)(h:trT (n+1) c e=some e'):Okt X c e (evE G e')/\(isBO e=true->Okw X c e (evE G e')):=by
 have tru:∀{a:Expr}{x:E},(∀whole,isTrue a X.env whole=(do let v <-whole;standAt a.pos;holding [v] (truthy v)))->trV n c a=some x->Okt X c a (evE G (.tru x)):=fun{a x}he h1=>by
  have e:evE G (.tru x)=fun r=>(evE G x r).bind fun t=>(iD t).map .bl:=by funext r;rw[evE]
  rw[e];exact RU (S.v gd h1) he
 cases e with
 |BoolOp op vs pos=>
  have key:Okw X c (.BoolOp op vs pos) (evE G e'):=by
   cases vs with
   |nil=>cases op<;>(cases h;done)
   |cons a r=>
    cases r with
    |nil=>
     cases op with
     |And=>exact AJ (S.t gd h).1
     |Or=>exact KY (S.t gd h).1
    |cons b r=>
     cases op with
     |And=>
      obtain⟨x,h1,h⟩:=obs h;obtain⟨y,h2,h⟩:=obs h;cases h;have e:evE G (.land x y)=fun r=>(evE G x r).bind fun t=>match t with|.bl true=>evE G y r|.bl false=>some (.bl false)|_=>none:=by funext r;rw[evE];try rfl
      rw[e];exact RQ (S.t gd h1).1 ((S.t gd h2).2 rfl)
     |Or=>
      obtain⟨x,h1,h⟩:=obs h;obtain⟨y,h2,h⟩:=obs h;cases h;have e:evE G (.lor x y)=fun r=>(evE G x r).bind fun t=>match t with|.bl true=>some (.bl true)|.bl false=>evE G y r|_=>none:=by funext r;rw[evE];try rfl
      rw[e];exact RR (S.t gd h1).1 ((S.t gd h2).2 rfl)
  exact⟨key.pt,fun _=>key⟩
 |UnaryOp op a pos=>
  refine⟨?_,fun z=>by cases z⟩;cases op with
  |Not=>
   obtain⟨x,h1,h⟩:=obs h;cases h;have e:evE G (.lnot x)=fun r=>(evE G x r).bind fun t=>match t with|.bl b=>some (.bl (!b))|_=>none:=by funext r;rw[evE];try rfl
   rw[e];exact RS (S.t gd h1).1
  |_=>(cases h;done)
 |Compare a ops bs pos=>
  refine⟨?_,fun z=>by cases z⟩
  match ops,bs,h with
  |[op],[b],h=>
   obtain⟨o,h0,h⟩:=obs h;obtain⟨x,h1,h⟩:=obs h;obtain⟨y,h2,h⟩:=obs h;cases h;obtain⟨q1,q2⟩:=xA (X:=X) gd.hu h0;have e:evE G (.cmp o x y)=fun r=>(evE G x r).bind fun s=>(evE G y r).bind fun t=>bF o s t:=by funext r;rw[evE]
   rw[e];exact CY q1 (S.v gd h1) (S.v gd h2) q2
  |[op,op'],[b,d],h=>(cases h;done)
  |[],_,h=>(cases h;done)
  |[_],[],h=>(cases h;done)
  |[_],_::_::_,h=>(cases h;done)
  |[_,_],[],h=>(cases h;done)
  |[_,_],[_],h=>(cases h;done)
  |[_,_],_::_::_::_,h=>(cases h;done)
  |_::_::_::_,_,h=>(cases h;done)
 |Name x pos=>refine⟨?_,fun z=>by cases z⟩;obtain⟨y,h1,h⟩:=obs h;cases h;exact tru (fun _=>rfl) h1
 |Call f es ks pos=>refine⟨?_,fun z=>by cases z⟩;obtain⟨y,h1,h⟩:=obs h;cases h;exact tru (fun _=>rfl) h1
 |Subscript a b pos=>refine⟨?_,fun z=>by cases z⟩;obtain⟨y,h1,h⟩:=obs h;cases h;exact tru (fun _=>rfl) h1
 |_=>(cases h;done)
theorem VX(S:Snd G k n)(gd:Gd X c G k)(h:trI (n+1) c e=some ki)(ht:ki.1.pair=true->eJ tg=true):PI X tg e (spI X c fun r=>(aD G ki.2 r).bind fun xs=>items ki.1 xs):=by
 have one:∀(x:E)(kk:Ik),(fun r=>(aD G [x] r).bind fun xs=>items kk xs)=fun r=>(evE G x r).bind fun t=>items kk [t]:=fun x kk=>by funext r;rw[aD,aD];cases evE G x r<;>rfl
 have plain:∀{a:Expr},((trV n c a).bind fun x=>some (Ik.plain,[x]))=some ki->PI X tg a (spI X c fun r=>(aD G ki.2 r).bind fun xs=>items ki.1 xs):=fun{a}h=>by obtain⟨x,h1,h⟩:=obs h;cases h;rw[one];exact VJ (S.v gd h1)
 have call:∀{f:Str}{p pos:Pos}{a:Expr},trI (n+1) c (.Call (.Name f p) [a] [] pos)=some ki->PI X tg (.Call (.Name f p) [a] [] pos) (spI X c fun r=>(aD G ki.2 r).bind fun xs=>items ki.1 xs):=fun{f p pos a}h=>by
  unfold trI at h;split at h
  .rename_i hr;rw[dF]at hr;have hf:=cK hr.1;subst hf;obtain⟨x,h1,h⟩:=obs h;cases h;rw[one];exact VL gd hr.2 (S.v gd h1) (kQ h1 X.env)
  .split at h
   .rename_i hr;rw[dF]at hr;have hf:=cK hr.1;subst hf;obtain⟨x,h1,h⟩:=obs h;cases h;have htt:=ht rfl;cases tg with
    |Tuple es kx p2=>rw[one];exact VM gd hr.2 (S.v gd h1) (kQ h1 X.env)
    |_=>cases htt
   .exact plain h
 cases e with
 |Call f args kws pos=>
  cases f with
  |Name id p=>
   match args,kws,h with
   |[a],[],h=>exact call h
   |[],kws,h=>exact plain h
   |[_],_::_,h=>exact plain h
   |[a,b],[],h=>
    replace h:(if id==("zip":Str)&&glB c.sc id then(trV n c a).bind fun x=>(trV n c b).bind fun y=>some (Ik.zip,[x,y])else(trV n c (.Call (.Name id p) [a,b] [] pos)).bind fun x=>some (Ik.plain,[x]))=some ki:=h;split at h
    .rename_i hr;rw[dF]at hr;obtain⟨x,h1,g1⟩:=obs h;obtain⟨y,h2,g2⟩:=obs g1;cases g2;have hf:=cK hr.1;subst hf;have htt:=ht rfl;cases tg with
     |Tuple es kx p2=>
      have two:(fun r=>(aD G [x,y] r).bind fun xs=>items Ik.zip xs)=fun r=>(evE G x r).bind fun s=>(evE G y r).bind fun t=>items Ik.zip [s,t]:=by funext r;rw[aD,aD,aD];cases evE G x r<;>cases evE G y r<;>rfl
      show PI X _ _ (spI X c fun r=>(aD G [x,y] r).bind fun xs=>items Ik.zip xs);rw[two];exact VP gd hr.2 (S.v gd h1) (S.v gd h2) (by rw[mZ h1,kQ h2]) (kQ h2 X.env)
     |_=>cases htt
    .exact plain h
   |[_,_],_::_,h=>exact plain h
   |_::_::_::_,kws,h=>exact plain h
  |_=>exact plain h
 |_=>exact plain h
theorem FO(h:trI m c e=some ki)(env:PySem.Env):∀x,foldedSetIterable e env x=pure x:=by
 intro x;cases e with
 |Set es k p=>
  exfalso;cases m with
  |zero=>cases h
  |succ m=>
   have h:((trV m c (.Set es k p)).bind fun x=>some (Ik.plain,[x]))=some ki:=h;cases m with
   |zero=>cases h
   |succ m=>cases h
 |_=>rfl
theorem VY:(fun x=>(bnd m x r).bind fun r'=>((some none:a0 (a0 T))).bind fun c=>match c with
    |none=>(fe r').map some
    |some (.bl true)=>(fe r').map some
    |some (.bl false)=>some none
    |some _=>none)=elM m r (fun _=>some true) fe:=by
 funext x;unfold elM;cases bnd m x r<;>rfl
theorem VZ{r:Env}{fe f1:Env->a0 T}:(fun x=>(bnd m x r).bind fun r'=>((f1 r').map some).bind fun c=>match c with
    |none=>(fe r').map some
    |some (.bl true)=>(fe r').map some
    |some (.bl false)=>some none
    |some _=>none)=elM m r (fun r'=>(f1 r').bind fun t=>match t with|.bl b=>some b|_=>none) fe:=by
 funext x;unfold elM;cases bnd m x r with
 |none=>rfl
 |some r'=>
  simp only[aO];cases f1 r' with
  |none=>rfl
  |some t=>cases t<;>first|rfl|(rename_i b;cases b<;>rfl)
theorem FP(h:trV (n+1) c (.ListComp elt gens scope pos)=some e'):∃tg iter ifs,gens=[⟨tg,iter,ifs,0⟩]/\∃xs ki,kN tg=some xs/\trI n c iter=some ki/\(pP c.sc scope xs&&(!ki.1.pair||eJ tg)&&(!eJ tg||decide (2<=xs.length)))=true /\
   (match ifs with
   |[]=>(trV n ⟨scope,xs++c.nm⟩ elt).bind fun x=>some (.comp x xs.length ki.1 ki.2 none)
   |[t]=>(trV n ⟨scope,xs++c.nm⟩ elt).bind fun x=>(trT n ⟨scope,xs++c.nm⟩ t).bind fun y=>some (.comp x xs.length ki.1 ki.2 (some y))
   |_=>none)=some e':=by
 match gens,h with
 |[⟨tg,iter,ifs,.ofNat 0⟩],h=>
  obtain⟨xs,h0,h⟩:=obs (show((kN tg).bind fun xs=>(trI n c iter).bind fun ki=>if pP c.sc scope xs&&(!ki.1.pair||eJ tg)&&(!eJ tg||decide (2<=xs.length))then
   (match ifs with
   |[]=>(trV n ⟨scope,xs++c.nm⟩ elt).bind fun x=>some (.comp x xs.length ki.1 ki.2 none)
   |[t]=>(trV n ⟨scope,xs++c.nm⟩ elt).bind fun x=>(trT n ⟨scope,xs++c.nm⟩ t).bind fun y=>some (.comp x xs.length ki.1 ki.2 (some y))
   |_=>none)else none)=some e' from h)
  obtain⟨ki,h1,h⟩:=obs h;split at h
  .rename_i hc;exact⟨tg,iter,ifs,rfl,xs,ki,h0,h1,hc,h⟩
  .cases h
 |[⟨tg,iter,ifs,.ofNat (a+1)⟩],h=>cases h
 |[⟨tg,iter,ifs,.negSucc a⟩],h=>cases h
 |[],h=>cases h
 |g1::g2::gs,h=>obtain⟨t1,i1,f1,a1⟩:=g1;rcases a1 with(_|_)|_<;>cases h
theorem FQ(S:Snd G k n)(gd:Gd X c G k)(h:trV (n+1) c (.ListComp elt gens scope pos)=some e'):Oke X c (.ListComp elt gens scope pos) (evE G e')/\∀{y:Str}{py spos:Pos}{i:Nat},At X y i->PS X (.Assign [.Name y py] (.ListComp elt gens scope pos) spos) (xO X c i (evE G e')):=by
 obtain⟨tg,iter,ifs,rfl,xs,ki,h0,h1,hcs,hr⟩:=FP h;simp only[Bool.and_eq_true,Bool.or_eq_true,Bool.not_eq_true',decide_eq_true_eq]at hcs;have CS:=VQ hcs.1.1;have h2n:eJ tg=true->2<=xs.length:=fun z=>hcs.2.elim (fun q=>by rw[q]at z;cases z) id;have hen:ki.1.pair=true->eJ tg=true:=fun z=>hcs.1.2.elim (fun q=>by rw[q]at z;cases z) id;have hit:=S.i (tg:=tg) gd h1 hen;have hfs:=FO h1 X.env
 match ifs,hr with
 |[],hr=>
  obtain⟨x,h3,hr⟩:=obs hr;cases hr;have he:∀pj fp qz qy,Gd (blk X pj scope xs fp qz qy) ⟨scope,xs++c.nm⟩ G k->Oke (blk X pj scope xs fp qz qy) ⟨scope,xs++c.nm⟩ elt (evE G x):=fun pj fp qz qy g=>S.v g h3;have hi:∀pj fp qz qy,Gd (blk X pj scope xs fp qz qy) ⟨scope,xs++c.nm⟩ G k->∀(pn:Pq)(s:Shared)(O:L2.St)(H:Hp)(Q:Bool->Hp->Prop),L2.Inv (blk X pj scope xs fp qz qy) pn O H s->spC (blk X pj scope xs fp qz qy) ⟨scope,xs++c.nm⟩ (fun _=>some true) O H Q->
   wpAny (model X.prog X.w) X.A (forIn ([]:List Expr) true fun c r=>if r=true then do let ok <-isTrue c (blk X pj scope xs fp qz qy).env (eval c (blk X pj scope xs fp qz qy).env);pure (ForInStep.yield ok)else pure (ForInStep.yield r)) (TP (blk X pj scope xs fp qz qy) pn O Q) (fun _ _=>False) s:=fun pj fp qz qy g pn s O H Q I q=>by
   obtain⟨r,F,b,e,hb,q⟩:=q;cases hb;exact wpAny_tests_nil ⟨H,I,q F H (Step.refl e.fh)⟩
  have e:evE G (.comp x xs.length ki.1 ki.2 none)=lW xs (fun r=>(aD G ki.2 r).bind fun xs=>items ki.1 xs) (fun _=>some true) (evE G x):=by
   funext r;rw[evE];unfold lW bP;rw[<-VY];dsimp only;cases aD G ki.2 r with
   |none=>rfl
   |some ys=>simp only[aO,evO]
  rw[e];exact⟨xN gd CS h0 h2n he hi hit hfs,fun{y py spos i}hy=>FM gd CS h0 h2n he hi hit hfs hy⟩
 |[t],hr=>
  obtain⟨x,h3,hr⟩:=obs hr;obtain⟨y1,h4,hr⟩:=obs hr;cases hr;have he:∀pj fp qz qy,Gd (blk X pj scope xs fp qz qy) ⟨scope,xs++c.nm⟩ G k->Oke (blk X pj scope xs fp qz qy) ⟨scope,xs++c.nm⟩ elt (evE G x):=fun pj fp qz qy g=>S.v g h3;have hi:∀pj fp qz qy,Gd (blk X pj scope xs fp qz qy) ⟨scope,xs++c.nm⟩ G k->∀(pn:Pq)(s:Shared)(O:L2.St)(H:Hp)(Q:Bool->Hp->Prop),L2.Inv (blk X pj scope xs fp qz qy) pn O H s->spC (blk X pj scope xs fp qz qy) ⟨scope,xs++c.nm⟩ (fun r'=>(evE G y1 r').bind fun t=>match t with|.bl b=>some b|_=>none) O H Q->
   wpAny (model X.prog X.w) X.A (forIn [t] true fun c r=>if r=true then do let ok <-isTrue c (blk X pj scope xs fp qz qy).env (eval c (blk X pj scope xs fp qz qy).env);pure (ForInStep.yield ok)else pure (ForInStep.yield r)) (TP (blk X pj scope xs fp qz qy) pn O Q) (fun _ _=>False) s:=fun pj fp qz qy g pn s O H Q I q=>by
   obtain⟨r,F,b,e,hb,q⟩:=q;obtain⟨tt,ht,hb⟩:=obs hb;cases tt with
   |bl b'=>cases hb;exact wpAny_tests_one ((S.t g h4).1 pn s O H Q I ⟨r,F,b,e,ht,q⟩)
   |_=>cases hb
  have e:evE G (.comp x xs.length ki.1 ki.2 (some y1))=lW xs (fun r=>(aD G ki.2 r).bind fun xs=>items ki.1 xs) (fun r'=>(evE G y1 r').bind fun t=>match t with|.bl b=>some b|_=>none) (evE G x):=by
   funext r;rw[evE];unfold lW bP;rw[<-VZ];dsimp only;cases aD G ki.2 r with
   |none=>rfl
   |some ys=>simp only[aO,evO];try rfl
  rw[e];exact⟨xN gd CS h0 h2n he hi hit hfs,fun{y py spos i}hy=>FM gd CS h0 h2n he hi hit hfs hy⟩
 |_::_::_,hr=>cases hr
theorem tP(S:Snd G k n)(gd:Gd X c G k)(hg:glB c.sc f=true)(hp:bX f=true)(h:dP (trV n c) (a::es)=some xs):Oke X c (.Call (.Name f p) (a::es) [] pos) (evE G (.call f xs)):=by
 have e:evE G (.call f xs)=fun r=>(aD G xs r).bind fun ys=>G.call f ys:=by funext r;rw[evE]
 rw[e];obtain⟨x,h1,h'⟩:=obs h;obtain⟨ys,h2,_⟩:=obs h';exact RX gd hg hp (S.l gd h) (mZ h1 es X.env) (xP pos X.env h2)
theorem FR(S:Snd G k n)(gd:Gd X c G k)(h:trV (n+1) c e=some e'):Oke X c e (evE G e'):=by
 have cst:∀{t:T}{v:V}{a:Expr},PE X a (tC v)->(∀F,Rep X.K F t v)->Oke X c a (evE G (.c t)):=fun{t v a}h1 h2=>by
  have e:evE G (.c t)=fun _=>some t:=by funext r;rw[evE]
  rw[e];exact RK h1 h2
 cases e with
 |Constant cs q pos=>
  cases cs with
  |none=>cases(show some (E.c .non)=some e' from h);exact cst KR fun _=>rfl
  |bool b=>cases(show some (E.c (.bl b))=some e' from h);exact cst vD fun _=>rfl
  |int i=>cases(show some (E.c (.int i))=some e' from h);exact cst rH fun _=>rfl
  |str x=>cases(show some (E.c (.str x))=some e' from h);exact cst oX fun _=>rfl
  |_=>(cases h;done)
 |Name x pos=>
  replace h:(if bX x then(if cX c.sc x then(cI c.nm x).map E.w else none)else none)=some e':=h;split at h
  .rename_i hp;split at h
   .rename_i hv;obtain⟨i,hi,rfl⟩:=oms h;have e:evE G (.w i)=fun r=>(r[i]?).join:=by funext r;rw[evE]
    rw[e];exact RL gd hp hv hi
   .cases h
  .cases h
 |BinOp a op b pos=>
  obtain⟨o,h0,h⟩:=obs h;obtain⟨x,h1,h⟩:=obs h;obtain⟨y,h2,h⟩:=obs h;cases h;have e:evE G (.bin o x y)=fun r=>(evE G x r).bind fun s=>(evE G y r).bind fun t=>bO o s t:=by funext r;rw[evE]
  rw[e];exact PX (RE h0) (S.v gd h1) (S.v gd h2)
 |UnaryOp op a pos=>
  cases op with
  |Not=>
   obtain⟨x,h1,h⟩:=obs h;cases h;have e:evE G (.lnot x)=fun r=>(evE G x r).bind fun t=>match t with|.bl b=>some (.bl (!b))|_=>none:=by funext r;rw[evE];try rfl
   rw[e];exact RM (S.v gd h1)
  |USub=>
   obtain⟨x,h1,h⟩:=obs h;cases h;have e:evE G (.neg x)=fun r=>(evE G x r).bind fun t=>match t with|.int b=>some (.int (-b))|_=>none:=by funext r;rw[evE];try rfl
   rw[e];exact RN (S.v gd h1)
  |_=>(cases h;done)
 |BoolOp op vs pos=>
  cases vs with
  |nil=>cases op<;>(cases h;done)
  |cons a r=>
   cases r with
   |nil=>exact LC (S.v gd h)
   |cons b r=>
    cases op with
    |And=>
     obtain⟨x,h1,h⟩:=obs h;obtain⟨y,h2,h⟩:=obs h;cases h;have e:evE G (.land x y)=fun r=>(evE G x r).bind fun t=>match t with|.bl true=>evE G y r|.bl false=>some (.bl false)|_=>none:=by funext r;rw[evE];try rfl
     rw[e];exact RO (S.v gd h1) (S.v gd h2)
    |Or=>
     obtain⟨x,h1,h⟩:=obs h;obtain⟨y,h2,h⟩:=obs h;cases h;have e:evE G (.lor x y)=fun r=>(evE G x r).bind fun t=>match t with|.bl true=>some (.bl true)|.bl false=>evE G y r|_=>none:=by funext r;rw[evE];try rfl
     rw[e];exact RP (S.v gd h1) (S.v gd h2)
 |Compare a ops bs pos=>
  match ops,bs,h with
  |[op],[b],h=>
   obtain⟨o,h0,h⟩:=obs h;obtain⟨x,h1,h⟩:=obs h;obtain⟨y,h2,h⟩:=obs h;cases h;obtain⟨q1,q2⟩:=xA (X:=X) gd.hu h0;have e:evE G (.cmp o x y)=fun r=>(evE G x r).bind fun s=>(evE G y r).bind fun t=>bF o s t:=by funext r;rw[evE]
   rw[e];exact PY q1 (S.v gd h1) (S.v gd h2) q2
  |[op,op'],[b,d],h=>(cases h;done)
  |[],_,h=>(cases h;done)
  |[_],[],h=>(cases h;done)
  |[_],_::_::_,h=>(cases h;done)
  |[_,_],[],h=>(cases h;done)
  |[_,_],[_],h=>(cases h;done)
  |[_,_],_::_::_::_,h=>(cases h;done)
  |_::_::_::_,_,h=>(cases h;done)
 |Tuple es q pos=>
  obtain⟨xs,h1,h⟩:=obs h;cases h;have e:evE G (.tup xs)=fun r=>if xs.length<=1000 then(aD G xs r).map .tup else none:=by funext r;rw[evE]
  rw[e];exact RV (S.l gd h1) fun r ts q=>tO q
 |List es pos=>
  obtain⟨xs,h1,h⟩:=obs h;cases h;have e:evE G (.lst xs)=fun r=>if xs.length<=1000 then(aD G xs r).map .lst else none:=by funext r;rw[evE]
  rw[e];exact RW (S.l gd h1) fun r ts q=>tO q
 |Subscript a b pos=>
  have idx:pO b=false->((trV n c a).bind fun x=>(trV n c b).bind fun y=>some (E.idx x y))=some e'->Oke X c (.Subscript a b pos) (evE G e'):=fun hs h=>by
   obtain⟨x,h1,h⟩:=obs h;obtain⟨y,h2,h⟩:=obs h;cases h;have e:evE G (.idx x y)=fun r=>(evE G x r).bind fun s=>(evE G y r).bind fun t=>aK s t:=by funext r;rw[evE]
   rw[e];exact RG (by have:=gd.hu;lia) (S.v gd h1) (S.v gd h2) (VV hs)
  cases b with
  |Slice lo hi st p2=>
   cases st with
   |some st=>replace h:(none:a0 E)=some e':=h;cases h
   |none=>
    obtain⟨x,h1,h⟩:=obs h;obtain⟨l,h2,h⟩:=obs h;obtain⟨u,h3,h⟩:=obs h;cases h;have e:evE G (.sli x l u)=fun r=>(evE G x r).bind fun s=>(evO G l r).bind fun l1=>(evO G u r).bind fun u1=>(asI l1).bind fun l2=>(asI u1).bind fun u2=>fN s l2 u2:=by funext r;rw[evE]
    rw[e];exact RJ (S.v gd h1) (S.o gd h2) (S.o gd h3)
  |Tuple _ _ _=>cases h
  |Starred _ _=>cases h
  |_=>exact idx rfl h
 |Call f args kws pos=>
  cases f with
  |Name f p=>
   match args,kws,h with
   |[],kws,h=>(cases h;done)
   |[a],[],h=>
    replace h:(if glB c.sc f&&bX f then(match sB f with
  |some k=>(trV n c a).bind fun x=>some (.blt k x)
  |none=>if bnames.contains f then none else(trV n c a).bind fun x=>some (.call f [x]))else none)=some e':=h
    split at h
    .rename_i hg;rw[dF]at hg;split at h
     .rename_i kb hk;obtain⟨x,h1,h⟩:=obs h;cases h;have e:evE G (.blt kb x)=fun r=>(evE G x r).bind fun t=>bW kb t:=by funext r;rw[evE]
      rw[e];exact UO gd hk hg.1 (S.v gd h1) (kQ h1 X.env)
     .split at h
      .cases h
      .obtain⟨x,h1,h⟩:=obs h;cases h;exact tP S gd hg.1 hg.2 (by show(trV n c a).bind _=_;rw[h1];rfl)
    .cases h
   |[a,b],[],h=>
    replace h:(if f==("isinstance":Str)then
   (match b with
   |.Name ty _=>if glB c.sc f&&glB c.sc ty then(pN ty).bind fun k=>(trV n c a).bind fun x=>some (.isi x k)else none
   |_=>none)
  else if glB c.sc f&&bX f&&!bnames.contains f then(dP (trV n c) [a,b]).bind fun xs=>some (.call f xs)else none)=some e':=h
    split at h
    .rename_i hf;have hf:=cK hf;subst hf;cases b with
     |Name ty p2=>
      simp only at h;split at h
      .rename_i hg;rw[dF]at hg;obtain⟨kt,hk,h⟩:=obs h;obtain⟨x,h1,h⟩:=obs h;cases h;have e:evE G (.isi x kt)=fun r=>(evE G x r).bind fun t=>some (.bl (nV t kt)):=by funext r;rw[evE]
       rw[e];exact UQ gd hk hg.1 hg.2 (S.v gd h1) (mZ h1 _ X.env)
      .cases h
     |_=>cases h
    .split at h
     .rename_i hg;simp only[Bool.and_eq_true]at hg;obtain⟨xs,h1,h⟩:=obs h;cases h;exact tP S gd hg.1.1 hg.1.2 h1
     .cases h
   |a::b::d::es,[],h=>
    replace h:(if glB c.sc f&&bX f&&!bnames.contains f then(dP (trV n c) (a::b::d::es)).bind fun xs=>some (.call f xs)else none)=some e':=h;split at h
    .rename_i hg;simp only[Bool.and_eq_true]at hg;obtain⟨xs,h1,h⟩:=obs h;cases h;exact tP S gd hg.1.1 hg.1.2 h1
    .cases h
   |_::bs,_::_,h=>rcases bs with _|⟨_,_|⟨_,_⟩⟩<;>cases h
  |Attribute o m apos=>
   match args,kws,h with
   |[a],[],h=>
    replace h:(if apos.endLine==pos.line then(wH m).bind fun k=>(trV n c o).bind fun x=>(trV n c a).bind fun y=>some (.mth k x y)else none)=some e':=h;split at h
    .rename_i hl;obtain⟨km,hm,h⟩:=obs h;obtain⟨x,h1,h⟩:=obs h;obtain⟨y,h2,h⟩:=obs h;cases h;unfold wH at hm;split at hm
     .rename_i hj;have hj:=cK hj;subst hj;cases hm;have e:evE G (.mth .index x y)=fun r=>(evE G x r).bind fun s=>(evE G y r).bind fun t=>dZ .index s t:=by funext r;rw[evE]
      rw[e];exact EX F.slot_list_index F.type_list_index (EW gd.hu) (S.v gd h1) (S.v gd h2) (FN h1 _ _ _) (kQ h2 X.env) hl
     .split at hm
      .rename_i hj;have hj:=cK hj;subst hj;cases hm;have e:evE G (.mth .count x y)=fun r=>(evE G x r).bind fun s=>(evE G y r).bind fun t=>dZ .count s t:=by funext r;rw[evE]
       rw[e];exact EX F.slot_list_count F.type_list_count (UT gd.hu) (S.v gd h1) (S.v gd h2) (FN h1 _ _ _) (kQ h2 X.env) hl
      .cases hm
    .cases h
   |[],_,h=>(cases h;done)
   |[_],_::_,h=>(cases h;done)
   |[a,b],[],h=>cases h
   |[_,_],_::_,h=>cases h
   |_::_::_::_,_,h=>cases h
  |_=>(cases h;done)
 |ListComp elt gens scope pos=>exact(FQ S gd h).1
 |_=>(cases h;done)
theorem jA(G:Glo)(k:Nat):∀n,Snd G k n
 |0=>⟨fun _ h=>(by cases h),fun _ h=>(by cases h),fun _ h=>(by cases h)⟩
 |n+1=>
  have S:=jA G k n
  ⟨fun gd h=>FR S gd h,fun gd h=>VW S gd h,fun gd h ht=>VX S gd h ht⟩
section
variable {K:W.Frag}
def Sl.isOwn:Sl->Bool
 |.own _=>true
 |.dk _=>true
 |_=>false
def Own(K:W.Frag)(F:Hp):Sl->HO->Prop
 |.own ts,o=>∃vs,o=.lst vs/\aH K F ts vs
 |.dk qb,o=>∃ws:List (Key×V),o=.dK ws/\ws.map (·.1)=qb.map (·.1)/\aH K F (qb.map (·.2)) (ws.map (·.2))
 |_,_=>False
theorem Own.mono{K:W.Frag}{F F':Hp}(e:Same F F')(h:Own K F s o):Own K F' s o:=by
 cases s with
 |own ts=>obtain⟨vs,h1,h2⟩:=h;exact⟨vs,h1,h2.mono e⟩
 |dk qb=>obtain⟨ws,h1,h2,h3⟩:=h;exact⟨ws,h1,h2,h3.mono e⟩
 |_=>exact h
theorem Own.noTup{F:Hp}(h:Own K F s o):o≠.tup xs:=by
 cases s with
 |own ts=>obtain⟨vs,rfl,_⟩:=h;exact fun z=>nomatch z
 |dk qb=>obtain⟨ws,rfl,_⟩:=h;exact fun z=>nomatch z
 |_=>exact h.elim
theorem Own.noTbl{F:Hp}(h:Own K F s o):sH o=false:=by
 cases s with
 |own ts=>obtain⟨vs,rfl,_⟩:=h;rfl
 |dk qb=>obtain⟨ws,rfl,_⟩:=h;rfl
 |_=>exact h.elim
theorem Own.noFrz{F:Hp}(h:Own K F s o):∀p u,o≠.frz p u:=by
 cases s with
 |own ts=>obtain⟨vs,rfl,_⟩:=h;exact fun _ _ z=>nomatch z
 |dk qb=>obtain⟨ws,rfl,_⟩:=h;exact fun _ _ z=>nomatch z
 |_=>exact h.elim
theorem Own.frz{K:W.Frag}{F:Hp}(h:Own K F s o)(ha:F a=some o):∃t,s.frz=.val t/\Rep K F t (.ref a):=by
 cases s with
 |own ts=>obtain⟨vs,rfl,h2⟩:=h;exact⟨_,rfl,a,vs,rfl,Ls.of ha,h2⟩
 |dk qb=>obtain⟨ws,rfl,h2,h3⟩:=h;exact⟨_,rfl,a,ws,rfl,ha,h2,h3⟩
 |_=>exact h.elim
structure EnvS(X:Cx)(F0 H0:Hp)(τ:List Sl)(O:L2.St)(F H:Hp):Prop where
 st:Step F0 H0 F H
 t0:Tbk X.K F0 H0
 len:τ.length=O.length
 val:∀(i:Nat)(t:T),τ[i]?=some (.val t)->∃v,O[i]?=some (some v)/\Rep X.K F t v
 ownG:∀(i:Nat)(s:Sl),τ[i]?=some s->s.isOwn=true->∃a o,O[i]?=some (some (.ref a))/\H a=some o/\F a=none/\H0 a=none/\Own X.K F s o
 disG:∀(i j:Nat)(s u:Sl)(a:Addr),i≠j->τ[i]?=some s->τ[j]?=some u->s.isOwn=true->u.isOwn=true->O[i]?=some (some (.ref a))->O[j]?≠some (some (.ref a))
section
variable {X:Cx}{c:Tc}{F0 H0:Hp}{τ:List Sl}{O:L2.St}{F H F' H':Hp}
theorem EnvS.own(e:EnvS X F0 H0 τ O F H)(i:Nat)(ts:List T)(h:τ[i]?=some (.own ts)):∃a vs,O[i]?=some (some (.ref a))/\H a=some (.lst vs)/\F a=none/\H0 a=none/\aH X.K F ts vs:=by obtain⟨a,o,h1,h2,h3,h4,vs,rfl,h5⟩:=e.ownG i _ h rfl;exact⟨a,vs,h1,h2,h3,h4,h5⟩
theorem EnvS.env(e:EnvS X F0 H0 τ O F H)(hN:X.N=c.nm):EnvE X c (aA τ) F O H :=
 ⟨e.st.fh,e.t0.up e.st,fun x i t _ hi _ hr=>by
  unfold aA at hr;rw[iK]at hr;obtain⟨s,hs,hg⟩:=oms hr;cases s with
  |val u=>cases hg;obtain⟨v,h1,h2⟩:=e.val i t hs;exact⟨i,v,by rw[hN];exact lV hi,h1,h2⟩
  |_=>cases hg⟩
theorem Step.off(s:Step F H F' H')(h3:F a=none)(h2:H a=some o)(ht:∀xs,o≠.tup xs):F' a=none:=by
 cases q:F' a with
 |none=>rfl
 |some o'=>
  rcases s.nw a (by rw[q];simp)with z|z|⟨xs,z⟩
  .exact absurd h3 z
  .rw[h2]at z;cases z
  .rw[h2]at z;exact absurd (dU z) (ht xs)
def EnvS.step(e:EnvS X F0 H0 τ O F H)(s:Step F H F' H'):EnvS X F0 H0 τ O F' H':=by
 refine⟨e.st.trans s,e.t0,e.len,fun i t h=>let⟨v,h1,h2⟩:=e.val i t h;⟨v,h1,h2.mono s.ff⟩,fun i sl h ho=>?_,e.disG⟩
 .obtain⟨a,o,h1,h2,h3,h4,h5⟩:=e.ownG i sl h ho;exact⟨a,o,h1,s.hh.st a _ h2 h5.noTbl,s.off h3 h2 fun xs=>h5.noTup,h4,h5.mono s.ff⟩
def EnvS.back(e:EnvS X F0 H0 τ O F H)(hh:SameT H H')(fh:Same F H'):EnvS X F0 H0 τ O F H':=by
 refine⟨⟨e.st.hh.trans hh,e.st.ff,fh,e.st.nw⟩,e.t0,e.len,e.val,fun i sl h ho=>?_,e.disG⟩
 .obtain⟨a,o,h1,h2,h3,h4,h5⟩:=e.ownG i sl h ho;exact⟨a,o,h1,hh.st a _ h2 h5.noTbl,h3,h4,h5⟩
theorem FS(τ:List Sl)(i j:Nat):(τ.modify i Sl.frz)[j]?=if i=j then(τ[j]?).map Sl.frz else τ[j]?:=by
 rw[List.getElem?_modify];by_cases h:i=j
 .simp only[h,if_true];cases τ[j]?<;>rfl
 .simp only[h,if_false];cases τ[j]?<;>rfl
theorem EnvS.frz1(e:EnvS X F0 H0 τ O F H)(i:Nat):∃F',EnvS X F0 H0 (τ.modify i Sl.frz) O F' H/\Same F F':=by
 by_cases ho:∃s,τ[i]?=some s/\s.isOwn=true
 .obtain⟨sl,ho,hw⟩:=ho;obtain⟨a,ob,h1,h2,h3,h4,h5⟩:=e.ownG i sl ho hw;have hs:Same F (aL F a ob):=iN h3;obtain⟨t0,ef,r0⟩:=(h5.mono hs).frz (a:=a) bN;have get:∀(j:Nat)(s:Sl),(τ.modify i Sl.frz)[j]?=some s->(j=i/\s=.val t0)\/(j≠i/\τ[j]?=some s):=fun j s h=>by
   rw[FS]at h;by_cases hj:i=j
   .subst hj;rw[if_pos rfl,ho]at h;rw[<-ef];exact .inl ⟨rfl,(dU h).symm⟩
   .rw[if_neg hj]at h;exact .inr ⟨Ne.symm hj,h⟩
  refine⟨aL F a ob,⟨⟨e.st.hh,e.st.ff.trans hs,fun b o q=>?_,fun b z=>?_⟩,e.t0,by rw[List.length_modify];exact e.len,fun j t h=>?_,fun j u h hu=>?_,fun j l u w b hjl hj hl hu hw'=>?_⟩,hs⟩
  .by_cases hb:b=a
   .subst hb;rw[bN]at q;cases q;exact h2
   .rw[aR hb]at q;exact e.st.fh b o q
  .by_cases hb:b=a
   .subst hb;exact .inr (.inl h4)
   .rw[aR hb]at z;exact e.st.nw b z
  .rcases get j _ h with⟨rfl,q⟩|⟨_,q⟩
   .cases q;exact⟨.ref a,h1,r0⟩
   .obtain⟨v,q1,q2⟩:=e.val j t q;exact⟨v,q1,q2.mono hs⟩
  .rcases get j _ h with⟨rfl,q⟩|⟨hj,q⟩
   .subst q;cases hu
   .obtain⟨b,o,q1,q2,q3,q4,q5⟩:=e.ownG j u q hu;have hne:b≠a:=fun z=>by subst z;exact e.disG i j sl u b (Ne.symm hj) ho q hw hu h1 q1
    exact⟨b,o,q1,q2,by rw[aR hne];exact q3,q4,q5.mono hs⟩
  .rcases get j _ hj with⟨_,q⟩|⟨_,q⟩
   .subst q;cases hu
   .rcases get l _ hl with⟨_,q'⟩|⟨_,q'⟩
    .subst q';cases hw'
    .exact e.disG j l u w b hjl q q' hu hw'
 .refine⟨F,?_,Same.refl F⟩;have:τ.modify i Sl.frz=τ:=by
   apply List.ext_getElem?;intro j;rw[FS];by_cases hj:i=j
   .subst hj;rw[if_pos rfl];cases q:τ[i]? with
    |none=>rfl
    |some s=>
     cases s with
     |own ts=>exact absurd ⟨_,q,rfl⟩ ho
     |dk ts=>exact absurd ⟨_,q,rfl⟩ ho
     |_=>rfl
   .rw[if_neg hj]
  rw[this];exact e
theorem EnvS.frz:∀(is:List Nat){τ:List Sl}{F:Hp},EnvS X F0 H0 τ O F H->∃F',EnvS X F0 H0 (aS is τ) O F' H/\Same F F'
 |[],_,F,e=>⟨F,e,Same.refl F⟩
 |i::is,τ,F,e=>by obtain⟨F1,e1,s1⟩:=e.frz1 i;obtain⟨F2,e2,s2⟩:=EnvS.frz is e1;exact⟨F2,e2,s1.trans s2⟩
theorem gR{α:Type}{l:List α}{x y:α}(h:(l.set i x)[j]?=some y):(j=i/\y=x)\/(j≠i/\l[j]?=some y):=by
 rw[List.getElem?_set]at h;split at h
 .rename_i hj;split at h
  .cases h;exact .inl ⟨hj.symm,rfl⟩
  .cases h
 .rename_i hj;exact .inr ⟨Ne.symm hj,h⟩
theorem EnvS.setV1(e:EnvS X F0 H0 τ O F H)(i:Nat)(r:Rep X.K F t v):EnvS X F0 H0 (τ.set i (.val t)) (O.set i (some v)) F H:=by
 refine⟨e.st,e.t0,by rw[fU,fU];exact e.len,fun j u h=>?_,fun j u h hu=>?_,fun j l u w b hjl hj hl hu hw=>?_⟩
 .rcases gR h with⟨rfl,q⟩|⟨hj,q⟩
  .cases q;refine⟨v,?_,r⟩;have hlt:j<(τ.set j (.val t)).length:=(ome h).1;rw[fU,e.len]at hlt;rw[jZ hlt]
  .obtain⟨w,q1,q2⟩:=e.val j u q;exact⟨w,by rw[hX (Ne.symm hj)];exact q1,q2⟩
 .rcases gR h with⟨rfl,q⟩|⟨hj,q⟩
  .subst q;cases hu
  .obtain⟨a,o,q1,q2⟩:=e.ownG j u q hu;exact⟨a,o,by rw[hX (Ne.symm hj)];exact q1,q2⟩
 .rcases gR hj with⟨_,q⟩|⟨hji,q⟩
  .subst q;cases hu
  .rcases gR hl with⟨_,q'⟩|⟨hli,q'⟩
   .subst q';cases hw
   .rw[hX (Ne.symm hji),hX (Ne.symm hli)];exact e.disG j l u w b hjl q q' hu hw
theorem EnvS.setG(e:EnvS X F0 H0 τ O F H)(i:Nat)(hp:H p=none)(r:Own X.K F s o):EnvS X F0 H0 (τ.set i s) (O.set i (some (.ref p))) F (aL H p o):=by
 have hs:Same H (aL H p o):=iN hp;have nop:∀{j:Nat}{u:Sl}{a:Addr},τ[j]?=some u->u.isOwn=true->O[j]?=some (some (.ref a))->a≠p:=fun{j u a}q hu q1=>by obtain⟨a',o',g1,g2,_⟩:=e.ownG j u q hu;rw[q1]at g1;cases g1;exact cS g2 hp
 refine⟨e.st.newH hp,e.t0,by rw[fU,fU];exact e.len,fun j u h=>?_,fun j u h hu=>?_,fun j l u w b hjl hj hl hu hw=>?_⟩
 .rcases gR h with⟨_,q⟩|⟨hj,q⟩
  .subst q;exact r.elim
  .obtain⟨w,q1,q2⟩:=e.val j u q;exact⟨w,by rw[hX (Ne.symm hj)];exact q1,q2⟩
 .rcases gR h with⟨rfl,q⟩|⟨hj,q⟩
  .subst q;have hlt:j<(τ.set j u).length:=(ome h).1;rw[fU,e.len]at hlt;exact⟨p,o,by rw[jZ hlt],bN,e.st.fh.free hp,e.st.hh.free hp,r⟩
  .obtain⟨a,o',q1,q2,q3⟩:=e.ownG j u q hu;exact⟨a,o',by rw[hX (Ne.symm hj)];exact q1,hs a _ q2,q3⟩
 .intro hb hb';rcases gR hj with⟨rfl,q⟩|⟨hji,q⟩
  .rcases gR hl with⟨rfl,q'⟩|⟨hli,q'⟩
   .exact hjl rfl
   .rw[hX (Ne.symm hli)]at hb';have hlt:j<O.length:=by have:=(ome hj).1;rw[fU,e.len]at this;exact this
    rw[jZ hlt]at hb;cases hb;exact nop q' hw hb' rfl
  .rw[hX (Ne.symm hji)]at hb;rcases gR hl with⟨rfl,q'⟩|⟨hli,q'⟩
   .have hlt:l<O.length:=by have:=(ome hl).1;rw[fU,e.len]at this;exact this
    rw[jZ hlt]at hb';cases hb';exact nop q hu hb rfl
   .rw[hX (Ne.symm hli)]at hb';exact e.disG j l u w b hjl q q' hu hw hb hb'
def EnvS.setO(e:EnvS X F0 H0 τ O F H)(i:Nat)(hp:H p=none)(r:aH X.K F ts vs):EnvS X F0 H0 (τ.set i (.own ts)) (O.set i (some (.ref p))) F (aL H p (.lst vs)):=e.setG i hp ⟨vs,rfl,r⟩
theorem EnvS.growG(e:EnvS X F0 H0 τ O F H)(ho:τ[i]?=some s)(hs:s.isOwn=true)(ha:O[i]?=some (some (.ref a)))(h3:F a=none)(h4:H0 a=none)(r:Own X.K F s' o):EnvS X F0 H0 (τ.set i s') O F (aL H a o):=by
 refine⟨⟨(by obtain⟨a2,o2,g1,g2,_,_,g5⟩:=e.ownG i s ho hs;rw[ha]at g1;cases g1;exact e.st.hh.aL h4 g2 g5.noTbl g5.noFrz),e.st.ff,fun b u q=>by rw[aR (cS q h3)];exact e.st.fh b u q,e.st.nw⟩,e.t0,by rw[fU];exact e.len,fun j u h=>?_,fun j w h hw=>?_,fun j l w z b hjl hj hl hw hz=>?_⟩
 .rcases gR h with⟨_,q⟩|⟨hj,q⟩
  .subst q;exact r.elim
  .exact e.val j u q
 .rcases gR h with⟨rfl,q⟩|⟨hj,q⟩
  .subst q;exact⟨a,o,ha,bN,h3,h4,r⟩
  .obtain⟨b,z,q1,q2,q3,q4,q5⟩:=e.ownG j w q hw;have hne:b≠a:=fun z=>by subst z;exact e.disG i j s w b (Ne.symm hj) ho q hs hw ha q1
   exact⟨b,z,q1,by rw[aR hne];exact q2,q3,q4,q5⟩
 .rcases gR hj with⟨rfl,q⟩|⟨hji,q⟩
  .rcases gR hl with⟨rfl,q'⟩|⟨hli,q'⟩
   .exact absurd rfl hjl
   .exact e.disG j l s z b hjl ho q' hs hz
  .rcases gR hl with⟨rfl,q'⟩|⟨hli,q'⟩
   .exact e.disG j l w s b hjl q ho hw hs
   .exact e.disG j l w z b hjl q q' hw hz
def EnvS.grow(e:EnvS X F0 H0 τ O F H)(ho:τ[i]?=some (.own ts))(ha:O[i]?=some (some (.ref a)))(h3:F a=none)(h4:H0 a=none)(r:aH X.K F us vs):EnvS X F0 H0 (τ.set i (.own us)) O F (aL H a (.lst vs)):=e.growG ho rfl ha h3 h4 ⟨vs,rfl,r⟩
theorem EnvS.setAll(hN:X.N=c.nm):∀{is:List Nat}{us:List T}{vs:List V}{τ τ':List Sl}{O:L2.St},EnvS X F0 H0 τ O F H->aH X.K F us vs->setAll is us τ=some τ'->EnvS X F0 H0 τ' (mY is vs O) F H/\vs.length=is.length
 |[],[],_,τ,τ',O,e,r,h=>by cases r;cases h;exact⟨e,rfl⟩
 |[],_::_,_,_,_,_,_,_,h=>by cases h
 |_::_,[],_,_,_,_,_,_,h=>by cases h
 |i::is,u::us,vs,τ,τ',O,e,r,h=>by obtain⟨v,ws,rfl,r1,r2⟩:=r;obtain⟨q1,q2⟩:=EnvS.setAll hN (is:=is) (e.setV1 i r1) r2 h;exact⟨q1,by simp[q2]⟩
end
def fD(X:Cx)(F0 H0 F:Hp)(D:Ends):Out->Prop
 |.nx τ'=>∀O' F' H',EnvS X F0 H0 τ' O' F' H'->Same F F'->D.nx O' H'
 |.rt t=>∀v F' H',Step F0 H0 F' H'->Rep X.K F' t v->D.rt v H'
def spS(X:Cx)(F0 H0:Hp)(f:List Sl->a0 Out):TS:=fun D O H=>∃τ F o,EnvS X F0 H0 τ O F H/\f τ=some o/\fD X F0 H0 F D o
theorem fD.up(s:Same F F')(h:fD X F0 H0 F D o):fD X F0 H0 F' D o:=by
 cases o with
 |nx τ=>exact fun O' G' H' e s'=>h O' G' H' e (s.trans s')
 |rt t=>exact h
end
structure Fx(X:Cx)(c:Tc):Prop where
 hN:X.N=c.nm
 loc:∀x,(c.sc.names.lookup x=some .local\/c.sc.names.lookup x=some .cell)->Loc X.env.scope x
 fn:∀x,X.fn x=true
 xe:X.xe=fun _ _=>False
abbrev Tl(X:Cx)(c:Tc)(G:Glo):Prop:=∀(n:Nat)(r:TellR)(xs:List E),(pR c r.ls&&(glB c.sc dB&&(glB r.ls r.g&&bX r.g)))=true->r.es≠[]->dP (trV n ⟨r.ls,c.nm⟩) r.es=some xs->
 Oke X c r.call (fun ρ=>(aD G xs ρ).bind fun ts=>lP G r.g ts)
theorem Fx.at(fx:Fx X c)(hl:c.sc.names.lookup x=some .local\/c.sc.names.lookup x=some .cell)(hi:cI c.nm x=some i):At X x i:=⟨by rw[fx.hN];exact lV hi,fx.loc x hl,.inl (fx.fn x)⟩
theorem Fx.ats(fx:Fx X c):∀{xs:List Str}{is:List Nat},(xs.all fun x=>bX x&&(c.sc.names.lookup x==some .local||c.sc.names.lookup x==some .cell))=true->dP (cI c.nm) xs=some is->Ats X xs is
 |[],_,_,h=>by cases h;exact .nil
 |x::xs,is,hl,h=>by rw[List.all_cons,dF]at hl;obtain⟨i,h1,h⟩:=obs h;obtain⟨js,h2,h⟩:=obs h;cases h;have q:=hl.1;simp only[Bool.and_eq_true,Bool.or_eq_true,beq_iff_eq]at q;exact .cons (fx.at q.2 h1) (fx.ats hl.2 h2)
theorem qF(h:trV n c e=some e')(hl:∀a b s p,e≠.ListComp a b s p)(t:a0 Expr)(l:Nat)(env:PySem.Env):swapsWith e t l env=pure false:=by
 cases n with
 |zero=>cases h
 |succ n=>
  cases e with
  |ListComp a b s p=>exact absurd rfl (hl a b s p)
  |SetComp _ _ _ _=>cases h
  |DictComp _ _ _ _ _=>cases h
  |_=>rfl
theorem WA(ha:Oke X c a f)(hb:Oke X c b g):PE X (.BinOp a .Add b pos) (spN X c (fun r=>(f r).bind fun x=>(g r).bind fun y=>cC x y)):=by
 refine fH (vK CZ ha hb) fun O H Q q=>?_;obtain⟨r,F,ts,e,ht,q⟩:=q;obtain⟨t1,e1,ht⟩:=obs ht;obtain⟨t2,e2,ht⟩:=obs ht;refine⟨r,F,t1,e,e1,fun v1 F1 H1 s1 r1=>⟨r,F1,t2,e.step s1,e2,fun v2 F2 H2 s2 r2=>?_⟩⟩;have key:∃us ws,t1=.lst us/\t2=.lst ws/\us.length+ws.length<=SZ/\ts=us++ws:=by
  cases t1 with
  |lst us=>
   cases t2 with
   |lst ws=>
    simp only[cC]at ht;split at ht
    .rename_i hz;cases ht;exact⟨_,_,rfl,rfl,hz,rfl⟩
    .cases ht
   |_=>simp[cC]at ht
  |_=>cases t2<;>simp only[cC]at ht<;>(try split at ht)<;>cases ht
 obtain⟨us,ws,rfl,rfl,hz,rfl⟩:=key;obtain⟨l,vs,rfl,g1,g2⟩:=r1;obtain⟨l',vs',rfl,g3,g4⟩:=r2;refine⟨l,l',vs,vs',rfl,rfl,Ls.same (s2.ff.trans s2.fh) g1,Ls.same s2.fh g3,by rw[g2.length,g4.length,<-oE];exact hz,fun p hp=>?_⟩;exact q p _ F2 H2 (s1.trans s2) hp ((g2.mono s2.ff).app g4)
theorem tQ(h:fresh y=false\/∀ts,t≠.lst ts):dO y t=.val t:=by
 unfold dO;rcases h with h|h
 .rw[h]
 .cases fresh y with
  |false=>rfl
  |true=>cases t with
   |lst ts=>exact absurd rfl (h ts)
   |_=>rfl
def WB(h:fresh y=true):dO y (.lst ts)=.own ts:=by unfold dO;rw[h]
theorem WC(gd:Gd X c G k)(fx:Fx X c)(hl:c.sc.names.lookup x=some .local\/c.sc.names.lookup x=some .cell)(hi:cI c.nm x=some i)(h:trV (n+1) c e=some y)(hfl:fresh y=true->sC e=true):PS X (.Assign [.Name x py] e pos) (spS X F0 H0 (evS G (.asg i y))):=by
 have S:=jA G k n;have at_:=fx.at hl hi;rintro pj s O H D I⟨τ,F,o,en,hf,hw⟩;rw[evS]at hf;obtain⟨F1,e1,s1⟩:=en.frz (aN y);obtain⟨t,ht,hf⟩:=obs hf;cases hf;have val:dO y t=.val t->xO X c i (evE G y) D O H:=fun hs=>⟨_,F1,t,e1.env fx.hN,ht,fun v F' H' st r=>hw _ F' H' (by rw[hs];exact(e1.step st).setV1 i r) (s1.trans st.ff)⟩;have valN:dO y t=.val t->(∀a b s p,e≠.ListComp a b s p)->wpAny (model X.prog X.w) X.A (exec (.Assign [.Name x py] e pos) X.env) (SP X pj D) X.xe s:=fun hs hne=>
  lK gd.nd at_.ix at_.loc (FR S gd h) (qF h hne _ _ _) at_.fn pj s O H D I (by obtain⟨r,F2,t2,a1,a2,a3⟩:=val hs;exact⟨r,F2,t2,a1,a2,a3⟩)
 have own:∀{ts:List T},t=.lst ts->fresh y=true->(∀a b s p,e≠.ListComp a b s p)->PE X e (spN X c (evE G y))->wpAny (model X.prog X.w) X.A (exec (.Assign [.Name x py] e pos) X.env) (SP X pj D) X.xe s:=fun{ts}et hfr hne hp=>by subst et;refine lK gd.nd at_.ix at_.loc hp (qF h hne _ _ _) at_.fn pj s O H D I ⟨_,F1,ts,e1.env fx.hN,ht,fun p vs F' H1 st hp r=>hw _ F' _ ?_ (s1.trans st.ff)⟩;rw[WB hfr];exact(e1.step st).setO i hp r
 cases e with
 |ListComp a b sc p=>
  have hy:fresh y=false:=by
   obtain⟨tg,iter,ifs,rfl,xs,ki,h0,h1,hcs,hr⟩:=FP h
   match ifs,hr with
   |[],hr=>obtain⟨z,h2,hr⟩:=obs hr;cases hr;rfl
   |[t],hr=>obtain⟨z,h2,hr⟩:=obs hr;obtain⟨w,h3,hr⟩:=obs hr;cases hr;rfl
   |_::_::_,hr=>cases hr
  exact(FQ S gd h).2 at_ pj s O H D I (val (tQ (.inl hy)))
 |List es p=>
  have h':=h;obtain⟨zs,h1,h'⟩:=obs h';cases h';have ee:evE G (.lst zs)=fun r=>if zs.length<=1000 then(aD G zs r).map .lst else none:=by funext r;rw[evE]
  have hlst:∃ts,t=.lst ts:=by
   rw[ee]at ht;dsimp only at ht;split at ht
   .obtain⟨ts,_,rfl⟩:=oms ht;exact⟨ts,rfl⟩
   .cases ht
  obtain⟨ts,rfl⟩:=hlst;exact own rfl rfl (fun _ _ _ _ z=>by cases z) (by rw[ee];exact DS (S.l gd h1) fun r ts q=>tO q)
 |BinOp a op b p=>
  have h':=h;obtain⟨o,h0,h'⟩:=obs h';obtain⟨x1,h1,h'⟩:=obs h';obtain⟨y1,h2,h'⟩:=obs h';cases h';by_cases hadd:op=.Add
  .subst hadd;cases h0;by_cases hlst:∃ts,t=.lst ts
   .obtain⟨ts,rfl⟩:=hlst;have ee:evE G (.bin .add x1 y1)=fun r=>(evE G x1 r).bind fun s=>(evE G y1 r).bind fun t=>cC s t:=by funext r;rw[evE];try rfl
    exact own rfl rfl (fun _ _ _ _ z=>by cases z) (by rw[ee];exact WA (S.v gd h1) (S.v gd h2))
   .exact valN (tQ (.inr fun ts z=>hlst ⟨ts,z⟩)) (fun _ _ _ _ z=>by cases z)
  .refine valN (tQ (.inl ?_)) (fun _ _ _ _ z=>by cases z);cases op<;>first|exact absurd rfl hadd|(cases h0;done)|(cases h0;rfl)
 |_=>
  refine valN (tQ (.inl ?_)) (fun _ _ _ _ z=>by cases z);cases hfr:fresh y with
  |false=>rfl
  |true=>cases hfl hfr
theorem lX(h:bX x=true):(x==("__debug__":Str))=false/\(x==("__classdict__":Str))=false:=by unfold bX at h;simp only[Bool.and_eq_true,Bool.not_eq_true']at h;exact⟨h.1.1.1,h.1.1.2⟩
theorem WD(gd:Gd X c G k)(fx:Fx X c)(hv:cX c.sc x=true)(hp:bX x=true)(hi:cI c.nm x=some i)(h:trV n c a=some y)(hl:(apos.endLine==cpos.line)=true):PS X (.Expr (.Call (.Attribute (.Name x px) "append" apos) [a] [] cpos) pos) (spS X F0 H0 (evS G (.app i y))):=by
 have S:=jA G k n;have hN:X.N[i]?=some x:=by rw[fx.hN];exact lV hi
 have hs:=kQ h X.env;refine jR (vH (pE F.plainAttrs_list F.slot_list_append F.type_list_append vP (kI hN (gd.vis x hv) (lX hp).1 (lX hp).2) (lU (S.v gd h) hs) rfl (by rw[hs];rfl) hl hs rfl) rfl) fun D O H q=>?_;obtain⟨τ,F,o,en,hf,hw⟩:=q;rw[evS]at hf;obtain⟨F1,e1,s1⟩:=en.frz (aN y);obtain⟨t,ht,hf⟩:=obs hf;split at hf
 .rename_i ts ho;split at hf
  .rename_i hz;cases hf;obtain⟨b,vs,q1,q2,q3,q4,q5⟩:=e1.own i ts ho;refine⟨.ref b,q1,.inl ⟨rfl,_,SqL.of q2⟩,_,F1,[t],e1.env fx.hN,fW.mpr ⟨t,ht,rfl⟩,fun ws F' H' st r=>?_⟩;obtain⟨v,r',rfl,r1,r2⟩:=r;cases r2;have e2:=e1.step st;obtain⟨b',vs',p1,p2,p3,p4,p5⟩:=e2.own i ts ho;rw[q1]at p1;cases p1;refine⟨b,vs',v,rfl,rfl,p2,by rw[p5.length,<-oE];exact hz,?_⟩;exact hw O F' _ (e2.grow ho q1 p3 p4 (p5.app (.cons r1 rfl))) (s1.trans st.ff)
  .cases hf
 .cases hf
theorem WE:PS X (.Raise a b pos) (spS X F0 H0 (evS G .fail)):=fun pj s O H D I q=>by obtain⟨τ,F,o,en,hf,hw⟩:=q;rw[evS]at hf;cases hf
def WF(gd:Gd X c G k)(fx:Fx X c)(h:trV n c a=some y):PS X (.Return (some a) pos) (spS X F0 H0 (evS G (.ret y))):=by have S:=jA G k n;refine jR (AM (S.v gd h)) fun D O H q=>?_;obtain⟨τ,F,o,en,hf,hw⟩:=q;rw[evS]at hf;obtain⟨F1,e1,s1⟩:=en.frz (aN y);obtain⟨t,ht,rfl⟩:=oms hf;exact⟨_,F1,t,e1.env fx.hN,ht,fun v F' H' st r=>hw v F' H' (e1.st.trans st) r⟩
theorem WG(gd:Gd X c G k)(fx:Fx X c)(h:trT n c t=some z)(ha:PSs X a (spS X F0 H0 (aC G x)))(hb:PSs X b (spS X F0 H0 (aC G y))):PS X (.If t a b pos) (spS X F0 H0 (evS G (.ite z x y))):=by
 have S:=jA G k n;refine jR (vI (S.t gd h).1 ha hb) fun D O H q=>?_;obtain⟨τ,F,o,en,hf,hw⟩:=q;rw[evS]at hf;obtain⟨F1,e1,s1⟩:=en.frz (aN z);obtain⟨t,ht,hf⟩:=obs hf;cases t with
 |bl d=>
  refine⟨_,F1,d,e1.env fx.hN,ht,fun F' H' st=>?_⟩;cases d with
  |true=>exact⟨_,F,o,en.back st.hh ((s1.trans st.ff).trans st.fh),hf,hw⟩
  |false=>exact⟨_,F,o,en.back st.hh ((s1.trans st.ff).trans st.fh),hf,hw⟩
 |_=>cases hf
theorem WH(gd:Gd X c G k)(fx:Fx X c)(h:trT n c t=some z)(hb:PSs X body (spS X F0 H0 (aC G b))):PS X (.While t body [] pos) (spS X F0 H0 (evS G (.wloop z b))):=by
 have S:=jA G k n;refine jR (LM (by rw[fx.xe];exact PassesOwn.never) (S.t gd h).1 hb) fun D O H q=>?_;obtain⟨τ,F,o,en,hf,hw⟩:=q;rw[evS]at hf;refine⟨fun m O' H'=>∃τ' F',EnvS X F0 H0 τ' O' F' H'/\Same F F'/\lO (fun τ=>aC G b τ) (fun τ=>evE G z (aA (aS (aN z) τ))) m τ'=some o,⟨1000,τ,F,en,Same.refl F,hf⟩,?_⟩;rintro m O' H' ⟨τ',F',e',s',hlo⟩;cases m with
 |zero=>cases hlo
 |succ m=>
  rw[lO]at hlo;obtain⟨t,ht,hlo⟩:=obs hlo;obtain⟨F1,e1,s1⟩:=e'.frz (aN z);cases t with
  |bl d=>
   refine⟨_,F1,d,e1.env fx.hN,ht,fun F2 H2 st=>?_⟩;have e2:=e'.back st.hh ((s1.trans st.ff).trans st.fh);cases d with
   |false=>cases hlo;exact pF (hw _ F' H2 e2 s')
   |true=>
    obtain⟨o1,ho1,hlo⟩:=obs hlo;refine pG ⟨fun O'' H''=>∃τ'' F'',EnvS X F0 H0 τ'' O'' F'' H''/\Same F F''/\lO (fun τ=>aC G b τ) (fun τ=>evE G z (aA (aS (aN z) τ))) m τ''=some o,fun O'' H'' hN=>⟨m,Nat.lt_succ_self _,hN⟩,τ',F',o1,e2,ho1,?_⟩;cases o1 with
    |nx τ2=>exact fun O7 F7 H7 e7 s7=>⟨τ2,F7,e7,s'.trans s7,hlo⟩
    |rt t=>cases hlo;exact hw.up s'
  |_=>cases hlo
theorem WI(gd:Gd X c G k)(fx:Fx X c)(tl:Tl X c G){r:TellR}(hk:(pR c r.ls&&(glB c.sc dB&&(glB r.ls r.g&&bX r.g)))=true)(hne:r.es≠[])(h1:dP (trV n ⟨r.ls,c.nm⟩) r.es=some xs)(h2:trV n c r.e=some e)(ha:PSs X a (spS X F0 H0 (aC G x))):PS X (.If r.test a [] pos) (spS X F0 H0 (evS G (.tif r.g xs e x))):=by
 have S:=jA G k n;obtain⟨q1,q2⟩:=xA (X:=X) gd.hu (show lR .NotEq r.e=some .ne from rfl);refine jR (vI (CY (pos:=r.p6) q1 (tl n r xs hk hne h1) (S.v gd h2) q2) ha vG) fun D O H q=>?_;obtain⟨τ,F,o,en,hf,hw⟩:=q;rw[evS]at hf;obtain⟨F1,e1,s1⟩:=en.frz (bS xs++aN e);obtain⟨ts,g1,hf⟩:=obs hf;obtain⟨t,g2,hf⟩:=obs hf;obtain⟨u,g3,hf⟩:=obs hf;obtain⟨b,g4,hf⟩:=obs hf;cases b with
 |bl d=>
  refine⟨_,F1,d,e1.env fx.hN,?_,fun F' H' st=>?_⟩
  .show(((aD G xs (aA (aS (bS xs++aN e) τ))).bind fun ts=>lP G r.g ts).bind fun x=>(evE G e (aA (aS (bS xs++aN e) τ))).bind fun y=>bF .ne x y)=some (.bl d);rw[g1,bB,g2,bB,g3,bB];exact g4
  .cases d with
   |true=>exact⟨_,F',o,e1.step st,hf,hw.up (s1.trans st.ff)⟩
   |false=>cases(show some (Out.nx (aS (bS xs++aN e) τ))=some o from hf);exact hw O F' H' (e1.step st) (s1.trans st.ff)
 |_=>cases hf
theorem WJ(fx:Fx X c)(h1:kN tg=some xs)(h2n:eJ tg=true->2<=xs.length)(hat:Ats X xs is)(e2:EnvS X F0 H0 τ2 O F2 H2)(wk:Walk X.K J qc F2)(hf:bU (fun x τ=>(bL is x τ).bind fun τ'=>aC G b τ') qc τ2=some o)(hw:fD X F0 H0 F2 D o):∃W:Nat->Nat->L2.St->Hp->Prop,(∃m,W 0 m O H2)/\∀i m O H,W i m O H->
 (J.stop i H/\D.nx O H)\/(J.go i H/\∃N:L2.St->Hp->Prop,(∀O' H',N O' H'->∃m',m'<m/\W (i+1) m' O' H')/\∀x H',J.yld i H x H'->gT X.K (!eJ tg) is x O H' fun O2 H2=>spS X F0 H0 (aC G b) {D with nx:=N,ct:=N,bk:=D.nx} O2 H2):=by
 refine⟨fun i m O' H'=>i<=qc.length/\m=qc.length-i/\∃τ' F',EnvS X F0 H0 τ' O' F' H'/\Same F2 F'/\bU (fun x τ=>(bL is x τ).bind fun τ'=>aC G b τ') (qc.drop i) τ'=some o,⟨qc.length,dQ _,rfl,_,F2,e2,Same.refl F2,hf⟩,?_⟩;rintro i m O' H' ⟨hle,rfl,τ',F',e',s',hlo⟩;have sm:Same F2 H':=s'.trans e'.st.fh;have wup:fD X F0 H0 F' D o:=hw.up s';by_cases hlt:i<qc.length
 .refine .inr ⟨wk.go i H' hlt sm,?_⟩;rw[List.drop_eq_getElem_cons hlt,bU]at hlo;obtain⟨o1,ho1,hlo⟩:=obs hlo;obtain⟨τ1,hb1,ho1⟩:=obs ho1;refine⟨fun O'' H''=>∃τ'' F'',EnvS X F0 H0 τ'' O'' F'' H''/\Same F2 F''/\bU (fun x τ=>(bL is x τ).bind fun τ'=>aC G b τ') (qc.drop (i+1)) τ''=some o,fun O'' H'' hN=>⟨qc.length-(i+1),by lia,hlt,rfl,hN⟩,fun x H5 hy=>?_⟩;obtain⟨F5,st5,r5⟩:=wk.yld i H' x H5 F' qc[i] (by simp[hlt]) s' e'.st.fh hy;have e5:=e'.step st5;have fin:∀O6,EnvS X F0 H0 τ1 O6 F5 H5->spS X F0 H0 (aC G b) {D with nx:=fun O'' H''=>∃τ'' F'',EnvS X F0 H0 τ'' O'' F'' H''/\Same F2 F''/\bU (fun x τ=>(bL is x τ).bind fun τ'=>aC G b τ') (qc.drop (i+1)) τ''=some o,ct:=fun O'' H''=>∃τ'' F'',EnvS X F0 H0 τ'' O'' F'' H''/\Same F2 F''/\bU (fun x τ=>(bL is x τ).bind fun τ'=>aC G b τ') (qc.drop (i+1)) τ''=some o,bk:=D.nx} O6 H5:=fun O6 e6=>by
   refine⟨τ1,F5,o1,e6,ho1,?_⟩;cases o1 with
   |nx τ2=>exact fun O7 F7 H7 e7 s7=>⟨τ2,F7,e7,s'.trans (st5.ff.trans s7),hlo⟩
   |rt t=>cases hlo;exact wup
  have hlen:=xM hat;cases htup:eJ tg with
  |false=>
   have one:∃i0,is=[i0]:=by
    cases tg with
    |Name y p=>cases h1;exact List.length_eq_one_iff.mp hlen.symm
    |Tuple _ _ _=>cases htup
    |_=>cases h1
   obtain⟨i0,rfl⟩:=one;cases hb1;exact fin _ (e5.setV1 i0 r5)
  |true=>
   have h2n:=h2n htup;have hb2:∃ts,qc[i]=.tup ts/\setAll is ts τ'=some τ1:=by
    clear fin;rw[hlen]at h2n;rcases is with _|⟨i0,_|⟨i1,ir⟩⟩
    .simp at h2n
    .simp at h2n
    .cases hq:qc[i]with
     |tup ts=>rw[hq]at hb1;exact⟨ts,rfl,hb1⟩
     |_=>rw[hq]at hb1;cases hb1
   obtain⟨ts,et,hb2⟩:=hb2;rw[et]at r5;obtain⟨a,vs,rfl,q1,q2⟩:=r5;obtain⟨e6,hl6⟩:=e5.setAll fx.hN q2 hb2;exact⟨a,vs,rfl,dC st5.fh q1,hl6,fin _ e6⟩
 .have e:i=qc.length:=by lia
  subst e;rw[List.drop_length,bU]at hlo;cases hlo;exact .inl ⟨wk.stop H' sm,wup O' F' H' e' (Same.refl F')⟩
theorem WK(gd:Gd X c G k)(fx:Fx X c)(h1:kN tg=some xs)(h2:dP (cI c.nm) xs=some is)(h3:trI n c iter=some ki)(ht:ki.1.pair=true->eJ tg=true)(h2n:eJ tg=true->2<=xs.length)(hat:Ats X xs is)(hb:PSs X body (spS X F0 H0 (aC G b))):PS X (.For tg iter body [] pos) (spS X F0 H0 (evS G (.loop is ki.1 ki.2 b))):=by
 have S:=jA G k n;refine jR (LU (by rw[fx.xe];exact PassesOwn.never) gd.calm (S.i gd h3 ht) (FE gd.nd gd.calm h1 hat) hb (FO h3 X.env)) fun D O H q=>?_;obtain⟨τ,F,o,en,hf,hw⟩:=q;rw[evS]at hf;obtain⟨F1,e1,s1⟩:=en.frz (bS ki.2);obtain⟨us,hu,hf⟩:=obs hf;obtain⟨qc,hi,hf⟩:=obs hf;refine⟨_,F1,qc,e1.env fx.hN,fW.mpr ⟨us,hu,hi⟩,fun J F2 H2 st wk=>?_⟩;have e2:=e1.step st;exact WJ fx h1 h2n hat e2 wk hf (hw.up (s1.trans st.ff))
theorem FV{K:W.Frag}{F:Hp}:∀{ts:List T}{vs:List V}{i:Nat}{t:T},aH K F ts vs->ts[i]?=some t->∃v,vs[i]?=some v/\Rep K F t v
 |[],_,i,t,_,h=>by simp at h
 |u::ts,_,0,t,r,h=>by obtain⟨v,vr,rfl,r1,r2⟩:=r;cases h;exact⟨v,rfl,r1⟩
 |u::ts,_,i+1,t,r,h=>by obtain⟨v,vr,rfl,r1,r2⟩:=r;exact FV (i:=i) r2 (by simpa using h)
theorem FW{K:W.Frag}{F:Hp}:∀{ts:List T}{vs:List V},aH K F ts vs->aH K F ts.dropLast vs.dropLast
 |[],_,r=>by cases r;rfl
 |[u],_,r=>by obtain⟨v,vr,rfl,r1,r2⟩:=r;cases r2;rfl
 |u::t::ts,_,r=>by obtain⟨v,vr,rfl,r1,r2⟩:=r;obtain⟨v',vr',rfl,r3,r4⟩:=id r2;exact⟨v,_,rfl,r1,FW r2⟩
theorem FX{K:W.Frag}{F:Hp}(r:Rep K F t v):∀{ts:List T}{vs:List V}(i:Nat),aH K F ts vs->aH K F (ts.set i t) (vs.set i v)
 |[],_,i,h=>by cases h;rfl
 |u::ts,_,0,h=>by obtain⟨w,vr,rfl,r1,r2⟩:=h;exact⟨v,vr,rfl,r,r2⟩
 |u::ts,_,i+1,h=>by obtain⟨w,vr,rfl,r1,r2⟩:=h;exact⟨w,_,rfl,r1,FX r i r2⟩
def WL(td ty tv:TE):TS:=fun D O H=>tv O H fun v H1=>td O H1 fun x H2=>ty O H2 fun y H3=>BJ x y v H3 fun H4=>D.nx O H4
def WM(ho:PE X o td)(hi:PE X i ty)(hv:PE X value tv)(hs:swapsWith value (some (.Subscript o i pos')) pos.line X.env=pure false):PS X (.Assign [.Subscript o i pos'] value pos) (WL td ty tv):=by
 intro pj s O H D I h;refine wpAny_Assign_Subscript (thn (hv pj s O H _ I h) fun r s1 z=>?_) hs;obtain⟨v,H1,I1,rv,q1⟩:=z;refine thn (ho pj s1 O H1 _ I1 q1) fun u s2 z=>?_;obtain⟨x,H2,I2,rx,q2⟩:=z;refine thn (hi pj s2 O H2 _ I2 q2) fun iv s3 z=>?_;obtain⟨y,H3,I3,ry,q3⟩:=z;exact thn (NN pj s3 O H3 x y v u iv r _ I3 rx ry rv q3) fun _ s4 ⟨H4,I4,q4⟩=>⟨O,H4,I4,q4⟩
theorem WN(gd:Gd X c G k)(fx:Fx X c)(hv:cX c.sc x=true)(hp:bX x=true)(hi:cI c.nm x=some i)(hk:Oke X c ke fk)(hve:Oke X c ve fv)(hs:swapsWith ve (some (.Subscript (.Name x px) ke tp)) pos.line X.env=pure false){pj:Pq}{s:Shared}{O:L2.St}{H:Hp}{D:Ends}(I:L2.Inv X pj O H s){τ:List Sl}{F:Hp}(e1:EnvS X F0 H0 τ O F H){kt vt:T}{s':Sl}{ts:List T}(hvt:fv (aA τ)=some vt)(hkt:fk (aA τ)=some kt)(hsl:τ[i]?=some (.own ts))(hput:setS (some (.own ts)) kt vt=some s')(hw:∀O' F' H',EnvS X F0 H0 (τ.set i s') O' F' H'->Same F F'->D.nx O' H'):wpAny (model X.prog X.w) X.A (exec (.Assign [.Subscript (.Name x px) ke tp] ve pos) X.env) (SP X pj D) X.xe s:=by
 have hN:X.N[i]?=some x:=by rw[fx.hN];exact lV hi
 cases kt with
 |int m=>obtain⟨j,hj,rfl⟩:=oms (show(ixI ts.length m).map (fun j=>Sl.own (ts.set j vt))=some s' from hput);refine WM (kI (pos:=px) hN (gd.vis x hv) (lX hp).1 (lX hp).2) hk hve hs pj s O H D I ⟨_,F,vt,e1.env fx.hN,hvt,fun v F2 H2 st2 rv=>?_⟩;have e3:=e1.step st2;obtain⟨b,ob,q1,q2,q3,q4,q5⟩:=e3.ownG i _ hsl rfl;refine⟨.ref b,q1,_,F2,_,e3.env fx.hN,hkt,fun u F3 H3 st3 rk=>?_⟩;have e4:=e3.step st3;obtain⟨b',ob',p1,p2,p3,p4,ws,rfl,w1⟩:=e4.ownG i _ hsl rfl;rw[q1]at p1;cases p1;cases rk;refine⟨b,ws,m,j,rfl,rfl,p2,by rw[w1.length];exact hj,?_⟩;exact hw _ _ _ (e4.growG (s':=.own (ts.set j vt)) hsl rfl q1 p3 p4 ⟨_,rfl,FX (rv.mono st3.ff) j w1⟩) (st2.ff.trans st3.ff)
 |_=>cases hput
theorem WO(gd:Gd X c G k)(fx:Fx X c)(hl:c.sc.names.lookup x=some .local\/c.sc.names.lookup x=some .cell)(hi:cI c.nm x=some i)(hv:cX c.sc y=true)(hp:bX y=true)(hj:cI c.nm y=some j)(hln:(apos.endLine==cpos.line)=true):PS X (.Assign [.Name x py] (.Call (.Attribute (.Name y p1) "pop" apos) [] [] cpos) pos) (spS X F0 H0 (evS G (.lpop i j))):=by
 have at_:=fx.at hl hi;have hN:X.N[j]?=some y:=by rw[fx.hN];exact lV hj
 refine jR (lK gd.nd at_.ix at_.loc (NQ PySem.F.plainAttrs_list PySem.F.slot_list_pop PySem.F.type_list_pop NU (kI (pos:=p1) hN (gd.vis y hv) (lX hp).1 (lX hp).2) rfl hln) rfl at_.fn) fun D O H q=>?_;obtain⟨τ,F,o,en,hf,hw⟩:=q;rw[evS]at hf;split at hf
 .rename_i ts ho;split at hf
  .rename_i t ht;split at hf
   .cases hf
   .cases hf;obtain⟨b,vs,q1,q2,q3,q4,q5⟩:=en.own j ts ho;obtain⟨v,hv',rv⟩:=FV q5 ht;rw[<-q5.length]at hv';exact⟨.ref b,q1,.inl ⟨rfl,_,SqL.of q2⟩,b,vs,v,rfl,rfl,q2,hv',hw _ F _ ((en.growG (s':=.own ts.dropLast) ho rfl q1 q3 q4 ⟨_,rfl,FW q5⟩).setV1 i rv) (Same.refl F)⟩
  .cases hf
 .cases hf
def WP(h:pQ x e=true):(∃p a q,e=.Call (.Name "list" p) [a] [] q)\/∃p lo hi p2 q,e=.Subscript (.Name x p) (.Slice lo hi none p2) q:=by obtain⟨z,_⟩:=Option.isSome_iff_exists.mp h;exact z.2
theorem WQ{lo hi:a0 Expr}{f:Env->a0 T}{g h:Env->a0 (a0 T)}(ha:Oke X c a f)(hl:PO X lo (spO X c g))(hh:PO X hi (spO X c h)):PE X (.Subscript a (.Slice lo hi none p2) pos) (spN X c (fun r=>(f r).bind fun x=>(g r).bind fun l=>(h r).bind fun u=>(asI l).bind fun l'=>(asI u).bind fun u'=>fN x l' u')):=by
 refine fH (BF BK ha hl hh) fun O H Q q=>?_;obtain⟨r,F,ts,e,ht,q⟩:=q;obtain⟨t1,e1,ht⟩:=obs ht;obtain⟨l,e2,ht⟩:=obs ht;obtain⟨u,e3,ht⟩:=obs ht;obtain⟨l',e4,ht⟩:=obs ht;obtain⟨u',e5,ht⟩:=obs ht;refine⟨r,F,t1,e,e1,fun v1 F1 H1 s1 r1=>⟨r,F1,l',e.step s1,fW.mpr ⟨l,e2,e4⟩,fun F2 H2 s2=>⟨r,F2,u',e.step (s1.trans s2),fW.mpr ⟨u,e3,e5⟩,fun F3 H3 s3=>?_⟩⟩⟩;cases t1 with
 |lst us=>simp only[fN]at ht;cases ht;obtain⟨p,vs,rfl,h1,h2⟩:=r1;refine⟨p,vs,rfl,(Ls.same ((s2.trans s3).ff.trans s3.fh) h1).sq,fun p' hp=>?_⟩;exact q p' _ F3 H3 (s1.trans (s2.trans s3)) hp ((xB h2 l' u').mono (s2.trans s3).ff)
 |_=>simp[fN]at ht
theorem WR:iA X (.type "list") (fun xs H Q=>∃F t1 ts x,xs=[x]/\Same F H/\Rep X.K F t1 x/\bW .toList t1=some (.lst ts)/\∀p vs,H p=none->aH X.K F ts vs->Q (.ref p) (aL H p (.lst vs))):=by
 rintro pj s O H xs us Q I r⟨F,t1,ts,x,rfl,fh,r1,ht,q⟩;cases t1 with
 |tup ts=>obtain⟨l,vs,rfl,h1,h2⟩:=r1;cases ht;exact rO pj s O H _ us Q I r ⟨l,vs,rfl,.inr (dC fh h1),fun p hp=>q p vs hp h2⟩
 |lst ts=>obtain⟨l,vs,rfl,h1,h2⟩:=r1;cases ht;exact rO pj s O H _ us Q I r ⟨l,vs,rfl,.inl (Ls.same fh h1).sq,fun p hp=>q p vs hp h2⟩
 |_=>cases ht
theorem WS(gd:Gd X c G k)(fx:Fx X c)(hl:c.sc.names.lookup x=some .local\/c.sc.names.lookup x=some .cell)(hi:cI c.nm x=some i)(h:trV (n+1) c e=some y)(hn:pQ x e=true):PS X (.Assign [.Name x py] e pos) (spS X F0 H0 (evS G (.nw i y))):=by
 have S:=jA G k n;have at_:=fx.at hl hi;have P:PE X e (spN X c (evE G y)):=by
  rcases WP hn with⟨p,a,q,rfl⟩|⟨p,lo,hi',p2,q,rfl⟩
  .replace h:(if glB c.sc ("list":Str)&&bX ("list":Str)then(trV n c a).bind fun x=>some (E.blt .toList x)else none)=some y:=h;split at h
   .rename_i hg;rw[dF]at hg;obtain⟨z,h1,h⟩:=obs h;cases h;have hs:=kQ h1 X.env;refine fH (BC WR (gd.gl _ hg.1) (gd.nob _ (by decide +kernel)) PyProof.Rows.boot_list (lU (S.v gd h1) hs) (by decide) (by decide) hs rfl) fun O H Q q=>?_;obtain⟨r,F,ts,e,ht,q⟩:=q;rw[evE]at ht;obtain⟨t1,e1,ht⟩:=obs ht;refine⟨r,F,[t1],e,fW.mpr ⟨t1,e1,rfl⟩,fun vs F' H' s1 r1=>?_⟩;obtain⟨v,w,rfl,g1,g2⟩:=r1;cases g2;exact⟨F',t1,ts,v,rfl,s1.fh,g1,ht,fun p vs hp r=>q p vs F' H' s1 hp r⟩
   .cases h
  .obtain⟨z,h1,h⟩:=obs h;obtain⟨l,h2,h⟩:=obs h;obtain⟨u,h3,h⟩:=obs h;cases h;have ee:evE G (.sli z l u)=fun r=>(evE G z r).bind fun s=>(evO G l r).bind fun l1=>(evO G u r).bind fun u1=>(asI l1).bind fun l2=>(asI u1).bind fun u2=>fN s l2 u2:=by funext r;rw[evE]
   rw[ee];exact WQ (S.v gd h1) (S.o gd h2) (S.o gd h3)
 rintro pj s O H D I⟨τ,F,o,en,hf,hw⟩;rw[evS]at hf;obtain⟨F1,e1,s1⟩:=en.frz (aN y);obtain⟨t,ht,hf⟩:=obs hf;cases t with
 |lst ts=>cases hf;refine lK gd.nd at_.ix at_.loc P (qF h (fun a b s p z=>by subst z;cases hn) _ _ _) at_.fn pj s O H D I ⟨_,F1,ts,e1.env fx.hN,ht,fun p vs F' H1 st hp r=>hw _ F' _ ?_ (s1.trans st.ff)⟩;exact(e1.step st).setO i hp r
 |_=>cases hf
theorem WT(gd:Gd X c G k)(fx:Fx X c)(hl:c.sc.names.lookup x=some .local\/c.sc.names.lookup x=some .cell)(hi:cI c.nm x=some i):PS X (.Assign [.Name x py] (.Dict [] [] dp) pos) (spS X F0 H0 (evS G (.dnew i))):=by
 have at_:=fx.at hl hi;rintro pj s O H D I⟨τ,F,o,en,hf,hw⟩;rw[evS]at hf;cases hf;exact lK gd.nd at_.ix at_.loc QP rfl at_.fn pj s O H D I fun p hp=>hw _ F _ (en.setG i hp ⟨[],rfl,rfl,rfl⟩) (Same.refl F)
theorem WU(gd:Gd X c G k)(fx:Fx X c)(hv:cX c.sc x=true)(hp:bX x=true)(hi:cI c.nm x=some i)(hk:Oke X c ke fk)(hve:PE X ve tv)(hs:swapsWith ve (some (.Subscript (.Name x px) ke tp)) pos.line X.env=pure false){pj:Pq}{s:Shared}{O:L2.St}{H:Hp}{D:Ends}(I:L2.Inv X pj O H s){τ:List Sl}{F:Hp}(e1:EnvS X F0 H0 τ O F H){kt y:T}{s':Sl}(ht:fk (aA τ)=some kt)(hput:vW τ[i]? kt y=some s')(hval:∀Q:VK,(∀v F2 H2,Step F H F2 H2->Rep X.K F2 y v->Q v H2)->tv O H Q)(hw:∀O' F' H',EnvS X F0 H0 (τ.set i s') O' F' H'->Same F F'->D.nx O' H'):wpAny (model X.prog X.w) X.A (exec (.Assign [.Subscript (.Name x px) ke tp] ve pos) X.env) (SP X pj D) X.xe s:=by
 have hu:X.A.units+1<cLine:=by have:=gd.hu;lia
 have hN:X.N[i]?=some x:=by rw[fx.hN];exact lV hi
 have P:=QM (pos:=pos) hu (kI (pos:=px) hN (gd.vis x hv) (lX hp).1 (lX hp).2) hk hve hs;cases hsl:τ[i]? with
 |none=>rw[hsl]at hput;cases hput
 |some sl=>
  rw[hsl]at hput;cases sl with
  |dk qb=>
   obtain⟨q,hkk,hput⟩:=obs (show((mK kt).bind fun q=>if qb.length<SZ then some (Sl.dk (eW qb q y))else none)=some s' from hput);split at hput
   .rename_i hz;cases hput;refine P pj s O H D I (hval _ fun v F2 H2 st2 rv=>?_);have e3:=e1.step st2;obtain⟨b,ob,q1,q2,q3,q4,q5⟩:=e3.ownG i _ hsl rfl;refine⟨.ref b,q1,_,F2,kt,e3.env fx.hN,ht,fun u F3 H3 st3 rk=>?_⟩;have e4:=e3.step st3;obtain⟨b',ob',p1,p2,p3,p4,ws,rfl,w1,w2⟩:=e4.ownG i _ hsl rfl;rw[q1]at p1;cases p1;have ek:=wY rk hkk;subst ek;have rel:=dE.of w1 w2;have hl:ws.length=qb.length:=by have:=congrArg List.length w1;simpa using this
    refine⟨b,_,rfl,jI.k p2 (by rw[hl,<-oE];exact hz),?_⟩;have rel2:=rel.put q (rv.mono st3.ff);exact hw _ _ _ (e4.growG (s':=.dk (eW qb q y)) (o:=.dK (gQ ws q v)) hsl rfl q1 p3 p4 ⟨_,rfl,rel2.keys,rel2.vals⟩) (st2.ff.trans st3.ff)
   .cases hput
  |_=>cases hput
theorem WV(gd:Gd X c G k)(fx:Fx X c)(hv:cX c.sc x=true)(hp:bX x=true)(hi:cI c.nm x=some i)(h1:trV n c ke=some y)(h2:trV n c ve=some z)(hc:wL ve=false):PS X (.Assign [.Subscript (.Name x px) ke tp] ve pos) (spS X F0 H0 (evS G (.dput i y z))):=by
 have S:=jA G k n;rintro pj s O H D I⟨τ,F,o,en,hf,hw⟩;rw[evS]at hf;obtain⟨F1,e1,s1⟩:=en.frz (aN z++aN y);obtain⟨vt,g1,hf⟩:=obs hf;obtain⟨kt,g2,hf⟩:=obs hf;obtain⟨s',g3,rfl⟩:=oms hf;by_cases hown:∃ts,(aS (aN z++aN y) τ)[i]?=some (.own ts)
 .obtain⟨ts,hsl⟩:=hown;exact WN gd fx hv hp hi (S.v gd h1) (S.v gd h2) (qF h2 (fun a b s p z=>by subst z;cases hc) _ _ _) I e1 g1 g2 hsl (by rw[hsl]at g3;exact g3) fun O' F' H' e' s'=>hw O' F' H' e' (s1.trans s')
 replace g3:vW (aS (aN z++aN y) τ)[i]? kt vt=some s':=by
  cases hsl:(aS (aN z++aN y) τ)[i]? with
  |none=>rw[hsl]at g3;exact g3
  |some sl=>
   rw[hsl]at g3;cases sl with
   |own ts=>exact absurd ⟨ts,hsl⟩ hown
   |_=>exact g3
 exact WU gd fx hv hp hi (S.v gd h1) (S.v gd h2) (qF h2 (fun a b s p z=>by subst z;cases hc) _ _ _) I e1 g2 g3 (fun Q hQ=>⟨_,F1,vt,e1.env fx.hN,g1,hQ⟩) fun O' F' H' e' s'=>hw O' F' H' e' (s1.trans s')
theorem WW:PSs X [] (spS X F0 H0 (aC G [])):=by refine wS vG fun D O H q=>?_;obtain⟨τ,F,o,en,hf,hw⟩:=q;rw[aC]at hf;cases hf;exact hw _ F H en (Same.refl F)
theorem WX{st:Stmt}{rest:List Stmt}{s:S}{ss:List S}(h1:PS X st (spS X F0 H0 (evS G s)))(h2:PSs X rest (spS X F0 H0 (aC G ss))):PSs X (st::rest) (spS X F0 H0 (aC G (s::ss))):=by
 refine wS (nQ h1 h2) fun D O H q=>?_;obtain⟨τ,F,o,en,hf,hw⟩:=q;rw[aC]at hf;obtain⟨o1,ho1,hf⟩:=obs hf;refine⟨τ,F,o1,en,ho1,?_⟩;cases o1 with
 |nx τ'=>exact fun O' F' H' e s'=>⟨τ',F',o,e,hf,hw.up s'⟩
 |rt t=>cases hf;exact hw
theorem WY(h:sD e=true):∃p,e=.Dict [] [] p:=by
 cases e with
 |Dict ks vs p=>
  match ks,vs,h with
  |[],[],_=>exact⟨p,rfl⟩
  |_::_,_,h=>cases h
  |[],_::_,h=>cases h
 |_=>cases h
def WZ(h:wM e=some y):∃p1 apos cpos,e=.Call (.Attribute (.Name y p1) "pop" apos) [] [] cpos/\(apos.endLine==cpos.line)=true:=by obtain⟨z,_,rfl⟩:=oms h;exact z.2
def XA(h:wN e=some r):e=r.test:=by obtain⟨z,_,rfl⟩:=oms h;exact z.2
theorem tR(gd:Gd X c G k)(fx:Fx X c)(tl:Tl X c G):∀n,(∀st s,trS n c st=some s->PS X st (spS X F0 H0 (evS G s)))/\(∀sts ss,gP n c sts=some ss->PSs X sts (spS X F0 H0 (aC G ss)))
 |0=>⟨fun _ _ h=>(by(cases h;done)),fun _ _ h=>(by(cases h;done))⟩
 |n+1=>by
  obtain⟨i1,i2⟩:=tR gd fx tl n;refine⟨fun st s h=>?_,fun sts ss h=>?_⟩
  .cases st with
   |Assign tgs e pos=>
    match tgs,h with
    |[],h=>(cases h;done)
    |t::_::_,h=>
     cases t with
     |Subscript o _ _=>cases o<;>(cases h;done)
     |_=>(cases h;done)
    |[t],h=>
     cases t with
     |Name x px=>
      replace h:(if bX x&&(c.sc.names.lookup x==some .local||c.sc.names.lookup x==some .cell)then(cI c.nm x).bind fun i=>if sD e then some (S.dnew i)else(match wM e with
   |some y=>if cX c.sc y&&bX y then(cI c.nm y).bind fun j=>some (S.lpop i j)else none
   |none=>if pQ x e then(trV n c e).bind fun y=>some (S.nw i y)else(trV n c e).bind fun y=>if fresh y&&!sC e then none else some (S.asg i y))else none)=some s:=h
      split at h
      .rename_i hc;simp only[Bool.and_eq_true,Bool.or_eq_true,beq_iff_eq]at hc;obtain⟨i,h1,g1⟩:=obs h;clear h;by_cases hd:sD e=true
       .rw[if_pos hd]at g1;cases g1;obtain⟨dp,rfl⟩:=WY hd;exact WT gd fx hc.2 h1
       .rw[if_neg hd]at g1;split at g1
        .rename_i y hpp;split at g1
         .rename_i hvp;rw[dF]at hvp;obtain⟨j,h2,g2⟩:=obs g1;cases g2;obtain⟨p1,ap,cp,rfl,hln⟩:=WZ hpp;exact WO gd fx hc.2 h1 hvp.1 hvp.2 h2 hln
         .cases g1
        .by_cases hnw:pQ x e=true
         .rw[if_pos hnw]at g1;obtain⟨y,h2,g2⟩:=obs g1;cases g2;cases n with
          |zero=>cases h2
          |succ m=>exact WS gd fx hc.2 h1 h2 hnw
         .rw[if_neg hnw]at g1;obtain⟨y,h2,g2⟩:=obs g1;clear g1;by_cases hfl:(fresh y&&!sC e)=true
          .rw[if_pos hfl]at g2;cases g2
          .rw[if_neg hfl]at g2;cases g2;cases n with
           |zero=>cases h2
           |succ m=>
            exact WC gd fx hc.2 h1 h2 fun hfr=>by rw[hfr,Bool.true_and]at hfl;simpa using hfl
      .cases h
     |Subscript o ke tp=>
      cases o with
      |Name x px=>
       replace h:(if cX c.sc x&&bX x&&!pO ke then(cI c.nm x).bind fun i=>(trV n c ke).bind fun y=>if wL e then none else(trV n c e).bind fun z=>some (S.dput i y z)else none)=some s:=h;split at h
       .rename_i hc;simp only[Bool.and_eq_true]at hc;obtain⟨i,h1,g1⟩:=obs h;obtain⟨y,h2,g2⟩:=obs g1;clear g1 h;split at g2
        .cases g2
        .rename_i hcomp;obtain⟨z,h3,g3⟩:=obs g2;cases g3;exact WV gd fx hc.1.1 hc.1.2 h1 h2 h3 (by simpa using hcomp)
       .cases h
      |_=>(cases h;done)
     |_=>(cases h;done)
   |Expr e pos=>
    cases e with
    |Constant cst kk p=>
     cases cst with
     |str x=>(cases h;done)
     |_=>(cases h;done)
    |Call f es ks cpos=>
     cases f with
     |Attribute o m apos=>
      match es,ks,h with
      |[a],[],h=>
       cases o with
       |Name x px=>
         replace h:(if apos.endLine==cpos.line&&cX c.sc x&&bX x then(cI c.nm x).bind fun i=>(trV n c a).bind fun y=>(if m==("append":Str)then some (S.app i y)else none)else none)=some s:=h;split at h
         .rename_i hc;simp only[Bool.and_eq_true]at hc;obtain⟨i,h1,g1⟩:=obs h;obtain⟨y,h2,g2⟩:=obs g1;clear g1 h;by_cases hm:(m==("append":Str))=true
          .rw[if_pos hm]at g2;have hm:=cK hm;subst hm;cases g2;exact WD gd fx hc.1.2 hc.2 h1 h2 hc.1.1
          .rw[if_neg hm]at g2;cases g2
         .cases h
       |_=>(cases h;done)
      |[],_,h=>cases o<;>(cases h;done)
      |[_],_::_,h=>cases o<;>(cases h;done)
      |_::_::_,_,h=>cases o<;>(cases h;done)
     |_=>(cases h;done)
    |_=>(cases h;done)
   |Raise a b pos=>cases(show some S.fail=some s from h);exact WE
   |Return e pos=>
    cases e with
    |none=>(cases h;done)
    |some e=>obtain⟨y,h2,g⟩:=obs h;cases g;exact WF gd fx h2
   |If t a b pos=>
    replace h:(match wN t with
     |some r=>if pR c r.ls&&(glB c.sc dB&&(glB r.ls r.g&&(bX r.g&&(b.isEmpty&&!r.es.isEmpty))))then(dP (trV n ⟨r.ls,c.nm⟩) r.es).bind fun es=>(trV n c r.e).bind fun e=>(gP n c a).bind fun x=>some (S.tif r.g es e x)else none
     |none=>(trT n c t).bind fun z=>(gP n c a).bind fun x=>(gP n c b).bind fun y=>some (S.ite z x y))=some s:=h
    split at h
    .rename_i r hr;split at h
     .rename_i hc;rw[dF,dF,dF,dF,dF]at hc;obtain⟨c1,c2,c3,c4,c5,c6⟩:=hc;obtain rfl:b=[]:=List.isEmpty_iff.mp c5;obtain⟨xs,h1,h⟩:=obs h;obtain⟨e,h2,h⟩:=obs h;obtain⟨x,h3,h⟩:=obs h;cases h;rw[XA hr];exact WI gd fx tl (by rw[c1,c2,c3,c4];rfl) (fun z=>by rw[z]at c6;cases c6) h1 h2 (i2 _ _ h3)
     .cases h
    .obtain⟨z,h1,g⟩:=obs h;obtain⟨x,h2,g⟩:=obs g;obtain⟨y,h3,g⟩:=obs g;cases g;exact WG gd fx h1 (i2 _ _ h2) (i2 _ _ h3)
   |While t body els pos=>
    cases els with
    |cons _ _=>(cases h;done)
    |nil=>obtain⟨z,h1,g⟩:=obs h;obtain⟨b,h2,g⟩:=obs g;cases g;exact WH gd fx h1 (i2 _ _ h2)
   |For tg iter body els pos=>
    cases els with
    |cons _ _=>(cases h;done)
    |nil=>
     obtain⟨xs,h1,g⟩:=obs h;obtain⟨is,h2,g⟩:=obs g;obtain⟨ki,h3,g⟩:=obs g;obtain⟨b,h4,g⟩:=obs g;split at g
     .rename_i hc;simp only[Bool.and_eq_true]at hc;obtain⟨⟨⟨c1,c2⟩,c3⟩,c4⟩:=hc;cases g;refine WK gd fx h1 h2 h3 (fun e=>?_) (fun e=>?_) (fx.ats c4 h2) (i2 _ _ h4)
      .rw[e]at c1;simpa using c1
      .rw[e]at c2;simpa using c2
     .cases g
   |_=>(cases h;done)
  .cases sts with
   |nil=>cases(show some ([]:List S)=some ss from h);exact WW
   |cons st rest=>obtain⟨x,h1,h⟩:=obs h;obtain⟨xs,h2,h⟩:=obs h;cases h;exact WX (i1 _ _ h1) (i2 _ _ h2)
section
variable {P:Program}{w:World}{K:W.Frag}{mg:Mq}{base:Heap}{R:Pr}
structure FnD(K:W.Frag)(mg:Mq)(f:Str)(D:Fd)(st:Stmt)(a:Addr)(fd:FuncData)(ps:List Str):Prop where
 qu:∃x qual,Fun K x qual st a fd
 sc:FnScope (cM (aM st)) ps (aM st)
 np:ps.length=D.np
 ns:(cM (aM st)).length=D.ns
 tr:gP 60 ⟨aM st,cM (aM st)⟩ (dI st)=some D.body
 mg:mg f=some (.ref a)
 kp:W.keepIn K (.ref a)=true
 bi:Binds K fd ps []
 nt:glB (aM st) dB=false
theorem xQ(hN:N.length=D.ns)(fh:Same F H)(tb:Tbk X.K F H)(r:aH X.K F ts vs):EnvS X F H (cD D ts) (L2.start N vs) F H:=by
 have hl:=r.length;have none:∀i s,(cD D ts)[i]?=some s->¬i<ts.length->s=.no:=fun i s h hi=>by
  unfold cD at h;rw[oS (by simpa using hi)]at h;rw[List.getElem?_replicate]at h;split at h
  .cases h;rfl
  .cases h
 have some':∀i s,(cD D ts)[i]?=some s->i<ts.length->∃t,ts[i]?=some t/\s=.val t:=fun i s h hi=>by unfold cD at h;rw[oU (by simpa using hi),List.getElem?_map]at h;obtain⟨t,h1,h2⟩:=oms h;exact⟨t,h1,h2.symm⟩
 have noown:∀i(u:Sl),(cD D ts)[i]?=some u->u.isOwn=true->False:=fun i u h hu=>by
  by_cases hi:i<ts.length
  .obtain⟨t,_,e⟩:=some' i _ h hi;subst e;cases hu
  .have:=none i _ h hi;subst this;cases hu
 refine⟨Step.refl fh,tb,?_,fun i t h=>?_,fun i u h hu=>(noown i u h hu).elim,fun i j u _ a _ h _ hu=>(noown i u h hu).elim⟩
 .unfold cD L2.start;simp only[List.length_append,List.length_map,List.length_replicate];rw[hl,hN]
 .by_cases hi:i<ts.length
  .obtain⟨u,h1,e⟩:=some' i _ h hi;cases e;obtain⟨v,h2,h3⟩:=r.get h1;refine⟨v,?_,h3⟩;unfold L2.start;rw[uZ (by rw[bM,hl];exact hi),iK,h2];rfl
  .cases none i _ h hi
def Kn(P:Program)(w:World)(K:W.Frag)(mg:Mq)(base:Heap)(R:Pr)(n:Nat)(f:Str):Prop :=
 ∃(a:Addr)(fd:FuncData)(ps:List Str),FnOk P w K mg base CX0 n a fd ps (spT K (run R n f))/\mg f=some (.ref a)/\W.keepIn K (.ref a)=true/\Binds K fd ps []
abbrev nA(P:Program)(w:World)(K:W.Frag)(mg:Mq)(base:Heap)(R:Pr)(n:Nat):Prop:=∀m,m<=n->∀f D,lS f=true->R.fn f=some D->Kn P w K mg base R m f
theorem XB:FnOk P w K mg base CX0 0 a fd ps (spT K (run R 0 f)):=by
 have no:∀vs H Q E,¬spT K (run R 0 f) vs H Q E:=fun vs H Q E h=>by obtain⟨F,ts,t,_,_,_,h,_⟩:=h;cases h
 exact⟨fun vs H Q E h=>absurd h (no vs H Q E),fun A outer s H args us vs Q E _ _ _ _ h=>absurd h (no vs H Q E)⟩
theorem FY(ih:nA P w K mg base R n)(nob:∀x∈bnames,mg x=none){st:Stmt}{ps:List Str}(sc:FnScope (cM (aM st)) ps (aM st)){qual:Str}{a:Addr}{cdv:Value}{A:Around}{outer:List PySem.Env}{s:Shared}{H:Hp}{E:XK}(hr:Room n (A.deeper (envOfC qual (aM st) s.heap.objs.size a cdv))):Gd (gN CX0 P w K mg base (cM (aM st)) qual (aM st) a cdv A outer s H E).nox ⟨aM st,cM (aM st)⟩ (glo R (run R n)) n:={
   room:=hr
   calm:=rfl
   nob:=nob
   call:=fun g ts t hp hg=>by
    have hD:∃D',R.fn g=some D':=by
     cases n with
     |zero=>cases hg
     |succ m=>have hg:run R (m+1) g ts=some t:=hg;rw[run]at hg;obtain⟨D',h1,_⟩:=obs hg;exact⟨D',h1⟩
    obtain⟨D',hD⟩:=hD;exact ih n (bH n) g D' hp hD
   vis:=fun x h=>by
    show(aM st).names.lookup x=_\/(aM st).names.lookup x=_\/(aM st).names.lookup x=_;have h:cX (aM st) x=true:=h;unfold cX at h;cases e:(aM st).names.lookup x with
    |none=>rw[e]at h;cases h
    |some q=>
     rw[e]at h;cases q with
     | «local»=>exact .inl rfl
     |cell=>exact .inr (.inl rfl)
     |free=>exact .inr (.inr rfl)
     |_=>cases h
   gl:=fun x h=>by show(aM st).names.lookup x=_;simpa[glB]using h
   cap:=fun x h=>h
   nd:=sc.nd}
theorem XD(ih:nA P w K mg base R n)(nob:∀x∈bnames,mg x=none){f:Str}{D:Fd}{st:Stmt}{a:Addr}{fd:FuncData}{ps:List Str}(hf:R.fn f=some D)(d:FnD K mg f D st a fd ps):FnOk P w K mg base CX0 (n+1) a fd ps (spT K (run R (n+1) f)):=by
  obtain⟨x,qual,FU⟩:=d.qu;have inv:∀{ts:List T}{t:T},run R (n+1) f ts=some t->ts.length=D.np/\bG (aC (glo R (run R n)) D.body (cD D ts))=some t:=fun{ts t}h=>by
   rw[run,hf]at h;simp only[aO]at h;split at h
   .rename_i e;exact⟨e,h⟩
   .cases h
  refine FU.ok d.sc (fun vs H Q E h=>?_) (fun cdv A outer s H vs Q E hr h=>?_)
  .obtain⟨F,ts,t,fh,tb,r,h,_⟩:=h;rw[r.length,(inv h).1,d.np]
  obtain⟨F,ts,t,fh,tb,r,h,q⟩:=h;obtain⟨hl,he⟩:=inv h;have gd:=FY (outer:=outer) (H:=H) (E:=E) ih nob d.sc hr;have fx:Fx (gN CX0 P w K mg base (cM (aM st)) qual (aM st) a cdv A outer s H E).nox ⟨aM st,cM (aM st)⟩:=⟨rfl,fun x h=>h,fun _=>rfl,rfl⟩;refine⟨_,(tR (F0:=F) (H0:=H) gd fx (fun n r xs hk=>by rw[d.nt,Bool.false_and,Bool.and_false]at hk;cases hk) 60).2 _ _ d.tr,?_⟩;cases ho:aC (glo R (run R n)) D.body (cD D ts)with
  |none=>rw[ho]at he;cases he
  |some o=>
   refine⟨cD D ts,F,o,xQ d.ns fh tb r,ho,?_⟩;rw[ho]at he;cases o with
   |nx τ=>cases he;exact fun O' F' H' e _=>q .non F' H' e.st rfl
   |rt t=>cases he;exact fun v F' H' s r=>q v F' H' s r
theorem FZ(L:∀f D,lS f=true->R.fn f=some D->∃st a fd ps,FnD K mg f D st a fd ps)(nob:∀x∈bnames,mg x=none):∀n,nA P w K mg base R n
 |0=>fun m hm f D hp hf=>by
  obtain rfl:m=0:=by lia
  obtain⟨st,a,fd,ps,d⟩:=L f D hp hf;exact⟨a,fd,ps,XB,d.mg,d.kp,d.bi⟩
 |n+1=>fun m hm f D hp hf=>by
  have ih:=FZ L nob n;by_cases hmn:m<=n
  .exact ih m hmn f D hp hf
  .obtain rfl:m=n+1:=by lia
   obtain⟨st,a,fd,ps,d⟩:=L f D hp hf;exact⟨a,fd,ps,XD ih nob hf d,d.mg,d.kp,d.bi⟩
end
end Ev
namespace Ev.Ex
open PySem Spec PyProof.Rows L2
theorem XF(hu:X.A.units+100<cLine):MtR X "list.count" (fun x xs H Q=>∃F ts t2 y,xs=[y]/\Same F H/\Rep X.K F (.lst ts) x/\Rep X.K F t2 y/\dpI t2 ts=true/\Q (.int ((ts.filter fun z=>eqT z t2).length:Nat)) H):=by
 rintro pj s O H x xs v us Q I rx rs⟨F,ts,t2,y,rfl,fh,r1,r2,hf,q⟩;obtain⟨u,rfl,ru⟩:=iC rs;obtain⟨l,vs,rfl,h1,h2⟩:=r1;cases rx;obtain⟨z,qc,n,r,ho⟩:=(Ls.same fh h1).ok I;obtain⟨e,e1,e2⟩:=sW I fh (A:=X.A.in1) (show X.A.units+1+30<cLine by lia) r2 ru hf h2 r;refine call_meets PySem.F.slot_list_count ⟨_,ho,rfl⟩ PySem.F.entry_list_count (PySem.F.args_list_count_2 _ _) (PySem.SeqAt.list_countAt l qc.toArray n _ _ u e) ⟨ho,fun y hy=>e1 y (by simpa using hy),?_⟩;have e3:qc.countP e=(ts.filter fun z=>eqT z t2).length:=by have:=aP (fun l:List Bool=>l.countP id) e2;simp only[List.countP_map,Function.comp_def,id]at this;rw[show qc.countP e=qc.countP (fun x=>e x)from rfl,this,List.countP_eq_length_filter]
 refine⟨.int _,H,I.tok _,⟨_,rfl⟩,?_⟩;rw[List.toList_toArray,e3];exact q
def toldN:List Str:=["_law_deed_here", "_law_found", "e", "_law_kinds"]
def toldC:List Str:=["NoText", "NoRow", "Twice", "BadCheck", "NoRef", "Held", "NoMark", "BadLog", "Clash"]
structure TK(Y:Cx)(cs:List Addr):Prop where
 N:Y.N=toldN
 lo:∀x∈toldN,Y.env.scope.names.lookup x=some .local
 gl:∀x∈toldC++(["isinstance", "ValueError", "bool"]:List Str),Gl Y x
 nb:∀x∈(["isinstance", "ValueError", "bool"]:List Str),Y.mg x=none
 mc:toldC.map Y.mg=cs.map fun C=>some (.ref C)
 hu:Y.A.units+100<cLine
structure EK(K:W.Frag)(cs:List Addr)(D:Addr)(j:Nat):Prop where
 ec:ErC K D
 ki:cs.map (fun C=>W.kitOne K (.ref D) (.ref C))=(List.range 9).map fun i=>some (decide (i=j))
 kv:W.kitOne K (.ref D) (.type "ValueError")=some true
 hj:j<9
theorem IsEr.aL(r:IsEr H a D dx o y)(h1:a≠p)(h2:dx≠p):IsEr (aL H p u) a D dx o y:=⟨by rw[aR h1];exact r.ob,r.cl,r.di,r.fd,by rw[aR h2];exact r.xd⟩
def IsEr.new(r:IsEr H a D dx o y)(h:H p=none):IsEr (L2.aL H p u) a D dx o y:=r.aL (cS r.ob h) (cS r.xd h)
section
variable {Y:Cx}{cs:List Addr}
def xR(K:W.Frag)(xs:List V)(H:Hp)(Q:VK):Prop:=∃a D dx o y c b,xs=[.ref a,c]/\nS c≠.none/\IsEr H a D dx o y/\ErC K D/\W.kitOne K (.ref D) (nS c)=some b/\Q (.bl b) H
theorem TK.nd(t:TK Y cs):Y.N.Nodup:=by rw[t.N];decide
theorem TK.pv(t:TK Y cs)(h:toldN[i]?=some x)(hd:(x==("__debug__":Str))=false:=by decide)(hcd:(x==("__classdict__":Str))=false:=by decide):PE Y (.Name x p) (nP i):=kI (by rw[t.N];exact h) (.inl (t.lo x (jL h))) hd hcd
theorem TK.cls(t:TK Y cs){i:Nat}{x:Str}(h:toldC[i]?=some x):∃C,cs[i]?=some C/\Y.mg x=some (.ref C):=by
 have:=aP (fun l:List (a0 Value)=>l[i]?) t.mc;simp only[List.getElem?_map,h,cT]at this;cases e:cs[i]? with
 |none=>rw[e]at this;cases this
 |some C=>rw[e]at this;exact⟨C,rfl,dU this⟩
theorem TK.isi(t:TK Y cs){i:Nat}{x:Str}{C:Addr}{p1 p2 p3 p4:Pos}(h:toldC[i]?=some x)(hm:Y.mg x=some (.ref C))(hd:(x==("__debug__":Str))=false:=by decide):
  PE Y (.Call (.Name "isinstance" p1) [.Name "e" p2,.Name x p3] [] p4) (tCB (xR Y.K) (mJ (nP 2) (mJ (tC (.ref C)) rL))) :=
 pC rR (t.gl _ (by decide)) (t.nb _ (by decide)) boot_isinstance (cU (t.pv (i:=2) rfl) (cU (KU (t.gl x (List.mem_append_left _ (jL h))) hm rfl hd) gE))
def kR(j:Nat):List V:=(List.range 9).map fun i=>V.bl (decide (i=j))
def nB(j:Nat):List T:=(List.range 9).map fun i=>T.bl (decide (i=j))
theorem XG:∀j,j<9->dpI (.bl true) (nB j)=true/\((nB j).filter fun z=>eqT z (.bl true)).length=1/\dZ .index (.lst (nB j)) (.bl true)=some (.int j)
 |0,_=>⟨rfl,rfl,rfl⟩
 |1,_=>⟨rfl,rfl,rfl⟩
 |2,_=>⟨rfl,rfl,rfl⟩
 |3,_=>⟨rfl,rfl,rfl⟩
 |4,_=>⟨rfl,rfl,rfl⟩
 |5,_=>⟨rfl,rfl,rfl⟩
 |6,_=>⟨rfl,rfl,rfl⟩
 |7,_=>⟨rfl,rfl,rfl⟩
 |8,_=>⟨rfl,rfl,rfl⟩
 |n+9,h=>by lia
theorem GA{K:W.Frag}{F:Hp}:∀l:List Bool,aH K F (l.map T.bl) (l.map V.bl)
 |[]=>rfl
 |b::l=>.cons rfl (GA l)
theorem XH{K:W.Frag}{F:Hp}(j:Nat):aH K F (nB j) (kR j):=by have:=GA (K:=K) (F:=F) ((List.range 9).map fun i=>decide (i=j));unfold nB kR;simpa only[List.map_map,Function.comp_def]using this
theorem XI:iA Y (.builtin "isinstance") (fun xs H Q=>∃k,xs=[.int k,.ty "bool"]/\Q (.bl false) H):=by rintro pj s O H xs us Q I r⟨k,rfl,q⟩;obtain⟨u,w',rfl,rx,ry⟩:=vM r;obtain⟨t,rfl⟩:=rx;cases ry;exact IsiPair.int_bool ⟨.bl false,H,I.tok _,rfl,q⟩
theorem EK.at{K:W.Frag}(k:EK K cs D j)(h:cs[i]?=some C)(hi:i<9):W.kitOne K (.ref D) (.ref C)=some (decide (i=j)):=by have:=aP (fun l:List (a0 Bool)=>l[i]?) k.ki;simp only[List.getElem?_map,h,cT,List.getElem?_range hi]at this;exact dU this
def kU(hs:O[2]?=some (some (.ref a)))(ie:IsEr H a D dx o y)(k:EK Y.K cs D j)(h:cs[i]?=some C)(hi:i<9)(q:Q (.bl (decide (i=j))) H):tCB (xR Y.K) (mJ (nP 2) (mJ (tC (.ref C)) rL)) O H Q:=⟨_,hs,a,D,dx,o,y,.ref C,_,rfl,(fun z=>nomatch z),ie,k.ec,k.at h hi,q⟩
def tS(ks:List Stmt):Prop:=∀{Y:Cx}{cs:List Addr},TK Y cs->PSs Y ks (fun D O H=>∃a Dc dx o k j F,O[2]?=some (some (.ref a))/\O.length=4/\IsEr H a Dc dx o (.int k)/\EK Y.K cs Dc j/\Same F H /\
   ∀O' H' p,O'.length=4->O'[1]?=some (some (.ref p))->Step F H (L2.aL F p (.tup [.str "refused",.int j,.int k])) H'->D.nx O' H')
theorem XJ{p0 p1 p2 p3 p4 p5 p6 p7 p8 p9 p10 p11 p12 p13 p14 p15 p16 p17 p18 p19 p20 p21 p22 p23 p24 p25 p26 p27 p28 p29 p30 p31 p32 p33 p34 p35 p36 p37 p38 p39 p40 p41 p42 p43 p44 p45 p46 p47 p48 p49 p50 p51 p52 p53 p54 p55 p56 p57 p58 p59 p60 p61 p62 p63 p64 p65 p66 p67 p68 p69 p70 p71 p72 p73 p74 p75 p76 p77 p78 p79 p80 p81 p82:Pos}(l1:(p41.endLine==p46.line)=true)(l2:(p60.endLine==p62.line)=true)(l3:(p75.endLine==p77.line)=true):tS [.Assign [.Name "_law_kinds" p0] (.List [.Call (.Name "isinstance" p1) [.Name "e" p2,.Name "NoText" p3] [] p4,.Call (.Name "isinstance" p5) [.Name "e" p6,.Name "NoRow" p7] [] p8,.Call (.Name "isinstance" p9) [.Name "e" p10,.Name "Twice" p11] [] p12,.Call (.Name "isinstance" p13) [.Name "e" p14,.Name "BadCheck" p15] [] p16] p17) p18,.Assign [.Name "_law_kinds" p19] (.BinOp (.Name "_law_kinds" p20) .Add (.List [.Call (.Name "isinstance" p21) [.Name "e" p22,.Name "NoRef" p23] [] p24,.Call (.Name "isinstance" p25) [.Name "e" p26,.Name "Held" p27] [] p28,.Call (.Name "isinstance" p29) [.Name "e" p30,.Name "NoMark" p31] [] p32,.Call (.Name "isinstance" p33) [.Name "e" p34,.Name "BadLog" p35] [] p36] p37) p38) p39,.Expr (.Call (.Attribute (.Name "_law_kinds" p40) "append" p41) [.Call (.Name "isinstance" p42) [.Name "e" p43,.Name "Clash" p44] [] p45] [] p46) p47,.Assign [.Name "_law_found" p48] (.Tuple [.Constant (.str "refused") 0 p49,.UnaryOp .USub (.Constant (.int 1) 0 p50) p51,.Constant (.int 0) 0 p52] 0 p53) p54,.If (.BoolOp .And [.Call (.Name "isinstance" p55) [.Name "e" p56,.Name "ValueError" p57] [] p58,.Compare (.Call (.Attribute (.Name "_law_kinds" p59) "count" p60) [.Constant (.bool true) 0 p61] [] p62) [.Eq] [.Constant (.int 1) 0 p63] p64,.UnaryOp .Not (.Call (.Name "isinstance" p65) [.Attribute (.Name "e" p66) "at" p67,.Name "bool" p68] [] p69) p70] p71) [.Assign [.Name "_law_found" p72] (.Tuple [.Constant (.str "refused") 0 p73,.Call (.Attribute (.Name "_law_kinds" p74) "index" p75) [.Constant (.bool true) 0 p76] [] p77,.Attribute (.Name "e" p78) "at" p79] 0 p80) p81] [] p82]:=by
 intro Y cs t;obtain⟨C0,c0,m0⟩:=t.cls (i:=0) (x:="NoText") rfl;obtain⟨C1,c1,m1⟩:=t.cls (i:=1) (x:="NoRow") rfl;obtain⟨C2,c2,m2⟩:=t.cls (i:=2) (x:="Twice") rfl;obtain⟨C3,c3,m3⟩:=t.cls (i:=3) (x:="BadCheck") rfl;obtain⟨C4,c4,m4⟩:=t.cls (i:=4) (x:="NoRef") rfl;obtain⟨C5,c5,m5⟩:=t.cls (i:=5) (x:="Held") rfl;obtain⟨C6,c6,m6⟩:=t.cls (i:=6) (x:="NoMark") rfl;obtain⟨C7,c7,m7⟩:=t.cls (i:=7) (x:="BadLog") rfl;obtain⟨C8,c8,m8⟩:=t.cls (i:=8) (x:="Clash") rfl;have st:∀{i:Nat}{x:Str}{e:Expr}{te:TE}{p q:Pos},toldN[i]?=some x->PE Y e te->swapsWith e (some (.Name x p)) q.line Y.env=pure false->PS Y (.Assign [.Name x p] e q) (tAsg te (rJ i)):=fun{i x e te p q}h he hs=>lK t.nd (by rw[t.N];exact h) (.inl (t.lo x (jL h))) he hs (.inr (t.lo x (jL h)));have ve:PE Y (.Call (.Name "isinstance" p55) [.Name "e" p56,.Name "ValueError" p57] [] p58) (tCB (xR Y.K) (mJ (nP 2) (mJ (tC (.ty "ValueError")) rL))) :=
  pC rR (t.gl _ (by decide)) (t.nb _ (by decide)) boot_isinstance (cU (t.pv (i:=2) rfl) (cU (vE (t.gl _ (by decide)) (t.nb _ (by decide)) (by decide +kernel) (show aG (.ty "ValueError") (.type "ValueError")from rfl)) gE))
 have bo:PE Y (.Call (.Name "isinstance" p65) [.Attribute (.Name "e" p66) "at" p67,.Name "bool" p68] [] p69) _ :=
  pC XI (t.gl _ (by decide)) (t.nb _ (by decide)) boot_isinstance (cU (CI (t.pv (i:=2) rfl) rfl) (cU (vE (t.gl _ (by decide)) (t.nb _ (by decide)) PyProof.Rows.boot_bool (show aG (.ty "bool") (.type "bool")from rfl)) gE))
 have cn:PE Y (.Call (.Attribute (.Name "_law_kinds" p59) "count" p60) [.Constant (.bool true) 0 p61] [] p62) _:=pE F.plainAttrs_list F.slot_list_count F.type_list_count (XF t.hu) (t.pv (i:=3) rfl) (cU vD gE) rfl rfl l2 rfl rfl;have ix:PE Y (.Call (.Attribute (.Name "_law_kinds" p74) "index" p75) [.Constant (.bool true) 0 p76] [] p77) _:=pE F.plainAttrs_list F.slot_list_index F.type_list_index (EW t.hu) (t.pv (i:=3) rfl) (cU vD gE) rfl rfl l3 rfl rfl;have S1:=st (i:=3) (p:=p0) (q:=p18) rfl (vN (pos:=p17) (cU (t.isi (i:=0) (p1:=p1) (p2:=p2) (p3:=p3) (p4:=p4) rfl m0) (cU (t.isi (i:=1) (p1:=p5) (p2:=p6) (p3:=p7) (p4:=p8) rfl m1) (cU (t.isi (i:=2) (p1:=p9) (p2:=p10) (p3:=p11) (p4:=p12) rfl m2) (cU (t.isi (i:=3) (p1:=p13) (p2:=p14) (p3:=p15) (p4:=p16) rfl m3) gE))))) rfl;have S2:=st (i:=3) (p:=p19) (q:=p39) rfl (vK (pos:=p38) NV (t.pv (p:=p20) (i:=3) rfl) (vN (pos:=p37) (cU (t.isi (i:=4) (p1:=p21) (p2:=p22) (p3:=p23) (p4:=p24) rfl m4) (cU (t.isi (i:=5) (p1:=p25) (p2:=p26) (p3:=p27) (p4:=p28) rfl m5) (cU (t.isi (i:=6) (p1:=p29) (p2:=p30) (p3:=p31) (p4:=p32) rfl m6) (cU (t.isi (i:=7) (p1:=p33) (p2:=p34) (p3:=p35) (p4:=p36) rfl m7) gE)))))) rfl;have S3:=vH (pos:=p47) (pE (apos:=p41) (cpos:=p46) F.plainAttrs_list F.slot_list_append F.type_list_append vP (t.pv (p:=p40) (i:=3) rfl) (cU (t.isi (i:=8) (p1:=p42) (p2:=p43) (p3:=p44) (p4:=p45) rfl m8) gE) rfl rfl l1 rfl rfl);have S4:=st (i:=1) (p:=p48) (q:=p54) rfl (rM (x1:=0) (pos:=p53) (cU (oX (x:="refused") (j:=0) (pos:=p49)) (cU (AQ (pos:=p51) AR (rH (i:=1) (j:=0) (pos:=p50))) (cU (rH (i:=0) (j:=0) (pos:=p52)) gE)))) rfl;have S5:=vI (pos:=p82) (PW.pt (vF (pos:=p71) (AI ve) (vF (AS (pos:=p64) MG cn (rH (i:=1) (j:=0) (pos:=p63)) (KW _ (by decide) (by decide))) (AJ (AK (pos:=p70) (AI bo))))))
  (oZ (st (i:=1) (p:=p72) (q:=p81) rfl (rM (x1:=0) (pos:=p80) (cU (oX (x:="refused") (j:=0) (pos:=p73)) (cU ix (cU (CI (pos:=p79) (t.pv (p:=p78) (i:=2) rfl) rfl) gE)))) rfl)) vG
 have S6:=jR S5 (t':=fun D τ G=>∃a Dc dx o k j a3,τ[2]?=some (some (V.ref a))/\τ[3]?=some (some (V.ref a3))/\IsEr G a Dc dx o (.int k)/\EK Y.K cs Dc j/\G a3=some (.lst (kR j)) /\
   ∀F' G' p,Step G G F' G'->G' p=none->D.nx (τ.set 1 (some (.ref p))) (L2.aL G' p (.tup [.str "refused",.int j,.int k]))) fun D O3 H4 h=>by
  obtain⟨a,Dc,dx,o,k,j,a3,hs3,gk3,ie4,ek,q4,q⟩:=h;have rl:Rep Y.K H4 (.lst (nB j)) (.ref a3):=⟨a3,_,rfl,Ls.of q4,XH j⟩;obtain⟨k1,k2,k3⟩:=XG j ek.hj;refine⟨_,hs3,a,Dc,dx,o,.int k,.ty "ValueError",true,rfl,(fun z=>nomatch z),ie4,ek.ec,ek.kv,true,rfl,?_⟩;refine⟨_,gk3,.inl ⟨rfl,_,SqL.of q4⟩,H4,nB j,.bl true,_,rfl,Same.refl H4,rl,rfl,k1,?_⟩;rw[k2];refine⟨rfl,true,rfl,?_⟩;refine⟨_,hs3,a,Dc,dx,o,.int k,rfl,ie4,ek.ec,k,rfl,false,rfl,?_⟩;refine⟨_,gk3,.inl ⟨rfl,_,SqL.of q4⟩,H4,_,.bl true,_,_,rfl,Same.refl H4,rl,rfl,k3,fun v F' H5 T5 rv=>?_⟩;cases rv;have ie5:IsEr H5 a Dc dx o (.int k):=⟨T5.hh.st _ _ ie4.ob rfl,ie4.cl,ie4.di,ie4.fd,T5.hh.st _ _ ie4.xd rfl⟩;exact⟨_,hs3,a,Dc,dx,o,.int k,rfl,ie5,ek.ec,by rw[fV];simp,fun a6 h6=>q F' H5 a6 T5 h6⟩
 refine wS (nQ S1 (nQ S2 (nQ S3 (nQ S4 (oZ S6))))) fun D O H h=>?_;obtain⟨a,Dc,dx,o,k,j,F,hs,hl,ie,ek,fh,q⟩:=h;have hz:∀n:Nat,n<1000->n<=sizeLine:=fun n h=>by rw[fV];lia
 refine kU hs ie ek c0 (by decide) ?_;refine kU hs ie ek c1 (by decide) ?_;refine kU hs ie ek c2 (by decide) ?_;refine kU hs ie ek c3 (by decide) ?_;refine⟨hz _ (by simp),fun a1 h1=>?_⟩;have get:∀{τ:L2.St}{i:Nat}{v:V},τ.length=4->i<4->(τ.set i (some v))[i]?=some (some v):=fun hl hi=>by rw[jZ (by lia)]
 have gne:∀{τ:L2.St}{i k:Nat}{v:V}{w:a0 V},i≠k->τ[k]?=some w->(τ.set i (some v))[k]?=some w:=fun hn h=>by rw[hX hn];exact h
 have hs1:=gne (i:=3) (v:=.ref a1) (by decide) hs;have hl1:(O.set 3 (some (V.ref a1))).length=4:=by rw[fU];exact hl
 have ie1:=ie.new (u:=.lst [.bl (decide (0=j)),.bl (decide (1=j)),.bl (decide (2=j)),.bl (decide (3=j))]) h1;have T1:=(Step.refl fh).newH (o:=.lst [.bl (decide (0=j)),.bl (decide (1=j)),.bl (decide (2=j)),.bl (decide (3=j))]) h1;have gk:=get (i:=3) (v:=.ref a1) hl (by decide);refine⟨_,gk,?_⟩;refine kU hs1 ie1 ek c4 (by decide) ?_;refine kU hs1 ie1 ek c5 (by decide) ?_;refine kU hs1 ie1 ek c6 (by decide) ?_;refine kU hs1 ie1 ek c7 (by decide) ?_;refine⟨hz _ (by simp),fun a2 h2=>?_⟩;refine⟨a1,a2,_,_,rfl,rfl,(aR (cS bN h2)).trans bN,bN,hz _ (by simp),fun a3 h3=>?_⟩;generalize hH1:L2.aL H a1 (.lst [.bl (decide (0=j)),.bl (decide (1=j)),.bl (decide (2=j)),.bl (decide (3=j))])=H1 at *;have ie2:=(ie1.new (u:=.lst [.bl (decide (4=j)),.bl (decide (5=j)),.bl (decide (6=j)),.bl (decide (7=j))]) h2);have T2:=T1.newH (o:=.lst [.bl (decide (4=j)),.bl (decide (5=j)),.bl (decide (6=j)),.bl (decide (7=j))]) h2;generalize hH2:L2.aL H1 a2 (.lst [.bl (decide (4=j)),.bl (decide (5=j)),.bl (decide (6=j)),.bl (decide (7=j))])=H2 at *;generalize hO1:O.set 3 (some (V.ref a1))=O1 at *;have hs2:=gne (i:=3) (v:=.ref a3) (by decide) hs1;have hl2:(O1.set 3 (some (V.ref a3))).length=4:=by rw[fU];exact hl1
 have gk2:=get (i:=3) (v:=.ref a3) hl1 (by decide);refine⟨_,gk2,.inl ⟨rfl,_,SqL.of bN⟩,?_⟩;refine kU hs2 (ie2.new h3) ek c8 (by decide) ?_;refine⟨a3,_,_,rfl,rfl,bN,hz _ (by simp),?_⟩;rw[vA];have ie3:=ie2.new (u:=.lst (kR j)) h3;have T3:=T2.newH (o:=.lst (kR j)) h3;show tSeq _ _ D (O1.set 3 (some (V.ref a3))) (L2.aL H2 a3 (.lst (kR j)));generalize hH3:L2.aL H2 a3 (.lst (kR j))=H3 at *;have q3:H3 a3=some (.lst (kR j)):=by rw[<-hH3];exact bN
 generalize hO2:O1.set 3 (some (V.ref a3))=O2 at *;refine⟨1,rfl,hz _ (by simp),fun a4 h4=>?_⟩;have ie4:=ie3.new (u:=.tup [.str "refused",.int (-1),.int 0]) h4;have T4:=T3.newH (o:=.tup [.str "refused",.int (-1),.int 0]) h4;have q4:L2.aL H3 a4 (.tup [.str "refused",.int (-1),.int 0]) a3=some (.lst (kR j)):=(aR (cS q3 h4)).trans q3;have hs3:=gne (i:=1) (v:=.ref a4) (by decide) hs2;have gk3:=gne (i:=1) (v:=.ref a4) (by decide) gk2;have hl3:(O2.set 1 (some (V.ref a4))).length=4:=by rw[fU];exact hl2
 refine⟨a,Dc,dx,o,k,j,a3,hs3,gk3,ie4,ek,q4,fun F' G' p T5 hp=>?_⟩;refine q _ _ p (by rw[fU];exact hl3) (get hl3 (by decide)) ?_;have T6:Step F H F G':=⟨T4.hh.trans T5.hh,Same.refl F,T4.fh.trans (T5.ff.trans T5.fh),fun _ z=>.inl z⟩;exact T6.new hp
end
abbrev mkd(X:Cx)(e:Value):Cx:={X with A:=X.A.mark (some e),calm:=false,xe:=fun _ _=>False}
def XM(ok:X.Ok):(mkd X e).Ok :=
 ⟨ok.mod,ok.kind,ok.glob,ok.blt,ok.above,ok.inj,ok.has,ok.cab,(fun z=>nomatch z),ok.frames,ok.stk,ok.exf,ok.bs,ok.bsz,ok.noex,ok.exfs,ok.funs,ok.frf⟩
def GB(I:Inv X pj O H s):Inv (mkd X e) pj O H s:=⟨XM I.ok,I.os,I.bare,I.base,I.loc,I.cell,I.free,I.freeC,I.pin,I.hok,I.len⟩
def XN(ok:X.Ok)(I:Inv (mkd X e) pj O H s):Inv X pj O H s:=⟨ok,I.os,I.bare,I.base,I.loc,I.cell,I.free,I.freeC,I.pin,I.hok,I.len⟩
theorem XO(I:Inv X pj O H s)(hN:X.N.Nodup)(hi:X.N[i]?=some x)(hn:s.heap.Ns X.env.locals m)(hm:∀(i:Nat)(x:Str)(v:V),X.N[i]?=some x->O[i]?=some (some v)->Vis X.env.scope x->∃u,aG v u/\Look X.env s.heap m x u)(hn2:h'.Ns X.env.locals (fun y=>if y=x then v else m y))(sb:Heap.SameBut X.env.locals s.heap h'):Inv X pj (O.set i none) H {s with heap:=h',toks:=t'}:=by
 have ne0:∀b o,X.s₀.heap.get? b=some o->b≠X.env.locals:=fun b o e=>cL (dS (bI e) I.ok.above);have nt:∀{b:Addr}{u:HO},H b=some u->b≠X.env.locals:=fun e=>cS e I.free;have ck:∀{y:Str}{c:Addr}{w:a0 Value},X.env.cells.lookup y=some c->s.heap.IsCell c w->h'.IsCell c w:=fun hc ⟨o,e,d⟩=>⟨o,(sb.2 _ (I.cne _ _ hc)).trans e,d⟩;refine⟨I.ok,I.os,I.bare,⟨fun b o e n hb hx=>(sb.2 b (ne0 b o e)).trans (I.base.keep b o e n hb hx),fun b o e n hb hx=>?_,I.base.free,fun b o e hx=>?_,I.base.tups,I.base.frzs,I.base.tbls⟩,⟨_,hn2,fun j y w h1 h2 h3=>?_⟩,fun y c hc=>?_,I.free,I.freeC,fun p hp=>?_,fun b u e=>?_,by rw[fU];exact I.len⟩
 .obtain⟨sl,q⟩:=I.base.slot b o e n hb hx;exact⟨sl,(sb.2 b (ne0 b o e)).trans q⟩
 .obtain⟨o2,q⟩:=I.base.there b o e hx;exact⟨o2,(sb.2 b (ne0 b o e)).trans q⟩
 .rcases gR h2 with⟨_,z⟩|⟨nj,h2⟩
  .cases z
  .have ny:y≠x:=fun z=>nj (vB hN h1 (by rw[z];exact hi));obtain⟨u,r,l⟩:=hm j y w h1 h2 h3;refine⟨u,r,?_⟩;rcases l with⟨k,l⟩|⟨k,c,hc,l⟩
   .exact .inl ⟨k,(if_neg ny).trans l⟩
   .exact .inr ⟨k,c,hc,ck hc l⟩
 .obtain⟨w,z⟩:=I.cell y c hc;exact⟨w,ck hc z⟩
 .obtain⟨e,n,ne,r⟩:=I.pin p hp;exact⟨(sb.2 _ ne).trans e,n,ne,r⟩
 .refine(I.hok b u e).stay (fun c w hc q=>?_) (fun _ q=>q) fun _ _ q=>q;rcases hc with rfl|hc
  .exact(sb.2 _ (nt e)).trans q
  .exact(sb.2 _ (nt hc)).trans q
theorem sf{M:Model}{A:Around}{E:Vq}{Q:Unit->Shared->Prop}(fl:Flown s.heap a C dx o)(h:∀h',(∀b u,s.heap.get? b=some u->h'.get? b=some u)->Q () {s with heap:=h'}):wpAny M A (setFlight (.ref a) none) Q E s:=by
 obtain⟨e0,_,_,vs,hv,hz,ht⟩:=fl;unfold setFlight;rcases ht with ht|⟨T,oT,ts,h1,h2,h3,h4,h5⟩
 .refine aF (eM e0 hv ht ?_);rw[if_neg (by decide)];exact aQ (h s.heap fun _ _ q=>q)
 .refine aF (eM e0 hv h1 ?_);rw[if_pos (show(Value.ref T != Value.none)=true from by simp)];refine wpAny_setField h3 h4 (Array.getElem?_eq_some_iff.mp h5).1 (h _ fun b u q=>?_);by_cases hb:b=T
  .subst hb;rw[h3]at q;cases q;rw[Heap.get?_update_self _ h3 (Obj.isFreed_of_fields (jJ h4 _))];obtain⟨c,d,dt,sl⟩:=oT;cases h4;obtain⟨l1,l2⟩:=Array.getElem?_eq_some_iff.mp h5;have:ts.setIfInBounds 3 Value.none=ts:=by rw[<-l2];simp[Array.setIfInBounds,l1]
   simp[Obj.mapFields,this]
  .rw[Heap.get?_update_other _ _ (Ne.symm hb)];exact q
def GC(X:Cx)(cs:List Addr)(D:Ends):XK:=fun c d H1=>∃Dc dx k j F1,c=.ref Dc/\d=some dx/\H1 dx=some (.xd [("at",.int k)])/\EK X.K cs Dc j/\Same F1 H1 /\
 ∀O' H' p,O'.length=4->O'[1]?=some (some (.ref p))->Step F1 H1 (L2.aL F1 p (.tup [.str "refused",.int j,.int k])) H'->D.nx O' H'
theorem XQ(hs:X.stack=X.env::X.outer)(hf:X.env.frame=some X.env.locals)(t:∀e,TK (mkd X e) cs)(so:tS (k0::ks))(gD:Gl X "DealError")(mD:X.mg "DealError"=some (.ref DE))(ex:W.exmOne X.K (.ref C) (.ref DE)=some true)(I:Inv X pj O H s)(hl:O.length=4)(ha:H a=some (exO a o))(fl:Flown s.heap a C dx o)(q:∀o',GC X cs D (.ref C) (some dx) (L2.aL H a (exO a o'))):wpAny (model X.prog X.w) X.A (noteFrame (.ref a) X.env) (fun _ s2=>wpAny (model X.prog X.w) X.A (setFlight (.ref a) none) (fun _ s3=>wpAny (model X.prog X.w) X.A (handleBy (.ref a) X.env [.ExceptHandler (some (.Name "DealError" pt)) (some "e") (k0::ks) ph]) (SP X pj D) X.xe s3) X.xe s2) X.xe s:=by
 have fr:=I.ok.frames;have st:=I.stack;have sf0:=I.stkFree;rw[hs]at fr st;refine nf fr st hf fl fun h1 o1 fl1 k1 k2=>?_;rw[<-hs]at k1;have I1:Inv X pj O (L2.aL H a (exO a o1)) {s with heap:=h1}:=I.call' (s':={s with heap:=h1}) rfl (BZ (fs:=frs X.stack) ha fl1.ob k1 k2) (CA I.hok ha sf0 fl1.ob k1) I.bare (fun b z=>absurd z (by simp));have q1:=q o1;have ha1:L2.aL H a (exO a o1) a=some (exO a o1):=bN;generalize L2.aL H a (exO a o1)=H1 at *;have kind:(X.env.scope.kind==.class||(X.env.scope.kind==.module&&X.env.locals != X.env.globals))=false:=by rw[I.ok.kind];rfl
 have tk:=t (.ref a);refine wpAny_handleBy_cons (codeAny_handlers_test (thn (oY (X:=mkd X (.ref a)) (Q:=fun c s1=>c=.ref DE/\s1={s with heap:=h1}) (GB I1) gD mD ⟨rfl,rfl⟩) fun c s1 ⟨e1,e2⟩=>?_)) (by intro z;cases z);subst e1 e2;have ty:∀M,W.Looks M h1 (typeOf (.ref a)) (.ref C):=fun M=>fl1.cl▸(W.Looks.ld fl1.ob).andThen .now;refine((W.exm_one I1.kIn (ty _) ex).here ?_);refine codeAny_handlers_suite_as (sf (s:={s with heap:=h1}) fl1 fun h2 k3=>?_);have I2:Inv X pj O H1 {s with heap:=h2,toks:=s.toks}:=I1.kept k3;refine vC (X:=mkd X (.ref a)) (i:=2) (v:=.ref a) (GB I2) tk.nd (by rw[tk.N];rfl) (.inl (tk.lo _ (by decide))) rfl (fun s3 I3=>?_) (.inr (tk.lo _ (by decide)));obtain⟨Dc,dx',k,j,F1,e1,e2,hx,ek,fh,qn⟩:=q1;cases e1;cases e2;have ie:IsEr H1 a C dx o1 (.int k):=⟨ha1,fl1.cl,fl1.di,let⟨vs,hv,_⟩:=fl1.tr;⟨vs,hv⟩,hx⟩;have gs:(O.set 2 (some (V.ref a)))[2]?=some (some (V.ref a)):=by rw[jZ (by lia)]
 refine gK (so tk pj s3 _ H1 {nx:=fun O' H'=>D.nx (O'.set 2 none) H' ,rt:=fun _ _=>False} I3 ⟨a,C,dx,o1,k,j,F1,gs,by rw[fU];exact hl,ie,ek,fh,fun O' H' p g1 g2 T=>?_⟩) (fun f s4 z=>?_) fun x s4 z=>z.elim
 .exact qn _ H' p (by rw[fU];exact g1) (by rw[hX (by decide)];exact g2) T
 .cases f with
  |next=>obtain⟨O',H',I4,z⟩:=z;have I5:=XN I.ok I4;obtain⟨m,hn,hm⟩:=I5.loc;refine wpAny_nameGoes_keeps (tk.lo "e" (by decide)) hn kind fun h5 v hn5 sb=>?_;exact⟨_,H',XO I5 tk.nd (by rw[show X.N=toldN from tk.N];rfl) hn hm hn5 sb,z⟩
  |ret u=>obtain⟨_,_,_,_,_,z⟩:=z;exact z.elim
  |brk=>obtain⟨_,_,_,z⟩:=z;exact z.elim
  |cont=>obtain⟨_,_,_,z⟩:=z;exact z.elim
def xS(X:Cx)(i:Nat)(E:XK):TE:=fun O H Q=>∃f n q lp lb ls cl pm cd ctv,O[i]?=some (some (.ref f))/\∀pj s,Inv X pj O H s->s.heap.get? f=some (W.kla_obj n q lp lb ls cl pm cd ctv) /\
 codeAny (model X.prog X.w) X.A (.call (.ref f) ⟨[],[]⟩) (CR (CX1 X.prog X.w) X.stack X.prog X.w H s Q E) s
theorem XR{E:XK}(hN:X.N[i]?=some x)(hv:Vis X.env.scope x)(hx:lL (CX1 X.prog X.w) X E)(hd:(x==("__debug__":Str))=false:=by decide)(hcd:(x==("__classdict__":Str))=false:=by decide):
  PE X (.Call (.Name x p) [] [] pos) (xS X i E):=by
 rintro pj s O H Q I⟨f,n,q,lp,lb,ls,cl,pm,cd,ctv,h1,h2⟩;refine wpAny_Call_Name_kw (thn (kI hN hv hd hcd pj s O H (fun v H1=>v=V.ref f/\H1=H) I ⟨_,h1,rfl,rfl⟩) fun u s1 ⟨v,H1,I1,rv,e1,e2⟩=>?_);subst e1 e2;obtain rfl:u=.ref f:=rv;obtain⟨g1,g2⟩:=h2 pj s1 I1;refine W.callWith_of (P:=fun h=>h.get? f=some (W.kla_obj n q lp lb ls cl pm cd ctv)) rfl (fun h e=>⟨.frame,.inl rfl,(W.Looks.ld (part:=none) e).andThen .now⟩) (PyProof.Rows.evalArgs_none ?_);refine⟨g1,wpAny_call (codeAny_mono g2 fun r s' hq=>?_)⟩;cases r with
 |error e=>exact hx pj O _ _ e s' I1 hq
 |ok fl=>
  cases fl with
  |ret u=>exact I1.after hq
  |next=>exact False.elim hq
  |brk=>exact False.elim hq
  |cont=>exact False.elim hq
def GD(D:Ends):VK:=fun v H1=>∀p,H1 p=none->D.rt (.ref p) (L2.aL H1 p (.tup [.str "told",v]))
def xU(X:Cx)(cs:List Addr)(DE:Addr)(D:Ends):XK:=fun c d H1=>W.exmOne X.K c (.ref DE)=some true/\GC X cs {nx:=fun O' H'=>∃v,O'[1]?=some (some v)/\D.rt v H',rt:=fun _ _=>False} c d H1
theorem XS(hs:X.stack=X.env::X.outer)(hf:X.env.frame=some X.env.locals)(t:∀e,TK (mkd X e) cs)(so:tS (k0::ks))(gD:Gl X "DealError")(mD:X.mg "DealError"=some (.ref DE))(I:Inv X [] O H s)(hl:O.length=4)(h:∀E,xS (X.wish E) 0 (xU X cs DE D) O H (GD D)):wpAny (model X.prog X.w) X.A (execs [.Try [.Assign [.Name "_law_found" q0] (.Tuple [.Constant (.str "told") 0 q1,.Call (.Name "_law_deed_here" q2) [] [] q3] 0 q4) q5] [.ExceptHandler (some (.Name "DealError" pt)) (some "e") (k0::ks) ph] [] [] q6,.Return (some (.Name "_law_found" q7)) q8] X.env) (SP X [] D) X.xe s:=by
 have tN:X.N=toldN:=(t .none).N;have tl:∀x∈toldN,X.env.scope.names.lookup x=some .local:=(t .none).lo;have nd:X.N.Nodup:=by rw[tN];decide
 have g:∀{i:Nat}{x:Str},toldN[i]?=some x->X.N[i]?=some x:=fun e=>by rw[tN];exact e
 let D1:Ends:={nx:=fun O' H'=>∃v,O'[1]?=some (some v)/\D.rt v H',rt:=fun _ _=>False}
 refine wpAny_execs_cons (thn (Q:=SP X [] D1) (wpAny_Try_except ?_) fun f s1 z=>?_)
 .let XE:Value->Shared->Prop:=fun e s1=>wpAny (model X.prog X.w) X.A (noteFrame e X.env) (fun _ s2=>wpAny (model X.prog X.w) X.A (setFlight e none) (fun _ s3=>wpAny (model X.prog X.w) X.A (handleBy e X.env [.ExceptHandler (some (.Name "DealError" pt)) (some "e") (k0::ks) ph]) (SP X [] D1) X.xe s3) X.xe s2) X.xe s1
  have ps:lL (CX1 X.prog X.w) (X.wish XE) (xU X cs DE D):=by rintro pj O' H' s' e s2 I' ⟨a,C,dx,o,H2,e1,os,bare,un,hok,ha,fl,q⟩;subst e1;have J:Inv X pj O' H2 s2:=I'.unwish.call' os un hok bare (fun b z=>absurd z (by simp));have J0:Inv X [] O' H2 s2:=J.pins_of (pins':=[]) fun p z=>absurd z (by simp);exact XQ hs hf t so gD mD (q o).1 J0 (by rw[J0.len,tN];rfl) ha fl fun o'=>(q o').2
  have pb:=lK (X:=X.wish XE) (pos:=q5) (pos':=q0) (i:=1) nd (g rfl) (.inl (tl _ (by decide))) (rM (x1:=0) (pos:=q4) (cU (oX (x:="told") (j:=0) (pos:=q1)) (cU (XR (p:=q2) (pos:=q3) (i:=0) (g rfl) (.inl (tl "_law_deed_here" (by decide))) ps) gE))) rfl (.inr (tl _ (by decide)));refine thn (oZ pb [] s O H D1 (I.wish XE) ?_) fun f s1 z=>?_
  .obtain⟨f,n,q,lp,lb,ls,cl,pm,cd,ctv,h1,h2⟩:=h XE;refine⟨f,n,q,lp,lb,ls,cl,pm,cd,ctv,h1,fun pj s I'=>⟨(h2 pj s I').1,codeAny_mono (h2 pj s I').2 fun r s' z=>?_⟩⟩;cases r with
   |error e=>exact z
   |ok fl=>
    cases fl with
    |ret u=>obtain⟨v,H2,a1,a2,a3,a4,a5,a6⟩:=z;refine⟨v,H2,a1,a2,a3,a4,a5,by rw[fV];simp,fun p hp=>⟨.ref p,?_,a6 p hp⟩⟩;rw[jZ (by lia)]
    |next=>exact z.elim
    |brk=>exact z.elim
    |cont=>exact z.elim
  .have z:=z.unwish;cases f with
   |next=>exact wpAny_execs_nil z
   |ret u=>exact z
   |brk=>exact z
   |cont=>exact z
 .cases f with
  |next=>obtain⟨O',H',I2,v,hv,q⟩:=z;exact oZ (AM (pos:=q8) (kI (pos:=q7) (i:=1) (g rfl) (.inl (tl "_law_found" (by decide))))) [] s1 O' H' D I2 ⟨v,hv,q⟩
  |ret u=>obtain⟨_,_,_,_,_,z⟩:=z;exact z.elim
  |brk=>obtain⟨_,_,_,z⟩:=z;exact z.elim
  |cont=>obtain⟨_,_,_,z⟩:=z;exact z.elim
section
variable {x:Str}
def ErW(P:Program)(w:World)(K:W.Frag)(mg:Mq)(base:Heap)(x:Str):Prop :=
 ∃(C fI:Addr)(fd:FuncData)(k y:Str)(N:Addr)(b l:List Value)(hd:Bool)(s8:List Str)(sub:List Value)(ab:Bool)(cl:a0 Bool)(dd:a0 Addr)(k0 k1 k2 k3 k5:a0 Value)(d:Value),
  mg x=some (.ref C)/\K.lookup C=some (excClassObj k y C N b l hd s8 sub ab cl dd k0 k1 k2 k3 k5 "ValueError.__new__")/\Mr "ValueError" l/\W.keepIn K (.ref C)=true/\(∀h,K.In h->Ini h C fI)/\XC K C /\
  W.findIn K (.ref C) "at"=some none/\FnOk P w K mg base CX0 1 fI fd ["self", "words", "at"] (vR K)/\Binds K fd ["self", "words", "at"] [d]/\aG (.int 0) d
def tT(mg:Mq)(F H:Hp)(E:XK)(x:Str×Int):Prop:=∀C dx F' H',mg x.1=some (.ref C)->Step F H F' H'->H' dx=some (.xd [("at",.int x.2)])->E (.ref C) (some dx) H'
def spX(K:W.Frag)(mg:Mq)(g:List T->a0 (Str×Int)):Sp:=fun vs H _ E=>∃F ts x,Same F H/\Tbk K F H/\aH K F ts vs/\g ts=some x/\tT mg F H E x
def spR(X:Cx)(F0 H0:Hp)(E:XK)(g:List Sl->a0 (Str×Int)):TS:=fun _ O H=>∃τ F x,EnvS X F0 H0 τ O F H/\g τ=some x/\tT X.mg F0 H0 E x
structure Lv(X:Cx)(E:XK):Prop where
 hs:X.stack=X.env::X.outer
 hf:X.env.frame=some X.env.locals
 ex:X.ex=[]
 xe:X.xe=fun e s'=>wpAny (model X.prog X.w) X.A (leaving X.env e) (fun _ s2=>CX1 X.prog X.w X.outer X.H₀ X.s₀ E e s2) (fun e2 s2=>CX1 X.prog X.w X.outer X.H₀ X.s₀ E e2 s2) s'
theorem upd3(h:dx≠e):L2.aL (L2.aL (L2.aL (L2.aL H e a) e b) dx c) e d=L2.aL (L2.aL H dx c) e d:=by
 funext x;unfold L2.aL;by_cases h1:x=e
 .rw[if_pos h1,if_pos h1]
 .rw[if_neg h1,if_neg h1];by_cases h2:x=dx
  .rw[if_pos h2,if_neg h1,if_pos h2]
  .simp only[if_neg h1,if_neg h2]
def XT{X:Cx}{F0 H0 F H:Hp}{τ:List Sl}{O:L2.St}(e:EnvS X F0 H0 τ O F H):EnvS X.nox F0 H0 τ O F H:=⟨e.st,e.t0,e.len,e.val,e.ownG,e.disG⟩
def XU{X:Cx}{F0 H0 F H:Hp}{τ:List Sl}{O:L2.St}(e:EnvS X.nox F0 H0 τ O F H):EnvS X F0 H0 τ O F H:=⟨e.st,e.t0,e.len,e.val,e.ownG,e.disG⟩
def XV{X:Cx}{st:Stmt}{t:TS}(h:PS X.nox st t):PS X st t:=fun pj s O H D I hw=>gK (h pj s O H D (I.wish _) hw) (fun _ _ q=>q.unwish) fun _ _ z=>False.elim z
section
variable {X:Cx}{c:Tc}{G:Glo}{k n:Nat}{F0 H0:Hp}{E:XK}
theorem XW{w:Str}{j:Nat}{p q p1 p2:Pos}(lv:Lv X E)(ew:ErW X.prog X.w X.K X.mg X.base x)(hr:Room 2 X.A)(hg:Gl X x)(hd:(x==("__debug__":Str))=false):PS X (.Raise (some (.Call (.Name x p) [.Constant (.str w) j q] [] p1)) none p2) (spR X F0 H0 E fun _=>some (x,0)):=by
 obtain⟨C,fI,fd,kk,y,N,b,l,hdd,s8,sub,ab,cl,dd,k0,k1,k2,k3,k5,d,m1,m2,m3,m4,m5,m6,m7,m8,m9,m10⟩:=ew;refine jR (OS m6 hr.hd (OU (n:=1) (dvs:=[.int 0]) (E:=E0) m2 m3 m4 m5 m8 hr hg m1 m9 (.cons m10 .nil) BR (cU oX gE) hd)) fun D O H h=>?_;obtain⟨τ,F,z,en,e1,hw⟩:=h;cases e1;refine⟨by rw[fV];simp,fun e z he hz=>⟨e,C,z,_,_,rfl,m6,m7,bN,fun z' dx hz' hdx ne=>⟨rfl,e,z',some dx,rfl,bN,fun pj s I=>?_⟩⟩⟩;rw[lv.xe];have hx:H dx=none:=by rw[<-hdx,aR ne]
 refine CB lv.hs lv.hf lv.ex I bN ⟨nR I.hok bN,rfl,rfl,_,rfl,by simp,.inl rfl⟩ fun o'=>?_;rw[vA,upd3 ne];refine hw C dx F _ m1 ((en.st.newH hx).newH (by rw[aR (Ne.symm ne)];exact he)) (by rw[aR ne];exact bN)
end
def XX{a b:a0 Expr}(h:raiC a b=some x):∃p w j q p1,a=some (.Call (.Name x p) [.Constant (.str w) j q] [] p1)/\b=none/\clsN.contains x=true:=by obtain⟨z,_,rfl⟩:=oms h;exact z.2
theorem XY(h:clsN.contains x=true):(x==("__debug__":Str))=false:=by rw[List.contains_iff_mem]at h;revert x;decide
section
variable {X:Cx}{c:Tc}{G:Glo}{k n:Nat}{F0 H0:Hp}{E:XK}
theorem GE(lv:Lv X E)(gd:Gd X c G k)(gn:Gd X.nox c G k)(fx:Fx X.nox c)(tl:Tl X.nox c G)(hr:Room 2 X.A)(ew:∀x,clsN.contains x=true->glB c.sc x=true->ErW X.prog X.w X.K X.mg X.base x)(kx:∀f ts x,G.exc f ts=some x->∃m ad fd ps,FnOk X.prog X.w X.K X.mg X.base (CX1 X.prog X.w) m ad fd ps (spX X.K X.mg (G.exc f))/\Room m X.A/\X.mg f=some (.ref ad)/\W.keepIn X.K (.ref ad)=true/\Binds X.K fd ps []):∀(sts:List Stmt)(rs:List R1),dP (trR n c) sts=some rs->PSs X sts (spR X F0 H0 E (hJ G rs))
 |[],rs,h=>fun pj s O H D I q=>by cases h;obtain⟨τ,F,x,en,hf,hw⟩:=q;cases hf
 |st::sts,rs,h=>by
  obtain⟨r,h1,h⟩:=obs h;obtain⟨rr,h2,h⟩:=obs h;cases h;have ih:=GE lv gd gn fx tl hr ew kx sts rr h2;have now:∀{g:List Sl->a0 (Str×Int)},PS X st (spR X F0 H0 E g)->PSs X (st::sts) (spR X F0 H0 E g):=fun{g}hp pj s O H D I q=>
   wpAny_execs_cons (thn (hp pj s O H {nx:=fun _ _=>False,rt:=fun _ _=>False} I q) fun f s1 z=>by
    cases f with
    |next=>obtain⟨_,_,_,z⟩:=z;exact z.elim
    |ret _=>obtain⟨_,_,_,_,_,z⟩:=z;exact z.elim
    |brk=>obtain⟨_,_,_,z⟩:=z;exact z.elim
    |cont=>obtain⟨_,_,_,z⟩:=z;exact z.elim)
  have later:∀{sS:S},PS X.nox st (spS X.nox F0 H0 (evS G sS))->∀{pj:Pq}{s:Shared}{O:L2.St}{H:Hp}{D:Ends}{τ τ':List Sl}{F:Hp}{x:Str×Int},Inv X pj O H s->EnvS X F0 H0 τ O F H->evS G sS τ=some (.nx τ')->hJ G rr τ'=some x->tT X.mg F0 H0 E x->
    wpAny (model X.prog X.w) X.A (execs (st::sts) X.env) (SP X pj D) X.xe s:=fun{sS}hp{pj s O H D τ τ' F x}I en he hx hw=>
   wpAny_execs_cons (thn (XV hp pj s O H {nx:=spR X F0 H0 E (hJ G rr) D,rt:=fun _ _=>False} I ⟨τ,F,_,XT en,he,fun O' F' H' en' _=>⟨τ',F',x,XU en',hx,hw⟩⟩) fun f s1 z=>by
    cases f with
    |next=>obtain⟨O',H',I',z⟩:=z;exact ih pj s1 O' H' D I' z
    |ret _=>obtain⟨_,_,_,_,_,z⟩:=z;exact z.elim
    |brk=>obtain⟨_,_,_,z⟩:=z;exact z.elim
    |cont=>obtain⟨_,_,_,z⟩:=z;exact z.elim)
  have nrm:(trS n c st).map R1.nrm=some r->PSs X (st::sts) (spR X F0 H0 E (hJ G (r::rr))):=fun h pj s O H D I q=>by
   obtain⟨sS,h3,e⟩:=oms h;subst e;obtain⟨τ,F,x,en,hf,hw⟩:=q;rw[hJ]at hf;obtain⟨o,g1,g2⟩:=obs hf;cases o with
   |nx τ'=>exact later ((tR gn fx tl n).1 _ _ h3) I en g1 g2 hw
   |rt t=>cases g2
  cases st with
  |Raise a b pos=>
   obtain⟨x,h3,h4⟩:=obs h1;split at h4
   .rename_i hg;cases h4;obtain⟨p,w,j,q,p1,rfl,rfl,hc⟩:=XX h3;have e:hJ G (.fail x::rr)=fun _=>some (x,0):=by funext τ;rw[hJ]
    rw[e];exact now (XW lv (ew x hc hg) hr (gd.gl x hg) (XY hc))
   .cases h4
  |_=>exact nrm h1
end
end
end Ev.Ex
namespace Ev
open PySem Spec PyProof.Rows L2
theorem GF:∀(ps:List Str)(us:List Value),us.length=ps.length->∀n∈ps,((ps.zip us).lookup n).isNone=false
 |p::ps,u::us,hl,n,hn=>by
  rw[List.zip_cons_cons,gX];cases e:n==p with
  |true=>rfl
  |false=>exact GF ps us (by simpa using hl) n ((omc hn).resolve_left fun z=>by subst z;simp at e)
theorem GG:∀(ps:List Str)(us:List Value),us.length=ps.length->ps.Nodup->ps.filterMap (fun n=>((ps.zip us).lookup n).map (n,·))=ps.zip us
 |[],us,_,_=>by cases us<;>rfl
 |p::ps,u::us,hl,hn=>by
  rw[gH]at hn;rw[List.zip_cons_cons,jK,gX,mE];simp only[cT];congr 1;refine Eq.trans (CU fun n h=>?_) (GG ps us (by simpa using hl) hn.2);rw[gX];cases e:n==p with
  |true=>rw[cK e]at h;exact absurd h hn.1
  |false=>rfl
theorem xV(h:fd.params=⟨[],as,none,[],[],none,[]⟩)(hd:fd.defaults=.none)(hn:(as.map (·.arg)).Nodup)(hl:us.length=(as.map (·.arg)).length):bindArgs fd ⟨us,[]⟩=pure ((as.map (·.arg)).zip us):=by
 have e1:((as.map (·.arg)).filter fun n=>(((as.map (·.arg)).zip us).lookup n).isNone)=[]:=List.filter_eq_nil_iff.mpr fun n hn=>by rw[GF _ us hl n hn];simp
 have e2:=GG _ us hl hn;have e3:seqItems? Value.none=(pure none:Sem _):=rfl;unfold bindArgs;rw[h,hd];dsimp only;generalize as.map (·.arg)=ps at hn hl e1 e2 ⊢;simp only[aZ,List.nil_append,List.append_nil,List.forIn_nil,pure_bind,e3,Option.getD_none,List.length_nil,hl,gt_iff_lt,Nat.lt_irrefl,decide_false,Bool.false_and,Bool.false_eq_true,if_false,Nat.zero_sub,List.drop_zero,Nat.sub_zero,List.take_length,e1,List.isEmpty_nil,Bool.not_true,List.drop_length,List.zip_nil_left,e2]
 done
def del(H:Hp)(c:Addr):Hp:=fun b=>if b=c then none else H b
def GH:del H c c=none:=by unfold del;rw[if_pos rfl]
def GI(h:b≠c):del H c b=H b:=by unfold del;rw[if_neg h]
theorem XZ(h:del H c b=some u):b≠c/\H b=some u:=by
 by_cases hb:b=c
 .subst hb;rw[GH]at h;cases h
 .rw[GI hb]at h;exact⟨hb,h⟩
abbrev lab(o:Obj):HO:=.frz o (.own 0)
end Ev
namespace Ev.Ex
open PySem Spec PyProof.Rows L2
theorem YA:∀(n:Nat)(l:List Value),l.length<=n->TriplesOk l->codeAmong pos (l++[rawInt i,rawInt j,c])=some cv->codeAmong pos l=some cv\/cv=c:=by
 intro n
 induction n with
 |zero=>
  intro l hl ht h;obtain rfl:l=[]:=List.length_eq_zero_iff.mp (by lia);have h:(if(i==pos.line&&j==pos.col)=true then some c else codeAmong pos [])=some cv:=h;split at h
  .cases h;exact .inr rfl
  .exact .inl h
 |succ n ih=>
  intro l hl ht h;unfold TriplesOk at ht;split at ht
  .have h:(if(i==pos.line&&j==pos.col)=true then some c else codeAmong pos [])=some cv:=h;split at h
   .cases h;exact .inr rfl
   .exact .inl h
  .rename_i a s b t d rest;have h:(if(a==pos.line&&b==pos.col)=true then some d else codeAmong pos (rest++[rawInt i,rawInt j,c]))=some cv:=h;show(if(a==pos.line&&b==pos.col)=true then some d else codeAmong pos rest)=some cv\/cv=c;split at h
   .rename_i e;rw[if_pos e];exact .inl h
   .rename_i e;rw[if_neg e];exact ih rest (by simp at hl;lia) ht h
  .exact ht.elim
theorem YB:∀(n:Nat)(l:List Value),l.length<=n->TriplesOk l->TriplesOk (l++[rawInt i,rawInt j,c]):=by
 intro n
 induction n with
 |zero=>intro l hl ht;obtain rfl:l=[]:=List.length_eq_zero_iff.mp (by lia);exact trivial
 |succ n ih=>
  intro l hl ht;unfold TriplesOk at ht;split at ht
  .exact trivial
  .rename_i a s b t d rest;exact ih rest (by simp at hl;lia) ht
  .exact ht.elim
structure TabK(K:W.Frag)(mg:Mq)(cc p:Addr):Prop where
 tab:pU K=some p
 hd:∀h,K.In h->PySem.W.CodeHd h cc p
 bm:∀h,K.In h->h.BuiltinsAt mg p
abbrev tU:Arguments:=⟨[],[],none,[],[],none,[]⟩
abbrev lY(lb:Expr)(ls:Scope)(cl:List (Str×Addr))(pm:Value)(cd:Addr)(ctv:Value):Obj:=W.kla_obj "<lambda>" fY tU lb ls cl pm cd ctv
def spMk(lb:Expr)(ls:Scope)(X:Cx)(cl:List (Str×Addr)):TE:=fun O H Q=>∃F,Same F H/\Tbk X.K F H /\
 ∀(f cd:Addr)(pm ctv:Value)(oc:Obj)(vs:Array Value)(t:Nat)(H':Hp),Step F H F H'->H' f=some (lab (lY lb ls cl pm cd ctv))->H' cd=some (lab oc)->oc.data=.fields vs->vs[1]?=some (.str fY t)->Q (V.ref f) H'
theorem YC(fh:Same F H)(hF:F p=none)(hp:H p=some (.tbl ps))(ht:TriplesOk ps.toList)(hps:∀pos cv,codeAmong pos ps.toList=some cv->CdAt H cv)(hc:H cd=none)(hd:oc.data=.fields vs)(hv:vs[1]?=some (.str fY t)):Step F H F (aL (aL H p (.tbl (ps++#[rawInt i,rawInt j,.ref cd]))) cd (lab oc)):=by
 have hcp:p≠cd:=cS hp hc;have frz:∀a o u,H a=some (.frz o u)->aL (aL H p (.tbl (ps++#[rawInt i,rawInt j,.ref cd]))) cd (lab oc) a=some (.frz o u):=fun a o u e=>by rw[aR (cS e hc),aR (iM e hp (by intro z;cases z))];exact e
 refine⟨⟨fun b u q n=>?_,fun b q=>?_,fun b q=>?_,fun b qs q=>?_⟩,Same.refl F,fun b u q=>?_,fun a z=>.inl z⟩
 .rw[aR (cS q hc),aR (iM q hp (by intro z;subst z;cases n))];exact q
 .by_cases h1:b=cd
  .subst h1;exact hc
  .rw[aR h1]at q;by_cases h2:b=p
   .subst h2;rw[bN]at q;cases q
   .rw[aR h2]at q;exact q
 .by_cases hb:b=p
  .subst hb;refine⟨_,by rw[aR hcp];exact bN,?_,fun pos cv e=>?_⟩
   .rw[Array.toList_append];exact YB _ _ (bH _) ht
   .rw[Array.toList_append]at e;rcases YA _ _ (bH _) ht e with e|rfl
    .exact(hps pos cv e).up frz
    .exact⟨cd,oc,vs,t,rfl,bN,hd,hv⟩
  .obtain⟨qs,g1,g2,g3⟩:=q;exact⟨qs,by rw[aR (cS g1 hc),aR hb];exact g1,g2,fun pos cv e=>(g3 pos cv e).up frz⟩
 .by_cases hb:b=p
  .subst hb;exact⟨_,by rw[aR hcp];exact bN⟩
  .exact⟨qs,by rw[aR (cS q hc),aR hb];exact q⟩
 .have:=fh b u q;rw[aR (cS this hc),aR (cS q hF)];exact this
theorem YD(clo:closureFor ls X.env=pure cl)(hq:X.env.qual++"<lambda>"=fY)(hcode:X.env.code=.ref cc)(T:TabK X.K X.mg cc p):PE X (.Lambda tU lb ls pos) (spMk lb ls X cl):=by
 rintro pj s O H Q I⟨F,fh,tb,q⟩;obtain⟨hF,ps,hp,ht,hps⟩:=tb p T.tab;have hP:s.heap.get? p=some (PySem.W.tabObj ps):=I.hok p _ hp;have hg:=I.mod.glob.keeps I.bk;have hgP:mainGlobals≠p:=fun z=>by obtain⟨o,es,ep,e,hd,_⟩:=hg;rw[z,hP]at e;cases e;cases hd
 have hb:=T.bm _ I.kIn;have hC:=T.hd _ I.kIn;refine PySem.W.kla_eval rfl ?_;rw[hq];cases hca:codeAmong pos ps.toList with
 |some cv=>obtain⟨cd,oc,vs,t,rfl,g2,g3,g4⟩:=hps pos cv hca;refine PySem.W.kla_makeFunctionHit clo I.ok.glob hg hcode hC hP ht hca hb fun ctv h' tk hk hsz=>?_;show EP X pj O Q (.ref h'.objs.size) {s with heap:=h'.push (lY lb ls cl ((X.mg "__name__").getD .none) cd ctv),toks:=tk};generalize hlo:lY lb ls cl ((X.mg "__name__").getD .none) cd ctv=lo;have hk':∀b o,s.heap.get? b=some o->(h'.push lo).get? b=some o:=fun b o e=>aT _ (hk b o e);have hn:H h'.objs.size=none:=I.hok.fresh hsz;have hnew:(h'.push lo).get? h'.objs.size=some lo:=cQ _ (by rw[<-hlo];rfl);have un:Un (frs X.stack) [] H (aL H h'.objs.size (lab lo)) s.heap (h'.push lo):=Un.laid hk' hsz hn;have ok:HOk X.prog X.w (aL H h'.objs.size (lab lo)) (h'.push lo):=I.hok.laid hk' hsz ⟨hnew,_,hnew⟩;have J:=I.call (g':=s.gens) (d':=s.drawn) (t':=tk) un ok I.bare (fun b z=>absurd z (by simp));exact⟨V.ref h'.objs.size,_,J,rfl,q h'.objs.size cd ((X.mg "__name__").getD .none) ctv oc vs t _ ((Step.refl fh).newH (o:=lab lo) hn) (by rw[hlo];exact bN) (by rw[aR (cS g2 hn)];exact g2) g3 g4⟩
 |none=>
  refine PySem.W.kla_makeFunction clo I.ok.glob hg hcode hC hP ht hca hgP hb fun cd ctv h' tk hx hge hlt hrec htb=>?_;obtain⟨cd2,oc,vs,t,e2,hoc,hd,hv⟩:=hrec;cases e2;show EP X pj O Q (.ref h'.objs.size) {s with heap:=h'.push (lY lb ls cl ((X.mg "__name__").getD .none) cd ctv),toks:=tk};generalize hlo:lY lb ls cl ((X.mg "__name__").getD .none) cd ctv=lo;have hc0:H cd=none:=I.hok.fresh hge;have S1:=YC (i:=pos.line) (j:=pos.col) fh hF hp ht hps hc0 hd hv;have hsz:s.heap.objs.size<=h'.objs.size:=dY hge (Nat.le_of_lt hlt);have hn0:H h'.objs.size=none:=I.hok.fresh hsz;have hpf:p≠h'.objs.size:=cS hp hn0;have hcf:cd≠h'.objs.size:=cL hlt;have hcp:p≠cd:=cS hp hc0;generalize hH1:aL (aL H p (.tbl (ps++#[rawInt pos.line,rawInt pos.col,.ref cd]))) cd (lab oc)=H1 at S1;have e1:∀b,b≠p->b≠cd->H1 b=H b:=fun b h1 h2=>by rw[<-hH1,aR h2,aR h1]
  have e2:H1 p=some (.tbl (ps++#[rawInt pos.line,rawInt pos.col,.ref cd])):=by rw[<-hH1,aR hcp];exact bN
  have e3:H1 cd=some (lab oc):=by rw[<-hH1];exact bN
  have hn:H1 h'.objs.size=none:=by rw[e1 _ (Ne.symm hpf) (Ne.symm hcf)];exact hn0
  have hnew:(h'.push lo).get? h'.objs.size=some lo:=cQ _ (by rw[<-hlo];rfl);have k1:∀b o,b≠p->s.heap.get? b=some o->h'.get? b=some o:=fun b o hb e=>hx b o hb e;have old:∀{b:Addr}{u:HO},H b=some u->b≠p->H1 b=some u:=fun{b u}e hb=>by rw[e1 b hb (cS e hc0)];exact e
  have un1:Un (frs X.stack) [] H H1 s.heap h':=by
   refine⟨fun b o e n _ _=>k1 b o (fun z=>by subst z;rw[hp]at n;cases n) e,fun b o e n _ _=>⟨o.slots,k1 b o (fun z=>by subst z;rw[hp]at n;cases n) e⟩,fun b o e n _=>?_,fun b o e _=>?_,fun b xs e=>old e (iM e hp (by intro z;cases z)),fun b o u e=>old e (iM e hp (by intro z;cases z)),fun b qs e=>?_⟩
   .rw[e1 b (fun z=>by subst z;rw[hp]at n;cases n) (cL (dS (bI e) hge))];exact n
   .by_cases hb:b=p
    .subst hb;exact⟨_,htb⟩
    .exact⟨o,k1 b o hb e⟩
   .by_cases hb:b=p
    .subst hb;rw[hp]at e;cases e;exact⟨_,e2⟩
    .exact⟨#[],by rw[old e hb];simp⟩
  have ok1:HOk X.prog X.w H1 h':=fun b u e=>by
   by_cases hb:b=p
   .subst hb;rw[e2]at e;cases e;exact htb
   .by_cases hbc:b=cd
    .subst hbc;rw[e3]at e;cases e;exact⟨hoc,_,hoc⟩
    .rw[e1 b hb hbc]at e;exact(I.hok b u e).stay (fun b' o h1 h2=>k1 b' o (by
      rcases h1 with rfl|h1
      .exact hb
      .exact iM h1 hp (by intro z;cases z)) h2) (fun b' q=>old q (iM q hp (by intro z;cases z))) fun b' xs q=>old q (iM q hp (by intro z;cases z))
  have kp:∀b o,h'.get? b=some o->(h'.push lo).get? b=some o:=fun b o e=>aT _ e;have un:Un (frs X.stack) [] H (aL H1 h'.objs.size (lab lo)) s.heap (h'.push lo):=un1.trans (Un.laid kp (bH _) hn);have ok:HOk X.prog X.w (aL H1 h'.objs.size (lab lo)) (h'.push lo):=ok1.laid kp (bH _) ⟨hnew,_,hnew⟩;have J:=I.call (g':=s.gens) (d':=s.drawn) (t':=tk) un ok I.bare (fun b z=>absurd z (by simp));exact⟨V.ref h'.objs.size,_,J,rfl,q h'.objs.size cd ((X.mg "__name__").getD .none) ctv oc vs t _ (S1.newH (o:=lab lo) hn) (by rw[hlo];exact bN) (by rw[aR hcf];exact e3) hd hv⟩
def cxL(P:Program)(w:World)(K:W.Frag)(mg:Mq)(base:Heap)(N:List Str)(ls:Scope)(f:Addr)(cd:Value)(cl:List (Str×Addr))(A:Around)(outer:List PySem.Env)(s:Shared)(H:Hp)(E:XK):Cx where
 prog:=P
 w:=w
 K:=K
 mg:=mg
 base:=base
 A:=A.deeper (W.envX fY ls s.heap.objs.size f cd cl)
 N:=N
 s₀:=s
 H₀:=H
 env:=W.envX fY ls s.heap.objs.size f cd cl
 outer:=outer
 stack:=W.envX fY ls s.heap.objs.size f cd cl::outer
 ex:=[]
 calm:=true
 fn:=fun _=>false
 pn:=[]
 xe:=fun e s'=>wpAny (model P w) (A.deeper (W.envX fY ls s.heap.objs.size f cd cl)) (leaving (W.envX fY ls s.heap.objs.size f cd cl) e) (fun _ s2=>CX1 P w outer H s E e s2) (fun e2 s2=>CX1 P w outer H s E e2 s2) s'
structure Caught(N:List Str)(O:L2.St)(ls:Scope)(cl:List (Str×Addr))(H:Hp)(h:Heap):Prop where
 kind:ls.kind=.function
 co:ls.isCoroutine=false
 gen:ls.isGenerator=false
 no:∀x∈ls.names,x.2=.free\/x.2=.globalImplicit
 inj:∀x y c,cl.lookup x=some c->cl.lookup y=some c->x=y
 has:∀x,ls.names.lookup x=some .free->∃c,cl.lookup x=some c
 cell:∀x c,cl.lookup x=some c->H c=none/\∃v,h.IsCell c v
 look:∀(i:Nat)(x:Str)(v:V),N[i]?=some x->O[i]?=some (some v)->ls.names.lookup x=some .free->∃u c,aG v u/\cl.lookup x=some c/\h.IsCell c (some u)
 len:O.length=N.length
 nd:N.Nodup
theorem Caught.nocell(C:Caught N O ls cl H h)(k:ls.names.lookup x=some .cell\/ls.names.lookup x=some .local):False:=by rcases k with k|k<;>rcases C.no _ (PySem.mem_of_lookup k)with z|z<;>cases z
section
variable {P:Program}{w:World}{K:W.Frag}{mg:Mq}{base:Heap}{G:Glo}{k n:Nat}{N:List Str}{O:L2.St}{ls:Scope}{cl:List (Str×Addr)}{A:Around}{outer:List PySem.Env}{s:Shared}{H F:Hp}{E:XK}{f cd:Addr}{pm ctv:Value}
theorem YE(C:Caught N O ls cl H s.heap)(hd:A.handled=none)(e0:Env0 P w K mg base A outer s H)(hns:h'.Ns s.heap.objs.size m)(hk:∀b o,s.heap.get? b=some o->h'.get? b=some o):Inv (cxL P w K mg base N ls f cdv cl A outer s H E) [] O H {s with heap:=h',toks:=tk}:=by
 have noA:∀b:Addr,b∉(cxL P w K mg base N ls f cdv cl A outer s H E).ex:=fun b z=>absurd (show b∈([]:List Addr)from z) (by simp);have ck:∀{c:Addr}{v:a0 Value},s.heap.IsCell c v->h'.IsCell c v:=fun⟨o,e,d⟩=>⟨o,hk _ _ e,d⟩;refine⟨⟨e0.mod,C.kind,rfl,rfl,bH _,fun y z d h1 h2=>C.inj y z d h1 h2,fun y hy=>?_,(fun y d z h=>nomatch z),fun _=>hd,Around.frames_deeper e0.frames,.inr ⟨rfl,rfl⟩,fun b z=>absurd z (noA b),e0.bs,e0.bsz,fun b _ _=>noA b,fun b z=>absurd z (noA b),e0.funs,e0.frf⟩,
  rfl,e0.bare,Un.kept hk,⟨_,hns,fun i y v h1 h2 h3=>?_⟩,fun y d h=>?_,e0.hok.fresh (Nat.le_refl _),fun y d h=>(C.cell y d h).1,fun p hp=>absurd (show p∈([]:Pq)from hp) (by simp),e0.hok.kept hk,C.len⟩
 .have hy:ls.names.lookup y=some .cell\/ls.names.lookup y=some .free:=hy;rcases hy with hy|hy
  .exact(C.nocell (.inl hy)).elim
  .exact C.has y hy
 .have h3:ls.names.lookup y=some .local\/ls.names.lookup y=some .cell\/ls.names.lookup y=some .free:=h3;rcases h3 with h3|h3|h3
  .exact(C.nocell (.inr h3)).elim
  .exact(C.nocell (.inl h3)).elim
  .obtain⟨u,c,r,hc,l⟩:=C.look i y v h1 h2 h3;exact⟨u,r,.inr ⟨.inr h3,c,hc,ck l⟩⟩
 .obtain⟨v,z⟩:=(C.cell y d h).2;exact⟨v,ck z⟩
theorem YF(C:Caught N O ls cl H s.heap)(hr:Room (k+1) A)(nob:∀x∈bnames,mg x=none)(call:∀f ts t,lS f=true->G.call f ts=some t->∃(a:Addr)(fd:FuncData)(ps:List Str),FnOk P w K mg base CX0 k a fd ps (spT K (G.call f))/\mg f=some (.ref a)/\W.keepIn K (.ref a)=true/\Binds K fd ps []): Gd (cxL P w K mg base N ls f cdv cl A outer s H E) ⟨ls,N⟩ G k where
 room:=hr.deeper _
 calm:=rfl
 nob:=nob
 call:=call
 vis:=fun x h=>by
  show ls.names.lookup x=_\/ls.names.lookup x=_\/ls.names.lookup x=_;have h:cX ls x=true:=h;unfold cX at h;cases e:ls.names.lookup x with
  |none=>rw[e]at h;cases h
  |some q=>
   rw[e]at h;cases q with
   | «local»=>exact .inl rfl
   |cell=>exact .inr (.inl rfl)
   |free=>exact .inr (.inr rfl)
   |_=>cases h
 gl:=fun x h=>by show ls.names.lookup x=_;simpa[glB]using h
 cap:=fun x h=>h
 nd:=C.nd
theorem YG(C:Caught N O ls cl H s.heap)(hr:Room (k+1) A)(nob:∀x∈bnames,mg x=none)(call:∀f ts t,lS f=true->G.call f ts=some t->∃(a:Addr)(fd:FuncData)(ps:List Str),FnOk P w K mg base CX0 k a fd ps (spT K (G.call f))/\mg f=some (.ref a)/\W.keepIn K (.ref a)=true/\Binds K fd ps [])
  (kx:∀f ts x,G.exc f ts=some x->∃ad fd ps,FnOk P w K mg base (CX1 P w) m ad fd ps (spX K mg (G.exc f))/\mg f=some (.ref ad)/\W.keepIn K (.ref ad)=true/\Binds K fd ps []) (hm:m<=k)
  (e0:Env0 P w K mg base A outer s H) (ho:s.heap.get? f=some (lY (.Call (.Name g p1) (a::es) [] p2) ls cl pm cd ctv)) (hc:∃oc vs t,s.heap.get? cd=some oc/\oc.data=.fields vs/\vs[1]?=some (.str fY t))
  (hg:glB ls g=true) (hp:bX g=true) (h:dP (trV n ⟨ls,N⟩) (a::es)=some xs) (fh:Same F H) (tb:Tbk K F H) (eg:∀(x:Str)(i:Nat)(t:T),bX x=true->cI N x=some i->cX ls x=true->ρ[i]?=some (some t)->∃(j:Nat)(v:V),N[j]?=some x/\O[j]?=some (some v)/\Rep K F t v) (hev:aD G xs ρ=some ts)
  (ans:(∃t,G.call g ts=some t/\∀v F' H',Step F H F' H'->Rep K F' t v->Q v H')\/∃x,G.exc g ts=some x/\tT mg F H E x):
  codeAny (model P w) A (.call (.ref f) ⟨[],[]⟩) (CR (CX1 P w) outer P w H s Q E) s:=by
 have lim:s.heap.NoLimit:=e0.mod.nolimit.keeps fun b o e=>(e0.bs b o e).1;obtain⟨oc,vs,tt,h5,h6,h7⟩:=hc;refine W.kla_callFunE hr.depth ho rfl C.co C.gen rfl ⟨cd,oc,vs,tt,rfl,h5,h6,h7⟩ ?_;rw[show bindArgs (W.kla_fn "<lambda>" fY tU (.Call (.Name g p1) (a::es) [] p2) ls cl pm (.ref cd) ctv) ⟨[],[]⟩=pure []from
  xV (fd:=W.kla_fn "<lambda>" fY tU (.Call (.Name g p1) (a::es) [] p2) ls cl pm (.ref cd) ctv) (as:=[]) (us:=[]) rfl rfl (by simp) rfl]
 refine wpAny_pure (wpAny_newFunctionEnv (fun x hx=>by rcases C.no x hx with z|z<;>rw[z]<;>decide) (fun x hx=>absurd hx (by simp)) (fun h' hns hsb=>?_) C.kind);have hk:∀b o,s.heap.get? b=some o->h'.get? b=some o:=fun b o e=>hsb.extBut b o (cL (bI e)) (aT _ e);refine⟨lim.keeps hk,?_⟩;show codeAny _ _ (.expr (.Call (.Name g p1) (a::es) [] p2) (W.envX fY ls s.heap.objs.size f (.ref cd) cl)) _ _;refine W.kla_codeExpr ?_;have I:=YE (f:=f) (E:=E) (cdv:=.ref cd) (tk:=s.toks+0) C hr.hd e0 hns hk;have gd:=YF (f:=f) (E:=E) (outer:=outer) (cdv:=.ref cd) C hr nob call;have S:=jA G k n;have ee:EnvE (cxL P w K mg base N ls f (.ref cd) cl A outer s H E) ⟨ls,N⟩ ρ F O H:=⟨fh,tb,eg⟩;obtain⟨x,h1,h'1⟩:=obs h;obtain⟨ys,h2,_⟩:=obs h'1;have hp':=hp;simp only[bX,Bool.and_eq_true,Bool.not_eq_true']at hp';rcases ans with⟨t,ht,q⟩|⟨x,hx,hw⟩
 .have pe:=tP S gd (p:=p1) (pos:=p2) hg hp h;refine gK (pe [] _ _ _ (fun v H2=>Q v H2) I ⟨ρ,F,t,ee,?_,q⟩) (fun u s' z=>?_) fun e s' z=>z
  .rw[evE,hev];exact ht
  .obtain⟨v,H',J,rv,q⟩:=z;exact⟨v,H',J.os,J.bare,J.base,J.hok,rv,q⟩
 .obtain⟨ad,fd,ps,k1,k2,k3,k4⟩:=kx g ts x hx;have pe:=AV (X:=cxL P w K mg base N ls f (.ref cd) cl A outer s H E) (p:=p1) (pos:=p2) (E:=E) k1 ((hr.deeper _).mono hm) (gd.gl g hg) k2 k3 k4 .nil (OW rfl rfl rfl rfl) (S.l gd h) hp'.1.1.1 (mZ h1 es _) (xP p2 _ h2);refine gK (pe [] _ _ _ (fun v H2=>Q v H2) I ⟨ρ,F,ts,ee,hev,fun vs F' H' st r=>?_⟩) (fun u s' z=>?_) fun e s' z=>z
  .show spX K mg (G.exc g) (vs++[]) H' _ E;rw[gI];exact⟨F',ts,x,st.fh,tb.up st,r,hx,fun C dx F2 H2 q1 q2 q3=>hw C dx F2 H2 q1 (st.trans q2) q3⟩
  .obtain⟨v,H',J,rv,q⟩:=z;exact⟨v,H',J.os,J.bare,J.base,J.hok,rv,q⟩
end
def GJ(body:List Stmt):Prop:=∀(X:Cx)(cs:List Addr)(DE:Addr)(O:L2.St)(H:Hp)(s:Shared)(D:Ends),X.stack=X.env::X.outer->X.env.frame=some X.env.locals->(∀e,TK (mkd X e) cs)->Gl X "DealError"->X.mg "DealError"=some (.ref DE)->
 Inv X [] O H s->O.length=4->(∀E,xS (X.wish E) 0 (xU X cs DE D) O H (GD D))->wpAny (model X.prog X.w) X.A (execs body X.env) (SP X [] D) X.xe s
structure ToldS(st:Stmt):Prop where
 sc:FnScope toldN ["_law_deed_here"] (aM st)
 lo:∀x∈toldN,(aM st).names.lookup x=some .local
 gl:∀x∈(("DealError":Str)::toldC)++(["isinstance", "ValueError", "bool"]:List Str),(aM st).names.lookup x=some .globalImplicit
 bd:GJ (dI st)
structure ToldK(K:W.Frag)(mg:Mq)(st:Stmt)(ta:Addr)(fd:FuncData)(cs:List Addr)(DE:Addr):Prop where
 fu:Fun K dB dB st ta fd
 bi:Binds K fd ["_law_deed_here"] []
 s:ToldS st
 mt:mg dB=some (.ref ta)
 md:mg "DealError"=some (.ref DE)
 mc:toldC.map mg=cs.map fun C=>some (.ref C)
 nb:∀x∈(["isinstance", "ValueError", "bool"]:List Str),mg x=none
 ek:∀x C j,pK x clsN 0=some j->mg x=some (.ref C)->EK K cs C j/\W.exmOne K (.ref C) (.ref DE)=some true
section
variable {P:Program}{w:World}{K:W.Frag}{mg:Mq}{base:Heap}{G:Glo}{k n:Nat}{N:List Str}{O:L2.St}{ls:Scope}{cl:List (Str×Addr)}{A:Around}{outer:List PySem.Env}{s:Shared}{H F:Hp}{f cd:Addr}{pm ctv:Value}
 {st:Stmt} {ta:Addr} {fd:FuncData} {cs:List Addr} {DE:Addr}
theorem YH(TK:ToldK K mg st ta fd cs DE)(C:Caught N O ls cl H s.heap)(hcl:∀x c,cl.lookup x=some c->c∉frs outer)(hr:Room (k+2) A)(nob:∀x∈bnames,mg x=none)(call:∀f ts t,lS f=true->G.call f ts=some t->∃(a:Addr)(fd:FuncData)(ps:List Str),FnOk P w K mg base CX0 k a fd ps (spT K (G.call f))/\mg f=some (.ref a)/\W.keepIn K (.ref a)=true/\Binds K fd ps [])
  (kx:∀f ts x,G.exc f ts=some x->∃ad fd ps,FnOk P w K mg base (CX1 P w) m ad fd ps (spX K mg (G.exc f))/\mg f=some (.ref ad)/\W.keepIn K (.ref ad)=true/\Binds K fd ps []) (hm:m<=k)
  (e0:Env0 P w K mg base A outer s H) {oc:Obj} {vs:Array Value} {t0:Nat} (ho:H f=some (lab (lY (.Call (.Name g p1) (a::es) [] p2) ls cl pm cd ctv))) (hc1:H cd=some (lab oc)) (hc2:oc.data=.fields vs) (hc3:vs[1]?=some (.str fY t0))
  (hg:glB ls g=true) (hp:bX g=true) (h:dP (trV n ⟨ls,N⟩) (a::es)=some xs) (fh:Same F H) (tb:Tbk K F H)
  (eg:∀(x:Str)(i:Nat)(t:T),bX x=true->cI N x=some i->cX ls x=true->ρ[i]?=some (some t)->∃(j:Nat)(v:V),N[j]?=some x/\O[j]?=some (some v)/\Rep K F t v) (hev:aD G xs ρ=some ts)
  (ht:lP G g ts=some tt) (q:∀v F' H',Step F H F' H'->Rep K F' tt v->Q v H'):
  codeAny (model P w) A (.call (.ref ta) ⟨[.ref f],[]⟩) (CR CX0 outer P w H s Q E0) s:=by
 obtain⟨oc',od,kV,doc,pm',an,cdv,ct,osl,rfl,lk,hcd⟩:=TK.fu.ex;have S:=TK.s.sc;have KX:K.In s.heap:=e0.mod.kin.keeps fun b o e=>(e0.bs b o e).1;have lim:s.heap.NoLimit:=e0.mod.nolimit.keeps fun b o e=>(e0.bs b o e).1;have hkind:∀y∈(["_law_deed_here"]:List Str).zip [Value.ref f],(aM st).names.lookup y.1=some .local\/((aM st).names.lookup y.1=some .cell/\((cellsFrom (s.heap.objs.size+1) (aM st).names []).lookup y.1).isSome=true):=fun⟨n,v⟩ hy=>.inl (by cases omg hy;exact TK.s.lo "_law_deed_here" (by decide));refine codeAny_call_function hr.depth (KX _ _ lk) rfl S.co S.gen rfl (W.codeRec_of KX hcd) (TK.bi s [.ref f] KX rfl _ _ _ _ ?_);refine wpAny_newFunctionEnv_cells S.kind hkind fun env he s1 x=>?_;subst he;refine⟨lim.keeps x.toInCall.keep,codeAny_func ?_⟩;have I:Inv (gN CX0 P w K mg base toldN dB (aM st) ta cdv A outer s H E0) [] (L2.start toldN [V.ref f]) H s1:=BB S hr.hd e0 rfl (.cons rfl .nil) x;have hr1:=hr.deeper (envOfC dB (aM st) s.heap.objs.size ta cdv);have tk:∀e,Ex.TK (mkd (gN CX0 P w K mg base toldN dB (aM st) ta cdv A outer s H E0) e) cs:=fun e=>⟨rfl,TK.s.lo,fun y hy=>TK.s.gl y (dH _ hy),TK.nb,TK.mc,by have:=hr1.un;show(A.deeper (envOfC dB (aM st) s.heap.objs.size ta cdv)).units+100<cLine;lia⟩;refine gK (TK.s.bd (gN CX0 P w K mg base toldN dB (aM st) ta cdv A outer s H E0) cs DE _ H s1 {nx:=fun _ H'=>Q .non H',rt:=Q} rfl rfl tk (TK.s.gl _ (by decide)) TK.md I rfl fun E'=>?_) (fun fl s' z=>?_) fun e s' z=>z
 .refine⟨f,_,_,_,_,_,_,_,_,_,rfl,fun pj s2 I2=>⟨(I2.hok f _ ho).1,?_⟩⟩;have kc:∀{y:Str}{c:Addr}{v:a0 Value},cl.lookup y=some c->s.heap.IsCell c v->s2.heap.IsCell c v:=fun{y c v} hy ⟨o,e,d⟩=>⟨o,I2.base.keep c o e (C.cell y c hy).1 (hcl y c hy) (by simp[gN]),d⟩;have C2:Caught N O ls cl H s2.heap:=⟨C.kind,C.co,C.gen,C.no,C.inj,C.has,fun y c hy=>⟨(C.cell y c hy).1,let⟨v,z⟩:=(C.cell y c hy).2;⟨v,kc hy z⟩⟩,fun i y v h1 h2 h3=>let⟨u,c,r,hy,z⟩:=C.look i y v h1 h2 h3;⟨u,c,r,hy,kc hy z⟩,C.len,C.nd⟩;refine YG C2 hr1 nob call kx hm I2.env0 (I2.hok f _ ho).1 ⟨oc,vs,t0,(I2.hok cd _ hc1).1,hc2,hc3⟩ hg hp h fh tb eg hev ?_;unfold lP at ht;cases hgc:G.call g ts with
  |some t=>rw[hgc]at ht;cases ht;refine .inl ⟨t,rfl,fun v F' H' T r p hp'=>q _ (L2.aL F' p (.tup [.str "told",v])) _ (T.new hp') ⟨p,_,rfl,bN,.cons rfl (.cons (r.mono (iN (T.fh.free hp'))) rfl)⟩⟩
  |none=>rw[hgc]at ht;obtain⟨x,hx,ht⟩:=obs ht;obtain⟨j,hj,rfl⟩:=oms ht;refine .inr ⟨x,hx,fun Cc dx F' H' q1 T q3=>?_⟩;obtain⟨e1,e2⟩:=TK.ek x.1 Cc j hj q1;exact⟨e2,Cc,dx,x.2,j,F',rfl,rfl,q3,e1,T.fh,fun O' H2 p g1 g2 T2=>⟨_,g2,q _ _ H2 (T.trans T2) ⟨p,_,rfl,bN,.cons rfl (.cons rfl (.cons rfl rfl))⟩⟩⟩
 .cases fl with
  |ret u=>obtain⟨v,O',H',J,rv,q⟩:=z;exact⟨v,H',J.os,J.bare,J.base,J.hok,rv,q⟩
  |next=>obtain⟨O',H',J,q⟩:=z;exact⟨.non,H',J.os,J.bare,J.base,J.hok,rfl,q⟩
  |brk=>obtain⟨_,_,_,z⟩:=z;exact z.elim
  |cont=>obtain⟨_,_,_,z⟩:=z;exact z.elim
end
structure LwX(X:Cx)(cc p:Addr):Prop where
 code:X.env.code=.ref cc
 tab:TabK X.K X.mg cc p
 qual:X.env.qual++"<lambda>"=fY
 fn:∀x,X.fn x=true
section
variable {X:Cx}{c:Tc}{G:Glo}{k:Nat}{cc p:Addr}{st:Stmt}{ta:Addr}{fd:FuncData}{cs:List Addr}{DE:Addr}{m:Nat}
theorem YI(TK:ToldK X.K X.mg st ta fd cs DE)(L:LwX X cc p)(gd:Gd X c G k)(hN:X.N=c.nm)(hr:Room (k+5) X.A)(kx:∀f ts x,G.exc f ts=some x->∃ad fd ps,FnOk X.prog X.w X.K X.mg X.base (CX1 X.prog X.w) (k+3) ad fd ps (spX X.K X.mg (G.exc f))/\X.mg f=some (.ref ad)/\W.keepIn X.K (.ref ad)=true/\Binds X.K fd ps []):Tl X c G:=by
 rintro n r xs hk hne h pj s O H Q I⟨ρ,F,tt,ee,ht,q⟩;obtain⟨ts,hev,ht⟩:=obs ht;rw[dF,dF,dF]at hk;obtain⟨c1,c2,c3,c4⟩:=hk;unfold pR at c1;simp only[Bool.and_eq_true,Bool.not_eq_true',beq_iff_eq]at c1;obtain⟨⟨⟨⟨l1,l2⟩,l3⟩,l4⟩,l5⟩:=c1;have nm:∀y∈r.ls.names,(y.2=.free/\c.sc.names.lookup y.1=some .cell/\r.ls.names.lookup y.1=some .free)\/y.2=.globalImplicit:=fun y hy=>by
  have:=oml l4 y hy;simp only[Bool.or_eq_true,Bool.and_eq_true,beq_iff_eq]at this;rcases this with⟨⟨a1,a2⟩,a3,a4⟩|a
  .exact .inl ⟨a1,a2,a4⟩
  .exact .inr a
 have fr:∀y:Str,r.ls.names.lookup y=some .free->c.sc.names.lookup y=some .cell/\(y,NameKind.free)∈r.ls.names:=fun y hy=>by
  have:=PySem.mem_of_lookup hy;rcases nm _ this with⟨_,a,_⟩|a
  .exact⟨a,this⟩
  .cases a
 have kin:∀y:Str,c.sc.names.lookup y=some .cell->X.env.kindOf y=some .cell\/X.env.kindOf y=some .free:=fun y hy=>gd.cap y (.inl hy);have h0:∀y∈r.ls.names,y.2=.free->∃a,X.env.cells.lookup y.1=some a:=fun y hy hf=>by
  rcases nm y hy with⟨_,a,_⟩|a
  .exact I.ok.has y.1 (kin _ a)
  .rw[a]at hf;cases hf
 have clo:=wP h0;have sub:∀x a,(fP X.env r.ls.names []).lookup x=some a->X.env.cells.lookup x=some a:=pS r.ls.names [] (fun _ _ z=>nomatch z) h0;show wpAny _ _ (eval (.Call (.Name dB r.p4) [r.lam] [] r.p5) X.env) _ _ _;refine wpAny_Call_Name_kw (oY I (gd.gl dB c2) TK.mt ?_ (by decide));obtain⟨e1,es,hes⟩:∃a es,r.es=a::es:=by
  cases hh:r.es with
  |nil=>exact absurd hh hne
  |cons a es=>exact⟨a,es,rfl⟩
 refine W.callWith_K (h₀:=X.base) I.ok.mod.kin TK.fu.kp (thn (cU (YD (pos:=r.p3) (lb:=.Call (.Name r.g r.p1) r.es [] r.p2) clo L.qual L.code L.tab) gE rfl r.p5 pj s O H
  (fun vs H1=>∃f cd pm ctv oc ws t,vs=[V.ref f]/\Step F H F H1/\H1 f=some (lab (lY (.Call (.Name r.g r.p1) r.es [] r.p2) r.ls (fP X.env r.ls.names []) pm cd ctv))/\H1 cd=some (lab oc)/\oc.data=.fields ws/\ws[1]?=some (.str fY t)) I
  ⟨F,ee.fh,ee.tb,fun f cd pm ctv oc ws t H1 T a1 a2 a3 a4=>⟨f,cd,pm,ctv,oc,ws,t,rfl,T,a1,a2,a3,a4⟩⟩) fun us s1 zz=>?_) rfl rfl
 obtain⟨vs,H1,I1,rv,f,cd,pm,ctv,oc,ws,t,ev,T,a1,a2,a3,a4⟩:=zz;refine⟨I1.kIn,?_⟩;subst ev;cases rv with
 |cons r1 r2=>
  cases r2;cases r1;have C:Caught c.nm O r.ls (fP X.env r.ls.names []) H1 s1.heap:=by
   refine⟨l1,l2,l3,fun y hy=>(nm y hy).imp (fun z=>z.1) id,fun x y a e1 e2=>I.ok.inj x y a (sub x a e1) (sub y a e2),fun x hx=>Option.isSome_iff_exists.mp (oB _ _ (.inl (fr x hx).2)),fun x a e=>⟨I1.freeC x a (sub x a e),I1.cell x a (sub x a e)⟩,fun i x v e1 e2 e3=>?_,by rw[<-hN];exact I1.len,by rw[<-hN];exact gd.nd⟩;obtain⟨a,ha⟩:=Option.isSome_iff_exists.mp (oB (env:=X.env) (x:=x) r.ls.names [] (.inl (fr x e3).2));have kx:=kin x (fr x e3).1;obtain⟨mm,_,hl⟩:=I1.loc;obtain⟨u,ru,lk⟩:=hl i x v (by rw[hN];exact e1) e2 (.inr kx);rcases lk with⟨k1,_⟩|⟨_,a',k2,k3⟩
   .rcases kx with k|k<;>(rw[k1]at k;cases k)
   .rw[sub x a ha]at k2;cases k2;exact⟨u,a,ru,ha,k3⟩
  have ncl:∀x a,(fP X.env r.ls.names []).lookup x=some a->a∉frs X.stack:=fun x a e z=>by
   rcases omc (I1.stkSub a z)with e2|z
   .exact I1.cne x a (sub x a e) e2
   .obtain⟨_,o,ho,_⟩:=I1.ok.funs.mem z;exact absurd (dS (bI ho) (I1.ok.cab x a (L.fn x) (sub x a e))) (gJ _)
  rw[hes]at a1 h;refine wpAny_call (codeAny_mono (YH (k:=k+3) TK C ncl hr gd.nob (fun f ts t hp hg=>let⟨a,fd,ps,F1,r⟩:=gd.call f ts t hp hg;⟨a,fd,ps,F1.mono (Nat.le_add_right _ _),r⟩) kx (bH _) I1.env0 a1 a2 a3 a4 c3 c4 h T.fh (ee.tb.up T) (fun x i t pn hi vx hr'=>?_) hev ht (fun v F' H' T2 rr=>q v F' H' (T.trans T2) rr)) fun rs s' hq=>?_)
  .have:cX c.sc x=true:=by
    have vx:cX r.ls x=true:=vx;unfold cX at vx ⊢;cases e:r.ls.names.lookup x with
    |none=>rw[e]at vx;cases vx
    |some kd=>
     rcases nm _ (PySem.mem_of_lookup e)with⟨_,a,_⟩|a
     .rw[show c.sc.names.lookup x=some .cell from a]
     .rw[e,show kd=.globalImplicit from a]at vx;cases vx
   obtain⟨j,v,g1,g2,g3⟩:=ee.get x i t pn hi this hr';exact⟨j,v,by rw[<-hN];exact g1,g2,g3⟩
  .cases rs with
   |error e=>exact hq.elim
   |ok fl=>
    cases fl with
    |ret u=>exact I1.after hq
    |next=>exact False.elim hq
    |brk=>exact False.elim hq
    |cont=>exact False.elim hq
end
section
variable {P:Program}{w:World}{K:W.Frag}{mg:Mq}{base:Heap}{R:Pr}{T:Str->a0 Rxd}
structure FnX(P:Program)(w:World)(K:W.Frag)(mg:Mq)(base:Heap)(f:Str)(D:Rxd)(st:Stmt)(a:Addr)(fd:FuncData)(ps:List Str):Prop where
 qu:∃x qual,Fun K x qual st a fd
 sc:FnScope (cM (aM st)) ps (aM st)
 np:ps.length=D.np
 ns:(cM (aM st)).length=D.ns
 tr:dP (trR 60 ⟨aM st,cM (aM st)⟩) (dI st)=some D.body
 mf:mg f=some (.ref a)
 kp:W.keepIn K (.ref a)=true
 bi:Binds K fd ps []
 nt:glB (aM st) dB=false
 ew:∀x,clsN.contains x=true->glB (aM st) x=true->ErW P w K mg base x
def GK(ih:nA P w K mg base R n)(nob:∀x∈bnames,mg x=none){st:Stmt}{ps:List Str}(sc:FnScope (cM (aM st)) ps (aM st)){qual:Str}{a:Addr}{cdv:Value}{A:Around}{outer:List PySem.Env}{s:Shared}{H:Hp}{E:XK}(hr:Room n (A.deeper (envOfC qual (aM st) s.heap.objs.size a cdv))):Gd (gN CX P w K mg base (cM (aM st)) qual (aM st) a cdv A outer s H E) ⟨aM st,cM (aM st)⟩ (kM R T n) n :=
 let g:=FY (outer:=outer) (H:=H) (E:=E) ih nob sc hr
 ⟨g.room,g.calm,g.nob,g.call,g.vis,g.gl,g.cap,g.nd⟩
theorem GL(L:∀f D,T f=some D->∃st a fd ps,FnX P w K mg base f D st a fd ps)(kn:∀n,nA P w K mg base R n)(nob:∀x∈bnames,mg x=none):∀n f ts x,kL R T n f ts=some x->∃(a:Addr)(fd:FuncData)(ps:List Str),FnOk P w K mg base (CX1 P w) (n+3) a fd ps (spX K mg (kL R T n f))/\mg f=some (.ref a)/\W.keepIn K (.ref a)=true/\Binds K fd ps []
 |0,f,ts,x,h=>by cases h
 |n+1,f,ts0,x0,h0=>by
  have ih:=GL L kn nob n;obtain⟨D,hD,_⟩:=obs h0;obtain⟨st,a,fd,ps,d⟩:=L f D hD;refine⟨a,fd,ps,?_,d.mf,d.kp,d.bi⟩;obtain⟨x,qual,FU⟩:=d.qu;obtain⟨oc,od,kV,doc,pm,an,cdv,ct,osl,rfl,lk,hcd⟩:=FU.ex;have inv:∀{ts:List Ev.T}{t:Str×Int},kL R T (n+1) f ts=some t->ts.length=D.np/\hJ (kM R T n) D.body (cD ⟨D.np,D.ns,[]⟩ ts)=some t:=fun{ts t}h=>by
   rw[kL,hD]at h;simp only[aO]at h;split at h
   .rename_i e;exact⟨e,h⟩
   .cases h
  refine rN lk hcd d.sc (fun vs H Q E h=>?_) fun A outer s H vs Q E hr h=>?_
  .obtain⟨F,ts,t,fh,tb,r,h,_⟩:=h;rw[r.length,(inv h).1,d.np]
  obtain⟨F,ts,t,fh,tb,r,h,hw⟩:=h;obtain⟨hl,he⟩:=inv h;have gd:=GK (T:=T) (CX:=CX1 P w) (outer:=outer) (H:=H) (E:=E) (kn n) nob d.sc (hr.mono (Nat.le_add_right n 3));refine⟨_,GE (F0:=F) (H0:=H) (E:=E) ⟨rfl,rfl,rfl,rfl⟩ gd ⟨gd.room,gd.calm,gd.nob,gd.call,gd.vis,gd.gl,gd.cap,gd.nd⟩ ⟨rfl,fun x h=>h,fun _=>rfl,rfl⟩ (fun n r xs hk=>by rw[d.nt,Bool.false_and,Bool.and_false]at hk;cases hk) (hr.mono (by lia)) d.ew (fun g ts z hz=>?_) _ _ d.tr,?_⟩
  .obtain⟨ad,fd,ps,k1,k2,k3,k4⟩:=ih g ts z hz;exact⟨n+3,ad,fd,ps,k1,hr,k2,k3,k4⟩
  .exact⟨_,F,t,xQ (D:=⟨D.np,D.ns,[]⟩) d.ns fh tb r,he,hw⟩
def runL(R:Pr)(T:Str->a0 Rxd)(D:Fd)(n:Nat)(ts:List Ev.T):a0 Ev.T:=if ts.length=D.np then bG (aC (kM R T n) D.body (cD D ts))else none
theorem YJ{n:Nat}{D:Fd}{st:Stmt}{a:Addr}{fd:FuncData}{ps:List Str}{sT:Stmt}{ta:Addr}{fdT:FuncData}{cs:List Addr}{DE cc p:Addr}(L:∀f D,T f=some D->∃st a fd ps,FnX P w K mg base f D st a fd ps)(kn:∀n,nA P w K mg base R n)(nob:∀x∈bnames,mg x=none)(FU:Fun K "law" "law" st a fd)(sc:FnScope (cM (aM st)) ps (aM st))(np:ps.length=D.np)(ns:(cM (aM st)).length=D.ns)(tr:gP 60 ⟨aM st,cM (aM st)⟩ (dI st)=some D.body)(hc:fd.code=.ref cc)(TB:TabK K mg cc p)(TK:ToldK K mg sT ta fdT cs DE):FnOk P w K mg base CX0 (n+6) a fd ps (spT K (runL R T D n)):=by
 obtain⟨oc,od,kV,doc,pm,an,cdv,ct,osl,rfl,lk,hcd⟩:=FU.ex;have inv:∀{ts:List Ev.T}{t:Ev.T},runL R T D n ts=some t->ts.length=D.np/\bG (aC (kM R T n) D.body (cD D ts))=some t:=fun{ts t}h=>by
  unfold runL at h;split at h
  .rename_i e;exact⟨e,h⟩
  .cases h
 refine rN (k:=n+5) lk hcd sc (fun vs H Q E h=>?_) fun A outer s H vs Q E hr h=>?_
 .obtain⟨F,ts,t,fh,tb,r,h,_⟩:=h;rw[r.length,(inv h).1,np]
 obtain⟨F,ts,t,fh,tb,r,h,q⟩:=h;obtain⟨hl,he⟩:=inv h;have gd:=GK (T:=T) (CX:=CX0) (outer:=outer) (H:=H) (E:=E) (kn n) nob sc (hr.mono (Nat.le_add_right n 5))
 let X0:=(gN CX0 P w K mg base (cM (aM st)) "law" (aM st) a cdv A outer s H E).nox
 have gn:Gd X0 ⟨aM st,cM (aM st)⟩ (kM R T n) n:=⟨gd.room,gd.calm,gd.nob,gd.call,gd.vis,gd.gl,gd.cap,gd.nd⟩;have fx:Fx X0 ⟨aM st,cM (aM st)⟩:=⟨rfl,fun x h=>h,fun _=>rfl,rfl⟩;have tl:Tl X0 ⟨aM st,cM (aM st)⟩ (kM R T n):=YI (X:=X0) TK ⟨hc,TB,rfl,fun _=>rfl⟩ gn rfl hr (GL L kn nob n);refine⟨_,((tR (F0:=F) (H0:=H) gn fx tl 60).2 _ _ tr).nox,?_⟩;cases ho:aC (kM R T n) D.body (cD D ts)with
 |none=>rw[ho]at he;cases he
 |some o=>
  refine⟨cD D ts,F,o,xQ ns fh tb r,ho,?_⟩;rw[ho]at he;cases o with
  |nx τ=>cases he;exact fun O' F' H' e _=>q .non F' H' e.st rfl
  |rt t=>cases he;exact fun v F' H' s r=>q v F' H' s r
end
end Ev.Ex
namespace Ev
open PySem Spec PyProof.Rows L2
variable {st:Stmt}{K:W.Frag}
theorem YK{h:Heap}{a:Addr}{o:Obj}(e:h.get? a=some o):a<h.objs.size:=by
 by_cases hl:a<h.objs.size
 .exact hl
 .have:h.objs[a]?=none:=Array.getElem?_eq_none (Nat.le_of_not_lt hl);unfold Heap.get? at e;rw[this]at e;cases e
theorem GM{f:Addr->a0 Obj}{a:Addr}:∀l:List Addr,((l.filterMap fun b=>(f b).map fun o=>(b,o)).lookup a)=if a∈l then f a else none
 |[]=>rfl
 |b::l=>by
  have ih:=GM (f:=f) (a:=a) l;rw[jK];by_cases hab:a=b
  .subst hab;cases hf:f a with
   |none=>simp only[Option.map_none];rw[ih,hf];simp
   |some o=>simp only[cT];rw[List.lookup_cons];simp
  .cases hf:f b with
   |none=>simp only[Option.map_none];rw[ih];simp[hab]
   |some o=>simp only[cT];rw[List.lookup_cons,show(a==b)=false by simpa using hab,ih];simp[hab]
theorem jB(h:Heap)(a:Addr):(KH h).lookup a=h.get? a:=by
 unfold KH;rw[GM];split
 .rfl
 .rename_i hn;cases e:h.get? a with
  |none=>rfl
  |some o=>exact absurd (List.mem_range.mpr (YK e)) hn
theorem YL(k:∀b o,h.get? b=some o->h'.get? b=some o):(KH h).In h':=fun a o e=>k a o (by rw[<-jB];exact e)
def oK:W.nsIn (KH h) ns x=jQ h ns x:=by unfold W.nsIn jQ;rw[jB];rfl
theorem GN:W.codeIn (KH h) cd q=rV h cd q:=by
 unfold W.codeIn rV;cases cd with
 |ref c=>simp only[jB];rfl
 |_=>rfl
theorem YM{h:Heap}{x:Str}(e:rW h x=some (rT x st,true)):∃f fd,W.nsIn (KH h) mainGlobals x=some (some (.ref f))/\Fun (KH h) x x st f fd:=by
 unfold rW at e;split at e
 .rename_i a ha;split at e
  .rename_i oc od f sl ho;have e:=dU e;have e1:=aP Prod.fst e;have e2:=aP Prod.snd e;dsimp only at e1 e2;obtain⟨n,q,p,b,sc,g,cl,df,kd,doc,pm,an,cd,ct,bi⟩:=f;unfold rT fnV at e1;dsimp only[W.fnOf]at e1;obtain⟨rfl,rfl,rfl,rfl,rfl,rfl,rfl,rfl,rfl⟩:=FnV.mk.inj e1;have hl:(KH h).lookup a=some ⟨oc,od,.func (W.fnOf q q (fE st) (dI st) (aM st) .none kd doc pm an cd ct),sl⟩:=by rw[jB];exact ho
   refine⟨a,_,by rw[oK];exact ha,OA hl (by rw[GN];exact e2) ?_⟩;simp only[W.keepIn,hl]
  .cases e
 .cases e
def YN(e:nX (fs.map (·.1)) bs h=lQ fs bs)(hp:p∈fs):rW h p.1=some (rT p.1 p.2,true):=by have e1:=aP Prod.fst e;unfold nX lQ at e1;dsimp only at e1;rw[eG]at e1;exact List.map_inj_left.mp e1 p hp
def GO(e:nX (fs.map (·.1)) bs h=lQ fs bs)(hx:x∈bs):jQ h mainGlobals x=some none:=by have e1:=aP Prod.snd e;unfold nX lQ at e1;dsimp only at e1;exact List.map_inj_left.mp e1 x hx
structure St(x:Str)(D:Fd)(st:Stmt)(ps:List Str):Prop where
 sc:FnScope (cM (aM st)) ps (aM st)
 np:ps.length=D.np
 ns:(cM (aM st)).length=D.ns
 tr:gP 60 ⟨aM st,cM (aM st)⟩ (dI st)=some D.body
 bi:∀(kV doc pm:Value)(an:Option Addr)(cdv ct:Value)(us:List Value),us.length=ps.length->bindArgs (W.fnOf x x (fE st) (dI st) (aM st) .none kV doc pm an cdv ct) ⟨us,[]⟩=pure (ps.zip us)
abbrev Tab:=List (Str×Fd×Stmt×List Str)
def Tab.fns(t:Tab):List (Str×Fd):=t.map fun p=>(p.1,p.2.1)
def Tab.sts(t:Tab):List (Str×Stmt):=t.map fun p=>(p.1,p.2.2.1)
def Tab.pr(t:Tab):Pr:=⟨fun f=>t.fns.lookup f⟩
theorem xW{α:Type}:∀{l:List (Str×α)}{f:Str}{D:α},l.lookup f=some D->(f,D)∈l
 |[],_,_,h=>by cases h
 |(g,E)::l,f,D,h=>by
  rw[gX]at h;split at h
  .rename_i e;cases h;rw[cK e];exact fK
  .exact dH _ (xW h)
def xX(D:Fd)(st:Stmt)(ps:List Str):Bool :=
 (aM st).kind==.function&&!(aM st).isCoroutine&&!(aM st).isGenerator&&decide ((cM (aM st)).Nodup)&&decide ((cM (aM st)).take ps.length=ps) &&
 (ps.all fun x=>(aM st).names.lookup x==some .local||(aM st).names.lookup x==some .cell)&&((aM st).names.all fun y=>!(y.2==.free)) &&
 decide (ps.length=D.np)&&decide ((cM (aM st)).length=D.ns) &&
 (match fE st with|⟨[],as,none,[],[],none,[]⟩=>decide (as.map (·.arg)=ps)|_=>false)
theorem GP{x:Str}{D:Fd}{ps:List Str}(h:xX D st ps=true)(tr:gP 60 ⟨aM st,cM (aM st)⟩ (dI st)=some D.body):St x D st ps:=by
 unfold xX at h;simp only[Bool.and_eq_true,Bool.not_eq_true',decide_eq_true_eq,beq_iff_eq]at h;obtain⟨⟨⟨⟨⟨⟨⟨⟨⟨h1,h2⟩,h3⟩,h4⟩,h5⟩,h6⟩,h7⟩,h8⟩,h9⟩,h10⟩:=h;have hnd:ps.Nodup:=by rw[<-h5];exact h4.sublist (List.take_sublist _ _)
 refine⟨⟨h1,h2,h3,h4,h5,fun y hy=>by simpa using oml h6 y hy,fun y hy=>by simpa using oml h7 y hy⟩,h8,h9,tr,fun kV doc pm an cdv ct us hl=>?_⟩;split at h10
 .rename_i as ha;rw[AE]at h10;subst h10;exact xV ha rfl hnd hl
 .cases h10
theorem YO:pU (KH h)=nZ h:=by
 unfold pU nZ nY;rw[oK];cases mO (jQ h mainGlobals "law")with
 |none=>rfl
 |some f=>simp only[aO,jB]
theorem YQ(e:vY c p (h.get? c)=true):PySem.W.CodeHd h c p:=by
 cases q:h.get? c with
 |none=>rw[q]at e;cases e
 |some o=>
  rw[q]at e;obtain⟨cl,di,da,sl⟩:=o;cases cl with
  |type ty=>
   cases da with
   |fields vs=>
    have e:(ty=="code"&&decide (11<vs.size)&&CO p (vs.getD 11 .none)&&CM (vs.getD 18 .none)&&rX (vs.getD 7 .none)&&CN (vs.getD 9 .none)&&rX (vs.getD 10 .none)&&!(c==p))=true:=e;simp only[Bool.and_eq_true,beq_iff_eq,decide_eq_true_eq,Bool.not_eq_true',beq_eq_false_iff_ne]at e;obtain⟨⟨⟨⟨⟨⟨⟨rfl,h11⟩,e2⟩,e3⟩,e4⟩,e5⟩,e6⟩,e7⟩:=e;have g11:vs.getD 11 .none=.ref p:=by
     cases g:vs.getD 11 .none with
     |ref r=>rw[g]at e2;rw[cK (show(r==p)=true from e2)]
     |_=>rw[g]at e2;cases e2
    have g18:∃x t,vs.getD 18 .none=.str x t:=by
     cases g:vs.getD 18 .none with
     |str x t=>exact⟨x,t,rfl⟩
     |_=>rw[g]at e3;cases e3
    have g7:∃x t,vs.getD 7 .none=.int x t:=by
     cases g:vs.getD 7 .none with
     |int x t=>exact⟨x,t,rfl⟩
     |_=>rw[g]at e4;cases e4
    have g9:∃x,vs.getD 9 .none=.bool x:=by
     cases g:vs.getD 9 .none with
     |bool x=>exact⟨x,rfl⟩
     |_=>rw[g]at e5;cases e5
    have g10:∃x t,vs.getD 10 .none=.int x t:=by
     cases g:vs.getD 10 .none with
     |int x t=>exact⟨x,t,rfl⟩
     |_=>rw[g]at e6;cases e6
    obtain⟨x18,t18,g18⟩:=g18;obtain⟨x7,t7,g7⟩:=g7;obtain⟨x9,g9⟩:=g9;obtain⟨x10,t10,g10⟩:=g10;refine⟨_,vs,x18,t18,x7,t7,x9,x10,t10,q,rfl,rfl,?_,g11,g18,g7,g9,g10,e7⟩;rw[qW h11];rw[Array.getD_eq_getD_getElem?,qW h11]at g11;exact aP some g11
   |_=>cases e
  |_=>cases e
theorem YR(e:rY p h=true)(KX:(KH h).In h1)(G:h1.Ns mainGlobals mg):∀h2,(KH h).In h2->h2.BuiltinsAt mg p:=fun h2 K2=>by
 unfold rY at e;cases q:jQ h mainGlobals "__builtins__" with
 |none=>rw[q]at e;cases e
 |some r=>
  cases r with
  |none=>rw[q]at e;cases e
  |some v=>
   cases v with
   |ref b=>
    rw[q]at e;have e:(!(b==builtinsNs)&&!(b==mainGlobals)&&!(b==p)&&(match h.get? b with
     |some ⟨.type ty,some d,.plain,_⟩=>ty=="module"&&d==builtinsNs
     |_=>false))=true:=e
    simp only[Bool.and_eq_true,Bool.not_eq_true',beq_eq_false_iff_ne]at e;obtain⟨⟨⟨e1,e2⟩,e3⟩,e4⟩:=e;split at e4
    .rename_i ty d sl ho;simp only[Bool.and_eq_true,beq_iff_eq]at e4;obtain⟨rfl,rfl⟩:=e4;exact⟨b,_,W.mg_of KX G (by rw[oK];exact q),e1,e2,e3,K2 b _ (by rw[jB];exact ho),rfl,rfl,rfl⟩
    .cases e4
   |_=>rw[q]at e;cases e
theorem YS{K:W.Frag}{mg mb:Mq}{fd:FuncData}{g:List T->a0 T}(KX:K.In s₁.heap)(hns:s₁.heap.Ns mainGlobals mg)(hb:s₁.heap.Ns builtinsNs mb)(hbb:∀x:Str,x≠"__name__"->mb x=bootBuiltins x)(hlim:s₁.heap.NoLimit)(hg:s₁.gens=#[])(ha:s₁.heap.get? a=some {cls:=.type "list",data:=.seq vs.toArray})(hi:IntsAre vs ns)(hl:ns.length<=sizeLine)(hr:Room k callerA)(hp:s₁.heap.get? p=some (PySem.W.tabObj #[]))(hKp:K.lookup p=none)(htb:∀q,pU K=some q->q=p)(hcd:PySem.W.CodeHd s₁.heap cc p)(F:∀base:Heap,K.In base->base.Ns mainGlobals mg->FnOk P w K mg base CX0 k fa fd [x] (spT K g))(hbind:∀(s:Shared)(u:Value),BindsTo s fd ⟨[u],[]⟩ [(x,u)])(law:g [.lst (ns.map .int)]=some (.bl true)):codeAny (model P w) callerA (.call (.ref fa) ⟨[.ref a],[]⟩) (fun r s'=>r=.ok (.ret (.bool true))/\OldK s₁.heap s'.heap/\s'.os=s₁.os/\AllBare s'.gens) s₁:=by
 have rv:=BQ hi;have lenV:=hi.length;have hap:a≠p:=fun z=>by rw[z,hp]at ha;cases ha
 have ri:∀(F:Hp)(ns:List Int),aH K F (ns.map .int) (ns.map V.int):=fun F ns=>by
  induction ns with
  |nil=>exact rfl
  |cons i r ih=>exact⟨_,_,rfl,rfl,ih⟩
 have core:∀H:Hp,Ls K (del H p) a (ns.map V.int)->HOk P w H s₁.heap->(∀b,H b≠none->b=a\/b=p)->(H a≠none->K.lookup a=none)->H p=some (.tbl #[])->(∀b,b≠p->H b=none\/∃ob xs,H b=some (.frz ob xs))->
   codeAny (model P w) callerA (.call (.ref fa) ⟨[.ref a],[]⟩) (fun r s'=>r=.ok (.ret (.bool true))/\OldK s₁.heap s'.heap/\s'.os=s₁.os/\AllBare s'.gens) s₁:=by
  intro H hS hok hA hK hHp hO;have base_of:∀{b:Addr}{o:Obj},s₁.heap.get? b=some o->H b=none->(kH s₁.heap H).get? b=some o:=fun e n=>KO e n;have noA:∀{b:Addr}{o:Obj}{es:Array DictEntry}{ep:Nat},s₁.heap.get? b=some o->o.data=.dict es ep->H b=none:=fun{b o es ep}e d=>by
   cases q:H b with
   |none=>rfl
   |some u=>
    rcases hA b (by rw[q];simp)with rfl|rfl
    .rw[ha]at e;cases e;cases(show Data.seq vs.toArray _=Data.dict es ep from d)
    .rw[hp]at e;cases e;cases(show Data.fields #[]=Data.dict es ep from d)
  have nsK:∀{b:Addr}{m:Mq},s₁.heap.Ns b m->(kH s₁.heap H).Ns b m:=fun{b m} ⟨o,es,ep,e,d,r⟩=>⟨o,es,ep,base_of e (noA e d),d,r⟩;have hKb:K.In (kH s₁.heap H):=fun b o e=>base_of (KX b o e) (by
   cases q:H b with
   |none=>rfl
   |some u=>
    rcases hA b (by rw[q];simp)with rfl|rfl
    .rw[hK (by rw[q];simp)]at e;cases e
    .rw[hKp]at e;cases e)
  have hM:Mod K mg (kH s₁.heap H):=⟨hKb,nsK hns,⟨mb,nsK hb,hbb⟩,let⟨mc,h1,h2⟩:=hlim;⟨mc,nsK h1,h2⟩⟩;have e0:Env0 P w K mg (kH s₁.heap H) callerA [] s₁ H:=⟨rfl,hM,fun b o e=>KP e,Nat.le_of_eq (KN _ _),trivial,fun b hb=>absurd (show b∈([]:List Addr)from hb) (by simp),hok,.of_eq hg⟩;have hsm:Same (del H p) H:=fun b u e=>(XZ e).2;have hsp:spT K g [.ref a] H (fun v _=>v=.bl true) fun _ _ _=>False:=⟨del H p,[.lst (ns.map .int)],.bl true,hsm,fun q hq=>by rw[htb q hq];exact⟨GH,#[],hHp,trivial,fun _ _ z=>by cases z⟩,⟨_,_,rfl,⟨a,_,rfl,hS,ri _ ns⟩,rfl⟩,law,fun v F' H' _ r=>r⟩;refine codeAny_mono ((F _ hKb (nsK hns)).run callerA [] s₁ H ⟨[.ref a],[]⟩ [.ref a] [.ref a] _ _ hr e0 (hbind s₁ (.ref a)) (.cons rfl .nil) hsp) fun r s' h=>?_;cases r with
  |error e=>exact h.elim
  |ok fl=>
   cases fl with
   |next=>exact False.elim h
   |brk=>exact False.elim h
   |cont=>exact False.elim h
   |ret u=>
    obtain⟨v,H',os,bare,un,hok',r',q⟩:=h;have q':v=.bl true:=q;subst q';obtain rfl:u=Value.bool true:=r';obtain⟨gM,hp'⟩:=un.tbls p #[] hHp;have hp2:s'.heap.get? p=some {cls:=.none,data:=.fields (#[]++gM)}:=hok' p _ hp';have kept:∀b o,b≠p->s₁.heap.get? b=some o->s'.heap.get? b=some o:=fun b o hbp e=>by
     rcases hO b hbp with z|⟨ob,xs,z⟩
     .exact un.keep b o e z (by intro z;exact absurd (show b∈([]:List Addr)from z) (by simp)) (by simp)
     .have z2:=un.frzs b ob _ z;obtain⟨e1,_⟩:=hok b _ z;obtain⟨e2,_⟩:=hok' b _ z2;rw[e]at e1;cases e1;exact e2
    refine⟨rfl,⟨fun b o e=>?_,fun b o e=>?_⟩,os,bare⟩
    .by_cases hbp:b=p
     .subst hbp;rw[hp]at e;cases e;exact .inr (.inl ⟨(hcd.tab hp).isCodeTable,rfl,#[],gM,rfl,hp2⟩)
     .exact .inl (kept b o hbp e)
    .by_cases hbp:b=p
     .subst hbp;exact⟨_,hp2⟩
     .exact⟨o,kept b o hbp e⟩
 cases hk:K.lookup a with
 |some o=>
  have e:=KX a o hk;rw[ha]at e;cases e;refine core (aL (fun _=>none) p (.tbl #[])) (.inr ⟨vs.toArray,_,hk,by rw[lE,lenV];exact hl,by simpa using rv⟩) (fun b u z=>?_) (fun b z=>?_) (fun z=>?_) bN fun b hb=>.inl (by rw[aR hb])
  .by_cases hb:b=p
   .subst hb;rw[bN]at z;cases z;exact hp
   .rw[aR hb]at z;cases z
  .by_cases hb:b=p
   .exact .inr hb
   .rw[aR hb]at z;exact absurd rfl z
  .rw[aR hap]at z;exact absurd rfl z
 |none=>
  have hHa:aL (aL (fun _=>none) a (.frz {cls:=.type "list",data:=.seq vs.toArray} (.lst (ns.map V.int)))) p (.tbl #[]) a=some (.frz {cls:=.type "list",data:=.seq vs.toArray} (.lst (ns.map V.int))):=by rw[aR hap];exact bN
  refine core (aL (aL (fun _=>none) a (.frz {cls:=.type "list",data:=.seq vs.toArray} (.lst (ns.map V.int)))) p (.tbl #[])) (.inl (.inr ⟨_,by rw[GI hap];exact hHa⟩)) (fun b u z=>?_) (fun b z=>?_) (fun _=>hk) bN fun b hb=>?_
  .by_cases hb:b=p
   .subst hb;rw[bN]at z;cases z;exact hp
   .by_cases hba:b=a
    .subst hba;rw[hHa]at z;cases z;exact⟨ha,by rw[bM];exact hl,vs,_,rv,ha⟩
    .rw[aR hb,aR hba]at z;cases z
  .by_cases hb:b=p
   .exact .inr hb
   .by_cases hba:b=a
    .exact .inl hba
    .rw[aR hb,aR hba]at z;exact absurd rfl z
  .by_cases hba:b=a
   .subst hba;exact .inr ⟨_,_,hHa⟩
   .exact .inl (by rw[aR hb,aR hba])
theorem YT(h:vZ o=true):o=some (PySem.W.tabObj #[]):=by
 cases o with
 |none=>cases h
 |some o=>
  obtain⟨cl,di,da,sl⟩:=o;cases cl with
  |none=>
   cases di with
   |none=>
    cases da with
    |fields vs=>have h:(vs.size==0&&sl.size==0)=true:=h;simp only[Bool.and_eq_true,beq_iff_eq]at h;rw[Array.eq_empty_of_size_eq_zero h.1,Array.eq_empty_of_size_eq_zero h.2]
    |_=>cases h
   |some _=>cases h
  |_=>cases h
open Ex
def YU:(boN.map fun n=>boX.map fun x=>fastBuiltinOwn n x)=boN.map fun n=>boX.map fun x=>boT n x:=by kernel_rfl
theorem GQ(h:W.clsIn K a=some cd):∃c d s,K.lookup a=some ⟨c,d,.cls cd,s⟩:=by
 unfold W.clsIn at h;split at h
 .rename_i e;cases h;exact⟨_,_,_,e⟩
 .cases h
theorem YV(h:oI K x c=some r):W.ownIn K x c=some r:=by
 cases c with
 |type n=>
  have h:(if boN.contains n&&boX.contains x then some (boT n x)else none)=some r:=h;split at h
  .rename_i e;rw[dF,List.contains_iff_mem,List.contains_iff_mem]at e;cases h;exact aP some (List.map_inj_left.mp (List.map_inj_left.mp YU n e.1) x e.2)
  .cases h
 |ref a=>obtain⟨cd,h1,h2⟩:=obs h;obtain⟨c,d,s,e⟩:=GQ h1;unfold W.ownIn;simp only[e];exact h2
 |_=>cases h
theorem GR{K:W.Frag}:∀l,aI K x l=some r->W.alongIn K x l=some r
 |[],h=>h
 |c::l,h=>by
  obtain⟨o,ho,h⟩:=obs h;rw[W.alongIn,YV ho];cases o with
  |none=>exact GR l h
  |some v=>exact h
theorem nC(h:fIn K C x=some r):W.findIn K (.ref C) x=some r:=by obtain⟨cd,h1,h2⟩:=obs h;obtain⟨c,d,s,e⟩:=GQ h1;unfold W.findIn;simp only[e];exact GR _ h2
def YW(K:W.Frag):W.specialIn K (.builtin "object.__class__") "__get__"=some (some (.builtin "getset_descriptor.__get__")):=by kernel_rfl
def YX(K:W.Frag):W.takesIn K (.builtin "object.__class__")=some true:=by kernel_rfl
def YY(K:W.Frag):W.findIn K (.type "type") "__call__"=some (some (.builtin "type.__call__")):=by kernel_rfl
def YZ:W.kitMeta "ValueError"=true:=by kernel_rfl
theorem ZA(h:wA K D=true):ErC K D:=by unfold wA at h;simp only[Bool.and_eq_true,beq_iff_eq]at h;obtain⟨⟨⟨⟨⟨⟨h1,h2⟩,h3⟩,h4⟩,h5⟩,h8⟩,h9⟩:=h;exact⟨nC h1,nC h2,h3,h4,nC h5,YW K,YX K,h8,nC h9⟩
theorem ZB(h:wB K cs DE D j=true):EK K cs D j/\W.exmOne K (.ref D) (.ref DE)=some true:=by
 unfold wB at h;simp only[Bool.and_eq_true,beq_iff_eq,decide_eq_true_eq]at h;obtain⟨⟨⟨⟨⟨h1,h2⟩,h3⟩,h4⟩,h5⟩,h6⟩:=h;refine⟨⟨ZA h1,h2,?_,h4⟩,?_⟩
 .show(if(Value.ref D==Value.type "ValueError")=true then some true else if W.kitMeta "ValueError"=true then W.mroIn K D (.type "ValueError")else none)=some true;rw[YZ,h3];rfl
 .show(if(W.mroIn K DE (.type "BaseException")==some true)=true then kC K D DE else none)=some true;rw[h5,h6];rfl
theorem ZC(h:pL C l=true):∃D,l=.ref C::.ref D::veL:=by
 unfold pL at h;split at h
 .rename_i a b x y z u;simp only[Bool.and_eq_true,beq_iff_eq]at h;obtain⟨⟨rfl,h2⟩,h3⟩:=h;cases b with
  |ref D=>exact⟨D,by rw[h3]⟩
  |_=>cases h2
 .cases h
theorem ZD(h:pM l=true):∃k0 k1 k2 k3 k5,l=[k0,k1,k2,k3,some (.builtin "ValueError.__new__"),k5]:=by
 unfold pM at h;split at h
 .rename_i k0 k1 k2 k3 k k5;rw[nM]at h;exact⟨k0,k1,k2,k3,k5,by rw[h]⟩
 .cases h
theorem ZE(h:wC C (K.lookup C)=true)(hs:W.findIn K (.ref C) "__setattr__"=some (some (.builtin "object.__setattr__"))):(∃k y N b l hd s8 sub ab cl dd k0 k1 k2 k3 k5,K.lookup C=some (excClassObj k y C N b l hd s8 sub ab cl dd k0 k1 k2 k3 k5 "ValueError.__new__")/\Mr "ValueError" l)/\XC K C:=by
 cases e:K.lookup C with
 |none=>rw[e]at h;cases h
 |some o=>
  rw[e]at h;obtain⟨c,dd,da,sl⟩:=o;cases da with
  |cls cd=>
   obtain⟨nm,bs,mro,N,q,hd,s8,sub,ab,col,dl⟩:=cd;have h:(c==.type "type"&&!dl&&hd&&pL C mro&&pM sl.toList)=true:=h;simp only[Bool.and_eq_true,beq_iff_eq,Bool.not_eq_true']at h;obtain⟨⟨⟨⟨h1,h2⟩,h3⟩,h4⟩,h5⟩:=h;obtain⟨D,h6⟩:=ZC h4;obtain⟨k0,k1,k2,k3,k5,h7⟩:=ZD h5;have h8:sl=#[k0,k1,k2,k3,some (.builtin "ValueError.__new__"),k5]:=by rw[<-Array.toArray_toList (xs:=sl),h7]
   subst h1 h2 h3 h6 h8;have ob:∃k y' N' b l hd s8 sub ab cl dd k0 k1 k2 k3 k5,K.lookup C=some (excClassObj k y' C N' b l hd s8 sub ab cl dd k0 k1 k2 k3 k5 "ValueError.__new__")/\Mr "ValueError" l:=⟨nm,q,N,bs,_,true,s8,sub,ab,col,dd,k0,k1,k2,k3,k5,e,rfl,rfl,rfl⟩;rw[<-e];exact⟨ob,ob,⟨_,[C,D],by unfold W.clsIn;rw[e],rfl,rfl⟩,hs⟩
  |_=>cases h
theorem ZF(h:wC C (K.lookup C)=true):W.keepIn K (.ref C)=true:=by
 cases e:K.lookup C with
 |none=>rw[e]at h;cases h
 |some o=>
  rw[e]at h;obtain⟨c,dd,da,sl⟩:=o;cases da with
  |cls cd=>
   have h:(c==.type "type"&&!cd.hasDel&&cd.hasDict&&pL C cd.mro&&pM sl.toList)=true:=h;simp only[Bool.and_eq_true,beq_iff_eq]at h;obtain⟨⟨⟨⟨rfl,_⟩,_⟩,_⟩,_⟩:=h;unfold W.keepIn;simp only[e];have z:W.specialIn K (.ref C) "__call__"=some (some (.builtin "type.__call__")):=by show((K.lookup C).map (·.cls)).bind (fun t=>W.findIn K t "__call__")=_;rw[e];exact YY K
   rw[z];decide +kernel
  |_=>cases h
theorem ZG{h:Heap}{fI:Addr}(e:mQ h (h.get? fI)=mS st):∃(oc:Value)(od:a0 Addr)(kV doc pm:Value)(an:a0 Addr)(cdv ct:Value)(osl:Array (a0 Value))(a:Addr)(oT:Obj)(n t1 t2:Nat),(KH h).lookup fI=some ⟨oc,od,.func (W.fnOf "__init__" mR (fE st) (dI st) (aM st) (.ref a) kV doc pm an cdv ct),osl⟩/\W.codeIn (KH h) cdv mR=true/\h.get? a=some oT/\oT.data=.seq #[.str "" t1,.int 0 t2] n:=by
 cases q:h.get? fI with
 |none=>rw[q]at e;cases e
 |some o=>
  rw[q]at e;obtain⟨oc,od,da,osl⟩:=o;cases da with
  |func f=>
   obtain⟨fn,fq,fp,fb,fsc,fg,fcl,fdf,kd,doc,pm,an,cd,ct,bi⟩:=f;cases fdf with
   |ref a=>
    cases qa:h.get? a with
    |none=>simp only[mQ,qa]at e;cases e
    |some oT=>
     obtain⟨tc,td,tda,tsl⟩:=oT;cases tda with
     |seq qc n=>
      simp only[mQ,qa]at e;have e:=dU e;have e1:=aP Prod.fst e;have e2:=aP (fun p=>p.2.1) e;have e3:=aP (fun p=>p.2.2) e;dsimp only at e1 e2 e3;unfold fnVI fnV at e1;dsimp only[W.fnOf]at e1;obtain⟨rfl,rfl,rfl,rfl,rfl,rfl,rfl,_,rfl⟩:=FnV.mk.inj e1;have hi:∃t1 t2,qc=#[.str "" t1,.int 0 t2]:=by
       rw[<-Array.toArray_toList (xs:=qc)];have hlen:qc.toList.length=2:=by have:=aP List.length e3;rw[bM]at this;exact this
       match hl:qc.toList,e3,hlen with
       |[x,y],e3,_=>
        injection e3 with g1 g2;injection g2 with g2 g3;cases x with
        |str z t1=>
         cases y with
         |int i t2=>cases g1;cases g2;exact⟨t1,t2,rfl⟩
         |_=>cases g2
        |_=>cases g1
       |[],_,h=>cases h
       |[_],_,h=>cases h
       |_::_::_::_,_,h=>simp at h
      obtain⟨t1,t2,rfl⟩:=hi;exact⟨oc,od,kd,doc,pm,an,cd,ct,osl,a,_,n,t1,t2,by rw[jB];exact q,by rw[GN];exact e2,qa,rfl⟩
     |_=>simp only[mQ,qa]at e;cases e
   |_=>cases e
  |_=>cases e
structure IniS(st:Stmt):Prop where
 fn:∀(P:Program)(w:World)(K:W.Frag)(mg:Mq)(base:Heap)(f:Addr)(dV kV doc pm cdv ct oc:Value)(an od:Option Addr)(osl:Array (Option Value)),mg "ValueError"=none->W.codeIn K cdv mR=true->
  K.lookup f=some ⟨oc,od,.func (W.fnOf "__init__" mR (fE st) (dI st) (aM st) dV kV doc pm an cdv ct),osl⟩->FnOk P w K mg base CX0 1 f (W.fnOf "__init__" mR (fE st) (dI st) (aM st) dV kV doc pm an cdv ct) ["self", "words", "at"] (vR K)
 bi:∀(a:Addr)(kV doc pm:Value)(an:Option Addr)(cdv ct u1 u2:Value)(t1 t2:Nat),∃k,bindArgs (W.fnOf "__init__" mR (fE st) (dI st) (aM st) (.ref a) kV doc pm an cdv ct) ⟨[u1,u2],[]⟩=(seqItems? (.ref a) >>= k)/\k (some #[.str "" t1,.int 0 t2])=(pure [(("self":Str),u1),(("words":Str),u2),(("at":Str),Value.int 0 t2)]:Sem (List (Str×Value)))
theorem ZH{P:Program}{w:World}{mg:Mq}{base h0 h:Heap}{C fI:Addr}(I:IniS st)(KX:(KH h0).In h)(hC:mg "NoRow"=some (.ref C))(nv:mg "ValueError"=none)(ck:rZ (KH h0) C fI=true)(e:mQ h0 (h0.get? fI)=mS st):ErW P w (KH h0) mg base "NoRow":=by
 unfold rZ at ck;simp only[Bool.and_eq_true,beq_iff_eq]at ck;obtain⟨⟨⟨⟨h1,h3⟩,h4⟩,h5⟩,h6⟩:=ck;have h2:=ZF h1;have h3:=nC h3;have h5:=nC h5;have h6:=nC h6;obtain⟨⟨k,y,N,b,l,hd,s8,sub,ab,cl,dd,k0,k1,k2,k3,k5,o1,o2⟩,xc⟩:=ZE h1 h5;obtain⟨oc,od,kV,doc,pm,an,cdv,ct,osl,a,oT,n,t1,t2,g1,g2,g3,g4⟩:=ZG e;refine⟨C,fI,_,k,y,N,b,l,hd,s8,sub,ab,cl,dd,k0,k1,k2,k3,k5,.int 0 t2,hC,o1,o2,h2,fun h' K=>⟨_,K,h3,h4⟩,xc,h6,I.fn P w (KH h0) mg base fI _ _ _ _ _ _ _ _ _ _ nv g2 g1,fun s us K hl=>?_,⟨_,rfl⟩⟩;obtain⟨u1,u2,rfl⟩:∃u1 u2,us=[u1,u2]:=by
  rw[cP]at hl;have hl:us.length=2:=by simpa using hl
  rcases us with _|⟨a,_|⟨b,_|⟨_,_⟩⟩⟩<;>simp at hl;exact⟨a,b,rfl⟩
 .obtain⟨kk,b1,b2⟩:=I.bi a kV doc pm an cdv ct u1 u2 t1 t2;exact BindsTo.of_defaults (T:=a) (k:=kk) rfl (K a oT (by rw[jB];exact g3)) g4 b1 b2
structure StX(D:Rxd)(st:Stmt)(ps:List Str):Prop where
 np:ps.length=D.np
 ns:(cM (aM st)).length=D.ns
 tr:dP (trR 60 ⟨aM st,cM (aM st)⟩) (dI st)=some D.body
 ew:∀x,clsN.contains x=true->glB (aM st) x=true->x="NoRow"
abbrev Tax:=List (Str×Rxd×Stmt×List Str)
def Tax.fn(t:Tax):Str->a0 Rxd:=fun f=>(t.map fun p=>(p.1,p.2.1)).lookup f
abbrev Tab.stsX(t:Tab)(sL sT:Stmt):List (Str×Stmt):=t.sts++[(("law":Str),sL),(dB,sT)]
def GS(fs:List (Str×Stmt))(sI:Stmt):PySem.W.Hook :=
 ⟨_,fun s=>wE (fs.map (·.1)) bnX s.heap,fun _=>some (lQ fs bnX,true,true,mS sI),fun _ h=>∃h0:Heap,(∀b o,h0.get? b=some o->h.get? b=some o)/\wE (fs.map (·.1)) bnX h0=some (lQ fs bnX,true,true,mS sI),
  fun _ s e=>⟨s.heap,fun _ _ e=>e,e⟩,fun _ _ _ ⟨h0,a,b⟩ k=>⟨h0,fun c o e=>k c o (a c o e),b⟩⟩
theorem GT{α β:Type}{f:α->a0 β}:∀{l:List α}{r:List β},dP f l=some r->r.length=l.length/\∀(i:Nat)(x:α),l[i]?=some x->∃y,f x=some y/\r[i]?=some y
 |[],r,h=>by cases h;exact⟨rfl,fun i x z=>by simp at z⟩
 |a::l,r,h=>by
  obtain⟨b,h1,h⟩:=obs h;obtain⟨bs,h2,h⟩:=obs h;cases h;obtain⟨g1,g2⟩:=GT h2;refine⟨by rw[gC,gC,g1],fun i x z=>?_⟩;cases i with
  |zero=>cases z;exact⟨b,h1,rfl⟩
  |succ i=>exact g2 i x z
theorem GU:∀(l:List Str)(x:Str)(i j:Nat),pK x l i=some j->i<=j/\l[j-i]?=some x
 |[],x,i,j,h=>by cases h
 |y::r,x,i,j,h=>by
  unfold pK at h;split at h
  .rename_i e;cases h;subst e;exact⟨Nat.le_refl _,by simp⟩
  .obtain⟨h1,h2⟩:=GU r x (i+1) j h;refine⟨by lia,?_⟩;rw[show j-i=(j-(i+1))+1 by lia];exact h2
theorem tV(KX:(KH h0).In h)(G:h.Ns mainGlobals mg)(e:mP (KH h0) x=some C):mg x=some (.ref C):=by
 unfold mP mO at e;split at e
 .rename_i q;cases e;exact W.mg_of KX G q
 .cases e
theorem walk_seeX{l:PySem.W.OpenLaw}{n k:Nat}{q:Program}{loose:List Str}{XP:(Mq)->Heap->Prop}{d:DefRec}{x:Str}{tab:Tab}{tax:Tax}{D:Fd}{sT sI:Stmt}(hn:l.most=some n)(hn2:n<=sizeLine)(hdf:d.params.defaults=[])(hr:Room (k+6) callerA)(hdn:d.name=("law":Str))(hst:∀p∈tab,St p.1 p.2.1 p.2.2.1 p.2.2.2)(hnt:∀p∈tab,glB (aM p.2.2.1) dB=false)(hsx:∀p∈tax,StX p.2.1 p.2.2.1 p.2.2.2/\∃D',(p.1,D',p.2.2.1,p.2.2.2)∈tab)(ST:ToldS sT)(bT:∀(kV doc pm:Value)(an:a0 Addr)(cdv ct:Value)(us:List Value),us.length=1->bindArgs (W.fnOf dB dB (fE sT) (dI sT) (aM sT) .none kV doc pm an cdv ct) ⟨us,[]⟩=pure ((["_law_deed_here"]:List Str).zip us))(SI:IniS sI)(SL:St "law" D st [x])(law:∀ns:List Int,ns.length<=n->runL tab.pr tax.fn D k [.lst (ns.map .int)]=some (.bl true)):PySem.W.WalkO q loose XP (GS (tab.stsX st sT) sI).says l.row.toRowW d [] (fun f vs=>PySem.call f vs):=by
 refine Att.attach_call hn hdf fun w s₀ s₁ mg mb fa o pm cd doc a vs ns G Y ho hd hcd hmg hobj hints hlen hg=>?_;obtain⟨h0,k0,e0⟩:=Y;obtain⟨p,hp,e⟩:=oms (show(nZ h0).map (seeX _ _ h0)=some _ from e0);have eA:nX ((tab.stsX st sT).map (·.1)) bnX (h0.hide p)=lQ (tab.stsX st sT) bnX:=aP Prod.fst e;have eB:(vZ (h0.get? p)&&(nZ (h0.hide p)==some p)&&(match nY (h0.hide p)with|some c=>vY c p ((h0.hide p).get? c)|none=>false)&&rY p (h0.hide p))=true:=aP (fun z=>z.2.1) e;have eC:ckX (KH (h0.hide p))=true:=aP (fun z=>z.2.2.1) e;have eD:wD (h0.hide p)=mS sI:=aP (fun z=>z.2.2.2) e;simp only[Bool.and_eq_true,beq_iff_eq]at eB;obtain⟨⟨⟨b1,b2⟩,b3⟩,b4⟩:=eB;have KX:(KH (h0.hide p)).In s₁.heap:=YL fun b o e=>k0 b o (PySem.W.of_hideAll [p] e);have hp0:=k0 p _ (YT b1);have hpn:(KH (h0.hide p)).lookup p=none:=by rw[jB];exact PySem.W.hideAll_none [p] (.head _)
 clear e e0 hp;generalize h0.hide p=h1 at *;cases hc:nY h1 with
 |none=>rw[hc]at b3;cases b3
 |some cc=>
  rw[hc]at b3;have hcd0:PySem.W.CodeHd h1 cc p:=YQ b3;have TB:TabK (KH h1) mg cc p:=⟨by rw[YO];exact b2,fun h K=>hcd0.keeps fun b o e=>K b o (by rw[jB];exact e),YR b4 KX G.T.g⟩;have nob:∀x∈bnames,mg x=none:=fun x hx=>PySem.W.mg_none_of KX G.T.g (by rw[oK];exact GO eA (dH _ hx));have nv:mg "ValueError"=none:=PySem.W.mg_none_of KX G.T.g (by rw[oK];exact GO eA (.head _));have fn:∀q∈tab.stsX st sT,∃f fd,W.nsIn (KH h1) mainGlobals q.1=some (some (.ref f))/\Fun (KH h1) q.1 q.1 q.2 f fd:=fun q hq=>YM (YN (p:=q) eA hq);have one:∀q∈tab,∃a fd,FnD (KH h1) mg q.1 q.2.1 q.2.2.1 a fd q.2.2.2:=fun q hq=>by obtain⟨f,fd,g1,FU⟩:=fn (q.1,q.2.2.1) (List.mem_append_left _ (fS.mpr ⟨q,hq,rfl⟩));have S:=hst q hq;exact⟨f,fd,⟨_,_,FU⟩,S.sc,S.np,S.ns,S.tr,W.mg_of KX G.T.g g1,FU.kp,FU.binds S.bi,hnt q hq⟩
  have L:∀f D,lS f=true->tab.pr.fn f=some D->(∃st a fd ps,FnD (KH h1) mg f D st a fd ps):=fun f D _ hf=>by obtain⟨q,hq,e⟩:=omm (xW (show tab.fns.lookup f=some D from hf));cases e;obtain⟨a,fd,M⟩:=one q hq;exact⟨_,_,_,_,M⟩
  have kn:∀base n,nA l.prog w (KH h1) mg base tab.pr n:=fun base n=>FZ L nob n;unfold ckX at eC;split at eC
  .rename_i cls DE CR q1 q2 q3;rw[dF]at eC;obtain⟨z1,z2⟩:=eC;have hCR:=tV KX G.T.g q3;obtain⟨fI,hfI,z3,z4⟩:∃fI,sA (KH h1) CR=some fI/\rZ (KH h1) CR fI=true/\mQ h1 (h1.get? fI)=mS sI:=by
    cases hi:sA (KH h1) CR with
    |none=>rw[hi]at z2;cases z2
    |some fI=>rw[hi]at z2;refine⟨fI,rfl,z2,?_⟩;unfold wD at eD;rw[q3,bB,hi]at eD;exact eD
   have ew:∀base,ErW l.prog w (KH h1) mg base "NoRow":=fun base=>ZH SI KX hCR nv z3 z4;obtain⟨y1,y2⟩:=GT (show dP (mP (KH h1)) clsN=some cls from q1);have LX:∀base f D,tax.fn f=some D->∃st a fd ps,FnX l.prog w (KH h1) mg base f D st a fd ps:=fun base f D hf=>by obtain⟨q,hq,e⟩:=omm (xW hf);cases e;obtain⟨SX,D',hD'⟩:=hsx q hq;obtain⟨a,fd,M⟩:=one _ hD';exact⟨_,a,fd,_,M.qu,M.sc,SX.np,SX.ns,SX.tr,M.mg,M.kp,M.bi,M.nt,fun x hx hg=>by rw[SX.ew x hx hg];exact ew base⟩
   obtain⟨f,fd,g1,FU⟩:=fn ("law",st) (iL _ (.head _));have hm:=W.mg_of KX G.T.g g1;rw[<-hdn,hmg]at hm;cases hm;obtain⟨ta,fdT,t1,FT⟩:=fn (dB,sT) (iL _ (.tail _ (.head _)));have TK:ToldK (KH h1) mg sT ta fdT cls DE:=by
    refine⟨FT,FT.binds (ps:=["_law_deed_here"]) bT,ST,W.mg_of KX G.T.g t1,tV KX G.T.g q2,?_,fun x hx=>?_,fun x Cc j hj hx=>?_⟩
    .refine List.ext_getElem? fun i=>?_;rw[iK,iK];show(clsN[i]?).map mg=_;cases hi:clsN[i]? with
     |none=>have:cls[i]?=none:=oV (by rw[y1];exact List.getElem?_eq_none_iff.mp hi);rw[this];rfl
     |some x=>obtain⟨y,a1,a2⟩:=y2 i x hi;rw[a2];show some (mg x)=some (some (.ref y));rw[tV KX G.T.g a1]
    .rcases omc hx with rfl|hx
     .exact nob _ (by decide +kernel)
     .rcases omc hx with rfl|hx
      .exact nv
      .cases omg hx;exact nob _ (by decide +kernel)
    .obtain⟨_,hj2⟩:=GU clsN x 0 j hj;obtain⟨y,a1,a2⟩:=y2 j x hj2;have:=tV KX G.T.g a1;rw[hx]at this;cases this;exact ZB (oml z1 (Cc,j) (List.mk_mem_zipIdx_iff_getElem?.mpr a2))
   have hcc:fd.code=.ref cc:=by
    have g:jQ h1 mainGlobals "law"=some (some (.ref fa)):=by rw[<-oK];exact g1
    unfold nY at hc;rw[g]at hc;obtain⟨oc,od,kV,doc,pm,an,cdv,ct,osl,rfl,lk,_⟩:=FU.ex;have hc:vX (h1.get? fa)=some cc:=hc;rw[<-jB,lk]at hc;show cdv=_;cases cdv with
    |ref c=>cases hc;rfl
    |_=>cases hc
   have hb:∀(s:Shared)(u:Value),BindsTo s fd ⟨[u],[]⟩ [(x,u)]:=fun s u=>by obtain⟨oc,od,kV,doc,pm,an,cdv,ct,osl,rfl,_,_⟩:=FU.ex;exact .of_eq (SL.bi kV doc pm an cdv ct [u] rfl)
   exact YS (g:=runL tab.pr tax.fn D k) KX G.T.g G.T.b G.T.builtins G.T.nolimit hg hobj hints (dY hlen hn2) hr hp0 hpn (fun q hq=>by rw[TB.tab]at hq;cases hq;rfl) (TB.hd _ KX)
    (fun base _ _=>YJ (LX base) (kn base) nob FU SL.sc SL.np SL.ns SL.tr hcc TB TK) hb (law ns hlen)
  .cases eC
def ZI(so:tS (k0::ks)):GJ [.Try [.Assign [.Name "_law_found" q0] (.Tuple [.Constant (.str "told") 0 q1,.Call (.Name "_law_deed_here" q2) [] [] q3] 0 q4) q5] [.ExceptHandler (some (.Name "DealError" pt)) (some "e") (k0::ks) ph] [] [] q6,.Return (some (.Name "_law_found" q7)) q8] :=
 fun X cs DE O H s D hs hf t gD mD I hl h=>XS hs hf t so gD mD I hl h
end Ev
namespace Ev.K04
open PySem
noncomputable def lZ:Fd:=⟨3,4,[.asg 3 (.comp (.idx (.w 0) (.c (.int 0))) 1 .plain [.idx (.w 0) (.c (.int 1))] none),
  .ret (.blt .toTuple (.comp (.idx (.w 2) (.mth .index (.w 4) (.w 0))) 1 .plain [.w 2] none))]⟩
noncomputable def gS:Fd:=⟨3,4,[.asg 3 (.idx (.w 1) (.c (.int 0))),
  .ite (.cmp .eq (.w 3) (.c (.str "not"))) [.ret (.call "opposite" [.call "holds" [.w 0,.idx (.w 1) (.c (.int 1)),.w 2]])] [],
  .ite (.lor (.cmp .eq (.w 3) (.c (.str "and"))) (.cmp .eq (.w 3) (.c (.str "or")))) [.ret (.call "joined" [.cmp .eq (.w 3) (.c (.str "or")),.comp (.call "holds" [.w 1,.w 0,.w 3]) 1 .plain [.sli (.w 1) (some (.c (.int 1))) none] none])] [],
  .ite (.cmp .eq (.w 3) (.c (.str "empty"))) [.ret (.cmp .eq (.call "worths_of" [.w 0,.w 2,.sli (.w 1) (some (.c (.int 1))) none]) (.tup [.c .non]))] [],
  .ite (.cmp .eq (.w 3) (.c (.str "is"))) [.ret (.call "compared" [.w 3,.bin .add (.call "worths_of" [.w 0,.w 2,.sli (.w 1) (some (.c (.int 1))) (some (.c (.int 2)))]) (.sli (.w 1) (some (.c (.int 2))) none)])] [],
  .ret (.call "compared" [.w 3,.call "worths_of" [.w 0,.w 2,.sli (.w 1) (some (.c (.int 1))) none]])]⟩
noncomputable def nE:Fd:=⟨1,1,[.ite (.cmp .isN (.w 0) (.c .non)) [.ret (.c .non)] [],
  .ret (.lnot (.w 0))]⟩
noncomputable def xY:List S:=[.ite (.cmp .isin (.w 0) (.w 1)) [.ret (.w 0)] [],
  .ite (.cmp .isin (.c .non) (.w 1)) [.ret (.c .non)] [],
  .ret (.lnot (.w 0))]
def qG:Fd:=⟨2,2,xY⟩
noncomputable def jS:Fd:=⟨2,2,[.ite (.cmp .isin (.c .non) (.w 1)) [.ret (.c .non)] [],
  .ite (.cmp .eq (.w 0) (.c (.str "is"))) [.ret (.cmp .eq (.idx (.w 1) (.c (.int 0))) (.idx (.w 1) (.c (.int 1))))] [],
  .ret (.cmp .lt (.idx (.w 1) (.c (.int 0))) (.idx (.w 1) (.c (.int 1))))]⟩
noncomputable def oM:Fd:=⟨2,2,[.ite (.cmp .lt (.w 1) (.blt .len (.w 0))) [.ret (.idx (.w 0) (.w 1))] [],
  .ret (.c (.int 0))]⟩
noncomputable def tW:Fd:=⟨2,3,[.asg 2 (.bin .mod (.bin .mul (.bin .add (.bin .add (.call "_law_cell_at" [.w 0,.w 1]) (.bin .mul (.c (.int 7919)) (.w 1))) (.c (.int 1))) (.c (.int 48271))) (.c (.int 2147483647))),
  .ret (.bin .mod (.bin .add (.bin .add (.bin .mul (.w 2) (.w 2)) (.bin .mul (.c (.int 7)) (.w 2))) (.w 1)) (.c (.int 2147483629)))]⟩
noncomputable def iO:Fd:=⟨2,3,[.asg 2 (.bin .mod (.bin .mul (.bin .add (.bin .add (.w 0) (.bin .mul (.c (.int 104729)) (.w 1))) (.c (.int 17))) (.c (.int 69621))) (.c (.int 2147483647))),
  .ret (.bin .mod (.bin .add (.bin .add (.bin .mul (.w 2) (.w 2)) (.bin .mul (.c (.int 3)) (.w 2))) (.w 1)) (.c (.int 2147483629)))]⟩
noncomputable def nF:Fd:=⟨1,1,[.ret (.comp (.idx (.w 0) (.c (.int 0))) 1 .plain [.idx (.w 0) (.c (.int 1))] none)]⟩
noncomputable def xZ:List S:=[.ret (.idx (.comp (.w 0) 1 .plain [.w 0] (some (.cmp .eq (.idx (.w 0) (.c (.int 0))) (.w 2)))) (.c (.int 0)))]
def yA:Fd:=⟨2,2,xZ⟩
noncomputable def qH:Fd:=⟨2,2,[.ret (.blt .toTuple (.comp (.idx (.w 2) (.mth .index (.call "_law_names" [.w 1]) (.w 0))) 1 .plain [.idx (.w 0) (.c (.int 2))] none))]⟩
noncomputable def qI:Fd:=⟨3,4,[.asg 3 (.blt .toTuple (.comp (.idx (.w 2) (.mth .index (.call "_law_names" [.w 1]) (.w 0))) 1 .plain [.w 2] none)),
  .ret (.idx (.lst [.w 3,.c .non]) (.blt .toInt (.cmp .isin (.c .non) (.w 3))))]⟩
noncomputable def yB:List S:=[.ret (.idx (.w 1) (.mth .index (.comp (.idx (.w 0) (.c (.int 0))) 1 .plain [.w 0] none) (.w 2)))]
def yC:Fd:=⟨3,3,yB⟩
noncomputable def iP:Fd:=⟨3,9,[.asg 3 (.idx (.w 0) (.c (.int 1))),
  .asg 4 (.idx (.w 3) (.bin .mod (.bin .fdiv (.w 1) (.c (.int 8))) (.blt .len (.w 3)))),
  .asg 5 (.bin .mod (.w 1) (.c (.int 8))),
  .ite (.land (.cmp .gt (.w 2) (.c (.int 1))) (.cmp .gt (.w 5) (.c (.int 4)))) [.asg 6 (.comp (.call "_law_test" [.w 1,.bin .fdiv (.call "_law_drawn" [.w 2,.w 0]) (.c (.int 4)),.bin .sub (.w 3) (.c (.int 1))]) 1 .plain [.tup [.c (.int 1),.c (.int 2)]] none),
  .ret (.idx (.lst [.tup [.c (.str "not"),.idx (.w 6) (.c (.int 0))],.tup [.c (.str "and"),.idx (.w 6) (.c (.int 0)),.idx (.w 6) (.c (.int 1))],.tup [.c (.str "or"),.idx (.w 6) (.c (.int 0)),.idx (.w 6) (.c (.int 1))]]) (.bin .sub (.w 5) (.c (.int 5))))] [],
  .ite (.cmp .eq (.w 5) (.c (.int 0))) [.ret (.tup [.c (.str "empty"),.idx (.w 4) (.c (.int 0))])] [],
  .asg 7 (.comp (.idx (.w 0) (.c (.int 0))) 1 .plain [.w 3] (some (.cmp .eq (.idx (.w 0) (.c (.int 1))) (.idx (.w 5) (.c (.int 1)))))),
  .ite (.cmp .eq (.w 5) (.c (.int 1))) [.ret (.tup [.c (.str "below"),.idx (.w 4) (.c (.int 0)),.idx (.w 7) (.bin .mod (.bin .fdiv (.w 1) (.c (.int 64))) (.blt .len (.w 7)))])] [],
  .asg 8 (.idx (.lst [.tup [.c (.int 0),.c (.int 1),.c (.int 2),.c (.int 3),.neg (.c (.int 5)),.c (.int 999)],.tup [.c (.str ""),.c (.str "a"),.c (.str "b"),.c (.str "ab"),.c (.str "x9"),.c (.str "zzzzzz")]]) (.blt .toInt (.cmp .eq (.idx (.w 4) (.c (.int 1))) (.c (.str "text"))))),
  .ret (.tup [.c (.str "is"),.idx (.w 4) (.c (.int 0)),.idx (.w 8) (.bin .mod (.bin .fdiv (.w 1) (.c (.int 64))) (.c (.int 6)))])]⟩
noncomputable def tX:List S:=[.asg 6 (.bin .fdiv (.call "_law_drawn" [.w 1,.bin .add (.c (.int 10)) (.w 4)]) (.c (.int 4))),
  .ite (.cmp .gt (.bin .mod (.w 6) (.c (.int 4))) (.c (.int 0))) [.app 3 (.tup [.w 5,.idx (.w 2) (.bin .mod (.bin .fdiv (.w 6) (.c (.int 4))) (.c (.int 6))),.cmp .gt (.bin .mod (.bin .fdiv (.w 6) (.c (.int 32))) (.c (.int 3))) (.c (.int 0))])] []]
def kW:Fd:=⟨2,10,[.asg 2 (.tup [.c (.str "whole"),.c (.str "whole"),.c (.str "text"),.c (.str "whole"),.c (.str "text"),.c (.str "whole")]),
  .asg 3 (.lst [.tup [.c (.str "id"),.idx (.w 2) (.bin .mod (.w 1) (.c (.int 6))),.c (.bl false)]]),
  .loop [4,5] .enum [.tup [.c (.str "n"),.c (.str "t"),.c (.str "u")]] tX,
  .asg 7 (.comp (.idx (.w 0) (.c (.int 0))) 1 .plain [.w 3] (some (.lnot (.tru (.idx (.w 0) (.c (.int 2))))))),
  .asg 8 (.tup [.c (.str "id")]),
  .ite (.land (.cmp .eq (.bin .mod (.bin .fdiv (.w 1) (.c (.int 8))) (.c (.int 4))) (.c (.int 0))) (.cmp .gt (.blt .len (.w 7)) (.c (.int 1)))) [.asg 8 (.idx (.lst [.tup [.c (.str "id"),.idx (.w 7) (.c (.int 1))],.tup [.idx (.w 7) (.c (.int 1)),.c (.str "id")]]) (.bin .mod (.bin .fdiv (.w 1) (.c (.int 32))) (.c (.int 2))))] [],
  .asg 9 (.bin .mod (.bin .fdiv (.w 1) (.c (.int 64))) (.blt .len (.w 3))),
  .ret (.tup [.w 0,.blt .toTuple (.bin .add (.sli (.w 3) (some (.w 9)) none) (.sli (.w 3) none (some (.w 9)))),.w 8,.tup []])]⟩
noncomputable def mB:Fd:=⟨2,6,[.asg 2 (.lst [.tup []]),
  .loop [3] .plain [.w 1] [.asg 4 (.lst []),
  .loop [5] .plain [.w 2] [.asg 4 (.bin .add (.w 4) (.comp (.bin .add (.w 6) (.tup [.idx (.w 0) (.c (.int 0))])) 1 .plain [.idx (.w 0) (.c (.int 1))] (some (.land (.cmp .eq (.idx (.w 0) (.c (.int 1))) (.w 4)) (.cmp .notin (.idx (.w 0) (.c (.int 0))) (.w 6))))))],
  .asg 2 (.w 4)],
  .ret (.w 2)]⟩
noncomputable def jT:Fd:=⟨3,11,[.asg 3 (.idx (.w 0) (.bin .mod (.bin .fdiv (.w 2) (.c (.int 8))) (.blt .len (.w 0)))),
  .asg 4 (.comp (.idx (.comp (.idx (.w 0) (.c (.int 1))) 1 .plain [.idx (.w 4) (.c (.int 1))] (some (.cmp .eq (.idx (.w 0) (.c (.int 0))) (.w 1)))) (.c (.int 0))) 1 .plain [.idx (.w 3) (.c (.int 2))] none),
  .asg 5 (.call "_law_pairs" [.w 1,.w 4]),
  .ite (.land (.cmp .lt (.bin .mod (.w 2) (.c (.int 8))) (.c (.int 5))) (.cmp .ne (.w 5) (.lst []))) [.asg 6 (.idx (.w 5) (.bin .mod (.bin .fdiv (.w 2) (.c (.int 64))) (.blt .len (.w 5)))),
  .asg 7 (.idx (.tup [.c (.str "along"),.c (.str "stop"),.c (.str "late"),.c (.str "gap"),.c (.str "along"),.c (.str "gap")]) (.bin .mod (.bin .fdiv (.w 2) (.c (.int 1024))) (.c (.int 6)))),
  .asg 8 (.comp (.w 0) 1 .plain [.idx (.w 1) (.c (.int 1))] (some (.land (.cmp .isin (.idx (.w 0) (.c (.int 0))) (.w 7)) (.lnot (.tru (.idx (.w 0) (.c (.int 2)))))))),
  .ite (.land (.cmp .ne (.w 8) (.lst [])) (.cmp .eq (.w 7) (.c (.str "gap")))) [.asg 7 (.c (.str "late"))] [],
  .ret (.tup [.c (.str "refers"),.w 6,.idx (.w 3) (.c (.int 0)),.w 7])] [],
  .asg 9 (.comp (.idx (.w 0) (.c (.int 0))) 1 .plain [.idx (.w 1) (.c (.int 1))] none),
  .ite (.cmp .eq (.bin .mod (.w 2) (.c (.int 8))) (.c (.int 5))) [.asg 10 (.bin .mod (.bin .fdiv (.w 2) (.c (.int 64))) (.blt .len (.w 9))),
  .ret (.tup [.c (.str "unlike"),.sli (.bin .add (.sli (.w 9) (some (.w 10)) none) (.sli (.w 9) none (some (.w 10)))) none (some (.bin .add (.c (.int 1)) (.bin .mod (.bin .fdiv (.w 2) (.c (.int 1024))) (.c (.int 2)))))])] [],
  .ret (.tup [.c (.str "check"),.call "_law_test" [.w 1,.bin .fdiv (.w 2) (.c (.int 64)),.bin .add (.c (.int 1)) (.bin .mod (.bin .fdiv (.w 2) (.c (.int 1024))) (.c (.int 3)))]])]⟩
noncomputable def tY:Fd:=⟨1,11,[.asg 1 (.lst [.c (.str "item"),.c (.str "user"),.c (.str "box"),.c (.str "log")]),
  .asg 2 (.bin .mod (.w 0) (.c (.int 4))),
  .asg 1 (.sli (.bin .add (.sli (.w 1) (some (.w 2)) none) (.sli (.w 1) none (some (.w 2)))) none (some (.idx (.tup [.c (.int 2),.c (.int 1),.c (.int 3),.c (.int 4),.c (.int 2),.c (.int 3)]) (.bin .mod (.bin .fdiv (.w 0) (.c (.int 4))) (.c (.int 6)))))),
  .asg 4 (.comp (.call "_law_bare" [.w 1,.bin .fdiv (.call "_law_drawn" [.w 2,.w 0]) (.c (.int 4))]) 2 .enum [.w 1] none),
  .asg 5 (.tup []),
  .loop [3,6] .enum [.w 4] [.asg 7 (.bin .fdiv (.call "_law_drawn" [.w 0,.bin .add (.c (.int 20)) (.w 3)]) (.c (.int 4))),
  .asg 8 (.lst []),
  .loop [9] .range [.idx (.tup [.c (.int 1),.c (.int 2),.c (.int 0),.c (.int 1),.c (.int 3)]) (.bin .mod (.w 7) (.c (.int 5)))] [.app 8 (.call "_law_rule" [.w 4,.w 6,.bin .fdiv (.call "_law_drawn" [.w 7,.w 9]) (.c (.int 4))])],
  .asg 10 (.blt .toTuple (.comp (.bin .add (.tup [.idx (.w 0) (.c (.int 0)),.blt .toTuple (.idx (.w 0) (.c (.int 1)))]) (.sli (.w 0) (some (.c (.int 2))) none)) 1 .plain [.w 8] none)),
  .asg 5 (.bin .add (.w 5) (.tup [.bin .add (.sli (.w 6) none (some (.c (.int 3)))) (.tup [.w 10])]))],
  .ret (.w 5)]⟩
noncomputable def iF:Fd:=⟨2,2,[.ite (.land (.tru (.idx (.w 0) (.c (.int 2)))) (.cmp .eq (.bin .mod (.w 1) (.c (.int 4))) (.c (.int 0)))) [.ret (.c .non)] [],
  .ite (.cmp .eq (.idx (.w 0) (.c (.int 1))) (.c (.str "text"))) [.ret (.idx (.lst [.c (.str "a"),.c (.str "b"),.c (.str ""),.c (.str "ab"),.c (.str "a"),.c (.str "x9")]) (.bin .mod (.bin .fdiv (.w 1) (.c (.int 4))) (.c (.int 6))))] [],
  .ret (.idx (.lst [.c (.int 0),.c (.int 1),.c (.int 2),.c (.int 3),.c (.int 1),.c (.int 2),.c (.int 4),.neg (.c (.int 5))]) (.bin .mod (.bin .fdiv (.w 1) (.c (.int 4))) (.c (.int 8))))]⟩
noncomputable def yD:List S:=[.ret (.blt .toTuple (.comp (.call "_law_worth" [.w 1,.bin .fdiv (.call "_law_drawn" [.w 3,.w 0]) (.c (.int 4))]) 2 .enum [.idx (.w 0) (.c (.int 1))] none))]
def yE:Fd:=⟨2,2,yD⟩
noncomputable def iQ:Fd:=⟨3,6,[.asg 3 (.idx (.w 1) (.c (.int 0))),
  .ite (.cmp .eq (.w 3) (.c (.str "not"))) [.ret (.bin .sub (.c (.int 2)) (.call "_law_level" [.w 0,.idx (.w 1) (.c (.int 1)),.w 2]))] [],
  .ite (.cmp .eq (.w 3) (.c (.str "and"))) [.ret (.blt .least (.comp (.call "_law_level" [.w 1,.w 0,.w 3]) 1 .plain [.sli (.w 1) (some (.c (.int 1))) none] none))] [],
  .ite (.cmp .eq (.w 3) (.c (.str "or"))) [.ret (.blt .most (.comp (.call "_law_level" [.w 1,.w 0,.w 3]) 1 .plain [.sli (.w 1) (some (.c (.int 1))) none] none))] [],
  .asg 4 (.idx (.w 2) (.mth .index (.call "_law_names" [.w 0]) (.idx (.w 1) (.c (.int 1))))),
  .ite (.cmp .eq (.w 3) (.c (.str "empty"))) [.ret (.bin .mul (.c (.int 2)) (.blt .toInt (.cmp .isN (.w 4) (.c .non))))] [],
  .asg 5 (.idx (.w 1) (.c (.int 2))),
  .ite (.cmp .eq (.w 3) (.c (.str "below"))) [.asg 5 (.idx (.w 2) (.mth .index (.call "_law_names" [.w 0]) (.idx (.w 1) (.c (.int 2)))))] [],
  .ite (.lor (.cmp .isN (.w 4) (.c .non)) (.cmp .isN (.w 5) (.c .non))) [.ret (.c (.int 1))] [],
  .ret (.bin .mul (.c (.int 2)) (.blt .toInt (.lor (.land (.cmp .eq (.w 3) (.c (.str "is"))) (.cmp .eq (.w 4) (.w 5))) (.land (.cmp .eq (.w 3) (.c (.str "below"))) (.cmp .lt (.w 4) (.w 5))))))]⟩
theorem cO(h:P.fn f=some D)(hl:ts.length=D.np):run P (n+1) f ts=bG (aC (glo P (run P n)) D.body (cD D ts)):=by rw[run,h];simp[hl]
noncomputable def cF(a k:Int):Int:=((a+104729*k+17)*69621%2147483647*((a+104729*k+17)*69621%2147483647)+3*((a+104729*k+17)*69621%2147483647)+k)%2147483629
noncomputable def kX(a k:Int):Int:=((a+7919*k+1)*48271%2147483647*((a+7919*k+1)*48271%2147483647)+7*((a+7919*k+1)*48271%2147483647)+k)%2147483629
theorem yF(h0:0<=a)(h1:a<2147483647):nU a=true:=by unfold nU;rw[dX (by lia),dX (by lia)];rfl
theorem GV(a:Int):nU (a%2147483647)=true:=yF (lH _ (by decide)) (lG _ (by decide))
theorem kY(h:P.fn "_law_drawn"=some iO)(n:Nat)(a k:Int):run P (n+1) "_law_drawn" [.int a,.int k]=some (.int (cF a k)):=by rw[cO h rfl];simp[iO,aC,evS,evE,cD,aA,aS,aN,Sl.get,Sl.frz,bO,cC,kJ,dA,dO,fresh,bG,glo,SZ,GV,yF,cF]
noncomputable def iG(ns:List Int)(k:Nat):Int:=ns.getD k 0
theorem jC{xs:List T}{k:Nat}{t:T}(h:xs[k]?=some t):cJ xs (k:Int)=some t:=by have hk:k<xs.length:=(ome h).1;unfold cJ ixI;rw[if_pos (by lia),if_pos (by lia)];simpa using h
theorem ZJ{P:Pr}(h:P.fn "_law_cell_at"=some oM)(n:Nat)(ns:List Int)(k:Nat):run P (n+1) "_law_cell_at" [.lst (ns.map .int),.int (k:Int)]=some (.int (iG ns k)):=by
 rw[cO h rfl];by_cases hk:k<ns.length
 .have e:cJ (ns.map T.int) (k:Int)=some (.int (iG ns k)):=jC (by simp[iG,hk]);have hd:decide ((k:Int)<(ns.length:Int))=true:=dX (by lia);simp[oM,aC,evS,evE,cD,aA,aS,aN,Sl.get,Sl.frz,bG,bF,aK,bW,glo,ltC,hk,e]
 .have e:iG ns k=0:=by simp[iG,List.getD_eq_getElem?_getD,List.getElem?_eq_none (Nat.le_of_not_lt hk)]
  simp[oM,aC,evS,evE,cD,aA,aS,aN,Sl.get,Sl.frz,bG,bF,aK,bW,glo,ltC,hk,e]
theorem ZK(hc:P.fn "_law_cell_at"=some oM)(h:P.fn "_law_mixed"=some tW)(n:Nat)(ns:List Int)(k:Nat):run P (n+2) "_law_mixed" [.lst (ns.map .int),.int (k:Int)]=some (.int (kX (iG ns k) k)):=by rw[cO h rfl];have e:=ZJ hc n ns k;simp[tW,aC,evS,evE,aD,cD,aA,aS,aN,bS,Sl.get,Sl.frz,bO,cC,kJ,dA,dO,fresh,bG,glo,SZ,GV,yF,kX,e]
structure Col where
 n:Str
 k:Str
 g:Bool
noncomputable def Col.t(c:Col):T:=.tup [.str c.n,.str c.k,.bl c.g]
noncomputable def kinds6:List Str:=["whole", "whole", "text", "whole", "text", "whole"]
def eQ(i:Int):Str:=kinds6.getD (i%6).toNat "whole"
theorem ZL{xs:List T}{m:Nat}(hm:xs.length=m)(h0:0<m)(i:Int):cJ xs (i%(m:Int))=some (xs.getD (i%(m:Int)).toNat .non):=by have h1:0<=i%(m:Int):=lH _ (by lia);have h2:i%(m:Int)<(m:Int):=lG _ (by lia);unfold cJ ixI;rw[if_pos h1,if_pos (by lia)];simp only[aO,List.getD_eq_getElem?_getD];rw[dM (by lia)];rfl
theorem GW(i:Int):cJ [.str "whole",.str "whole",.str "text",.str "whole",.str "text",.str "whole"] (i%6)=some (.str (eQ i)):=by
 have h1:0<=i%6:=lH _ (by decide);have h2:i%6<6:=lG _ (by decide);have e:=ZL (xs:=[.str "whole",.str "whole",.str "text",.str "whole",.str "text",.str "whole"]) (m:=6) rfl (by decide) i;have e':((6:Nat):Int)=6:=rfl;rw[e']at e;rw[e,eQ,kinds6];have:(i%6).toNat=0\/(i%6).toNat=1\/(i%6).toNat=2\/(i%6).toNat=3\/(i%6).toNat=4\/(i%6).toNat=5:=by lia
 rcases this with z|z|z|z|z|z<;>rw[z]<;>rfl
def hW(k j:Int)(nm:Str):List Col:=if 0<cF k (10+j)/4%4 then[⟨nm,eQ (cF k (10+j)/4/4),decide (0<cF k (10+j)/4/32%3)⟩]else[]
def bZ(k:Int):List Col:=[⟨"id",eQ k,false⟩]++(hW k 0 "n"++(hW k 1 "t"++hW k 2 "u"))
def bK(h:evS G s τ=some (.nx τ')):aC G (s::ss) τ=aC G ss τ':=by rw[aC,h];rfl
def dG(h:evS G s τ=some (.rt t)):aC G (s::ss) τ=some (.rt t):=by rw[aC,h];rfl
theorem bC(h0:aS (aN e) τ=τ)(h1:evE G e (aA τ)=some t)(h2:τ.set i (dO e t)=τ'):aC G (.asg i e::ss) τ=aC G ss τ':=bK (by rw[evS,h0,h1,<-h2];rfl)
theorem bY(h0:aS (aN e) τ=τ)(h1:evE G e (aA τ)=some t):aC G (.ret e::ss) τ=some (.rt t):=dG (by rw[evS,h0,h1];rfl)
theorem bJ(h0:aS (aN c) τ=τ)(h1:evE G c (aA τ)=some (.bl false)):aC G (.ite c a []::ss) τ=aC G ss τ:=bK (by rw[evS,h0,h1];rfl)
theorem cV(h0:aS (aN c) τ=τ)(h1:evE G c (aA τ)=some (.bl true))(h2:aC G a τ=some (.rt t)):aC G (.ite c a b::ss) τ=some (.rt t):=dG (by rw[evS,h0,h1];exact h2)
theorem iH{α:Type}{enc:α->T}{f:T->a0 (a0 T)}(g:α->a0 T):∀{l:List α},(∀a∈l,f (enc a)=some (g a))->eE f (l.map enc)=some (l.filterMap g)
 |[],_=>rfl
 |a::l,h=>by rw[bE,eE,h a fK,iH g fun b hb=>h b (dH _ hb),jK];cases g a<;>rfl
noncomputable def gA(cs:List Col):List Str:=cs.filterMap fun c=>if c.g then none else some c.n
def jD(k:Int)(cs:List Col):List Str:=if k/8%4=0/\1<(gA cs).length then(if k/32%2=0 then["id",(gA cs).getD 1 "id"]else[(gA cs).getD 1 "id", "id"])else["id"]
def fA{α:Type}(cs:List α)(b:Nat):List α:=cs.drop b++cs.take b
theorem qJ(k j:Int)(nm:Str):(hW k j nm).length<=1:=by unfold hW;split<;>simp
theorem GX(k:Int):1<=(bZ k).length/\(bZ k).length<=4:=by have h1:=qJ k 0 "n";have h2:=qJ k 1 "t";have h3:=qJ k 2 "u";unfold bZ;simp only[List.length_append,List.length_cons,List.length_nil];lia
theorem tZ(xs:List T)(b:Nat)(h:b<=xs.length):cut xs (some (b:Int)) none=xs.drop b:=by
 unfold cut gZ;have e:min ((b:Int)).toNat xs.length=b:=by lia
 simp only[show ¬((b:Int)<0) by lia,if_false,e];rw[List.take_of_length_le];simp
theorem uA(xs:List T)(b:Nat)(h:b<=xs.length):cut xs none (some (b:Int))=xs.take b:=by
 unfold cut gZ;have e:min ((b:Int)).toNat xs.length=b:=by lia
 simp only[show ¬((b:Int)<0) by lia,if_false,e];simp
noncomputable def gU(nm:Str)(cs:List Col)(key:List Str)(rules:List T):T:=.tup [.str nm,.tup (cs.map Col.t),.tup (key.map .str),.tup rules]
abbrev kd6:T:=.tup [.str "whole",.str "whole",.str "text",.str "whole",.str "text",.str "whole"]
theorem ZM(e:G.call "_law_drawn" [.int k,.int (10+j)]=some (.int (cF k (10+j))))(hl:cs.length<=10):((bL [4,5] (.tup [.int j,.str x]) [nm,T.int k,kd6,.own (cs.map Col.t),s4,s5,s6,.no,.no,.no]).bind fun τ'=>aC G tX τ') =some (.nx [nm,T.int k,kd6,.own ((cs++hW k j x).map Col.t),T.int j,T.str x,T.int (cF k (10+j)/4),.no,.no,.no]):=by
 show aC G tX [nm,T.int k,kd6,.own (cs.map Col.t),T.int j,T.str x,s6,.no,.no,.no]=_;generalize hq:cF k (10+j)=q at e;refine(bC (t:=.int (q/4)) (τ':=[nm,T.int k,kd6,.own (cs.map Col.t),T.int j,T.str x,T.int (q/4),.no,.no,.no]) rfl (by simp[evE,aD,aA,Sl.get,bO,cC,cZ,e]) rfl).trans ?_;unfold hW;rw[hq];have hc:evE G (.cmp .gt (.bin .mod (.w 6) (.c (.int 4))) (.c (.int 0))) (aA [nm,T.int k,kd6,.own (cs.map Col.t),T.int j,T.str x,T.int (q/4),.no,.no,.no])=some (.bl (decide (0<q/4%4))):=rfl;by_cases h:0<q/4%4
 .rw[if_pos h];have hz:(cs.map Col.t).length<16777216:=by rw[bM];lia
  have e3:evE G (.tup [.w 5,.idx (.w 2) (.bin .mod (.bin .fdiv (.w 6) (.c (.int 4))) (.c (.int 6))),.cmp .gt (.bin .mod (.bin .fdiv (.w 6) (.c (.int 32))) (.c (.int 3))) (.c (.int 0))]) (aA [nm,T.int k,kd6,.own (cs.map Col.t),T.int j,T.str x,T.int (q/4),.no,.no,.no])=some (Col.t ⟨x,eQ (q/4/4),decide (0<q/4/32%3)⟩):=by simp[evE,aD,aA,Sl.get,bO,dA,cZ,aK,GW,bF,Col.t]
  have e4:aC G [.app 3 (.tup [.w 5,.idx (.w 2) (.bin .mod (.bin .fdiv (.w 6) (.c (.int 4))) (.c (.int 6))),.cmp .gt (.bin .mod (.bin .fdiv (.w 6) (.c (.int 32))) (.c (.int 3))) (.c (.int 0))])] [nm,T.int k,kd6,.own (cs.map Col.t),T.int j,T.str x,T.int (q/4),.no,.no,.no]=some (.nx [nm,T.int k,kd6,.own ((cs++[(⟨x,eQ (q/4/4),decide (0<q/4/32%3)⟩:Col)]).map Col.t),T.int j,T.str x,T.int (q/4),.no,.no,.no]):=by refine(bK (τ':=[nm,T.int k,kd6,.own ((cs++[(⟨x,eQ (q/4/4),decide (0<q/4/32%3)⟩:Col)]).map Col.t),T.int j,T.str x,T.int (q/4),.no,.no,.no]) ?_).trans rfl;rw[evS];refine Eq.trans (aP (fun o=>Option.bind o _) e3) ?_;show(if(cs.map Col.t).length<SZ then _ else none)=_;rw[if_pos hz,gY];rfl
  exact(bK (τ':=[nm,T.int k,kd6,.own ((cs++[(⟨x,eQ (q/4/4),decide (0<q/4/32%3)⟩:Col)]).map Col.t),T.int j,T.str x,T.int (q/4),.no,.no,.no]) (by rw[evS];refine Eq.trans (aP (fun o=>Option.bind o _) (hc.trans (by rw[dX h]))) ?_;exact e4)).trans rfl
 .rw[if_neg h,gI];exact(bJ rfl (hc.trans (by rw[eN h]))).trans rfl
theorem ZN(hd:P.fn "_law_drawn"=some iO)(n:Nat)(nm:T)(k:Int):∃a b c,bU (fun x τ=>(bL [4,5] x τ).bind fun τ'=>aC (glo P (run P (n+1))) tX τ') [.tup [.int 0,.str "n"],.tup [.int 1,.str "t"],.tup [.int 2,.str "u"]] [.val nm,.val (.int k),.val kd6,.own [Col.t ⟨"id",eQ k,false⟩],.no,.no,.no,.no,.no,.no] =some (.nx [.val nm,.val (.int k),.val kd6,.own ((bZ k).map Col.t),.val a,.val b,.val c,.no,.no,.no]):=by
 have c0:=qJ k 0 "n";have c1:=qJ k 1 "t";have st:=fun(j:Int)(x:Str)(cs:List Col)(s4 s5 s6:Sl)(hl:cs.length<=10)=>ZM (G:=glo P (run P (n+1))) (nm:=nm) (k:=k) (j:=j) (x:=x) (cs:=cs) (s4:=s4) (s5:=s5) (s6:=s6) (kY hd n k (10+j)) hl;refine⟨.int 2,.str "u",.int (cF k (10+2)/4),?_⟩;rw[bU,show[Col.t ⟨"id",eQ k,false⟩]=([⟨"id",eQ k,false⟩]:List Col).map Col.t from rfl,st 0 "n" _ _ _ _ (by simp)];dsimp only[aO];rw[bU,st 1 "t" _ _ _ _ (by simp;lia)];dsimp only[aO];rw[bU,st 2 "u" _ _ _ _ (by simp;lia)];dsimp only[aO];rw[bU,bZ,kF,kF]
theorem ZO(cs:List Col):(cs.filterMap fun c=>if c.g then none else some (T.str c.n))=(gA cs).map T.str:=by
 unfold gA
 induction cs with
 |nil=>rfl
 |cons c cs ih=>simp only[List.filterMap_cons];cases c.g<;>simp[ih]
theorem cG(a:T)(r:List T):cJ (a::r) 0=some a:=by simp[cJ,ixI]
def cH(a b:T)(r:List T):cJ (a::b::r) 1=some b:=by have:=jC (xs:=a::b::r) (k:=1) (t:=b) rfl;exact this
def fQ(a b c:T)(r:List T):cJ (a::b::c::r) 2=some c:=by have:=jC (xs:=a::b::c::r) (k:=2) (t:=c) rfl;exact this
def yG(a b c d:T)(r:List T):cJ (a::b::c::d::r) 3=some d:=by have:=jC (xs:=a::b::c::d::r) (k:=3) (t:=d) rfl;exact this
theorem ZP(i:Int):i%2=0\/i%2=1:=by lia
theorem qK(h0:aS (aN e) τ=τ0)(h1:evE G e (aA τ0)=some t)(h2:τ0.set i (dO e t)=τ'):aC G (.asg i e::ss) τ=aC G ss τ':=bK (by rw[evS,h0,h1,<-h2];rfl)
def bareT2:List S:=kW.body.drop 3
section
variable {G:Glo}{nm CL KT PL:T}{k:Int}{s4 s5 s6:Sl}{l p:Nat}
theorem ZQ{by_:Nat}{cs:List T}{id1:Str}{key:List Str}(hcs:CL=.lst cs)(hl:0<cs.length)(hz:cs.length<=1000)(hb:k/64%(cs.length:Int)=(by_:Int))(hbl:by_<=cs.length)(lp:bW .len PL=some (.int (p:Int)))(ip:1<p->aK PL (.int 1)=some (.str id1))(hk:key=if k/8%4=0/\1<p then(if k/32%2=0 then([("id":Str),id1]:List Str)else([id1, "id"]:List Str))else(["id"]:List Str)):aC G (bareT2.drop 1) [nm,T.int k,KT,CL,s4,s5,s6,PL,.no,.no]=some (.rt (.tup [nm,.tup (cs.drop by_++cs.take by_),.tup (key.map .str),.tup []])):=by
 refine(bC (t:=.tup [.str "id"]) (τ':=[nm,T.int k,KT,CL,s4,s5,s6,PL,T.tup [.str "id"],.no]) rfl (by simp[evE,aD]) rfl).trans ?_;have hc:evE G (.land (.cmp .eq (.bin .mod (.bin .fdiv (.w 1) (.c (.int 8))) (.c (.int 4))) (.c (.int 0))) (.cmp .gt (.blt .len (.w 7)) (.c (.int 1)))) (aA [nm,T.int k,KT,CL,s4,s5,s6,PL,T.tup [.str "id"],.no])=some (.bl (decide (k/8%4=0/\1<p))):=by
  have e1:evE G (.cmp .eq (.bin .mod (.bin .fdiv (.w 1) (.c (.int 8))) (.c (.int 4))) (.c (.int 0))) (aA [nm,T.int k,KT,CL,s4,s5,s6,PL,T.tup [.str "id"],.no])=some (.bl (k/8%4==0)):=rfl;rw[evE,e1];by_cases h1:k/8%4=0
  .rw[show(k/8%4==0)=true by simpa using h1];simp[evE,aA,Sl.get,lp,bF,h1];lia
  .rw[show(k/8%4==0)=false by simpa using h1];simp[h1]
 have mid:aC G (bareT2.drop 2) [nm,T.int k,KT,CL,s4,s5,s6,PL,T.tup [.str "id"],.no]=aC G (bareT2.drop 3) [nm,T.int k,KT,CL,s4,s5,s6,PL,T.tup (key.map .str),.no]:=by
  by_cases h:k/8%4=0/\1<p
  .rw[if_pos h]at hk;have i1:=ip h.2;have e8:evE G (.idx (.lst [.tup [.c (.str "id"),.idx (.w 7) (.c (.int 1))],.tup [.idx (.w 7) (.c (.int 1)),.c (.str "id")]]) (.bin .mod (.bin .fdiv (.w 1) (.c (.int 32))) (.c (.int 2)))) (aA [nm,T.int k,KT,CL,s4,s5,s6,PL,T.tup [.str "id"],.no])=cJ [.tup [.str "id",.str id1],.tup [.str id1,.str "id"]] (k/32%2):=by have il:∀l i,aK (.lst l) (.int i)=cJ l i:=fun _ _=>rfl;simp[evE,aD,aA,Sl.get,i1,bO,dA,cZ,il]
   refine bK ?_;rw[evS];refine Eq.trans (aP (fun o=>Option.bind o _) (hc.trans (by rw[dX h]))) ?_;refine(bC (t:=.tup (key.map .str)) rfl (e8.trans ?_) rfl).trans rfl;rw[hk];rcases ZP (k/32)with z|z
   .rw[z,if_pos rfl];exact cG _ _
   .rw[z,if_neg (by decide)];exact cH _ _ _
  .rw[if_neg h]at hk;subst hk;exact bJ rfl (hc.trans (by rw[eN h]))
 refine(show aC G (bareT2.drop 2) _=_ from mid).trans ?_;subst hcs;refine(bC (t:=.int (by_:Int)) (τ':=[nm,T.int k,KT,T.lst cs,s4,s5,s6,PL,T.tup (key.map .str),T.int (by_:Int)]) rfl (by have lc:bW .len (.lst cs)=some (.int (cs.length:Int)):=rfl;simp[evE,aA,Sl.get,lc,bO,dA,cZ,hl,hb]) rfl).trans (bY rfl ?_);have hz1:cs.length-by_+min by_ cs.length<=16777216:=by lia
 simp[evE,aD,evO,aA,Sl.get,asI,fN,tZ _ _ hbl,uA _ _ hbl,bO,cC,SZ,hz1,bW]
end
theorem ZR{P:Pr}(hd:P.fn "_law_drawn"=some iO)(hb:P.fn "_law_bare"=some kW)(n:Nat)(nm:Str)(k:Int):run P (n+2) "_law_bare" [.str nm,.int k]=some (gU nm (fA (bZ k) (k/64%((bZ k).length:Int)).toNat) (jD k (bZ k)) []):=by
 rw[cO hb rfl];obtain⟨a,b,c,el⟩:=ZN hd n (.str nm) k;show bG (aC (glo P (run P (n+1))) kW.body [T.str nm,T.int k,.no,.no,.no,.no,.no,.no,.no,.no])=_;generalize glo P (run P (n+1))=G at *;have hlen:=GX k;have hm0:0<=k/64%((bZ k).length:Int):=lH _ (by lia);have hm1:k/64%((bZ k).length:Int)<((bZ k).length:Int):=lG _ (by lia);generalize hby:(k/64%((bZ k).length:Int)).toNat=by_ at *;have hbi:k/64%((bZ k).length:Int)=(by_:Int):=by lia
 generalize hC:bZ k=cs at *;have hbl:by_<=cs.length:=by rw[hbi]at hm1;lia
 have p1:aC G kW.body [T.str nm,T.int k,.no,.no,.no,.no,.no,.no,.no,.no]=aC G (kW.body.drop 2) [T.str nm,T.int k,kd6,.own [Col.t ⟨"id",eQ k,false⟩],.no,.no,.no,.no,.no,.no] :=
  (bC (t:=kd6) (τ':=[T.str nm,T.int k,kd6,.no,.no,.no,.no,.no,.no,.no]) rfl (by simp[evE,aD,kd6]) rfl).trans (bC (t:=.lst [Col.t ⟨"id",eQ k,false⟩]) rfl (by simp[evE,aD,aA,Sl.get,kd6,bO,dA,aK,GW,Col.t]) rfl)
 have p2:aC G (kW.body.drop 2) [T.str nm,T.int k,kd6,.own [Col.t ⟨"id",eQ k,false⟩],.no,.no,.no,.no,.no,.no]=aC G bareT2 [T.str nm,T.int k,kd6,.own (cs.map Col.t),a,b,c,.no,.no,.no]:=bK (by rw[evS];simp only[bS,aN,List.append_nil,aS,aD,evE,List.length_cons,List.length_nil];simp only[Nat.reduceAdd,Nat.reduceLeDiff,if_true,cT,aO,items,eI];exact el);have e7:evE G (.comp (.idx (.w 0) (.c (.int 0))) 1 .plain [.w 3] (some (.lnot (.tru (.idx (.w 0) (.c (.int 2))))))) (aA [T.str nm,T.int k,kd6,T.lst (cs.map Col.t),a,b,c,.no,.no,.no])=some (.lst ((gA cs).map .str)):=by
  have hz':cs.length<=16777216:=by lia
  simp[evE,aD,evO,aA,Sl.get,items,bP,bnd,SZ,hz'];rw[iH (enc:=Col.t) (fun c=>if c.g then none else some (T.str c.n)) (fun c _=>by cases hg:c.g<;>simp[Col.t,hg,aK,cG,fQ,iD]),ZO]
 have p3:aC G bareT2 [T.str nm,T.int k,kd6,.own (cs.map Col.t),a,b,c,.no,.no,.no]=aC G (bareT2.drop 1) [T.str nm,T.int k,kd6,T.lst (cs.map Col.t),a,b,c,T.lst ((gA cs).map .str),.no,.no]:=qK rfl e7 rfl;rw[p1,p2,p3];have hk:=ZQ (G:=G) (nm:=.str nm) (KT:=kd6) (CL:=.lst (cs.map Col.t)) (cs:=cs.map Col.t) (PL:=.lst ((gA cs).map .str)) (k:=k) (s4:=.val a) (s5:=.val b) (s6:=.val c) (p:=(gA cs).length) (by_:=by_) (id1:=(gA cs).getD 1 "id") (key:=jD k cs) rfl (by rw[List.length_map];lia) (by rw[List.length_map];lia) (by rw[List.length_map];exact hbi) (by rw[List.length_map];exact hbl) (by simp[bW]) (fun h2=>jC (xs:=(gA cs).map T.str) (k:=1) (by rw[List.getElem?_map,List.getElem?_eq_getElem h2,List.getD_eq_getElem?_getD,List.getElem?_eq_getElem h2];rfl)) rfl;rw[hk,gU,fA,gY,List.map_drop,List.map_take];rfl
theorem GY{α:Type}{enc:α->T}{f:T->List Sl->a0 Out}(I:List α->List Sl->Prop):∀(l done:List α)(τ:List Sl),I done τ ->(∀l1 a l2,l=l1++a::l2->∀τ,I (done++l1) τ->∃τ',f (enc a) τ=some (.nx τ')/\I (done++l1++[a]) τ')->∃τ',bU f (l.map enc) τ=some (.nx τ')/\I (done++l) τ'
 |[],done,τ,h,_=>⟨τ,rfl,by rw[gI];exact h⟩
 |a::l,done,τ,h,hs=>by
  obtain⟨τ1,e1,h1⟩:=hs [] a l rfl τ (by rw[gI];exact h);rw[gI]at h1;obtain⟨τ2,e2,h2⟩:=GY I l (done++[a]) τ1 h1 fun l1 b l2 e τ hd=>by have:=hs (a::l1) b l2 (by rw[e];rfl) τ (by simpa using hd);simpa using this
  refine⟨τ2,?_,by rw[kF]at h2;exact h2⟩;rw[bE,bU,e1];exact e2
theorem fR{α:Type}{enc:α->T}{f:T->List Sl->a0 Out}(I:List α->List Sl->Prop)(l:List α)(τ:List Sl)(h:I [] τ)(hs:∀l1 a l2,l=l1++a::l2->∀τ,I l1 τ->∃τ',f (enc a) τ=some (.nx τ')/\I (l1++[a]) τ'):∃τ',bU f (l.map enc) τ=some (.nx τ')/\I l τ':=by
 have:=GY I l [] τ h fun l1 a l2 e τ hd=>by have:=hs l1 a l2 e τ (by simpa using hd);simpa using this
 simpa using this
theorem iR{α:Type}{enc:α->T}{cs:List α}(h:cs≠[])(i:Int):∃c∈cs,cJ (cs.map enc) (i%(cs.length:Int))=some (enc c):=by
 have hl:0<cs.length:=by cases cs with|nil=>exact absurd rfl h|cons _ _=>simp
 have h1:0<=i%(cs.length:Int):=lH _ (by lia);have h2:i%(cs.length:Int)<(cs.length:Int):=lG _ (by lia);obtain⟨j,hj⟩:∃j:Nat,i%(cs.length:Int)=(j:Int):=⟨(i%(cs.length:Int)).toNat,by lia⟩;rw[hj]at h2 ⊢;have hj':j<cs.length:=by lia
 refine⟨cs[j],kA _,jC ?_⟩;rw[iK,dM hj'];rfl
inductive Tst where
 |emp (c:Str)|bel (a b:Str)|isI (c:Str) (i:Int)|isS (c x:Str)|neg (t:Tst)|cnj (a b:Tst)|dsj (a b:Tst)
def Tst.t:Tst->T
 |.emp c=>.tup [.str "empty",.str c]
 |.bel a b=>.tup [.str "below",.str a,.str b]
 |.isI c i=>.tup [.str "is",.str c,.int i]
 |.isS c x=>.tup [.str "is",.str c,.str x]
 |.neg t=>.tup [.str "not",t.t]
 |.cnj a b=>.tup [.str "and",a.t,b.t]
 |.dsj a b=>.tup [.str "or",a.t,b.t]
noncomputable def qL:List Int:=[0,1,2,3,-5,999]
def Tst.ok:Nat->Tst->Prop
 |d,.emp c=>1<=d/\c.length<=6
 |d,.bel a b=>1<=d/\a.length<=6/\b.length<=6
 |d,.isI c i=>1<=d/\c.length<=6 /\ -1000<i/\i<1000/\i∈qL
 |d,.isS c x=>1<=d/\c.length<=6/\x.length<=6/\iE x=true
 |d+1,.neg t=>t.ok d
 |d+1,.cnj a b=>a.ok d/\b.ok d
 |d+1,.dsj a b=>a.ok d/\b.ok d
 |0,_=>False
def Tst.fit:Nat->Tst->Prop
 |d,.emp _=>1<=d/\True
 |d,.bel _ _=>1<=d/\True
 |d,.isI _ _=>1<=d/\True
 |d,.isS _ _=>1<=d/\True
 |d+1,.neg t=>t.fit d
 |d+1,.cnj a b=>a.fit d/\b.fit d
 |d+1,.dsj a b=>a.fit d/\b.fit d
 |0,_=>False
theorem Tst.ok.fit:∀{d:Nat}{t:Tst},t.ok d->t.fit d
 |d+1,.emp _,h=>⟨oW (dQ d),trivial⟩
 |0,.emp _,h=>absurd h.1 (by lia)
 |d+1,.bel _ _,h=>⟨oW (dQ d),trivial⟩
 |0,.bel _ _,h=>absurd h.1 (by lia)
 |d+1,.isI _ _,h=>⟨oW (dQ d),trivial⟩
 |0,.isI _ _,h=>absurd h.1 (by lia)
 |d+1,.isS _ _,h=>⟨oW (dQ d),trivial⟩
 |0,.isS _ _,h=>absurd h.1 (by lia)
 |d+1,.neg t,h=>Tst.ok.fit (t:=t) h
 |d+1,.cnj a b,h=>⟨Tst.ok.fit h.1,Tst.ok.fit h.2⟩
 |d+1,.dsj a b,h=>⟨Tst.ok.fit h.1,Tst.ok.fit h.2⟩
 |0,.neg _,h=>nomatch h
 |0,.cnj _ _,h=>nomatch h
 |0,.dsj _ _,h=>nomatch h
def Tst.inn(cs:List Col):Tst->Prop
 |.emp c=>∃o∈cs,o.n=c
 |.bel a b=>∃o∈cs,∃p∈cs,o.n=a/\p.n=b/\o.k=p.k
 |.isI c _=>∃o∈cs,o.n=c/\(o.k==("text":Str))=false
 |.isS c _=>∃o∈cs,o.n=c/\(o.k==("text":Str))=true
 |.neg t=>t.inn cs
 |.cnj a b=>a.inn cs/\b.inn cs
 |.dsj a b=>a.inn cs/\b.inn cs
def Sh(x:Str):Prop:=x.length<=6/\iE x=true
def oN(cs:List Col):Prop:=cs≠[]/\cs.length<=4/\∀c∈cs,Sh c.n/\c.k.length<=6
noncomputable def qM:List Str:=["", "a", "b", "ab", "x9", "zzzzzz"]
theorem ZS:∀x∈qM,iE x=true:=by decide +kernel
theorem ZT:∀x∈qM,x.length<=6:=by decide +kernel
theorem GZ:∀i∈qL,-1000<i/\i<1000:=by decide
theorem ZU(k:Int):∃i∈qL,cJ [.int 0,.int 1,.int 2,.int 3,.int (-5),.int 999] (k%6)=some (.int i):=by obtain⟨c,hc,e⟩:=iR (enc:=T.int) (cs:=qL) (by simp[qL]) k;exact⟨c,hc,e⟩
theorem ZV(k:Int):∃x∈qM,cJ [.str "",.str "a",.str "b",.str "ab",.str "x9",.str "zzzzzz"] (k%6)=some (.str x):=by obtain⟨c,hc,e⟩:=iR (enc:=T.str) (cs:=qM) (by simp[qM]) k;exact⟨c,hc,e⟩
noncomputable def alike(cs:List Col)(c:Col):List Str:=cs.filterMap fun o=>if o.k==c.k then some o.n else none
theorem ZW(cs:List Col)(c:Col):(cs.filterMap fun o=>if o.k==c.k then some (T.str o.n)else none)=(alike cs c).map T.str:=by
 unfold alike
 induction cs with
 |nil=>rfl
 |cons o cs ih=>simp only[List.filterMap_cons];split<;>simp_all
theorem ZX(h:x∈alike cs c):∃o∈cs,o.n=x/\o.k=c.k:=by
 unfold alike at h;obtain⟨o,ho,e⟩:=kD.mp h;split at e
 .rename_i hk;cases e;exact⟨o,ho,rfl,cK hk⟩
 .cases e
theorem HA(h:c∈cs):alike cs c≠[]:=by intro e;have:c.n∈alike cs c:=kD.mpr ⟨c,h,by simp⟩;rw[e]at this;cases this
section
variable {cs:List Col}
noncomputable def dJ(nm:T)(cs:List Col)(key rules:T):T:=.tup [nm,.tup (cs.map Col.t),key,rules]
def teB:List S:=iP.body.drop 3
def teC:List S:=iP.body.drop 4
def uB:evE G (.cmp .eq (.w 5) (.c (.int j))) (aA [s0,s1,s2,s3,s4,T.int k,s6,s7,s8])=some (.bl (k==j)):=rfl
theorem uC{G:Glo}{c:Col}{s0 s1 s2 s3 s5 s6 s7 s8:Sl}:evE G (.idx (.w 4) (.c (.int 0))) (aA [s0,s1,s2,s3,c.t,s5,s6,s7,s8])=some (.str c.n):=by simp[evE,aA,Sl.get,Col.t,aK,cG]
theorem HB{G:Glo}(hc:oN cs){c:Col}(hm:c∈cs)(TB:T)(k d:Int):∃t:Tst,aC G teC [TB,T.int k,T.int d,T.tup (cs.map Col.t),c.t,T.int (k%8),.no,.no,.no]=some (.rt t.t)/\(∀n,t.ok (n+1))/\t.inn cs:=by
 have hl:cs.length<=16777216:=by have:=hc.2.1;lia
 have hcm:=hc.2.2 c hm;by_cases h0:k%8=0
 .exact⟨.emp c.n,cV rfl (uB.trans (by rw[h0];rfl)) (bY rfl (by rw[evE,aD,aD,uC];rfl)),fun n=>⟨by lia,hcm.1.1⟩,c,hm,rfl⟩
 .have e7:evE G (.comp (.idx (.w 0) (.c (.int 0))) 1 .plain [.w 3] (some (.cmp .eq (.idx (.w 0) (.c (.int 1))) (.idx (.w 5) (.c (.int 1)))))) (aA [TB,T.int k,T.int d,T.tup (cs.map Col.t),c.t,T.int (k%8),.no,.no,.no])=some (.lst ((alike cs c).map .str)):=by
   simp[evE,aD,evO,aA,Sl.get,bF,aK,items,bP,bnd,SZ,hl];rw[iH (enc:=Col.t) (fun o=>if o.k==c.k then some (T.str o.n)else none) (fun o _=>by cases hk:(o.k==c.k)<;>simp[Col.t,cG,cH,eqC,dpP,eqT,hk]),ZW]
  have pre:aC G teC [TB,T.int k,T.int d,T.tup (cs.map Col.t),c.t,T.int (k%8),.no,.no,.no]=aC G (teC.drop 2) [TB,T.int k,T.int d,T.tup (cs.map Col.t),c.t,T.int (k%8),.no,T.lst ((alike cs c).map .str),.no] :=
   (bJ rfl (uB.trans (by rw[show(k%8==0)=false by simpa using h0]))).trans (bC rfl e7 rfl)
  rw[pre];generalize T.tup (cs.map Col.t)=CT;by_cases h1:k%8=1
  .obtain⟨x,hx,e⟩:=iR (enc:=T.str) (HA hm) (k/64);have hp:0<(alike cs c).length:=by
    have:=HA hm;cases q:alike cs c with
    |nil=>exact absurd q this
    |cons _ _=>simp
   obtain⟨o,ho,rfl,hk⟩:=ZX hx;refine⟨.bel c.n o.n,cV rfl (uB.trans (by rw[h1];rfl)) (bY rfl ?_),fun n=>⟨by lia,hcm.1.1,(hc.2.2 o ho).1.1⟩,c,hm,o,ho,rfl,rfl,hk.symm⟩;have e':evE G (.idx (.w 7) (.bin .mod (.bin .fdiv (.w 1) (.c (.int 64))) (.blt .len (.w 7)))) (aA [TB,T.int k,T.int d,CT,c.t,T.int (k%8),.no,T.lst ((alike cs c).map .str),.no])=some (.str o.n):=by simp[evE,aA,Sl.get,bW,bO,dA,cZ,hp,aK,e]
   rw[evE,aD,aD,aD,uC,e'];rfl
  .have pre2:aC G (teC.drop 2) [TB,T.int k,T.int d,CT,c.t,T.int (k%8),.no,T.lst ((alike cs c).map .str),.no]=aC G (teC.drop 3) [TB,T.int k,T.int d,CT,c.t,T.int (k%8),.no,T.lst ((alike cs c).map .str),.no]:=bJ rfl (uB.trans (by rw[show(k%8==1)=false by simpa using h1]));rw[pre2];generalize T.lst ((alike cs c).map T.str)=AL;obtain⟨i,hi,ei⟩:=ZU (k/64);obtain⟨x,hx,ex⟩:=ZV (k/64);cases ht:(c.k==("text":Str))with
   |true=>refine⟨.isS c.n x,(bC (t:=.tup [.str "",.str "a",.str "b",.str "ab",.str "x9",.str "zzzzzz"]) (τ':=[TB,T.int k,T.int d,CT,c.t,T.int (k%8),.no,AL,T.tup [.str "",.str "a",.str "b",.str "ab",.str "x9",.str "zzzzzz"]]) rfl (by simp[evE,aD,aA,Sl.get,Col.t,aK,cH,bF,eqC,dpP,eqT,ht,bW]) rfl).trans (bY rfl ?_),fun n=>⟨by lia,hcm.1.1,ZT x hx,ZS x hx⟩,c,hm,rfl,ht⟩;rw[evE,aD,aD,aD,uC];simp[evE,aD,aA,Sl.get,bO,dA,cZ,aK,ex,Tst.t]
   |false=>refine⟨.isI c.n i,(bC (t:=.tup [.int 0,.int 1,.int 2,.int 3,.int (-5),.int 999]) (τ':=[TB,T.int k,T.int d,CT,c.t,T.int (k%8),.no,AL,T.tup [.int 0,.int 1,.int 2,.int 3,.int (-5),.int 999]]) rfl (by simp[evE,aD,aA,Sl.get,Col.t,aK,cG,cH,bF,eqC,dpP,eqT,ht,bW]) rfl).trans (bY rfl ?_),fun n=>⟨by lia,hcm.1.1,(GZ i hi).1,(GZ i hi).2,hi⟩,c,hm,rfl,ht⟩;rw[evE,aD,aD,aD,uC];simp[evE,aD,aA,Sl.get,bO,dA,cZ,aK,ei,Tst.t]
theorem HC{G:Glo}{TB CT ct:T}{k D:Int}{l:Nat}(i1:aK TB (.int 1)=some CT)(l1:bW .len CT=some (.int (l:Int)))(hp:0<l)(i2:aK CT (.int (k/8%(l:Int)))=some ct):aC G iP.body [TB,T.int k,T.int D,.no,.no,.no,.no,.no,.no]=aC G teB [TB,T.int k,T.int D,CT,ct,T.int (k%8),.no,.no,.no] :=
 (bC (t:=CT) (τ':=[TB,T.int k,T.int D,CT,.no,.no,.no,.no,.no]) rfl (by simp[evE,aA,Sl.get,i1]) rfl).trans ((bC (t:=ct) (τ':=[TB,T.int k,T.int D,CT,ct,.no,.no,.no,.no]) rfl (by simp[evE,aA,Sl.get,l1,bO,dA,cZ,hp,i2]) rfl).trans (bC (t:=.int (k%8)) rfl (by simp[evE,aA,Sl.get,bO,dA]) rfl))
theorem yH:evE G (.land (.cmp .gt (.w 2) (.c (.int 1))) (.cmp .gt (.w 5) (.c (.int 4)))) (aA [s0,T.int k,T.int D,s3,s4,T.int (k%8),s6,s7,s8])=some (.bl (decide (1<D)&&decide (4<k%8))):=by cases h1:decide (1<D)<;>simp[evE,aA,Sl.get,bF,h1]
theorem ZY{P:Pr}(hd:P.fn "_law_drawn"=some iO)(ht:P.fn "_law_test"=some iP)(hc:oN cs)(nm key rules:T):∀(d:Nat)(n:Nat)(k:Int),∃t:Tst,run P (n+d+2) "_law_test" [dJ nm cs key rules,.int k,.int ((d+1:Nat):Int)]=some t.t/\t.ok (d+1)/\t.inn cs:=by
 have i1:aK (dJ nm cs key rules) (.int 1)=some (.tup (cs.map Col.t)):=by simp[dJ,aK,cH]
 have l1:bW .len (.tup (cs.map Col.t))=some (.int (cs.length:Int)):=by simp[bW]
 have hp:0<cs.length:=by cases cs with|nil=>exact absurd rfl hc.1|cons _ _=>simp
 have i2:∀k:Int,∃c∈cs,aK (.tup (cs.map Col.t)) (.int (k/8%(cs.length:Int)))=some c.t:=fun k=>by obtain⟨c,hm,ec⟩:=iR (enc:=Col.t) hc.1 (k/8);exact⟨c,hm,ec⟩
 intro d
 induction d with
 |zero=>intro n k;rw[cO ht rfl];show ∃t:Tst,bG (aC (glo P (run P (n+1))) iP.body [dJ nm cs key rules,T.int k,T.int 1,.no,.no,.no,.no,.no,.no])=_/\_;obtain⟨c,hm,ec⟩:=i2 k;obtain⟨t,e,h,hin⟩:=HB (G:=glo P (run P (n+1))) hc hm (dJ nm cs key rules) k 1;refine⟨t,?_,h 0,hin⟩;rw[HC i1 l1 hp ec];exact aP bG ((bJ rfl (yH.trans rfl)).trans e)
 |succ d ih=>
  intro n k;rw[show n+(d+1)+2=(n+d+2)+1 by lia,cO ht rfl];obtain⟨c,hm,ec⟩:=i2 k;have e1:(glo P (run P (n+d+2))).call "_law_drawn" [.int k,.int 1]=_:=kY hd (n+d+1) k 1;have e2:(glo P (run P (n+d+2))).call "_law_drawn" [.int k,.int 2]=_:=kY hd (n+d+1) k 2;obtain⟨t1,r1,o1,n1⟩:=ih n (cF k 1/4);obtain⟨t2,r2,o2,n2⟩:=ih n (cF k 2/4);have hd1:((d+1+1:Nat):Int)-1=((d+1:Nat):Int):=by lia
  rw[<-hd1]at r1 r2;clear hd1 ih;generalize hD:((d+1+1:Nat):Int)=D at *;have hD1:decide (1<D)=true:=dX (by lia);have r1:(glo P (run P (n+d+2))).call "_law_test" [dJ nm cs key rules,.int (cF k 1/4),.int (D-1)]=some t1.t:=r1;have r2:(glo P (run P (n+d+2))).call "_law_test" [dJ nm cs key rules,.int (cF k 2/4),.int (D-1)]=some t2.t:=r2;show ∃t:Tst,bG (aC (glo P (run P (n+d+2))) iP.body [dJ nm cs key rules,T.int k,T.int D,.no,.no,.no,.no,.no,.no])=_/\_;rw[HC i1 l1 hp ec];obtain⟨t,e,h,hin⟩:=HB (G:=glo P (run P (n+d+2))) hc hm (dJ nm cs key rules) k D;generalize glo P (run P (n+d+2))=G at *;generalize dJ nm cs key rules=TB at *;generalize T.tup (cs.map Col.t)=CT at *;generalize c.t=ct at *;by_cases h4:4<k%8
  .have h4':decide (4<k%8)=true:=dX h4;have e6:evE G (.comp (.call "_law_test" [.w 1,.bin .fdiv (.call "_law_drawn" [.w 2,.w 0]) (.c (.int 4)),.bin .sub (.w 3) (.c (.int 1))]) 1 .plain [.tup [.c (.int 1),.c (.int 2)]] none) (aA [TB,T.int k,T.int D,CT,ct,T.int (k%8),.no,.no,.no])=some (.lst [t1.t,t2.t]):=by simp[evE,aD,evO,aA,Sl.get,bO,pJ,cZ,items,bP,eE,bnd,SZ,e1,e2,r1,r2]
   have pre:∀u:T,evE G (.idx (.lst [.tup [.c (.str "not"),.idx (.w 6) (.c (.int 0))],.tup [.c (.str "and"),.idx (.w 6) (.c (.int 0)),.idx (.w 6) (.c (.int 1))],.tup [.c (.str "or"),.idx (.w 6) (.c (.int 0)),.idx (.w 6) (.c (.int 1))]]) (.bin .sub (.w 5) (.c (.int 5)))) (aA [TB,T.int k,T.int D,CT,ct,T.int (k%8),T.lst [t1.t,t2.t],.no,.no])=some u->aC G teB [TB,T.int k,T.int D,CT,ct,T.int (k%8),.no,.no,.no]=some (.rt u):=fun u hu=>cV rfl (yH.trans (by rw[hD1,h4'];rfl)) ((bC rfl e6 rfl).trans (bY rfl hu));have hk:k%8=5\/k%8=6\/k%8=7:=by lia
   have ev:evE G (.idx (.lst [.tup [.c (.str "not"),.idx (.w 6) (.c (.int 0))],.tup [.c (.str "and"),.idx (.w 6) (.c (.int 0)),.idx (.w 6) (.c (.int 1))],.tup [.c (.str "or"),.idx (.w 6) (.c (.int 0)),.idx (.w 6) (.c (.int 1))]]) (.bin .sub (.w 5) (.c (.int 5)))) (aA [TB,T.int k,T.int D,CT,ct,T.int (k%8),T.lst [t1.t,t2.t],.no,.no])=cJ [.tup [.str "not",t1.t],.tup [.str "and",t1.t,t2.t],.tup [.str "or",t1.t,t2.t]] (k%8-5):=by simp[evE,aD,aA,Sl.get,aK,cG,cH,bO,pJ]
   rcases hk with hk|hk|hk
   .exact⟨.neg t1,aP bG (pre _ (ev.trans (by rw[hk];exact cG _ _))),o1,n1⟩
   .exact⟨.cnj t1 t2,aP bG (pre _ (ev.trans (by rw[hk];exact cH _ _ _))),⟨o1,o2⟩,n1,n2⟩
   .exact⟨.dsj t1 t2,aP bG (pre _ (ev.trans (by rw[hk];exact fQ _ _ _ _))),⟨o1,o2⟩,n1,n2⟩
  .refine⟨t,aP bG ((bJ rfl (yH.trans (by rw[hD1,eN h4];rfl))).trans e),h (d+1),hin⟩
end
noncomputable def bD(xs:List Str):T:=.tup (xs.map .str)
def uD(xs:List Str):Prop:=∀x∈xs,Sh x
def CSh(cs:List Col)(xs:List Str):Prop:=∀x∈xs,Sh x/\∃c∈cs,c.n=x
theorem HD:∀(xs:List Str),(xs.map T.str).any (fun z=>eqT z (.str x))=xs.any fun y=>y==x
 |[]=>rfl
 |y::ys=>by rw[bE,iJ,iJ,HD ys,eqT]
def ZZ(y x:Str):dpP (.str y) (.str x)=0:=rfl
def A0(x:Str)(xs:List Str):dpI (.str x) (xs.map .str)=true:=by unfold dpI;rw[iX];intro z hz;obtain⟨y,_,rfl⟩:=omm hz;rw[ZZ];rfl
theorem yI(x:Str)(xs:List Str):inC (.str x) (.tup (xs.map .str))=some (xs.any fun y=>y==x):=by simp only[inC,A0,if_true,HD]
noncomputable def gM(cs:List Col)(kd:Str)(row:List Str):List (List Str):=cs.filterMap fun o=>if(o.k==kd)&&!(row.any fun y=>y==o.n)then some (row++[o.n])else none
theorem A1(cs:List Col)(kd:Str)(row:List Str):(cs.filterMap fun o=>if(o.k==kd)&&!(row.any fun y=>y==o.n)then some (bD (row++[o.n]))else none)=(gM cs kd row).map bD:=by unfold gM;rw[List.map_filterMap];congr;funext o;split<;>rfl
def A2(cs:List Col)(kd:Str)(row:List Str):(gM cs kd row).length<=cs.length:=List.length_filterMap_le _ _
theorem A3(hc:oN cs)(hr:CSh cs row)(h:r∈gM cs kd row):CSh cs r/\r.length=row.length+1:=by
 unfold gM at h;obtain⟨o,ho,e⟩:=kD.mp h;split at e
 .cases e;refine⟨fun x hx=>?_,by simp⟩;rcases oma hx with q|q
  .exact hr x q
  .rw[omg q];exact⟨(hc.2.2 o ho).1,o,ho,rfl⟩
 .cases e
def Rows(cs:List Col)(j:Nat)(ps:List (List Str)):Prop:=ps.length<=4 ^ j/\∀p∈ps,CSh cs p/\p.length=j
theorem A4(hc:oN cs)(nm key rules kt s2:T)(kd:Str)(j:Nat)(hj:j<=1)(ps:List (List Str))(hp:Rows cs j ps)(s3:Sl):∃(qs:List (List Str))(s5:Sl),bU (fun x τ=>(bL [5] x τ).bind fun τ'=>aC G [.asg 4 (.bin .add (.w 4) (.comp (.bin .add (.w 6) (.tup [.idx (.w 0) (.c (.int 0))])) 1 .plain [.idx (.w 0) (.c (.int 1))] (some (.land (.cmp .eq (.idx (.w 0) (.c (.int 1))) (.w 4)) (.cmp .notin (.idx (.w 0) (.c (.int 0))) (.w 6))))))] τ') (ps.map bD) [.val (dJ nm cs key rules),.val kt,.val s2,.val (.str kd),.own [],s3] =some (.nx [.val (dJ nm cs key rules),.val kt,.val s2,.val (.str kd),.own (qs.map bD),s5])/\Rows cs (j+1) qs:=by
 have hl4:=hc.2.1;have hl:cs.length<=16777216:=by lia
 have h4j:4 ^ j<=4:=by rcases(by lia:j=0\/j=1)with rfl|rfl<;>decide
 have hpl:ps.length<=4:=dY hp.1 h4j;obtain⟨τ',e,qs,s5,rfl,h1,h2⟩:=fR (enc:=bD) (f:=fun x τ=>(bL [5] x τ).bind fun τ'=>aC G [.asg 4 (.bin .add (.w 4) (.comp (.bin .add (.w 6) (.tup [.idx (.w 0) (.c (.int 0))])) 1 .plain [.idx (.w 0) (.c (.int 1))] (some (.land (.cmp .eq (.idx (.w 0) (.c (.int 1))) (.w 4)) (.cmp .notin (.idx (.w 0) (.c (.int 0))) (.w 6))))))] τ')
  (fun done τ=>∃qs s5,τ=[.val (dJ nm cs key rules),.val kt,.val s2,.val (.str kd),.own (qs.map bD),s5]/\qs.length<=4*done.length/\∀q∈qs,CSh cs q/\q.length=j+1)
  ps [.val (dJ nm cs key rules),.val kt,.val s2,.val (.str kd),.own [],s3] ⟨[],s3,rfl,by simp,fun q hq=>by cases hq⟩ (by
   rintro done row rest hsp τ ⟨qs,s5,rfl,h1,h2⟩;have hrow:row∈ps:=by rw[hsp];simp
   have hdl:done.length<=ps.length:=by rw[hsp];simp
   have hrs:=(hp.2 row hrow).1;have hml:=A2 cs kd row;have hz:qs.length+(gM cs kd row).length<=16777216:=by lia
   have hrl:row.length+1<=16777216:=by rw[(hp.2 row hrow).2];lia
   refine⟨[.val (dJ nm cs key rules),.val kt,.val s2,.val (.str kd),.own ((qs++gM cs kd row).map bD),.val (bD row)],?_,qs++gM cs kd row,_,rfl,?_,?_⟩
   .simp[aC,evS,evE,aD,evO,aA,aS,aN,bS,jP,Sl.get,Sl.frz,bO,cC,dO,fresh,bF,aK,items,bP,bL,bnd,SZ,dJ,cH,hl];rw[iH (enc:=Col.t) (fun o=>if(o.k==kd)&&!(row.any fun y=>y==o.n)then some (bD (row++[o.n]))else none) (fun o _=>by
     cases hk:(o.k==kd)with
     |false=>simp[Col.t,cG,cH,eqC,dpP,eqT,hk]
     |true=>have hin:=yI o.n row;cases ha:(row.any fun y=>y==o.n)<;>rw[ha]at hin<;>simp[Col.t,cG,cH,eqC,dpP,eqT,hk,bD,hin,hrl]),A1]
    simp[hz]
   .simp only[List.length_append,List.length_cons,List.length_nil];lia
   .intro q hq;rcases oma hq with z|z
    .exact h2 q z
    .have:=A3 hc hrs z;exact⟨this.1,by rw[this.2,(hp.2 row hrow).2]⟩)
 refine⟨qs,s5,e,?_,h2⟩;have:=hp.1;rw[Nat.pow_succ];lia
theorem A5(h:P.fn "_law_pairs"=some mB)(n:Nat)(hc:oN cs)(nm key rules:T)(ks:List Str)(hk:ks.length<=2):∃ps,run P (n+1) "_law_pairs" [dJ nm cs key rules,.lst (ks.map .str)]=some (.lst (ps.map bD))/\Rows cs ks.length ps:=by
 rw[cO h rfl];unfold mB;dsimp only;rw[bK (τ':=[.val (dJ nm cs key rules),.val (.lst (ks.map .str)),.own ([[]].map bD),.no,.no,.no]) (by simp[evS,evE,aD,cD,aS,aN,bS,dO,fresh,bD])];obtain⟨τ',e,ps,s2,s3,s4,s5,rfl,h1,h2⟩:=fR (enc:=T.str) (f:=fun x τ=>(bL [3] x τ).bind fun τ'=>aC (glo P (run P n)) [.asg 4 (.lst []),
  .loop [5] .plain [.w 2] [.asg 4 (.bin .add (.w 4) (.comp (.bin .add (.w 6) (.tup [.idx (.w 0) (.c (.int 0))])) 1 .plain [.idx (.w 0) (.c (.int 1))] (some (.land (.cmp .eq (.idx (.w 0) (.c (.int 1))) (.w 4)) (.cmp .notin (.idx (.w 0) (.c (.int 0))) (.w 6))))))],
  .asg 2 (.w 4)] τ')
  (fun done τ=>∃ps s2 s3 s4 s5,τ=[.val (dJ nm cs key rules),.val (.lst (ks.map .str)),s2,s3,s4,s5]/\(s2=.own (ps.map bD)\/s2=.val (.lst (ps.map bD)))/\Rows cs done.length ps)
  ks [.val (dJ nm cs key rules),.val (.lst (ks.map .str)),.own ([[]].map bD),.no,.no,.no] ⟨[[]],_,_,_,_,rfl,.inl rfl,by simp,fun p hp=>by rw[omg hp];exact⟨fun x hx=>(by cases hx),rfl⟩⟩ (by
   rintro done kd rest hsp τ ⟨ps,s2,s3,s4,s5,rfl,h1,h2⟩;have hdl:done.length<=1:=by rw[hsp]at hk;simp at hk;lia
   have hfz:Sl.frz s2=.val (.lst (ps.map bD)):=by rcases h1 with rfl|rfl<;>rfl
   obtain⟨qs,s5',el,hq⟩:=A4 (G:=glo P (run P n)) hc nm key rules (.lst (ks.map .str)) (.lst (ps.map bD)) kd done.length hdl ps h2 s5;refine⟨[.val (dJ nm cs key rules),.val (.lst (ks.map .str)),.val (.lst (qs.map bD)),.val (.str kd),.val (.lst (qs.map bD)),s5'],?_,qs,_,_,_,_,rfl,.inr rfl,by rw[cP];exact hq⟩;simp only[bL,aO,rF,rG];rw[bK (τ':=[.val (dJ nm cs key rules),.val (.lst (ks.map .str)),s2,.val (.str kd),.own [],s5]) (by simp[evS,evE,aD,aS,aN,bS,dO,fresh])];rw[bK (s:=.loop _ _ _ _) (τ':=[.val (dJ nm cs key rules),.val (.lst (ks.map .str)),.val (.lst (ps.map bD)),.val (.str kd),.own (qs.map bD),s5']) (by rw[evS];simp only[bS,aN,List.append_nil,aS,aD,evE,aA,List.modify_succ_cons,List.modify_zero_cons,hfz,aY,Sl.get,aZ];simp only[aW,aV,aX,aO,items];exact el)];simp[aC,evS,evE,aA,aS,aN,Sl.get,Sl.frz,dO,fresh])
 rw[bK (s:=.loop _ _ _ _) (τ':=[.val (dJ nm cs key rules),.val (.lst (ks.map .str)),s2,s3,s4,s5]) (by rw[evS];simp only[bS,aN,List.append_nil,aS,aD,evE,aA,List.modify_succ_cons,List.modify_zero_cons,aY,Sl.get,Sl.frz,aZ];simp only[aW,aV,aX,aO,items];exact e)];refine⟨ps,?_,h2⟩;rcases h1 with rfl|rfl<;>simp[aC,evS,evE,aA,aS,aN,Sl.get,Sl.frz,bG]
section
variable {cs:List Col}
structure Bt where
 nm:Str
 cs:List Col
 key:List Str
 rs:List T
def Bt.t(b:Bt):T:=gU b.nm b.cs b.key b.rs
noncomputable def jE:List Str:=["id", "n", "t", "u"]
structure Bt.ok(b:Bt):Prop where
 nm:b.nm.length<=6
 cs:oN b.cs
 k1:b.key.length<=2
 ks:uD b.key
 inn:∀x∈b.key,∃c∈b.cs,c.n=x
 kn:b.key≠[]
 nd:(b.cs.map (·.n)).Nodup
 kk:∀c∈b.cs,c.k="whole"\/c.k="text"
 as:∀c∈b.cs,c.n∈jE
 na:iE b.nm=true
 kg:∀x∈b.key,∃c∈b.cs,c.n=x/\c.g=false
inductive Rl where
 |ref (cs:List Str) (t w:Str)|unl (cs:List Str)|chk (t:Tst)
def Rl.raw:Rl->T
 |.ref cs t w=>.tup [.str "refers",bD cs,.str t,.str w]
 |.unl cs=>.tup [.str "unlike",.lst (cs.map .str)]
 |.chk t=>.tup [.str "check",t.t]
def Rl.t:Rl->T
 |.ref cs t w=>.tup [.str "refers",bD cs,.str t,.str w]
 |.unl cs=>.tup [.str "unlike",bD cs]
 |.chk t=>.tup [.str "check",t.t]
def Rl.ok:Rl->Prop
 |.ref cs t w=>uD cs/\cs.length<=4/\t.length<=6/\w.length<=6
 |.unl cs=>uD cs/\cs.length<=4
 |.chk t=>t.ok 3
def Rl.asc:Rl->Prop
 |.ref _ t w=>iE t=true/\iE w=true
 |.unl _=>True
 |.chk t=>∃cs:List Col,(∀c∈cs,c.n∈jE)/\t.inn cs
def Rl.fits(ns:List Str)(cs:List Col):Rl->Prop
 |.ref ks t w=>(∀x∈ks,∃c∈cs,c.n=x/\(w="gap"->c.g=true))/\t∈ns
 |.unl ks=>∀x∈ks,∃c∈cs,c.n=x
 |.chk t=>t.inn cs
noncomputable def jU(cs:List Col)(x:Str):List Str:=cs.filterMap fun c=>if c.n==x then some c.k else none
theorem A6(cs:List Col)(x:Str):(cs.filterMap fun c=>if c.n==x then some (T.str c.k)else none)=(jU cs x).map T.str:=by unfold jU;rw[List.map_filterMap];congr;funext o;split<;>rfl
theorem A7{x:Str}(h:∃c∈cs,c.n=x):∃y r,jU cs x=y::r:=by
 obtain⟨c,hc,rfl⟩:=h;have:c.k∈jU cs c.n:=kD.mpr ⟨c,hc,by simp⟩;cases q:jU cs c.n with
 |nil=>rw[q]at this;cases this
 |cons y r=>exact⟨y,r,rfl⟩
noncomputable def qN:List Str:=["along", "stop", "late", "gap", "along", "gap"]
theorem A8:∀x∈qN,iE x=true:=by decide +kernel
theorem A9:iE "late"=true:=by decide +kernel
theorem B0:∀x∈qN,x.length<=6:=by decide +kernel
theorem B1:("late":Str).length<=6:=by decide +kernel
theorem B2(k:Int):∃x∈qN,cJ [.str "along",.str "stop",.str "late",.str "gap",.str "along",.str "gap"] (k%6)=some (.str x):=by obtain⟨c,hc,e⟩:=iR (enc:=T.str) (cs:=qN) (by simp[qN]) k;exact⟨c,hc,e⟩
noncomputable def jF(cs:List Col)(p:List Str):List Col:=cs.filterMap fun c=>if(p.any fun y=>y==c.n)&&!c.g then some c else none
theorem B3(cs:List Col)(p:List Str):(cs.filterMap fun c=>if(p.any fun y=>y==c.n)&&!c.g then some c.t else none)=(jF cs p).map Col.t:=by unfold jF;rw[List.map_filterMap];congr;funext o;split<;>rfl
theorem B4{p:List Str}{c:Col}{w:Str}(hc:c∈cs)(hx:c.n∈p)(h:(if(!(jF cs p).isEmpty)&&(w=="gap")then("late":Str)else w)="gap"):c.g=true:=by
 cases hg:c.g with
 |true=>rfl
 |false=>
  have hs:c∈jF cs p:=by unfold jF;refine kD.mpr ⟨c,hc,?_⟩;rw[if_pos];rw[hg,Bool.not_false,Bool.and_true,List.any_eq_true];exact⟨c.n,hx,mE _⟩
  have he:(jF cs p).isEmpty=false:=by
   cases e:jF cs p with
   |nil=>rw[e]at hs;cases hs
   |cons _ _=>rfl
  rw[he]at h;split at h
  .exact absurd h (by decide +kernel)
  .rename_i h1;rw[h]at h1;exact absurd rfl h1
theorem yJ{α:Type}(f:α->T)(l:List α):eO (l.map f) []=l.isEmpty:=by cases l<;>rfl
theorem B5(cs:List Col):(cs.filterMap fun c=>some (T.str c.n))=(cs.map (·.n)).map T.str:=by
 induction cs with
 |nil=>rfl
 |cons c cs ih=>simp[ih]
theorem yK(xs:List T)(j:Nat):cut xs none (some (j:Int))=xs.take j:=by
 unfold cut gZ;simp only[show ¬((j:Int)<0) by lia,if_false,Int.toNat_natCast,Nat.sub_zero,List.drop_zero];by_cases h:j<=xs.length
 .rw[Nat.min_eq_left h]
 .rw[Nat.min_eq_right (by lia),List.take_of_length_le (by lia),List.take_of_length_le (by lia)]
theorem Tst.up:∀{d:Nat}{t:Tst},t.ok d->t.ok (d+1)
 |0,_,h=>by cases ‹Tst›<;>simp[Tst.ok]at h
 |d+1,.emp c,h=>⟨by lia,h.2⟩
 |d+1,.bel a b,h=>⟨by lia,h.2⟩
 |d+1,.isI c i,h=>⟨by lia,h.2⟩
 |d+1,.isS c x,h=>⟨by lia,h.2⟩
 |d+1,.neg t,h=>Tst.up (d:=d) (t:=t) h
 |d+1,.cnj a b,h=>⟨Tst.up (d:=d) (t:=a) h.1,Tst.up (d:=d) (t:=b) h.2⟩
 |d+1,.dsj a b,h=>⟨Tst.up (d:=d) (t:=a) h.1,Tst.up (d:=d) (t:=b) h.2⟩
theorem jG(h0:aS (aN c) τ=τ)(h1:evE G c (aA τ)=some (.bl true))(h2:aC G a τ=some (.nx τ')):aC G (.ite c a b::ss) τ=aC G ss τ':=bK (by rw[evS,h0,h1];exact h2)
section
variable {G:Glo}{BL bt gt KL PL NL ST pt:T}{k:Int}{s6 s7 s8 s9 s10:Sl}
def ruD:List S:=jT.body.drop 3
def ruE:List S:=jT.body.drop 4
def B6:evE G (.cmp .lt (.bin .mod (.w 2) (.c (.int 8))) (.c (.int 5))) (aA [BL,bt,T.int k,gt,KL,PL,s6,s7,s8,s9,s10])=some (.bl (decide (k%8<5))):=rfl
def HE:evE G (.cmp .eq (.bin .mod (.w 2) (.c (.int 8))) (.c (.int 5))) (aA [BL,bt,T.int k,gt,KL,PL,s6,s7,s8,s9,s10])=some (.bl (k%8==5)):=rfl
theorem B7{w w' gn:Str}{cl:Nat}(hc:evE G (.land (.cmp .lt (.bin .mod (.w 2) (.c (.int 8))) (.c (.int 5))) (.cmp .ne (.w 5) (.lst []))) (aA [BL,bt,T.int k,gt,KL,PL,.no,.no,.no,.no,.no])=some (.bl true))(l5:bW .len PL=some (.int (cl:Int)))(hcl:0<cl)(i5:aK PL (.int (k/64%(cl:Int)))=some pt)(iw:cJ [.str "along",.str "stop",.str "late",.str "gap",.str "along",.str "gap"] (k/1024%6)=some (.str w))(e8:evE G (.comp (.w 0) 1 .plain [.idx (.w 1) (.c (.int 1))] (some (.land (.cmp .isin (.idx (.w 0) (.c (.int 0))) (.w 7)) (.lnot (.tru (.idx (.w 0) (.c (.int 2))))))))  (aA [BL,bt,T.int k,gt,KL,PL,pt,T.str w,.no,.no,.no])=some ST)(v:Bool)(hne:neC ST (.lst [])=some (.bl v))(hw:w'=if v&&(w=="gap")then("late":Str)else w)(ig:aK gt (.int 0)=some (.str gn)):aC G ruD [BL,bt,T.int k,gt,KL,PL,.no,.no,.no,.no,.no]=some (.rt (.tup [.str "refers",pt,.str gn,.str w'])):=by
 refine cV rfl hc ?_;refine(bC (t:=pt) (τ':=[BL,bt,T.int k,gt,KL,PL,pt,.no,.no,.no,.no]) rfl (by simp[evE,aA,Sl.get,l5,bO,dA,cZ,hcl,i5]) rfl).trans ?_;refine(bC (t:=.str w) (τ':=[BL,bt,T.int k,gt,KL,PL,pt,T.str w,.no,.no,.no]) rfl (by simp[evE,aD,aA,Sl.get,bO,dA,cZ,aK,iw]) rfl).trans ?_;refine(bC (t:=ST) (τ':=[BL,bt,T.int k,gt,KL,PL,pt,T.str w,ST,.no,.no]) rfl e8 rfl).trans ?_;have hcd:evE G (.land (.cmp .ne (.w 8) (.lst [])) (.cmp .eq (.w 7) (.c (.str "gap")))) (aA [BL,bt,T.int k,gt,KL,PL,pt,T.str w,ST,.no,.no])=some (.bl (v&&(w=="gap"))):=by cases v<;>simp[evE,aD,aA,Sl.get,bF,hne,eqC,dpP,eqT]
 cases q:(v&&(w==("gap":Str)))with
 |true=>rw[q]at hw hcd;subst hw;exact(jG (τ':=[BL,bt,T.int k,gt,KL,PL,pt,T.str "late",ST,.no,.no]) rfl hcd (bC (t:=.str "late") rfl rfl rfl)).trans (bY rfl (by simp[evE,aD,aA,Sl.get,ig]))
 |false=>rw[q]at hw hcd;subst hw;exact(bJ rfl hcd).trans (bY rfl (by simp[evE,aD,aA,Sl.get,ig]))
end
theorem B8{P:Pr}(hd:P.fn "_law_drawn"=some iO)(ht:P.fn "_law_test"=some iP)(hp:P.fn "_law_pairs"=some mB)(h:P.fn "_law_rule"=some jT)(n:Nat){bs:List Bt}(hb:∀b∈bs,b.ok){b:Bt}(hm:b∈bs)(k:Int):∃r:Rl,run P (n+6) "_law_rule" [.lst (bs.map Bt.t),b.t,.int k]=some r.raw/\r.ok/\r.asc/\r.fits (bs.map (·.nm)) b.cs:=by
 rw[cO h rfl];show ∃r:Rl,bG (aC (glo P (run P (n+5))) jT.body [T.lst (bs.map Bt.t),b.t,T.int k,.no,.no,.no,.no,.no,.no,.no,.no])=_/\_;have hne:bs≠[]:=by intro e;rw[e]at hm;cases hm
 obtain⟨g,hg,eg⟩:=iR (enc:=Bt.t) hne (k/8);have hbo:=hb b hm;have hgo:=hb g hg;have hbl:0<bs.length:=by cases bs with|nil=>exact absurd rfl hne|cons _ _=>simp
 have hgl:g.cs.length<=16777216:=by have:=hgo.cs.2.1;lia
 have hbcl:b.cs.length<=16777216:=by have:=hbo.cs.2.1;lia
 have hkl:g.key.length<=16777216:=by have:=hgo.k1;lia
 have hb0:0<b.cs.length:=by have:=hbo.cs.1;cases q:b.cs with|nil=>exact absurd q this|cons _ _=>simp
 obtain⟨ps,ep,hps⟩:=A5 hp (n+4) hbo.cs (.str b.nm) (.tup (b.key.map .str)) (.tup b.rs) (g.key.map fun x=>(jU g.cs x).headD "") (by rw[bM];exact hgo.k1);have ep:(glo P (run P (n+5))).call "_law_pairs" [b.t,.lst ((g.key.map fun x=>(jU g.cs x).headD "").map .str)]=some (.lst (ps.map bD)):=ep;have tests:∀d:Nat,d<=2->∃t:Tst,(glo P (run P (n+5))).call "_law_test" [b.t,.int (k/64),.int ((d+1:Nat):Int)]=some t.t/\t.ok 3/\t.inn b.cs:=fun d hd2=>by
  obtain⟨t,e,o,hin⟩:=ZY hd ht hbo.cs (.str b.nm) (.tup (b.key.map .str)) (.tup b.rs) d (n+3-d) (k/64);rw[show n+3-d+d+2=n+5 by lia]at e;refine⟨t,e,?_,hin⟩;rcases(by lia:d=0\/d=1\/d=2)with rfl|rfl|rfl
  .exact Tst.up (Tst.up o)
  .exact Tst.up o
  .exact o
 generalize glo P (run P (n+5))=G at *;have lB:bW .len (.lst (bs.map Bt.t))=some (.int (bs.length:Int)):=by simp[bW]
 have iB:aK (.lst (bs.map Bt.t)) (.int (k/8%(bs.length:Int)))=some g.t:=eg;have ib1:aK b.t (.int 1)=some (.tup (b.cs.map Col.t)):=by simp[Bt.t,gU,aK,cH]
 have ig0:aK g.t (.int 0)=some (.str g.nm):=by simp[Bt.t,gU,aK,cG]
 have ig1:aK g.t (.int 1)=some (.tup (g.cs.map Col.t)):=by simp[Bt.t,gU,aK,cH]
 have ig2:aK g.t (.int 2)=some (.tup (g.key.map .str)):=by simp[Bt.t,gU,aK,fQ]
 generalize T.lst (bs.map Bt.t)=BL at *;generalize b.t=bt at *;generalize g.t=gt at *;have e4:evE G (.comp (.idx (.comp (.idx (.w 0) (.c (.int 1))) 1 .plain [.idx (.w 4) (.c (.int 1))] (some (.cmp .eq (.idx (.w 0) (.c (.int 0))) (.w 1)))) (.c (.int 0))) 1 .plain [.idx (.w 3) (.c (.int 2))] none) (aA [BL,bt,T.int k,gt,.no,.no,.no,.no,.no,.no,.no])=some (.lst ((g.key.map fun x=>(jU g.cs x).headD "").map .str)):=by
  simp[evE,aD,evO,aA,Sl.get,items,bP,bnd,SZ,bF,ig1,ig2,hkl];rw[iH (enc:=T.str) (fun x=>some (T.str ((jU g.cs x).headD ""))) (fun x hx=>by
   obtain⟨y,r,ey⟩:=A7 (hgo.inn x hx);simp[hgl];rw[iH (enc:=Col.t) (fun c=>if c.n==x then some (T.str c.k)else none) (fun c _=>by cases hk:(c.n==x)<;>simp[Col.t,aK,cG,cH,eqC,dpP,eqT,hk]),A6,ey];simp[aK,cG])]
  simp[List.filterMap_eq_map']
 generalize T.lst ((g.key.map fun x=>(jU g.cs x).headD "").map T.str)=KL at *;have pre:∀PL:T,G.call "_law_pairs" [bt,KL]=some PL->aC G jT.body [BL,bt,T.int k,.no,.no,.no,.no,.no,.no,.no,.no]=aC G ruD [BL,bt,T.int k,gt,KL,PL,.no,.no,.no,.no,.no]:=fun PL hPL=>
  (bC (t:=gt) (τ':=[BL,bt,T.int k,gt,.no,.no,.no,.no,.no,.no,.no]) rfl (by simp[evE,aA,Sl.get,lB,bO,dA,cZ,hbl,iB]) rfl).trans
   ((bC (t:=KL) (τ':=[BL,bt,T.int k,gt,KL,.no,.no,.no,.no,.no,.no]) rfl e4 rfl).trans (bC (t:=PL) rfl (by simp[evE,aD,aA,Sl.get,hPL]) rfl))
 rw[pre _ ep];have hcd:evE G (.land (.cmp .lt (.bin .mod (.w 2) (.c (.int 8))) (.c (.int 5))) (.cmp .ne (.w 5) (.lst []))) (aA [BL,bt,T.int k,gt,KL,T.lst (ps.map bD),.no,.no,.no,.no,.no])=some (.bl (decide (k%8<5)&&!ps.isEmpty)):=by
  rw[evE,B6];cases decide (k%8<5)with
  |false=>rfl
  |true=>cases ps<;>simp[evE,aD,aA,Sl.get,bF,neC,dpP,fM,eqT,eO]
 cases hw:(decide (k%8<5)&&!ps.isEmpty)with
 |true=>
  rw[hw]at hcd;rw[dF]at hw;have hpn:ps≠[]:=by intro e;rw[e]at hw;simp at hw
  obtain⟨p,hp',epi⟩:=iR (enc:=bD) hpn (k/64);have hpl:0<ps.length:=by cases q:ps with|nil=>exact absurd q hpn|cons _ _=>simp
  obtain⟨w,hwm,ew⟩:=B2 (k/1024);have hpo:=hps.2 p hp';have e8:evE G (.comp (.w 0) 1 .plain [.idx (.w 1) (.c (.int 1))] (some (.land (.cmp .isin (.idx (.w 0) (.c (.int 0))) (.w 7)) (.lnot (.tru (.idx (.w 0) (.c (.int 2))))))))  (aA [BL,bt,T.int k,gt,KL,T.lst (ps.map bD),bD p,T.str w,.no,.no,.no])=some (.lst ((jF b.cs p).map Col.t)):=by
   simp[evE,aD,evO,aA,Sl.get,items,bP,bnd,SZ,bF,ib1,hbcl];rw[iH (enc:=Col.t) (fun c=>if(p.any fun y=>y==c.n)&&!c.g then some c.t else none) (fun c _=>by have hin:=yI c.n p;cases ha:(p.any fun y=>y==c.n)<;>rw[ha]at hin<;>cases hgg:c.g<;>simp[Col.t,aK,cG,fQ,bD,hin,hgg,iD]),B3]
  have hne2:neC (.lst ((jF b.cs p).map Col.t)) (.lst [])=some (.bl (!(jF b.cs p).isEmpty)):=by unfold neC;rw[if_pos (by simp[dpP,fM]),eqT,yJ]
  have key:=B7 (G:=G) (w:=w) hcd (by simp[bW]) hpl epi ew e8 _ hne2 rfl ig0;refine⟨.ref p g.nm (if(!(jF b.cs p).isEmpty)&&(w=="gap")then("late":Str)else w),aP bG key,⟨fun x hx=>(hpo.1 x hx).1,?_,hgo.nm,?_⟩,⟨hgo.na,?_⟩,fun x hx=>by obtain⟨c,hc,e⟩:=(hpo.1 x hx).2;exact⟨c,hc,e,B4 hc (by rw[e];exact hx)⟩,fS.mpr ⟨g,hg,rfl⟩⟩
  .rw[hpo.2,bM];have:=hgo.k1;lia
  .split
   .exact B1
   .exact B0 w hwm
  .split
   .exact A9
   .exact A8 w hwm
 |false=>
  rw[hw]at hcd;generalize T.lst (ps.map bD)=PL at *;have e9:evE G (.comp (.idx (.w 0) (.c (.int 0))) 1 .plain [.idx (.w 1) (.c (.int 1))] none) (aA [BL,bt,T.int k,gt,KL,PL,.no,.no,.no,.no,.no])=some (.lst ((b.cs.map (·.n)).map .str)):=by simp[evE,aD,evO,aA,Sl.get,items,bP,bnd,SZ,ib1,hbcl];rw[iH (enc:=Col.t) (fun c=>some (T.str c.n)) (fun c _=>by simp[Col.t,aK,cG]),B5];simp
  have pre2:aC G ruD [BL,bt,T.int k,gt,KL,PL,.no,.no,.no,.no,.no]=aC G (ruE.drop 1) [BL,bt,T.int k,gt,KL,PL,.no,.no,.no,T.lst ((b.cs.map (·.n)).map .str),.no] :=
   (bJ rfl hcd).trans (bC rfl e9 rfl)
  rw[pre2];by_cases h5:k%8=5
  .obtain⟨j,hj⟩:∃j:Nat,k/64%(b.cs.length:Int)=(j:Int):=⟨(k/64%(b.cs.length:Int)).toNat,by have:=lH (k/64) (show(b.cs.length:Int)≠0 by lia);lia⟩;have hx1:k/64%(b.cs.length:Int)<(b.cs.length:Int):=lG _ (by lia);obtain⟨m,hm2⟩:∃m:Nat,1+k/1024%2=(m:Int):=⟨(1+k/1024%2).toNat,by lia⟩;have hjl:j<=((b.cs.map (·.n)).map T.str).length:=by simp;lia
   have hz:b.cs.length-j+min j b.cs.length<=16777216:=by lia
   have e10:evE G (.tup [.c (.str "unlike"),.sli (.bin .add (.sli (.w 9) (some (.w 10)) none) (.sli (.w 9) none (some (.w 10)))) none (some (.bin .add (.c (.int 1)) (.bin .mod (.bin .fdiv (.w 2) (.c (.int 1024))) (.c (.int 2)))))]) (aA [BL,bt,T.int k,gt,KL,PL,.no,.no,.no,T.lst ((b.cs.map (·.n)).map .str),T.int (j:Int)])=some (Rl.unl ((fA (b.cs.map (·.n)) j).take m)).raw:=by have q1:=tZ _ _ hjl;have q2:=uA _ _ hjl;simp only[List.map_map]at q1 q2;simp[evE,aD,evO,aA,Sl.get,bO,cC,dA,cZ,asI,fN,hm2,q1,q2,SZ,hz,yK,Rl.raw,fA]
   refine⟨.unl ((fA (b.cs.map (·.n)) j).take m),congrArg bG (cV rfl (HE.trans (by rw[h5];rfl)) ((bC (t:=.int (j:Int)) (τ':=[BL,bt,T.int k,gt,KL,PL,.no,.no,.no,T.lst ((b.cs.map (·.n)).map .str),T.int (j:Int)]) rfl (by simp[evE,aA,Sl.get,bW,bO,dA,cZ,hb0,hj]) rfl).trans (bY rfl e10))),⟨fun x hx=>?_,?_⟩,trivial,fun x hx=>?_⟩
   .have hx':=kB hx;unfold fA at hx';have hx2:x∈b.cs.map (·.n):=by
     rcases oma hx' with z|z
     .exact List.mem_of_mem_drop z
     .exact kB z
    obtain⟨c,hc,rfl⟩:=omm hx2;exact(hbo.cs.2.2 c hc).1
   .unfold fA;simp only[List.length_take,List.length_append,List.length_drop,List.length_map];have:=hbo.cs.2.1;lia
   .have hx':=kB hx;unfold fA at hx';have hx2:x∈b.cs.map (·.n):=by
     rcases oma hx' with z|z
     .exact List.mem_of_mem_drop z
     .exact kB z
    exact omm hx2
  .obtain⟨d,hd2,hdz⟩:∃d:Nat,d<=2/\1+k/1024%3=((d+1:Nat):Int):=⟨(k/1024%3).toNat,by lia,by lia⟩;obtain⟨t,e,o,hin⟩:=tests d hd2;exact⟨.chk t,congrArg bG ((bJ rfl (HE.trans (by rw[show(k%8==5)=false by simpa using h5]))).trans (bY rfl (by simp only[Int.natCast_add,Int.cast_ofNat_Int]at e hdz;simp[evE,aD,aA,Sl.get,bO,cC,dA,cZ,hdz,e,Rl.raw]))),o,⟨b.cs,hbo.as,hin⟩,hin⟩
end
section
variable {cs:List Col}
structure Tb where
 nm:Str
 cs:List Col
 key:List Str
 rs:List Rl
def Tb.t(b:Tb):T:=gU b.nm b.cs b.key (b.rs.map Rl.t)
structure Tb.ok(b:Tb):Prop where
 nm:b.nm.length<=6
 cl:b.cs.length<=4
 cs:∀c∈b.cs,Sh c.n/\c.k.length<=6
 k1:b.key.length<=2
 ks:uD b.key
 rl:b.rs.length<=4
 rs:∀r∈b.rs,r.ok
 kn:b.key≠[]
 cn:b.cs≠[]
 nd:(b.cs.map (·.n)).Nodup
 kk:∀c∈b.cs,c.k="whole"\/c.k="text"
 as:∀c∈b.cs,c.n∈jE
 na:iE b.nm=true
 inn:∀x∈b.key,∃c∈b.cs,c.n=x
 ra:∀r∈b.rs,r.asc
 kg:∀x∈b.key,∃c∈b.cs,c.n=x/\c.g=false
theorem HF(i:Int):(eQ i).length<=6:=by
 have all:∀x∈kinds6,x.length<=6:=by decide +kernel
 unfold eQ;rw[iZ];cases e:kinds6[(i%6).toNat]? with
 |none=>decide +kernel
 |some x=>exact all x (jL e)
theorem yL(k:Int):∀c∈bZ k,c.n.length<=6/\c.k.length<=6:=by
 have hc:∀(j:Int)(nm:Str),nm.length<=6->∀c∈hW k j nm,c.n.length<=6/\c.k.length<=6:=fun j nm hn c h=>by
  unfold hW at h;split at h
  .rw[omg h];exact⟨hn,HF _⟩
  .cases h
 intro c h;unfold bZ at h;rcases oma h with h|h
 .rw[omg h];exact⟨(by decide +kernel:("id":Str).length<=6),HF _⟩
 .rcases oma h with h|h
  .exact hc _ _ (by decide +kernel) c h
  .rcases oma h with h|h
   .exact hc _ _ (by decide +kernel) c h
   .exact hc _ _ (by decide +kernel) c h
def kZ{α:Type}{l:List α}{b:Nat}{x:α}:x∈fA l b↔x∈l:=by
 unfold fA;rw[uY];constructor
 .rintro(h|h)
  .exact List.mem_of_mem_drop h
  .exact kB h
 .intro h;rw[<-List.take_append_drop b l,uY]at h;exact h.symm
theorem uE{α:Type}(l:List α)(b:Nat):(fA l b).length=l.length:=by unfold fA;simp only[List.length_append,List.length_drop,List.length_take];lia
theorem B9{x:Str}(h:x∈gA cs):∃c∈cs,c.n=x:=by
 unfold gA at h;obtain⟨c,hc,e⟩:=kD.mp h;split at e
 .cases e
 .cases e;exact⟨c,hc,rfl⟩
theorem C9(k:Int):∃c∈bZ k,c.n="id":=⟨⟨"id",eQ k,false⟩,by unfold bZ;simp,rfl⟩
def mkB(nm:Str)(k:Int):Bt:=⟨nm,fA (bZ k) (k/64%((bZ k).length:Int)).toNat,jD k (bZ k),[]⟩
theorem HG(k:Int):∀x∈jD k (bZ k),∃c∈bZ k,c.n=x:=by
 intro x hx;have hid:=C9 k;unfold jD at hx;split at hx
 .rename_i h;have hg:∃c∈bZ k,c.n=(gA (bZ k)).getD 1 "id":=by refine B9 ?_;rw[iZ,dM h.2];exact kA _
  split at hx<;>simp only[List.mem_cons,List.not_mem_nil,or_false]at hx<;>rcases hx with rfl|rfl<;>assumption
 .rw[omg hx];exact hid
theorem D0{x:Str}(h:x∈gA cs):∃c∈cs,c.n=x/\c.g=false:=by
 unfold gA at h;obtain⟨c,hc,e⟩:=kD.mp h;cases hg:c.g with
 |true=>rw[hg]at e;cases e
 |false=>rw[hg]at e;exact⟨c,hc,dU e,hg⟩
theorem D3(k:Int):∀x∈jD k (bZ k),∃c∈bZ k,c.n=x/\c.g=false:=by
 intro x hx;have hid:∃c∈bZ k,c.n="id"/\c.g=false:=⟨⟨"id",eQ k,false⟩,by unfold bZ;simp,rfl,rfl⟩;unfold jD at hx;split at hx
 .rename_i h;have hg:∃c∈bZ k,c.n=(gA (bZ k)).getD 1 "id"/\c.g=false:=by refine D0 ?_;rw[iZ,dM h.2];exact kA _
  split at hx<;>simp only[List.mem_cons,List.not_mem_nil,or_false]at hx<;>rcases hx with rfl|rfl<;>assumption
 .rw[omg hx];exact hid
theorem D4(k:Int)(cs:List Col):(jD k cs).length<=2:=by unfold jD;split<;>(try split)<;>simp
theorem D5(k:Int):((bZ k).map (·.n)).Nodup:=by
 have e1:(("id":Str)=="n")=false/\(("id":Str)=="t")=false/\(("id":Str)=="u")=false/\(("n":Str)=="t")=false/\(("n":Str)=="u")=false/\(("t":Str)=="u")=false:=by decide +kernel
 obtain⟨a1,a2,a3,a4,a5,a6⟩:=e1;have b1:=ne_of_beq_false a1;have b2:=ne_of_beq_false a2;have b3:=ne_of_beq_false a3;have b4:=ne_of_beq_false a4;have b5:=ne_of_beq_false a5;have b6:=ne_of_beq_false a6;unfold bZ hW;split<;>split<;>split<;>simp[b1,b2,b3,b4,b5,b6]
theorem HH(i:Int):eQ i="whole"\/eQ i="text":=by
 have all:∀x∈kinds6,(x==("whole":Str))=true\/(x==("text":Str))=true:=by decide +kernel
 unfold eQ;rw[iZ];cases e:kinds6[(i%6).toNat]? with
 |none=>exact .inl rfl
 |some x=>
  rcases all x (jL e)with h|h
  .exact .inl (cK h)
  .exact .inr (cK h)
theorem D6(k:Int):∀c∈bZ k,c.k="whole"\/c.k="text":=by
 have one:∀(j:Int)(nm:Str),∀c∈hW k j nm,c.k="whole"\/c.k="text":=by
  intro j nm c hc;unfold hW at hc;split at hc
  .rw[omg hc];exact HH _
  .cases hc
 intro c hc;unfold bZ at hc;rcases oma hc with h|h
 .rw[omg h];exact HH _
 .rcases oma h with h|h
  .exact one _ _ c h
  .rcases oma h with h|h
   .exact one _ _ c h
   .exact one _ _ c h
theorem yM(k:Int):∀c∈bZ k,c.n∈jE:=by
 have one:∀(j:Int)(nm:Str),nm∈jE->∀c∈hW k j nm,c.n∈jE:=by
  intro j nm hn c hc;unfold hW at hc;split at hc
  .rw[omg hc];exact hn
  .cases hc
 intro c hc;unfold bZ at hc;rcases oma hc with h|h
 .rw[omg h];simp[jE]
 .rcases oma h with h|h
  .exact one _ _ (by simp[jE]) c h
  .rcases oma h with h|h
   .exact one _ _ (by simp[jE]) c h
   .exact one _ _ (by simp[jE]) c h
theorem HI:∀x∈jE,iE x=true:=by decide +kernel
theorem D7(nm:Str)(hn:nm.length<=6)(ha:iE nm=true)(k:Int):(mkB nm k).ok where
 kg:=fun x hx=>by obtain⟨c,hc,e⟩:=D3 k x hx;exact⟨c,kZ.mpr hc,e⟩
 nm:=hn
 cs:=by have h:=GX k;refine⟨fun e=>?_,by show(fA _ _).length<=4;rw[uE];exact h.2,fun c hc=>⟨⟨(yL k c (kZ.mp hc)).1,HI _ (yM k c (kZ.mp hc))⟩,(yL k c (kZ.mp hc)).2⟩⟩;have e':(fA (bZ k) (k/64%((bZ k).length:Int)).toNat).length=([]:List Col).length:=aP List.length e;rw[uE]at e';simp at e';rw[e']at h;simp at h
 k1:=D4 k _
 ks:=fun x hx=>by obtain⟨c,hc,rfl⟩:=HG k x hx;exact⟨(yL k c hc).1,HI _ (yM k c hc)⟩
 inn:=fun x hx=>by obtain⟨c,hc,e⟩:=HG k x hx;exact⟨c,kZ.mpr hc,e⟩
 kn:=by show jD k (bZ k)≠[];unfold jD;split<;>(try split)<;>simp
 nd:=by show((fA (bZ k) _).map (·.n)).Nodup;have h:=D5 k;unfold fA;rw[gY];rw[<-List.take_append_drop (k/64%((bZ k).length:Int)).toNat (bZ k),gY]at h;exact(List.perm_append_comm.nodup_iff).mp h
 kk:=fun c hc=>D6 k c (kZ.mp hc)
 as:=fun c hc=>yM k c (kZ.mp hc)
 na:=ha
theorem uF{α:Type}(enc:α->T):∀(l:List α)(i:Nat),eI (l.map enc) i=(l.zipIdx i).map fun p=>.tup [.int (p.2:Int),enc p.1]
 |[],_=>rfl
 |a::l,i=>by rw[bE,eI,uF enc l (i+1),List.zipIdx_cons,bE]
theorem yN:∀(l:List T)(i:Nat),(eI l i).length=l.length
 |[],_=>rfl
 |a::l,i=>by rw[eI,gC,gC,yN l (i+1)]
theorem D8{G:Glo}(r:Rl)(e:Env):evE G (.bin .add (.tup [.idx (.w 0) (.c (.int 0)),.blt .toTuple (.idx (.w 0) (.c (.int 1)))]) (.sli (.w 0) (some (.c (.int 2))) none)) (some r.raw::e)=some r.t:=by
 cases r with
 |ref cs t w=>simp[evE,aD,evO,bO,cC,aK,bW,asI,fN,SZ,Rl.raw,Rl.t,cG,cH,cut,gZ,bD]
 |unl cs=>simp[evE,aD,evO,bO,cC,aK,bW,asI,fN,SZ,Rl.raw,Rl.t,cG,cH,cut,gZ,bD]
 |chk t=>cases t<;>simp[evE,aD,evO,bO,cC,aK,bW,asI,fN,SZ,Rl.raw,Rl.t,Tst.t,cG,cH,cut,gZ]
theorem D9{P:Pr}(hd:P.fn "_law_drawn"=some iO)(ht:P.fn "_law_test"=some iP)(hp:P.fn "_law_pairs"=some mB)(hr:P.fn "_law_rule"=some jT)(n:Nat){bs:List Bt}(hb:∀b∈bs,b.ok){b:Bt}(hm:b∈bs)(k d c:Int)(s1 s2 s3 s5:T)(m:Nat)(hm3:m<=3)(s9 s10:Sl):∃(rs:List Rl)(s9':Sl),bU (fun x τ=>(bL [9] x τ).bind fun τ'=>aC (glo P (run P (n+6))) [.app 8 (.call "_law_rule" [.w 4,.w 6,.bin .fdiv (.call "_law_drawn" [.w 7,.w 9]) (.c (.int 4))])] τ') ((List.range m).map fun(i:Nat)=>T.int (i:Int)) [.val (.int k),.val s1,.val s2,.val s3,.val (.lst (bs.map Bt.t)),.val s5,.val b.t,.val (.int d),.own [],s9,s10] =some (.nx [.val (.int k),.val s1,.val s2,.val s3,.val (.lst (bs.map Bt.t)),.val s5,.val b.t,.val (.int d),.own (rs.map Rl.raw),s9',s10])/\rs.length=m/\∀r∈rs,r.ok/\r.asc/\r.fits (bs.map (·.nm)) b.cs:=by
 obtain⟨τ',e,rs,s9',rfl,h1,h2⟩:=fR (enc:=fun(i:Nat)=>T.int (i:Int)) (f:=fun x τ=>(bL [9] x τ).bind fun τ'=>aC (glo P (run P (n+6))) [.app 8 (.call "_law_rule" [.w 4,.w 6,.bin .fdiv (.call "_law_drawn" [.w 7,.w 9]) (.c (.int 4))])] τ')
  (fun done τ=>∃rs s9',τ=[.val (.int k),.val s1,.val s2,.val s3,.val (.lst (bs.map Bt.t)),.val s5,.val b.t,.val (.int d),.own (rs.map Rl.raw),s9',s10]/\rs.length=done.length/\∀r∈rs,r.ok/\r.asc/\r.fits (bs.map (·.nm)) b.cs)
  (List.range m) [.val (.int k),.val s1,.val s2,.val s3,.val (.lst (bs.map Bt.t)),.val s5,.val b.t,.val (.int d),.own [],s9,s10] ⟨[],s9,rfl,rfl,fun r h=>by cases h⟩ (by
   rintro done i rest hsp τ ⟨rs,s9',rfl,h1,h2⟩;obtain⟨r,er,hro⟩:=B8 hd ht hp hr n hb hm (cF d i/4);have ed:=kY hd (n+5) d i;have hdl:done.length<=3:=by have:=aP List.length hsp;simp at this;lia
   have hz:rs.length<16777216:=by lia
   refine⟨[.val (.int k),.val s1,.val s2,.val s3,.val (.lst (bs.map Bt.t)),.val s5,.val b.t,.val (.int d),.own ((rs++[r]).map Rl.raw),.val (.int i),s10],?_,rs++[r],_,rfl,by simp[h1],fun q hq=>?_⟩
   .simp[aC,evS,evE,aD,aA,aS,aN,bS,Sl.get,Sl.frz,bO,cZ,bL,glo,SZ,ed,er,hz]
   .rcases oma hq with z|z
    .exact h2 q z
    .rw[omg z];exact hro)
 exact⟨rs,s9',e,by rw[h1];simp,h2⟩
end
noncomputable def names4:List Str:=["item", "user", "box", "log"]
theorem E1:∀x∈names4,x.length<=6:=by decide +kernel
theorem E2:∀x∈names4,iE x=true:=by decide +kernel
noncomputable def uG:List Int:=[2,1,3,4,2,3]
noncomputable def uH:List Int:=[1,2,0,1,3]
theorem E3:∀c∈uG,1<=c/\c<=4:=by decide
theorem E4:∀c∈uH,0<=c/\c<=3:=by decide
theorem E5(k:Int):∃i∈uG,cJ [.int 2,.int 1,.int 3,.int 4,.int 2,.int 3] (k%6)=some (.int i):=by obtain⟨c,hc,e⟩:=iR (enc:=T.int) (cs:=uG) (by simp[uG]) k;exact⟨c,hc,e⟩
theorem E6(k:Int):∃i∈uH,cJ [.int 1,.int 2,.int 0,.int 1,.int 3] (k%5)=some (.int i):=by obtain⟨c,hc,e⟩:=iR (enc:=T.int) (cs:=uH) (by simp[uH]) k;exact⟨c,hc,e⟩
theorem uI{α β:Type}(f:α->β)(l:List α):(l.filterMap fun a=>some (f a))=l.map f:=by
 induction l with
 |nil=>rfl
 |cons a l ih=>simp[ih]
def uJ(G:Glo)(elt:E)(n:Nat)(k:Ik)(src:List E)(cond:a0 E)(r:Env):evE G (.comp elt n k src cond) r=(aD G src r).bind fun xs=>(bP k xs).bind fun qc=>
   (eE (fun x=>(bnd n x r).bind fun r'=>(evO G cond r').bind fun c=>match c with
    |none=>(evE G elt r').map some
    |some (.bl true)=>(evE G elt r').map some
    |some (.bl false)=>some none
    |some _=>none) qc).map .lst:=by rw[evE];try rfl
def E7(G:Glo)(i:Nat)(r:Env):evE G (.w i) r=(r[i]?).join:=by rw[evE]
def gV(G:Glo)(f:Bn)(a:E)(r:Env):evE G (.blt f a) r=(evE G a r).bind fun x=>bW f x:=by rw[evE]
theorem E8(q:Nat)(h:q<=3):items .range [.int (q:Int)]=some ((List.range q).map fun(i:Nat)=>T.int (i:Int)):=by simp only[items,kK,Int.toNat_natCast];rw[if_pos (by lia)]
def dD(h0:aS (bS src) τ=τ0)(h1:aD G src (aA τ0)=some xs)(h2:items k xs=some qc)(h3:bU (fun x τ=>(bL is x τ).bind fun τ'=>aC G body τ') qc τ0=some o):evS G (.loop is k src body) τ=some o:=by
 rw[evS,h0,h1,bB,h2,bB];exact h3
noncomputable def yO:List S:=[.asg 7 (.bin .fdiv (.call "_law_drawn" [.w 0,.bin .add (.c (.int 20)) (.w 3)]) (.c (.int 4))),
  .asg 8 (.lst []),
  .loop [9] .range [.idx (.tup [.c (.int 1),.c (.int 2),.c (.int 0),.c (.int 1),.c (.int 3)]) (.bin .mod (.w 7) (.c (.int 5)))] [.app 8 (.call "_law_rule" [.w 4,.w 6,.bin .fdiv (.call "_law_drawn" [.w 7,.w 9]) (.c (.int 4))])],
  .asg 10 (.blt .toTuple (.comp (.bin .add (.tup [.idx (.w 0) (.c (.int 0)),.blt .toTuple (.idx (.w 0) (.c (.int 1)))]) (.sli (.w 0) (some (.c (.int 2))) none)) 1 .plain [.w 8] none)),
  .asg 5 (.bin .add (.w 5) (.tup [.bin .add (.sli (.w 6) none (some (.c (.int 3)))) (.tup [.w 10])]))]
set_option maxRecDepth 1000000 in
theorem E9(hd:P.fn "_law_drawn"=some iO)(ht:P.fn "_law_test"=some iP)(hp:P.fn "_law_pairs"=some mB)(hr:P.fn "_law_rule"=some jT)(n:Nat){bs:List Bt}(hbo:∀b∈bs,b.ok){b:Bt}(hbm:b∈bs)(k:Int)(s1:T)(s2:Int)(i:Nat)(S:List Tb)(hS:S.length<=4)(s7 s8 s9 s10:Sl):∃(rs:List Rl)(s9':Sl),aC (glo P (run P (n+6))) yO [T.int k,s1,T.int s2,T.int (i:Int),T.lst (bs.map Bt.t),T.tup (S.map Tb.t),b.t,s7,s8,s9,s10] =some (.nx [T.int k,s1,T.int s2,T.int (i:Int),T.lst (bs.map Bt.t),T.tup ((S++[(⟨b.nm,b.cs,b.key,rs⟩:Tb)]).map Tb.t),b.t,T.int (cF k (20+i)/4),T.lst (rs.map Rl.raw),s9',T.tup (rs.map Rl.t)])/\rs.length<=3/\∀r∈rs,r.ok/\r.asc/\r.fits (bs.map (·.nm)) b.cs:=by
 have e1:=kY hd (n+5) k (20+i);obtain⟨c,hc,ecn⟩:=E6 (cF k (20+i)/4);have hcm:=E4 c hc;obtain⟨q,rfl⟩:∃q:Nat,c=(q:Int):=⟨c.toNat,by lia⟩;have hq3:q<=3:=by lia
 obtain⟨rs,s9',el,hrl,hro⟩:=D9 hd ht hp hr n hbo hbm k (cF k (20+i)/4) 0 s1 (.int s2) (.int (i:Int)) (.tup (S.map Tb.t)) q hq3 s9 s10;have hz1:rs.length<=16777216:=by lia
 have hz2:S.length+1<=16777216:=by lia
 refine⟨rs,s9',?_,by lia,hro⟩;unfold yO;rw[bK (τ':=[T.int k,s1,T.int s2,T.int (i:Int),T.lst (bs.map Bt.t),T.tup (S.map Tb.t),b.t,T.int (cF k (20+i)/4),s8,s9,s10]) (by simp[evS,evE,aD,aA,aS,aN,bS,Sl.get,Sl.frz,bO,cC,cZ,dO,fresh,glo,SZ,e1])];rw[bK (τ':=[T.int k,s1,T.int s2,T.int (i:Int),T.lst (bs.map Bt.t),T.tup (S.map Tb.t),b.t,T.int (cF k (20+i)/4),.own [],s9,s10]) (by simp[evS,evE,aD,aS,aN,bS,dO,fresh])];rw[bK (s:=.loop _ _ _ _) (τ':=[T.int k,s1,T.int s2,T.int (i:Int),T.lst (bs.map Bt.t),T.tup (S.map Tb.t),b.t,T.int (cF k (20+i)/4),.own (rs.map Rl.raw),s9',s10]) (by refine dD (qc:=(List.range q).map fun(i:Nat)=>T.int (i:Int)) (xs:=[.int (q:Int)]) (τ0:=[T.int k,s1,T.int s2,T.int (i:Int),T.lst (bs.map Bt.t),T.tup (S.map Tb.t),b.t,T.int (cF k (20+i)/4),.own [],s9,s10]) (by simp[bS,aN,aS,Sl.frz]) ?_ (E8 q hq3) el;simp[evE,aD,aA,Sl.get,bO,dA,aK,ecn])];rw[bK (τ':=[T.int k,s1,T.int s2,T.int (i:Int),T.lst (bs.map Bt.t),T.tup (S.map Tb.t),b.t,T.int (cF k (20+i)/4),T.lst (rs.map Rl.raw),s9',T.tup (rs.map Rl.t)]) (by
  simp only[evS,aA,aS,aN,bS,jP,List.append_nil,List.nil_append,List.cons_append,List.filterMap_cons,List.filterMap_nil,Nat.reduceLeDiff,if_false,List.modify_succ_cons,List.modify_zero_cons,Sl.frz,aY,aZ,Sl.get];rw[gV,uJ];simp only[aD,E7,aW,aV,aX,aO,bP,items,List.length_map,SZ,hz1,if_true];rw[iH (enc:=Rl.raw) (fun r=>some r.t) (fun r _=>by simp only[bnd,if_true,aO,evO];rw[D8];rfl),uI];simp[dO,fresh,bW])]
 simp[aC,evS,evE,aD,evO,aA,aS,aN,bS,jP,Sl.get,Sl.frz,bO,cC,dO,fresh,asI,fN,SZ,Bt.t,gU,cut,gZ,hz2,Tb.t]
theorem F4(hd:P.fn "_law_drawn"=some iO)(ht:P.fn "_law_test"=some iP)(hp:P.fn "_law_pairs"=some mB)(hr:P.fn "_law_rule"=some jT)(hb:P.fn "_law_bare"=some kW)(h:P.fn "_law_schema"=some tY)(n:Nat)(k:Int):∃S:List Tb,run P (n+7) "_law_schema" [.int k]=some (.tup (S.map Tb.t))/\S.length<=4/\(∀b∈S,b.ok)/\0<S.length/\(S.map (·.nm)).Nodup/\∀b∈S,b.rs.length<=3/\∀r∈b.rs,r.fits (S.map (·.nm)) b.cs:=by
 rw[cO h rfl];obtain⟨c,hc,ec⟩:=E5 (k/4);have hc':=E3 c hc;obtain⟨m,rfl⟩:∃m:Nat,c=(m:Int):=⟨c.toNat,by lia⟩;have hk0:0<=k%4:=lH _ (by decide);have hk1:k%4<4:=lG _ (by decide);obtain⟨j,hj⟩:∃j:Nat,k%4=(j:Int):=⟨(k%4).toNat,by lia⟩;have hjl:j<=(names4.map T.str).length:=by simp[names4];lia
 generalize hN:(fA names4 j).take m=N;have hNl:N.length<=4:=by rw[<-hN,List.length_take,uE];simp[names4];lia
 have hNp:0<N.length:=by rw[<-hN,List.length_take,uE];simp[names4];lia
 have hNs:∀x∈N,x.length<=6:=fun x hx=>by rw[<-hN]at hx;exact E1 x (kZ.mp (kB hx))
 have hNa:∀x∈N,iE x=true:=fun x hx=>by rw[<-hN]at hx;exact E2 x (kZ.mp (kB hx))
 unfold tY;dsimp only;rw[bK (τ':=[.val (.int k),.own (names4.map .str),.no,.no,.no,.no,.no,.no,.no,.no,.no]) (by simp[evS,evE,aD,cD,aS,aN,bS,dO,fresh,names4])];rw[bK (τ':=[.val (.int k),.own (names4.map .str),.val (.int (j:Int)),.no,.no,.no,.no,.no,.no,.no,.no]) (by simp[evS,evE,aA,aS,aN,Sl.get,Sl.frz,bO,dA,dO,fresh,hj])];rw[bK (τ':=[.val (.int k),.val (.lst (N.map .str)),.val (.int (j:Int)),.no,.no,.no,.no,.no,.no,.no,.no]) (by
  have hz:(names4.map T.str).length-j+min j (names4.map T.str).length<=16777216:=by simp[names4];lia
  have hz':names4.length-j+min j names4.length<=16777216:=by simpa using hz
  simp only[evS,evE,aD,evO,aA,aS,aN,bS,jP,List.append_nil,List.nil_append,List.cons_append,List.modify_succ_cons,List.modify_zero_cons,Sl.frz,aY,aZ,Sl.get,aW,aV,aX,aO,cT,asI,fN,tZ _ _ hjl,uA _ _ hjl];simp[bO,cC,dA,cZ,dO,fresh,aK,SZ,hz',ec,yK,fA,<-hN])]
 generalize hB:(N.zipIdx 0).map (fun p=>mkB p.1 (cF k p.2/4))=bs;have hbl:bs.length=N.length:=by rw[<-hB];simp
 have hbo:∀b∈bs,b.ok:=fun b hb'=>by
  rw[<-hB]at hb';obtain⟨p,hp',rfl⟩:=omm hb';have hmm:p.1∈N:=by have:=List.mem_zipIdx' hp';rw[this.2];exact kA _
  exact D7 _ (hNs _ hmm) (hNa _ hmm) _
 rw[bK (τ':=[.val (.int k),.val (.lst (N.map .str)),.val (.int (j:Int)),.no,.val (.lst (bs.map Bt.t)),.no,.no,.no,.no,.no,.no]) (by
  have hz:N.length<=16777216:=by lia
  simp only[evS,evE,aD,evO,aA,aS,aN,bS,jP,List.append_nil,List.nil_append,List.cons_append,List.filterMap_cons,List.filterMap_nil,Nat.reduceLeDiff,if_true,if_false,Nat.reduceSub,List.modify_succ_cons,List.modify_zero_cons,Sl.frz,aY,aZ,Sl.get,aW,aV,aX,aO,bP,items,yN,List.length_map,SZ,hz];rw[uF T.str N 0,iH (enc:=fun(p:Str×Nat)=>T.tup [.int (p.2:Int),.str p.1]) (fun p=>some (mkB p.1 (cF k p.2/4)).t) (fun p _=>by have e1:=kY hd (n+5) k p.2;have e2:=ZR hd hb (n+4) p.1 (cF k p.2/4);simp[bnd,bO,cZ,glo,e1,e2,mkB,Bt.t]),uI];simp[dO,fresh,<-hB])]
 rw[bK (τ':=[.val (.int k),.val (.lst (N.map .str)),.val (.int (j:Int)),.no,.val (.lst (bs.map Bt.t)),.val (.tup []),.no,.no,.no,.no,.no]) (by simp[evS,evE,aD,aS,aN,bS,dO,fresh])];obtain⟨τ',e,S,s3,s6,s7,s8,s9,s10,rfl,h1,h2,h3,h4⟩:=fR (enc:=fun(p:Bt×Nat)=>T.tup [.int (p.2:Int),p.1.t]) (f:=fun x τ=>(bL [3,6] x τ).bind fun τ'=>aC (glo P (run P (n+6))) yO τ')
  (fun done τ=>∃(S:List Tb),∃s3 s6 s7 s8 s9 s10,τ=[.val (.int k),.val (.lst (N.map .str)),.val (.int (j:Int)),s3,.val (.lst (bs.map Bt.t)),.val (.tup (S.map Tb.t)),s6,s7,s8,s9,s10]/\S.length=done.length/\(∀b∈S,b.ok)/\S.map (·.nm)=done.map (·.1.nm)/\∀b∈S,b.rs.length<=3/\∀r∈b.rs,r.fits (bs.map (·.nm)) b.cs)
  (bs.zipIdx 0) [.val (.int k),.val (.lst (N.map .str)),.val (.int (j:Int)),.no,.val (.lst (bs.map Bt.t)),.val (.tup []),.no,.no,.no,.no,.no] ⟨[],_,_,_,_,_,_,rfl,rfl,(fun b hb'=>by cases hb'),rfl,fun b hb'=>by cases hb'⟩ (by
   rintro done ⟨b,i⟩ rest hsp τ ⟨S,s3,s6,s7,s8,s9,s10,rfl,h1,h2,h3,h4⟩;have hbm:b∈bs:=by
    have:(b,i)∈bs.zipIdx 0:=by rw[hsp];simp
    have:=List.mem_zipIdx' this;rw[this.2];exact kA _
   have hdl:done.length<=4:=by have:=aP List.length hsp;simp at this;lia
   obtain⟨rs,s9',est,hrl,hro⟩:=E9 hd ht hp hr n hbo hbm k (.lst (N.map .str)) (j:Int) i S (by lia) s7 s8 s9 s10;refine⟨[.val (.int k),.val (.lst (N.map .str)),.val (.int (j:Int)),.val (.int (i:Int)),.val (.lst (bs.map Bt.t)),.val (.tup ((S++[(⟨b.nm,b.cs,b.key,rs⟩:Tb)]).map Tb.t)),.val b.t,.val (.int (cF k (20+i)/4)),.val (.lst (rs.map Rl.raw)),s9',.val (.tup (rs.map Rl.t))],?_,S++[(⟨b.nm,b.cs,b.key,rs⟩:Tb)],_,_,_,_,_,_,rfl,by simp[h1],fun x hx=>?_,by simp[h3],fun x hx=>?_⟩
   .simp only[bL,setAll,aO,rF,rG];exact est
   .rcases oma hx with z|z
    .exact h2 x z
    .rw[omg z];have bo:=hbo b hbm;exact⟨bo.nm,bo.cs.2.1,bo.cs.2.2,bo.k1,bo.ks,by show rs.length<=4;lia,fun r hr=>(hro r hr).1,bo.kn,bo.cs.1,bo.nd,bo.kk,bo.as,bo.na,bo.inn,fun r hr=>(hro r hr).2.1,bo.kg⟩
   .rcases oma hx with z|z
    .exact h4 x z
    .rw[omg z];exact⟨by show rs.length<=3;lia,fun r hr=>(hro r hr).2.2⟩)
 rw[bK (s:=.loop _ _ _ _) (τ':=[.val (.int k),.val (.lst (N.map .str)),.val (.int (j:Int)),s3,.val (.lst (bs.map Bt.t)),.val (.tup (S.map Tb.t)),s6,s7,s8,s9,s10]) (by rw[evS];simp only[bS,aN,List.append_nil,aS,aD,evE,aA,List.modify_succ_cons,List.modify_zero_cons,aY,Sl.get,Sl.frz,aZ];simp only[aW,aV,aX,aO,items,uF];exact e)];refine⟨S,by simp[aC,evS,evE,aA,aS,aN,Sl.get,Sl.frz,bG],by rw[h1];simp;lia,h2,by rw[h1];simp;lia,?_,?_⟩
 .have e1:(bs.zipIdx 0).map (·.1.nm)=N:=by
   have z:(bs.zipIdx 0).map (·.1.nm)=((bs.zipIdx 0).map Prod.fst).map (·.nm):=by rw[eG];rfl
   rw[z,List.zipIdx_map_fst,<-hB,eG];have y:(N.zipIdx 0).map ((·.nm)∘fun p=>mkB p.1 (cF k p.2/4))=(N.zipIdx 0).map Prod.fst:=rfl;rw[y,List.zipIdx_map_fst]
  rw[h3,e1,<-hN];have all:∀j:Fin 4,∀m:Fin 5,((fA names4 j.val).take m.val).Nodup:=by decide +kernel
  exact all ⟨j,by lia⟩ ⟨m,by lia⟩
 .have e2:S.map (·.nm)=bs.map (·.nm):=by
   have z:(bs.zipIdx 0).map (·.1.nm)=((bs.zipIdx 0).map Prod.fst).map (·.nm):=by rw[eG];rfl
   rw[h3,z,List.zipIdx_map_fst]
  rw[e2];exact h4
section
variable {ps:List (Col×T)}
noncomputable def Wok(c:Col)(w:T):Prop:=w=.non\/((c.k==("text":Str))=true/\∃x,w=.str x)\/((c.k==("text":Str))=false/\∃i,w=.int i)
noncomputable def rowS:List Str:=["a", "b", "", "ab", "a", "x9"]
noncomputable def rowI:List Int:=[0,1,2,3,1,2,4,-5]
theorem HJ(k:Int):∃x,cJ [.str "a",.str "b",.str "",.str "ab",.str "a",.str "x9"] (k%6)=some (.str x):=by obtain⟨c,_,e⟩:=iR (enc:=T.str) (cs:=rowS) (by simp[rowS]) k;exact⟨c,e⟩
theorem HK(k:Int):∃x,cJ [.int 0,.int 1,.int 2,.int 3,.int 1,.int 2,.int 4,.int (-5)] (k%8)=some (.int x):=by obtain⟨c,_,e⟩:=iR (enc:=T.int) (cs:=rowI) (by simp[rowI]) k;exact⟨c,e⟩
theorem yP(h:P.fn "_law_worth"=some iF)(n:Nat)(c:Col)(k:Int):∃w,run P (n+1) "_law_worth" [c.t,.int k]=some w/\Wok c w:=by
 rw[cO h rfl];obtain⟨x,ex⟩:=HJ (k/4);obtain⟨i,ei⟩:=HK (k/4);cases hg:c.g with
 |true=>
  cases h4:(k%4==0)with
  |true=>exact⟨.non,by simp[iF,aC,evS,evE,aD,cD,aA,aS,aN,bS,Sl.get,Sl.frz,bO,dA,cZ,bG,bF,aK,iD,glo,Col.t,fQ,hg,h4,eqC,dpP,eqT],.inl rfl⟩
  |false=>
   cases ht:(c.k==("text":Str))with
   |true=>exact⟨.str x,by simp[iF,aC,evS,evE,aD,cD,aA,aS,aN,bS,Sl.get,Sl.frz,bO,dA,cZ,bG,bF,aK,iD,glo,Col.t,cH,fQ,hg,h4,eqC,dpP,eqT,ht,ex],.inr (.inl ⟨ht,x,rfl⟩)⟩
   |false=>exact⟨.int i,by simp[iF,aC,evS,evE,aD,cD,aA,aS,aN,bS,Sl.get,Sl.frz,bO,dA,cZ,bG,bF,aK,iD,glo,Col.t,cH,fQ,hg,h4,eqC,dpP,eqT,ht,ei],.inr (.inr ⟨ht,i,rfl⟩)⟩
 |false=>
  cases ht:(c.k==("text":Str))with
  |true=>exact⟨.str x,by simp[iF,aC,evS,evE,aD,cD,aA,aS,aN,bS,Sl.get,Sl.frz,bO,dA,cZ,bG,bF,aK,iD,glo,Col.t,cH,fQ,hg,eqC,dpP,eqT,ht,ex],.inr (.inl ⟨ht,x,rfl⟩)⟩
  |false=>exact⟨.int i,by simp[iF,aC,evS,evE,aD,cD,aA,aS,aN,bS,Sl.get,Sl.frz,bO,dA,cZ,bG,bF,aK,iD,glo,Col.t,cH,fQ,hg,eqC,dpP,eqT,ht,ei],.inr (.inr ⟨ht,i,rfl⟩)⟩
theorem gF(G:Glo)(elt:E)(n:Nat)(k:Ik)(src:List E)(r:Env):evE G (.comp elt n k src none) r=(aD G src r).bind fun xs=>(bP k xs).bind fun qc=>
   (eE (fun x=>(bnd n x r).bind fun r'=>(evE G elt r').map some) qc).map .lst:=by
 rw[uJ];simp only[evO,aO]
noncomputable def nmT(p:Col×T):T:=.str p.1.n
theorem HL:∀{ps:List (Col×T)}{p:Col×T},p∈ps->(ps.map (·.1.n)).Nodup->∃i:Nat,hG (.str p.1.n) (ps.map nmT)=some i/\(ps.map (·.2))[i]?=some p.2
 |[],_,h,_=>by cases h
 |q::ps,p,h,hn=>by
  rw[bE,gH]at hn;by_cases hq:q.1.n=p.1.n
  .have:q=p:=by
    rcases omc h with e|hp
    .exact e.symm
    .exact absurd (fS.mpr ⟨p,hp,hq.symm⟩) hn.1
   subst this;refine⟨0,?_,rfl⟩;simp[hG,nmT,eqT]
  .rcases omc h with e|hp
   .exact absurd (by rw[e]) hq
   .obtain⟨i,e1,e2⟩:=HL hp hn.2;refine⟨i+1,?_,by simpa using e2⟩;have hb:(q.1.n==p.1.n)=false:=by simpa using hq
    simp[hG,nmT,eqT,hb];simpa[nmT]using e1
theorem F6:∀ps:List (Col×T),(ps.map nmT).all flat=true
 |[]=>rfl
 |p::ps=>by simp[nmT,flat]
theorem nG{p:Col×T}(h:p∈ps)(hn:(ps.map (·.1.n)).Nodup):∃i:Int,dZ .index (.lst (ps.map nmT)) (.str p.1.n)=some (.int i)/\cJ (ps.map (·.2)) i=some p.2:=by obtain⟨i,e1,e2⟩:=HL h hn;refine⟨(i:Int),?_,jC e2⟩;simp only[dZ];rw[if_pos (by rw[F6];rfl),e1];rfl
def gW{α:Type}{enc:α->T}{f:T->a0 (a0 T)}(g:α->T){l:List α}(h:∀a∈l,f (enc a)=some (some (g a))):eE f (l.map enc)=some (l.map g):=by rw[iH (fun a=>some (g a)) h,uI]
def fB(nm:T)(ps:List (Col×T))(key rules:T):T:=dJ nm (ps.map (·.1)) key rules
theorem uK(h:P.fn "_law_names"=some nF)(n:Nat)(ps:List (Col×T))(hl:ps.length<=4)(nm key rules:T):run P (n+1) "_law_names" [fB nm ps key rules]=some (.lst (ps.map nmT)):=by
 rw[cO h rfl];have hl':ps.length<=16777216:=by lia
 have e:=gW (enc:=fun p:Col×T=>p.1.t) (f:=fun x=>(aK x (.int 0)).map some) nmT (l:=ps) (fun p _=>by simp[Col.t,aK,cG,nmT]);simp[nF,aC,evS,evE,aD,evO,cD,aA,aS,aN,bS,jP,Sl.get,Sl.frz,bG,aK,items,bP,bnd,glo,SZ,fB,dJ,cH,hl',Function.comp_def]at e ⊢;simp[e]
theorem yQ(h:P.fn "worths_of"=some lZ)(n:Nat)(hl:ps.length<=4)(hn:(ps.map (·.1.n)).Nodup)(nm key rules:T){qs:List (Col×T)}(hq:∀q∈qs,q∈ps)(hql:qs.length<=4):run P (n+1) "worths_of" [fB nm ps key rules,.tup (ps.map (·.2)),.tup (qs.map nmT)]=some (.tup (qs.map (·.2))):=by
 rw[cO h rfl];have hl':ps.length<=16777216:=by lia
 have hl2:qs.length<=16777216:=by lia
 have e:=gW (enc:=fun p:Col×T=>p.1.t) (f:=fun x=>(aK x (.int 0)).map some) nmT (l:=ps) (fun p _=>by simp[Col.t,aK,cG,nmT]);have e2:=gW (enc:=nmT) (f:=fun x=>((dZ .index (.lst (ps.map nmT)) x).bind fun y=>aK (.tup (ps.map (·.2))) y).map some) (fun q=>q.2) (l:=qs) (fun q hq'=>by obtain⟨i,e1,e2⟩:=nG (hq q hq') hn;simp only[nmT,e1,aO,aK,e2,cT]);unfold lZ;dsimp only;rw[bK (τ':=[.val (fB nm ps key rules),.val (.tup (ps.map (·.2))),.val (.tup (qs.map nmT)),.val (.lst (ps.map nmT))]) (by simp[evS,evE,aD,evO,cD,aA,aS,aN,bS,jP,Sl.get,Sl.frz,dO,fresh,aK,items,bP,bnd,SZ,fB,dJ,cH,hl',Function.comp_def]at e ⊢;simp[e])];have ee:evE (glo P (run P n)) (.blt .toTuple (.comp (.idx (.w 2) (.mth .index (.w 4) (.w 0))) 1 .plain [.w 2] none)) (aA [Sl.val (fB nm ps key rules),.val (.tup (ps.map (·.2))),.val (.tup (qs.map nmT)),.val (.lst (ps.map nmT))])=some (.tup (qs.map (·.2))):=by rw[gV,gF];simp only[aD,evE,aA,aY,aZ,Sl.get,aW,aV,aX,aO,bP,items,List.length_map,bnd,if_true];rw[if_pos (show qs.length<=SZ from hl2)];simp only[aO];rw[e2];rfl
 rw[dG (t:=.tup (qs.map (·.2))) (by rw[evS];rw[show aS (aN (.blt .toTuple (.comp (.idx (.w 2) (.mth .index (.w 4) (.w 0))) 1 .plain [.w 2] none))) [Sl.val (fB nm ps key rules),.val (.tup (ps.map (·.2))),.val (.tup (qs.map nmT)),.val (.lst (ps.map nmT))]=[Sl.val (fB nm ps key rules),.val (.tup (ps.map (·.2))),.val (.tup (qs.map nmT)),.val (.lst (ps.map nmT))]from rfl,ee];rfl)];rfl
end
noncomputable def val(ps:List (Col×T))(x:Str):T:=match ps.find? (fun p=>p.1.n==x)with|some p=>p.2|none=>.non
theorem gG:∀{ps:List (Col×T)}{p:Col×T},p∈ps->(ps.map (·.1.n)).Nodup->val ps p.1.n=p.2
 |[],_,h,_=>by cases h
 |q::ps,p,h,hn=>by
  rw[bE,gH]at hn;by_cases hq:q.1.n=p.1.n
  .have:q=p:=by
    rcases omc h with e|hp
    .exact e.symm
    .exact absurd (fS.mpr ⟨p,hp,hq.symm⟩) hn.1
   subst this;simp[val]
  .rcases omc h with e|hp
   .exact absurd (by rw[e]) hq
   .have e:=gG hp hn.2;have hb:(q.1.n==p.1.n)=false:=by simpa using hq
    unfold val at e ⊢;rw[rB,hb];exact e
noncomputable def bR:T->Bool
 |.non=>true
 |_=>false
def ltV:T->T->Bool
 |.int a,.int b=>decide (a<b)
 |.str a,.str b=>decide (a.cps.toList<b.cps.toList)
 |_,_=>false
def yR:a0 Bool->a0 Bool->a0 Bool
 |some false,_=>some false
 |none,some false=>some false
 |none,_=>none
 |some true,b=>b
def or3:a0 Bool->a0 Bool->a0 Bool
 |some true,_=>some true
 |none,some true=>some true
 |none,_=>none
 |some false,b=>b
def cY:a0 Bool->T
 |none=>.non
 |some b=>.bl b
noncomputable def fJ:a0 Bool->Int
 |some false=>0
 |none=>1
 |some true=>2
def hv(ps:List (Col×T)):Tst->a0 Bool
 |.emp c=>some (bR (val ps c))
 |.bel a b=>if bR (val ps a)||bR (val ps b)then none else some (ltV (val ps a) (val ps b))
 |.isI c i=>if bR (val ps c)then none else some (eqT (val ps c) (.int i))
 |.isS c x=>if bR (val ps c)then none else some (eqT (val ps c) (.str x))
 |.neg t=>(hv ps t).map not
 |.cnj a b=>yR (hv ps a) (hv ps b)
 |.dsj a b=>or3 (hv ps a) (hv ps b)
theorem yS(ha:flat a=true)(hb:flat b=true):inC .non (.tup [a,b])=some (bR a||bR b):=by cases a<;>cases b<;>first|rfl|(exact absurd ha dW)|(exact absurd hb dW)
theorem HM(h:P.fn "compared"=some jS)(n:Nat)(ha:flat a=true)(hb:flat b=true)(hn:(bR a||bR b)=true):run P (n+1) "compared" [.str w,.tup [a,b]]=some .non:=by rw[cO h rfl];simp[jS,aC,evS,evE,cD,aA,aS,aN,Sl.get,Sl.frz,bG,bF,aK,glo,yS ha hb,hn]
theorem F9:(("is":Str)=="is")=true:=by decide +kernel
theorem G0(h:P.fn "compared"=some jS)(n:Nat)(ha:flat a=true)(hb:flat b=true)(hn:(bR a||bR b)=false)(ho:dpP a b<=30):run P (n+1) "compared" [.str "is",.tup [a,b]]=some (.bl (eqT a b)):=by
 rw[cO h rfl];have e:eqC a b=some (.bl (eqT a b)):=by unfold eqC;rw[if_pos ho]
 have e2:eqC (.str "is") (.str "is")=some (.bl true):=(show eqC (.str "is") (.str "is")=some (.bl (("is":Str)=="is"))from rfl).trans (by rw[F9]);simp[jS,aC,evS,evE,cD,aA,aS,aN,Sl.get,Sl.frz,bG,bF,aK,glo,yS ha hb,hn,cG,cH,e,e2]
theorem G1:(("below":Str)=="is")=false:=by decide +kernel
theorem G2(h:P.fn "compared"=some jS)(n:Nat)(ha:flat a=true)(hb:flat b=true)(hn:(bR a||bR b)=false)(ho:ltC a b=some (.bl (ltV a b))):run P (n+1) "compared" [.str "below",.tup [a,b]]=some (.bl (ltV a b)):=by rw[cO h rfl];have e2:eqC (.str "below") (.str "is")=some (.bl false):=(show eqC (.str "below") (.str "is")=some (.bl (("below":Str)=="is"))from rfl).trans (by rw[G1]);simp[jS,aC,evS,evE,cD,aA,aS,aN,Sl.get,Sl.frz,bG,bF,aK,glo,yS ha hb,hn,cG,cH,ho,e2]
theorem G3(h:P.fn "opposite"=some nE)(n:Nat)(a:a0 Bool):run P (n+1) "opposite" [cY a]=some (cY (a.map not)):=by
 rw[cO h rfl];cases a with
 |none=>simp[nE,aC,evS,evE,cD,aA,aS,aN,Sl.get,Sl.frz,bG,bF,glo,cY]
 |some b=>cases b<;>simp[nE,aC,evS,evE,cD,aA,aS,aN,Sl.get,Sl.frz,bG,bF,glo,cY]
theorem in3(s:Bool)(a b:a0 Bool):inC (.bl s) (.lst [cY a,cY b])=some (decide (a=some s)||decide (b=some s)):=by cases s<;>rcases a with _|_|_<;>rcases b with _|_|_<;>rfl
theorem in3n(a b:a0 Bool):inC .non (.lst [cY a,cY b])=some (decide (a=none)||decide (b=none)):=by rcases a with _|_|_<;>rcases b with _|_|_<;>rfl
theorem HN(h:P.fn "joined"=some qG)(n:Nat)(s:Bool)(a b:a0 Bool):run P (n+1) "joined" [.bl s,.lst [cY a,cY b]]=some (cY (if s then or3 a b else yR a b)):=by
 rw[cO h rfl];generalize glo P (run P n)=G;show bG (aC G xY [T.bl s,T.lst [cY a,cY b]])=_;unfold xY;have c1:evE G (.cmp .isin (.w 0) (.w 1)) (aA [T.bl s,T.lst [cY a,cY b]])=some (.bl (decide (a=some s)||decide (b=some s))):=by show(inC (.bl s) (.lst [cY a,cY b])).map T.bl=_;rw[in3];rfl
 have c2:evE G (.cmp .isin (.c .non) (.w 1)) (aA [T.bl s,T.lst [cY a,cY b]])=some (.bl (decide (a=none)||decide (b=none))):=by show(inC .non (.lst [cY a,cY b])).map T.bl=_;rw[in3n];rfl
 have r1:aC G [.ret (.w 0)] [T.bl s,T.lst [cY a,cY b]]=some (.rt (.bl s)):=bY rfl rfl;have r2:aC G [.ret (.c .non)] [T.bl s,T.lst [cY a,cY b]]=some (.rt .non):=bY rfl rfl;have r3:aC G [.ret (.lnot (.w 0))] [T.bl s,T.lst [cY a,cY b]]=some (.rt (.bl (!s))):=bY rfl rfl;cases k1:(decide (a=some s)||decide (b=some s))with
 |true=>rw[k1]at c1;rw[cV rfl c1 r1];cases s<;>rcases a with _|_|_<;>rcases b with _|_|_<;>first|rfl|(cases k1;done)
 |false=>
  rw[k1]at c1;rw[bJ rfl c1];cases k2:(decide (a=none)||decide (b=none))with
  |true=>rw[k2]at c2;rw[cV rfl c2 r2];cases s<;>rcases a with _|_|_<;>rcases b with _|_|_<;>first|rfl|(cases k1;done)|(cases k2;done)
  |false=>rw[k2]at c2;rw[bJ rfl c2,r3];cases s<;>rcases a with _|_|_<;>rcases b with _|_|_<;>first|rfl|(cases k1;done)|(cases k2;done)
theorem ws1:(("not":Str)=="not")=true/\(("and":Str)=="not")=false/\(("or":Str)=="not")=false/\(("empty":Str)=="not")=false/\(("is":Str)=="not")=false/\(("below":Str)=="not")=false:=by decide +kernel
theorem ws2:(("and":Str)=="and")=true/\(("or":Str)=="and")=false/\(("empty":Str)=="and")=false/\(("is":Str)=="and")=false/\(("below":Str)=="and")=false:=by decide +kernel
theorem ws3:(("or":Str)=="or")=true/\(("and":Str)=="or")=false/\(("empty":Str)=="or")=false/\(("is":Str)=="or")=false/\(("below":Str)=="or")=false:=by decide +kernel
theorem ws4:(("empty":Str)=="empty")=true/\(("is":Str)=="empty")=false/\(("below":Str)=="empty")=false:=by decide +kernel
theorem ws5:(("is":Str)=="is")=true/\(("below":Str)=="is")=false/\(("is":Str)=="below")=false/\(("below":Str)=="below")=true:=by decide +kernel
def eqs(a b:Str):eqC (.str a) (.str b)=some (.bl (a==b)):=rfl
theorem Wok.flat(h:Wok c w):Ev.flat w=true:=by rcases h with rfl|⟨_,x,rfl⟩|⟨_,x,rfl⟩<;>rfl
def jV{ps:List (Col×T)}(h:o∈ps.map (·.1)):∃p∈ps,p.1=o:=by obtain⟨p,hp,e⟩:=omm h;exact⟨p,hp,e⟩
theorem HP{p q:Col×T}(hp:Wok p.1 p.2)(hq:Wok q.1 q.2)(hk:p.1.k=q.1.k)(h:(bR p.2||bR q.2)=false):ltC p.2 q.2=some (.bl (ltV p.2 q.2)):=by
 rcases hp with e|⟨h1,x,e⟩|⟨h1,x,e⟩<;>rcases hq with f|⟨h2,y,f⟩|⟨h2,y,f⟩<;>rw[e,f]at h ⊢
 all_goals first|rfl|(exfalso;rw[hk,h2]at h1;cases h1;done)|(cases h;done)
theorem eq1N(h:Ev.flat w=true):eqC (.tup [w]) (.tup [.non])=some (.bl (bR w)):=by cases w<;>first|rfl|(exact absurd h dW)
def ix0(a:T)(r:List T):aK (.tup (a::r)) (.int 0)=some a:=cG a r
section
variable {G:Glo}{X tt R:T}{w:Str}
def yT(hw:aK tt (.int 0)=some (.str w)):aC G gS.body [X,tt,R,.no]=aC G (gS.body.drop 1) [X,tt,R,T.str w] :=
 bC (t:=.str w) rfl (show(aK tt (.int 0))=_ from hw) rfl
def h_c(u:Str)(b:Bool)(h:(w==u)=b):evE G (.cmp .eq (.w 3) (.c (.str u))) (aA [X,tt,R,T.str w])=some (.bl b):=by rw[<-h];rfl
theorem h_ao(b:Bool)(h:((w=="and")||(w=="or"))=b):evE G (.lor (.cmp .eq (.w 3) (.c (.str "and"))) (.cmp .eq (.w 3) (.c (.str "or")))) (aA [X,tt,R,T.str w])=some (.bl b):=by
 rw[evE,h_c "and" _ rfl];subst h;cases w==("and":Str)with
 |true=>rfl
 |false=>exact h_c (G:=G) (X:=X) (tt:=tt) (R:=R) "or" _ rfl
theorem yU(hw:aK tt (.int 0)=some (.str w))(n1:(w=="not")=false)(n2:(w=="and")=false)(n3:(w=="or")=false):aC G gS.body [X,tt,R,.no]=aC G (gS.body.drop 3) [X,tt,R,T.str w] :=
 (yT hw).trans ((bJ rfl (h_c "not" _ n1)).trans (bJ rfl (h_ao false (by rw[n2,n3];rfl))))
def G4(e:G.call "worths_of" [X,R,.tup [.str c]]=some a)(he:eqC a (.tup [.non])=some (.bl b))(ht:tt=.tup [.str "empty",.str c]):aC G gS.body [X,tt,R,.no]=some (.rt (.bl b)):=by subst ht;refine(yU (ix0 _ _) ws1.2.2.2.1 ws2.2.2.1 ws3.2.2.1).trans (cV rfl (h_c "empty" _ ws4.1) (bY rfl ?_));have e1:evE G (.call "worths_of" [.w 0,.w 2,.sli (.w 1) (some (.c (.int 1))) none]) (aA [X,T.tup [.str "empty",.str c],R,T.str "empty"])=some a:=e;rw[evE,e1];exact he
def HQ(e:G.call "worths_of" [X,R,.tup [.str c]]=some (.tup [a]))(e2:G.call "compared" [.str "is",.tup [a,v]]=some u)(ht:tt=.tup [.str "is",.str c,v]):aC G gS.body [X,tt,R,.no]=some (.rt u):=by subst ht;refine(yU (ix0 _ _) ws1.2.2.2.2.1 ws2.2.2.2.1 ws3.2.2.2.1).trans ((bJ rfl (h_c "empty" _ ws4.2.1)).trans (cV rfl (h_c "is" _ ws5.1) (bY rfl ?_)));have e1:evE G (.call "worths_of" [.w 0,.w 2,.sli (.w 1) (some (.c (.int 1))) (some (.c (.int 2)))]) (aA [X,T.tup [.str "is",.str c,v],R,T.str "is"])=some (.tup [a]):=e;rw[evE,aD,aD,evE.eq_3,e1];exact e2
def HR(e:G.call "worths_of" [X,R,.tup [.str a,.str b]]=some v)(e2:G.call "compared" [.str "below",v]=some u)(ht:tt=.tup [.str "below",.str a,.str b]):aC G gS.body [X,tt,R,.no]=some (.rt u):=by subst ht;refine(yU (ix0 _ _) ws1.2.2.2.2.2 ws2.2.2.2.2 ws3.2.2.2.2).trans ((bJ rfl (h_c "empty" _ ws4.2.2)).trans ((bJ rfl (h_c "is" _ ws5.2.1)).trans (bY rfl ?_)));have e1:evE G (.call "worths_of" [.w 0,.w 2,.sli (.w 1) (some (.c (.int 1))) none]) (aA [X,T.tup [.str "below",.str a,.str b],R,T.str "below"])=some v:=e;rw[evE,aD,aD,e1];exact e2
def G5(e:G.call "holds" [X,t,R]=some v)(e2:G.call "opposite" [v]=some u)(ht:tt=.tup [.str "not",t]):aC G gS.body [X,tt,R,.no]=some (.rt u):=by subst ht;refine(yT (ix0 _ _)).trans (cV rfl (h_c "not" _ ws1.1) (bY rfl ?_));have e1:evE G (.call "holds" [.w 0,.idx (.w 1) (.c (.int 1)),.w 2]) (aA [X,T.tup [.str "not",t],R,T.str "not"])=some v:=e;rw[evE,aD,e1];exact e2
theorem HS(hn:(w=="not")=false)(h:((w=="and")||(w=="or"))=true)(e:G.call "holds" [X,x,R]=some v)(e':G.call "holds" [X,y,R]=some v')(e2:G.call "joined" [.bl (w=="or"),.lst [v,v']]=some u)(ht:tt=.tup [.str w,x,y]):aC G gS.body [X,tt,R,.no]=some (.rt u):=by
 subst ht;refine(yT (ix0 _ _)).trans ((bJ rfl (h_c "not" _ hn)).trans (cV rfl (h_ao true h) (bY rfl ?_)));rw[evE,aD,aD,aD,gF];have s1:aD G [.sli (.w 1) (some (.c (.int 1))) none] (aA [X,T.tup [.str w,x,y],R,T.str w])=some [.tup [x,y]]:=rfl;have s2:bP .plain [.tup [x,y]]=some [x,y]:=rfl;rw[s1,bB,s2,bB];have s3:(eE (fun q=>(bnd 1 q (aA [X,T.tup [.str w,x,y],R,T.str w])).bind fun r'=>(evE G (.call "holds" [.w 1,.w 0,.w 3]) r').map some) [x,y])=some [v,v']:=by
  have f:∀q u,G.call "holds" [X,q,R]=some u->((bnd 1 q (aA [X,T.tup [.str w,x,y],R,T.str w])).bind fun r'=>(evE G (.call "holds" [.w 1,.w 0,.w 3]) r').map some)=some (some u):=fun q u hq=>by show(G.call "holds" [X,q,R]).map some=_;rw[hq];rfl
  rw[eE,f x v e,eE,f y v' e'];rfl
 rw[s3];exact e2
end
theorem G6(h:P.fn "holds"=some gS)(hw:P.fn "worths_of"=some lZ)(hc:P.fn "compared"=some jS)(ho:P.fn "opposite"=some nE)(hj:P.fn "joined"=some qG){ps:List (Col×T)}(hl:ps.length<=4)(hn:(ps.map (·.1.n)).Nodup)(hp:∀p∈ps,Wok p.1 p.2)(nm key rules:T):∀(d n:Nat)(t:Tst),t.fit d->t.inn (ps.map (·.1))->run P (n+d+1) "holds" [fB nm ps key rules,t.t,.tup (ps.map (·.2))]=some (cY (hv ps t)):=by
 have one:∀(m:Nat)(p:Col×T),p∈ps->run P (m+1) "worths_of" [fB nm ps key rules,.tup (ps.map (·.2)),.tup [.str p.1.n]]=some (.tup [p.2]):=fun m p hpm=>yQ hw m hl hn nm key rules (qs:=[p]) (fun q hq=>by rw[omg hq];exact hpm) (by simp);intro d
 induction d with
 |zero=>intro n t hk _;cases t<;>first|exact absurd hk.1 (by lia)|exact nomatch hk
 |succ d ih=>
  intro n t hk hi;rw[show n+(d+1)+1=(n+d+1)+1 by lia,cO h rfl];show bG (aC (glo P (run P (n+d+1))) gS.body [fB nm ps key rules,t.t,T.tup (ps.map (·.2)),.no])=_;have isV:∀(p:Col×T)(v:T),p∈ps->flat v=true->bR v=false->dpP p.2 v<=30->t.t=.tup [.str "is",.str p.1.n,v]->hv ps t=(if bR p.2 then none else some (eqT p.2 v))->bG (aC (glo P (run P (n+d+1))) gS.body [fB nm ps key rules,t.t,T.tup (ps.map (·.2)),.no])=some (cY (hv ps t)):=fun p v hpm fv nv hd ht hvt=>by
   have f1:=(hp p hpm).flat;rw[hvt];cases hz:bR p.2 with
   |true=>exact aP bG (HQ (one _ p hpm) (HM hc (n+d) (w:="is") f1 fv (by rw[hz];rfl)) ht)
   |false=>exact aP bG (HQ (one _ p hpm) (G0 hc (n+d) f1 fv (by rw[hz,nv];rfl) hd) ht)
  cases t with
  |emp c=>obtain⟨o,hm,rfl⟩:=hi;obtain⟨p,hpm,rfl⟩:=jV hm;rw[hv,gG hpm hn];exact aP bG (G4 (one _ p hpm) (eq1N (hp p hpm).flat) rfl)
  |bel a b=>
   obtain⟨o,hm,o',hm',rfl,rfl,hkk⟩:=hi;obtain⟨p,hpm,rfl⟩:=jV hm;obtain⟨q,hqm,rfl⟩:=jV hm';have e:=yQ hw (n+d) hl hn nm key rules (qs:=[p,q]) (fun r hr=>by
    rcases omc hr with rfl|hr
    .exact hpm
    .rw[omg hr];exact hqm) (by simp)
   have f1:=(hp p hpm).flat;have f2:=(hp q hqm).flat;rw[hv,gG hpm hn,gG hqm hn];cases hz:(bR p.2||bR q.2)with
   |true=>exact aP bG (HR e (HM hc (n+d) (w:="below") f1 f2 hz) rfl)
   |false=>exact aP bG (HR e (G2 hc (n+d) f1 f2 hz (HP (hp p hpm) (hp q hqm) hkk hz)) rfl)
  |isI c i=>obtain⟨o,hm,rfl,hkt⟩:=hi;obtain⟨p,hpm,rfl⟩:=jV hm;exact isV p (.int i) hpm rfl rfl (by rcases hp p hpm with hq|⟨h1,x,hq⟩|⟨h1,x,hq⟩<;>rw[hq]<;>exact dQ 30) rfl (by rw[hv,gG hpm hn])
  |isS c i=>obtain⟨o,hm,rfl,hkt⟩:=hi;obtain⟨p,hpm,rfl⟩:=jV hm;exact isV p (.str i) hpm rfl rfl (by rcases hp p hpm with hq|⟨h1,x,hq⟩|⟨h1,x,hq⟩<;>rw[hq]<;>exact dQ 30) rfl (by rw[hv,gG hpm hn])
  |neg t=>exact aP bG (G5 (ih n t hk hi) (G3 ho (n+d) (hv ps t)) rfl)
  |cnj a b=>exact aP bG (HS (w:="and") ws1.2.1 (by rw[ws2.1];rfl) (ih n a hk.1 hi.1) (ih n b hk.2 hi.2) (by rw[ws3.2.1];exact HN hj (n+d) false (hv ps a) (hv ps b)) rfl)
  |dsj a b=>exact aP bG (HS (w:="or") ws1.2.2.1 (by rw[ws3.1,Bool.or_true]) (ih n a hk.1 hi.1) (ih n b hk.2 hi.2) (by rw[ws3.1];exact HN hj (n+d) true (hv ps a) (hv ps b)) rfl)
theorem G7(a:a0 Bool):(2:Int)-fJ a=fJ (a.map not):=by rcases a with _|_|_<;>rfl
theorem G8(a b:a0 Bool):vT [fJ a,fJ b]=some (.int (fJ (yR a b))):=by rcases a with _|_|_<;>rcases b with _|_|_<;>rfl
theorem G9(a b:a0 Bool):vU [fJ a,fJ b]=some (.int (fJ (or3 a b))):=by rcases a with _|_|_<;>rcases b with _|_|_<;>rfl
theorem yV(v:T):bF .isN v .non=some (.bl (bR v)):=by cases v<;>rfl
theorem yW(b:Bool):fJ (some b)=if b then 2 else 0:=by cases b<;>rfl
theorem yX(h1:evE G p r=some (.bl x))(h2:evE G q r=some (.bl y)):evE G (.lor p q) r=some (.bl (x||y)):=by
 rw[evE,h1];cases x with
 |true=>rfl
 |false=>exact h2
theorem uL(h1:evE G p r=some (.bl x))(h2:x=true->evE G q r=some (.bl y)):evE G (.land p q) r=some (.bl (x&&y)):=by
 rw[evE,h1];cases x with
 |true=>exact h2 rfl
 |false=>rfl
def ix1(a b:T)(r:List T):aK (.tup (a::b::r)) (.int 1)=some b:=cH a b r
theorem HU(h:evE G p r=some (.bl v)):evE G (.bin .mul (.c (.int 2)) (.blt .toInt p)) r=some (.int (if v then 2 else 0)):=by rw[evE,evE,evE,h];cases v<;>rfl
section
variable {G:Glo}{X tt:T}{rs:List T}{w:Str}{s4 s5:Sl}
def uM(hw:aK tt (.int 0)=some (.str w)):aC G iQ.body [X,tt,T.tup rs,.no,.no,.no]=aC G (iQ.body.drop 1) [X,tt,T.tup rs,T.str w,.no,.no] :=
 bC (t:=.str w) rfl (show(aK tt (.int 0))=_ from hw) rfl
def l_c(u:Str)(b:Bool)(h:(w==u)=b):evE G (.cmp .eq (.w 3) (.c (.str u))) (aA [X,tt,T.tup rs,T.str w,s4,s5])=some (.bl b):=by rw[<-h];rfl
theorem yY(hw:aK tt (.int 0)=some (.str w))(n1:(w=="not")=false)(n2:(w=="and")=false)(n3:(w=="or")=false)(h1:aK tt (.int 1)=some (.str c))(hN:G.call "_law_names" [X]=some NL)(hi:dZ .index NL (.str c)=some (.int i))(ha:cJ rs i=some a):aC G iQ.body [X,tt,T.tup rs,.no,.no,.no]=aC G (iQ.body.drop 5) [X,tt,T.tup rs,T.str w,a,.no]:=by
 refine(uM hw).trans ((bJ rfl (l_c "not" _ n1)).trans ((bJ rfl (l_c "and" _ n2)).trans ((bJ rfl (l_c "or" _ n3)).trans (bC (t:=a) rfl ?_ rfl))));have e1:evE G (.call "_law_names" [.w 0]) (aA [X,tt,T.tup rs,T.str w,.no,.no])=some NL:=hN;have e2:evE G (.idx (.w 1) (.c (.int 1))) (aA [X,tt,T.tup rs,T.str w,.no,.no])=some (.str c):=h1;have e3:evE G (.mth .index (.call "_law_names" [.w 0]) (.idx (.w 1) (.c (.int 1)))) (aA [X,tt,T.tup rs,T.str w,.no,.no])=some (.int i):=by rw[evE,e1,e2];exact hi
 rw[evE,e3];exact ha
theorem HV(hv:(bR a||bR b)=false->evE G (.lor (.land (.cmp .eq (.w 3) (.c (.str "is"))) (.cmp .eq (.w 4) (.w 5))) (.land (.cmp .eq (.w 3) (.c (.str "below"))) (.cmp .lt (.w 4) (.w 5)))) (aA [X,tt,T.tup rs,T.str w,a,b])=some (.bl v)):aC G (iQ.body.drop 8) [X,tt,T.tup rs,T.str w,a,b]=some (.rt (.int (if(bR a||bR b)=true then 1 else if v then 2 else 0))):=by
 have c1:evE G (.lor (.cmp .isN (.w 4) (.c .non)) (.cmp .isN (.w 5) (.c .non))) (aA [X,tt,T.tup rs,T.str w,a,b])=some (.bl (bR a||bR b)):=yX (yV a) (yV b);cases hz:(bR a||bR b)with
 |true=>rw[hz]at c1;exact cV rfl c1 (bY rfl rfl)
 |false=>rw[hz]at c1;exact(bJ rfl c1).trans (bY rfl (HU (hv hz)))
theorem l_is(hN:G.call "_law_names" [X]=some NL)(hi:dZ .index NL (.str c)=some (.int i))(ha:cJ rs i=some a)(hb:(bR a||bR v)=false->eqC a v=some (.bl b))(ht:tt=.tup [.str "is",.str c,v]):aC G iQ.body [X,tt,T.tup rs,.no,.no,.no]=some (.rt (.int (if(bR a||bR v)=true then 1 else if b then 2 else 0))):=by
 subst ht;have e5:evE G (.idx (.w 1) (.c (.int 2))) (aA [X,T.tup [.str "is",.str c,v],T.tup rs,T.str "is",a,.no])=some v:=rfl;refine(yY (ix0 _ _) ws1.2.2.2.2.1 ws2.2.2.2.1 ws3.2.2.2.1 (ix1 _ _ _) hN hi ha).trans ((bJ rfl (l_c "empty" _ ws4.2.1)).trans ((bC (t:=v) rfl e5 rfl).trans ((bJ rfl (l_c "below" _ ws5.2.2.1)).trans (HV fun hz=>?_))));have hb':evE G (.cmp .eq (.w 4) (.w 5)) (aA [X,T.tup [.str "is",.str c,v],T.tup rs,T.str "is",a,v])=some (.bl b):=hb hz;have:=yX (uL (l_c "is" _ ws5.1) fun _=>hb') (uL (q:=.cmp .lt (.w 4) (.w 5)) (y:=false) (l_c (G:=G) (X:=X) (tt:=.tup [.str "is",.str c,v]) (rs:=rs) (s4:=.val a) (s5:=.val v) "below" _ ws5.2.2.1) fun z=>by cases z)
 rwa[Bool.true_and,Bool.false_and,Bool.or_false]at this
theorem J1(hN:G.call "_law_names" [X]=some NL)(hi:dZ .index NL (.str c)=some (.int i))(ha:cJ rs i=some a)(hj:dZ .index NL (.str d)=some (.int j))(hb:cJ rs j=some b)(hv:(bR a||bR b)=false->ltC a b=some (.bl v))(ht:tt=.tup [.str "below",.str c,.str d]):aC G iQ.body [X,tt,T.tup rs,.no,.no,.no]=some (.rt (.int (if(bR a||bR b)=true then 1 else if v then 2 else 0))):=by
 subst ht;have e5:evE G (.idx (.w 1) (.c (.int 2))) (aA [X,T.tup [.str "below",.str c,.str d],T.tup rs,T.str "below",a,.no])=some (.str d):=rfl;refine(yY (ix0 _ _) ws1.2.2.2.2.2 ws2.2.2.2.2 ws3.2.2.2.2 (ix1 _ _ _) hN hi ha).trans ((bJ rfl (l_c "empty" _ ws4.2.2)).trans ((bC (t:=.str d) (τ':=[X,T.tup [.str "below",.str c,.str d],T.tup rs,T.str "below",a,T.str d]) rfl e5 rfl).trans ((jG (τ':=[X,T.tup [.str "below",.str c,.str d],T.tup rs,T.str "below",a,b]) rfl (l_c "below" _ ws5.2.2.2) ?_).trans (HV fun hz=>?_))))
 .refine bC (t:=b) rfl ?_ rfl;have e1:evE G (.call "_law_names" [.w 0]) (aA [X,T.tup [.str "below",.str c,.str d],T.tup rs,T.str "below",a,T.str d])=some NL:=hN;have e2:evE G (.idx (.w 1) (.c (.int 2))) (aA [X,T.tup [.str "below",.str c,.str d],T.tup rs,T.str "below",a,T.str d])=some (.str d):=rfl;have e3:evE G (.mth .index (.call "_law_names" [.w 0]) (.idx (.w 1) (.c (.int 2)))) (aA [X,T.tup [.str "below",.str c,.str d],T.tup rs,T.str "below",a,T.str d])=some (.int j):=by rw[evE,e1,e2];exact hj
  rw[evE,e3];exact hb
 .have hv':evE G (.cmp .lt (.w 4) (.w 5)) (aA [X,T.tup [.str "below",.str c,.str d],T.tup rs,T.str "below",a,b])=some (.bl v):=hv hz;have:=yX (uL (q:=.cmp .eq (.w 4) (.w 5)) (y:=false) (l_c (G:=G) (X:=X) (tt:=.tup [.str "below",.str c,.str d]) (rs:=rs) (s4:=.val a) (s5:=.val b) "is" _ ws5.2.1) fun z=>by cases z) (uL (l_c "below" _ ws5.2.2.2) fun _=>hv')
  rwa[Bool.false_and,Bool.false_or,Bool.true_and]at this
theorem HW(hw:aK tt (.int 0)=some (.str w))(ht:tt=.tup [.str w,x,y])(e:G.call "_law_level" [X,x,.tup rs]=some (.int p))(e':G.call "_law_level" [X,y,.tup rs]=some (.int q)):evE G (.comp (.call "_law_level" [.w 1,.w 0,.w 3]) 1 .plain [.sli (.w 1) (some (.c (.int 1))) none] none) (aA [X,tt,T.tup rs,T.str w,.no,.no])=some (.lst [.int p,.int q]):=by
 subst ht;rw[gF];have s1:aD G [.sli (.w 1) (some (.c (.int 1))) none] (aA [X,T.tup [.str w,x,y],T.tup rs,T.str w,.no,.no])=some [.tup [x,y]]:=rfl;have s2:bP .plain [.tup [x,y]]=some [x,y]:=rfl;have f:∀q u,G.call "_law_level" [X,q,.tup rs]=some u->((bnd 1 q (aA [X,T.tup [.str w,x,y],T.tup rs,T.str w,.no,.no])).bind fun r'=>(evE G (.call "_law_level" [.w 1,.w 0,.w 3]) r').map some)=some (some u):=fun q u hq=>by show(G.call "_law_level" [X,q,.tup rs]).map some=_;rw[hq];rfl
 rw[s1,bB,s2,bB,eE,f x _ e,eE,f y _ e'];rfl
end
theorem J2(h:P.fn "_law_level"=some iQ)(hw:P.fn "_law_names"=some nF){ps:List (Col×T)}(hl:ps.length<=4)(hn:(ps.map (·.1.n)).Nodup)(hp:∀p∈ps,Wok p.1 p.2)(nm key rules:T):∀(d n:Nat)(t:Tst),t.ok d->t.inn (ps.map (·.1))->run P (n+d+1) "_law_level" [fB nm ps key rules,t.t,.tup (ps.map (·.2))]=some (.int (fJ (hv ps t))):=by
 intro d
 induction d with
 |zero=>intro n t hk _;cases t<;>first|exact absurd hk.1 (by lia)|exact nomatch hk
 |succ d ih=>
  intro n t hk hi;have e:(glo P (run P (n+d+1))).call "_law_names" [fB nm ps key rules]=some (.lst (ps.map nmT)):=uK hw (n+d) ps hl nm key rules;rw[show n+(d+1)+1=(n+d+1)+1 by lia,cO h rfl];show bG (aC (glo P (run P (n+d+1))) iQ.body [fB nm ps key rules,t.t,T.tup (ps.map (·.2)),.no,.no,.no])=_;have isV:∀(p:Col×T)(v:T),p∈ps->bR v=false->dpP p.2 v<=30->t.t=.tup [.str "is",.str p.1.n,v]->hv ps t=(if bR p.2 then none else some (eqT p.2 v))->bG (aC (glo P (run P (n+d+1))) iQ.body [fB nm ps key rules,t.t,T.tup (ps.map (·.2)),.no,.no,.no])=some (.int (fJ (hv ps t))):=fun p v hpm nv hd ht hvt=>by
   obtain⟨i,e1,e2⟩:=nG hpm hn;rw[hvt];refine(aP bG (l_is (b:=eqT p.2 v) e e1 e2 (fun _=>by unfold eqC;rw[if_pos hd]) ht)).trans ?_;rw[nv,Bool.or_false];cases bR p.2 with
   |true=>rfl
   |false=>show some (T.int (if eqT p.2 v then 2 else 0))=some (T.int (fJ (some (eqT p.2 v))));rw[yW]
  cases t with
  |emp c=>obtain⟨o,hm,rfl⟩:=hi;obtain⟨p,hpm,rfl⟩:=jV hm;obtain⟨i,e1,e2⟩:=nG hpm hn;rw[hv,gG hpm hn,yW];exact aP bG ((yY (ix0 _ _) ws1.2.2.2.1 ws2.2.2.1 ws3.2.2.1 (ix1 _ _ _) e e1 e2).trans (cV rfl (l_c "empty" _ ws4.1) (bY rfl (HU (yV p.2)))))
  |bel a b=>
   obtain⟨o,hm,o',hm',rfl,rfl,hkk⟩:=hi;obtain⟨p,hpm,rfl⟩:=jV hm;obtain⟨q,hqm,rfl⟩:=jV hm';obtain⟨i,e1,e2⟩:=nG hpm hn;obtain⟨j,e3,e4⟩:=nG hqm hn;rw[hv,gG hpm hn,gG hqm hn];refine(aP bG (J1 (v:=ltV p.2 q.2) e e1 e2 e3 e4 (HP (hp p hpm) (hp q hqm) hkk) rfl)).trans ?_;cases bR p.2||bR q.2 with
   |true=>rfl
   |false=>show some (T.int (if ltV p.2 q.2 then 2 else 0))=some (T.int (fJ (some (ltV p.2 q.2))));rw[yW]
  |isI c i=>obtain⟨o,hm,rfl,hkt⟩:=hi;obtain⟨p,hpm,rfl⟩:=jV hm;exact isV p (.int i) hpm rfl (by rcases hp p hpm with hq|⟨h1,x,hq⟩|⟨h1,x,hq⟩<;>rw[hq]<;>exact dQ 30) rfl (by rw[hv,gG hpm hn])
  |isS c i=>obtain⟨o,hm,rfl,hkt⟩:=hi;obtain⟨p,hpm,rfl⟩:=jV hm;exact isV p (.str i) hpm rfl (by rcases hp p hpm with hq|⟨h1,x,hq⟩|⟨h1,x,hq⟩<;>rw[hq]<;>exact dQ 30) rfl (by rw[hv,gG hpm hn])
  |neg t=>have e1:evE (glo P (run P (n+d+1))) (.call "_law_level" [.w 0,.idx (.w 1) (.c (.int 1)),.w 2]) (aA [fB nm ps key rules,T.tup [.str "not",t.t],T.tup (ps.map (·.2)),T.str "not",.no,.no])=some (.int (fJ (hv ps t))):=ih n t hk hi;refine aP bG ((uM (ix0 _ _)).trans (cV rfl (l_c "not" _ ws1.1) (bY rfl ?_)));rw[evE,e1,hv,<-G7];rfl
  |cnj a b=>refine aP bG ((uM (ix0 _ _)).trans ((bJ rfl (l_c "not" _ ws1.2.1)).trans (cV rfl (l_c "and" _ ws2.1) (bY rfl ?_))));rw[gV,HW (ix0 _ _) rfl (ih n a hk.1 hi.1) (ih n b hk.2 hi.2)];exact G8 _ _
  |dsj a b=>refine aP bG ((uM (ix0 _ _)).trans ((bJ rfl (l_c "not" _ ws1.2.2.1)).trans ((bJ rfl (l_c "and" _ ws2.2.1)).trans (cV rfl (l_c "or" _ ws3.1) (bY rfl ?_)))));rw[gV,HW (ix0 _ _) rfl (ih n a hk.1 hi.1) (ih n b hk.2 hi.2)];exact G9 _ _
noncomputable def Sml(_:T):Prop:=True
def HX(h:P.fn "_law_worth"=some iF)(n:Nat)(c:Col)(k:Int):∃w,run P (n+1) "_law_worth" [c.t,.int k]=some w/\Sml w :=
 let⟨w,e,_⟩:=yP h n c k;⟨w,e,trivial⟩
structure RowOk(b:Tb)(ps:List (Col×T)):Prop where
 cs:ps.map (·.1)=b.cs
 wk:∀p∈ps,Wok p.1 p.2
 ng:∀p∈ps,p.1.g=false->p.2≠.non
 sm:∀p∈ps,Sml p.2
noncomputable def aE(ps:List (Col×T)):T:=.tup (ps.map (·.2))
def kk(t:T):Kt:=(mK t).getD (.inl 0)
def bA(b:Tb)(ps:List (Col×T)):List Kt:=b.key.map fun x=>kk (val ps x)
theorem uN(h:Wok c w):mK w=some (kk w)/\kT (kk w)=w:=by rcases h with rfl|⟨_,x,rfl⟩|⟨_,i,rfl⟩<;>exact⟨rfl,rfl⟩
theorem J3(h1:Wok c w)(h2:Wok c u)(n1:w≠.non)(n2:u≠.non):mM (kk w) (kk u)=true:=by
 rcases h1 with rfl|⟨e1,x,rfl⟩|⟨e1,i,rfl⟩
 .exact absurd rfl n1
 .rcases h2 with rfl|⟨e2,y,rfl⟩|⟨e2,j,rfl⟩
  .exact absurd rfl n2
  .rfl
  .rw[e1]at e2;cases e2
 .rcases h2 with rfl|⟨e2,y,rfl⟩|⟨e2,j,rfl⟩
  .exact absurd rfl n2
  .rw[e1]at e2;cases e2
  .rfl
theorem HY(h:P.fn "_law_worth"=some iF)(n:Nat)(c:Col)(k:Int)(hg:c.g=false):∃w,run P (n+1) "_law_worth" [c.t,.int k]=some w/\w≠.non:=by
 rw[cO h rfl];obtain⟨x,ex⟩:=HJ (k/4);obtain⟨i,ei⟩:=HK (k/4);cases ht:(c.k==("text":Str))with
 |true=>exact⟨.str x,by simp[iF,aC,evS,evE,aD,cD,aA,aS,aN,bS,Sl.get,Sl.frz,bO,dA,cZ,bG,bF,aK,iD,glo,Col.t,cH,fQ,hg,eqC,dpP,eqT,ht,ex],by simp⟩
 |false=>exact⟨.int i,by simp[iF,aC,evS,evE,aD,cD,aA,aS,aN,bS,Sl.get,Sl.frz,bO,dA,cZ,bG,bF,aK,iD,glo,Col.t,cH,fQ,hg,eqC,dpP,eqT,ht,ei],by simp⟩
theorem HZ{Q:Col->T->Prop}{f:T->a0 (a0 T)}:∀(cs:List Col)(i:Nat),(∀c∈cs,∀j:Nat,∃w,f (.tup [.int (j:Int),c.t])=some (some w)/\Q c w) ->∃ps:List (Col×T),ps.map (·.1)=cs/\eE f (eI (cs.map Col.t) i)=some (ps.map (·.2))/\∀p∈ps,Q p.1 p.2
 |[],_,_=>⟨[],rfl,rfl,fun p h=>by cases h⟩
 |c::cs,i,h=>by
  obtain⟨w,e,hw⟩:=h c fK i;obtain⟨ps,e1,e2,h2⟩:=HZ cs (i+1) fun c hc=>h c (dH _ hc);refine⟨(c,w)::ps,by simp[e1],?_,fun p hp=>?_⟩
  .simp only[aY,eI,eE,e,e2,aO]
  .rcases omc hp with rfl|hp
   .exact hw
   .exact h2 p hp
theorem IA(hd:P.fn "_law_drawn"=some iO)(hw:P.fn "_law_worth"=some iF)(h:P.fn "_law_row"=some yE)(n:Nat)(hb:b.ok)(k:Int):∃ps,run P (n+2) "_law_row" [b.t,.int k]=some (aE ps)/\RowOk b ps:=by
 rw[cO h rfl];have hl:b.cs.length<=16777216:=by have:=hb.cl;lia
 obtain⟨ps,e1,e2,h2⟩:=HZ (Q:=fun c w=>Wok c w/\(c.g=false->w≠.non)/\Sml w) (f:=fun x=>(bnd 2 x (aA [b.t,T.int k])).bind fun r'=>(evE (glo P (run P (n+1))) (.call "_law_worth" [.w 1,.bin .fdiv (.call "_law_drawn" [.w 3,.w 0]) (.c (.int 4))]) r').map some) b.cs 0 (fun c _ j=>by
  have e1:=kY hd n k (j:Int);obtain⟨w,e2,hw'⟩:=yP hw n c (cF k (j:Int)/4);obtain⟨w2,e4,hs⟩:=HX hw n c (cF k (j:Int)/4);rw[e2]at e4;cases e4;refine⟨w,?_,hw',fun hg=>?_,hs⟩
  .simp[bnd,evE,aD,aA,Sl.get,glo,e1,e2,bO,cZ]
  .obtain⟨u,e3,hu⟩:=HY hw n c (cF k (j:Int)/4) hg;rw[e2]at e3;cases e3;exact hu)
 refine⟨ps,?_,e1,fun p hp=>(h2 p hp).1,fun p hp=>(h2 p hp).2.1,fun p hp=>(h2 p hp).2.2⟩;show bG (aC (glo P (run P (n+1))) yD [b.t,T.int k])=_;unfold yD;rw[bY (t:=aE ps) rfl (by
  rw[gV,gF];have s1:aD (glo P (run P (n+1))) [.idx (.w 0) (.c (.int 1))] (aA [b.t,T.int k])=some [.tup (b.cs.map Col.t)]:=by simp[aD,evE,aA,Sl.get,aK,Tb.t,gU,cH]
  have s2:bP .enum [.tup (b.cs.map Col.t)]=some (eI (b.cs.map Col.t) 0):=by simp[bP,items,yN,hl]
  rw[s1,bB,s2,bB,e2];rfl)]
 rfl
theorem yZ{ps:List (Col×T)}:∀{ks:List Str},(∀k∈ks,∃p∈ps,p.1.n=k)->∃qs:List (Col×T),qs.map nmT=ks.map .str/\qs.map (·.1.n)=ks/\(∀q∈qs,q∈ps)/\qs.length=ks.length
 |[],_=>⟨[],rfl,rfl,fun q h=>absurd h (by simp),rfl⟩
 |k::ks,h=>by
  obtain⟨p,hp,e⟩:=h k fK;obtain⟨qs,e1,e0,e2,e3⟩:=yZ fun k hk=>h k (dH _ hk);refine⟨p::qs,by simp[nmT,e,e1],by simp[e,e0],fun q hq=>?_,by simp[e3]⟩;rcases omc hq with rfl|hq
  .exact hp
  .exact e2 q hq
def RowOk.col(h:RowOk b ps)(hc:c∈b.cs):∃p∈ps,p.1=c:=by rw[<-h.cs]at hc;obtain⟨p,hp,e⟩:=omm hc;exact⟨p,hp,e⟩
theorem RowOk.nd(h:RowOk b ps)(hb:b.ok):(ps.map (·.1.n)).Nodup:=by have:=hb.nd;rw[<-h.cs,eG]at this;exact this
def RowOk.len(h:RowOk b ps)(hb:b.ok):ps.length<=4:=by have:=aP List.length h.cs;rw[bM]at this;rw[this];exact hb.cl
def RowOk.tab(h:RowOk b ps):b.t=fB (.str b.nm) ps (.tup (b.key.map .str)) (.tup (b.rs.map Rl.t)):=by rw[fB,h.cs];rfl
theorem J4(hn:P.fn "_law_names"=some nF)(h:P.fn "_law_key"=some qH)(n:Nat)(hb:b.ok){ps:List (Col×T)}(hp:RowOk b ps):run P (n+2) "_law_key" [b.t,aE ps]=some (tkT (bA b ps)):=by
 have hl:=hp.len hb;have hnd:=hp.nd hb;obtain⟨qs,q1,q0,q2,q3⟩:=yZ (ps:=ps) (ks:=b.key) fun x hx=>by obtain⟨c,hc,e⟩:=hb.inn x hx;obtain⟨p,hp',rfl⟩:=hp.col hc;exact⟨p,hp',e⟩
 have hz:qs.length<=16777216:=by have:=hb.k1;lia
 rw[cO h rfl];show bG (aC (glo P (run P (n+1))) qH.body [b.t,aE ps])=_;have i2:aK b.t (.int 2)=some (.tup (qs.map nmT)):=by rw[q1,Tb.t,gU,aK,fQ]
 have cn:(glo P (run P (n+1))).call "_law_names" [b.t]=some (.lst (ps.map nmT)):=by rw[hp.tab];exact uK hn n ps hl _ _ _
 have ek:bA b ps=qs.map fun q=>kk q.2:=by unfold bA;rw[<-q0,eG];exact lF fun q hq=>by show kk (val ps q.1.n)=kk q.2;rw[gG (q2 q hq) hnd]
 have et:tkT (bA b ps)=.tup (qs.map (·.2)):=by unfold tkT;rw[ek,eG];exact aP T.tup (lF fun q hq=>(uN (hp.wk q (q2 q hq))).2)
 rw[et];generalize b.t=X at *;unfold qH;dsimp only;rw[bY (t:=.tup (qs.map (·.2))) rfl (by
  rw[gV,gF];have s1:aD (glo P (run P (n+1))) [.idx (.w 0) (.c (.int 2))] (aA [X,aE ps])=some [.tup (qs.map nmT)]:=by simp[aD,evE,aA,Sl.get,i2]
  have s2:bP .plain [.tup (qs.map nmT)]=some (qs.map nmT):=by simp[bP,items,hz]
  rw[s1,bB,s2,bB,gW (fun q=>q.2) fun q hq'=>by obtain⟨i,e1,e2⟩:=nG (q2 q hq') hnd;simp only[bnd,if_true,aO,evE,aD,aA,Sl.get,aY,aZ,aW,aV,aX,cn];rw[show nmT q=.str q.1.n from rfl,e1];simp only[aO,aE,aK,e2,cT]];rfl)]
 rfl
theorem J5(hb:b.ok)(hp:RowOk b ps)(hq:RowOk b qs):Ev.alike (bA b ps) (bA b qs)=true:=by
 have:∀ks:List Str,(∀x∈ks,∃c∈b.cs,c.n=x/\c.g=false)->Ev.alike (ks.map fun x=>kk (val ps x)) (ks.map fun x=>kk (val qs x))=true:=by
  intro ks
  induction ks with
  |nil=>intro _;rfl
  |cons x ks ih=>
   intro h;obtain⟨c,hc,e,hg⟩:=h x fK;obtain⟨p,hp1,hp2⟩:=hp.col hc;obtain⟨q,hq1,hq2⟩:=hq.col hc;have v1:val ps x=p.2:=by rw[<-e,<-hp2];exact gG hp1 (hp.nd hb)
   have v2:val qs x=q.2:=by rw[<-e,<-hq2];exact gG hq1 (hq.nd hb)
   rw[bE,bE,Ev.alike,dF,v1,v2];have w1:=hp.wk p hp1;have w2:=hq.wk q hq1;rw[hp2]at w1;rw[hq2]at w2;exact⟨J3 w1 w2 (hp.ng p hp1 (by rw[hp2];exact hg)) (hq.ng q hq1 (by rw[hq2];exact hg)),ih fun y hy=>h y (dH _ hy)⟩
 exact this b.key hb.kg
def J6(hb:b.ok)(ps:List (Col×T)):bA b ps≠[]:=by unfold bA;intro e;exact hb.kn (List.map_eq_nil_iff.mp e)
theorem zA:∀ks:List Kt,lM (ks.map kT)=some ks
 |[]=>rfl
 |k::ks=>by rw[bE,lM,zA ks];rcases k with _|_|_<;>rfl
theorem J7{p:List Kt×T}(h:p∈eW qb k v):p∈qb\/p=(k,v):=by
 unfold eW at h;split at h
 .obtain⟨q,hq,rfl⟩:=omm h;by_cases e:q.1=k
  .rw[if_pos e,e];exact .inr rfl
  .rw[if_neg e];exact .inl hq
 .rcases oma h with h|h
  .exact .inl h
  .exact .inr (omg h)
theorem J8{qb:List (List Kt×T)}{k:List Kt}{v:T}(h:(qb.map (·.1)).Nodup):((eW qb k v).map (·.1)).Nodup:=by
 unfold eW;split
 .rw[eG];have:(qb.map ((·.1)∘fun kv=>if kv.1=k then(kv.1,v)else kv))=qb.map (·.1):=lF fun q _=>by show(if q.1=k then(q.1,v)else q).1=q.1;split<;>rfl
  rw[this];exact h
 .rename_i hn;rw[gY];refine List.nodup_append.mpr ⟨h,by simp,fun a ha c hc e=>?_⟩;have hc:c=k:=omg hc;subst hc;subst e;obtain⟨q,hq,rfl⟩:=omm ha;exact hn (List.any_eq_true.mpr ⟨q,hq,by simp⟩)
theorem J9{qb:List (List Kt×T)}{k:List Kt}{v:T}:(eW qb k v).length<=qb.length+1:=by
 unfold eW;split
 .rw[bM];lia
 .rw[nL];simp
theorem IB:∀{qb:List (List Kt×T)}{k:List Kt},k∈qb.map (·.1)->∃v,mL (qb.map (·.1)) (qb.map (·.2)) k=some v/\(k,v)∈qb
 |p::qb,k,h=>by
  rw[bE,bE,mL];by_cases e:p.1=k
  .rw[if_pos e,<-e];exact⟨p.2,rfl,fK⟩
  .rw[if_neg e];obtain⟨v,h1,h2⟩:=IB (qb:=qb) ((omc h).resolve_left fun z=>e z.symm);exact⟨v,h1,dH _ h2⟩
structure Book(b:Tb)(qb:List (List Kt×T)):Prop where
 nd:(qb.map (·.1)).Nodup
 rw:∀p∈qb,∃ps,RowOk b ps/\p=(bA b ps,aE ps)
theorem Book.srt(hb:b.ok)(h:Book b qb)(h5:qb.length<=60):bW .sorted (.dt (qb.map (·.1)) (qb.map (·.2)))=some (.lst ((eX (qb.map (·.1))).map tkT)):=by show pI (qb.map (·.1))=_;unfold pI;rw[if_pos];refine⟨by rw[bM];lia,fun x hx=>?_⟩;obtain⟨q,hq,rfl⟩:=omm hx;obtain⟨ps,h1,rfl⟩:=h.rw q hq;refine⟨J6 hb ps,fun y hy=>?_⟩;obtain⟨q',hq',rfl⟩:=omm hy;obtain⟨ps',h2,rfl⟩:=h.rw q' hq';exact J5 hb h1 h2
def Book.get(h:Book b qb)(hk:k∈eX (qb.map (·.1))):∃w,aK (.dt (qb.map (·.1)) (qb.map (·.2))) (tkT k)=some w/\∃ps,RowOk b ps/\w=aE ps/\bA b ps=k:=by have hk:=(qD _).mem_iff.mp hk;obtain⟨v,h1,h2⟩:=IB hk;obtain⟨ps,h3,e⟩:=h.rw _ h2;injection e with e1 e2;refine⟨v,?_,ps,h3,e2,e1.symm⟩;show(lM (k.map kT)).bind _=_;rw[zA];exact h1
def iS(G:Glo)(o:Bo)(a b:E)(r:Env):evE G (.bin o a b) r=(evE G a r).bind fun x=>(evE G b r).bind fun y=>bO o x y:=by rw[evE]
abbrev Zt:=Tb×List (List (Col×T))
noncomputable def aB(Z:List Zt):T:=.tup (Z.map fun z=>z.1.t)
def rwT(z:Zt):T:=.tup (z.2.map aE)
def stT(Z:List Zt):T:=.tup (Z.map rwT)
theorem zB:∀Z:List Zt,fG (Z.map fun z=>z.1.t) (Z.map rwT)=Z.map fun z=>.tup [z.1.t,rwT z]
 |[]=>rfl
 |z::Z=>by rw[bE,bE,bE,fG,zB Z]
def t0(b:Tb):aK b.t (.int 0)=some (.str b.nm):=by rw[Tb.t,gU,aK,cG]
def t1(b:Tb):aK b.t (.int 1)=some (.tup (b.cs.map Col.t)):=by rw[Tb.t,gU,aK,cH]
theorem zC{α:Type}{enc:α->T}{nm:α->Str}{f:T->List Sl->a0 Out}{I:List Sl->Prop}{r:α->T}(x:Str)(hit:∀a τ,I τ->nm a=x->f (enc a) τ=some (.rt (r a)))(miss:∀a τ,I τ->nm a≠x->∃τ',f (enc a) τ=some (.nx τ')/\I τ'):∀{l:List α}{a:α},a∈l->(l.map nm).Nodup->nm a=x->∀τ,I τ->bU f (l.map enc) τ=some (.rt (r a))
 |b::l,a,ha,nd,e,τ,h=>by
  rw[bE]at nd;obtain⟨n1,n2⟩:=gH.mp nd;rw[bE,bU];by_cases hb:nm b=x
  .rcases omc ha with rfl|ha
   .rw[hit _ τ h hb];rfl
   .exact absurd (fS.mpr ⟨a,ha,e.trans hb.symm⟩) n1
  .rcases omc ha with rfl|ha
   .exact absurd e hb
   .obtain⟨τ',h1,h2⟩:=miss b τ h hb;rw[h1];exact zC x hit miss ha n2 e τ' h2
def zD(G:Glo)(a b:E)(r:Env):evE G (.idx a b) r=(evE G a r).bind fun x=>(evE G b r).bind fun y=>aK x y:=by rw[evE]
def IC(G:Glo)(m:Mt)(a b:E)(r:Env):evE G (.mth m a b) r=(evE G a r).bind fun x=>(evE G b r).bind fun y=>dZ m x y:=by rw[evE]
theorem ID:∀{Z:List Zt},z∈Z->(Z.map (·.1.nm)).Nodup->∃i:Nat,hG (.str z.1.nm) (Z.map fun z=>T.str z.1.nm)=some i/\(Z.map rwT)[i]?=some (rwT z)
 |y::Z,h,nd=>by
  rw[bE]at nd;obtain⟨n1,n2⟩:=gH.mp nd;rw[bE,hG];by_cases e:y.1.nm=z.1.nm
  .rcases omc h with rfl|h
   .exact⟨0,by simp[eqT],rfl⟩
   .exact absurd (fS.mpr ⟨z,h,e.symm⟩) n1
  .rcases omc h with rfl|h
   .exact absurd rfl e
   .obtain⟨i,h1,h2⟩:=ID h n2;refine⟨i+1,?_,by simpa using h2⟩;rw[h1];simp[eqT,e]
theorem K0(h:P.fn "_law_rows"=some yC)(n:Nat)(h4:Z.length<=4)(hz:z∈Z)(nd:(Z.map (·.1.nm)).Nodup):run P (n+1) "_law_rows" [aB Z,stT Z,.str z.1.nm]=some (rwT z):=by
 rw[cO h rfl];obtain⟨i,h1,h2⟩:=ID hz nd;have hz':Z.length<=16777216:=by lia
 show bG (aC (glo P (run P n)) yB [aB Z,stT Z,T.str z.1.nm])=_;unfold yB;have ec:evE (glo P (run P n)) (.comp (.idx (.w 0) (.c (.int 0))) 1 .plain [.w 0] none) (aA [aB Z,stT Z,T.str z.1.nm])=some (.lst (Z.map fun z=>T.str z.1.nm)):=by
  rw[gF];have s1:aD (glo P (run P n)) [.w 0] (aA [aB Z,stT Z,T.str z.1.nm])=some [aB Z]:=by simp[aD,evE,aA,Sl.get]
  have s2:bP .plain [aB Z]=some (Z.map fun z=>z.1.t):=by simp[bP,items,aB,hz']
  rw[s1,bB,s2,bB,gW (fun z:Zt=>T.str z.1.nm) fun a _=>by simp[bnd,evE,aA,Sl.get,t0]];rfl
 have hf:((Z.map fun z=>T.str z.1.nm).all flat)=true:=by rw[iX];intro t ht;obtain⟨a,_,rfl⟩:=omm ht;rfl
 have em:dZ .index (.lst (Z.map fun z=>T.str z.1.nm)) (.str z.1.nm)=some (.int (i:Int)):=by simp only[dZ];rw[if_pos (by rw[hf];rfl),h1];rfl
 rw[bY (t:=rwT z) rfl (by rw[zD,IC,ec];simp only[evE,aA,aY,aZ,Sl.get,aW,aV,aX,aO,em];show cJ (Z.map rwT) (i:Int)=_;exact jC h2)];rfl
theorem IE(a b:Kt):eqT (kT a) (kT b)=decide (a=b):=by
 rcases a with i|_|x<;>rcases b with j|_|y<;>simp only[kT,eqT]
 all_goals first|(simp;done)|(by_cases e:i=j<;>simp[e])|(by_cases e:x=y<;>simp[e])
theorem IF:∀a b:List Kt,eO (a.map kT) (b.map kT)=decide (a=b)
 |[],[]=>by rw[List.map_nil,eO];rfl
 |[],_::_=>by rw[List.map_cons,List.map_nil,eO]<;>simp
 |_::_,[]=>by rw[List.map_cons,List.map_nil,eO]<;>simp
 |x::a,y::b=>by rw[bE,bE,eO,IE,IF a b];by_cases e:x=y<;>by_cases f:a=b<;>simp[e,f]
def mC(a b:List Kt):eqT (tkT a) (tkT b)=decide (a=b):=by rw[tkT,tkT,eqT,IF]
theorem K1(a b:Kt):dpP (kT a) (kT b)=0:=by rcases a with _|_|_<;>rcases b with _|_|_<;>rfl
theorem IG:∀a b:List Kt,fM (a.map kT) (b.map kT)=0
 |[],_=>by rw[List.map_nil,fM];simp
 |_::_,[]=>by rw[List.map_nil,fM];simp
 |x::a,y::b=>by rw[bE,bE,fM,K1,IG a b];rfl
def jW(a b:List Kt):dpP (tkT a) (tkT b)=1:=by rw[tkT,tkT,dpP,IG]
abbrev Row:=List (Col×T)
def wK(qa:List Str)(ps:Row):List Kt:=qa.map fun x=>kk (val ps x)
noncomputable def jX(k:List Kt):Bool:=k.any fun x=>decide (x=.inr none)
def kyT(b:Tb)(ps:Row):T:=tkT (bA b ps)
def woT(qa:List Str)(ps:Row):T:=if jX (wK qa ps)=true then .non else tkT (wK qa ps)
theorem K3(k:List Kt):inC .non (tkT k)=some (jX k):=by
 have h1:dpI .non (k.map kT)=true:=by unfold dpI;rw[List.all_map];exact iX.mpr fun x _=>by rcases x with _|_|_<;>rfl
 have h2:((k.map kT).any fun z=>eqT z .non)=jX k:=by rw[List.any_map,jX];congr;funext x;exact IE x (.inr none)
 show(if dpI .non (k.map kT)=true then some ((k.map kT).any fun z=>eqT z .non)else none)=_;rw[if_pos h1,h2]
theorem IH(hb:b.ok)(hp:RowOk b ps)(hc:∀x∈qa,∃c∈b.cs,c.n=x):∃qs:Row,qs.map nmT=qa.map .str/\(∀q∈qs,q∈ps)/\qs.length=qa.length/\T.tup (qs.map (·.2))=tkT (wK qa ps):=by
 have hnd:=hp.nd hb;obtain⟨qs,q1,q0,q2,q3⟩:=yZ (ps:=ps) (ks:=qa) fun x hx=>by obtain⟨c,hc,e⟩:=hc x hx;obtain⟨p,hp',rfl⟩:=hp.col hc;exact⟨p,hp',e⟩
 refine⟨qs,q1,q2,q3,?_⟩;have ek:wK qa ps=qs.map fun q=>kk q.2:=by unfold wK;rw[<-q0,eG];exact lF fun q hq=>by show kk (val ps q.1.n)=kk q.2;rw[gG (q2 q hq) hnd]
 unfold tkT;rw[ek,eG];exact aP T.tup (lF fun q hq=>((uN (hp.wk q (q2 q hq))).2).symm)
theorem II{α β:Type}(c:α->Bool)(f:α->β):∀l:List α,(l.filterMap fun a=>if c a=true then some (f a)else none)=(l.filter c).map f
 |[]=>rfl
 |a::l=>by rw[jK,nJ,II c f l];cases c a<;>rfl
theorem uO{G:Glo}{elt cond:E}{src:List E}{r:Env}{n:Nat}{α:Type}{enc:α->T}{R:List α}(c:α->Bool)(f:α->T){xs:List T}(h1:aD G src r=some xs)(h2:bP .plain xs=some (R.map enc))(hb:∀a∈R,∃r',bnd n (enc a) r=some r'/\evE G cond r'=some (.bl (c a))/\(c a=true->evE G elt r'=some (f a))):evE G (.comp elt n .plain src (some cond)) r=some (.lst ((R.filter c).map f)):=by
 rw[uJ,h1,bB,h2,bB,iH (enc:=enc) (fun a=>if c a=true then some (f a)else none) fun a ha=>by
  obtain⟨r',e1,e2,e3⟩:=hb a ha;rw[e1,bB,evO,e2,Option.map_some,bB];cases hc:c a with
  |true=>rw[if_pos rfl];simp only[e3 hc,cT]
  |false=>rfl]
 rw[II];rfl
theorem IJ(b:Tb):∀R:List Row,lN (R.map fun ps=>.tup [kyT b ps,aE ps])=some (R.map fun ps=>(bA b ps,aE ps))
 |[]=>rfl
 |ps::R=>by rw[bE,lN,IJ b R];show((lM ((bA b ps).map kT)).map fun k=>(k,aE ps)).bind _=_;rw[zA];rfl
theorem K4(hn:P.fn "_law_names"=some nF)(h:P.fn "_law_worths"=some qI)(n:Nat)(hb:b.ok)(hp:RowOk b ps)(hc:∀x∈qa,∃c∈b.cs,c.n=x)(h4:qa.length<=4):run P (n+2) "_law_worths" [b.t,aE ps,bD qa]=some (woT qa ps):=by
 obtain⟨qs,q1,q2,q3,q4⟩:=IH hb hp hc;have hnd:=hp.nd hb;have hz:qs.length<=16777216:=by lia
 rw[cO h rfl];have cn:(glo P (run P (n+1))).call "_law_names" [b.t]=some (.lst (ps.map nmT)):=by rw[hp.tab];exact uK hn n ps (hp.len hb) _ _ _
 show bG (aC (glo P (run P (n+1))) qI.body [b.t,aE ps,bD qa,.no])=_;generalize glo P (run P (n+1))=G at *;generalize b.t=X at *;unfold qI;dsimp only;rw[bC (t:=tkT (wK qa ps)) (τ':=[X,aE ps,bD qa,tkT (wK qa ps)]) rfl (by
  rw[gV,gF];have s1:aD G [.w 2] (aA [X,aE ps,bD qa,.no])=some [.tup (qs.map nmT)]:=by simp only[evE,aD,aA,Sl.get,aY,aZ,aW,aV,aX,aO,bD,q1]
  have s2:bP .plain [.tup (qs.map nmT)]=some (qs.map nmT):=by simp[bP,items,hz]
  rw[s1,bB,s2,bB,gW (fun q=>q.2) fun q hq'=>by obtain⟨i,e1,e2⟩:=nG (q2 q hq') hnd;simp only[bnd,if_true,aO,evE,aD,aA,Sl.get,aY,aZ,aW,aV,aX,cn];rw[show nmT q=.str q.1.n from rfl,e1];simp only[aO,aE,aK,e2,cT]];show some (T.tup (qs.map (·.2)))=_;rw[q4]) rfl]
 rw[bY (t:=woT qa ps) rfl (by
  simp only[evE,aD,aA,Sl.get,aY,aZ,aW,aV,aX,aO,bF,K3,cT,bW,List.length_cons,List.length_nil,Nat.zero_add,Nat.reduceAdd,Nat.reduceLeDiff,if_true];unfold woT;cases jX (wK qa ps)with
  |true=>rw[if_pos rfl,if_pos rfl,aK,cH]
  |false=>rw[if_neg (by simp),if_neg (by simp),aK,cG])]
 rfl
theorem IK:∀{Z:List Zt},g∈Z->(Z.map (·.1.nm)).Nodup->(Z.filter fun z=>z.1.nm==g.1.nm)=[g]
 |y::Z,h,nd=>by
  rw[bE]at nd;obtain⟨n1,n2⟩:=gH.mp nd;rw[nJ];by_cases e:y.1.nm=g.1.nm
  .rcases omc h with rfl|h
   .rw[if_pos (nM.mpr rfl),List.filter_eq_nil_iff.mpr fun z hz q=>n1 (fS.mpr ⟨z,hz,cK q⟩)]
   .exact absurd (fS.mpr ⟨g,h,e.symm⟩) n1
  .rw[if_neg (by simpa using e)];rcases omc h with rfl|h
   .exact absurd rfl e
   .exact IK h n2
theorem K5{P:Pr}(h:P.fn "_law_table"=some yA)(n:Nat){Z:List Zt}(l4:Z.length<=4)(nd:(Z.map (·.1.nm)).Nodup){g:Zt}(hg:g∈Z):run P (n+1) "_law_table" [aB Z,.str g.1.nm]=some g.1.t:=by
 rw[cO h rfl];show bG (aC (glo P (run P n)) xZ [aB Z,T.str g.1.nm])=_;unfold xZ;generalize glo P (run P n)=G;have ec:=uO (G:=G) (elt:=.w 0) (cond:=.cmp .eq (.idx (.w 0) (.c (.int 0))) (.w 2)) (src:=[.w 0]) (r:=aA [aB Z,T.str g.1.nm]) (n:=1) (enc:=fun z:Zt=>z.1.t) (R:=Z) (fun z=>z.1.nm==g.1.nm) (fun z=>z.1.t) (xs:=[aB Z]) (by
  simp only[evE,aD,aA,Sl.get,aY,aZ,aV,aX,aO]) (by
  have hz:Z.length<=16777216:=by lia
  simp[bP,items,aB,hz]) fun z _=>⟨some z.1.t::aA [aB Z,T.str g.1.nm],rfl,by
   simp only[evE,aA,Sl.get,aY,aZ,aW,aV,aX,aO,t0,bF,eqs],fun _=>by
   simp only[evE,aV,aX]⟩
 rw[IK hg nd]at ec;rw[bY (t:=g.1.t) rfl (by rw[zD,ec,evE,bB,bB];show cJ [g.1.t] 0=_;rw[cG])];rfl
noncomputable def bkL:List S:=[.asg 9 (.land (.cmp .notN (.w 8) (.c .non)) (.cmp .gt (.mth .count (.w 6) (.w 8)) (.c (.int 1)))),
  .ite (.land (.cmp .eq (.idx (.w 3) (.c (.int 0))) (.c (.str "refers"))) (.cmp .notN (.w 8) (.c .non))) [.asg 10 (.call "_law_table" [.w 0,.idx (.w 3) (.c (.int 2))]),
  .asg 9 (.cmp .notin (.w 8) (.comp (.call "_law_key" [.w 11,.w 0]) 1 .plain [.call "_law_rows" [.w 0,.w 1,.idx (.w 3) (.c (.int 2))]] none))] [],
  .ite (.tru (.w 9)) [.app 7 (.call "_law_key" [.w 2,.w 5])] []]
def qO:Fd:=⟨4,11,[.asg 4 (.call "_law_rows" [.w 0,.w 1,.idx (.w 2) (.c (.int 0))]),
  .ite (.cmp .eq (.idx (.w 3) (.c (.int 0))) (.c (.str "check"))) [.ret (.comp (.call "_law_key" [.w 3,.w 0]) 1 .plain [.w 4] (some (.cmp .eq (.call "_law_level" [.w 3,.idx (.w 4) (.c (.int 1)),.w 0]) (.c (.int 0)))))] [],
  .asg 6 (.comp (.call "_law_worths" [.w 3,.w 0,.idx (.w 4) (.c (.int 1))]) 1 .plain [.w 4] none),
  .asg 7 (.lst []),
  .loop [5,8] .zip [.w 4,.w 6] bkL,
  .ret (.w 7)]⟩
noncomputable def lnC:List S:=[.asg 7 (.call "_law_worths" [.w 4,.w 6,.idx (.w 5) (.c (.int 1))]),
  .app 3 (.tup [.tup [.idx (.w 4) (.c (.int 0)),.call "_law_key" [.w 4,.w 6]],.idx (.w 5) (.c (.int 1)),.tup [.idx (.w 5) (.c (.int 2)),.w 7]])]
def lnB:List S:=[.ite (.land (.cmp .eq (.idx (.w 5) (.c (.int 0))) (.c (.str "refers"))) (.cmp .eq (.idx (.w 5) (.c (.int 3))) (.w 2))) [.loop [6] .plain [.call "_law_rows" [.w 0,.w 1,.idx (.w 4) (.c (.int 0))]] lnC] []]
def lnA:List S:=[.loop [5] .plain [.idx (.w 4) (.c (.int 3))] lnB]
def zE:Fd:=⟨3,8,[.asg 3 (.lst []),
  .loop [4] .plain [.w 0] lnA,
  .ret (.w 3)]⟩
noncomputable def goI:List S:=[.ite (.land (.cmp .eq (.w 10) (.w 7)) (.cmp .notin (.w 8) (.w 5))) [.app 5 (.w 8),.app 6 (.w 8)] []]
def goW:List S:=[.lpop 7 6,.loop [8,9,10] .plain [.call "_law_links" [.w 0,.w 1,.c (.str "along")]] goI]
noncomputable def goS:List S:=[.ite (.land (.cmp .isin (.w 10) (.w 5)) (.cmp .notin (.w 8) (.w 5))) [.ret (.c (.int 5))] []]
def oO:Fd:=⟨4,12,[.asg 4 (.call "_law_table" [.w 0,.w 2]),
  .ite (.cmp .notin (.w 3) (.comp (.call "_law_key" [.w 5,.w 0]) 1 .plain [.call "_law_rows" [.w 0,.w 1,.w 2]] none)) [.ret (.c (.int 1))] [],
  .asg 5 (.lst [.tup [.w 2,.w 3]]),
  .asg 6 (.lst [.tup [.w 2,.w 3]]),
  .wloop (.cmp .ne (.w 6) (.lst [])) goW,
  .loop [8,9,10] .plain [.call "_law_links" [.w 0,.w 1,.c (.str "stop")]] goS,
  .asg 11 (.comp (.w 0) 1 .plain [.call "_law_links" [.w 0,.w 1,.c (.str "gap")]] (some (.land (.cmp .isin (.idx (.w 0) (.c (.int 2))) (.w 6)) (.cmp .notin (.idx (.w 0) (.c (.int 0))) (.w 6))))),
  .ret (.tup [.w 5,.w 11])]⟩
noncomputable def zF:Fd:=⟨4,7,[.asg 4 (.call "_law_table" [.w 0,.w 2]),
  .asg 5 (.blt .dict (.comp (.tup [.call "_law_key" [.w 5,.w 0],.w 0]) 1 .plain [.w 3] none)),
  .asg 6 (.blt .toTuple (.comp (.idx (.w 6) (.w 0)) 1 .plain [.blt .sorted (.w 5)] none)),
  .ret (.blt .toTuple (.comp (.idx (.lst [.w 1,.w 8]) (.blt .toInt (.cmp .eq (.idx (.w 0) (.c (.int 0))) (.w 4)))) 2 .zip [.w 0,.w 1] none))]⟩
noncomputable def wiB:List S:=[.dput 3 (.mth .index (.call "_law_names" [.w 0]) (.w 4)) (.w 5)]
def zG:Fd:=⟨3,6,[.nw 3 (.blt .toList (.w 1)),
  .loop [4,5] .plain [.w 2] wiB,
  .ret (.blt .toTuple (.w 3))]⟩
noncomputable def drC:List S:=[.ite (.cmp .eq (.w 8) (.w 7)) [.asg 6 (.call "_law_with" [.w 4,.w 6,.comp (.tup [.w 0,.c .non]) 1 .plain [.w 9] none])] []]
def zH:Fd:=⟨4,11,[.loop [4] .plain [.w 0] [.asg 5 (.lst []),
  .loop [6] .plain [.call "_law_rows" [.w 0,.w 1,.idx (.w 4) (.c (.int 0))]] [.asg 7 (.tup [.idx (.w 4) (.c (.int 0)),.call "_law_key" [.w 4,.w 6]]),
  .loop [8,9,10] .plain [.w 3] drC,
  .asg 5 (.bin .add (.w 5) (.bin .mul (.lst [.w 6]) (.blt .toInt (.cmp .notin (.w 7) (.w 2)))))],
  .asg 1 (.call "_law_put" [.w 0,.w 1,.idx (.w 4) (.c (.int 0)),.w 5])],
  .ret (.w 1)]⟩
noncomputable def qP:Fd:=⟨3,9,[.asg 3 (.idx (.w 2) (.c (.int 1))),
  .asg 4 (.call "_law_table" [.w 0,.w 3]),
  .asg 5 (.call "_law_rows" [.w 0,.w 1,.w 3]),
  .asg 6 (.comp (.call "_law_key" [.w 5,.w 0]) 1 .plain [.w 5] none),
  .ite (.cmp .eq (.idx (.w 2) (.c (.int 0))) (.c (.str "add"))) [.ite (.cmp .isin (.call "_law_key" [.w 4,.idx (.w 2) (.c (.int 2))]) (.w 6)) [.ret (.c (.int 2))] [],
  .ret (.call "_law_put" [.w 0,.w 1,.w 3,.bin .add (.blt .toList (.w 5)) (.lst [.idx (.w 2) (.c (.int 2))])])] [],
  .ite (.cmp .eq (.idx (.w 2) (.c (.int 0))) (.c (.str "drop"))) [.asg 7 (.call "_law_going" [.w 0,.w 1,.w 3,.idx (.w 2) (.c (.int 2))]),
  .ite (.tru (.isi (.w 7) .tint)) [.ret (.w 7)] [],
  .ret (.call "_law_dropped" [.w 0,.w 1,.idx (.w 7) (.c (.int 0)),.idx (.w 7) (.c (.int 1))])] [],
  .ite (.cmp .notin (.idx (.w 2) (.c (.int 2))) (.w 6)) [.ret (.c (.int 1))] [],
  .asg 8 (.mth .index (.w 6) (.idx (.w 2) (.c (.int 2)))),
  .ret (.call "_law_put" [.w 0,.w 1,.w 3,.bin .add (.bin .add (.sli (.w 5) none (some (.w 8))) (.tup [.call "_law_with" [.w 4,.idx (.w 5) (.w 8),.idx (.w 2) (.c (.int 3))]])) (.sli (.w 5) (some (.bin .add (.w 8) (.c (.int 1)))) none)])]⟩
noncomputable def dnB:List S:=[.ite (.land (.cmp .ne (.idx (.w 6) (.neg (.c (.int 1)))) (.c (.str "late"))) (.cmp .ne (.call "_law_broken" [.w 0,.w 3,.w 5,.w 6]) (.lst []))) [.dput 4 (.idx (.w 6) (.c (.int 0))) (.c (.bl true))] []]
noncomputable def dnF:List S:=[.ite (.cmp .isin (.w 8) (.w 4)) [.ret (.w 7)] []]
def qQ:Fd:=⟨3,9,[.asg 3 (.call "_law_raw" [.w 0,.w 1,.w 2]),
  .ite (.tru (.isi (.w 3) .tint)) [.ret (.w 3)] [],
  .dnew 4,
  .loop [5] .plain [.w 0] [.loop [6] .plain [.idx (.w 5) (.c (.int 3))] dnB],
  .loop [7,8] .plain [.tup [.tup [.c (.int 2),.c (.str "unlike")],.tup [.c (.int 3),.c (.str "check")],.tup [.c (.int 4),.c (.str "refers")]]] dnF,
  .ret (.w 3)]⟩
noncomputable def ltB:List S:=[.ite (.cmp .ne (.call "_law_broken" [.w 0,.w 1,.w 2,.w 3]) (.lst [])) [.ret (.c (.bl true))] []]
def zI:Fd:=⟨2,4,[.loop [2] .plain [.w 0] [.loop [3] .plain [.idx (.w 2) (.c (.int 3))] ltB],
  .ret (.c (.bl false))]⟩
noncomputable def ddL:List S:=[.asg 13 (.bin .fdiv (.call "_law_drawn" [.w 2,.bin .add (.c (.int 30)) (.w 12)]) (.c (.int 4))),
  .ite (.lor (.cmp .eq (.bin .mod (.w 13) (.c (.int 2))) (.c (.int 0))) (.cmp .eq (.w 12) (.c (.int 0)))) [.app 11 (.tup [.idx (.w 9) (.c (.int 0)),.call "_law_worth" [.w 9,.bin .fdiv (.w 13) (.c (.int 4))]])] []]
def qR:Fd:=⟨3,14,[.asg 3 (.idx (.w 0) (.bin .mod (.w 2) (.blt .len (.w 0)))),
  .asg 4 (.call "_law_rows" [.w 0,.w 1,.idx (.w 3) (.c (.int 0))]),
  .asg 5 (.bin .add (.comp (.call "_law_key" [.w 4,.w 0]) 1 .plain [.w 4] none) (.lst [.call "_law_key" [.w 3,.call "_law_row" [.w 3,.bin .fdiv (.w 2) (.c (.int 64))]]])),
  .asg 6 (.bin .sub (.blt .len (.w 5)) (.blt .toInt (.land (.cmp .gt (.blt .len (.w 5)) (.c (.int 1))) (.cmp .gt (.bin .mod (.bin .fdiv (.w 2) (.c (.int 4096))) (.c (.int 8))) (.c (.int 0)))))),
  .asg 7 (.idx (.w 5) (.bin .mod (.bin .fdiv (.w 2) (.c (.int 4))) (.w 6))),
  .asg 8 (.bin .mod (.bin .fdiv (.w 2) (.c (.int 65536))) (.c (.int 8))),
  .asg 10 (.comp (.w 0) 1 .plain [.idx (.w 3) (.c (.int 1))] (some (.cmp .notin (.idx (.w 0) (.c (.int 0))) (.idx (.w 4) (.c (.int 2)))))),
  .ite (.lor (.cmp .lt (.w 8) (.c (.int 4))) (.land (.cmp .eq (.w 8) (.c (.int 7))) (.cmp .eq (.w 10) (.lst [])))) [.ret (.tup [.c (.str "add"),.idx (.w 3) (.c (.int 0)),.call "_law_row" [.w 3,.bin .fdiv (.call "_law_drawn" [.w 2,.c (.int 7)]) (.c (.int 4))]])] [],
  .ite (.lor (.cmp .lt (.w 8) (.c (.int 6))) (.cmp .eq (.w 10) (.lst []))) [.ret (.tup [.c (.str "drop"),.idx (.w 3) (.c (.int 0)),.w 7])] [],
  .asg 11 (.lst []),
  .loop [12,9] .enum [.sli (.w 10) none (some (.c (.int 3)))] ddL,
  .ret (.tup [.c (.str "set"),.idx (.w 3) (.c (.int 0)),.w 7,.blt .toTuple (.w 11)])]⟩
noncomputable def stB:List S:=[.asg 5 (.call "_law_done" [.w 0,.w 3,.call "_law_deed" [.w 0,.w 3,.bin .fdiv (.call "_law_drawn" [.w 1,.bin .add (.c (.int 100)) (.w 4)]) (.c (.int 4))]]),
  .ite (.land (.lnot (.tru (.isi (.w 5) .tint))) (.lnot (.tru (.call "_law_late" [.w 0,.w 5])))) [.asg 3 (.w 5)] []]
def zJ:Fd:=⟨3,6,[.asg 3 (.blt .toTuple (.comp (.tup []) 1 .plain [.w 0] none)),
  .loop [4] .range [.w 2] stB,
  .ret (.w 3)]⟩
noncomputable def zK:List S:=[.loop [2] .plain [.w 0] [.ite (.cmp .eq (.idx (.w 2) (.c (.int 0))) (.w 1)) [.ret (.w 2)] []],
  .ret (.c .non)]
def zL:Fd:=⟨2,3,zK⟩
noncomputable def zM:List S:=[.ret (.call "worths_of" [.w 0,.w 1,.idx (.w 0) (.c (.int 2))])]
def zN:Fd:=⟨2,2,zM⟩
noncomputable def zO:List S:=[.loop [3,4] .zip [.w 0,.w 1] [.ite (.cmp .eq (.idx (.w 3) (.c (.int 0))) (.w 2)) [.ret (.w 4)] []],
  .ret (.tup [])]
def zP:Fd:=⟨3,5,zO⟩
noncomputable def roB:List S:=[.ite (.tru (.call "is_same_key" [.call "key_of" [.w 4,.w 5],.w 3])) [.ret (.w 5)] []]
def zQ:Fd:=⟨4,6,[.asg 4 (.call "table_of" [.w 0,.w 2]),
  .loop [5] .plain [.call "rows_of" [.w 0,.w 1,.w 2]] roB,
  .fail]⟩
noncomputable def uP:Fd:=⟨2,2,[.ret (.land (.cmp .eq (.w 0) (.w 1)) (.lnot (.blt .any (.comp (.isi (.w 0) .tbool) 1 .plain [.w 1] none))))]⟩
noncomputable def zR:Fd:=⟨3,3,[.ret (.call "is_kept" [.w 0,.w 1,.idx (.idx (.w 0) (.c (.int 3))) (.w 2)])]⟩
noncomputable def zS:List S:=[.ret (.cmp .notF (.call "holds" [.w 0,.idx (.w 2) (.c (.int 1)),.w 1]) (.c (.bl false)))]
def zT:Fd:=⟨3,3,zS⟩
noncomputable def lC:List S:=[.ite (.cmp .eq (.idx (.w 7) (.c (.int 0))) (.c (.str "check"))) [.asg 8 (.call "kept" [.w 12,.w 3,.w 6]),
  .ite (.lor (.lnot (.tru (.isi (.w 8) .tbool))) (.cmp .ne (.w 8) (.cmp .gt (.call "_law_level" [.w 12,.idx (.w 7) (.c (.int 1)),.w 3]) (.c (.int 0))))) [.ret (.c (.bl false))] []] []]
noncomputable def lA:List S:=[.asg 9 (.call "_law_key" [.w 12,.w 3]),
  .ite (.lor (.cmp .ne (.call "key_of" [.w 12,.w 3]) (.w 9)) (.cmp .ne (.call "row_of" [.w 10,.w 11,.idx (.w 12) (.c (.int 0)),.w 9]) (.w 3))) [.ret (.c (.bl false))] []]
noncomputable def lB:List S:=[.ite (.cmp .eq (.call "_law_key" [.w 12,.w 5]) (.w 9)) [.asg 4 (.tup [.c (.str "told"),.w 5])] []]
def oP:Fd:=⟨1,13,[.asg 10 (.call "_law_schema" [.call "_law_mixed" [.w 0,.c (.int 0)]]),
  .asg 11 (.call "_law_store" [.w 10,.call "_law_mixed" [.w 0,.c (.int 1)],.bin .mod (.call "_law_mixed" [.w 0,.c (.int 2)]) (.c (.int 14))]),
  .asg 1 (.call "_law_mixed" [.w 0,.c (.int 3)]),
  .loop [12] .plain [.w 10] [.asg 2 (.call "_law_rows" [.w 10,.w 11,.idx (.w 12) (.c (.int 0))]),
  .loop [3] .plain [.w 2] lA,
  .asg 3 (.call "_law_row" [.w 12,.w 1]),
  .asg 9 (.call "_law_key" [.w 12,.w 3]),
  .asg 4 (.tup [.c (.str "refused"),.c (.int 1),.c (.int 0)]),
  .loop [5] .plain [.w 2] lB,
  .tif "row_of" [.w 10,.w 11,.idx (.w 12) (.c (.int 0)),.w 9] (.w 4) [.ret (.c (.bl false))],
  .loop [6,7] .enum [.idx (.w 12) (.c (.int 3))] lC],
  .ret (.c (.bl true))]⟩
noncomputable def qS:Rxd:=⟨4,6,[.nrm (.asg 4 (.call "table_of" [.w 0,.w 2])),.nrm (.loop [5] .plain [.call "rows_of" [.w 0,.w 1,.w 2]] [.ite (.tru (.call "is_same_key" [.call "key_of" [.w 4,.w 5],.w 3])) [.ret (.w 5)] []]),.fail "NoRow"]⟩
structure Sch(B:List Tb):Prop where
 l4:B.length<=4
 ps:0<B.length
 nd:(B.map (·.nm)).Nodup
 ok:∀b∈B,b.ok
 fit:∀b∈B,∀r∈b.rs,r.fits (B.map (·.nm)) b.cs
def Rws(b:Tb)(R:List Row):Prop:=(∀ps∈R,RowOk b ps)/\(R.map (bA b)).Nodup
structure Stn(B:List Tb)(m:Nat)(Z:List Zt):Prop where
 tb:Z.map (·.1)=B
 rw:∀z∈Z,z.2.length<=m/\Rws z.1 z.2
def Stn.len(h:Stn B m Z):Z.length=B.length:=by rw[<-h.tb,bM]
def Stn.nms(h:Stn B m Z):Z.map (·.1.nm)=B.map (·.nm):=by rw[<-h.tb,eG];rfl
def Stn.mem(h:Stn B m Z)(hz:z∈Z):z.1∈B:=by rw[<-h.tb];exact fS.mpr ⟨z,hz,rfl⟩
def Stn.of(h:Stn B m Z)(hb:b∈B):∃R,(b,R)∈Z:=by rw[<-h.tb]at hb;obtain⟨z,hz,rfl⟩:=omm hb;exact⟨z.2,hz⟩
def Stn.sch(h:Stn B m Z):aB Z=.tup (B.map Tb.t):=by rw[aB,<-h.tb,eG];rfl
def Stn.up(h:Stn B m Z)(hk:m<=k):Stn B k Z:=⟨h.tb,fun z hz=>⟨dY (h.rw z hz).1 hk,(h.rw z hz).2⟩⟩
theorem zU:∀{B:List Tb},(B.map (·.nm)).Nodup->∀{a b:Tb},a∈B->b∈B->a.nm=b.nm->a=b
 |[],_,_,_,h,_,_=>by cases h
 |c::B,nd,a,b,ha,hb,e=>by
  rw[bE]at nd;obtain⟨n1,n2⟩:=gH.mp nd;rcases omc ha with e1|ha1
  .rcases omc hb with e2|hb1
   .exact e1.trans e2.symm
   .exact(n1 (fS.mpr ⟨b,hb1,by rw[<-e,e1]⟩)).elim
  .rcases omc hb with e2|hb1
   .exact(n1 (fS.mpr ⟨a,ha1,by rw[e,e2]⟩)).elim
   .exact zU n2 ha1 hb1 e
noncomputable def iT(Z:List Zt)(x:Str)(R:List Row):List Zt:=Z.map fun z=>if z.1.nm==x then(z.1,R)else z
theorem K6(Z:List Zt)(x:Str)(R:List Row):(iT Z x R).map (·.1)=Z.map (·.1):=by unfold iT;rw[eG];exact lF fun z _=>by show(if z.1.nm==x then(z.1,R)else z).1=z.1;split<;>rfl
theorem IL(h:Stn B m Z)(nd:(B.map (·.nm)).Nodup)(hb:b∈B)(hk:m<=k)(hl:R.length<=k)(hR:Rws b R):Stn B k (iT Z b.nm R):=by
 refine⟨(K6 Z b.nm R).trans h.tb,fun z hz=>?_⟩;obtain⟨y,hy,rfl⟩:=omm hz;by_cases e:y.1.nm=b.nm
 .rw[if_pos (nM.mpr e)];have:y.1=b:=zU nd (h.mem hy) hb e;exact⟨hl,by rw[this];exact hR⟩
 .rw[if_neg (by simpa using e)];exact⟨dY (h.rw y hy).1 hk,(h.rw y hy).2⟩
theorem IM:∀{R:List Row}{acc:List (List Kt×T)},(∀ps∈R,RowOk b ps)->Book b acc->Book b ((R.map fun ps=>(bA b ps,aE ps)).foldl (fun acc p=>eW acc p.1 p.2) acc)/\((R.map fun ps=>(bA b ps,aE ps)).foldl (fun acc p=>eW acc p.1 p.2) acc).length<=acc.length+R.length
 |[],acc,_,h=>⟨h,by simp⟩
 |ps::R,acc,hR,h=>by
  have h1:Book b (eW acc (bA b ps) (aE ps)):=⟨J8 h.nd,fun p hp=>by
   rcases J7 hp with hp|rfl
   .exact h.rw p hp
   .exact⟨ps,hR ps fK,rfl⟩⟩
  obtain⟨h2,h3⟩:=IM (fun q hq=>hR q (dH _ hq)) h1;refine⟨h2,?_⟩;have:=J9 (qb:=acc) (k:=bA b ps) (v:=aE ps);rw[gC];exact dY h3 (by lia)
theorem IN(h:Book b qb):∀{ks:List (List Kt)},(∀k∈ks,k∈eX (qb.map (·.1)))->∃R:List Row,R.map (bA b)=ks/\(∀ps∈R,RowOk b ps)/\ks.map (fun k=>(aK (.dt (qb.map (·.1)) (qb.map (·.2))) (tkT k)).getD .non)=R.map aE
 |[],_=>⟨[],rfl,(fun _ h=>absurd h (by simp)),rfl⟩
 |k::ks,hk=>by
  obtain⟨w,e,ps,h1,h2,h3⟩:=Book.get h (hk k fK);obtain⟨R,r1,r2,r3⟩:=IN h fun q hq=>hk q (dH _ hq);refine⟨ps::R,by rw[bE,r1,h3],fun q hq=>?_,by rw[bE,bE,r3,e,<-h2];rfl⟩;rcases omc hq with rfl|hq
  .exact h1
  .exact r2 q hq
theorem K7(Z:List Zt)(x:Str)(R:List Row):(Z.map fun z=>if z.1.nm==x then T.tup (R.map aE)else rwT z)=(iT Z x R).map rwT:=by unfold iT;rw[eG];exact lF fun z _=>by show _=rwT (if z.1.nm==x then(z.1,R)else z);split<;>rfl
theorem K8{G:Glo}{Z:List Zt}{z:Zt}{R:List Row}{A:T}(hb:z.1.ok)(l4:Z.length<=4)(hR:∀ps∈R,RowOk z.1 ps)(hl:R.length<=60)(hA:items .plain [A]=some (R.map aE))(ct:G.call "_law_table" [aB Z,.str z.1.nm]=some z.1.t)(ck:∀ps∈R,G.call "_law_key" [z.1.t,aE ps]=some (kyT z.1 ps)):∃R':List Row,aC G zF.body [aB Z,stT Z,T.str z.1.nm,A,.no,.no,.no]=some (.rt (stT (iT Z z.1.nm R')))/\R'.length<=R.length/\Rws z.1 R':=by
 have hz:R.length<=16777216:=by lia
 obtain⟨hB,hBl⟩:=IM (b:=z.1) (acc:=[]) hR ⟨rA,fun p h=>absurd h (by simp)⟩;rw[List.length_nil,Nat.zero_add]at hBl;have e5:evE G (.blt .dict (.comp (.tup [.call "_law_key" [.w 5,.w 0],.w 0]) 1 .plain [.w 3] none)) (aA [aB Z,stT Z,T.str z.1.nm,A,z.1.t,.no,.no])=some (.dt ((gO (R.map fun ps=>(bA z.1 ps,aE ps))).map (·.1)) ((gO (R.map fun ps=>(bA z.1 ps,aE ps))).map (·.2))):=by
  rw[gV,gF];have s1:aD G [.w 3] (aA [aB Z,stT Z,T.str z.1.nm,A,z.1.t,.no,.no])=some [A]:=rfl;have s2:bP .plain [A]=some (R.map aE):=by unfold bP;rw[hA,bB,if_pos (by rw[bM];exact hz)]
  rw[s1,bB,s2,bB,gW (enc:=aE) (fun ps=>T.tup [kyT z.1 ps,aE ps]) fun ps hp=>by have:=ck ps hp;simp[bnd,evE,aD,aA,Sl.get,this]];show(lN (R.map fun ps=>T.tup [kyT z.1 ps,aE ps])).bind _=_;rw[IJ,bB,if_pos (by rw[bM];lia)]
 have hB:Book z.1 (gO (R.map fun ps=>(bA z.1 ps,aE ps))):=hB;have hBl:(gO (R.map fun ps=>(bA z.1 ps,aE ps))).length<=R.length:=hBl;generalize gO (R.map fun ps=>(bA z.1 ps,aE ps))=qb at *;obtain⟨R',r1,r2,r3⟩:=IN hB (ks:=eX (qb.map (·.1))) fun k h=>h;have hl':R'.length=qb.length:=by rw[<-bM (f:=bA z.1),r1,(qD _).length_eq,bM]
 refine⟨R',?_,by lia,r2,by rw[r1];exact(qD _).nodup_iff.mpr hB.nd⟩;have e6:evE G (.blt .toTuple (.comp (.idx (.w 6) (.w 0)) 1 .plain [.blt .sorted (.w 5)] none)) (aA [aB Z,stT Z,T.str z.1.nm,A,z.1.t,T.dt (qb.map (·.1)) (qb.map (·.2)),.no])=some (.tup (R'.map aE)):=by
  rw[gV,gF];have s1:aD G [.blt .sorted (.w 5)] (aA [aB Z,stT Z,T.str z.1.nm,A,z.1.t,T.dt (qb.map (·.1)) (qb.map (·.2)),.no])=some [.lst ((eX (qb.map (·.1))).map tkT)]:=by have:=Book.srt hb hB (by lia);simp only[aD,evE,aA,Sl.get,aY,aZ,aW,aV,aX,aO,this]
  have s2:bP .plain [.lst ((eX (qb.map (·.1))).map tkT)]=some ((eX (qb.map (·.1))).map tkT):=by
   have:qb.length<=16777216:=by lia
   simp[bP,items,(qD _).length_eq,this]
  rw[s1,bB,s2,bB,gW (enc:=tkT) (fun k=>(aK (.dt (qb.map (·.1)) (qb.map (·.2))) (tkT k)).getD .non) fun k hk=>by obtain⟨w,e,_⟩:=Book.get hB hk;simp only[bnd,if_true,aO,evE,aA,Sl.get,aY,aZ,aW,aV,aX,e,cT,Option.getD_some],r3];rfl
 have e7:evE G (.blt .toTuple (.comp (.idx (.lst [.w 1,.w 8]) (.blt .toInt (.cmp .eq (.idx (.w 0) (.c (.int 0))) (.w 4)))) 2 .zip [.w 0,.w 1] none)) (aA [aB Z,stT Z,T.str z.1.nm,A,z.1.t,T.dt (qb.map (·.1)) (qb.map (·.2)),T.tup (R'.map aE)])=some (stT (iT Z z.1.nm R')):=by
  rw[gV,gF];have s1:aD G [.w 0,.w 1] (aA [aB Z,stT Z,T.str z.1.nm,A,z.1.t,T.dt (qb.map (·.1)) (qb.map (·.2)),T.tup (R'.map aE)])=some [aB Z,stT Z]:=rfl;have s2:bP .zip [aB Z,stT Z]=some (Z.map fun z=>T.tup [z.1.t,rwT z]):=by
   show(some (fG (Z.map fun z=>z.1.t) (Z.map rwT))).bind _=_;rw[zB,bB,if_pos];rw[bM];have:(4:Nat)<=SZ:=by decide
   lia
  rw[s1,bB,s2,bB,gW (enc:=fun z:Zt=>T.tup [z.1.t,rwT z]) (fun y=>if y.1.nm==z.1.nm then T.tup (R'.map aE)else rwT y) fun y _=>by
   rw[show bnd 2 (T.tup [y.1.t,rwT y]) (aA [aB Z,stT Z,T.str z.1.nm,A,z.1.t,T.dt (qb.map (·.1)) (qb.map (·.2)),T.tup (R'.map aE)])=some [some y.1.t,some (rwT y),some (aB Z),some (stT Z),some (.str z.1.nm),some A,some z.1.t,some (.dt (qb.map (·.1)) (qb.map (·.2))),some (.tup (R'.map aE))]from rfl];cases hn:y.1.nm==z.1.nm with
   |true=>simp only[evE,aD,aW,aV,aX,aO,t0,bF,eqs,hn,bW,if_true,List.length_cons,List.length_nil,Nat.zero_add,Nat.reduceAdd,Nat.reduceLeDiff,cT];rw[aK,cH];rfl
   |false=>simp only[evE,aD,aW,aV,aX,aO,t0,bF,eqs,hn,bW,if_true,List.length_cons,List.length_nil,Nat.zero_add,Nat.reduceAdd,Nat.reduceLeDiff,cT,Bool.false_eq_true,if_false];rw[aK,cG];rfl]
  rw[K7];rfl
 exact(bC rfl (by simp[evE,aD,aA,Sl.get,ct]) rfl).trans ((bC rfl e5 rfl).trans ((bC rfl e6 rfl).trans (bY rfl e7)))
theorem IP:∀{cs:List Col},c∈cs->(cs.map (·.n)).Nodup->∃j:Nat,hG (.str c.n) (cs.map fun c=>T.str c.n)=some j/\cs[j]?=some c
 |y::cs,h,nd=>by
  rw[bE]at nd;obtain⟨n1,n2⟩:=gH.mp nd;rw[bE,hG];by_cases e:y.n=c.n
  .rcases omc h with e1|h1
   .exact⟨0,by simp[eqT,e],by rw[e1];rfl⟩
   .exact(n1 (fS.mpr ⟨c,h1,e.symm⟩)).elim
  .rcases omc h with e1|h1
   .exact absurd (by rw[e1]) e
   .obtain⟨j,h2,h3⟩:=IP h1 n2;refine⟨j+1,?_,by simpa using h3⟩;rw[if_neg (by simpa[eqT]using e),h2];rfl
def K9(cs:List Col):((cs.map fun c=>T.str c.n).all flat)=true:=by rw[List.all_map];exact iX.mpr fun c _=>rfl
def Prs(b:Tb)(L:List (Str×T)):Prop:=∀p∈L,∃c∈b.cs,c.n=p.1/\Wok c p.2/\(c.g=false->p.2≠.non)/\Sml p.2
noncomputable def prT(p:Str×T):T:=.tup [.str p.1,p.2]
theorem L0(h:j<n):ixI n (j:Int)=some j:=by unfold ixI;rw[if_pos (by lia),if_pos (by lia)];simp
theorem RowOk.set(h:RowOk b qs)(hj:b.cs[j]?=some c)(h1:Wok c w)(h2:c.g=false->w≠.non)(h3:Sml w):RowOk b (qs.set j (c,w))/\(qs.set j (c,w)).map (·.2)=(qs.map (·.2)).set j w:=by
 refine⟨⟨?_,fun p hp=>?_,fun p hp=>?_,fun p hp=>?_⟩,by rw[List.map_set]⟩
 .rw[List.map_set,h.cs];exact List.ext_getElem? fun i=>by
   rw[List.getElem?_set];split
   .rename_i e;subst e;rw[hj];split
    .rfl
    .rename_i hn;exact absurd (ome hj).1 hn
   .rfl
 .rcases List.mem_or_eq_of_mem_set hp with hp|rfl
  .exact h.wk p hp
  .exact h1
 .rcases List.mem_or_eq_of_mem_set hp with hp|rfl
  .exact h.ng p hp
  .exact h2
 .rcases List.mem_or_eq_of_mem_set hp with hp|rfl
  .exact h.sm p hp
  .exact h3
theorem L1{G:Glo}{i:Nat}{k v:E}{τ:List Sl}{ts:List T}{j:Nat}{w:T}{ss:List S}(h0:aS (aN v++aN k) τ=τ)(h1:evE G v (aA τ)=some w)(h2:evE G k (aA τ)=some (.int (j:Int)))(h3:τ[i]?=some (.own ts))(h4:j<ts.length):aC G (.dput i k v::ss) τ=aC G ss (τ.set i (.own (ts.set j w))) :=
 bK (by rw[evS,h0,h1,bB,h2,bB,h3];show Option.map _ (Option.map _ (ixI ts.length (j:Int)))=_;rw[L0 h4];rfl)
theorem L3{G:Glo}{b:Tb}(hb:b.ok){ps:Row}(hp:RowOk b ps){L:List (Str×T)}(hL:Prs b L){A:T}(hA:items .plain [A]=some (L.map prT))(cn:G.call "_law_names" [b.t]=some (.lst (b.cs.map fun c=>T.str c.n))):∃qs,aC G zG.body [b.t,aE ps,A,.no,.no,.no]=some (.rt (aE qs))/\RowOk b qs:=by
 obtain⟨τ',el,qs,s4,s5,rfl,hq⟩:=fR (enc:=prT) (f:=fun x τ=>(bL [4,5] x τ).bind fun τ'=>aC G wiB τ') (I:=fun _ τ=>∃(qs:Row)(s4 s5:Sl),τ=[.val b.t,.val (aE ps),.val A,.own (qs.map (·.2)),s4,s5]/\RowOk b qs) L [.val b.t,.val (aE ps),.val A,.own (ps.map (·.2)),.no,.no] ⟨ps,_,_,rfl,hp⟩ fun l1 p l2 e τ h=>by
  obtain⟨qs,s4,s5,rfl,hq⟩:=h;obtain⟨c,hc,e1,h1,h2,h3⟩:=hL p (by rw[e];simp);obtain⟨j,g1,g2⟩:=IP hc hb.nd;obtain⟨q1,q2⟩:=hq.set g2 h1 h2 h3;refine⟨[b.t,aE ps,A,.own ((qs.set j (c,p.2)).map (·.2)),T.str p.1,p.2],?_,_,_,_,rfl,q1⟩;show aC G wiB [b.t,aE ps,A,.own (qs.map (·.2)),T.str p.1,p.2]=_;have hk:evE G (.mth .index (.call "_law_names" [.w 0]) (.w 4)) (aA [b.t,aE ps,A,.own (qs.map (·.2)),T.str p.1,p.2])=some (.int (j:Int)):=by rw[IC];simp only[evE,aD,aA,Sl.get,aY,aZ,aW,aV,aX,aO,cn];simp only[dZ];rw[<-e1,if_pos (by rw[K9];rfl),g1];rfl
  have hlt:j<(qs.map (·.2)).length:=by rw[bM,<-bM (f:=(·.1)),hq.cs];exact(ome g2).1
  refine(L1 (ts:=qs.map (·.2)) rfl rfl hk rfl hlt).trans ?_;rw[q2];rfl
 refine⟨qs,?_,hq⟩;have e1:evS G (.nw 3 (.blt .toList (.w 1))) [b.t,aE ps,A,.no,.no,.no]=some (.nx [b.t,aE ps,A,.own (ps.map (·.2)),.no,.no]):=rfl;refine(bK e1).trans ((bK (dD rfl rfl hA el)).trans ?_);show aC G [.ret (.blt .toTuple (.w 3))] [b.t,aE ps,A,.own (qs.map (·.2)),s4,s5]=_;exact dG rfl
def lkT(b:Tb)(qa:List Str)(g:Str)(ps:Row):T:=.tup [.tup [.str b.nm,kyT b ps],bD qa,.tup [.str g,woT qa ps]]
structure Lk where
 b:Tb
 qa:List Str
 g:Str
 ps:Row
def Lk.t(l:Lk):T:=lkT l.b l.qa l.g l.ps
noncomputable def lkR(way:Str)(z:Zt):Rl->List Lk
 |.ref qa g w=>if w==way then z.2.map fun ps=>⟨z.1,qa,g,ps⟩else[]
 |_=>[]
def lks(way:Str)(Z:List Zt):List Lk:=Z.flatMap fun z=>z.1.rs.flatMap (lkR way z)
structure Lk.ok(B:List Tb)(way:Str)(l:Lk):Prop where
 b:l.b∈B
 r:Rl.ref l.qa l.g way∈l.b.rs
 p:RowOk l.b l.ps
theorem IQ(h:Stn B m Z)(hl:l∈lks way Z):l.ok B way/\∃z∈Z,z.1=l.b/\l.ps∈z.2:=by
 obtain⟨z,hz,hl⟩:=rC.mp hl;obtain⟨r,hr,hl⟩:=rC.mp hl;cases r with
 |ref qa g w=>
  have hl':l∈(if w==way then z.2.map (fun ps=>(⟨z.1,qa,g,ps⟩:Lk))else[]):=hl;clear hl;split at hl'
  .rename_i hw;obtain⟨ps,hps,rfl⟩:=omm hl';have hw:=cK hw;subst hw;exact⟨⟨h.mem hz,hr,(h.rw z hz).2.1 ps hps⟩,z,hz,rfl,hps⟩
  .cases hl'
 |unl _=>cases hl
 |chk _=>cases hl
theorem oQ{α β:Type}{f:α->List β}:∀{l:List α},(∀a∈l,(f a).length<=k)->(l.flatMap f).length<=l.length*k
 |[],_=>by simp
 |a::l,h=>by rw[List.flatMap_cons,cP,gC,Nat.add_mul,Nat.one_mul];have h1:=h a fK;have h2:=oQ (l:=l) fun x hx=>h x (dH _ hx);lia
theorem IS(h:z.2.length<=m)(r:Rl):(lkR way z r).length<=m:=by
 cases r with
 |ref qa g w=>
  show(if w==way then z.2.map (fun ps=>(⟨z.1,qa,g,ps⟩:Lk))else[]).length<=m;split
  .rw[bM];exact h
  .exact dQ _
 |_=>simp[lkR]
def IT{way:Str}{z:Zt}{m:Nat}(hb:z.1.ok)(h:z.2.length<=m):(z.1.rs.flatMap (lkR way z)).length<=4*m :=
 dY (oQ fun r _=>IS h r) (Nat.mul_le_mul_right _ hb.rl)
theorem L4(H:Sch B)(h:Stn B m Z)(way:Str):(lks way Z).length<=16*m:=by
 have h1:=oQ (l:=Z) (f:=fun z=>z.1.rs.flatMap (lkR way z)) (k:=4*m) fun z hz=>IT (H.ok _ (h.mem hz)) (h.rw z hz).1;have h2:=Nat.mul_le_mul_right (4*m) (show Z.length<=4 by rw[h.len];exact H.l4);have:4*(4*m)=16*m:=by lia
 unfold lks;lia
structure Cls(G:Glo)(B:List Tb)(Z:List Zt):Prop where
 tb:∀b∈B,G.call "_law_table" [aB Z,.str b.nm]=some b.t
 ky:∀b∈B,∀ps,RowOk b ps->G.call "_law_key" [b.t,aE ps]=some (kyT b ps)
 nm:∀b∈B,G.call "_law_names" [b.t]=some (.lst (b.cs.map fun c=>T.str c.n))
 rw:∀z∈Z,G.call "_law_rows" [aB Z,stT Z,.str z.1.nm]=some (rwT z)
 wo:∀b∈B,∀ps,RowOk b ps->∀qa:List Str,(∀x∈qa,∃c∈b.cs,c.n=x)->qa.length<=4->G.call "_law_worths" [b.t,aE ps,bD qa]=some (woT qa ps)
def t3(b:Tb):aK b.t (.int 3)=some (.tup (b.rs.map Rl.t)):=by rw[Tb.t,gU,aK,yG]
def t2(b:Tb):aK b.t (.int 2)=some (bD b.key):=by rw[Tb.t,gU,aK,fQ];rfl
noncomputable def zV:Rl->Bool
 |.ref _ _ _=>true
 |_=>false
theorem r0(r:Rl):∃w:Str,aK r.t (.int 0)=some (.str w)/\(w==("refers":Str))=zV r:=by
 cases r with
 |ref cs t w=>exact⟨"refers",by rw[Rl.t,aK,cG],show(("refers":Str)=="refers")=true by decide +kernel⟩
 |unl cs=>exact⟨"unlike",by rw[Rl.t,aK,cG],show(("unlike":Str)=="refers")=false by decide +kernel⟩
 |chk t=>exact⟨"check",by rw[Rl.t,aK,cG],show(("check":Str)=="refers")=false by decide +kernel⟩
def rf1(cs:List Str)(t w:Str):aK (Rl.ref cs t w).t (.int 1)=some (bD cs):=by rw[Rl.t,aK,cH]
def rf2(cs:List Str)(t w:Str):aK (Rl.ref cs t w).t (.int 2)=some (.str t):=by rw[Rl.t,aK,fQ]
def rf3(cs:List Str)(t w:Str):aK (Rl.ref cs t w).t (.int 3)=some (.str w):=by rw[Rl.t,aK,yG]
def jY(h:evE G a r=some (.bl false)):evE G (.land a b) r=some (.bl false):=by rw[evE,h];rfl
def iU(h:evE G a r=some (.bl true)):evE G (.land a b) r=evE G b r:=by rw[evE,h];rfl
theorem qU(h0:aS (aN e) τ=τ)(h1:evE G e (aA τ)=some t)(h2:τ[i]?=some (.own ts))(h3:ts.length<SZ):aC G (.app i e::ss) τ=aC G ss (τ.set i (.own (ts++[t]))) :=
 bK (by rw[evS,h0,h1,bB,h2];show(if ts.length<SZ then _ else _)=_;rw[if_pos h3])
def eK(l:List T):items .plain [.tup l]=some l:=rfl
def nH(l:List T):items .plain [.lst l]=some l:=rfl
theorem iV:100000<SZ:=by decide
theorem IU(h:(Rl.ref ks t w).fits ns cs):∀x∈ks,∃c∈cs,c.n=x:=fun x hx=>by obtain⟨c,hc,e,_⟩:=h.1 x hx;exact⟨c,hc,e⟩
section
variable {G:Glo}{B:List Tb}{m:Nat}{Z:List Zt}(H:Sch B)(h:Stn B m Z)(C:Cls G B Z)(hm:m<=60)(way:Str)
include H h C hm
theorem ln_c(hz:z∈Z)(hr:Rl.ref qa g way∈z.1.rs)(L:List T)(hL:L.length<=960)(s6 s7:Sl):∃s6' s7',bU (fun x τ=>(bL [6] x τ).bind fun τ'=>aC G lnC τ') (z.2.map aE) [aB Z,stT Z,T.str way,.own L,z.1.t,(Rl.ref qa g way).t,s6,s7]=some (.nx [aB Z,stT Z,T.str way,.own (L++z.2.map fun ps=>lkT z.1 qa g ps),z.1.t,(Rl.ref qa g way).t,s6',s7']):=by
 have hb:=H.ok _ (h.mem hz);have hfit:=H.fit _ (h.mem hz) _ hr;have hc4:qa.length<=4:=(hb.rs _ hr).2.1;obtain⟨τ',el,s6',s7',rfl⟩:=fR (enc:=aE) (f:=fun x τ=>(bL [6] x τ).bind fun τ'=>aC G lnC τ') (I:=fun done τ=>∃s6 s7:Sl,τ=[.val (aB Z),.val (stT Z),.val (.str way),.own (L++done.map fun ps=>lkT z.1 qa g ps),.val z.1.t,.val (Rl.ref qa g way).t,s6,s7]) z.2 [.val (aB Z),.val (stT Z),.val (.str way),.own L,.val z.1.t,.val (Rl.ref qa g way).t,s6,s7] ⟨_,_,by rw[List.map_nil,gI]⟩ fun l1 ps l2 e τ hI=>by
  obtain⟨s6,s7,rfl⟩:=hI;have hps:ps∈z.2:=by rw[e];simp
  have hp:=(h.rw z hz).2.1 ps hps;have c1:=C.wo _ (h.mem hz) ps hp qa (IU hfit) hc4;have c2:=C.ky _ (h.mem hz) ps hp;have hl1:l1.length<=m:=by have:=(h.rw z hz).1;rw[e,cP]at this;lia
  refine⟨_,?_,.val (aE ps),.val (woT qa ps),rfl⟩;show aC G lnC [aB Z,stT Z,T.str way,.own (L++l1.map fun ps=>lkT z.1 qa g ps),z.1.t,(Rl.ref qa g way).t,aE ps,s7]=_;refine(bC (t:=woT qa ps) rfl (by simp only[evE,aD,aA,Sl.get,aY,aZ,aW,aV,aX,aO,rf1,c1]) rfl).trans ?_;refine(qU (t:=lkT z.1 qa g ps) (ts:=L++l1.map fun ps=>lkT z.1 qa g ps) rfl (by simp only[evE,aD,aA,Sl.get,aY,aZ,rF,rG,aW,aV,aX,aO,rf1,rf2,c2,t0,List.length_cons,List.length_nil,Nat.zero_add,Nat.reduceAdd,Nat.reduceLeDiff,if_true,cT];rfl) rfl (by rw[cP,bM];have:=iV;lia)).trans ?_;rw[gY,kF];rfl
 exact⟨s6',s7',el⟩
theorem ln_b(hz:z∈Z)(L:List T)(hL:L.length<=720)(s5 s6 s7:Sl):∃s5' s6' s7',bU (fun x τ=>(bL [5] x τ).bind fun τ'=>aC G lnB τ') (z.1.rs.map Rl.t) [aB Z,stT Z,T.str way,.own L,z.1.t,s5,s6,s7]=some (.nx [aB Z,stT Z,T.str way,.own (L++(z.1.rs.flatMap (lkR way z)).map Lk.t),z.1.t,s5',s6',s7']):=by
 have hb:=H.ok _ (h.mem hz);obtain⟨τ',el,s5',s6',s7',rfl⟩:=fR (enc:=Rl.t) (f:=fun x τ=>(bL [5] x τ).bind fun τ'=>aC G lnB τ') (I:=fun done τ=>∃s5 s6 s7:Sl,τ=[.val (aB Z),.val (stT Z),.val (.str way),.own (L++(done.flatMap (lkR way z)).map Lk.t),.val z.1.t,s5,s6,s7]) z.1.rs [.val (aB Z),.val (stT Z),.val (.str way),.own L,.val z.1.t,s5,s6,s7] ⟨_,_,_,by rw[List.flatMap_nil,List.map_nil,gI]⟩ fun l1 r l2 e τ hI=>by
  obtain⟨s5,s6,s7,rfl⟩:=hI;have hr:r∈z.1.rs:=by rw[e];simp
  have hl1:(l1.flatMap (lkR way z)).length<=4*m:=by
   have h1:=oQ (l:=l1) (f:=lkR way z) (k:=m) fun r _=>IS (h.rw z hz).1 r;have h2:l1.length<=4:=by have:=hb.rl;rw[e,cP]at this;lia
   exact dY h1 (Nat.mul_le_mul_right _ h2)
  obtain⟨w0,i0,hw0⟩:=r0 r;have c1:evE G (.cmp .eq (.idx (.w 5) (.c (.int 0))) (.c (.str "refers"))) (aA [aB Z,stT Z,T.str way,.own (L++(l1.flatMap (lkR way z)).map Lk.t),z.1.t,r.t,s6,s7])=some (.bl (w0=="refers")):=by simp only[evE,aA,Sl.get,aY,aZ,aW,aV,aX,aO,i0,bF,eqs]
  have fm:(l1++[r]).flatMap (lkR way z)=l1.flatMap (lkR way z)++lkR way z r:=by simp
  rw[fm,gY,<-kF];have no:lkR way z r=[]->evE G (.land (.cmp .eq (.idx (.w 5) (.c (.int 0))) (.c (.str "refers"))) (.cmp .eq (.idx (.w 5) (.c (.int 3))) (.w 2))) (aA [.val (aB Z),.val (stT Z),.val (.str way),.own (L++(l1.flatMap (lkR way z)).map Lk.t),.val z.1.t,.val r.t,s6,s7])=some (.bl false)->∃τ',((bL [5] r.t [.val (aB Z),.val (stT Z),.val (.str way),.own (L++(l1.flatMap (lkR way z)).map Lk.t),.val z.1.t,s5,s6,s7]).bind fun τ'=>aC G lnB τ')=some (.nx τ')/\∃s5 s6 s7:Sl,τ'=[.val (aB Z),.val (stT Z),.val (.str way),.own (L++(l1.flatMap (lkR way z)).map Lk.t++(lkR way z r).map Lk.t),.val z.1.t,s5,s6,s7]:=fun e1 e2=>by refine⟨_,(bJ (τ:=[aB Z,stT Z,T.str way,.own (L++(l1.flatMap (lkR way z)).map Lk.t),z.1.t,r.t,s6,s7]) rfl e2).trans rfl,.val r.t,s6,s7,?_⟩;rw[e1,List.map_nil,gI]
  cases r with
  |unl cs=>exact no rfl (jY (c1.trans (aP (fun b=>some (T.bl b)) hw0)))
  |chk t=>exact no rfl (jY (c1.trans (aP (fun b=>some (T.bl b)) hw0)))
  |ref qa g w=>
   have c2:evE G (.cmp .eq (.idx (.w 5) (.c (.int 3))) (.w 2)) (aA [aB Z,stT Z,T.str way,.own (L++(l1.flatMap (lkR way z)).map Lk.t),z.1.t,(Rl.ref qa g w).t,s6,s7])=some (.bl (w==way)):=by simp only[evE,aA,Sl.get,aY,aZ,aW,aV,aX,aO,rf3,bF,eqs]
   cases hw:(w==way)with
   |false=>exact no (by show(if w==way then _ else _)=_;rw[hw];rfl) ((iU (c1.trans (aP (fun b=>some (T.bl b)) hw0))).trans (c2.trans (aP (fun b=>some (T.bl b)) hw)))
   |true=>
    have ew:=cK hw;subst ew;obtain⟨s6',s7',ec⟩:=ln_c H h C hm w hz hr (L++(l1.flatMap (lkR w z)).map Lk.t) (by rw[cP,bM];lia) s6 s7;have er:aD G [.call "_law_rows" [.w 0,.w 1,.idx (.w 4) (.c (.int 0))]] (aA [aB Z,stT Z,T.str w,.own (L++(l1.flatMap (lkR w z)).map Lk.t),z.1.t,(Rl.ref qa g w).t,s6,s7])=some [rwT z]:=by have:=C.rw z hz;simp only[evE,aD,aA,Sl.get,aY,aZ,aW,aV,aX,aO,t0,this]
    refine⟨_,(jG (τ:=[aB Z,stT Z,T.str w,.own (L++(l1.flatMap (lkR w z)).map Lk.t),z.1.t,(Rl.ref qa g w).t,s6,s7]) rfl ((iU (c1.trans (aP (fun b=>some (T.bl b)) hw0))).trans (c2.trans (aP (fun b=>some (T.bl b)) hw))) ((bK (dD (xs:=[rwT z]) rfl er (eK _) ec)).trans rfl)).trans rfl,.val (Rl.ref qa g w).t,s6',s7',?_⟩;have:lkR w z (.ref qa g w)=z.2.map fun ps=>(⟨z.1,qa,g,ps⟩:Lk):=by show(if w==w then _ else _)=_;rw[hw];rfl
    rw[this,eG];rfl
 exact⟨s5',s6',s7',el⟩
theorem L5:aC G zE.body [aB Z,stT Z,T.str way,.no,.no,.no,.no,.no]=some (.rt (.lst ((lks way Z).map Lk.t))):=by
 obtain⟨τ',el,s4,s5,s6,s7,rfl⟩:=fR (enc:=fun z:Zt=>z.1.t) (f:=fun x τ=>(bL [4] x τ).bind fun τ'=>aC G lnA τ') (I:=fun done τ=>∃s4 s5 s6 s7:Sl,τ=[.val (aB Z),.val (stT Z),.val (.str way),.own ((lks way done).map Lk.t),s4,s5,s6,s7]) Z [.val (aB Z),.val (stT Z),.val (.str way),.own [],.no,.no,.no,.no] ⟨_,_,_,_,rfl⟩ fun l1 z l2 e τ hI=>by
  obtain⟨s4,s5,s6,s7,rfl⟩:=hI;have hz:z∈Z:=by rw[e];simp
  have hlen:(lks way l1).length<=720:=by
   have h1:=oQ (l:=l1) (f:=fun z=>z.1.rs.flatMap (lkR way z)) (k:=4*m) fun y hy=>by
    have hy:y∈Z:=by rw[e];simp[hy]
    exact IT (H.ok _ (h.mem hy)) (h.rw y hy).1
   have h2:l1.length<=3:=by have h3:=h.len;have:=H.l4;rw[e,cP,gC]at h3;lia
   have h3:=Nat.mul_le_mul h2 (show 4*m<=240 by lia);unfold lks;lia
  obtain⟨s5',s6',s7',eb⟩:=ln_b H h C hm way hz ((lks way l1).map Lk.t) (by rw[bM];exact hlen) s5 s6 s7;have er:aD G [.idx (.w 4) (.c (.int 3))] (aA [aB Z,stT Z,T.str way,.own ((lks way l1).map Lk.t),z.1.t,s5,s6,s7])=some [.tup (z.1.rs.map Rl.t)]:=by simp only[evE,aD,aA,Sl.get,aY,aZ,aW,aV,aX,aO,t3]
  refine⟨_,(bK (dD (τ:=[aB Z,stT Z,T.str way,.own ((lks way l1).map Lk.t),z.1.t,s5,s6,s7]) (xs:=[.tup (z.1.rs.map Rl.t)]) rfl er (eK _) eb)).trans rfl,.val z.1.t,s5',s6',s7',?_⟩;have:lks way (l1++[z])=lks way l1++z.1.rs.flatMap (lkR way z):=by unfold lks;simp
  rw[this,gY]
 exact(bC rfl rfl rfl).trans ((bK (dD (xs:=[aB Z]) rfl rfl (eK _) el)).trans (dG rfl))
end
theorem uQ(h1:evE G c (aA (aS (aN c) τ))=some (.bl false)):aC G (.ite c a []::ss) τ=aC G ss τ:=bK (by rw[evS,h1];rfl)
theorem L6(h1:evE G c (aA (aS (aN c) τ))=some (.bl true))(h2:aC G a τ=some (.nx τ')):aC G (.ite c a b::ss) τ=aC G ss τ':=bK (by rw[evS,h1];exact h2)
theorem IV(h1:evE G c (aA (aS (aN c) τ))=some (.bl true))(h2:aC G a τ=some (.rt t)):aC G (.ite c a b::ss) τ=some (.rt t):=dG (by rw[evS,h1];exact h2)
theorem IW(I:Nat->List Sl->Prop)(hs:∀k τ,I k τ->g τ=some (.bl false)\/∃k' τ',k=k'+1/\g τ=some (.bl true)/\f τ=some (.nx τ')/\I k' τ'):∀n k τ,I k τ->k<n->∃k' τ',lO f g n τ=some (.nx τ')/\I k' τ'/\g τ'=some (.bl false)
 |0,_,_,_,h=>absurd h (Nat.not_lt_zero _)
 |n+1,k,τ,h,hk=>by
  rcases hs k τ h with e|⟨k',τ',rfl,e1,e2,h2⟩
  .exact⟨k,τ,by rw[lO,e];rfl,h,e⟩
  .obtain⟨k2,τ2,e3,h3,h4⟩:=IW I hs n k' τ' h2 (by lia);exact⟨k2,τ2,by rw[lO,e1,bB];show Option.bind (f τ) _=_;rw[e2];exact e3,h3,h4⟩
theorem qV{α:Type}{enc:α->T}{f:T->List Sl->a0 Out}{I:List Sl->Prop}{V:T->Prop}:∀(l:List α)(τ:List Sl),I τ->(∀a∈l,∀τ,I τ->(∃τ',f (enc a) τ=some (.nx τ')/\I τ')\/∃v,f (enc a) τ=some (.rt v)/\V v) ->(∃τ',bU f (l.map enc) τ=some (.nx τ')/\I τ')\/∃v,bU f (l.map enc) τ=some (.rt v)/\V v
 |[],τ,h,_=>.inl ⟨τ,rfl,h⟩
 |a::l,τ,h,hs=>by
  rcases hs a fK τ h with⟨τ',e,h'⟩|⟨v,e,hv⟩
  .rcases qV l τ' h' fun b hb=>hs b (dH _ hb)with⟨τ2,e2,h2⟩|⟨v,e2,hv⟩
   .exact .inl ⟨τ2,by rw[bE,bU,e];exact e2,h2⟩
   .exact .inr ⟨v,by rw[bE,bU,e];exact e2,hv⟩
  .exact .inr ⟨v,by rw[bE,bU,e];rfl,hv⟩
abbrev Pl:=Str×List Kt
def plT(p:Pl):T:=.tup [.str p.1,tkT p.2]
def Lk.pl(l:Lk):Pl:=(l.b.nm,bA l.b l.ps)
def Lk.gl(l:Lk):T:=.tup [.str l.g,woT l.qa l.ps]
def Lk.t_eq(l:Lk):l.t=.tup [plT l.pl,bD l.qa,l.gl]:=rfl
theorem IX(a b:Pl):eqT (plT a) (plT b)=decide (a=b):=by show(eqT (.str a.1) (.str b.1)&&(eqT (tkT a.2) (tkT b.2)&&true))=_;rw[mC,Bool.and_true];show((a.1==b.1)&&_)=_;rcases a with⟨a1,a2⟩;rcases b with⟨b1,b2⟩;by_cases e1:a1=b1<;>by_cases e2:a2=b2<;>simp[e1,e2]
def IY(a b:Pl):dpP (plT a) (plT b)=2:=by show max 0 (max (dpP (tkT a.2) (tkT b.2)) 0)+1=2;rw[jW];rfl
theorem L7(qa:List Str)(ps:Row)(k:List Kt):dpP (woT qa ps) (tkT k)<=1/\dpP (tkT k) (woT qa ps)<=1:=by
 unfold woT;split
 .exact⟨dQ _,dQ _⟩
 .rw[jW,jW];exact⟨bH _,bH _⟩
theorem IZ(l:Lk)(p:Pl):dpP l.gl (plT p)<=30/\dpP (plT p) l.gl<=30:=by
 have h:=L7 l.qa l.ps p.2;constructor
 .show max 0 (max (dpP (woT l.qa l.ps) (tkT p.2)) 0)+1<=30;lia
 .show max 0 (max (dpP (tkT p.2) (woT l.qa l.ps)) 0)+1<=30;lia
theorem uR(a:Pl)(g:List Pl):inC (plT a) (.lst (g.map plT))=some (g.any fun x=>decide (x=a)):=by
 show(if dpI (plT a) (g.map plT)=true then some ((g.map plT).any fun z=>eqT z (plT a))else none)=_;rw[if_pos,List.any_map]
 .congr 2;funext x;exact IX x a
 .unfold dpI;rw[List.all_map];exact iX.mpr fun x _=>dX (by show dpP (plT x) (plT a)<=30;rw[IY];decide)
def JA(l:Lk)(g:List Pl):∃b,inC l.gl (.lst (g.map plT))=some b:=by refine⟨(g.map plT).any fun z=>eqT z l.gl,?_⟩;show(if dpI l.gl (g.map plT)=true then _ else none)=_;rw[if_pos];unfold dpI;rw[List.all_map];exact iX.mpr fun x _=>dX (IZ l x).2
theorem uS(b:Tb)(R:List Row)(k:List Kt):inC (tkT k) (.lst (R.map (kyT b)))=some (R.any fun ps=>decide (bA b ps=k)):=by
 show(if dpI (tkT k) (R.map (kyT b))then some ((R.map (kyT b)).any fun z=>eqT z (tkT k))else none)=_;rw[if_pos,List.any_map]
 .congr 2;funext ps;exact mC _ _
 .unfold dpI;rw[List.all_map];exact iX.mpr fun ps _=>dX (by show dpP (tkT _) (tkT k)<=30;rw[jW];decide)
def pls(Z:List Zt):List Pl:=Z.flatMap fun z=>z.2.map fun ps=>(z.1.nm,bA z.1 ps)
theorem JB(H:Sch B)(h:Stn B m Z):(pls Z).length<=4*m:=by
 have h1:=oQ (l:=Z) (f:=fun z=>z.2.map fun ps=>(z.1.nm,bA z.1 ps)) (k:=m) fun z hz=>by rw[bM];exact(h.rw z hz).1
 exact dY h1 (Nat.mul_le_mul_right _ (by rw[h.len];exact H.l4))
theorem L8(h:Stn B m Z)(hl:l∈lks way Z):l.pl∈pls Z:=by obtain⟨_,z,hz,e,hp⟩:=IQ h hl;exact rC.mpr ⟨z,hz,fS.mpr ⟨l.ps,hp,by rw[e];rfl⟩⟩
theorem uT{α:Type}[DecidableEq α]:∀{l u:List α},l.Nodup->(∀x∈l,x∈u)->l.length<=u.length
 |[],_,_,_=>dQ _
 |x::l,u,nd,h=>by obtain⟨n1,n2⟩:=gH.mp nd;have hx:=h x fK;have:=uT (u:=u.erase x) n2 fun y hy=>(List.mem_erase_of_ne fun e=>n1 (by rw[<-e];exact hy)).mpr (h y (dH _ hy));rw[List.length_erase_of_mem hx]at this;have:=List.length_pos_of_mem hx;rw[gC];lia
structure Gst(U gone todo:List Pl):Prop where
 nd:gone.Nodup
 su:∀p∈gone,p∈U
 le:todo.length<=gone.length
section
variable {G:Glo}{B:List Tb}{m:Nat}{Z:List Zt}(H:Sch B)(h:Stn B m Z)(hm:m<=60)(cl:∀way:Str,G.call "_law_links" [aB Z,stT Z,.str way]=some (.lst ((lks way Z).map Lk.t)))
variable (X0 X1 X2 X3 X4:T)(s11:Sl)
include H h hm in
theorem L9(g:Gst (pls Z) gone todo)(s8 s9 s10:Sl):∃gone' todo' s8' s9' s10',bU (fun x τ=>(bL [8,9,10] x τ).bind fun τ'=>aC G goI τ') ((lks "along" Z).map Lk.t) [X0,X1,X2,X3,X4,.own (gone.map plT),.own (todo.map plT),plT here,s8,s9,s10,s11]=some (.nx [X0,X1,X2,X3,X4,.own (gone'.map plT),.own (todo'.map plT),plT here,s8',s9',s10',s11])/\Gst (pls Z) gone' todo'/\gone'.length+todo.length=gone.length+todo'.length:=by
 have hU:=JB H h;obtain⟨τ',el,gone',todo',s8',s9',s10',rfl,g',e'⟩:=fR (enc:=Lk.t) (f:=fun x τ=>(bL [8,9,10] x τ).bind fun τ'=>aC G goI τ') (I:=fun _ τ=>∃(gone' todo':List Pl)(s8 s9 s10:Sl),τ=[.val X0,.val X1,.val X2,.val X3,.val X4,.own (gone'.map plT),.own (todo'.map plT),.val (plT here),s8,s9,s10,s11]/\Gst (pls Z) gone' todo'/\gone'.length+todo.length=gone.length+todo'.length) (lks "along" Z) [.val X0,.val X1,.val X2,.val X3,.val X4,.own (gone.map plT),.own (todo.map plT),.val (plT here),s8,s9,s10,s11] ⟨gone,todo,_,_,_,rfl,g,rfl⟩ fun l1 l l2 e τ hI=>by
  obtain⟨gone',todo',s8,s9,s10,rfl,g',e'⟩:=hI;have hl:l∈lks "along" Z:=by rw[e];simp
  have hgl:=uT g'.nd g'.su;have hsz:=iV;show ∃τ',aC G goI [X0,X1,X2,X3,X4,.own (gone'.map plT),.own (todo'.map plT),plT here,plT l.pl,bD l.qa,l.gl,s11]=some (.nx τ')/\_;have c1:evE G (.cmp .eq (.w 10) (.w 7)) (aA [X0,X1,X2,X3,X4,T.lst (gone'.map plT),.own (todo'.map plT),plT here,plT l.pl,bD l.qa,l.gl,s11])=some (.bl (eqT l.gl (plT here))):=by show eqC l.gl (plT here)=_;unfold eqC;rw[if_pos (IZ l here).1]
  have c2:evE G (.cmp .notin (.w 8) (.w 5)) (aA [X0,X1,X2,X3,X4,T.lst (gone'.map plT),.own (todo'.map plT),plT here,plT l.pl,bD l.qa,l.gl,s11])=some (.bl (!(gone'.any fun x=>decide (x=l.pl)))):=by show(inC (plT l.pl) (.lst (gone'.map plT))).map _=_;rw[uR];rfl
  have no:evE G (.land (.cmp .eq (.w 10) (.w 7)) (.cmp .notin (.w 8) (.w 5))) (aA [.val X0,.val X1,.val X2,.val X3,.val X4,.val (.lst (gone'.map plT)),.own (todo'.map plT),.val (plT here),.val (plT l.pl),.val (bD l.qa),.val l.gl,s11])=some (.bl false)->∃τ',aC G goI [.val X0,.val X1,.val X2,.val X3,.val X4,.own (gone'.map plT),.own (todo'.map plT),.val (plT here),.val (plT l.pl),.val (bD l.qa),.val l.gl,s11]=some (.nx τ')/\∃(gone'_1 todo'_1:List Pl)(s8 s9 s10:Sl),τ'=[.val X0,.val X1,.val X2,.val X3,.val X4,.own (gone'_1.map plT),.own (todo'_1.map plT),.val (plT here),s8,s9,s10,s11]/\Gst (pls Z) gone'_1 todo'_1/\gone'_1.length+todo.length=gone.length+todo'_1.length:=fun hc=>⟨_,(uQ (τ:=[X0,X1,X2,X3,X4,.own (gone'.map plT),.own (todo'.map plT),plT here,plT l.pl,bD l.qa,l.gl,s11]) hc).trans rfl,gone',todo',_,_,_,rfl,g',e'⟩;cases q1:eqT l.gl (plT here)with
  |false=>exact no (jY (c1.trans (aP (fun b=>some (T.bl b)) q1)))
  |true=>
   have c3:=(iU (c1.trans (aP (fun b=>some (T.bl b)) q1))).trans c2;cases q2:(gone'.any fun x=>decide (x=l.pl))with
   |true=>exact no (c3.trans (aP (fun b=>some (T.bl (!b))) q2))
   |false=>
    have hnot:l.pl∉gone':=fun hin=>by rw[List.any_eq_false]at q2;exact q2 _ hin (dX rfl)
    refine⟨[X0,X1,X2,X3,X4,.own ((gone'++[l.pl]).map plT),.own ((todo'++[l.pl]).map plT),plT here,plT l.pl,bD l.qa,l.gl,s11],?_,gone'++[l.pl],todo'++[l.pl],_,_,_,rfl,⟨?_,fun p hp=>?_,?_⟩,?_⟩
    .refine(L6 (τ:=[X0,X1,X2,X3,X4,.own (gone'.map plT),.own (todo'.map plT),plT here,plT l.pl,bD l.qa,l.gl,s11]) (c3.trans (aP (fun b=>some (T.bl (!b))) q2)) ?_).trans rfl;refine(qU (ts:=gone'.map plT) (t:=plT l.pl) rfl rfl rfl (by rw[bM];lia)).trans ((qU (ts:=todo'.map plT) (t:=plT l.pl) rfl rfl rfl (by rw[bM];have:=g'.le;lia)).trans ?_);rw[gY,gY];rfl
    .rw[List.nodup_append];exact⟨g'.nd,by simp,fun a ha b hb=>by rw[AA]at hb;rw[hb];exact fun e=>hnot (by rw[<-e];exact ha)⟩
    .rcases oma hp with hp|hp
     .exact g'.su p hp
     .rw[omg hp];exact L8 h hl
    .have:=g'.le;simp;lia
    .simp;lia
 exact⟨gone',todo',s8',s9',s10',el,g',e'⟩
end
def Gng(Z:List Zt)(t:T):Prop:=(∃i:Int,t=.int i)\/∃(gone:List Pl)(gaps:List Lk),t=.tup [.lst (gone.map plT),.lst (gaps.map Lk.t)]/\∀l∈gaps,l∈lks "gap" Z
theorem JC{α:Type}(f:α->T)(l:List α):neC (.lst (l.map f)) (.lst [])=some (.bl (!l.isEmpty)):=by unfold neC;rw[if_pos (by simp[dpP,fM]),eqT,yJ]
section
variable {G:Glo}{B:List Tb}{m:Nat}{Z:List Zt}(H:Sch B)(h:Stn B m Z)(hm:m<=60)(cl:∀way:Str,G.call "_law_links" [aB Z,stT Z,.str way]=some (.lst ((lks way Z).map Lk.t)))
variable (X2 X3 X4:T)
include H h hm cl
theorem M0(g:Gst (pls Z) gone todo):∃(gone' todo':List Pl)(s7 s8 s9 s10:Sl),evS G (.wloop (.cmp .ne (.w 6) (.lst [])) goW) [.val (aB Z),.val (stT Z),.val X2,.val X3,.val X4,.own (gone.map plT),.own (todo.map plT),.no,.no,.no,.no,.no]=some (.nx [.val (aB Z),.val (stT Z),.val X2,.val X3,.val X4,.own (gone'.map plT),.own (todo'.map plT),s7,s8,s9,s10,.no]):=by
 have hU:=JB H h;have hgl:=uT g.nd g.su;have key:=IW (f:=fun τ=>aC G goW τ) (g:=fun τ=>evE G (.cmp .ne (.w 6) (.lst [])) (aA (aS (aN (.cmp .ne (.w 6) (.lst []))) τ)))
  (I:=fun k τ=>∃(gone todo:List Pl)(s7 s8 s9 s10:Sl),τ=[.val (aB Z),.val (stT Z),.val X2,.val X3,.val X4,.own (gone.map plT),.own (todo.map plT),s7,s8,s9,s10,.no]/\Gst (pls Z) gone todo/\(pls Z).length+todo.length=gone.length+k) (fun k τ hI=>by
   obtain⟨gone,todo,s7,s8,s9,s10,rfl,g,e⟩:=hI;have hc:evE G (.cmp .ne (.w 6) (.lst [])) (aA (aS (aN (.cmp .ne (.w 6) (.lst []))) [.val (aB Z),.val (stT Z),.val X2,.val X3,.val X4,.own (gone.map plT),.own (todo.map plT),s7,s8,s9,s10,.no]))=some (.bl (!todo.isEmpty)):=JC plT todo;rcases List.eq_nil_or_concat todo with rfl|⟨t1,p,rfl⟩
   .exact .inl hc
   .have hgl:=uT g.nd g.su;have hle:=g.le;rw[List.concat_eq_append]at *;rw[cP,rD]at e hle;obtain⟨gone',todo',s8',s9',s10',e1,g',e2⟩:=L9 (G:=G) H h hm (aB Z) (stT Z) X2 X3 X4 .no (here:=p) (gone:=gone) (todo:=t1) ⟨g.nd,g.su,by lia⟩ s8 s9 s10;refine .inr ⟨k-1,[.val (aB Z),.val (stT Z),.val X2,.val X3,.val X4,.own (gone'.map plT),.own (todo'.map plT),.val (plT p),s8',s9',s10',.no],by lia,hc.trans (by cases t1<;>rfl),?_,gone',todo',_,_,_,_,rfl,g',by lia⟩;have e3:evS G (.lpop 7 6) [.val (aB Z),.val (stT Z),.val X2,.val X3,.val X4,.own (gone.map plT),.own ((t1++[p]).map plT),s7,s8,s9,s10,.no]=some (.nx [.val (aB Z),.val (stT Z),.val X2,.val X3,.val X4,.own (gone.map plT),.own (t1.map plT),.val (plT p),s8,s9,s10,.no]):=by
     rw[evS];show(match((t1++[p]).map plT)[((t1++[p]).map plT).length-1]? with|some t=>_|none=>_)=_;have i1:((t1++[p]).map plT)[((t1++[p]).map plT).length-1]?=some (plT p):=by simp
     have i2:((t1++[p]).map plT).dropLast=t1.map plT:=by simp
     rw[i1,i2];rfl
    have er:aD G [.call "_law_links" [.w 0,.w 1,.c (.str "along")]] (aA [.val (aB Z),.val (stT Z),.val X2,.val X3,.val X4,.own (gone.map plT),.own (t1.map plT),.val (plT p),s8,s9,s10,.no])=some [.lst ((lks "along" Z).map Lk.t)]:=by simp only[evE,aD,aA,Sl.get,aY,aZ,aW,aV,aX,aO,cl]
    exact(bK e3).trans ((bK (dD (xs:=[.lst ((lks "along" Z).map Lk.t)]) rfl er (nH _) e1)).trans rfl))
 generalize hn:1000=N at key;obtain⟨k',τ',e,⟨gone',todo',s7,s8,s9,s10,rfl,_⟩,_⟩:=key N ((pls Z).length+todo.length-gone.length) _ ⟨gone,todo,.no,.no,.no,.no,rfl,g,by lia⟩ (by have:=g.le;lia);refine⟨gone',todo',s7,s8,s9,s10,?_⟩;rw[evS,hn];exact e
theorem M1{gone:List Pl}(s6 s7 s8 s9 s10:Sl):(∃s8' s9' s10',evS G (.loop [8,9,10] .plain [.call "_law_links" [.w 0,.w 1,.c (.str "stop")]] goS) [.val (aB Z),.val (stT Z),.val X2,.val X3,.val X4,.own (gone.map plT),s6,s7,s8,s9,s10,.no]=some (.nx [.val (aB Z),.val (stT Z),.val X2,.val X3,.val X4,.own (gone.map plT),s6,s7,s8',s9',s10',.no])) \/
  evS G (.loop [8,9,10] .plain [.call "_law_links" [.w 0,.w 1,.c (.str "stop")]] goS) [.val (aB Z),.val (stT Z),.val X2,.val X3,.val X4,.own (gone.map plT),s6,s7,s8,s9,s10,.no]=some (.rt (.int 5)):=by
 have er:aD G [.call "_law_links" [.w 0,.w 1,.c (.str "stop")]] (aA [.val (aB Z),.val (stT Z),.val X2,.val X3,.val X4,.own (gone.map plT),s6,s7,s8,s9,s10,.no])=some [.lst ((lks "stop" Z).map Lk.t)]:=by simp only[evE,aD,aA,Sl.get,aY,aZ,aW,aV,aX,aO,cl]
 rcases qV (enc:=Lk.t) (f:=fun x τ=>(bL [8,9,10] x τ).bind fun τ'=>aC G goS τ') (I:=fun τ=>∃s8 s9 s10:Sl,τ=[.val (aB Z),.val (stT Z),.val X2,.val X3,.val X4,.own (gone.map plT),s6,s7,s8,s9,s10,.no]) (V:=fun v=>v=.int 5) (lks "stop" Z) _ ⟨s8,s9,s10,rfl⟩ (fun l _ τ hI=>by
  obtain⟨s8,s9,s10,rfl⟩:=hI;obtain⟨b1,i1⟩:=JA l gone;have c1:evE G (.cmp .isin (.w 10) (.w 5)) (aA [.val (aB Z),.val (stT Z),.val X2,.val X3,.val X4,.val (.lst (gone.map plT)),s6,s7,.val (plT l.pl),.val (bD l.qa),.val l.gl,.no])=some (.bl b1):=by show(inC l.gl (.lst (gone.map plT))).map _=_;rw[i1];rfl
  have c2:evE G (.cmp .notin (.w 8) (.w 5)) (aA [.val (aB Z),.val (stT Z),.val X2,.val X3,.val X4,.val (.lst (gone.map plT)),s6,s7,.val (plT l.pl),.val (bD l.qa),.val l.gl,.no])=some (.bl (!(gone.any fun x=>decide (x=l.pl)))):=by show(inC (plT l.pl) (.lst (gone.map plT))).map _=_;rw[uR];rfl
  show(∃τ',aC G goS [.val (aB Z),.val (stT Z),.val X2,.val X3,.val X4,.own (gone.map plT),s6,s7,.val (plT l.pl),.val (bD l.qa),.val l.gl,.no]=some (.nx τ')/\_)\/∃v,aC G goS [.val (aB Z),.val (stT Z),.val X2,.val X3,.val X4,.own (gone.map plT),s6,s7,.val (plT l.pl),.val (bD l.qa),.val l.gl,.no]=some (.rt v)/\_;cases b1 with
  |false=>exact .inl ⟨_,(uQ (τ:=[.val (aB Z),.val (stT Z),.val X2,.val X3,.val X4,.own (gone.map plT),s6,s7,.val (plT l.pl),.val (bD l.qa),.val l.gl,.no]) (jY c1)).trans rfl,_,_,_,rfl⟩
  |true=>
   cases q:(gone.any fun x=>decide (x=l.pl))with
   |true=>exact .inl ⟨_,(uQ (τ:=[.val (aB Z),.val (stT Z),.val X2,.val X3,.val X4,.own (gone.map plT),s6,s7,.val (plT l.pl),.val (bD l.qa),.val l.gl,.no]) ((iU c1).trans (c2.trans (aP (fun b=>some (T.bl (!b))) q)))).trans rfl,_,_,_,rfl⟩
   |false=>exact .inr ⟨.int 5,IV (τ:=[.val (aB Z),.val (stT Z),.val X2,.val X3,.val X4,.own (gone.map plT),s6,s7,.val (plT l.pl),.val (bD l.qa),.val l.gl,.no]) ((iU c1).trans (c2.trans (aP (fun b=>some (T.bl (!b))) q))) (dG rfl),rfl⟩)with⟨τ',e,s8',s9',s10',rfl⟩|⟨v,e,rfl⟩
 .exact .inl ⟨s8',s9',s10',dD rfl er (nH _) e⟩
 .exact .inr (dD rfl er (nH _) e)
theorem M2(C:Cls G B Z){z:Zt}(hz:z∈Z)(k:List Kt):∃t,aC G oO.body [aB Z,stT Z,T.str z.1.nm,tkT k,.no,.no,.no,.no,.no,.no,.no,.no]=some (.rt t)/\Gng Z t:=by
 have ct:=C.tb _ (h.mem hz);have cr:=C.rw z hz;have hR:=(h.rw z hz).2.1;have hl:z.2.length<=16777216:=by have:=(h.rw z hz).1;lia
 refine(fun q=>by
  obtain⟨t,e,g⟩:=q;exact⟨t,(bC (t:=z.1.t) (τ':=[aB Z,stT Z,T.str z.1.nm,tkT k,z.1.t,.no,.no,.no,.no,.no,.no,.no]) rfl (by simp only[evE,aD,aA,Sl.get,aY,aZ,aW,aV,aX,aO,ct]) rfl).trans e,g⟩ :
  (∃t,aC G (oO.body.drop 1) [aB Z,stT Z,T.str z.1.nm,tkT k,z.1.t,.no,.no,.no,.no,.no,.no,.no]=some (.rt t)/\Gng Z t)->_) ?_
 have ec:evE G (.comp (.call "_law_key" [.w 5,.w 0]) 1 .plain [.call "_law_rows" [.w 0,.w 1,.w 2]] none) (aA [aB Z,stT Z,T.str z.1.nm,tkT k,z.1.t,.no,.no,.no,.no,.no,.no,.no])=some (.lst (z.2.map (kyT z.1))):=by
  rw[gF];have s1:aD G [.call "_law_rows" [.w 0,.w 1,.w 2]] (aA [aB Z,stT Z,T.str z.1.nm,tkT k,z.1.t,.no,.no,.no,.no,.no,.no,.no])=some [rwT z]:=by simp only[evE,aD,aA,Sl.get,aY,aZ,aW,aV,aX,aO,cr]
  have s2:bP .plain [rwT z]=some (z.2.map aE):=by unfold bP;rw[rwT,eK,bB,if_pos (by rw[bM];exact hl)]
  rw[s1,bB,s2,bB,gW (enc:=aE) (kyT z.1) fun ps hp=>by have:=C.ky _ (h.mem hz) ps (hR ps hp);simp only[bnd,if_true,aO,evE,aD,aA,Sl.get,aY,aZ,aW,aV,aX,this,cT]];rfl
 have hc:evE G (.cmp .notin (.w 3) (.comp (.call "_law_key" [.w 5,.w 0]) 1 .plain [.call "_law_rows" [.w 0,.w 1,.w 2]] none)) (aA [aB Z,stT Z,T.str z.1.nm,tkT k,z.1.t,.no,.no,.no,.no,.no,.no,.no])=some (.bl (!(z.2.any fun ps=>decide (bA z.1 ps=k)))):=by rw[evE,ec];show(inC (tkT k) (.lst (z.2.map (kyT z.1)))).map _=_;rw[uS];rfl
 cases q:(z.2.any fun ps=>decide (bA z.1 ps=k))with
 |false=>exact⟨.int 1,cV rfl (hc.trans (aP (fun b=>some (T.bl (!b))) q)) (dG rfl),.inl ⟨1,rfl⟩⟩
 |true=>
  have hmem:(z.1.nm,k)∈pls Z:=by obtain⟨ps,hps,e⟩:=List.any_eq_true.mp q;exact rC.mpr ⟨z,hz,fS.mpr ⟨ps,hps,by rw[of_decide_eq_true e]⟩⟩
  obtain⟨gone,todo,s7,s8,s9,s10,ew⟩:=M0 H h hm cl (.str z.1.nm) (tkT k) z.1.t (gone:=[(z.1.nm,k)]) (todo:=[(z.1.nm,k)]) ⟨by simp,fun p hp=>by rw[omg hp];exact hmem,Nat.le_refl _⟩;have pre:aC G (oO.body.drop 1) [aB Z,stT Z,T.str z.1.nm,tkT k,z.1.t,.no,.no,.no,.no,.no,.no,.no]=aC G (oO.body.drop 5) [aB Z,stT Z,T.str z.1.nm,tkT k,z.1.t,.own (gone.map plT),.own (todo.map plT),s7,s8,s9,s10,.no] :=
   (bJ rfl (hc.trans (aP (fun b=>some (T.bl (!b))) q))).trans ((bC (t:=.lst [plT (z.1.nm,k)]) (τ':=[aB Z,stT Z,T.str z.1.nm,tkT k,z.1.t,.own [plT (z.1.nm,k)],.no,.no,.no,.no,.no,.no]) rfl rfl rfl).trans ((bC (t:=.lst [plT (z.1.nm,k)]) (τ':=[aB Z,stT Z,T.str z.1.nm,tkT k,z.1.t,.own [plT (z.1.nm,k)],.own [plT (z.1.nm,k)],.no,.no,.no,.no,.no]) rfl rfl rfl).trans (bK ew)))
  rw[pre];rcases M1 H h hm cl (.str z.1.nm) (tkT k) z.1.t (gone:=gone) (.own (todo.map plT)) s7 s8 s9 s10 with⟨s8',s9',s10',es⟩|es
  .have eg:evE G (.comp (.w 0) 1 .plain [.call "_law_links" [.w 0,.w 1,.c (.str "gap")]] (some (.land (.cmp .isin (.idx (.w 0) (.c (.int 2))) (.w 6)) (.cmp .notin (.idx (.w 0) (.c (.int 0))) (.w 6))))) (aA [aB Z,stT Z,T.str z.1.nm,tkT k,z.1.t,T.lst (gone.map plT),.own (todo.map plT),s7,s8',s9',s10',.no])=some (.lst (((lks "gap" Z).filter fun l=>(inC l.gl (.lst (gone.map plT))==some true)&&!(gone.any fun x=>decide (x=l.pl))).map Lk.t)):=by
    refine uO (enc:=Lk.t) (R:=lks "gap" Z) (fun l=>(inC l.gl (.lst (gone.map plT))==some true)&&!(gone.any fun x=>decide (x=l.pl))) Lk.t (xs:=[.lst ((lks "gap" Z).map Lk.t)]) ?_ ?_ fun l hl=>?_
    .simp only[evE,aD,aA,Sl.get,aY,aZ,aW,aV,aX,aO,cl]
    .unfold bP;rw[nH,bB,if_pos (by rw[bM];have:=L4 H h "gap";have:=iV;lia)]
    .obtain⟨b1,i1⟩:=JA l gone;have g2:aK l.t (.int 2)=some l.gl:=by rw[Lk.t_eq,aK,fQ]
     have g0:aK l.t (.int 0)=some (plT l.pl):=by rw[Lk.t_eq,aK,cG]
     refine⟨_,rfl,?_,fun _=>rfl⟩;have c1:evE G (.cmp .isin (.idx (.w 0) (.c (.int 2))) (.w 6)) (some l.t::aA [aB Z,stT Z,T.str z.1.nm,tkT k,z.1.t,T.lst (gone.map plT),.own (todo.map plT),s7,s8',s9',s10',.no])=some (.bl b1):=by simp only[evE,aA,Sl.get,aY,aZ,aW,aV,aX,aO,g2,bF,i1,cT]
     have c2:evE G (.cmp .notin (.idx (.w 0) (.c (.int 0))) (.w 6)) (some l.t::aA [aB Z,stT Z,T.str z.1.nm,tkT k,z.1.t,T.lst (gone.map plT),.own (todo.map plT),s7,s8',s9',s10',.no])=some (.bl (!(gone.any fun x=>decide (x=l.pl)))):=by simp only[evE,aA,Sl.get,aY,aZ,aW,aV,aX,aO,g0,bF,uR,cT]
     rw[i1];cases b1 with
     |false=>exact jY c1
     |true=>exact(iU c1).trans c2
   refine⟨.tup [.lst (gone.map plT),.lst (((lks "gap" Z).filter fun l=>(inC l.gl (.lst (gone.map plT))==some true)&&!(gone.any fun x=>decide (x=l.pl))).map Lk.t)],(bK es).trans ((qK (τ0:=[aB Z,stT Z,T.str z.1.nm,tkT k,z.1.t,T.lst (gone.map plT),.own (todo.map plT),s7,s8',s9',s10',.no]) rfl eg rfl).trans (dG rfl)),.inr ⟨gone,_,rfl,fun l hl=>(oR.mp hl).1⟩⟩
  .exact⟨.int 5,dG es,.inl ⟨5,rfl⟩⟩
end
structure Cal(G:Glo)(B:List Tb)(m:Nat):Prop where
 cl:∀Z,Stn B m Z->Cls G B Z
 wi:∀b∈B,∀ps,RowOk b ps->∀(L:List (Str×T))(A:T),Prs b L->items .plain [A]=some (L.map prT)->∃qs,G.call "_law_with" [b.t,aE ps,A]=some (aE qs)/\RowOk b qs
 pu:∀Z,Stn B m Z->∀z∈Z,∀(R:List Row)(A:T),(∀ps∈R,RowOk z.1 ps)->R.length<=60->items .plain [A]=some (R.map aE)->∃R',G.call "_law_put" [aB Z,stT Z,.str z.1.nm,A]=some (stT (iT Z z.1.nm R'))/\R'.length<=R.length/\Rws z.1 R'
def drB:List S:=[.asg 7 (.tup [.idx (.w 4) (.c (.int 0)),.call "_law_key" [.w 4,.w 6]]),
  .loop [8,9,10] .plain [.w 3] drC,
  .asg 5 (.bin .add (.w 5) (.bin .mul (.lst [.w 6]) (.blt .toInt (.cmp .notin (.w 7) (.w 2)))))]
def drA:List S:=[.asg 5 (.lst []),
  .loop [6] .plain [.call "_law_rows" [.w 0,.w 1,.idx (.w 4) (.c (.int 0))]] drB,
  .asg 1 (.call "_law_put" [.w 0,.w 1,.idx (.w 4) (.c (.int 0)),.w 5])]
section
variable {G:Glo}{B:List Tb}{m:Nat}(H:Sch B)(C:Cal G B m)(hm:m<=60){gone:List Pl}{gaps:List Lk}(hg:∀l∈gaps,l.ok B "gap")
include H C hg
theorem dr_c(hb:b∈B)(hp:RowOk b ps)(k:List Kt)(X0 X1 X2:T)(s5 s8 s9 s10:Sl):∃qs s8' s9' s10',bU (fun x τ=>(bL [8,9,10] x τ).bind fun τ'=>aC G drC τ') (gaps.map Lk.t) [X0,X1,X2,T.lst (gaps.map Lk.t),b.t,s5,aE ps,plT (b.nm,k),s8,s9,s10]=some (.nx [X0,X1,X2,T.lst (gaps.map Lk.t),b.t,s5,aE qs,plT (b.nm,k),s8',s9',s10'])/\RowOk b qs:=by
 obtain⟨τ',el,qs,s8',s9',s10',rfl,hq⟩:=fR (enc:=Lk.t) (f:=fun x τ=>(bL [8,9,10] x τ).bind fun τ'=>aC G drC τ') (I:=fun _ τ=>∃(qs:Row)(s8 s9 s10:Sl),τ=[.val X0,.val X1,.val X2,.val (.lst (gaps.map Lk.t)),.val b.t,s5,.val (aE qs),.val (plT (b.nm,k)),s8,s9,s10]/\RowOk b qs) gaps [.val X0,.val X1,.val X2,.val (.lst (gaps.map Lk.t)),.val b.t,s5,.val (aE ps),.val (plT (b.nm,k)),s8,s9,s10] ⟨ps,_,_,_,rfl,hp⟩ fun l1 l l2 e τ hI=>by
  obtain⟨qs,s8,s9,s10,rfl,hq⟩:=hI;have hl:=hg l (by rw[e];simp);show ∃τ',aC G drC [X0,X1,X2,T.lst (gaps.map Lk.t),b.t,s5,aE qs,plT (b.nm,k),plT l.pl,bD l.qa,l.gl]=some (.nx τ')/\_;have c1:evE G (.cmp .eq (.w 8) (.w 7)) (aA [X0,X1,X2,T.lst (gaps.map Lk.t),b.t,s5,aE qs,plT (b.nm,k),plT l.pl,bD l.qa,l.gl])=some (.bl (decide (l.pl=(b.nm,k)))):=by show eqC (plT l.pl) (plT (b.nm,k))=_;unfold eqC;rw[IY,if_pos (by decide),IX]
  by_cases ep:l.pl=(b.nm,k)
  .have eb:l.b=b:=zU H.nd hl.b hb (aP Prod.fst ep);have hr:=hl.r;rw[eb]at hr;have hf:=(H.fit b hb _ hr).1;have hc4:l.qa.length<=4:=((H.ok b hb).rs _ hr).2.1;obtain⟨qs',cw,hq'⟩:=C.wi b hb qs hq (l.qa.map fun x=>(x,.non)) (.lst ((l.qa.map fun x=>(x,T.non)).map prT)) (fun p hp=>by obtain⟨x,hx,rfl⟩:=omm hp;obtain⟨c,hc,e1,e2⟩:=hf x hx;exact⟨c,hc,e1,.inl rfl,(fun z=>by rw[e2 rfl]at z;cases z),trivial⟩) rfl;have ec:evE G (.comp (.tup [.w 0,.c .non]) 1 .plain [.w 9] none) (aA [X0,X1,X2,T.lst (gaps.map Lk.t),b.t,s5,aE qs,plT (b.nm,k),plT l.pl,bD l.qa,l.gl])=some (.lst ((l.qa.map fun x=>(x,T.non)).map prT)):=by
    rw[gF];have s1:aD G [.w 9] (aA [X0,X1,X2,T.lst (gaps.map Lk.t),b.t,s5,aE qs,plT (b.nm,k),plT l.pl,bD l.qa,l.gl])=some [bD l.qa]:=rfl;have s2:bP .plain [bD l.qa]=some (l.qa.map T.str):=by unfold bP;rw[bD,eK,bB,if_pos (by rw[bM];have:=iV;lia)]
    rw[s1,bB,s2,bB,gW (enc:=T.str) (fun x=>prT (x,.non)) fun x _=>rfl,eG];rfl
   refine⟨_,(jG (τ:=[X0,X1,X2,T.lst (gaps.map Lk.t),b.t,s5,aE qs,plT (b.nm,k),plT l.pl,bD l.qa,l.gl]) rfl (c1.trans (by rw[dX ep])) ((bC (t:=aE qs') rfl (by
    rw[show evE G (.call "_law_with" [.w 4,.w 6,.comp (.tup [.w 0,.c .non]) 1 .plain [.w 9] none])=fun r=>(aD G [.w 4,.w 6,.comp (.tup [.w 0,.c .non]) 1 .plain [.w 9] none] r).bind fun xs=>G.call "_law_with" xs from funext fun r=>by rw[evE]];dsimp only;rw[show aD G [.w 4,.w 6,.comp (.tup [.w 0,.c .non]) 1 .plain [.w 9] none] (aA [X0,X1,X2,T.lst (gaps.map Lk.t),b.t,s5,aE qs,plT (b.nm,k),plT l.pl,bD l.qa,l.gl])=some [b.t,aE qs,.lst ((l.qa.map fun x=>(x,T.non)).map prT)] by simp only[aD,ec,aO];rfl];exact cw) rfl).trans rfl)).trans rfl,qs',_,_,_,rfl,hq'⟩
  .exact⟨_,(bJ (τ:=[X0,X1,X2,T.lst (gaps.map Lk.t),b.t,s5,aE qs,plT (b.nm,k),plT l.pl,bD l.qa,l.gl]) rfl (c1.trans (by rw[eN ep]))).trans rfl,qs,_,_,_,rfl,hq⟩
 exact⟨qs,s8',s9',s10',el,hq⟩
include hm
theorem dr_b(h:Stn B m Z)(hz:z∈Z)(X0 X1:T)(s6 s7 s8 s9 s10:Sl):∃(R:List Row)(s6' s7' s8' s9' s10':Sl),bU (fun x τ=>(bL [6] x τ).bind fun τ'=>aC G drB τ') (z.2.map aE) [X0,X1,T.lst (gone.map plT),T.lst (gaps.map Lk.t),z.1.t,.own [],s6,s7,s8,s9,s10]=some (.nx [X0,X1,T.lst (gone.map plT),T.lst (gaps.map Lk.t),z.1.t,.own (R.map aE),s6',s7',s8',s9',s10'])/\R.length<=z.2.length/\∀ps∈R,RowOk z.1 ps:=by
 have hb:=h.mem hz;have hlen:=(h.rw z hz).1;obtain⟨τ',el,R,s6',s7',s8',s9',s10',rfl,hR1,hR2⟩:=fR (enc:=aE) (f:=fun x τ=>(bL [6] x τ).bind fun τ'=>aC G drB τ') (I:=fun done τ=>∃(R:List Row)(s6 s7 s8 s9 s10:Sl),τ=[.val X0,.val X1,.val (.lst (gone.map plT)),.val (.lst (gaps.map Lk.t)),.val z.1.t,.own (R.map aE),s6,s7,s8,s9,s10]/\R.length<=done.length/\∀ps∈R,RowOk z.1 ps) z.2 [.val X0,.val X1,.val (.lst (gone.map plT)),.val (.lst (gaps.map Lk.t)),.val z.1.t,.own [],s6,s7,s8,s9,s10] ⟨[],_,_,_,_,_,rfl,Nat.le_refl _,fun _ h=>absurd h (by simp)⟩ fun l1 ps l2 e τ hI=>by
  obtain⟨R,s6,s7,s8,s9,s10,rfl,h1,h2⟩:=hI;have hp:=(h.rw z hz).2.1 ps (by rw[e];simp);have hl1:l1.length<=60:=by rw[e,cP]at hlen;lia
  have ck:=(C.cl Z h).ky _ hb ps hp;obtain⟨qs,s8',s9',s10',ec,hq⟩:=dr_c H C hg hb hp (bA z.1 ps) X0 X1 (.lst (gone.map plT)) (.own (R.map aE)) s8 s9 s10;have e7:evE G (.tup [.idx (.w 4) (.c (.int 0)),.call "_law_key" [.w 4,.w 6]]) (aA [X0,X1,T.lst (gone.map plT),T.lst (gaps.map Lk.t),z.1.t,.own (R.map aE),aE ps,s7,s8,s9,s10])=some (plT (z.1.nm,bA z.1 ps)):=by simp only[evE,aD,aA,Sl.get,aY,aZ,aW,aV,aX,aO,t0,ck,List.length_cons,List.length_nil,Nat.zero_add,Nat.reduceAdd,Nat.reduceLeDiff,if_true,cT];rfl
  have e5:evE G (.bin .add (.w 5) (.bin .mul (.lst [.w 6]) (.blt .toInt (.cmp .notin (.w 7) (.w 2))))) (aA [X0,X1,T.lst (gone.map plT),T.lst (gaps.map Lk.t),z.1.t,T.lst (R.map aE),aE qs,plT (z.1.nm,bA z.1 ps),s8',s9',s10'])=some (.lst ((R++(if(gone.any fun x=>decide (x=(z.1.nm,bA z.1 ps)))then[]else[qs])).map aE)):=by
   have c1:evE G (.cmp .notin (.w 7) (.w 2)) (aA [X0,X1,T.lst (gone.map plT),T.lst (gaps.map Lk.t),z.1.t,T.lst (R.map aE),aE qs,plT (z.1.nm,bA z.1 ps),s8',s9',s10'])=some (.bl (!(gone.any fun x=>decide (x=(z.1.nm,bA z.1 ps))))):=by show(inC (plT _) (.lst (gone.map plT))).map _=_;rw[uR];rfl
   have hz:R.length+1<=SZ:=by have:=iV;lia
   have hz0:R.length<=SZ:=by lia
   rw[iS,iS,gV,c1];cases(gone.any fun x=>decide (x=(z.1.nm,bA z.1 ps)))with
   |true=>show cC (.lst (R.map aE)) (.lst [])=_;simp only[cC];rw[if_pos (by rw[bM,List.length_nil];exact hz0)];simp
   |false=>show cC (.lst (R.map aE)) (.lst [aE qs])=_;simp only[cC];rw[if_pos (by rw[bM];exact hz)];simp
  refine⟨_,((bC (τ:=[X0,X1,T.lst (gone.map plT),T.lst (gaps.map Lk.t),z.1.t,.own (R.map aE),aE ps,s7,s8,s9,s10]) rfl e7 rfl).trans ((bK (dD (xs:=[.lst (gaps.map Lk.t)]) rfl rfl (nH _) ec)).trans (qK rfl e5 rfl))).trans rfl,_,_,_,_,_,_,rfl,?_,fun q hq'=>?_⟩
  .rw[cP,cP,rD];split<;>simp<;>lia
  .rcases oma hq' with hq'|hq'
   .exact h2 q hq'
   .split at hq'
    .cases hq'
    .rw[omg hq'];exact hq
 exact⟨R,s6',s7',s8',s9',s10',el,hR1,hR2⟩
theorem M3(h:Stn B m Z):∃Z',aC G zH.body [aB Z,stT Z,T.lst (gone.map plT),T.lst (gaps.map Lk.t),.no,.no,.no,.no,.no,.no,.no]=some (.rt (stT Z'))/\Stn B m Z':=by
 have hS:∀{Y:List Zt},Stn B m Y->aB Y=aB Z:=fun hY=>hY.sch.trans h.sch.symm;obtain⟨τ',el,Y,s4,s5,s6,s7,s8,s9,s10,rfl,hY⟩:=fR (enc:=Tb.t) (f:=fun x τ=>(bL [4] x τ).bind fun τ'=>aC G drA τ') (I:=fun _ τ=>∃(Y:List Zt)(s4 s5 s6 s7 s8 s9 s10:Sl),τ=[.val (aB Z),.val (stT Y),.val (.lst (gone.map plT)),.val (.lst (gaps.map Lk.t)),s4,s5,s6,s7,s8,s9,s10]/\Stn B m Y) B [.val (aB Z),.val (stT Z),.val (.lst (gone.map plT)),.val (.lst (gaps.map Lk.t)),.no,.no,.no,.no,.no,.no,.no] ⟨Z,_,_,_,_,_,_,_,rfl,h⟩ fun l1 b l2 e τ hI=>by
  obtain⟨Y,s4,s5,s6,s7,s8,s9,s10,rfl,hY⟩:=hI;have hb:b∈B:=by rw[e];simp
  obtain⟨R0,hz⟩:=hY.of hb;have cr:=(C.cl Y hY).rw _ hz;rw[hS hY]at cr;obtain⟨R,s6',s7',s8',s9',s10',eb,hR1,hR2⟩:=dr_b (gone:=gone) H C hm hg hY hz (aB Z) (stT Y) s6 s7 s8 s9 s10;have hl:=(hY.rw _ hz).1;obtain⟨R',cp,hR3,hR4⟩:=C.pu Y hY _ hz R (.lst (R.map aE)) hR2 (by lia) (nH _);rw[hS hY]at cp;have er:aD G [.call "_law_rows" [.w 0,.w 1,.idx (.w 4) (.c (.int 0))]] (aA [aB Z,stT Y,T.lst (gone.map plT),T.lst (gaps.map Lk.t),b.t,.own [],s6,s7,s8,s9,s10])=some [rwT (b,R0)]:=by simp only[evE,aD,aA,Sl.get,aY,aZ,aW,aV,aX,aO,t0,cr]
  have e1:evE G (.call "_law_put" [.w 0,.w 1,.idx (.w 4) (.c (.int 0)),.w 5]) (aA [aB Z,stT Y,T.lst (gone.map plT),T.lst (gaps.map Lk.t),b.t,T.lst (R.map aE),s6',s7',s8',s9',s10'])=some (stT (iT Y b.nm R')):=by simp only[evE,aD,aA,Sl.get,aY,aZ,aW,aV,aX,aO,t0,cp]
  refine⟨[aB Z,stT (iT Y b.nm R'),T.lst (gone.map plT),T.lst (gaps.map Lk.t),b.t,T.lst (R.map aE),s6',s7',s8',s9',s10'],?_,iT Y b.nm R',_,_,_,_,_,_,_,rfl,?_⟩
  .show aC G drA [aB Z,stT Y,T.lst (gone.map plT),T.lst (gaps.map Lk.t),b.t,s5,s6,s7,s8,s9,s10]=_;exact(bC (t:=.lst []) (τ':=[aB Z,stT Y,T.lst (gone.map plT),T.lst (gaps.map Lk.t),b.t,.own [],s6,s7,s8,s9,s10]) rfl rfl rfl).trans ((bK (dD (xs:=[rwT (b,R0)]) rfl er (eK _) eb)).trans ((qK (τ0:=[aB Z,stT Y,T.lst (gone.map plT),T.lst (gaps.map Lk.t),b.t,T.lst (R.map aE),s6',s7',s8',s9',s10']) rfl e1 rfl).trans rfl))
  exact IL hY H.nd hb (bH _) (dY hR3 (dY hR1 hl)) hR4
 refine⟨Y,?_,hY⟩;have hi:items .plain [aB Z]=some (B.map Tb.t):=by rw[h.sch];rfl
 exact(bK (dD (xs:=[aB Z]) rfl rfl hi el)).trans (dG rfl)
end
inductive Dd where
 |add (b:Tb) (ps:Row)|drp (b:Tb) (k:List Kt)|set (b:Tb) (k:List Kt) (L:List (Str×T))
noncomputable def Dd.b:Dd->Tb
 |.add b _=>b
 |.drp b _=>b
 |.set b _ _=>b
def Dd.t:Dd->T
 |.add b ps=>.tup [.str "add",.str b.nm,aE ps]
 |.drp b k=>.tup [.str "drop",.str b.nm,tkT k]
 |.set b k L=>.tup [.str "set",.str b.nm,tkT k,.tup (L.map prT)]
def kS(k:List Kt):Prop:=k.length<=2/\∀x∈k,Sml (kT x)
theorem M4(hb:b.ok)(hp:RowOk b ps):kS (bA b ps):=by
 refine⟨by unfold bA;rw[bM];exact hb.k1,fun x hx=>?_⟩;obtain⟨y,hy,rfl⟩:=omm hx;obtain⟨c,hc,e⟩:=hb.inn y hy;obtain⟨p,hp1,hp2⟩:=hp.col hc;have v1:val ps y=p.2:=by rw[<-e,<-hp2];exact gG hp1 (hp.nd hb)
 show Sml (kT (kk (val ps y)));rw[v1,(uN (hp.wk p hp1)).2];exact hp.sm p hp1
structure Dd.ok(B:List Tb)(d:Dd):Prop where
 b:d.b∈B
 p:match d with
  |.add b ps=>RowOk b ps
  |.drp _ k=>kS k
  |.set b k L=>kS k/\Prs b L/\L.length<=4
theorem JD(k:List Kt):∀{b:Tb}{R:List Row},(R.any fun ps=>decide (bA b ps=k))=true->∃j:Nat,hG (tkT k) (R.map (kyT b))=some j/\j<R.length
 |b,[],h=>by cases h
 |b,ps::R,h=>by
  rw[bE,hG];by_cases e:bA b ps=k
  .exact⟨0,by rw[if_pos (by show eqT (tkT _) (tkT k)=true;rw[mC];exact decide_eq_true e)],by simp⟩
  .rw[iJ,eN e,Bool.false_or]at h;obtain⟨j,h1,h2⟩:=JD k h;refine⟨j+1,?_,by simpa using h2⟩;rw[if_neg (by show ¬eqT (tkT _) (tkT k)=true;rw[mC];simpa using e),h1];rfl
theorem M5(b:Tb)(R:List Row)(k:List Kt)(h:hG (tkT k) (R.map (kyT b))=some j):dZ .index (.lst (R.map (kyT b))) (tkT k)=some (.int (j:Int)):=by
 simp only[dZ];rw[if_pos,h]
 .rfl
 .rw[Bool.or_eq_true];right;unfold dpI;rw[List.all_map];exact iX.mpr fun ps _=>dX (by show dpP (tkT _) (tkT k)<=30;rw[jW];decide)
def Tld(B:List Tb)(m:Nat)(t:T):Prop:=(∃i:Int,t=.int i)\/∃Z,t=stT Z/\Stn B m Z
structure Cal2(G:Glo)(B:List Tb)(m:Nat):Prop extends Cal G B m where
 go:∀Z,Stn B m Z->∀z∈Z,∀k:List Kt,∃t,G.call "_law_going" [aB Z,stT Z,.str z.1.nm,tkT k]=some t/\Gng Z t
 dr:∀Z,Stn B m Z->∀(gone:List Pl)(gaps:List Lk),(∀l∈gaps,l.ok B "gap")->∃Z',G.call "_law_dropped" [aB Z,stT Z,.lst (gone.map plT),.lst (gaps.map Lk.t)]=some (stT Z')/\Stn B m Z'
theorem dd_1(d:Dd):aK d.t (.int 1)=some (.str d.b.nm):=by cases d<;>rw[Dd.t,aK,cH]<;>rfl
theorem M6:(("add":Str)=="add")=true/\(("drop":Str)=="add")=false/\(("set":Str)=="add")=false/\(("drop":Str)=="drop")=true/\(("set":Str)=="drop")=false:=by decide +kernel
section
variable {G:Glo}{B:List Tb}{m:Nat}(H:Sch B)(C:Cal2 G B m)(hm:m<=50){Z:List Zt}(h:Stn B m Z)
include H C hm h
theorem M7{d:Dd}(hd:d.ok B):∃t,aC G qP.body [aB Z,stT Z,d.t,.no,.no,.no,.no,.no,.no]=some (.rt t)/\Tld B (m+1) t:=by
 obtain⟨R,hz⟩:=h.of hd.b;have hb:=hd.b;have c:=C.cl Z h;have ct:=c.tb _ hb;have cr:=c.rw _ hz;have hR:=(h.rw _ hz).2.1;have hl:R.length<=m:=(h.rw _ hz).1;have hsz:=iV;have e6:evE G (.comp (.call "_law_key" [.w 5,.w 0]) 1 .plain [.w 5] none) (aA [aB Z,stT Z,d.t,T.str d.b.nm,d.b.t,rwT (d.b,R),.no,.no,.no])=some (.lst (R.map (kyT d.b))):=by
  rw[gF];have s1:aD G [.w 5] (aA [aB Z,stT Z,d.t,T.str d.b.nm,d.b.t,rwT (d.b,R),.no,.no,.no])=some [rwT (d.b,R)]:=rfl;have s2:bP .plain [rwT (d.b,R)]=some (R.map aE):=by unfold bP;rw[rwT,eK,bB,if_pos (by rw[bM];show R.length<=SZ;lia)]
  rw[s1,bB,s2,bB,gW (enc:=aE) (kyT d.b) fun ps hp=>by have:=c.ky _ hb ps (hR ps hp);simp only[bnd,if_true,aO,evE,aD,aA,Sl.get,aY,aZ,aW,aV,aX,this,cT]];rfl
 have pre:aC G qP.body [aB Z,stT Z,d.t,.no,.no,.no,.no,.no,.no]=aC G (qP.body.drop 4) [aB Z,stT Z,d.t,T.str d.b.nm,d.b.t,rwT (d.b,R),T.lst (R.map (kyT d.b)),.no,.no] :=
  (bC (t:=.str d.b.nm) (τ':=[aB Z,stT Z,d.t,T.str d.b.nm,.no,.no,.no,.no,.no]) rfl (by simp only[evE,aA,Sl.get,aY,aZ,aW,aV,aX,aO,dd_1]) rfl).trans
   ((bC (t:=d.b.t) (τ':=[aB Z,stT Z,d.t,T.str d.b.nm,d.b.t,.no,.no,.no,.no]) rfl (by simp only[evE,aD,aA,Sl.get,aY,aZ,aW,aV,aX,aO,ct]) rfl).trans
    ((bC (t:=rwT (d.b,R)) (τ':=[aB Z,stT Z,d.t,T.str d.b.nm,d.b.t,rwT (d.b,R),.no,.no,.no]) rfl (by simp only[evE,aD,aA,Sl.get,aY,aZ,aW,aV,aX,aO,cr]) rfl).trans (bC rfl e6 rfl)))
 rw[pre];have put:∀(R1:List Row)(A:T),(∀ps∈R1,RowOk d.b ps)->R1.length<=m+1->items .plain [A]=some (R1.map aE)->∃t,G.call "_law_put" [aB Z,stT Z,.str d.b.nm,A]=some t/\Tld B (m+1) t:=fun R1 A h1 h2 h3=>by obtain⟨R',e,h4,h5⟩:=C.pu Z h _ hz R1 A h1 (by lia) h3;exact⟨_,e,.inr ⟨_,rfl,IL h H.nd hb (by lia) (by lia) h5⟩⟩
 have w0:∀(x w:Str)(b:Bool),aK d.t (.int 0)=some (.str x)->(x==w)=b->∀s7 s8:Sl,evE G (.cmp .eq (.idx (.w 2) (.c (.int 0))) (.c (.str w))) (aA [aB Z,stT Z,d.t,T.str d.b.nm,d.b.t,rwT (d.b,R),T.lst (R.map (kyT d.b)),s7,s8])=some (.bl b):=fun x w b i e s7 s8=>by rw[<-e];simp only[evE,aA,Sl.get,aY,aZ,aW,aV,aX,aO,i,bF,eqs]
 obtain⟨n1,n2,n3,n4,n5⟩:=M6;cases d with
 |add b ps=>
  have hp:RowOk b ps:=hd.p;have i0:aK (Dd.add b ps).t (.int 0)=some (.str "add"):=by rw[Dd.t,aK,cG]
  have i2:aK (Dd.add b ps).t (.int 2)=some (aE ps):=by rw[Dd.t,aK,fQ]
  have ck:=c.ky b hb ps hp;have c1:evE G (.cmp .isin (.call "_law_key" [.w 4,.idx (.w 2) (.c (.int 2))]) (.w 6)) (aA [aB Z,stT Z,(Dd.add b ps).t,T.str b.nm,b.t,rwT (b,R),T.lst (R.map (kyT b)),.no,.no])=some (.bl (R.any fun q=>decide (bA b q=bA b ps))):=by simp only[evE,aD,aA,Sl.get,aY,aZ,aW,aV,aX,aO,i2,ck,bF];rw[kyT,uS];rfl
  cases q:(R.any fun q=>decide (bA b q=bA b ps))with
  |true=>exact⟨.int 2,cV rfl (w0 "add" "add" true i0 n1 .no .no) (cV rfl (c1.trans (aP (fun b=>some (T.bl b)) q)) (dG rfl)),.inl ⟨2,rfl⟩⟩
  |false=>
   obtain⟨t,e,ht⟩:=put (R++[ps]) (.lst ((R++[ps]).map aE)) (fun q hq=>by
    rcases oma hq with hq|hq
    .exact hR q hq
    .rw[omg hq];exact hp) (by simp;exact hl) (nH _)
   refine⟨t,cV rfl (w0 "add" "add" true i0 n1 .no .no) ((bJ rfl (c1.trans (aP (fun b=>some (T.bl b)) q))).trans (bY rfl ?_)),ht⟩;have ea:evE G (.bin .add (.blt .toList (.w 5)) (.lst [.idx (.w 2) (.c (.int 2))])) (aA [aB Z,stT Z,(Dd.add b ps).t,T.str b.nm,b.t,rwT (b,R),T.lst (R.map (kyT b)),.no,.no])=some (.lst ((R++[ps]).map aE)):=by rw[iS];simp only[evE,aD,aA,Sl.get,aY,aZ,aW,aV,aX,aO,i2,List.length_cons,List.length_nil,Nat.zero_add,Nat.reduceLeDiff,if_true,cT];show cC (.lst (R.map aE)) (.lst [aE ps])=_;simp only[cC];rw[if_pos (by rw[bM];show R.length+1<=SZ;lia),gY];rfl
   rw[evE];simp only[aD,ea,aO];exact e
 |drp b k=>
  have i0:aK (Dd.drp b k).t (.int 0)=some (.str "drop"):=by rw[Dd.t,aK,cG]
  have i2:aK (Dd.drp b k).t (.int 2)=some (tkT k):=by rw[Dd.t,aK,fQ]
  obtain⟨t,eg,hg⟩:=C.go Z h _ hz k;have e7:evE G (.call "_law_going" [.w 0,.w 1,.w 3,.idx (.w 2) (.c (.int 2))]) (aA [aB Z,stT Z,(Dd.drp b k).t,T.str b.nm,b.t,rwT (b,R),T.lst (R.map (kyT b)),.no,.no])=some t:=by simp only[evE,aD,aA,Sl.get,aY,aZ,aW,aV,aX,aO,i2];exact eg
  rcases hg with⟨i,rfl⟩|⟨gone,gaps,rfl,hgp⟩
  .exact⟨.int i,(bJ rfl (w0 "drop" "add" false i0 n2 .no .no)).trans (cV rfl (w0 "drop" "drop" true i0 n4 .no .no) ((bC rfl e7 rfl).trans (cV rfl rfl (dG rfl)))),.inl ⟨i,rfl⟩⟩
  .obtain⟨Z',ed,hZ'⟩:=C.dr Z h gone gaps fun l hl=>(IQ h (hgp l hl)).1;refine⟨stT Z',(bJ rfl (w0 "drop" "add" false i0 n2 .no .no)).trans (cV rfl (w0 "drop" "drop" true i0 n4 .no .no) ((bC rfl e7 rfl).trans ((bJ rfl rfl).trans (bY rfl ?_)))),.inr ⟨Z',rfl,hZ'.up (by lia)⟩⟩;simp only[evE,aD,aA,Sl.get,dO,fresh,rF,rG,aY,aZ,aW,aV,aX,aO,aK,cG,cH];exact ed
 |set b k L=>
  have hL:Prs b L:=hd.p.2.1;have i0:aK (Dd.set b k L).t (.int 0)=some (.str "set"):=by rw[Dd.t,aK,cG]
  have i2:aK (Dd.set b k L).t (.int 2)=some (tkT k):=by rw[Dd.t,aK,fQ]
  have i3:aK (Dd.set b k L).t (.int 3)=some (.tup (L.map prT)):=by rw[Dd.t,aK,yG]
  have c1:evE G (.cmp .notin (.idx (.w 2) (.c (.int 2))) (.w 6)) (aA [aB Z,stT Z,(Dd.set b k L).t,T.str b.nm,b.t,rwT (b,R),T.lst (R.map (kyT b)),.no,.no])=some (.bl (!(R.any fun q=>decide (bA b q=k)))):=by simp only[evE,aA,Sl.get,aY,aZ,aW,aV,aX,aO,i2,bF];rw[uS];rfl
  cases q:(R.any fun q=>decide (bA b q=k))with
  |false=>exact⟨.int 1,(bJ rfl (w0 "set" "add" false i0 n3 .no .no)).trans ((bJ rfl (w0 "set" "drop" false i0 n5 .no .no)).trans (cV rfl (c1.trans (aP (fun b=>some (T.bl (!b))) q)) (dG rfl))),.inl ⟨1,rfl⟩⟩
  |true=>
   obtain⟨j,hj,hjl⟩:=JD k q;have e8:evE G (.mth .index (.w 6) (.idx (.w 2) (.c (.int 2)))) (aA [aB Z,stT Z,(Dd.set b k L).t,T.str b.nm,b.t,rwT (b,R),T.lst (R.map (kyT b)),.no,.no])=some (.int (j:Int)):=by simp only[evE,aA,Sl.get,aY,aZ,aW,aV,aX,aO,i2];exact M5 b R k hj
   have hps:R[j]?=some R[j]:=dM hjl;obtain⟨qs,ew,hq⟩:=C.wi b hb R[j] (hR _ (kA hjl)) L (.tup (L.map prT)) hL (eK _);obtain⟨t,e,ht⟩:=put (R.take j++[qs]++R.drop (j+1)) (.tup ((R.take j++[qs]++R.drop (j+1)).map aE)) (fun p hp=>by
    rcases oma hp with hp|hp
    .rcases oma hp with hp|hp
     .exact hR p (kB hp)
     .rw[omg hp];exact hq
    .exact hR p (List.mem_of_mem_drop hp)) (by simp;lia) (eK _)
   refine⟨t,(bJ rfl (w0 "set" "add" false i0 n3 .no .no)).trans ((bJ rfl (w0 "set" "drop" false i0 n5 .no .no)).trans ((bJ rfl (c1.trans (aP (fun b=>some (T.bl (!b))) q))).trans ((bC (τ':=[aB Z,stT Z,(Dd.set b k L).t,T.str b.nm,b.t,rwT (b,R),T.lst (R.map (kyT b)),.no,T.int (j:Int)]) rfl e8 rfl).trans (bY rfl ?_)))),ht⟩;have gx:cJ (R.map aE) (j:Int)=some (aE R[j]):=jC (by rw[iK,hps];rfl);have ec:evE G (.call "_law_with" [.w 4,.idx (.w 5) (.w 8),.idx (.w 2) (.c (.int 3))]) (aA [aB Z,stT Z,(Dd.set b k L).t,T.str b.nm,b.t,rwT (b,R),T.lst (R.map (kyT b)),.no,T.int (j:Int)])=some (aE qs):=by have gx':aK (rwT (b,R)) (.int (j:Int))=some (aE R[j]):=gx;simp only[evE,aD,aA,Sl.get,aY,aZ,aW,aV,aX,aO,i3,gx'];exact ew
   have ea:evE G (.bin .add (.bin .add (.sli (.w 5) none (some (.w 8))) (.tup [.call "_law_with" [.w 4,.idx (.w 5) (.w 8),.idx (.w 2) (.c (.int 3))]])) (.sli (.w 5) (some (.bin .add (.w 8) (.c (.int 1)))) none)) (aA [aB Z,stT Z,(Dd.set b k L).t,T.str b.nm,b.t,rwT (b,R),T.lst (R.map (kyT b)),.no,T.int (j:Int)])=some (.tup ((R.take j++[qs]++R.drop (j+1)).map aE)):=by
    have x1:evE G (.sli (.w 5) none (some (.w 8))) (aA [aB Z,stT Z,(Dd.set b k L).t,T.str b.nm,b.t,rwT (b,R),T.lst (R.map (kyT b)),.no,T.int (j:Int)])=some (.tup ((R.take j).map aE)):=by show some (T.tup (cut (R.map aE) none (some (j:Int))))=_;rw[uA _ _ (by rw[bM];lia),List.map_take]
    have x2:evE G (.sli (.w 5) (some (.bin .add (.w 8) (.c (.int 1)))) none) (aA [aB Z,stT Z,(Dd.set b k L).t,T.str b.nm,b.t,rwT (b,R),T.lst (R.map (kyT b)),.no,T.int (j:Int)])=some (.tup ((R.drop (j+1)).map aE)):=by show some (T.tup (cut (R.map aE) (some (((j+1:Nat):Int))) none))=_;rw[tZ _ _ (by rw[bM];lia),List.map_drop]
    have x3:evE G (.tup [.call "_law_with" [.w 4,.idx (.w 5) (.w 8),.idx (.w 2) (.c (.int 3))]]) (aA [aB Z,stT Z,(Dd.set b k L).t,T.str b.nm,b.t,rwT (b,R),T.lst (R.map (kyT b)),.no,T.int (j:Int)])=some (.tup [aE qs]):=by rw[evE];simp only[aD,ec,aO,List.length_cons,List.length_nil,Nat.zero_add,Nat.reduceLeDiff,if_true,cT]
    rw[iS,iS,x1,x2,x3];show(cC (.tup ((R.take j).map aE)) (.tup [aE qs])).bind (fun x=>cC x (.tup ((R.drop (j+1)).map aE)))=_;simp only[cC];rw[if_pos (by simp;lia),Option.bind_some];simp only[];rw[if_pos (by simp;lia)];simp
   rw[evE];simp only[aD,ea,aO];exact e
end
theorem JE(qa:List Str):∀R:List Row,fG (R.map aE) (R.map (woT qa))=R.map fun ps=>.tup [aE ps,woT qa ps]
 |[]=>rfl
 |ps::R=>by rw[bE,bE,bE,fG,JE qa R]
theorem M8(qa:List Str)(ps:Row):bF .notN (woT qa ps) .non=some (.bl (!jX (wK qa ps))):=by unfold woT;cases jX (wK qa ps)<;>rfl
theorem M9(qa:List Str)(R:List Row)(ps:Row):dpI (woT qa ps) (R.map (woT qa))=true:=by unfold dpI;rw[List.all_map];refine iX.mpr fun q _=>dX ?_;show dpP (woT qa q) (woT qa ps)<=30;unfold woT;split<;>split<;>first|(rw[jW];decide)|exact dQ _
theorem N0(r:Rl)(h:∀t,r≠.chk t):∃qa,aK r.t (.int 1)=some (bD qa)/\(r=.unl qa\/∃g w,r=.ref qa g w):=by
 cases r with
 |ref cs t w=>exact⟨cs,rf1 cs t w,.inr ⟨t,w,rfl⟩⟩
 |unl cs=>exact⟨cs,by rw[Rl.t,aK,cH],.inl rfl⟩
 |chk t=>exact absurd rfl (h t)
noncomputable def uU:Rl->Bool
 |.chk _=>true
 |_=>false
theorem r0c(r:Rl):∃w:Str,aK r.t (.int 0)=some (.str w)/\(w==("check":Str))=uU r/\(w==("refers":Str))=zV r:=by
 cases r with
 |ref cs t w=>exact⟨"refers",by rw[Rl.t,aK,cG],show(("refers":Str)=="check")=false by decide +kernel,show(("refers":Str)=="refers")=true by decide +kernel⟩
 |unl cs=>exact⟨"unlike",by rw[Rl.t,aK,cG],show(("unlike":Str)=="check")=false by decide +kernel,show(("unlike":Str)=="refers")=false by decide +kernel⟩
 |chk t=>exact⟨"check",by rw[Rl.t,aK,cG],show(("check":Str)=="check")=true by decide +kernel,show(("check":Str)=="refers")=false by decide +kernel⟩
section
variable {G:Glo}{B:List Tb}{m:Nat}(H:Sch B){Z:List Zt}(h:Stn B m Z)(C:Cls G B Z)(hm:m<=60)
include H h C hm
theorem JF(hz:(b,R)∈Z)(i:Nat)(he:aD G [e] ρ=some [rwT (b,R)])(hi:((ρ)[i]?).join=some b.t):evE G (.comp (.call "_law_key" [.w (i+1),.w 0]) 1 .plain [e] none) ρ=some (.lst (R.map (kyT b))):=by
 rw[gF,he,bB];have hl:R.length<=m:=(h.rw _ hz).1;have s2:bP .plain [rwT (b,R)]=some (R.map aE):=by unfold bP;rw[rwT,eK,bB,if_pos (by rw[bM];show R.length<=SZ;have:=iV;lia)]
 rw[s2,bB,gW (enc:=aE) (kyT b) fun ps hp=>by
  have:=C.ky _ (h.mem hz) ps ((h.rw _ hz).2.1 ps hp);have hv:evE G (.w (i+1)) (some (aE ps)::ρ)=some b.t:=by rw[evE,JY];exact hi
  have h0:evE G (.w 0) (some (aE ps)::ρ)=some (aE ps):=by rw[evE];rfl
  rw[show bnd 1 (aE ps) ρ=some (aE ps)::ρ from rfl,bB,evE];simp only[aD,hv,h0,aO,this,cT]]
 rfl
theorem N1(hz:(b,R)∈Z)(hr:r∈b.rs)(lv:∀t:Tst,r=.chk t->∀ps,RowOk b ps->∃i:Int,G.call "_law_level" [b.t,t.t,aE ps]=some (.int i)):∃L,aC G qO.body [aB Z,stT Z,b.t,r.t,.no,.no,.no,.no,.no,.no,.no]=some (.rt (.lst L)):=by
 have hb:=h.mem hz;have hbo:=H.ok _ hb;have hl:R.length<=m:=(h.rw _ hz).1;have hR:∀ps∈R,RowOk b ps:=(h.rw _ hz).2.1;have hsz:=iV;have cr:=C.rw _ hz;have hfit:=H.fit b hb r hr;have hok:=hbo.rs r hr;obtain⟨w0,i0,hw1,hw2⟩:=r0c r;have pre:aC G qO.body [aB Z,stT Z,b.t,r.t,.no,.no,.no,.no,.no,.no,.no]=aC G (qO.body.drop 1) [aB Z,stT Z,b.t,r.t,rwT (b,R),.no,.no,.no,.no,.no,.no] :=
  bC (t:=rwT (b,R)) rfl (by simp only[evE,aD,aA,Sl.get,aY,aZ,aW,aV,aX,aO,t0];exact cr) rfl
 rw[pre];have c1:evE G (.cmp .eq (.idx (.w 3) (.c (.int 0))) (.c (.str "check"))) (aA [aB Z,stT Z,b.t,r.t,rwT (b,R),.no,.no,.no,.no,.no,.no])=some (.bl (uU r)):=by rw[<-hw1];simp only[evE,aA,Sl.get,aY,aZ,aW,aV,aX,aO,i0,bF,eqs]
 by_cases hc:∃t,r=.chk t
 .obtain⟨t,rfl⟩:=hc;have i1:aK (Rl.chk t).t (.int 1)=some t.t:=by rw[Rl.t,aK,cH]
  have ev:∀ps,∃i:Int,RowOk b ps->G.call "_law_level" [b.t,t.t,aE ps]=some (.int i):=fun ps=>by
   by_cases hp:RowOk b ps
   .obtain⟨i,e⟩:=lv t rfl ps hp;exact⟨i,fun _=>e⟩
   .exact⟨0,fun z=>absurd z hp⟩
  obtain⟨f,hf⟩:=Classical.axiomOfChoice ev;refine⟨_,cV rfl c1 (bY rfl (uO (enc:=aE) (R:=R) (fun ps=>f ps==0) (kyT b) (xs:=[rwT (b,R)]) rfl (by unfold bP;rw[rwT,eK,bB,if_pos (by rw[bM];show R.length<=SZ;lia)]) fun ps hp=>?_))⟩;have hp:=hR ps hp;have ck:=C.ky b hb ps hp;have cl:=hf ps hp;refine⟨_,rfl,?_,fun _=>?_⟩
  .simp only[evE,aD,aA,Sl.get,aY,aZ,aW,aV,aX,aO,i1,cl];rfl
  .simp only[evE,aD,aA,Sl.get,aY,aZ,aW,aV,aX,aO,ck]
 .obtain⟨qa,i1,hcase⟩:=N0 r fun t e=>hc ⟨t,e⟩;have hck:uU r=false:=by rcases hcase with rfl|⟨g,w,rfl⟩<;>rfl
  rw[hck]at c1;have hcols:∀x∈qa,∃c∈b.cs,c.n=x:=by
   rcases hcase with rfl|⟨g,w,rfl⟩
   .exact hfit
   .exact IU hfit
  have hc4:qa.length<=4:=by
   rcases hcase with rfl|⟨g,w,rfl⟩
   .exact hok.2
   .exact hok.2.1
  have e7:evE G (.comp (.call "_law_worths" [.w 3,.w 0,.idx (.w 4) (.c (.int 1))]) 1 .plain [.w 4] none) (aA [aB Z,stT Z,b.t,r.t,rwT (b,R),.no,.no,.no,.no,.no,.no])=some (.lst (R.map (woT qa))):=by
   rw[gF];have s1:aD G [.w 4] (aA [aB Z,stT Z,b.t,r.t,rwT (b,R),.no,.no,.no,.no,.no,.no])=some [rwT (b,R)]:=rfl;have s2:bP .plain [rwT (b,R)]=some (R.map aE):=by unfold bP;rw[rwT,eK,bB,if_pos (by rw[bM];show R.length<=SZ;lia)]
   rw[s1,bB,s2,bB,gW (enc:=aE) (woT qa) fun ps hp=>by have:=C.wo b hb ps (hR ps hp) qa hcols hc4;simp only[bnd,if_true,aO,evE,aD,aA,Sl.get,aY,aZ,aW,aV,aX,i1,this,cT]];rfl
  obtain⟨τ',el,L,s6,s9,s10,s11,rfl,_⟩:=fR (enc:=fun ps:Row=>T.tup [aE ps,woT qa ps]) (f:=fun x τ=>(bL [5,8] x τ).bind fun τ'=>aC G bkL τ') (I:=fun done τ=>∃(L:List T)(s6 s9 s10 s11:Sl),τ=[.val (aB Z),.val (stT Z),.val b.t,.val r.t,.val (rwT (b,R)),s6,.val (.lst (R.map (woT qa))),.own L,s9,s10,s11]/\L.length<=done.length) R [.val (aB Z),.val (stT Z),.val b.t,.val r.t,.val (rwT (b,R)),.no,.val (.lst (R.map (woT qa))),.own [],.no,.no,.no] ⟨[],_,_,_,_,rfl,bH _⟩ fun l1 ps l2 e τ hI=>by
   obtain⟨L,s6,s9,s10,s11,rfl,hLl⟩:=hI;have hp:=hR ps (by rw[e];simp);have hl1:l1.length<=60:=by rw[e,cP]at hl;lia
   have ck:=C.ky b hb ps hp;show ∃τ',aC G bkL [aB Z,stT Z,b.t,r.t,rwT (b,R),aE ps,T.lst (R.map (woT qa)),.own L,woT qa ps,s10,s11]=some (.nx τ')/\_;have cN:∀s10 s11:Sl,evE G (.cmp .notN (.w 8) (.c .non)) (aA [aB Z,stT Z,b.t,r.t,rwT (b,R),aE ps,T.lst (R.map (woT qa)),.own L,woT qa ps,s10,s11])=some (.bl (!jX (wK qa ps))):=fun _ _=>M8 qa ps;obtain⟨b1,e10⟩:∃b1,evE G (.land (.cmp .notN (.w 8) (.c .non)) (.cmp .gt (.mth .count (.w 6) (.w 8)) (.c (.int 1)))) (aA [aB Z,stT Z,b.t,r.t,rwT (b,R),aE ps,T.lst (R.map (woT qa)),.own L,woT qa ps,s10,s11])=some (.bl b1):=by
    cases hN:jX (wK qa ps)with
    |true=>exact⟨false,jY ((cN s10 s11).trans (by rw[hN];rfl))⟩
    |false=>
     refine⟨decide ((1:Int)<(((R.map (woT qa)).filter fun z=>eqT z (woT qa ps)).length:Nat)),(iU ((cN s10 s11).trans (by rw[hN];rfl))).trans ?_⟩
     .show(dZ .count (.lst (R.map (woT qa))) (woT qa ps)).bind _=_;simp only[dZ];rw[if_pos (M9 qa R ps)];rfl
   have mid:∃(b2:Bool)(s11':Sl),aC G bkL [aB Z,stT Z,b.t,r.t,rwT (b,R),aE ps,T.lst (R.map (woT qa)),.own L,woT qa ps,s10,s11]=aC G (bkL.drop 2) [aB Z,stT Z,b.t,r.t,rwT (b,R),aE ps,T.lst (R.map (woT qa)),.own L,woT qa ps,T.bl b2,s11']:=by
    have p1:aC G bkL [aB Z,stT Z,b.t,r.t,rwT (b,R),aE ps,T.lst (R.map (woT qa)),.own L,woT qa ps,s10,s11]=aC G (bkL.drop 1) [aB Z,stT Z,b.t,r.t,rwT (b,R),aE ps,T.lst (R.map (woT qa)),.own L,woT qa ps,T.bl b1,s11]:=bC rfl e10 rfl;have cR:evE G (.cmp .eq (.idx (.w 3) (.c (.int 0))) (.c (.str "refers"))) (aA [aB Z,stT Z,b.t,r.t,rwT (b,R),aE ps,T.lst (R.map (woT qa)),.own L,woT qa ps,T.bl b1,s11])=some (.bl (zV r)):=by rw[<-hw2];simp only[evE,aA,Sl.get,aY,aZ,aW,aV,aX,aO,i0,bF,eqs]
    rcases hcase with rfl|⟨g,w,rfl⟩
    .exact⟨b1,s11,p1.trans (bJ rfl (jY cR))⟩
    .cases hN:jX (wK qa ps)with
     |true=>exact⟨b1,s11,p1.trans (bJ rfl ((iU cR).trans ((cN _ _).trans (by rw[hN];rfl))))⟩
     |false=>
      obtain⟨b',hb',hg⟩:=omm hfit.2;obtain⟨R',hz'⟩:=h.of hb';have ct:=C.tb b' hb';have cr':=C.rw _ hz';have i2:=rf2 qa g w;rw[hg]at ct;have cr':G.call "_law_rows" [aB Z,stT Z,.str g]=some (rwT (b',R')):=by rw[<-hg];exact cr'
      refine⟨!(R'.any fun q=>decide (bA b' q=wK qa ps)),.val b'.t,p1.trans (jG rfl ((iU cR).trans ((cN _ _).trans (by rw[hN];rfl))) ((bC (t:=b'.t) (τ':=[aB Z,stT Z,b.t,(Rl.ref qa g w).t,rwT (b,R),aE ps,T.lst (R.map (woT qa)),.own L,woT qa ps,T.bl b1,b'.t]) rfl (by simp only[evE,aD,aA,Sl.get,aY,aZ,aW,aV,aX,aO,i2,ct]) rfl).trans ((bC rfl ?_ rfl).trans rfl)))⟩;have ek:=JF (ρ:=aA [aB Z,stT Z,b.t,(Rl.ref qa g w).t,rwT (b,R),aE ps,T.lst (R.map (woT qa)),.own L,woT qa ps,T.bl b1,b'.t]) (e:=.call "_law_rows" [.w 0,.w 1,.idx (.w 3) (.c (.int 2))]) H h C hm hz' 10 (by simp only[evE,aD,aA,Sl.get,aY,aZ,aW,aV,aX,aO,i2,cr']) rfl;rw[evE,ek];have ew:woT qa ps=tkT (wK qa ps):=by unfold woT;rw[hN];rfl
      show(inC (woT qa ps) (.lst (R'.map (kyT b')))).map _=_;rw[ew,uS];rfl
   obtain⟨b2,s11',em⟩:=mid;rw[em];cases b2 with
   |false=>exact⟨_,(bJ rfl rfl).trans rfl,L,_,_,_,_,rfl,by rw[cP];lia⟩
   |true=>
    refine⟨[aB Z,stT Z,b.t,r.t,rwT (b,R),aE ps,T.lst (R.map (woT qa)),.own (L++[kyT b ps]),woT qa ps,T.bl true,s11'],(jG rfl rfl ((qU (t:=kyT b ps) rfl (by simp only[evE,aD,aA,Sl.get,aY,aZ,aW,aV,aX,aO,ck]) rfl (by lia)).trans rfl)).trans rfl,_,_,_,_,_,rfl,by rw[nL,nL,List.length_singleton,List.length_singleton];lia⟩
  refine⟨L,(bJ rfl c1).trans ((bC rfl e7 rfl).trans ((bC (t:=.lst []) (τ':=[aB Z,stT Z,b.t,r.t,rwT (b,R),.no,T.lst (R.map (woT qa)),.own [],.no,.no,.no]) rfl rfl rfl).trans ((bK (dD (xs:=[rwT (b,R),.lst (R.map (woT qa))]) rfl rfl ?_ el)).trans (dG rfl))))⟩;show some (fG (R.map aE) (R.map (woT qa)))=_;rw[JE]
end
def JG(L:List T):neC (.lst L) (.lst [])=some (.bl (!L.isEmpty)):=by
 have:=JC id L
 rwa[List.map_id]at this
theorem N2(r:Rl):∃x,aK r.t (.int (-1))=some x/\dpP x (.str "late")<=30:=by
 cases r with
 |ref cs t w=>exact⟨.str w,rfl,dQ _⟩
 |unl cs=>exact⟨bD cs,rfl,dQ _⟩
 |chk t=>exact⟨t.t,rfl,by cases t<;>exact dQ _⟩
theorem N3{β:Type}{qb:List (Kt×β)}{v:β}:(eW qb k v).length<=qb.length+1:=by
 unfold eW;split
 .rw[bM];lia
 .rw[cP];exact bH _
theorem N4(h0:aS (aN v++aN k) τ=τ)(h1:evE G v (aA τ)=some w)(h2:evE G k (aA τ)=some (.str x))(h3:τ[i]?=some (.dk qb))(h4:qb.length<SZ):aC G (.dput i k v::ss) τ=aC G ss (τ.set i (.dk (eW qb (.inr (some x)) w))) :=
 bK (by rw[evS,h0,h1,bB,h2,bB,h3];show Option.map _ (if qb.length<SZ then some (Sl.dk (eW qb (.inr (some x)) w))else none)=_;rw[if_pos h4];rfl)
noncomputable def dnK:List (Int×Str):=[(2, "unlike"),(3, "check"),(4, "refers")]
noncomputable def dkT(p:Int×Str):T:=.tup [.int p.1,.str p.2]
section
variable {G:Glo}{B:List Tb}{m:Nat}(H:Sch B){Z:List Zt}(h:Stn B m Z)(cb:∀b R,(b,R)∈Z->∀r∈b.rs,∃L,G.call "_law_broken" [aB Z,stT Z,b.t,r.t]=some (.lst L))
include H h cb
theorem N5(hz:(b,R)∈Z)(X1 X2:T)(qb:List (Kt×T))(hk:qb.length<=100)(s6 s7 s8:Sl):∃(kvs':List (Kt×T))(s6':Sl),bU (fun x τ=>(bL [6] x τ).bind fun τ'=>aC G dnB τ') (b.rs.map Rl.t) [aB Z,X1,X2,stT Z,.dk qb,b.t,s6,s7,s8]=some (.nx [aB Z,X1,X2,stT Z,.dk kvs',b.t,s6',s7,s8])/\kvs'.length<=qb.length+4:=by
 have hrl:=(H.ok b (h.mem hz)).rl;obtain⟨τ',el,kvs',s6',rfl,hl⟩:=fR (enc:=Rl.t) (f:=fun x τ=>(bL [6] x τ).bind fun τ'=>aC G dnB τ') (I:=fun done τ=>∃(kvs':List (Kt×T))(s6:Sl),τ=[.val (aB Z),.val X1,.val X2,.val (stT Z),.dk kvs',.val b.t,s6,s7,s8]/\kvs'.length<=qb.length+done.length) b.rs [.val (aB Z),.val X1,.val X2,.val (stT Z),.dk qb,.val b.t,s6,s7,s8] ⟨qb,_,rfl,bH _⟩ fun l1 r l2 e τ hI=>by
  obtain⟨kvs',s6,rfl,hl⟩:=hI;have hl1:l1.length<=4:=by rw[e,cP]at hrl;lia
  obtain⟨L,eL⟩:=cb b R hz r (by rw[e];simp);obtain⟨x,ex,dx⟩:=N2 r;obtain⟨w0,i0,_⟩:=r0 r;show ∃τ',aC G dnB [aB Z,X1,X2,stT Z,.dk kvs',b.t,r.t,s7,s8]=some (.nx τ')/\_;have c1:evE G (.cmp .ne (.idx (.w 6) (.neg (.c (.int 1)))) (.c (.str "late"))) (aA [aB Z,X1,X2,stT Z,.dk kvs',b.t,r.t,s7,s8])=some (.bl (!eqT x (.str "late"))):=by simp only[evE,aA,Sl.get,aY,aZ,aW,aV,aX,aO,ex,bF];unfold neC;rw[if_pos dx]
  have c2:evE G (.cmp .ne (.call "_law_broken" [.w 0,.w 3,.w 5,.w 6]) (.lst [])) (aA [aB Z,X1,X2,stT Z,.dk kvs',b.t,r.t,s7,s8])=some (.bl (!L.isEmpty)):=by simp only[evE,aD,aA,Sl.get,aY,aZ,aW,aV,aX,aO,eL,bF,List.length_nil,Nat.zero_le,if_true,cT];exact JG L
  have no:evE G (.land (.cmp .ne (.idx (.w 6) (.neg (.c (.int 1)))) (.c (.str "late"))) (.cmp .ne (.call "_law_broken" [.w 0,.w 3,.w 5,.w 6]) (.lst []))) (aA [.val (aB Z),.val X1,.val X2,.val (stT Z),.dk kvs',.val b.t,.val r.t,s7,s8])=some (.bl false)->∃τ',aC G dnB [.val (aB Z),.val X1,.val X2,.val (stT Z),.dk kvs',.val b.t,.val r.t,s7,s8]=some (.nx τ')/\∃(kvs'_1:List (Kt×T))(s6:Sl),τ'=[.val (aB Z),.val X1,.val X2,.val (stT Z),.dk kvs'_1,.val b.t,s6,s7,s8]/\kvs'_1.length<=qb.length+(l1++[r]).length:=fun hc=>⟨_,(bJ rfl hc).trans rfl,kvs',_,rfl,by rw[cP];lia⟩;cases q1:eqT x (.str "late")with
  |true=>exact no (jY (c1.trans (aP (fun b=>some (T.bl (!b))) q1)))
  |false=>
   have c3:=(iU (c1.trans (aP (fun b=>some (T.bl (!b))) q1))).trans c2;cases q2:L.isEmpty with
   |true=>exact no (c3.trans (aP (fun b=>some (T.bl (!b))) q2))
   |false=>
    refine⟨_,(jG rfl (c3.trans (aP (fun b=>some (T.bl (!b))) q2)) ((N4 (qb:=kvs') (x:=w0) (w:=.bl true) rfl rfl (by simp only[evE,aA,Sl.get,aY,aZ,aW,aV,aX,aO,i0]) rfl (by have:=iV;lia)).trans rfl)).trans rfl,_,_,rfl,?_⟩;have:=N3 (qb:=kvs') (k:=.inr (some w0)) (v:=T.bl true);rw[cP,rD];lia
 exact⟨kvs',s6',el,by lia⟩
theorem N6(X1 X2:T):∃(qb:List (Kt×T))(s5 s6:Sl),evS G (.loop [5] .plain [.w 0] [.loop [6] .plain [.idx (.w 5) (.c (.int 3))] dnB]) [aB Z,X1,X2,stT Z,.dk [],.no,.no,.no,.no]=some (.nx [aB Z,X1,X2,stT Z,.dk qb,s5,s6,.no,.no]):=by
 obtain⟨τ',el,qb,s5,s6,rfl,hl⟩:=fR (enc:=fun z:Zt=>z.1.t) (f:=fun x τ=>(bL [5] x τ).bind fun τ'=>aC G [.loop [6] .plain [.idx (.w 5) (.c (.int 3))] dnB] τ') (I:=fun done τ=>∃(qb:List (Kt×T))(s5 s6:Sl),τ=[.val (aB Z),.val X1,.val X2,.val (stT Z),.dk qb,s5,s6,.no,.no]/\qb.length<=4*done.length) Z [.val (aB Z),.val X1,.val X2,.val (stT Z),.dk [],.no,.no,.no,.no] ⟨[],_,_,rfl,dQ _⟩ fun l1 z l2 e τ hI=>by
  obtain⟨qb,s5,s6,rfl,hl⟩:=hI;have hz:(z.1,z.2)∈Z:=by rw[e];simp
  have hl1:l1.length<=4:=by have h3:=h.len;have:=H.l4;rw[e,cP]at h3;lia
  obtain⟨kvs',s6',ei,hk⟩:=N5 H h cb hz X1 X2 qb (by lia) s6 .no .no;refine⟨_,(bK (dD (τ:=[aB Z,X1,X2,stT Z,.dk qb,z.1.t,s6,.no,.no]) (xs:=[.tup (z.1.rs.map Rl.t)]) rfl (show aD G [.idx (.w 5) (.c (.int 3))] (aA [aB Z,X1,X2,stT Z,.dk qb,z.1.t,s6,.no,.no])=_ by simp only[evE,aD,aA,Sl.get,aY,aZ,aW,aV,aX,aO,t3]) (eK _) ei)).trans rfl,kvs',.val z.1.t,s6',rfl,by rw[nL,List.length_singleton];lia⟩
 exact⟨qb,s5,s6,dD (xs:=[aB Z]) rfl rfl (eK _) el⟩
theorem N7(X1 X2:T):∃t,aC G (qQ.body.drop 2) [aB Z,X1,X2,stT Z,.no,.no,.no,.no,.no]=some (.rt t)/\((∃i:Int,t=.int i)\/t=stT Z):=by
 obtain⟨qb,s5,s6,eo⟩:=N6 H h cb X1 X2;have e1:evS G (.dnew 4) [aB Z,X1,X2,stT Z,.no,.no,.no,.no,.no]=some (.nx [aB Z,X1,X2,stT Z,.dk [],.no,.no,.no,.no]):=rfl;rcases qV (enc:=dkT) (f:=fun x τ=>(bL [7,8] x τ).bind fun τ'=>aC G dnF τ') (I:=fun τ=>∃s7 s8:Sl,τ=[.val (aB Z),.val X1,.val X2,.val (stT Z),.dk qb,s5,s6,s7,s8]) (V:=fun v=>∃i:Int,v=.int i) dnK [.val (aB Z),.val X1,.val X2,.val (stT Z),.dk qb,s5,s6,.no,.no] ⟨_,_,rfl⟩ (fun p _ τ hI=>by
  obtain⟨s7,s8,rfl⟩:=hI;show(∃τ',aC G dnF [aB Z,X1,X2,stT Z,.dk qb,s5,s6,T.int p.1,T.str p.2]=some (.nx τ')/\_)\/∃v,aC G dnF [aB Z,X1,X2,stT Z,.dk qb,s5,s6,T.int p.1,T.str p.2]=some (.rt v)/\_;have c1:evE G (.cmp .isin (.w 8) (.w 4)) (aA (aS (aN (.cmp .isin (.w 8) (.w 4))) [aB Z,X1,X2,stT Z,.dk qb,s5,s6,T.int p.1,T.str p.2]))=some (.bl ((qb.map (·.1)).any fun q=>decide (q=.inr (some p.2)))):=rfl;cases q:((qb.map (·.1)).any fun q=>decide (q=.inr (some p.2)))with
  |false=>exact .inl ⟨_,(uQ (c1.trans (aP (fun b=>some (T.bl b)) q))).trans rfl,_,_,rfl⟩
  |true=>exact .inr ⟨.int p.1,IV (c1.trans (aP (fun b=>some (T.bl b)) q)) (dG rfl),_,rfl⟩)with⟨τ',el,s7,s8,rfl⟩|⟨v,el,hv⟩
 .exact⟨stT Z,(bK e1).trans ((bK eo).trans ((bK (dD (xs:=[.tup (dnK.map dkT)]) rfl rfl (eK _) el)).trans (dG rfl))),.inr rfl⟩
 .exact⟨v,(bK e1).trans ((bK eo).trans (dG (dD (xs:=[.tup (dnK.map dkT)]) rfl rfl (eK _) el))),.inl hv⟩
theorem N8:∃b,aC G zI.body [aB Z,stT Z,.no,.no]=some (.rt (.bl b)):=by
 rcases qV (enc:=fun z:Zt=>z.1.t) (f:=fun x τ=>(bL [2] x τ).bind fun τ'=>aC G [.loop [3] .plain [.idx (.w 2) (.c (.int 3))] ltB] τ') (I:=fun τ=>∃s2 s3:Sl,τ=[.val (aB Z),.val (stT Z),s2,s3]) (V:=fun v=>v=.bl true) Z [.val (aB Z),.val (stT Z),.no,.no] ⟨_,_,rfl⟩ (fun z hz τ hI=>by
  obtain⟨s2,s3,rfl⟩:=hI;have er:aD G [.idx (.w 2) (.c (.int 3))] (aA [aB Z,stT Z,z.1.t,s3])=some [.tup (z.1.rs.map Rl.t)]:=by simp only[evE,aD,aA,Sl.get,aY,aZ,aW,aV,aX,aO,t3]
  show(∃τ',aC G [.loop [3] .plain [.idx (.w 2) (.c (.int 3))] ltB] [aB Z,stT Z,z.1.t,s3]=some (.nx τ')/\_)\/∃v,aC G [.loop [3] .plain [.idx (.w 2) (.c (.int 3))] ltB] [aB Z,stT Z,z.1.t,s3]=some (.rt v)/\_;rcases qV (enc:=Rl.t) (f:=fun x τ=>(bL [3] x τ).bind fun τ'=>aC G ltB τ') (I:=fun τ=>∃s3:Sl,τ=[.val (aB Z),.val (stT Z),.val z.1.t,s3]) (V:=fun v=>v=.bl true) z.1.rs [.val (aB Z),.val (stT Z),.val z.1.t,s3] ⟨_,rfl⟩ (fun r hr τ hI=>by
   obtain⟨s3,rfl⟩:=hI;obtain⟨L,eL⟩:=cb z.1 z.2 hz r hr;show(∃τ',aC G ltB [aB Z,stT Z,z.1.t,r.t]=some (.nx τ')/\_)\/∃v,aC G ltB [aB Z,stT Z,z.1.t,r.t]=some (.rt v)/\_;have c2:evE G (.cmp .ne (.call "_law_broken" [.w 0,.w 1,.w 2,.w 3]) (.lst [])) (aA [aB Z,stT Z,z.1.t,r.t])=some (.bl (!L.isEmpty)):=by simp only[evE,aD,aA,Sl.get,aY,aZ,aW,aV,aX,aO,eL,bF,List.length_nil,Nat.zero_le,if_true,cT];exact JG L
   cases q:L.isEmpty with
   |true=>exact .inl ⟨_,(bJ rfl (c2.trans (aP (fun b=>some (T.bl (!b))) q))).trans rfl,_,rfl⟩
   |false=>exact .inr ⟨.bl true,cV rfl (c2.trans (aP (fun b=>some (T.bl (!b))) q)) (dG rfl),rfl⟩)with⟨τ',el,s3',rfl⟩|⟨v,el,rfl⟩
  .exact .inl ⟨_,(bK (dD rfl er (eK _) el)).trans rfl,_,_,rfl⟩
  .exact .inr ⟨_,dG (dD rfl er (eK _) el),rfl⟩)with⟨τ',el,s2,s3,rfl⟩|⟨v,el,rfl⟩
 .exact⟨false,(bK (dD (xs:=[aB Z]) rfl rfl (eK _) el)).trans (dG rfl)⟩
 .exact⟨true,dG (dD (xs:=[aB Z]) rfl rfl (eK _) el)⟩
end
structure Cal3(G:Glo)(B:List Tb)(Z:List Zt):Prop extends Cls G B Z where
 dr:∀a k:Int,G.call "_law_drawn" [.int a,.int k]=some (.int (cF a k))
 ro:∀b∈B,∀k:Int,∃ps,G.call "_law_row" [b.t,.int k]=some (aE ps)/\RowOk b ps
 wt:∀(c:Col)(k:Int),∃w,G.call "_law_worth" [c.t,.int k]=some w/\Wok c w/\(c.g=false->w≠.non)/\Sml w
def plC(b:Tb):List Col:=b.cs.filter fun c=>!(b.key.any fun y=>y==c.n)
def c0(c:Col):aK c.t (.int 0)=some (.str c.n):=by rw[Col.t,aK,cG]
def N9(h:0<n/\n<1073741824):bO .fdiv (.int a) (.int n)=some (.int (a/n)):=by show(if 0<n/\n<1073741824 then _ else _)=_;rw[if_pos h]
def JH(h:0<n):bO .mod (.int a) (.int n)=some (.int (a%n)):=by show(if 0<n then _ else _)=_;rw[if_pos h]
section
variable {G:Glo}{B:List Tb}{m:Nat}(H:Sch B){Z:List Zt}(h:Stn B m Z)(C:Cal3 G B Z)(hm:m<=60)
include C in
theorem O0(X0 X1:T)(N:Int)(x3 x4 x5 x6 x7 x8 x9 x10 x12 x13:Sl)(D:List Col)(hD:∀c∈D,c∈b.cs)(h3:D.length<=3):∃(L:List (Str×T))(y9 y12 y13:Sl),bU (fun x τ=>(bL [12,9] x τ).bind fun τ'=>aC G ddL τ') (eI (D.map Col.t) 0) [X0,X1,T.int N,x3,x4,x5,x6,x7,x8,x9,x10,.own [],x12,x13]=some (.nx [X0,X1,T.int N,x3,x4,x5,x6,x7,x8,y9,x10,.own (L.map prT),y12,y13])/\Prs b L/\L.length<=3:=by
 rw[uF];obtain⟨τ',el,L,y9,y12,y13,rfl,h1,h2⟩:=fR (enc:=fun p:Col×Nat=>T.tup [.int (p.2:Int),p.1.t]) (f:=fun x τ=>(bL [12,9] x τ).bind fun τ'=>aC G ddL τ') (I:=fun done τ=>∃(L:List (Str×T))(x9 x12 x13:Sl),τ=[.val X0,.val X1,.val (.int N),x3,x4,x5,x6,x7,x8,x9,x10,.own (L.map prT),x12,x13]/\Prs b L/\L.length<=done.length) (D.zipIdx 0) [.val X0,.val X1,.val (.int N),x3,x4,x5,x6,x7,x8,x9,x10,.own [],x12,x13] ⟨[],_,_,_,rfl,fun _ h=>absurd h (by simp),Nat.le_refl _⟩ fun l1 p l2 e τ hI=>by
  obtain⟨L,x9,x12,x13,rfl,h1,h2⟩:=hI;have hp:p∈D.zipIdx 0:=by rw[e];simp
  have hc:p.1∈b.cs:=hD _ (by
   have:=List.mem_map_of_mem (f:=Prod.fst) hp
   rwa[List.zipIdx_map_fst]at this)
  have hl1:l1.length<=3:=by have:=aP List.length e;rw[List.length_zipIdx,cP]at this;lia
  have cd:=C.dr N (30+(p.2:Int));obtain⟨w,cw,hw1,hw2,hw3⟩:=C.wt p.1 (cF N (30+(p.2:Int))/4/4);show ∃τ',aC G ddL [X0,X1,T.int N,x3,x4,x5,x6,x7,x8,p.1.t,x10,.own (L.map prT),T.int (p.2:Int),x13]=some (.nx τ')/\_;have e13:evE G (.bin .fdiv (.call "_law_drawn" [.w 2,.bin .add (.c (.int 30)) (.w 12)]) (.c (.int 4))) (aA [X0,X1,T.int N,x3,x4,x5,x6,x7,x8,p.1.t,x10,.own (L.map prT),T.int (p.2:Int),x13])=some (.int (cF N (30+(p.2:Int))/4)):=by rw[iS];simp only[evE,aD,aA,Sl.get,aY,aZ,aW,aV,aX,aO,bO,cC,cd];rfl
  generalize cF N (30+(p.2:Int))/4=K at *;have p1:aC G ddL [X0,X1,T.int N,x3,x4,x5,x6,x7,x8,p.1.t,x10,.own (L.map prT),T.int (p.2:Int),x13]=aC G (ddL.drop 1) [X0,X1,T.int N,x3,x4,x5,x6,x7,x8,p.1.t,x10,.own (L.map prT),T.int (p.2:Int),T.int K]:=bC rfl e13 rfl;rw[p1];have c1:evE G (.cmp .eq (.bin .mod (.w 13) (.c (.int 2))) (.c (.int 0))) (aA [X0,X1,T.int N,x3,x4,x5,x6,x7,x8,p.1.t,x10,.own (L.map prT),T.int (p.2:Int),T.int K])=some (.bl (K%2==0)):=rfl;have c2:evE G (.cmp .eq (.w 12) (.c (.int 0))) (aA [X0,X1,T.int N,x3,x4,x5,x6,x7,x8,p.1.t,x10,.own (L.map prT),T.int (p.2:Int),T.int K])=some (.bl ((p.2:Int)==0)):=rfl;have c3:evE G (.lor (.cmp .eq (.bin .mod (.w 13) (.c (.int 2))) (.c (.int 0))) (.cmp .eq (.w 12) (.c (.int 0)))) (aA [X0,X1,T.int N,x3,x4,x5,x6,x7,x8,p.1.t,x10,.own (L.map prT),T.int (p.2:Int),T.int K])=some (.bl ((K%2==0)||((p.2:Int)==0))):=by
   rw[evE,c1,bB];cases(K%2==0)with
   |true=>rfl
   |false=>exact c2
  cases q:((K%2==0)||((p.2:Int)==0))with
  |false=>exact⟨_,(bJ rfl (c3.trans (aP (fun b=>some (T.bl b)) q))).trans rfl,L,_,_,_,rfl,h1,by rw[cP];lia⟩
  |true=>
   refine⟨[X0,X1,T.int N,x3,x4,x5,x6,x7,x8,p.1.t,x10,.own ((L++[(p.1.n,w)]).map prT),T.int (p.2:Int),T.int K],(jG rfl (c3.trans (congrArg (fun b=>some (T.bl b)) q)) ((qU (t:=prT (p.1.n,w)) rfl ?_ rfl (by rw[List.length_map];have:=iV;lia)).trans ?_)).trans rfl,L++[(p.1.n,w)],_,_,_,rfl,fun x hx=>?_,by rw[nL,nL];simp;lia⟩
   .have cw':evE G (.call "_law_worth" [.w 9,.bin .fdiv (.w 13) (.c (.int 4))]) (aA [X0,X1,T.int N,x3,x4,x5,x6,x7,x8,p.1.t,x10,.own (L.map prT),T.int (p.2:Int),T.int K])=some w:=by rw[evE];show G.call "_law_worth" [p.1.t,.int (K/4)]=_;exact cw
    rw[evE];simp only[aD,cw',aO];simp only[evE,aA,Sl.get,aY,aZ,aW,aV,aX,aO,c0,List.length_cons,List.length_nil,Nat.zero_add,Nat.reduceAdd,Nat.reduceLeDiff,if_true,cT];rfl
   .rw[gY];rfl
   .rcases oma hx with hx|hx
    .exact h1 x hx
    .rw[omg hx];exact⟨p.1,hc,rfl,hw1,hw2,hw3⟩
 refine⟨L,y9,y12,y13,el,h1,?_⟩;rw[List.length_zipIdx]at h2;lia
include H h C hm
theorem O4(N:Int):∃d:Dd,aC G qR.body [aB Z,stT Z,T.int N,.no,.no,.no,.no,.no,.no,.no,.no,.no,.no,.no]=some (.rt d.t)/\d.ok B:=by
 have hsz:=iV;have hZ:Z≠[]:=by intro e;have h1:=h.len;have:=H.ps;rw[e]at h1;simp at h1;lia
 obtain⟨z,hz,ez⟩:=iR (enc:=fun z:Zt=>z.1.t) hZ N;obtain⟨b,R⟩:=z;have hb:=h.mem hz;have hbo:=H.ok _ hb;have hR:∀ps∈R,RowOk b ps:=(h.rw _ hz).2.1;have hl:R.length<=m:=(h.rw _ hz).1;have cr:=C.rw _ hz;have hl0:0<Z.length:=by cases Z with|nil=>exact absurd rfl hZ|cons _ _=>simp
 have e3:evE G (.idx (.w 0) (.bin .mod (.w 2) (.blt .len (.w 0)))) (aA [aB Z,stT Z,T.int N,.no,.no,.no,.no,.no,.no,.no,.no,.no,.no,.no])=some b.t:=by
  have l1:bW .len (aB Z)=some (.int (Z.length:Int)):=by show some (T.int _)=_;rw[bM]
  simp only[evE,aA,Sl.get,aY,aZ,aW,aV,aX,aO,l1];rw[JH (by lia)];exact ez
 have e4:evE G (.call "_law_rows" [.w 0,.w 1,.idx (.w 3) (.c (.int 0))]) (aA [aB Z,stT Z,T.int N,b.t,.no,.no,.no,.no,.no,.no,.no,.no,.no,.no])=some (rwT (b,R)):=by simp only[evE,aD,aA,Sl.get,aY,aZ,aW,aV,aX,aO,t0];exact cr
 obtain⟨p0,cp0,hp0⟩:=C.ro b hb (N/64);have ck0:=C.ky b hb p0 hp0;have kc:=JF (ρ:=aA [aB Z,stT Z,T.int N,b.t,rwT (b,R),.no,.no,.no,.no,.no,.no,.no,.no,.no]) (e:=.w 4) H h C.toCls hm hz 3 rfl rfl;have e5:evE G (.bin .add (.comp (.call "_law_key" [.w 4,.w 0]) 1 .plain [.w 4] none) (.lst [.call "_law_key" [.w 3,.call "_law_row" [.w 3,.bin .fdiv (.w 2) (.c (.int 64))]]])) (aA [aB Z,stT Z,T.int N,b.t,rwT (b,R),.no,.no,.no,.no,.no,.no,.no,.no,.no])=some (.lst ((R++[p0]).map (kyT b))):=by
  have x1:evE G (.call "_law_row" [.w 3,.bin .fdiv (.w 2) (.c (.int 64))]) (aA [aB Z,stT Z,T.int N,b.t,rwT (b,R),.no,.no,.no,.no,.no,.no,.no,.no,.no])=some (aE p0):=by rw[evE];show G.call "_law_row" [b.t,.int (N/64)]=_;exact cp0
  have x2:evE G (.call "_law_key" [.w 3,.call "_law_row" [.w 3,.bin .fdiv (.w 2) (.c (.int 64))]]) (aA [aB Z,stT Z,T.int N,b.t,rwT (b,R),.no,.no,.no,.no,.no,.no,.no,.no,.no])=some (kyT b p0):=by rw[evE];simp only[aD,x1,aO];exact ck0
  have x3:evE G (.lst [.call "_law_key" [.w 3,.call "_law_row" [.w 3,.bin .fdiv (.w 2) (.c (.int 64))]]]) (aA [aB Z,stT Z,T.int N,b.t,rwT (b,R),.no,.no,.no,.no,.no,.no,.no,.no,.no])=some (.lst [kyT b p0]):=by rw[evE];simp only[aD,x2,aO,List.length_cons,List.length_nil,Nat.zero_add,Nat.reduceLeDiff,if_true,cT]
  rw[iS,kc,x3];show cC (.lst (R.map (kyT b))) (.lst [kyT b p0])=_;simp only[cC];rw[if_pos (by rw[bM];show R.length+1<=SZ;lia),gY];rfl
 have hKl:((R++[p0]).map (kyT b)).length=R.length+1:=by simp
 have hK:∀t∈(R++[p0]).map (kyT b),∃k,t=tkT k/\kS k:=fun t ht=>by
  obtain⟨ps,hps,rfl⟩:=omm ht;refine⟨bA b ps,rfl,M4 hbo ?_⟩;rcases oma hps with hps|hps
  .exact hR ps hps
  .rw[omg hps];exact hp0
 generalize(R++[p0]).map (kyT b)=KS at *;obtain⟨sm,e6,s1,s2⟩:∃sm:Nat,evE G (.bin .sub (.blt .len (.w 5)) (.blt .toInt (.land (.cmp .gt (.blt .len (.w 5)) (.c (.int 1))) (.cmp .gt (.bin .mod (.bin .fdiv (.w 2) (.c (.int 4096))) (.c (.int 8))) (.c (.int 0)))))) (aA [aB Z,stT Z,T.int N,b.t,rwT (b,R),T.lst KS,.no,.no,.no,.no,.no,.no,.no,.no])=some (.int (sm:Int))/\0<sm/\sm<=KS.length:=by
  have c1:evE G (.cmp .gt (.blt .len (.w 5)) (.c (.int 1))) (aA [aB Z,stT Z,T.int N,b.t,rwT (b,R),T.lst KS,.no,.no,.no,.no,.no,.no,.no,.no])=some (.bl (decide ((1:Int)<(KS.length:Int)))):=rfl;have c2:evE G (.cmp .gt (.bin .mod (.bin .fdiv (.w 2) (.c (.int 4096))) (.c (.int 8))) (.c (.int 0))) (aA [aB Z,stT Z,T.int N,b.t,rwT (b,R),T.lst KS,.no,.no,.no,.no,.no,.no,.no,.no])=some (.bl (decide ((0:Int)<N/4096%8))):=rfl;rw[iS,gV,gV];by_cases q1:(1:Int)<(KS.length:Int)
  .have c3:=(iU (c1.trans (aP (fun b=>some (T.bl b)) (dX q1)))).trans c2;rw[c3];by_cases q2:(0:Int)<N/4096%8
   .refine⟨KS.length-1,?_,by lia,by lia⟩;rw[dX q2];show some (T.int ((KS.length:Int)-1))=_;congr 2
    all_goals lia
   .refine⟨KS.length,?_,by lia,bH _⟩;rw[eN q2];show some (T.int ((KS.length:Int)-0))=_;congr 2
    all_goals lia
  .refine⟨KS.length,?_,by lia,bH _⟩;rw[jY (c1.trans (aP (fun b=>some (T.bl b)) (eN q1)))];show some (T.int ((KS.length:Int)-0))=_;congr 2
   all_goals lia
 obtain⟨kt,hkt,e7⟩:∃kt∈KS,evE G (.idx (.w 5) (.bin .mod (.bin .fdiv (.w 2) (.c (.int 4))) (.w 6))) (aA [aB Z,stT Z,T.int N,b.t,rwT (b,R),T.lst KS,T.int (sm:Int),.no,.no,.no,.no,.no,.no,.no])=some kt:=by
  have b1:0<=N/4%(sm:Int):=lH _ (by lia);have b2:N/4%(sm:Int)<(sm:Int):=lG _ (by lia);obtain⟨j,hj⟩:∃j:Nat,N/4%(sm:Int)=(j:Int):=⟨(N/4%(sm:Int)).toNat,by lia⟩;have hlt:j<KS.length:=by lia
  refine⟨KS[j],kA hlt,?_⟩;rw[zD,iS,iS];simp only[evE,aA,Sl.get,aY,aZ,aW,aV,aX,aO];rw[N9 (by decide),bB,JH (by lia),bB,hj];exact jC (dM hlt)
 obtain⟨k,rfl,hk⟩:=hK kt hkt;have e10:evE G (.comp (.w 0) 1 .plain [.idx (.w 3) (.c (.int 1))] (some (.cmp .notin (.idx (.w 0) (.c (.int 0))) (.idx (.w 4) (.c (.int 2)))))) (aA [aB Z,stT Z,T.int N,b.t,rwT (b,R),T.lst KS,T.int (sm:Int),tkT k,T.int (N/65536%8),.no,.no,.no,.no,.no])=some (.lst ((plC b).map Col.t)):=by
  refine uO (enc:=Col.t) (R:=b.cs) (fun c=>!(b.key.any fun y=>y==c.n)) Col.t (xs:=[.tup (b.cs.map Col.t)]) (by
   simp only[evE,aD,aA,Sl.get,aY,aZ,aW,aV,aX,aO,t1]) (by
   unfold bP;rw[eK,bB,if_pos (by rw[bM];have hcl:b.cs.length<=4:=hbo.cl;lia)]) fun c _=>⟨_,rfl,?_,fun _=>rfl⟩
  simp only[evE,aA,Sl.get,aY,aZ,aW,aV,aX,aO,c0,t2,bF];rw[bD,yI];rfl
 have pre:aC G qR.body [aB Z,stT Z,T.int N,.no,.no,.no,.no,.no,.no,.no,.no,.no,.no,.no]=aC G (qR.body.drop 7) [aB Z,stT Z,T.int N,b.t,rwT (b,R),T.lst KS,T.int (sm:Int),tkT k,T.int (N/65536%8),.no,T.lst ((plC b).map Col.t),.no,.no,.no] :=
  (bC rfl e3 rfl).trans ((bC rfl e4 rfl).trans ((bC (τ':=[aB Z,stT Z,T.int N,b.t,rwT (b,R),.own KS,.no,.no,.no,.no,.no,.no,.no,.no]) rfl e5 rfl).trans ((qK rfl e6 rfl).trans ((bC rfl e7 rfl).trans ((bC (t:=.int (N/65536%8)) rfl rfl rfl).trans (bC rfl e10 rfl))))))
 rw[pre];have cE:evE G (.cmp .eq (.w 10) (.lst [])) (aA [aB Z,stT Z,T.int N,b.t,rwT (b,R),T.lst KS,T.int (sm:Int),tkT k,T.int (N/65536%8),.no,T.lst ((plC b).map Col.t),.no,.no,.no])=some (.bl (plC b).isEmpty):=by show eqC (.lst ((plC b).map Col.t)) (.lst [])=_;unfold eqC;rw[if_pos (by simp[dpP,fM]),eqT,yJ]
 generalize N/65536%8=K at *;have lor_v:∀{a b:E}{ρ:Env}{x y:Bool},evE G a ρ=some (.bl x)->evE G b ρ=some (.bl y)->evE G (.lor a b) ρ=some (.bl (x||y)):=fun{a b ρ x y}h1 h2=>by
  rw[evE,h1,bB];cases x with
  |true=>rfl
  |false=>exact h2
 have land_v:∀{a b:E}{ρ:Env}{x y:Bool},evE G a ρ=some (.bl x)->evE G b ρ=some (.bl y)->evE G (.land a b) ρ=some (.bl (x&&y)):=fun{a b ρ x y}h1 h2=>by
  rw[evE,h1,bB];cases x with
  |true=>exact h2
  |false=>rfl
 have cA:evE G (.lor (.cmp .lt (.w 8) (.c (.int 4))) (.land (.cmp .eq (.w 8) (.c (.int 7))) (.cmp .eq (.w 10) (.lst [])))) (aA [aB Z,stT Z,T.int N,b.t,rwT (b,R),T.lst KS,T.int (sm:Int),tkT k,T.int K,.no,T.lst ((plC b).map Col.t),.no,.no,.no])=some (.bl (decide (K<4)||((K==7)&&(plC b).isEmpty))):=lor_v rfl (land_v rfl cE);have cB:evE G (.lor (.cmp .lt (.w 8) (.c (.int 6))) (.cmp .eq (.w 10) (.lst []))) (aA [aB Z,stT Z,T.int N,b.t,rwT (b,R),T.lst KS,T.int (sm:Int),tkT k,T.int K,.no,T.lst ((plC b).map Col.t),.no,.no,.no])=some (.bl (decide (K<6)||(plC b).isEmpty)):=lor_v rfl cE;cases qA:(decide (K<4)||((K==7)&&(plC b).isEmpty))with
 |true=>
  obtain⟨p1,cp1,hp1⟩:=C.ro b hb (cF N 7/4);refine⟨.add b p1,cV rfl (cA.trans (aP (fun b=>some (T.bl b)) qA)) (bY rfl ?_),hb,hp1⟩;have x1:evE G (.call "_law_row" [.w 3,.bin .fdiv (.call "_law_drawn" [.w 2,.c (.int 7)]) (.c (.int 4))]) (aA [aB Z,stT Z,T.int N,b.t,rwT (b,R),T.lst KS,T.int (sm:Int),tkT k,T.int K,.no,T.lst ((plC b).map Col.t),.no,.no,.no])=some (aE p1):=by
   have cd:=C.dr N 7;have x0:evE G (.bin .fdiv (.call "_law_drawn" [.w 2,.c (.int 7)]) (.c (.int 4))) (aA [aB Z,stT Z,T.int N,b.t,rwT (b,R),T.lst KS,T.int (sm:Int),tkT k,T.int K,.no,T.lst ((plC b).map Col.t),.no,.no,.no])=some (.int (cF N 7/4)):=by rw[iS];simp only[evE,aD,aA,Sl.get,aY,aZ,aW,aV,aX,aO,cd];rfl
   rw[evE];simp only[aD,x0,aO];exact cp1
  rw[evE];simp only[aD,x1,aO];simp only[evE,aA,Sl.get,aY,aZ,aW,aV,aX,aO,t0,List.length_cons,List.length_nil,Nat.zero_add,Nat.reduceAdd,Nat.reduceLeDiff,if_true,cT];rfl
 |false=>
  cases qB:(decide (K<6)||(plC b).isEmpty)with
  |true=>refine⟨.drp b k,(bJ rfl (cA.trans (aP (fun b=>some (T.bl b)) qA))).trans (cV rfl (cB.trans (aP (fun b=>some (T.bl b)) qB)) (bY rfl ?_)),hb,hk⟩;simp only[evE,aD,aA,Sl.get,aY,aZ,aW,aV,aX,aO,t0,List.length_cons,List.length_nil,Nat.zero_add,Nat.reduceAdd,Nat.reduceLeDiff,if_true,cT];rfl
  |false=>
   obtain⟨L,y9,y12,y13,el,hL1,hL2⟩:=O0 C (b:=b) (aB Z) (stT Z) N (.val b.t) (.val (rwT (b,R))) (.val (.lst KS)) (.val (.int (sm:Int))) (.val (tkT k)) (.val (.int K)) .no (.val (.lst ((plC b).map Col.t))) .no .no ((plC b).take 3) (fun c hc=>(oR.mp (kB hc)).1) (by rw[rE];lia);have er:aD G [.sli (.w 10) none (some (.c (.int 3)))] (aA [aB Z,stT Z,T.int N,b.t,rwT (b,R),T.lst KS,T.int (sm:Int),tkT k,T.int K,.no,T.lst ((plC b).map Col.t),.own [],.no,.no])=some [.lst (((plC b).take 3).map Col.t)]:=by show some [T.lst (cut ((plC b).map Col.t) none (some ((3:Nat):Int)))]=_;rw[yK,List.map_take]
   refine⟨.set b k L,(bJ rfl (cA.trans (aP (fun b=>some (T.bl b)) qA))).trans ((bJ rfl (cB.trans (aP (fun b=>some (T.bl b)) qB))).trans ((bC (t:=.lst []) (τ':=[aB Z,stT Z,T.int N,b.t,rwT (b,R),T.lst KS,T.int (sm:Int),tkT k,T.int K,.no,T.lst ((plC b).map Col.t),.own [],.no,.no]) rfl rfl rfl).trans ((bK (dD (xs:=[.lst (((plC b).take 3).map Col.t)]) rfl er rfl el)).trans (dG ?_)))),hb,hk,hL1,by lia⟩;have x0:evE G (.tup [.c (.str "set"),.idx (.w 3) (.c (.int 0)),.w 7,.blt .toTuple (.w 11)]) (aA [aB Z,stT Z,T.int N,b.t,rwT (b,R),T.lst KS,T.int (sm:Int),tkT k,T.int K,y9,T.lst ((plC b).map Col.t),T.lst (L.map prT),y12,y13])=some (Dd.set b k L).t:=by simp only[evE,aD,aA,Sl.get,aY,aZ,aW,aV,aX,aO,t0,bW,List.length_cons,List.length_nil,Nat.zero_add,Nat.reduceAdd,Nat.reduceLeDiff,if_true,cT];rfl
   rw[evS,show aS (aN (.tup [.c (.str "set"),.idx (.w 3) (.c (.int 0)),.w 7,.blt .toTuple (.w 11)])) [.val (aB Z),.val (stT Z),.val (.int N),.val b.t,.val (rwT (b,R)),.val (.lst KS),.val (.int (sm:Int)),.val (tkT k),.val (.int K),y9,.val (.lst ((plC b).map Col.t)),.own (L.map prT),y12,y13]=[.val (aB Z),.val (stT Z),.val (.int N),.val b.t,.val (rwT (b,R)),.val (.lst KS),.val (.int (sm:Int)),.val (tkT k),.val (.int K),y9,.val (.lst ((plC b).map Col.t)),.val (.lst (L.map prT)),y12,y13]from rfl,x0];rfl
end
structure Mk(P:Pr):Prop where
 dr:P.fn "_law_drawn"=some iO
 nm:P.fn "_law_names"=some nF
 tb:P.fn "_law_table"=some yA
 ky:P.fn "_law_key"=some qH
 wo:P.fn "_law_worths"=some qI
 rw:P.fn "_law_rows"=some yC
 wt:P.fn "_law_worth"=some iF
 ro:P.fn "_law_row"=some yE
 br:P.fn "_law_broken"=some qO
 ln:P.fn "_law_links"=some zE
 go:P.fn "_law_going"=some oO
 pu:P.fn "_law_put"=some zF
 wi:P.fn "_law_with"=some zG
 dp:P.fn "_law_dropped"=some zH
 ra:P.fn "_law_raw"=some qP
 dn:P.fn "_law_done"=some qQ
 lt:P.fn "_law_late"=some zI
 dd:P.fn "_law_deed"=some qR
 st:P.fn "_law_store"=some zJ
 lv:P.fn "_law_level"=some iQ
def iW(h:P.fn f=some D)(hl:ts.length=D.np)(e:aC (glo P (run P n)) D.body (cD D ts)=some (.rt t)):run P (n+1) f ts=some t:=by rw[cO h hl,e];rfl
section
variable {P:Pr}(p:Mk P){B:List Tb}(H:Sch B)
include p
theorem JI(n:Nat){b:Tb}(hb:b.ok):run P (n+1) "_law_names" [b.t]=some (.lst (b.cs.map fun c=>T.str c.n)):=by
 have:=uK p.nm n (b.cs.map fun c=>(c,T.non)) (by rw[bM];exact hb.cl) (.str b.nm) (.tup (b.key.map .str)) (.tup (b.rs.map Rl.t));have e1:(b.cs.map fun c=>(c,T.non)).map (·.1)=b.cs:=by rw[eG];exact List.map_id'' (fun _=>rfl) _
 rw[fB,e1]at this;refine this.trans ?_;rw[eG];rfl
include H
theorem nI(n:Nat)(h:Stn B m Z):Cls (glo P (run P (n+2))) B Z where
 tb b hb:=by obtain⟨R,hz⟩:=h.of hb;exact K5 p.tb (n+1) (by rw[h.len];exact H.l4) (by rw[h.nms];exact H.nd) hz
 ky b hb ps hp:=J4 p.nm p.ky n (H.ok b hb) hp
 nm b hb:=JI p (n+1) (H.ok b hb)
 rw z hz:=K0 p.rw (n+1) (by rw[h.len];exact H.l4) hz (by rw[h.nms];exact H.nd)
 wo b hb ps hp qa hc h4:=K4 p.nm p.wo n (H.ok b hb) hp hc h4
theorem O9(n:Nat)(hb:b∈B)(hp:RowOk b ps)(L:List (Str×T))(A:T)(hL:Prs b L)(hA:items .plain [A]=some (L.map prT)):∃qs,run P (n+2) "_law_with" [b.t,aE ps,A]=some (aE qs)/\RowOk b qs:=by obtain⟨qs,e,hq⟩:=L3 (G:=glo P (run P (n+1))) (H.ok b hb) hp hL hA (JI p n (H.ok b hb));exact⟨qs,iW p.wi rfl e,hq⟩
theorem P0(n:Nat)(h:Stn B m Z)(hz:z∈Z)(R:List Row)(A:T)(hR:∀ps∈R,RowOk z.1 ps)(hl:R.length<=60)(hA:items .plain [A]=some (R.map aE)):∃R',run P (n+3) "_law_put" [aB Z,stT Z,.str z.1.nm,A]=some (stT (iT Z z.1.nm R'))/\R'.length<=R.length/\Rws z.1 R':=by have c:=nI p H n h;obtain⟨R',e,h1,h2⟩:=K8 (G:=glo P (run P (n+2))) (Z:=Z) (z:=z) (A:=A) (H.ok _ (h.mem hz)) (by rw[h.len];exact H.l4) hR hl hA (c.tb _ (h.mem hz)) fun ps hp=>c.ky _ (h.mem hz) ps (hR ps hp);exact⟨R',iW p.pu rfl e,h1,h2⟩
theorem P3(n:Nat)(h:Stn B m Z)(hm:m<=60)(way:Str):run P (n+3) "_law_links" [aB Z,stT Z,.str way]=some (.lst ((lks way Z).map Lk.t)) :=
 iW p.ln rfl (L5 H h (nI p H n h) hm way)
theorem P4(n:Nat)(h:Stn B m Z)(hm:m<=60)(hz:z∈Z)(k:List Kt):∃t,run P (n+4) "_law_going" [aB Z,stT Z,.str z.1.nm,tkT k]=some t/\Gng Z t:=by obtain⟨t,e,g⟩:=M2 (G:=glo P (run P (n+3))) H h hm (fun way=>P3 p H n h hm way) (nI p H (n+1) h) hz k;exact⟨t,iW p.go rfl e,g⟩
theorem JJ(n m:Nat):Cal (glo P (run P (n+3))) B m where
 cl Z h:=nI p H (n+1) h
 wi b hb ps hp L A hL hA:=O9 p H (n+1) hb hp L A hL hA
 pu Z h z hz R A hR hl hA:=P0 p H n h hz R A hR hl hA
theorem P5(n:Nat)(hm:m<=60)(h:Stn B m Z)(gone:List Pl)(gaps:List Lk)(hg:∀l∈gaps,l.ok B "gap"):∃Z',run P (n+4) "_law_dropped" [aB Z,stT Z,.lst (gone.map plT),.lst (gaps.map Lk.t)]=some (stT Z')/\Stn B m Z':=by obtain⟨Z',e,h'⟩:=M3 (gone:=gone) H (JJ p H n m) hm hg h;exact⟨Z',iW p.dp rfl e,h'⟩
theorem P6(n:Nat)(hm:m<=60):Cal2 (glo P (run P (n+4))) B m where
 toCal:=JJ p H (n+1) m
 go Z h z hz k:=P4 p H n h hm hz k
 dr Z h gone gaps hg:=P5 p H n hm h gone gaps hg
theorem P7(n:Nat){m:Nat}(hm:m<=50){Z:List Zt}(h:Stn B m Z){d:Dd}(hd:d.ok B):∃t,run P (n+5) "_law_raw" [aB Z,stT Z,d.t]=some t/\Tld B (m+1) t:=by obtain⟨t,e,ht⟩:=M7 H (P6 p H n (by lia)) hm h hd;exact⟨t,iW p.ra rfl e,ht⟩
omit H in
theorem JK(n:Nat)(hb:b.ok)(hp:RowOk b ps)(ht:t.ok 3)(hi:t.inn b.cs):run P (n+4) "_law_level" [b.t,t.t,aE ps]=some (.int (fJ (hv ps t))):=by have ev:=J2 p.lv p.nm (hp.len hb) (hp.nd hb) hp.wk (.str b.nm) (.tup (b.key.map .str)) (.tup (b.rs.map Rl.t)) 3 n t ht (by rw[hp.cs];exact hi);rw[<-hp.tab]at ev;exact ev
theorem JL(n:Nat)(hm:m<=60)(h:Stn B m Z)(b:Tb)(R:List Row)(hz:(b,R)∈Z)(r:Rl)(hr:r∈b.rs):∃L,run P (n+5) "_law_broken" [aB Z,stT Z,b.t,r.t]=some (.lst L):=by
 have hb:=h.mem hz;have hbo:=H.ok _ hb;obtain⟨L,e⟩:=N1 H h (nI p H (n+2) h) hm hz hr fun t et ps hp=>by subst et;exact⟨_,JK p n hbo hp (hbo.rs _ hr) (H.fit b hb _ hr)⟩
 exact⟨L,iW p.br rfl e⟩
theorem P8(n:Nat){m:Nat}(hm:m<=50){Z:List Zt}(h:Stn B m Z){d:Dd}(hd:d.ok B):∃t,run P (n+6) "_law_done" [aB Z,stT Z,d.t]=some t/\Tld B (m+1) t:=by
 obtain⟨t,e,ht⟩:=P7 p H n hm h hd;have e1:aC (glo P (run P (n+5))) qQ.body [aB Z,stT Z,d.t,.no,.no,.no,.no,.no,.no]=aC (glo P (run P (n+5))) (qQ.body.drop 1) [aB Z,stT Z,d.t,t,.no,.no,.no,.no,.no] :=
  bC (t:=t) rfl (by rw[evE];show run P (n+5) "_law_raw" [aB Z,stT Z,d.t]=_;exact e) rfl
 rcases ht with⟨i,rfl⟩|⟨Z',rfl,h'⟩
 .exact⟨.int i,iW p.dn rfl (e1.trans (cV rfl rfl (dG rfl))),.inl ⟨i,rfl⟩⟩
 .have hs:aB Z=aB Z':=h.sch.trans h'.sch.symm;obtain⟨t,e2,ht⟩:=N7 (G:=glo P (run P (n+5))) H h' (fun b R hz r hr=>JL p H n (by lia) h' b R hz r hr) (stT Z) d.t;refine⟨t,iW p.dn rfl (e1.trans ((bJ rfl rfl).trans ?_)),?_⟩
  .rw[hs];exact e2
  .rcases ht with⟨i,rfl⟩|rfl
   .exact .inl ⟨i,rfl⟩
   .exact .inr ⟨Z',rfl,h'⟩
theorem P9(n:Nat)(hm:m<=60)(h:Stn B m Z):∃b,run P (n+6) "_law_late" [aB Z,stT Z]=some (.bl b):=by obtain⟨b,e⟩:=N8 (G:=glo P (run P (n+5))) H h fun b R hz r hr=>JL p H n hm h b R hz r hr;exact⟨b,iW p.lt rfl e⟩
theorem Q0(n:Nat)(c:Col)(k:Int):∃w,run P (n+1) "_law_worth" [c.t,.int k]=some w/\Wok c w/\(c.g=false->w≠.non)/\Sml w:=by obtain⟨w,e,hw⟩:=yP p.wt n c k;obtain⟨w2,e2,hs⟩:=HX p.wt n c k;rw[e]at e2;cases e2;refine⟨w,e,hw,fun hg=>?_,hs⟩;obtain⟨w3,e3,h3⟩:=HY p.wt n c k hg;rw[e]at e3;cases e3;exact h3
theorem Q1(n:Nat)(hm:m<=60)(h:Stn B m Z)(N:Int):∃d:Dd,run P (n+3) "_law_deed" [aB Z,stT Z,.int N]=some d.t/\d.ok B:=by
 obtain⟨d,e,hd⟩:=O4 (G:=glo P (run P (n+2))) H h
  {toCls:=nI p H n h,dr:=fun a k=>kY p.dr (n+1) a k,ro:=fun b hb k=>IA p.dr p.wt p.ro n (H.ok b hb) k,wt:=fun c k=>Q0 p H (n+1) c k} hm N
 exact⟨d,iW p.dd rfl e,hd⟩
end
structure Cal4(G:Glo)(B:List Tb):Prop where
 dn:∀m,m<=50->∀Z,Stn B m Z->∀d:Dd,d.ok B->∃t,G.call "_law_done" [aB Z,stT Z,d.t]=some t/\Tld B (m+1) t
 dd:∀m,m<=50->∀Z,Stn B m Z->∀N:Int,∃d:Dd,G.call "_law_deed" [aB Z,stT Z,.int N]=some d.t/\d.ok B
 lt:∀m,m<=60->∀Z,Stn B m Z->∃b,G.call "_law_late" [aB Z,stT Z]=some (.bl b)
 dr:∀a k:Int,G.call "_law_drawn" [.int a,.int k]=some (.int (cF a k))
theorem Q3(p:Mk P)(H:Sch B)(n:Nat):Cal4 (glo P (run P (n+6))) B where
 dn m hm Z h d hd:=P8 p H n hm h hd
 dd m hm Z h N:=Q1 p H (n+3) (by lia) h N
 lt m hm Z h:=P9 p H n hm h
 dr a k:=kY p.dr (n+5) a k
theorem Q4(q:Nat)(h:q<=1000):items .range [.int (q:Int)]=some ((List.range q).map fun(i:Nat)=>T.int (i:Int)):=by show(if -4611686018427387904<=(q:Int)/\(q:Int)<4611686018427387904 then some (kK (q:Int).toNat)else none)=_;rw[if_pos (by lia)];rfl
theorem Q5(H:Sch B)(C:Cal4 G B)(N:Int)(M:Nat)(hM:M<=20):∃Z,aC G zJ.body [.val (.tup (B.map Tb.t)),.val (.int N),.val (.int (M:Int)),.no,.no,.no]=some (.rt (stT Z))/\Stn B M Z:=by
 have h0:Stn B 0 (B.map fun b=>(b,[])):=⟨by rw[eG];exact List.map_id'' (fun _=>rfl) _,fun z hz=>by obtain⟨b,_,rfl⟩:=omm hz;exact⟨Nat.le_refl _,fun _ h=>absurd h (by simp),rA⟩⟩;have e3:evE G (.blt .toTuple (.comp (.tup []) 1 .plain [.w 0] none)) (aA [.val (.tup (B.map Tb.t)),.val (.int N),.val (.int (M:Int)),.no,.no,.no])=some (stT (B.map fun b=>(b,[]))):=by
  rw[gV,gF];have s1:aD G [.w 0] (aA [.val (.tup (B.map Tb.t)),.val (.int N),.val (.int (M:Int)),.no,.no,.no])=some [.tup (B.map Tb.t)]:=rfl;have s2:bP .plain [.tup (B.map Tb.t)]=some (B.map Tb.t):=by unfold bP;rw[eK,bB,if_pos (by rw[bM];have:=H.l4;have:=iV;lia)]
  rw[s1,bB,s2,bB,gW (enc:=Tb.t) (fun _=>T.tup []) fun b _=>rfl,stT,eG];rfl
 obtain⟨τ',el,Z,s4,s5,rfl,hZ⟩:=fR (enc:=fun i:Nat=>T.int (i:Int)) (f:=fun x τ=>(bL [4] x τ).bind fun τ'=>aC G stB τ') (I:=fun done τ=>∃(Z:List Zt)(s4 s5:Sl),τ=[.val (.tup (B.map Tb.t)),.val (.int N),.val (.int (M:Int)),.val (stT Z),s4,s5]/\Stn B done.length Z) (List.range M) [.val (.tup (B.map Tb.t)),.val (.int N),.val (.int (M:Int)),.val (stT (B.map fun b=>(b,[]))),.no,.no] ⟨_,_,_,rfl,h0⟩ fun l1 i l2 e τ hI=>by
  obtain⟨Z,s4,s5,rfl,hZ⟩:=hI;have hl1:l1.length<=20:=by have:=aP List.length e;rw[List.length_range,cP]at this;lia
  obtain⟨d,ed,hd⟩:=C.dd l1.length (by lia) Z hZ (cF N (100+(i:Int))/4);obtain⟨t,et,ht⟩:=C.dn l1.length (by lia) Z hZ d hd;rw[hZ.sch]at ed et;have cd:=C.dr N (100+(i:Int));show ∃τ',aC G stB [.val (.tup (B.map Tb.t)),.val (.int N),.val (.int (M:Int)),.val (stT Z),.val (.int (i:Int)),s5]=some (.nx τ')/\_;have x0:evE G (.bin .fdiv (.call "_law_drawn" [.w 1,.bin .add (.c (.int 100)) (.w 4)]) (.c (.int 4))) (aA [.val (.tup (B.map Tb.t)),.val (.int N),.val (.int (M:Int)),.val (stT Z),.val (.int (i:Int)),s5])=some (.int (cF N (100+(i:Int))/4)):=by rw[iS];simp only[evE,aD,aA,Sl.get,aY,aZ,aW,aV,aX,aO,bO,cC,cd];rfl
  have x1:evE G (.call "_law_deed" [.w 0,.w 3,.bin .fdiv (.call "_law_drawn" [.w 1,.bin .add (.c (.int 100)) (.w 4)]) (.c (.int 4))]) (aA [.val (.tup (B.map Tb.t)),.val (.int N),.val (.int (M:Int)),.val (stT Z),.val (.int (i:Int)),s5])=some d.t:=by rw[evE];simp only[aD,x0,aO];exact ed
  have x2:evE G (.call "_law_done" [.w 0,.w 3,.call "_law_deed" [.w 0,.w 3,.bin .fdiv (.call "_law_drawn" [.w 1,.bin .add (.c (.int 100)) (.w 4)]) (.c (.int 4))]]) (aA [.val (.tup (B.map Tb.t)),.val (.int N),.val (.int (M:Int)),.val (stT Z),.val (.int (i:Int)),s5])=some t:=by rw[evE];simp only[aD,x1,aO];exact et
  have p1:aC G stB [.val (.tup (B.map Tb.t)),.val (.int N),.val (.int (M:Int)),.val (stT Z),.val (.int (i:Int)),s5]=aC G (stB.drop 1) [.val (.tup (B.map Tb.t)),.val (.int N),.val (.int (M:Int)),.val (stT Z),.val (.int (i:Int)),.val t]:=bC rfl x2 rfl;rw[p1];have up:Stn B (l1++[i]).length Z:=hZ.up (by rw[cP];lia);rcases ht with⟨j,rfl⟩|⟨Z',rfl,h'⟩
  .exact⟨_,(bJ rfl (jY rfl)).trans rfl,Z,_,_,rfl,up⟩
  .obtain⟨b,eb⟩:=C.lt _ (by lia) Z' h';rw[h'.sch]at eb;have c1:evE G (.land (.lnot (.tru (.isi (.w 5) .tint))) (.lnot (.tru (.call "_law_late" [.w 0,.w 5])))) (aA [.val (.tup (B.map Tb.t)),.val (.int N),.val (.int (M:Int)),.val (stT Z),.val (.int (i:Int)),.val (stT Z')])=some (.bl (!b)):=by refine(iU rfl).trans ?_;simp only[evE,aD,aA,Sl.get,aY,aZ,aW,aV,aX,aO,eb];rfl
   cases b with
   |true=>exact⟨_,(bJ rfl c1).trans rfl,Z,_,_,rfl,up⟩
   |false=>exact⟨_,(jG rfl c1 ((bC (t:=stT Z') rfl rfl rfl).trans rfl)).trans rfl,Z',_,_,rfl,by rw[cP];exact h'⟩
 refine⟨Z,(bC rfl e3 rfl).trans ((bK (dD (xs:=[.int (M:Int)]) rfl rfl (Q4 M (by lia)) el)).trans (dG rfl)),?_⟩
 rwa[List.length_range]at hZ
def Q6(p:Mk P)(H:Sch B)(n:Nat)(N:Int)(M:Nat)(hM:M<=20):∃Z,run P (n+7) "_law_store" [.tup (B.map Tb.t),.int N,.int (M:Int)]=some (stT Z)/\Stn B M Z:=by obtain⟨Z,e,h⟩:=Q5 H (Q3 p H n) N M hM;exact⟨Z,iW p.st rfl e,h⟩
theorem Q7(h:P.fn "table_of"=some zL)(n:Nat)(hz:z∈Z)(nd:(Z.map (·.1.nm)).Nodup):run P (n+1) "table_of" [aB Z,.str z.1.nm]=some z.1.t:=by
 rw[cO h rfl];show bG (aC (glo P (run P n)) zK [.val (aB Z),.val (.str z.1.nm),.no])=_;unfold zK;have el:=zC (enc:=fun z:Zt=>z.1.t) (nm:=fun z:Zt=>z.1.nm) (r:=fun z:Zt=>z.1.t) (I:=fun τ=>∃s2,τ=[Sl.val (aB Z),.val (.str z.1.nm),s2])
  (f:=fun x τ=>(bL [2] x τ).bind fun τ'=>aC (glo P (run P n)) [.ite (.cmp .eq (.idx (.w 2) (.c (.int 0))) (.w 1)) [.ret (.w 2)] []] τ') z.1.nm
  (fun a τ ⟨s2,hτ⟩ e=>by subst hτ;show aC (glo P (run P n)) [.ite (.cmp .eq (.idx (.w 2) (.c (.int 0))) (.w 1)) [.ret (.w 2)] []] [.val (aB Z),.val (.str z.1.nm),.val a.1.t]=_;exact cV rfl (by simp[evE,aA,Sl.get,t0,bF,eqs,e]) (bY rfl (by simp[evE,aA,Sl.get])))
  (fun a τ ⟨s2,hτ⟩ e=>by subst hτ;refine⟨[.val (aB Z),.val (.str z.1.nm),.val a.1.t],?_,_,rfl⟩;show aC (glo P (run P n)) [.ite (.cmp .eq (.idx (.w 2) (.c (.int 0))) (.w 1)) [.ret (.w 2)] []] [.val (aB Z),.val (.str z.1.nm),.val a.1.t]=_;rw[bJ rfl (by simp[evE,aA,Sl.get,t0,bF,eqs,e]),aC])
  hz nd rfl [Sl.val (aB Z),.val (.str z.1.nm),.no] ⟨_,rfl⟩
 rw[dG (dD (xs:=[aB Z]) (qc:=Z.map fun z=>z.1.t) (τ0:=[Sl.val (aB Z),.val (.str z.1.nm),.no]) rfl (by simp[aD,evE,aA,Sl.get]) rfl el)];rfl
theorem Q8(h:P.fn "rows_of"=some zP)(n:Nat)(hz:z∈Z)(nd:(Z.map (·.1.nm)).Nodup):run P (n+1) "rows_of" [aB Z,stT Z,.str z.1.nm]=some (rwT z):=by
 rw[cO h rfl];show bG (aC (glo P (run P n)) zO [.val (aB Z),.val (stT Z),.val (.str z.1.nm),.no,.no])=_;unfold zO;have el:=zC (enc:=fun z:Zt=>T.tup [z.1.t,rwT z]) (nm:=fun z:Zt=>z.1.nm) (r:=rwT) (I:=fun τ=>∃s3 s4,τ=[Sl.val (aB Z),.val (stT Z),.val (.str z.1.nm),s3,s4])
  (f:=fun x τ=>(bL [3,4] x τ).bind fun τ'=>aC (glo P (run P n)) [.ite (.cmp .eq (.idx (.w 3) (.c (.int 0))) (.w 2)) [.ret (.w 4)] []] τ') z.1.nm
  (fun a τ ⟨s3,s4,hτ⟩ e=>by subst hτ;show aC (glo P (run P n)) [.ite (.cmp .eq (.idx (.w 3) (.c (.int 0))) (.w 2)) [.ret (.w 4)] []] [.val (aB Z),.val (stT Z),.val (.str z.1.nm),.val a.1.t,.val (rwT a)]=_;exact cV rfl (by simp[evE,aA,Sl.get,t0,bF,eqs,e]) (bY rfl (by simp[evE,aA,Sl.get])))
  (fun a τ ⟨s3,s4,hτ⟩ e=>by subst hτ;refine⟨[.val (aB Z),.val (stT Z),.val (.str z.1.nm),.val a.1.t,.val (rwT a)],?_,_,_,rfl⟩;show aC (glo P (run P n)) [.ite (.cmp .eq (.idx (.w 3) (.c (.int 0))) (.w 2)) [.ret (.w 4)] []] [.val (aB Z),.val (stT Z),.val (.str z.1.nm),.val a.1.t,.val (rwT a)]=_;rw[bJ rfl (by simp[evE,aA,Sl.get,t0,bF,eqs,e]),aC])
  hz nd rfl [Sl.val (aB Z),.val (stT Z),.val (.str z.1.nm),.no,.no] ⟨_,_,rfl⟩
 rw[dG (dD (xs:=[aB Z,stT Z]) (qc:=Z.map fun z=>T.tup [z.1.t,rwT z]) (τ0:=[Sl.val (aB Z),.val (stT Z),.val (.str z.1.nm),.no,.no]) rfl (by simp[aD,evE,aA,Sl.get]) (by show some (fG (Z.map fun z=>z.1.t) (Z.map rwT))=_;rw[zB]) el)];rfl
theorem Q9(h:P.fn "worths_of"=some lZ)(n:Nat)(hb:b.ok)(hp:RowOk b ps)(hc:∀x∈qa,∃c∈b.cs,c.n=x)(h4:qa.length<=4):run P (n+1) "worths_of" [b.t,aE ps,bD qa]=some (tkT (wK qa ps)):=by obtain⟨qs,q1,q2,q3,q4⟩:=IH hb hp hc;rw[hp.tab,bD,<-q1,<-q4];exact yQ h n (hp.len hb) (hp.nd hb) _ _ _ q2 (by lia)
theorem JM(hw:P.fn "worths_of"=some lZ)(h:P.fn "key_of"=some zN)(n:Nat)(hb:b.ok)(hp:RowOk b ps):run P (n+2) "key_of" [b.t,aE ps]=some (kyT b ps):=by rw[cO h rfl];have e:(glo P (run P (n+1))).call "worths_of" [b.t,aE ps,bD b.key]=some (kyT b ps):=Q9 hw n hb hp hb.inn (by have:=hb.k1;lia);show bG (aC (glo P (run P (n+1))) zM [b.t,aE ps])=_;unfold zM;generalize glo P (run P (n+1))=G at *;rw[bY (t:=kyT b ps) rfl (by simp only[evE,aD,aA,Sl.get,aY,aZ,aW,aV,aX,aO,t2,e])];rfl
theorem R3(a:a0 Bool):bF .notF (cY a) (.bl false)=some (.bl (!decide (a=some false))):=by rcases a with _|_|_<;>rfl
theorem R4(hh:P.fn "holds"=some gS)(hwo:P.fn "worths_of"=some lZ)(hcm:P.fn "compared"=some jS)(hop:P.fn "opposite"=some nE)(hj:P.fn "joined"=some qG)(h:P.fn "is_kept"=some zT)(n:Nat)(hb:b.ok)(hp:RowOk b ps)(hto:t.fit 3)(hti:t.inn b.cs):run P (n+5) "is_kept" [b.t,aE ps,(Rl.chk t).t]=some (.bl (!decide (hv ps t=some false))):=by
 rw[cO h rfl];have eh:=G6 hh hwo hcm hop hj (hp.len hb) (hp.nd hb) hp.wk (.str b.nm) (.tup (b.key.map .str)) (.tup (b.rs.map Rl.t)) 3 n t hto (by rw[hp.cs];exact hti);rw[<-hp.tab]at eh;have eh':(glo P (run P (n+4))).call "holds" [b.t,t.t,aE ps]=some (cY (hv ps t)):=eh;have i1:aK (Rl.chk t).t (.int 1)=some t.t:=by rw[Rl.t,aK,cH]
 show bG (aC (glo P (run P (n+4))) zS [b.t,aE ps,(Rl.chk t).t])=_;unfold zS;generalize glo P (run P (n+4))=G at *;rw[bY (t:=.bl (!decide (hv ps t=some false))) rfl (by simp only[evE,aD,aA,Sl.get,aY,aZ,aW,aV,aX,aO,i1,eh',R3])];rfl
def bV{α β:Type}{f:α->a0 β}{x:a0 α}{a:α}(h:x=some a):x.bind f=f a:=by rw[h];rfl
def gB(G:Glo)(f:Str)(es:List E)(r:Env):evE G (.call f es) r=(aD G es r).bind fun xs=>G.call f xs:=by rw[evE]
theorem R5{r:Env}{α:Type}{enc:α->T}{R:List α}(f:α->T)(h1:aD G src r=some xs)(h2:bP .plain xs=some (R.map enc))(hb:∀a∈R,∃r',bnd n (enc a) r=some r'/\evE G elt r'=some (f a)):evE G (.comp elt n .plain src none) r=some (.lst (R.map f)):=by
 rw[uJ,h1,bB,h2,bB,iH (enc:=enc) (fun a=>some (f a)) fun a ha=>by obtain⟨r',e1,e2⟩:=hb a ha;rw[e1,bB,evO,bB,e2];rfl];rw[uI];rfl
theorem R6(h:P.fn "is_same_key"=some uP)(n:Nat)(h4:b.length<=4):run P (n+1) "is_same_key" [tkT a,tkT b]=some (.bl (decide (a=b))):=by
 rw[cO h rfl];have hc:evE (glo P (run P n)) (.comp (.isi (.w 0) .tbool) 1 .plain [.w 1] none) [some (tkT a),some (tkT b)]=some (.lst (b.map fun _=>.bl false)) :=
  R5 (enc:=kT) (fun _=>.bl false) (xs:=[tkT b]) rfl (by show(if(b.map kT).length<=SZ then some (b.map kT)else none)=_;rw[if_pos (by rw[bM];unfold SZ;lia)]) fun k _=>⟨_,rfl,by rcases k with _|_|_<;>rfl⟩
 have hb:∀l:List Kt,nW (l.map fun _=>T.bl false)=some (l.map fun _=>false):=fun l=>by
  induction l with
  |nil=>rfl
  |cons x r ih=>rw[bE,nW,ih];rfl
 have hany:∀l:List Kt,(l.map fun _=>false).any id=false:=fun l=>by
  induction l with
  |nil=>rfl
  |cons x r ih=>rw[bE,iJ,ih];rfl
 have h0:aC (glo P (run P n)) uP.body [tkT a,tkT b]=some (.rt (.bl (decide (a=b)))):=by
  refine bY rfl ?_;rw[evE];have he:evE (glo P (run P n)) (.cmp .eq (.w 0) (.w 1)) (aA [tkT a,tkT b])=some (.bl (decide (a=b))):=by rw[evE];show eqC (tkT a) (tkT b)=_;unfold eqC;rw[jW,if_pos (by decide),mC]
  refine(bV he).trans ?_;cases decide (a=b)with
  |false=>rfl
  |true=>show evE _ (.lnot (.blt .any (.comp (.isi (.w 0) .tbool) 1 .plain [.w 1] none))) _=_;rw[evE,gV];refine(bV (a:=T.bl false) ((bV hc).trans ?_)).trans rfl;show(nW (b.map fun _=>T.bl false)).map _=_;rw[hb];show some (T.bl ((b.map fun _=>false).any id))=_;rw[hany]
 exact(aP bG h0).trans rfl
def JN:zQ.body=.asg 4 (.call "table_of" [.w 0,.w 2])::.loop [5] .plain [.call "rows_of" [.w 0,.w 1,.w 2]] roB::[.fail]:=rfl
def R7:qS.body=[.nrm (.asg 4 (.call "table_of" [.w 0,.w 2])),.nrm (.loop [5] .plain [.call "rows_of" [.w 0,.w 1,.w 2]] roB),.fail "NoRow"]:=rfl
structure Pg(P:Pr):Prop where
 wo:P.fn "worths_of"=some lZ
 ky:P.fn "key_of"=some zN
 tb:P.fn "table_of"=some zL
 rs:P.fn "rows_of"=some zP
 sk:P.fn "is_same_key"=some uP
 ro:P.fn "row_of"=some zQ
 kp:P.fn "kept"=some zR
 ik:P.fn "is_kept"=some zT
 hh:P.fn "holds"=some gS
 cm:P.fn "compared"=some jS
 op:P.fn "opposite"=some nE
 jn:P.fn "joined"=some qG
def fnd(g:Zt)(k:List Kt)(R:List Row):a0 Row:=R.find? fun qs=>decide (bA g.1 qs=k)
structure CalR(G:Glo)(Z:List Zt)(z:Zt)(k:List Kt):Prop where
 ro:G.call "rows_of" [aB Z,stT Z,.str z.1.nm]=some (rwT z)
 tb:G.call "table_of" [aB Z,.str z.1.nm]=some z.1.t
 ky:∀qs∈z.2,G.call "key_of" [z.1.t,aE qs]=some (kyT z.1 qs)
 sk:∀qs∈z.2,G.call "is_same_key" [kyT z.1 qs,tkT k]=some (.bl (decide (bA z.1 qs=k)))
section
variable {B:List Tb}(H:Sch B){m:Nat}{Z:List Zt}(h:Stn B m Z){z:Zt}(hz:z∈Z)
include H h hz
theorem zW(p:Pg P)(n:Nat)(h4:k.length<=4):CalR ⟨run P (n+2),e⟩ Z z k :=
 ⟨Q8 p.rs (n+1) hz (by rw[h.nms];exact H.nd),Q7 p.tb (n+1) hz (by rw[h.nms];exact H.nd),fun qs hq=>JM p.wo p.ky n (H.ok _ (h.mem hz)) ((h.rw z hz).2.1 qs hq),fun qs _=>R6 p.sk (n+1) h4⟩
end
theorem uV(C:CalR G Z z k):∀R:List Row,(∀qs∈R,qs∈z.2)->∀s5,(∃r,fnd z k R=some r/\bU (fun x τ=>(bL [5] x τ).bind fun τ'=>aC G roB τ') (R.map aE) [aB Z,stT Z,T.str z.1.nm,tkT k,z.1.t,s5]=some (.rt (aE r))) \/
  (fnd z k R=none/\∃s5',bU (fun x τ=>(bL [5] x τ).bind fun τ'=>aC G roB τ') (R.map aE) [aB Z,stT Z,T.str z.1.nm,tkT k,z.1.t,s5]=some (.nx [aB Z,stT Z,T.str z.1.nm,tkT k,z.1.t,s5']))
 |[],_,s5=>.inr ⟨rfl,s5,rfl⟩
 |qs::R,h,s5=>by
  have hq:=h qs (.head _);have hc:evE G (.tru (.call "is_same_key" [.call "key_of" [.w 4,.w 5],.w 3])) (aA [aB Z,stT Z,T.str z.1.nm,tkT k,z.1.t,aE qs])=some (.bl (decide (bA z.1 qs=k))):=by rw[evE,gB];refine(bV (a:=T.bl (decide (bA z.1 qs=k))) ((bV (a:=[kyT z.1 qs,tkT k]) ?_).trans (C.sk qs hq))).trans rfl;rw[aD,gB];exact(bV (a:=kyT z.1 qs) ((bV (a:=[z.1.t,aE qs]) rfl).trans (C.ky qs hq))).trans rfl
  unfold fnd;rw[rB,bE,bU];cases e:decide (bA z.1 qs=k)with
  |true=>rw[e]at hc;exact .inl ⟨qs,rfl,bV (a:=Out.rt (aE qs)) (cV rfl hc (bY rfl rfl))⟩
  |false=>
   rw[e]at hc;have h1:((bL [5] (aE qs) [aB Z,stT Z,T.str z.1.nm,tkT k,z.1.t,s5]).bind fun τ'=>aC G roB τ')=some (.nx [aB Z,stT Z,T.str z.1.nm,tkT k,z.1.t,aE qs]):=(bJ (ss:=[]) rfl hc).trans rfl;have e2:=bV (f:=fun o=>match o with|.nx τ'=>bU (fun x τ=>(bL [5] x τ).bind fun τ'=>aC G roB τ') (R.map aE) τ'|.rt t=>some (.rt t)) h1;rcases uV C R (fun q h'=>h q (.tail _ h')) (.val (aE qs))with⟨r,h2,h3⟩|⟨h2,s',h3⟩
   .exact .inl ⟨r,h2,e2.trans h3⟩
   .exact .inr ⟨h2,s',e2.trans h3⟩
def zX(C:CalR G Z z k):evS G (.asg 4 (.call "table_of" [.w 0,.w 2])) [aB Z,stT Z,T.str z.1.nm,tkT k,.no,.no]=some (.nx [aB Z,stT Z,T.str z.1.nm,tkT k,z.1.t,.no]):=by rw[evS];refine(bV (a:=z.1.t) ?_).trans rfl;rw[gB];exact(bV (a:=[aB Z,T.str z.1.nm]) rfl).trans C.tb
def zY(C:CalR G Z z k)(h3:bU (fun x τ=>(bL [5] x τ).bind fun τ'=>aC G roB τ') (z.2.map aE) [aB Z,stT Z,T.str z.1.nm,tkT k,z.1.t,.no]=some o):evS G (.loop [5] .plain [.call "rows_of" [.w 0,.w 1,.w 2]] roB) [aB Z,stT Z,T.str z.1.nm,tkT k,z.1.t,.no]=some o:=by
 refine dD (τ0:=[aB Z,stT Z,T.str z.1.nm,tkT k,z.1.t,.no]) (xs:=[rwT z]) (qc:=z.2.map aE) rfl ?_ rfl h3;rw[aD,gB];exact(bV (a:=rwT z) ((bV (a:=[aB Z,stT Z,T.str z.1.nm]) rfl).trans C.ro)).trans rfl
section
variable {B:List Tb}(H:Sch B){m:Nat}{Z:List Zt}(h:Stn B m Z){z:Zt}(hz:z∈Z){P:Pr}(p:Pg P)(n:Nat){k:List Kt}(h4:k.length<=4)
include H h hz p h4
theorem R8(hr:fnd z k z.2=some r):run P (n+3) "row_of" [aB Z,stT Z,.str z.1.nm,tkT k]=some (aE r):=by
 rw[cO p.ro rfl,JN];have C:=zW H h hz p n h4 (e:=fun _ _=>none);rcases uV C z.2 (fun q hq=>hq) .no with⟨r',h2,h3⟩|⟨h2,s',h3⟩
 .rw[hr]at h2;cases h2;exact aP bG ((bK (zX C)).trans (dG (zY C h3)))
 .rw[hr]at h2;cases h2
theorem R9(hr:fnd z k z.2=none):run P (n+3) "row_of" [aB Z,stT Z,.str z.1.nm,tkT k]=none:=by
 rw[cO p.ro rfl,JN];have C:=zW H h hz p n h4 (e:=fun _ _=>none);rcases uV C z.2 (fun q hq=>hq) .no with⟨r',h2,h3⟩|⟨h2,s',h3⟩
 .rw[hr]at h2;cases h2
 .exact aP bG ((bK (zX C)).trans ((bK (zY C h3)).trans rfl))
theorem ro_x{Tx:Str->a0 Rxd}(hx:Tx "row_of"=some qS)(hr:fnd z k z.2=none):kL P Tx (n+3) "row_of" [aB Z,stT Z,.str z.1.nm,tkT k]=some (("NoRow":Str),(0:Int)):=by
 rw[kL,hx,bB,if_pos (show[aB Z,stT Z,T.str z.1.nm,tkT k].length=qS.np from rfl),R7];have C:=zW H h hz p n h4 (e:=kL P Tx (n+2));show hJ _ _ [aB Z,stT Z,T.str z.1.nm,tkT k,.no,.no]=_;rcases uV C z.2 (fun q hq=>hq) .no with⟨r',h2,h3⟩|⟨h2,s',h3⟩
 .rw[hr]at h2;cases h2
 .rw[hJ];refine(bV (zX C)).trans ?_;show hJ _ _ _=_;rw[hJ];exact(bV (zY C h3)).trans rfl
end
theorem S0{P:Pr}(p:Pg P)(n:Nat){b:Tb}(hb:b.ok){ps:Row}(hp:RowOk b ps){j:Nat}{t:Tst}(hj:b.rs[j]?=some (.chk t))(hto:t.fit 3)(hti:t.inn b.cs):run P (n+6) "kept" [b.t,aE ps,.int (j:Int)]=some (.bl (!decide (hv ps t=some false))):=by
 rw[cO p.kp rfl];have e:=R4 p.hh p.wo p.cm p.op p.jn p.ik n hb hp hto hti;have i3:aK (.tup (b.rs.map Rl.t)) (.int (j:Int))=some (Rl.chk t).t:=jC (by rw[iK,hj];rfl);have h0:aC (glo P (run P (n+5))) zR.body [b.t,aE ps,T.int (j:Int)]=some (.rt (.bl (!decide (hv ps t=some false)))):=by
  refine bY rfl ?_;rw[gB];refine(bV (a:=[b.t,aE ps,(Rl.chk t).t]) ?_).trans e;rw[aD,aD,aD,show evE (glo P (run P (n+5))) (.idx (.idx (.w 0) (.c (.int 3))) (.w 2)) (aA [b.t,aE ps,T.int (j:Int)])=some (Rl.chk t).t from(by rw[evE];exact(bV (a:=T.tup (b.rs.map Rl.t)) rfl).trans i3)];rfl
 exact(aP bG h0).trans rfl
theorem JO(a:List Kt):neC (tkT a) (tkT a)=some (.bl false):=by unfold neC;rw[jW,if_pos (by decide),mC,dX rfl];rfl
theorem S7(w:Str)(a:List Kt):neC (.tup [.str w,tkT a]) (.tup [.str w,tkT a])=some (.bl false):=by
 unfold neC;rw[if_pos (by simp only[dpP,fM,jW];decide)];have e:eqT (.tup [.str w,tkT a]) (.tup [.str w,tkT a])=true:=by simp only[eqT,eO,mC,decide_true,beq_self_eq_true,Bool.and_self]
 rw[e];rfl
def JP(h:RowOk b ps):aE ps=tkT (ps.map fun p=>kk p.2):=by unfold aE tkT;rw[eG];exact aP T.tup (lF fun p hp=>(uN (h.wk p hp)).2.symm)
theorem JQ(z:Zt):∀{R:List Row}{ps:Row},(R.map (bA z.1)).Nodup->ps∈R->fnd z (bA z.1 ps) R=some ps
 |qs::R,ps,nd,h=>by
  rw[bE]at nd;obtain⟨n1,n2⟩:=gH.mp nd;unfold fnd;rw[rB];rcases omc h with e|h
  .subst e;rw[dX rfl]
  .have hne:¬bA z.1 qs=bA z.1 ps:=fun e=>n1 (by rw[e];exact fS.mpr ⟨ps,h,rfl⟩);rw[eN hne];exact JQ z n2 h
theorem JR(z:Zt)(k:List Kt)(R:List Row)(ps:Row):fnd z k (R++[ps])=match fnd z k R with
  |some r=>some r
  |none=>if bA z.1 ps=k then some ps else none:=by
 unfold fnd;rw[List.find?_append];cases R.find? fun qs=>decide (bA z.1 qs=k)with
 |some r=>rfl
 |none=>
  rw[Option.none_or,rB];by_cases e:bA z.1 ps=k
  .rw[dX e,if_pos e]
  .rw[eN e,if_neg e];rfl
theorem JS(hb:b.ok)(ps:Row):(bA b ps).length<=4:=by unfold bA;rw[bM];have:=hb.k1;lia
theorem S9(x:a0 Bool):decide ((0:Int)<fJ x)=!decide (x=some false):=by rcases x with _|_|_<;>rfl
def lT:List S:=[.asg 2 (.call "_law_rows" [.w 10,.w 11,.idx (.w 12) (.c (.int 0))]),.loop [3] .plain [.w 2] lA,
  .asg 3 (.call "_law_row" [.w 12,.w 1]),.asg 9 (.call "_law_key" [.w 12,.w 3]),.asg 4 (.tup [.c (.str "refused"),.c (.int 1),.c (.int 0)]),
  .loop [5] .plain [.w 2] lB,
  .tif "row_of" [.w 10,.w 11,.idx (.w 12) (.c (.int 0)),.w 9] (.w 4) [.ret (.c (.bl false))],
  .loop [6,7] .enum [.idx (.w 12) (.c (.int 3))] lC]
def T0:oP.body=[.asg 10 (.call "_law_schema" [.call "_law_mixed" [.w 0,.c (.int 0)]]),
  .asg 11 (.call "_law_store" [.w 10,.call "_law_mixed" [.w 0,.c (.int 1)],.bin .mod (.call "_law_mixed" [.w 0,.c (.int 2)]) (.c (.int 14))]),
  .asg 1 (.call "_law_mixed" [.w 0,.c (.int 3)]),.loop [12] .plain [.w 10] lT,.ret (.c (.bl true))]:=rfl
structure Cal5(G:Glo)(Z:List Zt)(c:Int):Prop where
 lr:∀z∈Z,G.call "_law_rows" [aB Z,stT Z,.str z.1.nm]=some (rwT z)
 lk:∀z∈Z,∀qs,RowOk z.1 qs->G.call "_law_key" [z.1.t,aE qs]=some (kyT z.1 qs)
 ko:∀z∈Z,∀qs,RowOk z.1 qs->G.call "key_of" [z.1.t,aE qs]=some (kyT z.1 qs)
 ry:∀z∈Z,∀k:List Kt,k.length<=4->∀r,fnd z k z.2=some r->G.call "row_of" [aB Z,stT Z,.str z.1.nm,tkT k]=some (aE r)
 rn:∀z∈Z,∀k:List Kt,k.length<=4->fnd z k z.2=none->G.call "row_of" [aB Z,stT Z,.str z.1.nm,tkT k]=none/\G.exc "row_of" [aB Z,stT Z,.str z.1.nm,tkT k]=some (("NoRow":Str),(0:Int))
 lw:∀z∈Z,∃ps,RowOk z.1 ps/\G.call "_law_row" [z.1.t,.int c]=some (aE ps)
 kp:∀z∈Z,∀ps,RowOk z.1 ps->∀(j:Nat)t,z.1.rs[j]?=some (.chk t)->G.call "kept" [z.1.t,aE ps,.int (j:Int)]=some (.bl (!decide (hv ps t=some false)))
 lv:∀z∈Z,∀ps,RowOk z.1 ps->∀(j:Nat)t,z.1.rs[j]?=some (.chk t)->G.call "_law_level" [z.1.t,t.t,aE ps]=some (.int (fJ (hv ps t)))
def JT(h1:evE G a r=some (.bl false))(h2:evE G b r=some (.bl false)):evE G (.lor a b) r=some (.bl false):=by rw[evE,h1];exact h2
theorem T7(h0:aS (bS es++aN e) τ=τ)(h1:aD G es (aA τ)=some ts)(h2:lP G f ts=some t)(h3:evE G e (aA τ)=some u)(h4:neC t u=some (.bl false)):aC G (.tif f es e a::ss) τ=aC G ss τ:=bK (by rw[evS,h0,h1,bB,h2,bB,h3,bB];show(neC t u).bind _=_;rw[h4];rfl)
section
variable {G:Glo}{B:List Tb}(H:Sch B){m:Nat}{Z:List Zt}(h:Stn B m Z){c:Int}(C:Cal5 G Z c){N:T}{z:Zt}(hz:z∈Z)
include H h C hz
theorem JU(s4 s5 s6 s7 s8:Sl):∀(R:List Row),(∀ps∈R,ps∈z.2)->∀s3 s9,∃s3' s9',bU (fun x τ=>(bL [3] x τ).bind fun τ'=>aC G lA τ') (R.map aE) [N,T.int c,rwT z,s3,s4,s5,s6,s7,s8,s9,aB Z,stT Z,z.1.t] =some (.nx [N,T.int c,rwT z,s3',s4,s5,s6,s7,s8,s9',aB Z,stT Z,z.1.t])
 |[],_,s3,s9=>⟨s3,s9,rfl⟩
 |ps::R,hR,s3,s9=>by
  have hm:=hR ps (.head _);have hp:RowOk z.1 ps:=(h.rw z hz).2.1 ps hm;have hb:=H.ok _ (h.mem hz);obtain⟨s3',s9',e⟩:=JU s4 s5 s6 s7 s8 R (fun q hq=>hR q (.tail _ hq)) (.val (aE ps)) (.val (kyT z.1 ps));refine⟨s3',s9',?_⟩;rw[bE,bU];have h1:((bL [3] (aE ps) [N,T.int c,rwT z,s3,s4,s5,s6,s7,s8,s9,aB Z,stT Z,z.1.t]).bind fun τ'=>aC G lA τ')=some (.nx [N,T.int c,rwT z,aE ps,s4,s5,s6,s7,s8,kyT z.1 ps,aB Z,stT Z,z.1.t]):=by
   refine(bC (t:=kyT z.1 ps) (τ':=[N,T.int c,rwT z,aE ps,s4,s5,s6,s7,s8,kyT z.1 ps,aB Z,stT Z,z.1.t]) rfl ?_ rfl).trans ((bJ rfl (JT ?_ ?_)).trans rfl)
   .rw[gB];exact(bV (a:=[z.1.t,aE ps]) rfl).trans (C.lk z hz ps hp)
   .rw[evE,gB];exact(bV (a:=kyT z.1 ps) ((bV (a:=[z.1.t,aE ps]) rfl).trans (C.ko z hz ps hp))).trans ((bV (a:=kyT z.1 ps) rfl).trans (JO _))
   .rw[evE,gB];refine(bV (a:=aE ps) ((bV (a:=[aB Z,stT Z,T.str z.1.nm,kyT z.1 ps]) rfl).trans (C.ry z hz _ (JS hb ps) ps (JQ z (h.rw z hz).2.2 hm)))).trans ((bV (a:=aE ps) rfl).trans ?_);rw[JP hp];exact JO _
  exact(bV h1).trans e
def eR(z:Zt)(k:List Kt)(R:List Row):T:=match fnd z k R with
 |some r=>.tup [.str "told",aE r]
 |none=>.tup [.str "refused",.int 1,.int 0]
theorem JV(s6 s7 s8:Sl)(X:T)(k:List Kt):∀(R D:List Row),D++R=z.2->∀s5,∃s5',bU (fun x τ=>(bL [5] x τ).bind fun τ'=>aC G lB τ') (R.map aE) [N,T.int c,rwT z,X,eR z k D,s5,s6,s7,s8,tkT k,aB Z,stT Z,z.1.t] =some (.nx [N,T.int c,rwT z,X,eR z k z.2,s5',s6,s7,s8,tkT k,aB Z,stT Z,z.1.t])
 |[],D,e,s5=>⟨s5,by rw[gI]at e;rw[e];rfl⟩
 |ps::R,D,e,s5=>by
  have hm:ps∈z.2:=by rw[<-e];simp
  have hp:RowOk z.1 ps:=(h.rw z hz).2.1 ps hm;obtain⟨s5',e2⟩:=JV s6 s7 s8 X k R (D++[ps]) (by rw[kF];exact e) (.val (aE ps));refine⟨s5',?_⟩;rw[bE,bU];have hc:evE G (.cmp .eq (.call "_law_key" [.w 12,.w 5]) (.w 9)) (aA [N,T.int c,rwT z,X,eR z k D,aE ps,s6,s7,s8,tkT k,aB Z,stT Z,z.1.t])=some (.bl (decide (bA z.1 ps=k))):=by rw[evE,gB];refine(bV (a:=kyT z.1 ps) ((bV (a:=[z.1.t,aE ps]) rfl).trans (C.lk z hz ps hp))).trans ((bV (a:=tkT k) rfl).trans ?_);show eqC (tkT (bA z.1 ps)) (tkT k)=_;unfold eqC;rw[jW,if_pos (by decide),mC]
  have h1:((bL [5] (aE ps) [N,T.int c,rwT z,X,eR z k D,s5,s6,s7,s8,tkT k,aB Z,stT Z,z.1.t]).bind fun τ'=>aC G lB τ')=some (.nx [N,T.int c,rwT z,X,eR z k (D++[ps]),aE ps,s6,s7,s8,tkT k,aB Z,stT Z,z.1.t]):=by
   show aC G lB [N,T.int c,rwT z,X,eR z k D,aE ps,s6,s7,s8,tkT k,aB Z,stT Z,z.1.t]=_;by_cases ek:bA z.1 ps=k
   .have hD:fnd z k D=none:=by unfold fnd;rw[List.find?_eq_none];intro q hq hqk;have nd:=(h.rw z hz).2.2;rw[<-e,gY,bE,List.nodup_append]at nd;exact nd.2.2 (bA z.1 q) (fS.mpr ⟨q,hq,rfl⟩) (bA z.1 ps) (.head _) ((of_decide_eq_true hqk).trans ek.symm)
    have hd:eR z k (D++[ps])=.tup [.str "told",aE ps]:=by unfold eR;rw[JR,hD];show(match(if bA z.1 ps=k then some ps else none)with|some r=>_|none=>_)=_;rw[if_pos ek]
    rw[dX ek]at hc;rw[hd];exact(jG rfl hc ((bC (t:=.tup [.str "told",aE ps]) rfl rfl rfl).trans rfl)).trans rfl
   .have hd:eR z k (D++[ps])=eR z k D:=by
     unfold eR;rw[JR];cases fnd z k D with
     |some r=>rfl
     |none=>show(match(if bA z.1 ps=k then some ps else none)with|some r=>_|none=>_)=_;rw[if_neg ek]
    rw[eN ek]at hc;rw[hd];exact(bJ (ss:=[]) rfl hc).trans rfl
  exact(bV h1).trans e2
theorem T8(h4:k.length<=4):lP G "row_of" [aB Z,stT Z,.str z.1.nm,tkT k]=some (eR z k z.2):=by
 unfold lP eR;cases e:fnd z k z.2 with
 |some r=>rw[C.ry z hz k h4 r e]
 |none=>obtain⟨e1,e2⟩:=C.rn z hz k h4 e;rw[e1,e2];rfl
theorem T9(k:List Kt):neC (eR z k z.2) (eR z k z.2)=some (.bl false):=by
 unfold eR;cases e:fnd z k z.2 with
 |some r=>have hr:r∈z.2:=List.mem_of_find?_eq_some e;show neC (.tup [.str "told",aE r]) (.tup [.str "told",aE r])=_;rw[JP ((h.rw z hz).2.1 r hr)];exact S7 _ _
 |none=>rfl
theorem JW(s2 s4 s5 s9:Sl)(hp:RowOk z.1 ps):∀(R:List Rl)(i:Nat),(∀j r,R[j]?=some r->z.1.rs[i+j]?=some r)->∀s6 s7 s8,∃s6' s7' s8',bU (fun x τ=>(bL [6,7] x τ).bind fun τ'=>aC G lC τ') (eI (R.map Rl.t) i) [N,T.int c,s2,aE ps,s4,s5,s6,s7,s8,s9,aB Z,stT Z,z.1.t] =some (.nx [N,T.int c,s2,aE ps,s4,s5,s6',s7',s8',s9,aB Z,stT Z,z.1.t])
 |[],i,_,s6,s7,s8=>⟨s6,s7,s8,rfl⟩
 |r::R,i,hR,s6,s7,s8=>by
  have hr:z.1.rs[i]?=some r:=hR 0 r rfl;obtain⟨w0,i0,hw1,hw2⟩:=r0c r;have hc:∀s8,evE G (.cmp .eq (.idx (.w 7) (.c (.int 0))) (.c (.str "check"))) (aA [N,T.int c,s2,aE ps,s4,s5,T.int (i:Int),r.t,s8,s9,aB Z,stT Z,z.1.t])=some (.bl (uU r)):=fun s8=>by rw[<-hw1,evE,evE];exact(bV (a:=T.str w0) ((bV (a:=r.t) rfl).trans i0)).trans ((bV (a:=T.str "check") rfl).trans rfl)
  have h1:∃s8',((bL [6,7] (.tup [.int (i:Int),r.t]) [N,T.int c,s2,aE ps,s4,s5,s6,s7,s8,s9,aB Z,stT Z,z.1.t]).bind fun τ'=>aC G lC τ')=some (.nx [N,T.int c,s2,aE ps,s4,s5,T.int (i:Int),r.t,s8',s9,aB Z,stT Z,z.1.t]):=by
   show ∃s8',aC G lC [N,T.int c,s2,aE ps,s4,s5,T.int (i:Int),r.t,s8,s9,aB Z,stT Z,z.1.t]=_;cases r with
   |chk t=>
    have ek:=C.kp z hz ps hp i t hr;have el:=C.lv z hz ps hp i t hr;have i1:aK (Rl.chk t).t (.int 1)=some t.t:=by rw[Rl.t,aK,cH]
    refine⟨.val (.bl (!decide (hv ps t=some false))),(jG rfl (hc s8) ((bC (t:=.bl (!decide (hv ps t=some false))) (τ':=[N,T.int c,s2,aE ps,s4,s5,T.int (i:Int),(Rl.chk t).t,T.bl (!decide (hv ps t=some false)),s9,aB Z,stT Z,z.1.t]) rfl ?_ rfl).trans ((bJ (ss:=[]) rfl (JT rfl ?_)).trans rfl))).trans rfl⟩
    .rw[gB];exact(bV (a:=[z.1.t,aE ps,T.int (i:Int)]) rfl).trans ek
    .have e9:evE G (.call "_law_level" [.w 12,.idx (.w 7) (.c (.int 1)),.w 3]) (aA [N,T.int c,s2,aE ps,s4,s5,T.int (i:Int),(Rl.chk t).t,T.bl (!decide (hv ps t=some false)),s9,aB Z,stT Z,z.1.t])=some (.int (fJ (hv ps t))):=by rw[gB];refine(bV (a:=[z.1.t,t.t,aE ps]) ?_).trans el;rw[aD,aD,show evE G (.idx (.w 7) (.c (.int 1))) (aA [N,T.int c,s2,aE ps,s4,s5,T.int (i:Int),(Rl.chk t).t,T.bl (!decide (hv ps t=some false)),s9,aB Z,stT Z,z.1.t])=some t.t from(by rw[evE];exact(bV (a:=(Rl.chk t).t) rfl).trans i1)];rfl
     rw[evE];refine(bV (a:=T.bl (!decide (hv ps t=some false))) rfl).trans ((bV (a:=T.bl (decide ((0:Int)<fJ (hv ps t)))) ?_).trans ?_)
     .rw[evE,e9];rfl
     .rw[S9];show neC _ _=_;cases !decide (hv ps t=some false)<;>rfl
   |ref cs g w=>exact⟨s8,(bJ (ss:=[]) rfl (hc s8)).trans rfl⟩
   |unl cs=>exact⟨s8,(bJ (ss:=[]) rfl (hc s8)).trans rfl⟩
  obtain⟨s8',h1⟩:=h1;obtain⟨a,b,d,e⟩:=JW s2 s4 s5 s9 hp R (i+1) (fun j r' hj=>by rw[show i+1+j=i+(j+1) by lia];exact hR (j+1) r' hj) (.val (.int (i:Int))) (.val r.t) s8';refine⟨a,b,d,?_⟩;rw[bE,eI,bU];exact(bV h1).trans e
theorem U0(s2 s3 s4 s5 s6 s7 s8 s9:Sl):∃s2' s3' s4' s5' s6' s7' s8' s9',aC G lT [N,T.int c,s2,s3,s4,s5,s6,s7,s8,s9,aB Z,stT Z,z.1.t]=some (.nx [N,T.int c,s2',s3',s4',s5',s6',s7',s8',s9',aB Z,stT Z,z.1.t]):=by
 have hb:=H.ok _ (h.mem hz);obtain⟨ps,hp,ep⟩:=C.lw z hz;obtain⟨s3',s9',e1⟩:=JU H h C (N:=N) hz s4 s5 s6 s7 s8 z.2 (fun _ q=>q) s3 s9;obtain⟨s5',e2⟩:=JV H h C (N:=N) hz s6 s7 s8 (aE ps) (bA z.1 ps) z.2 [] rfl s5;obtain⟨s6',s7',s8',e3⟩:=JW H h C (N:=N) hz (.val (rwT z)) (.val (eR z (bA z.1 ps) z.2)) s5' (.val (kyT z.1 ps)) hp z.1.rs 0 (fun j r hj=>by rw[Nat.zero_add];exact hj) s6 s7 s8;refine⟨.val (rwT z),.val (aE ps),.val (eR z (bA z.1 ps) z.2),s5',s6',s7',s8',.val (kyT z.1 ps),?_⟩;refine(bC (t:=rwT z) (τ':=[N,T.int c,rwT z,s3,s4,s5,s6,s7,s8,s9,aB Z,stT Z,z.1.t]) rfl ?_ rfl).trans ?_
 .rw[gB];exact(bV (a:=[aB Z,stT Z,T.str z.1.nm]) rfl).trans (C.lr z hz)
 refine(bK (dD (τ0:=[N,T.int c,rwT z,s3,s4,s5,s6,s7,s8,s9,aB Z,stT Z,z.1.t]) (xs:=[rwT z]) (qc:=z.2.map aE) rfl rfl rfl e1)).trans ?_;refine(bC (t:=aE ps) (τ':=[N,T.int c,rwT z,aE ps,s4,s5,s6,s7,s8,s9',aB Z,stT Z,z.1.t]) rfl ?_ rfl).trans ?_
 .rw[gB];exact(bV (a:=[z.1.t,T.int c]) rfl).trans ep
 refine(bC (t:=kyT z.1 ps) (τ':=[N,T.int c,rwT z,aE ps,s4,s5,s6,s7,s8,kyT z.1 ps,aB Z,stT Z,z.1.t]) rfl ?_ rfl).trans ?_
 .rw[gB];exact(bV (a:=[z.1.t,aE ps]) rfl).trans (C.lk z hz ps hp)
 refine(bC (t:=.tup [.str "refused",.int 1,.int 0]) (τ':=[N,T.int c,rwT z,aE ps,eR z (bA z.1 ps) [],s5,s6,s7,s8,kyT z.1 ps,aB Z,stT Z,z.1.t]) rfl rfl rfl).trans ?_;refine(bK (dD (τ0:=[N,T.int c,rwT z,aE ps,eR z (bA z.1 ps) [],s5,s6,s7,s8,kyT z.1 ps,aB Z,stT Z,z.1.t]) (xs:=[rwT z]) (qc:=z.2.map aE) rfl rfl rfl e2)).trans ?_;refine(T7 (ts:=[aB Z,stT Z,.str z.1.nm,kyT z.1 ps]) rfl rfl (T8 H h C hz (JS hb ps)) rfl (T9 H h C hz _)).trans ?_;exact(bK (dD (τ0:=[N,T.int c,rwT z,aE ps,eR z (bA z.1 ps) z.2,s5',s6,s7,s8,kyT z.1 ps,aB Z,stT Z,z.1.t]) (xs:=[.tup (z.1.rs.map Rl.t)]) (qc:=eI (z.1.rs.map Rl.t) 0) rfl rfl rfl e3)).trans rfl
end
theorem U1(H:Sch B)(h:Stn B m Z)(C:Cal5 G Z c)(em0:G.call "_law_mixed" [N,.int 0]=some (.int a))(em1:G.call "_law_mixed" [N,.int 1]=some (.int b))(em2:G.call "_law_mixed" [N,.int 2]=some (.int d))(em3:G.call "_law_mixed" [N,.int 3]=some (.int c))(es:G.call "_law_schema" [.int a]=some (aB Z))(ez:G.call "_law_store" [aB Z,.int b,.int (d%14)]=some (stT Z)):aC G oP.body [.val N,.no,.no,.no,.no,.no,.no,.no,.no,.no,.no,.no,.no]=some (.rt (.bl true)):=by
 rw[T0];refine(bC (t:=aB Z) (τ':=[.val N,.no,.no,.no,.no,.no,.no,.no,.no,.no,.val (aB Z),.no,.no]) rfl ?_ rfl).trans ?_
 .rw[gB,aD,gB];exact(bV (a:=[T.int a]) ((bV (a:=T.int a) ((bV (a:=[N,T.int 0]) rfl).trans em0)).trans rfl)).trans es
 refine(bC (t:=stT Z) (τ':=[.val N,.no,.no,.no,.no,.no,.no,.no,.no,.no,.val (aB Z),.val (stT Z),.no]) rfl ?_ rfl).trans ?_
 .have hm:bO .mod (.int d) (.int 14)=some (.int (d%14)):=rfl;simp only[evE,aD,aA,Sl.get,aY,aZ,aW,aV,aX,aO,em1,em2,hm,ez]
 refine(bC (t:=.int c) (τ':=[.val N,.val (.int c),.no,.no,.no,.no,.no,.no,.no,.no,.val (aB Z),.val (stT Z),.no]) rfl ?_ rfl).trans ?_
 .rw[gB];exact(bV (a:=[N,T.int 3]) rfl).trans em3
 obtain⟨τ',el,_⟩:=fR (enc:=fun z:Zt=>z.1.t) (f:=fun x τ=>(bL [12] x τ).bind fun τ'=>aC G lT τ') (I:=fun _ τ=>∃s2 s3 s4 s5 s6 s7 s8 s9 s12,τ=[.val N,.val (.int c),s2,s3,s4,s5,s6,s7,s8,s9,.val (aB Z),.val (stT Z),s12]) Z [.val N,.val (.int c),.no,.no,.no,.no,.no,.no,.no,.no,.val (aB Z),.val (stT Z),.no] ⟨_,_,_,_,_,_,_,_,_,rfl⟩ fun l1 z l2 e τ hI=>by obtain⟨s2,s3,s4,s5,s6,s7,s8,s9,s12,rfl⟩:=hI;obtain⟨_,_,_,_,_,_,_,_,e2⟩:=U0 H h C (N:=N) (z:=z) (by rw[e];simp) s2 s3 s4 s5 s6 s7 s8 s9;exact⟨_,e2,_,_,_,_,_,_,_,_,_,rfl⟩
 exact(bK (dD (τ0:=[.val N,.val (.int c),.no,.no,.no,.no,.no,.no,.no,.no,.val (aB Z),.val (stT Z),.no]) (xs:=[aB Z]) (qc:=Z.map fun z=>z.1.t) rfl rfl rfl el)).trans (bY rfl rfl)
theorem U2(hc:P.fn "_law_cell_at"=some oM)(hm:P.fn "_law_mixed"=some tW)(ht:P.fn "_law_test"=some iP)(hp:P.fn "_law_pairs"=some mB)(hr:P.fn "_law_rule"=some jT)(hb:P.fn "_law_bare"=some kW)(hs:P.fn "_law_schema"=some tY)(p:Mk P)(g:Pg P)(xro:Tx "row_of"=some qS)(ns:List Int):Ex.runL P Tx oP 20 [.lst (ns.map .int)]=some (.bl true):=by
 obtain⟨B,eS,hSl,hSo,hSp,hSn,hSf⟩:=F4 p.dr ht hp hr hb hs 13 (kX (iG ns 0) 0);have H:Sch B:=⟨hSl,hSp,hSn,hSo,fun b hb=>(hSf b hb).2⟩;obtain⟨M,hM,hM2⟩:∃M:Nat,kX (iG ns 2) 2%14=(M:Int)/\M<=20:=⟨(kX (iG ns 2) 2%14).toNat,by lia,by lia⟩;obtain⟨Z,eZ,hZ⟩:=Q6 p H 13 (kX (iG ns 1) 1) M hM2;rw[<-hM]at eZ;have em:∀k:Nat,(kM P Tx 20).call "_law_mixed" [.lst (ns.map .int),.int (k:Int)]=some (.int (kX (iG ns k) k)):=fun k=>ZK hc hm 18 ns k;have K:=nI p H 18 hZ;have C:Cal5 (kM P Tx 20) Z (kX (iG ns 3) 3):={
  lr:=fun z hz=>K.rw z hz
  lk:=fun z hz qs hq=>K.ky z.1 (hZ.mem hz) qs hq
  ko:=fun z hz qs hq=>JM g.wo g.ky 18 (H.ok _ (hZ.mem hz)) hq
  ry:=fun z hz k h4 r hr=>R8 H hZ hz g 17 h4 hr
  rn:=fun z hz k h4 hr=>⟨R9 H hZ hz g 17 h4 hr,ro_x H hZ hz g 17 h4 xro hr⟩
  lw:=fun z hz=>by obtain⟨ps,e,h⟩:=IA p.dr p.wt p.ro 18 (H.ok _ (hZ.mem hz)) (kX (iG ns 3) 3);exact⟨ps,h,e⟩
  kp:=fun z hz ps hp j t hj=>by have hr:=jL hj;have hb:=H.ok _ (hZ.mem hz);exact S0 g 14 hb hp hj (hb.rs _ hr).fit (H.fit _ (hZ.mem hz) _ hr)
  lv:=fun z hz ps hp j t hj=>by have hr:=jL hj;have hb:=H.ok _ (hZ.mem hz);exact JK p 16 hb hp (hb.rs _ hr) (H.fit _ (hZ.mem hz) _ hr)}
 have h0:=U1 H hZ C (em 0) (em 1) (em 2) (em 3) (by rw[hZ.sch];exact eS) (by rw[hZ.sch];exact eZ);unfold Ex.runL;rw[if_pos (show[T.lst (ns.map .int)].length=oP.np from rfl)];exact(aP bG h0).trans rfl
end Ev.K04
namespace Ev
open PySem Spec PyProof.Rows L2 K04 Ex
noncomputable abbrev top:=wF pT
def tab:Tab:=("table_of",zL,top 12,["schema", "name"])::("worths_of",lZ,top 13,["table", "row", "names"])::("holds",gS,top 15,["table", "test", "row"])::("opposite",nE,top 16,["answer"])::("joined",qG,top 17,["settling", "answers"])::("compared",jS,top 18,["word", "worths"])::("key_of",zN,top 20,["table", "row"])::("rows_of",zP,top 21,["schema", "store", "name"])::("row_of",zQ,top 22,["schema", "store", "name", "key"])::("is_same_key",uP,top 23,["key", "thing"])::("kept",zR,top 24,["table", "row", "number"])::("is_kept",zT,top 25,["table", "row", "rule"])::("_law_cell_at",oM,top 27,["_law_script", "_law_k"])::("_law_mixed",tW,top 28,["_law_script", "_law_k"])::("_law_drawn",iO,top 29,["_law_number", "_law_k"])::("_law_names",nF,top 30,["_law_table_here"])::("_law_table",yA,top 31,["_law_schema_here", "_law_name"])::("_law_key",qH,top 32,["_law_table_here", "_law_row_here"])::("_law_worths",qI,top 33,["_law_table_here", "_law_row_here", "_law_columns"])::("_law_rows",yC,top 34,["_law_schema_here", "_law_store_here", "_law_name"])::("_law_test",iP,top 35,["_law_table_here", "_law_number", "_law_deep"])::("_law_bare",kW,top 36,["_law_name", "_law_number"])::("_law_pairs",mB,top 37,["_law_table_here", "_law_kinds"])::("_law_rule",jT,top 38,["_law_bare_here", "_law_table_here", "_law_number"])::("_law_schema",tY,top 39,["_law_number"])::("_law_worth",iF,top 40,["_law_column", "_law_number"])::("_law_row",yE,top 41,["_law_table_here", "_law_number"])::("_law_level",iQ,top 42,["_law_table_here", "_law_test_here", "_law_row_here"])::("_law_broken",qO,top 43,["_law_schema_here", "_law_store_here", "_law_table_here", "_law_rule_here"])::("_law_links",zE,top 44,["_law_schema_here", "_law_store_here", "_law_way"])::("_law_going",oO,top 45,["_law_schema_here", "_law_store_here", "_law_name", "_law_key_here"])::("_law_put",zF,top 46,["_law_schema_here", "_law_store_here", "_law_name", "_law_rows_here"])::("_law_with",zG,top 47,["_law_table_here", "_law_row_here", "_law_pairs_here"])::("_law_dropped",zH,top 48,["_law_schema_here", "_law_store_here", "_law_gone", "_law_gaps"])::("_law_raw",qP,top 49,["_law_schema_here", "_law_store_here", "_law_deed_here"])::("_law_done",qQ,top 50,["_law_schema_here", "_law_store_here", "_law_deed_here"])::("_law_late",zI,top 51,["_law_schema_here", "_law_store_here"])::("_law_deed",qR,top 53,["_law_schema_here", "_law_store_here", "_law_number"])::("_law_store",zJ,top 54,["_law_schema_here", "_law_number", "_law_many"])::[]
def tax:Tax:=("row_of",qS,top 22,["schema", "store", "name", "key"])::[]
noncomputable abbrev sL:=top 56
noncomputable abbrev sT:=top 55
noncomputable abbrev sI:=clD (top 1)
def JX:(tab.all fun p=>xX p.2.1 p.2.2.1 p.2.2.2&&!glB (aM p.2.2.1) dB)=true:=by kernel_rfl
def U3:(tab.map fun p=>gP 60 ⟨aM p.2.2.1,cM (aM p.2.2.1)⟩ (dI p.2.2.1))=tab.map fun p=>some p.2.1.body:=by kernel_rfl
def tab_st:∀p∈tab,St p.1 p.2.1 p.2.2.1 p.2.2.2:=fun p hp=>GP ((Bool.and_eq_true_iff.mp (oml JX p hp)).1) (List.map_inj_left.mp U3 p hp)
theorem tab_nt:∀p∈tab,glB (aM p.2.2.1) dB=false:=fun p hp=>by simpa using(Bool.and_eq_true_iff.mp (oml JX p hp)).2
theorem law_st:St "law" oP sL [("_law_script":Str)]:=GP (by kernel_rfl) (by kernel_rfl)
def U4:(tax.map fun p=>(dP (trR 60 ⟨aM p.2.2.1,cM (aM p.2.2.1)⟩) (dI p.2.2.1),(cM (aM p.2.2.1)).length,p.2.2.2.length,clsN.all fun x=>!glB (aM p.2.2.1) x||x=="NoRow"))=tax.map fun p=>(some p.2.1.body,p.2.1.ns,p.2.1.np,true):=by kernel_rfl
theorem tax_st:∀p∈tax,StX p.2.1 p.2.2.1 p.2.2.2/\∃D',(p.1,D',p.2.2.1,p.2.2.2)∈tab:=fun p hp=>by
 have e:=List.map_inj_left.mp U4 p hp;have e4:(clsN.all fun x=>!glB (aM p.2.2.1) x||x=="NoRow")=true:=aP (fun z=>z.2.2.2) e;refine⟨⟨aP (fun z=>z.2.2.1) e,aP (fun z=>z.2.1) e,aP (fun z=>z.1) e,fun x hx hg=>?_⟩,?_⟩
 .have:=oml e4 x (List.contains_iff_mem.mp hx);rw[hg]at this;simpa using this
 .cases omg hp;exact⟨_,(.tail _ (.tail _ (.tail _ (.tail _ (.tail _ (.tail _ (.tail _ (.tail _ (.head _)))))))))⟩
theorem U5:(cM (aM sT)=toldN)/\((aM sT).kind,(aM sT).isCoroutine,(aM sT).isGenerator,(toldN.all fun x=>(aM sT).names.lookup x==some .local),((("DealError":Str)::toldC)++(["isinstance", "ValueError", "bool"]:List Str)).all (fun x=>(aM sT).names.lookup x==some .globalImplicit),(aM sT).names.all fun y=>!(y.2==.free))=(.function,false,false,true,true,true):=⟨by kernel_rfl,by kernel_rfl⟩
theorem told_st:ToldS sT:=by
 obtain⟨c0,c⟩:=U5;have e4:(toldN.all fun x=>(aM sT).names.lookup x==some .local)=true:=aP (fun z=>z.2.2.2.1) c;have e5:((("DealError":Str)::toldC)++(["isinstance", "ValueError", "bool"]:List Str)).all (fun x=>(aM sT).names.lookup x==some .globalImplicit)=true:=aP (fun z=>z.2.2.2.2.1) c;have e6:((aM sT).names.all fun y=>!(y.2==.free))=true:=aP (fun z=>z.2.2.2.2.2) c;have lo:∀x∈toldN,(aM sT).names.lookup x=some .local:=fun x hx=>by simpa using oml e4 x hx
 refine⟨⟨congrArg (fun z=>z.1) c,congrArg (fun z=>z.2.1) c,congrArg (fun z=>z.2.2.1) c,by decide,rfl,fun y hy=>.inl (lo y (by cases omg hy;decide)),fun y hy=>by simpa using oml e6 y hy⟩,lo,fun x hx=>by simpa using oml e5 x hx,?_⟩;exact ZI (XJ rfl rfl rfl)
theorem told_bi(kV doc pm:Value)(an:a0 Addr)(cdv ct:Value)(us:List Value)(hl:us.length=1):bindArgs (W.fnOf dB dB (fE sT) (dI sT) (aM sT) .none kV doc pm an cdv ct) ⟨us,[]⟩=pure ((["_law_deed_here"]:List Str).zip us) :=
 xV (fd:=W.fnOf dB dB (fE sT) (dI sT) (aM sT) .none kV doc pm an cdv ct) (as:=[⟨"_law_deed_here",none,⟨338,14,338,28⟩⟩]) (show fE sT=_ by kernel_rfl) rfl (by decide) hl
theorem U6:dI sI=[.Expr (.Call (.Attribute (.Name "ValueError" ⟨5,8,5,18⟩) "__init__" ⟨5,8,5,27⟩) [.Name "self" ⟨5,28,5,32⟩,.Name "words" ⟨5,34,5,39⟩] [] ⟨5,8,5,40⟩) ⟨5,8,5,40⟩,.Assign [.Attribute (.Name "self" ⟨6,8,6,12⟩) "at" ⟨6,8,6,15⟩] (.Name "at" ⟨6,18,6,20⟩) ⟨6,8,6,20⟩]/\fE sI=⟨[],[⟨"self",none,⟨4,17,4,21⟩⟩,⟨"words",none,⟨4,23,4,28⟩⟩,⟨"at",none,⟨4,33,4,35⟩⟩],none,[],[],none,[.Constant (.str "") 0 ⟨4,29,4,31⟩,.Constant (.int 0) 0 ⟨4,36,4,37⟩]⟩:=⟨by kernel_rfl,by kernel_rfl⟩
def uW:((aM sI).kind,(aM sI).isCoroutine,(aM sI).isGenerator,(aM sI).names)=(.function,false,false,[(("self":Str),.local),(("words":Str),.local),(("at":Str),.local),(("ValueError":Str),.globalImplicit)]):=by kernel_rfl
theorem ini_st:IniS sI:=by
 obtain⟨b1,b2⟩:=U6;have e1:(aM sI).names=_:=aP (fun z=>z.2.2.2) uW;have S:FnScope ["self", "words", "at"] ["self", "words", "at"] (aM sI):=⟨aP (fun z=>z.1) uW,aP (fun z=>z.2.1) uW,aP (fun z=>z.2.2.1) uW,by decide,rfl,by rw[e1];decide,by rw[e1];decide⟩;have v:∀{x:Str}{k:NameKind},List.lookup x [(("self":Str),NameKind.local),(("words":Str),NameKind.local),(("at":Str),NameKind.local),(("ValueError":Str),NameKind.globalImplicit)]=some k->(aM sI).names.lookup x=some k:=fun h=>by rw[e1];exact h
 refine⟨fun P w K mg base f dV kV doc pm cdv ct oc an od osl nv hc lk=>?_,fun a kV doc pm an cdv ct u1 u2 t1 t2=>?_⟩
 .rw[b1]at lk ⊢;exact OP lk hc S (v (by decide)) (v (by decide)) (v (by decide)) (v (by decide)) nv fun _=>⟨_,rfl⟩
 .rw[b2];exact⟨_,rfl,rfl⟩
def law_pure:∀ns:List Int,ns.length<=63->runL tab.pr tax.fn oP 20 [.lst (ns.map .int)]=some (.bl true):=fun ns _=>K04.U2 rfl rfl rfl rfl rfl rfl rfl ⟨rfl,rfl,rfl,rfl,rfl,rfl,rfl,rfl,rfl,rfl,rfl,rfl,rfl,rfl,rfl,rfl,rfl,rfl,rfl,rfl⟩ ⟨rfl,rfl,rfl,rfl,rfl,rfl,rfl,rfl,rfl,rfl,rfl,rfl⟩ rfl ns
end Ev
section
namespace Ev
open PySem PySem.Spec PySem.W PyProof.Rows L2 Ex
noncomputable abbrev qT:=qPp pT
noncomputable abbrev xT:=CP pT
noncomputable abbrev sts:=stQ stN pT
noncomputable def hkT:Hook:=GS sts sI
def hd_left':LeftO PySem.Challenge.pw_dealtables_k12_keys_and_rows qT lsT xT hkT.obs hkT.val 7008:=by exact fun w=>((congrFun (congrFun (congrFun PySem.W.Fast.te16613198539260469538 stN) pT) w).trans (PF w)).trans (congrFun (congrFun (congrFun PySem.W.Fast.te4742246816059606431 stN) pT) w).symm
theorem nm_law:("law":Str)=⟨#[108,97,119]⟩:=by decide +kernel
noncomputable def dL:DefRec:=⟨⟨#[108,97,119]⟩,fE (top 56),dI (top 56),aM (top 56),(match top 56 with|.FunctionDef _ _ _ _ _ _ _ _ _ p=>p|_=>⟨0,0,0,0⟩)⟩
def hd_def:defOf qT ("law":Str)=some (dL,[]):=by rw[nm_law];kernel_rfl
def hd_the:Program.theDef PySem.Challenge.pw_dealtables_k12_keys_and_rows ("law":Str)=some (dL.params,dL.body,dL.scope):=by rw[nm_law];kernel_rfl
end Ev
open PySem PySem.W PyProof.Rows
set_option maxRecDepth 100000 in
set_option maxHeartbeats 0 in
theorem PySem.Challenge.cw_dealtables_k12_keys_and_rows_holds : PySem.Challenge.rw_dealtables_k12_keys_and_rows.Holds := by
 w_on;refine PySem.W.holds_law Ev.lw_ok fun said=>?_
 refine PySem.W.holds_open (q:=Ev.qT) (loose:=Ev.lsT) (Xt:=Ev.xT) (XP:=XL Ev.qT []) (Yf:=Ev.hkT.obs) (Ya:=Ev.hkT.val) (YP:=Ev.hkT.says) (N:=7008) Ev.hd_left' Ev.hkT.of Ev.hkT.keeps (fun s e=>xl_of s (Bool.and_eq_true_iff.mp e).1) XL.keeps Ev.hd_def Ev.hd_the rfl (fun s e=>recFacts_of (Bool.and_eq_true_iff.mp e).2) rfl (by assumption) (by decide +kernel) ⟨rfl,rfl,rfl,rfl,rfl,by decide +kernel⟩ ?hw ?hc
 case hw=>w_witness2
 case hc=>exact Ev.walk_seeX (l:=PySem.Challenge.rw_dealtables_k12_keys_and_rows) (n:=63) (k:=20) (x:="_law_script") (tab:=Ev.tab) (tax:=Ev.tax) rfl (by decide) rfl ⟨rfl,by decide,by decide⟩ Ev.nm_law.symm Ev.tab_st Ev.tab_nt Ev.tax_st Ev.told_st Ev.told_bi Ev.ini_st Ev.law_st Ev.law_pure
end
