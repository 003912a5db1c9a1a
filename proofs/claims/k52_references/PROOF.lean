import PyProof.Rows.All
import Wide.All
import OpenK.AllK
import Wide.FinOn
import Lean
import PyProof.EqAt
import PyProof.EqKinds
import PyProof.TupleCall
import PyProof.ExcInit
import PyProof.ExcClass2
import OpenK.KGet
import OpenK.KMake
import PyProof.InstStoreFacts
import PyProof.ExcBaseAll.ValueError
import PyProof.StationsW
import PyProof.ExcArgs
import PySem.Syntax
import PySem.Builtin.Str.Common
import PySem.Eval
import PyProof.CompFree
import PyProof.Cells
import PyProof.NeKinds
import PyProof.FString5
import PyProof.Draws
import PyProof.EnumMake
import PyProof.TupleIter
import PyProof.EnumFor
import KE.KSortTup
import KE.KDictSum
import KE.KItemsList
import PyProof.Rows.SetFrom
import PyProof.Rows.SetListFold
import PyProof.IsiH_list
import PyProof.AttrMiss
import KE.KDictOf
import PyProof.ZipIter
import PyProof.NsDelKeeps
import PyProof.RulesAs
import KE.KTryMore
import KE.KLam
import PySem.Challenge.RW_dealtables_k52_references
set_option Elab.async false
set_option linter.all false
set_option maxRecDepth 100000
set_option maxHeartbeats 8000000
set_option genSizeOf false
set_option bootstrap.genMatcherCode false
noncomputable section
open PySem Spec PyProof.Rows
abbrev Pq:=List (Addr × Obj)
abbrev Vq:=Value->Shared->Prop
abbrev Mq:=Str->Option Value
def fY:=@List.mem_map
def qA:=@List.mem_cons
def dO:=@eq_of_beq
def kJ:=@List.size_toArray
def jC:=@List.getElem?_set_self
def iD:=@List.getElem_mem
def kK:=@List.flatMap_cons
def gI:=@List.nodup_cons
def oM:=@List.map_congr_left
def lO:=@beq_self_eq_true
def jT:=@List.filter_cons
def fQ:=@List.length_set
def mU:=@Array.getElem?_eq_getElem
def qB:=@Heap.SameBut.update
def eF:=@wpAny_field
def fD:=@sizeLine_eq
def uG:=@List.mem_of_mem_take
def iQ:=@List.any_cons
def lP:=@wpAny_pyIter_tuple
def oN:=@List.mem_filter
def kL:=@Int.emod_lt_of_pos
def oO:=@List.all_eq_true
def gU:=@wpAny_holding
def zE:=@beq_eq_false_iff_ne
def oP:=@List.getElem?_append_right
def oQ:=@List.getElem?_append_left
def uH:=@List.sum_cons
def kM:=@Int.emod_nonneg
def qC:=@wpAny_dictEntries
def kN:=@Heap.get?_update_ne
def qD:=@wpAny_typeNameOfWhole_keyiter
def kO:=@wpAny_seqItems
def qE:=@wpAny_fieldsOf
def qF:=@List.nodup_nil
def jU:=@List.pairwise_cons
def mV:=@wpAny_setField_rec
def jD:=@Obj.data_mapFields
def jE:=@List.mem_filterMap
def uI:=@List.length_filter_le
def oR:=@List.getElem?_eq_none
def fZ:=@Option.bind_eq_some_iff
def uJ:=@List.mem_append
def uK:=@List.find?_cons
def uL:=@List.mem_flatMap
def lQ:=@beq_iff_eq
def aA:=@wpAny_bind
def aR:=@Heap.get?_push_of_some
def bK:=@Option.bind_some
def aT:=@List.map_cons
def bS:=@Bool.and_eq_true
def aL:=@wpAny_pure
def bV:=@List.getElem?_eq_getElem
def bE:=@List.length_map
def cO:=@List.size_toArray
def aX:=@Heap.lt_size
def aW:=@Nat.le_refl
def K5:=@List.getElem?_cons_zero
def K6:=@List.getElem?_cons_succ
def bW:=@Heap.get?_push_size
def cK:=@List.mem_cons_of_mem
def fR:=@List.getD_eq_getElem?_getD
def dH:=@Bool.false_ne_true
def aV:=@congrArg
def dP:=@List.append_nil
def dI:=@Nat.lt_of_lt_of_le
def dW:=@List.mem_cons_self
def bP:=@Nat.ne_of_lt
def cP:=@Option.some.inj
def eU:=@List.length_append
def eV:=@List.length_cons
def iE:=@List.getElem?_map
def dY:=@decide_eq_true
def eG:=@decide_eq_false
def dS:=@Nat.le_trans
def eL:=@Heap.size_push
def jF:=@List.filterMap_cons
def gW:=@List.getElem?_set_ne
def iF:=@List.mem_append_right
def gJ:=@List.lookup_cons
def eP:=@List.map_map
def jV:=@Array.length_toList
def iR:=@List.mem_of_getElem?
def iG:=@List.map_append
def uM:=@List.getElem?_append_left
def jG:=@wpAny_newObj_type
def kP:=@wpAny_callSpecial?_slot
def gK:=@Nat.lt_irrefl
def jW:=@List.append_assoc
def zF:=@List.getElem?_append_right
def zG:=@Bool.false_eq_true
def iS:=@wpAny_call_entry
def jH:=@of_decide_eq_true
def K7:=@List.not_mem_nil
def qG:=@decide_eq_true_eq
def iH:=@Nat.zero_le
def fS:=@wpAny_mono
def lR:=@List.mem_range
def K8:=@Int.toNat_natCast
def uN:=@List.length_take
theorem cU {α:Type _} {a:α} {l:List α}:(a::l)[0]?=some a:=rfl
theorem dA {α:Type _} {a:α} {l:List α} {i:Nat}:(a::l)[i+1]?=l[i]?:=rfl
theorem bD {α β:Type _} {a:α} {f:α->Option β}:(some a).bind f=f a:=rfl
theorem dB {α:Type _} {a:Option α}:(some a).join=a:=rfl
theorem cQ {α β:Type _} {a:α} {l:List α} {f:α->β}:(a::l).map f=f a::l.map f:=rfl
theorem cV {α β:Type _} {f:α->β}:[].map f=[]:=rfl
theorem fU {α β:Type _} {a:α} {f:α->β}:(some a).map f=some (f a):=rfl
theorem oS {α:Type _} {a b:α} {l:List α} {n:Nat}:(a::l).set (n+1) b=a::l.set n b:=rfl
theorem oU {α:Type _} {a b:α} {l:List α}:(a::l).set 0 b=b::l:=rfl
theorem obs {α β:Type} {o:Option α} {f:α->Option β} {b:β}:o.bind f=some b->∃ a,o=some a/\f a=some b:=fZ.mp
theorem oms {α β:Type} {o:Option α} {f:α->β} {b:β}:o.map f=some b->∃ a,o=some a/\f a=b:=Option.map_eq_some_iff.mp
theorem omc {α:Type} {a b:α} {l:List α}:a∈b::l->a=b\/a∈l:=qA.mp
theorem oma {α:Type} {a:α} {s t:List α}:a∈s++t->a∈s\/a∈t:=uJ.mp
theorem omm {α β:Type} {f:α->β} {l:List α} {b:β}:b∈l.map f->∃ a,a∈l/\f a=b:=fY.mp
theorem omg {α:Type} {a b:α}:a∈[b]->a=b:=List.mem_singleton.mp
theorem oml {α:Type} {p:α->Bool} {l:List α}:l.all p=true->∀ x,x∈l->p x=true:=oO.mp
theorem ome {α:Type} {l:List α} {i:Nat} {a:α}:l[i]?=some a->∃ h:i<l.length,l[i]=a:=List.getElem?_eq_some_iff.mp
section
namespace L2
open PySem Spec PyProof.Rows
section
abbrev Key:=Sum Int (Option Str)
def zH:Value->Bool
 | .none=>true
 | _=>false
theorem IK {v:Value} (h:zH v=true):v=Value.none:=by cases v<;>first | rfl | cases h
def mW:Key->Value->Bool
 | .inl k,v=>Value.isInt k v
 | .inr (some x),v=>Value.isStrOf x v
 | .inr none,v=>zH v
def keyH (w:World):Key->Int
 | .inl k=>hashInt k
 | .inr (some x)=>hashStr w x
 | .inr none=>4238894112
theorem jX:∀ {k:Key} {v:Value},mW k v=true->(∃ i t,k=Sum.inl i/\v=Value.int i t)\/(∃ x t,k=Sum.inr (some x)/\v=Value.str x t)\/(k=Sum.inr none/\v=Value.none)
 | .inl i,v,h=>by obtain ⟨t,e⟩:=Value.isInt_shape (k:=i) (v:=v) h;exact .inl ⟨i,t,rfl,e⟩
 | .inr (some x),v,h=>by obtain ⟨t,e⟩:=Value.isStrOf_shape (x:=x) (v:=v) h;exact .inr (.inl ⟨x,t,rfl,e⟩)
 | .inr none,v,h=>.inr (.inr ⟨rfl,IK h⟩)
theorem IL (i:Int) (t:Tok):mW (.inl i) (.int i t)=true:=by simp [mW,Value.isInt]
theorem IM (x:Str) (t:Tok):mW (.inr (some x)) (.str x t)=true:=by simp [mW,Value.isStrOf]
theorem IN (a b:Int):decide ((Sum.inl a:Key)=Sum.inl b)=(a==b):=by
 by_cases e:a=b
 .subst e;simp
 .have h:¬ (Sum.inl a:Key)=Sum.inl b:=fun q=>e (Sum.inl.inj q);rw [eG h];exact (zE.mpr e).symm
theorem IP (a b:Str):decide ((Sum.inr (some a):Key)=Sum.inr (some b))=decide (a=b):=by
 by_cases e:a=b
 .subst e;simp
 .have h:¬ (Sum.inr (some a):Key)=Sum.inr (some b):=fun q=>e (cP (Sum.inr.inj q));rw [eG h,eG e]
theorem zI (a:Int) (b:Option Str):decide ((Sum.inl a:Key)=Sum.inr b)=false:=eG (fun q=>nomatch q)
theorem zJ (a:Option Str) (b:Int):decide ((Sum.inr a:Key)=Sum.inl b)=false:=eG (fun q=>nomatch q)
theorem IQ (a:Str):decide ((Sum.inr (some a):Key)=Sum.inr none)=false:=eG (fun q=>nomatch (Sum.inr.inj q))
theorem IS (a:Str):decide ((Sum.inr none:Key)=Sum.inr (some a))=false:=eG (fun q=>nomatch (Sum.inr.inj q))
theorem IT:decide ((Sum.inr none:Key)=Sum.inr none)=true:=dY rfl
theorem zK {prog:Program} {w:World} {A:Around} {E:Vq} {s:Shared} {Q:Int->Shared->Prop} (h:Q 4238894112 { s with toks:=s.toks+1 }):wpAny (model prog w) A (PySem.pyHash .none) Q E s :=
 PySem.W.pyHash_slot (T:="NoneType") rfl PySem.F.slot_NoneType_hash PySem.F.entry_NoneType_hash (PySem.F.args_NoneType_hash_1 _) (beq_builtin_none _) (.inl rfl) (aA (aL (aA (wpAny_mkInt (aL ⟨_,_,rfl,h⟩)))))
def cR (prog:Program) (w:World):PySem.KeyKind prog w Key where
 is:=mW
 hash:=keyH w
 inj:=fun v a b ha hb=>by rcases jX ha with ⟨i,t,rfl,rfl⟩ | ⟨x,t,rfl,rfl⟩ | ⟨rfl,rfl⟩<;>rcases jX hb with ⟨j,u,rfl,e⟩ | ⟨y,u,rfl,e⟩ | ⟨rfl,e⟩<;>first | (cases e;rfl) | cases e
 byValue:=fun k v h=>by rcases jX h with ⟨i,t,rfl,rfl⟩ | ⟨x,t,rfl,rfl⟩ | ⟨rfl,rfl⟩<;>rfl
 pyHash:=fun hv h=>by
  rcases jX hv with ⟨i,t,rfl,rfl⟩ | ⟨x,t,rfl,rfl⟩ | ⟨rfl,rfl⟩
  .exact wpAny_pyHash_int h
  .exact wpAny_pyHash_str h
  .exact zK h
 eqBool:=fun hu hv h=>by
  rcases jX hu with ⟨i,t,rfl,rfl⟩ | ⟨x,t,rfl,rfl⟩ | ⟨rfl,rfl⟩
  .rcases jX hv with ⟨j,u,rfl,rfl⟩ | ⟨y,u,rfl,rfl⟩ | ⟨rfl,rfl⟩
   .rw [IN] at h;exact wpAny_eqBool_int h
   .rw [zI] at h;exact SeqAt.EqAt.int_str i t y u _ _ _ _ h
   .rw [zI] at h;exact SeqAt.EqAt.int_none i t _ _ _ _ h
  .rcases jX hv with ⟨j,u,rfl,rfl⟩ | ⟨y,u,rfl,rfl⟩ | ⟨rfl,rfl⟩
   .rw [zJ] at h;exact SeqAt.EqAt.str_int x t j u _ _ _ _ h
   .rw [IP] at h;exact wpAny_eqBool_str h
   .rw [IQ] at h;exact SeqAt.EqAt.str_none x t _ _ _ _ h
  .rcases jX hv with ⟨j,u,rfl,rfl⟩ | ⟨y,u,rfl,rfl⟩ | ⟨rfl,rfl⟩
   .rw [zJ] at h;exact SeqAt.EqAt.none_int j u _ _ _ _ h
   .rw [IS] at h;exact SeqAt.EqAt.none_str y u _ _ _ _ h
   .rw [IT] at h;exact SeqAt.EqAt.same .none _ _ _ _ h
 «strs»:=fun k x t v h=>by
  rcases jX h with ⟨i,u,rfl,e⟩ | ⟨y,u,rfl,e⟩ | ⟨rfl,e⟩
  .exact nomatch e
  .injection e with e1 _;subst e1;cases v<;>rfl
  .exact nomatch e
theorem IU (prog:Program) (w:World) (i:Int) (t:Tok):(cR prog w).is (.inl i) (.int i t)=true:=IL i t
theorem IV (prog:Program) (w:World) (x:Str) (t:Tok):(cR prog w).is (.inr (some x)) (.str x t)=true:=IM x t
end
section
variable {b:Addr}
inductive V where
 | non | bl (b:Bool) | int (i:Int) | str (x:Str) | byt (b:Array UInt8) | flt (b:UInt64) | ref (a:Addr) | ty (n:String)
 deriving DecidableEq
def aB:V->Value->Prop
 | .non,u=>u=Value.none
 | .bl b,u=>u=Value.bool b
 | .int i,u=>∃ t,u=Value.int i t
 | .str x,u=>∃ t,u=Value.str x t
 | .byt b,u=>∃ t,u=Value.bytes b t
 | .flt b,u=>∃ t,u=Value.float b t
 | .ref a,u=>u=Value.ref a
 | .ty n,u=>u=Value.type n
abbrev aH:List V->List Value->Prop:=Paired aB
theorem aH.length {xs:List V} {us:List Value} (r:aH xs us):xs.length=us.length:=Paired.length r
theorem aH.get:∀ {xs:List V} {us:List Value} {i:Nat} {x:V},aH xs us->xs[i]?=some x->∃ u,us[i]?=some u/\aB x u
 | _,_,_,_,.nil,e=>by simp at e
 | _,_,0,_,.cons r _,e=>by simp at e;subst e;exact ⟨_,rfl,r⟩
 | _,_,i+1,x,.cons _ t,e=>by obtain ⟨u,h1,h2⟩:=aH.get (i:=i) (x:=x) t (by simpa using e);exact ⟨u,by simpa using h1,h2⟩
theorem aH.append:∀ {xs ys:List V} {us ws:List Value},aH xs us->aH ys ws->aH (xs++ys) (us++ws)
 | _,_,_,_,.nil,s=>s
 | _,_,_,_,.cons r t,s=>.cons r (aH.append t s)
theorem aH.take:∀ {xs:List V} {us:List Value} (n:Nat),aH xs us->aH (xs.take n) (us.take n)
 | _,_,0,_=>.nil
 | _,_,_+1,.nil=>.nil
 | _,_,n+1,.cons r t=>.cons r (aH.take n t)
theorem aH.drop:∀ {xs:List V} {us:List Value} (n:Nat),aH xs us->aH (xs.drop n) (us.drop n)
 | _,_,0,r=>r
 | _,_,_+1,.nil=>.nil
 | _,_,n+1,.cons _ t=>aH.drop n t
def dG:Option V->Option Value->Prop
 | some v,some u=>aB v u
 | none,none=>True
 | _,_=>False
def KV {κ:Type}:List (κ × V)->List (κ × Value)->Prop:=Paired fun (p:κ × V) (q:κ × Value)=>p.1=q.1/\aB p.2 q.2
def kV:Key->V
 | .inl i=>.int i
 | .inr (some x)=>.str x
 | .inr none=>.non
abbrev Kq:=List (List Key × V)
inductive HO where
  | lst (xs:List V)
  | tup (xs:List V)
  | dK (qb:List (Key × V)) | dT (qb:Kq)
  | set (S:Int->Bool) (n:Nat)
  | ins (C dx:Addr) (fs:List (Str × V))
  | own (x:Addr)
  | xd (fs:List (Str × V))
  | met (f x:Addr)
  | rng (lo hi:Int)
  | frz (o:Obj) (u:HO)
  | tbl (ps:Array Value)
  | ext (φ:Heap->Prop)
abbrev Hp:=Addr->Option HO
def aJ (H:Hp) (a:Addr) (o:HO):Hp:=fun b=>if b=a then some o else H b
theorem aY {H:Hp} {a:Addr} {o:HO}:aJ H a o a=some o:=by unfold aJ;rw [if_pos rfl]
theorem aN {H:Hp} {a:Addr} {o:HO} (h:b≠a):aJ H a o b=H b:=by unfold aJ;rw [if_neg h]
theorem uO {H:Hp} {a:Addr} {o u:HO}:aJ (aJ H a o) a u=aJ H a u:=by funext b;unfold aJ;split<;>rfl
theorem iI {H:Hp} {a:Addr} {o u:HO} (h:H a=some o) (h':H b=some u) (d:o≠u):a≠b:=by intro e;subst e;rw [h] at h';exact d (cP h')
theorem bQ {H:Hp} {a:Addr} {o:HO} (h:H a=some o) (h':H b=none):a≠b:=by intro e;subst e;rw [h] at h';cases h'
section
variable (P:Program) (w:World)
def aS (H:Hp) (h:Heap) (a:Addr):HO->Prop
 | .lst xs=>xs.length<=sizeLine/\∃ (qc:List Value) (n:Nat),aH xs qc/\h.get? a=some { cls:=.type "list",data:=.seq qc.toArray n }
 | .tup xs=>xs.length<=sizeLine/\∃ qc:List Value,aH xs qc/\IsTup h a qc.toArray
 | .dK qb=>qb.length<=sizeLine/\(a==sysModules)=false/\∃ vs,KV qb vs/\h.DictOf (cR P w) a vs
 | .dT qb=>qb.length<=sizeLine/\(a==sysModules)=false/\∃ xs:List (List Key × Addr × Value),
   Paired (fun (p:List Key × V) (q:List Key × Addr × Value)=>p.1=q.1/\H q.2.1=some (.tup (p.1.map kV))/\aB p.2 q.2.2) qb xs /\
   ∃ o es ep,h.get? a=some o/\o.ExactDict/\o.data=.dict es ep/\es.toList=xs.map (entryOfKey (tupleKind (cR P w)))/\(xs.map (·.1)).Nodup
 | .set S n=>h.SetOf (intKind P w) a S n
 | .ins C dx fs=>H dx=some (.own a)/\fs.length<=1000/\dx≠a/\h.get? a=some (W.instObj C dx) /\
   ∃ mA,h.Ns1 dx mA/\(∀ f,dG (fs.lookup f) (mA f))/\PySem.Within mA (fs.map (·.1))
 | .own _=>∃ o,h.get? a=some o
 | .xd fs=>∃ mA,h.Ns1 a mA/\∀ f,dG (fs.lookup f) (mA f)
 | .rng lo hi=>∃ t u v,h.get? a=some { cls:=.type "range",data:=.fields #[.int lo t,.int hi u,.int 1 v] }
 | .frz o u=>h.get? a=some o/\aS H h a u
 | .tbl ps=>h.get? a=some { cls:=.none,data:=.fields ps }
 | .met f x=>h.get? a=some (W.methodObj (.ref f) (.ref x))
 | .ext φ=>φ h/\(∃ o,h.get? a=some o)/\∀ h1 h2:Heap,φ h1->(∀ o,h1.get? a=some o->h2.get? a=some o)->φ h2
def HOk (H:Hp) (h:Heap):Prop:=∀ a o,H a=some o->aS P w H h a o
end
section
variable {P:Program} {w:World} {H H':Hp} {h h':Heap} {a:Addr} {o:HO}
theorem aS.lt (x:aS P w H h a o):a<h.objs.size:=by
 cases o with
 | lst xs=>obtain ⟨_,_,_,_,e⟩:=x;exact aX e
 | tup xs=>obtain ⟨_,_,_,p⟩:=x;exact p.lt
 | dK qb=>obtain ⟨_,_,_,_,o,_,_,e,_⟩:=x;exact aX e
 | dT qb=>obtain ⟨_,_,_,_,o,_,_,e,_⟩:=x;exact aX e
 | set S n=>obtain ⟨o,_,_,_,e,_⟩:=x;exact aX e
 | ins C dx fs=>obtain ⟨_,_,_,e,_⟩:=x;exact aX e
 | own y=>obtain ⟨_,e⟩:=x;exact aX e
 | xd fs=>obtain ⟨_,⟨_,_,_,e,_⟩,_⟩:=x;exact aX e
 | rng lo hi=>obtain ⟨_,_,_,e⟩:=x;exact aX e
 | frz ob u=>obtain ⟨e,_⟩:=x;exact aX e
 | tbl ps=>exact aX (show h.get? a=some _ from x)
 | met f y=>exact aX (show h.get? a=some _ from x)
 | ext φ=>obtain ⟨_,⟨_,e⟩,_⟩:=x;exact aX e
theorem Paired.mapP {α β:Type} {F G:α->β->Prop}:∀ {l₁:List α} {l₂:List β},Paired F l₁ l₂->(∀ a b,F a b->G a b)->Paired G l₁ l₂:=fun h f=>by
 induction h with
 | nil=>exact .nil
 | cons r t ih=>exact .cons (f _ _ r) ih
theorem aS.stay (x:aS P w H h a o) (k:∀ b u,(b=a\/H b=some (.own a))->h.get? b=some u->h'.get? b=some u)
  (ho:∀ b,H b=some (.own a)->H' b=some (.own a)) (ht:∀ b xs,H b=some (.tup xs)->H' b=some (.tup xs)):aS P w H' h' a o:=by
 induction o with
 | lst xs=>obtain ⟨z,qc,n,r,e⟩:=x;exact ⟨z,qc,n,r,k _ _ (.inl rfl) e⟩
 | tup xs=>obtain ⟨z,qc,r,ob,e,c⟩:=x;exact ⟨z,qc,r,ob,k _ _ (.inl rfl) e,c⟩
 | dK qb=>obtain ⟨z,y,vs,r,ob,es,ep,e,c⟩:=x;exact ⟨z,y,vs,r,ob,es,ep,k _ _ (.inl rfl) e,c⟩
 | dT qb =>obtain ⟨z,y,xs,r,ob,es,ep,e,c⟩:=x;exact ⟨z,y,xs,Paired.mapP r fun p q z=>⟨z.1,ht _ _ z.2.1,z.2.2⟩,ob,es,ep,k _ _ (.inl rfl) e,c⟩
 | set S n=>obtain ⟨ob,es,ep,t,e,c⟩:=x;exact ⟨ob,es,ep,t,k _ _ (.inl rfl) e,c⟩
 | ins C dx fs =>obtain ⟨d,z,ne,e,mA,⟨od,es,ep,e2,c⟩,r⟩:=x;exact ⟨ho _ d,z,ne,k _ _ (.inl rfl) e,mA,⟨od,es,ep,k _ _ (.inr d) e2,c⟩,r⟩
 | own y=>obtain ⟨ob,e⟩:=x;exact ⟨ob,k _ _ (.inl rfl) e⟩
 | xd fs=>obtain ⟨mA,⟨od,es,ep,e,c⟩,r⟩:=x;exact ⟨mA,⟨od,es,ep,k _ _ (.inl rfl) e,c⟩,r⟩
 | rng lo hi=>obtain ⟨t,u,v,e⟩:=x;exact ⟨t,u,v,k _ _ (.inl rfl) e⟩
 | frz ob u ih=>obtain ⟨e,q⟩:=x;exact ⟨k _ _ (.inl rfl) e,ih q⟩
 | tbl ps =>have e:h.get? a=some { cls:=.none,data:=.fields ps }:=x;show h'.get? a=some { cls:=.none,data:=.fields ps };exact k a _ (.inl rfl) e
 | met f y =>have e:h.get? a=some (W.methodObj (.ref f) (.ref y)):=x;show h'.get? a=some (W.methodObj (.ref f) (.ref y));exact k a _ (.inl rfl) e
 | ext φ=>obtain ⟨p,⟨o,e⟩,st⟩:=x;exact ⟨st _ _ p fun o q=>k _ _ (.inl rfl) q,⟨o,k _ _ (.inl rfl) e⟩,st⟩
theorem HOk.lt (x:HOk P w H h) (e:H a=some o):a<h.objs.size:=(x a o e).lt
theorem HOk.fresh (x:HOk P w H h) (e:h.objs.size<=a):H a=none:=by
 cases q:H a with
 | none=>rfl
 | some u=>exact absurd (dI (x.lt q) e) (gK _)
theorem HOk.kept (x:HOk P w H h) (k:∀ b u,h.get? b=some u->h'.get? b=some u):HOk P w H h':=fun a o e =>(x a o e).stay (fun b u _ q=>k b u q) (fun _ q=>q) fun _ _ q=>q
theorem HOk.laid (x:HOk P w H h) (k:∀ b u,h.get? b=some u->h'.get? b=some u) (hp:h.objs.size<=a) (new:aS P w (aJ H a o) h' a o):HOk P w (aJ H a o) h':=fun b u e=>by
 have hn:=x.fresh hp;by_cases hb:b=a
 .subst hb;rw [aY] at e;cases e;exact new
 .rw [aN hb] at e;exact (x b u e).stay (fun c v _ q=>k c v q) (fun c q=>by rw [aN (bQ q hn)];exact q) fun c xs q=>by rw [aN (bQ q hn)];exact q
end
def Rd (H:Hp) (a:Addr) (u:HO):Prop:=H a=some u\/∃ o,H a=some (.frz o u)
theorem Rd.ok {P:Program} {w:World} {H:Hp} {h:Heap} {a:Addr} {u:HO} (r:Rd H a u) (x:HOk P w H h):aS P w H h a u:=by
 rcases r with r | ⟨o,r⟩
 .exact x a u r
 .obtain ⟨_,q⟩:=x a _ r;exact q
def Mut:Option HO->Prop
 | some (.lst _)=>True
 | some (.dK _)=>True
 | some (.dT _)=>True
 | some (.set _ _)=>True
 | some (.ins _ _ _)=>True
 | some (.ext _)=>True
 | _=>False
section
variable {P:Program} {w:World} {H:Hp} {h h':Heap} {x e:Addr} {o':HO}
theorem HOk.write (ok:HOk P w H h) (mu:Mut (H x)) (he:e=x\/H e=some (.own x)) (k:∀ b u,b≠e->h.get? b=some u->h'.get? b=some u) (heo:∃ u,h'.get? e=some u)
  (new:aS P w (aJ H x o') h' x o'):HOk P w (aJ H x o') h':=fun b u q=>by
 have nown:∀ c y,H c=some (.own y)->c≠x:=fun c y r z=>by subst z;rw [r] at mu;exact mu
 have ntup:∀ c xs,H c=some (.tup xs)->c≠x:=fun c xs r z=>by subst z;rw [r] at mu;exact mu
 by_cases hb:b=x
 .subst hb;rw [aY] at q;cases q;exact new
 .rw [aN hb] at q;by_cases hbe:b=e
  .have q':H b=some (.own x):=by
    rcases he with z | z
    .exact absurd (hbe.trans z) hb
    .rw [hbe];exact z
   rw [q] at q';cases q';obtain ⟨v,hv⟩:=heo;exact ⟨v,by rw [hbe];exact hv⟩
  .refine (ok b u q).stay (fun c v hc r=>k c v ?_ r) (fun c r=>by rw [aN (nown c b r)];exact r) fun c xs r=>by rw [aN (ntup c xs r)];exact r
   rcases hc with rfl | hc
   .exact hbe
   .rintro rfl;rcases he with z | z
    .exact nown c b hc z
    .rw [hc] at z;cases z;exact hb rfl
end
structure Un (fs ex:List Addr) (H H':Hp) (h h':Heap):Prop where
 keep:∀ b o,h.get? b=some o->H b=none->b∉fs->b∉ex->h'.get? b=some o
 slot:∀ b o,h.get? b=some o->H b=none->b∈fs->b∉ex->∃ sl,h'.get? b=some { o with slots:=sl }
 free:∀ b o,h.get? b=some o->H b=none->b∉ex->H' b=none
 there:∀ b o,h.get? b=some o->b∉ex->∃ o',h'.get? b=some o'
 tups:∀ b xs,H b=some (.tup xs)->H' b=some (.tup xs)
 frzs:∀ b o u,H b=some (.frz o u)->H' b=some (.frz o u)
 tbls:∀ b ps,H b=some (.tbl ps)->∃ gA,H' b=some (.tbl (ps++gA))
section
variable {fs fs' ex ex':List Addr} {H H1 H2:Hp} {h h1 h2 h':Heap} {a x e:Addr} {o:HO}
theorem Un.any (u:Un fs ex H H1 h h1) {ob:Obj} (q:h.get? b=some ob) (n:H b=none) (hx:b∉ex):∃ sl,h1.get? b=some { ob with slots:=sl }:=by
 by_cases hb:b∈fs
 .exact u.slot b ob q n hb hx
 .exact ⟨ob.slots,u.keep b ob q n hb hx⟩
theorem Un.trans (a:Un fs ex H H1 h h1) (b:Un fs ex H1 H2 h1 h2):Un fs ex H H2 h h2 where
 keep:=fun c ob q n hc hx=>b.keep c ob (a.keep c ob q n hc hx) (a.free c ob q n hx) hc hx
 slot:=fun c ob q n hc hx=>by obtain ⟨sl,e1⟩:=a.slot c ob q n hc hx;obtain ⟨sl',e2⟩:=b.slot c _ e1 (a.free c ob q n hx) hc hx;exact ⟨sl',e2⟩
 free:=fun c ob q n hx=>by obtain ⟨o',e1⟩:=a.there c ob q hx;exact b.free c o' e1 (a.free c ob q n hx) hx
 there:=fun c ob q hx=>by obtain ⟨o',e1⟩:=a.there c ob q hx;exact b.there c o' e1 hx
 tups:=fun c xs q=>b.tups c xs (a.tups c xs q)
 frzs:=fun c ob xs q=>b.frzs c ob xs (a.frzs c ob xs q)
 tbls:=fun c ps q=>by obtain ⟨m1,e1⟩:=a.tbls c ps q;obtain ⟨m2,e2⟩:=b.tbls c _ e1;exact ⟨m1++m2,by rw [e2,Array.append_assoc]⟩
theorem Un.kept (k:∀ b u,h.get? b=some u->h'.get? b=some u):Un fs ex H H h h' :=
 ⟨fun b ob q _ _ _=>k b ob q,fun b ob q _ _ _=>⟨ob.slots,k b ob q⟩,fun _ _ _ n _=>n,fun b ob q _=>⟨ob,k b ob q⟩,fun _ _ q=>q,fun _ _ _ q=>q,fun _ ps q=>⟨#[],by rw [q];simp⟩⟩
theorem Un.refl:Un fs ex H H h h:=Un.kept fun _ _ q=>q
theorem Un.laid (k:∀ b u,h.get? b=some u->h'.get? b=some u) (hp:h.objs.size<=a) (hn:H a=none):Un fs ex H (aJ H a o) h h' where
 keep:=fun b u q _ _ _=>k b u q
 slot:=fun b u q _ _ _=>⟨u.slots,k b u q⟩
 free:=fun b u q n _=>by rw [aN (bP (dI (aX q) hp))];exact n
 there:=fun b u q _=>⟨u,k b u q⟩
 tups:=fun b xs q=>by rw [aN (bQ q hn)];exact q
 frzs:=fun b u xs q=>by rw [aN (bQ q hn)];exact q
 tbls:=fun b ps q=>⟨#[],by rw [aN (bQ q hn),q];simp⟩
theorem Un.write (mu:Mut (H x)) (he:e=x\/H e=some (.own x)) (k:∀ b u,b≠e->h.get? b=some u->h'.get? b=some u) (heo:∃ u,h'.get? e=some u):Un fs ex H (aJ H x o) h h':=by
 have hx:∀ b,H b=none->b≠x:=fun b n z=>by subst z;rw [n] at mu;exact mu
 have hb:∀ b,H b=none->b≠e:=fun b n z=>by
  subst z;rcases he with r | r
  .exact hx b n r
  .rw [n] at r;cases r
 have hm:∀ b u,H b=some u->¬ Mut (some u)->b≠x:=fun b u q nm z=>by subst z;rw [q] at mu;exact nm mu
 refine ⟨fun b u q n _ _=>k b u (hb b n) q,fun b u q n _ _=>⟨u.slots,k b u (hb b n) q⟩,fun b u q n _=>by rw [aN (hx b n)];exact n,fun b u q _=>?_,
  fun b xs q=>by rw [aN (hm b _ q fun z=>z)];exact q,fun b u xs q=>by rw [aN (hm b _ q fun z=>z)];exact q,fun b ps q=>⟨#[],by rw [aN (hm b _ q fun z=>z),q];simp⟩⟩
 by_cases hbe:b=e
 .subst hbe;exact heo
 .exact ⟨u,k b u hbe q⟩
theorem Un.mono (u:Un fs ex H H1 h h1) (hs:∀ b∈fs,b∈fs') (hx:∀ b∈ex,b∈ex'):Un fs' ex' H H1 h h1 :=
 ⟨fun b ob q n hb he=>u.keep b ob q n (fun z=>hb (hs b z)) fun z=>he (hx b z),fun _ _ q n _ he=>u.any q n fun z=>he (hx _ z),fun b ob q n he=>u.free b ob q n fun z=>he (hx b z),fun b ob q he=>u.there b ob q fun z=>he (hx b z),u.tups,u.frzs,u.tbls⟩
end
noncomputable def trk (h:Heap) (H:Hp):List Addr:=(List.range h.objs.size).filter fun a=>(H a).isSome
def jY (h:Heap) (H:Hp):Heap:=PySem.W.hideAll h (trk h H)
theorem IW (h:Heap) (H:Hp):(jY h H).objs.size=h.objs.size:=PySem.W.hideAll_size _ _
theorem IX {h:Heap} {H:Hp} {o:Obj} (e:h.get? b=some o) (n:H b=none):(jY h H).get? b=some o :=
 PySem.W.hideAll_get _ e fun hm=>by have q:(H b).isSome=true:=(oN.mp hm).2;rw [n] at q;simp at q
theorem IY {h:Heap} {H:Hp} {o:Obj} (e:(jY h H).get? b=some o):h.get? b=some o/\H b=none:=by
 have e':h.get? b=some o:=PySem.W.of_hideAll (trk h H) e;refine ⟨e',?_⟩;cases q:H b with
 | none=>rfl
 | some x =>have hm:b∈trk h H:=oN.mpr ⟨List.mem_range.mpr (Heap.lt_size e'),by simp [q]⟩;have z:(jY h H).get? b=none:=PySem.W.hideAll_none (trk h H) hm;rw [z] at e;cases e
noncomputable def IZ (g h:Heap) (L:Addr):Pq:=(List.range h.objs.size).filterMap fun a=>if a=L\/(g.get? a).isSome=true then none else (h.get? a).map fun o=>(a,o)
noncomputable def rest (g h:Heap) (L d:Addr):Pq:=(IZ g h L).filter fun p=>decide (p.1≠d)
end
section
variable {t' i:Nat} {ch:List Addr} {x:Str} {A:Around} {E:Vq}
structure Mod (K:W.Frag) (mg:Mq) (base:Heap):Prop where
 kin:K.In base
 glob:base.Ns mainGlobals mg
 blt:∃ mb,base.Ns builtinsNs mb/\∀ x:Str,x≠"__name__"->mb x=bootBuiltins x
 nolimit:base.NoLimit
structure Cx where
 prog:Program
 w:World
 K:W.Frag
 mg:Mq
 base:Heap
 A:Around
 N:List Str
 s₀:Shared
 H₀:Hp
 env:Env
 outer:List Env
 stack:List Env
 ex:List Addr
 fn:Str->Bool
 calm:Bool
 pn:Pq
 xe:Value->Shared->Prop
noncomputable def frs (l:List Env):List Addr:=l.filterMap (·.frame)
abbrev Cx.fs (X:Cx):List Addr:=frs X.outer
def Vis (sc:Scope) (x:Str):Prop:=sc.names.lookup x=some .local\/sc.names.lookup x=some .cell\/sc.names.lookup x=some .free
def Loc (sc:Scope) (x:Str):Prop:=sc.names.lookup x=some .local\/sc.names.lookup x=some .cell
def Look (env:Env) (h:Heap) (m:Mq) (x:Str) (u:Value):Prop :=
 (env.kindOf x=some .local/\m x=some u)\/((env.kindOf x=some .cell\/env.kindOf x=some .free)/\∃ c,env.cells.lookup x=some c/\h.IsCell c (some u))
structure Cx.Ok (X:Cx):Prop where
 mod:Mod X.K X.mg X.base
 kind:X.env.scope.kind=.function
 glob:X.env.globals=mainGlobals
 blt:X.env.builtins=builtinsNs
 above:X.s₀.heap.objs.size<=X.env.locals
 inj:∀ x y c,X.env.cells.lookup x=some c->X.env.cells.lookup y=some c->x=y
 has:∀ x,(X.env.kindOf x=some .cell\/X.env.kindOf x=some .free)->∃ c,X.env.cells.lookup x=some c
 cab:∀ x c,X.fn x=true->X.env.cells.lookup x=some c->X.s₀.heap.objs.size<=c
 hd:X.calm=true->X.A.handled=none
 frames:X.A.frames=some X.stack
 stk:X.stack=X.outer\/(X.stack=X.env::X.outer/\X.env.frame=some X.env.locals)
 exf:∀ b∈X.ex,b≠X.env.locals/\∀ x c,X.env.cells.lookup x=some c->c≠b
 bs:∀ b o,X.base.get? b=some o->X.s₀.heap.get? b=some o/\X.H₀ b=none
 bsz:X.base.objs.size<=X.s₀.heap.objs.size
 noex:∀ b o,X.base.get? b=some o->b∉X.ex
 exfs:∀ b∈X.ex,b∉X.fs
 funs:X.s₀.heap.FunFrames X.base X.outer
 frf:∀ b∈X.fs,X.H₀ b=none
structure Inv (X:Cx) (pj:Pq) (O:List (Option V)) (H:Hp) (s:Shared):Prop where
 ok:X.Ok
 os:s.os=X.s₀.os
 bare:AllBare s.gens
 base:Un X.fs X.ex X.H₀ H X.s₀.heap s.heap
 loc:∃ m,s.heap.Ns X.env.locals m/\∀ (i:Nat) (x:Str) (v:V),X.N[i]?=some x->O[i]?=some (some v)->Vis X.env.scope x->∃ u,aB v u/\Look X.env s.heap m x u
 cell:∀ x c,X.env.cells.lookup x=some c->∃ v,s.heap.IsCell c v
 free:H X.env.locals=none
 freeC:∀ x c,X.env.cells.lookup x=some c->H c=none
 pin:∀ p∈X.pn++pj,s.heap.get? p.1=some p.2/\H p.1=none/\p.1≠X.env.locals/\p.1∉X.fs/\∀ v,p.2.data≠.cell v
 hok:HOk X.prog X.w H s.heap
 len:O.length=X.N.length
section
variable {X:Cx} {pj:Pq} {O:List (Option V)} {H H':Hp} {s:Shared} {h':Heap}
theorem Cx.Ok.nofr (ok:X.Ok) {b:Addr} {o:Obj} (e:X.base.get? b=some o):b∉X.fs:=fun hb=>by have:=(ok.funs.mem hb).1;rw [e] at this;cases this
theorem Inv.bs (I:Inv X pj O H s):∀ b o,X.base.get? b=some o->s.heap.get? b=some o/\H b=none:=fun b o e =>⟨I.base.keep b o (I.ok.bs b o e).1 (I.ok.bs b o e).2 (I.ok.nofr e) (I.ok.noex b o e),I.base.free b o (I.ok.bs b o e).1 (I.ok.bs b o e).2 (I.ok.noex b o e)⟩
theorem Inv.bk (I:Inv X pj O H s):∀ b o,X.base.get? b=some o->s.heap.get? b=some o:=fun b o e=>(I.bs b o e).1
theorem Inv.mod (I:Inv X pj O H s):Mod X.K X.mg X.base:=I.ok.mod
theorem Inv.kIn (I:Inv X pj O H s):X.K.In s.heap:=I.ok.mod.kin.keeps I.bk
theorem Inv.fr (I:Inv X pj O H s):∃ m,Fr X.base X.env.locals s.heap m :=
 let ⟨m,hn,_⟩:=I.loc
 ⟨m,hn,I.bk,dS I.ok.bsz I.ok.above⟩
theorem Inv.lt (I:Inv X pj O H s):X.env.locals<s.heap.objs.size:=let ⟨_,hn,_⟩:=I.loc;hn.lt
theorem Inv.sz (I:Inv X pj O H s):X.s₀.heap.objs.size<=s.heap.objs.size:=dS I.ok.above (Nat.le_of_lt I.lt)
theorem Inv.nofs (I:Inv X pj O H s) {a:Addr} (h:s.heap.objs.size<=a):a∉X.fs:=fun hb=>by obtain ⟨_,o,ho,_⟩:=I.ok.funs.mem hb;exact absurd (dI (aX ho) (dS I.sz h)) (gK _)
theorem Inv.cne (I:Inv X pj O H s):∀ x c,X.env.cells.lookup x=some c->c≠X.env.locals:=fun x c e z=>by obtain ⟨v,o,ho,hd⟩:=I.cell x c e;obtain ⟨m,⟨o',es,ep,ho',hd',_⟩,_⟩:=I.loc;rw [z,ho'] at ho;cases ho;rw [hd'] at hd;cases hd
theorem Inv.funs (I:Inv X pj O H s):s.heap.FunFrames X.base X.outer:=by
 have all:∀ (l:List Env),(∀ b∈frs l,b∈X.fs)->X.s₀.heap.FunFrames X.base l->s.heap.FunFrames X.base l:=by
  intro l
  induction l with
  | nil=>intro _ _;trivial
  | cons env r ih =>intro hs hl;obtain ⟨hk,⟨L,o,hf,hn,ho,hd⟩,hr⟩:=hl;have hL:L∈X.fs:=hs L (by unfold frs;rw [jF,hf];exact dW);obtain ⟨sl,e⟩:=I.base.slot L o ho (I.ok.frf L hL) hL fun z=>I.ok.exfs L z hL;exact ⟨hk,⟨L,_,hf,hn,e,hd⟩,ih (fun b hb=>hs b (by unfold frs;rw [jF,hf];exact cK _ hb)) hr⟩
 exact all X.outer (fun _ hb=>hb) I.ok.funs
theorem Inv.stack (I:Inv X pj O H s):s.heap.FunFrames X.base X.stack:=by
 rcases I.ok.stk with e | ⟨e,hf⟩
 .rw [e];exact I.funs
 .rw [e];obtain ⟨m,hn,_⟩:=I.loc;refine .cons (by rw [I.ok.kind];decide) hf hn ?_ I.funs;exact Heap.get?_none_of_le (dS I.ok.bsz I.ok.above)
theorem Inv.stkSub (I:Inv X pj O H s):∀ b∈frs X.stack,b∈X.env.locals::X.fs:=fun b hb=>by
 rcases I.ok.stk with e | ⟨e,hf⟩
 .rw [e] at hb;exact cK _ hb
 .rw [e] at hb;unfold frs at hb;rw [jF,hf] at hb;exact hb
theorem Inv.stkFree (I:Inv X pj O H s):∀ b∈frs X.stack,H b=none:=fun b hb=>by
 rcases omc (I.stkSub b hb) with e | hb
 .rw [e];exact I.free
 .obtain ⟨_,o,ho,_⟩:=I.ok.funs.mem hb;exact I.base.free b o ho (I.ok.frf b hb) fun z=>I.ok.exfs b z hb
theorem Inv.step {g':Array GenState} {d':Drawn} (I:Inv X pj O H s)
  (hch:∀ b∈ch,(b∈X.ex\/X.s₀.heap.objs.size<=b)/\b≠X.env.locals/\(∀ x c,X.env.cells.lookup x=some c->c≠b)/\∀ p∈X.pn++pj,p.1≠b)
  (keep:∀ b o,b≠X.env.locals->b∉X.fs->b∉ch->s.heap.get? b=some o->H b=none->h'.get? b=some o)
  (slot:∀ b o,b≠X.env.locals->b∈X.fs->b∉ch->s.heap.get? b=some o->H b=none->∃ sl,h'.get? b=some { o with slots:=sl }) (free:∀ b o,b∉ch->s.heap.get? b=some o->H b=none->H' b=none)
  (there:∀ b o,b∉ch->s.heap.get? b=some o->∃ o',h'.get? b=some o')
  (tups:∀ b xs,H b=some (.tup xs)->H' b=some (.tup xs)) (frzs:∀ b o u,H b=some (.frz o u)->H' b=some (.frz o u)) (tbls:∀ b ps,H b=some (.tbl ps)->∃ gA,H' b=some (.tbl (ps++gA)))
  (ns:∀ m,s.heap.Ns X.env.locals m->h'.Ns X.env.locals m) (hok:HOk X.prog X.w H' h') (hg:AllBare g') :
  Inv X pj O H' { s with heap:=h',gens:=g',drawn:=d',toks:=t' }:=by
 have neL:∀ b o,X.s₀.heap.get? b=some o->b≠X.env.locals:=fun b o e=>bP (dI (aX e) I.ok.above);have neC:∀ b o,X.s₀.heap.get? b=some o->b∉X.ex->b∉ch:=fun b o e hx hb=>by
  rcases (hch b hb).1 with z | z
  .exact hx z
  .exact absurd (dI (aX e) z) (gK _)
 have cellK:∀ x c,X.env.cells.lookup x=some c->∀ v,s.heap.IsCell c v->h'.IsCell c v:=fun x c e v ⟨o,ho,hd⟩=>by
  have nch:c∉ch:=fun z=>(hch c z).2.2.1 x c e rfl;by_cases hc:c∈X.fs
  .obtain ⟨sl,q⟩:=slot c o (I.cne x c e) hc nch ho (I.freeC x c e);exact ⟨_,q,hd⟩
  .exact ⟨o,keep c o (I.cne x c e) hc nch ho (I.freeC x c e),hd⟩
 refine ⟨I.ok,I.os,hg,⟨fun b o e n hb hx=>?_,fun b o e n hb hx=>?_,fun b o e n hx=>?_,fun b o e hx=>?_,fun b xs e=>tups b xs (I.base.tups b xs e),fun b o xs e=>frzs b o xs (I.base.frzs b o xs e),fun b ps e=>?_⟩,?_,fun x c e=>?_,?_,fun x c e=>?_,fun p hp=>?_,hok,I.len⟩
 .exact keep b o (neL b o e) hb (neC b o e hx) (I.base.keep b o e n hb hx) (I.base.free b o e n hx)
 .obtain ⟨sl,e1⟩:=I.base.slot b o e n hb hx;obtain ⟨sl',e2⟩:=slot b _ (neL b o e) hb (neC b o e hx) e1 (I.base.free b o e n hx);exact ⟨sl',e2⟩
 .obtain ⟨o',e1⟩:=I.base.there b o e hx;exact free b o' (neC b o e hx) e1 (I.base.free b o e n hx)
 .obtain ⟨o',e1⟩:=I.base.there b o e hx;exact there b o' (neC b o e hx) e1
 .obtain ⟨m1,e1⟩:=I.base.tbls b ps e;obtain ⟨m2,e2⟩:=tbls b _ e1;exact ⟨m1++m2,by rw [e2,Array.append_assoc]⟩
 .obtain ⟨m,hn,hl⟩:=I.loc;refine ⟨m,ns m hn,fun i x v e1 e2 e3=>?_⟩;obtain ⟨u,r,l⟩:=hl i x v e1 e2 e3;refine ⟨u,r,?_⟩;rcases l with l | ⟨k,c,e,z⟩
  .exact .inl l
  .exact .inr ⟨k,c,e,cellK x c e _ z⟩
 .obtain ⟨v,z⟩:=I.cell x c e;exact ⟨v,cellK x c e v z⟩
 .obtain ⟨m,⟨o,_,_,ho,_⟩,_⟩:=I.loc;exact free _ o (fun z=>(hch _ z).2.1 rfl) ho I.free
 .obtain ⟨v,o,ho,hd⟩:=I.cell x c e;exact free c o (fun z=>(hch c z).2.2.1 x c e rfl) ho (I.freeC x c e)
 .obtain ⟨e,n,ne,nf,d⟩:=I.pin p hp;have nch:p.1∉ch:=fun z=>(hch p.1 z).2.2.2 p hp rfl;exact ⟨keep p.1 p.2 ne nf nch e n,free p.1 p.2 nch e n,ne,nf,d⟩
theorem Inv.un (I:Inv X pj O H s) (u:Un X.fs [] H H' s.heap h') (hok:HOk X.prog X.w H' h'):Inv X pj O H' { s with heap:=h',toks:=t' }:=by
 obtain ⟨m,⟨o,es,ep,ho,r⟩,_⟩:=id I.loc;obtain ⟨sl,hL⟩:=u.any ho I.free (by simp);exact I.step (g':=s.gens) (d':=s.drawn) (ch:=[]) (fun _ z=>nomatch z) (fun b o _ hb _ e n=>u.keep b o e n hb (by simp)) (fun b o _ hb _ e n=>u.slot b o e n hb (by simp)) (fun b o _ e n=>u.free b o e n (by simp)) (fun b o _ e=>u.there b o e (by simp)) u.tups u.frzs u.tbls (fun m' hm=>by obtain ⟨o',es',ep',ho',r'⟩:=hm;rw [ho] at ho';cases ho';exact ⟨_,es',ep',hL,r'⟩) hok I.bare
theorem Inv.call {g':Array GenState} {d':Drawn} (I:Inv X pj O H s) (u:Un (frs X.stack) ch H H' s.heap h') (hok:HOk X.prog X.w H' h') (hg:AllBare g')
  (hch:∀ b∈ch,(b∈X.ex\/X.s₀.heap.objs.size<=b)/\b≠X.env.locals/\(∀ x c,X.env.cells.lookup x=some c->c≠b)/\∀ p∈X.pn++pj,p.1≠b) :
  Inv X pj O H' { s with heap:=h',gens:=g',drawn:=d',toks:=t' }:=by
 obtain ⟨m,⟨o,es,ep,ho,r⟩,_⟩:=id I.loc;obtain ⟨sl,hL⟩:=u.any ho I.free fun z=>(hch _ z).2.1 rfl;exact I.step (ch:=ch) hch (fun b o hL hb hc e n=>u.keep b o e n (fun z=>(omc (I.stkSub b z)).elim hL hb) hc) (fun b o _ _ hc e n=>u.any e n hc) (fun b o hc e n=>u.free b o e n hc) (fun b o hc e=>u.there b o e hc) u.tups u.frzs u.tbls (fun m' hm=>by obtain ⟨o',es',ep',ho',r'⟩:=hm;rw [ho] at ho';cases ho';exact ⟨_,es',ep',hL,r'⟩) hok hg
theorem Inv.turned {it:Addr} (I:Inv X pj O H s) (k:∀ b o,b≠it->s.heap.get? b=some o->h'.get? b=some o) (hn:H it=none) (hL:it≠X.env.locals)
  (h1:it∈X.ex\/X.s₀.heap.objs.size<=it) (h2:∀ x c,X.env.cells.lookup x=some c->c≠it) (h3:∀ p∈X.pn++pj,p.1≠it):Inv X pj O H { s with heap:=h',toks:=t' }:=by
 have nit:∀ b u,H b=some u->b≠it:=fun b u e z=>by rw [z,hn] at e;cases e
 refine I.step (g':=s.gens) (d':=s.drawn) (ch:=[it]) (fun b hb=>?_) (fun b o _ _ hc e _=>k b o (fun z=>hc (by simp [z])) e) (fun b o _ _ hc e _=>⟨o.slots,k b o (fun z=>hc (by simp [z])) e⟩) (fun _ _ _ _ n=>n)
  (fun b o hc e=>⟨o,k b o (fun z=>hc (by simp [z])) e⟩) (fun _ _ e=>e) (fun _ _ _ e=>e) (fun b ps e=>⟨#[],by rw [e];simp⟩) (fun m hm=>?_) (fun b u e=>?_) I.bare
 .have e:b=it:=by simpa using hb
  subst e;exact ⟨h1,hL,h2,h3⟩
 .obtain ⟨o,es,ep,ho,r⟩:=hm;exact ⟨o,es,ep,k _ o (Ne.symm hL) ho,r⟩
 .refine (I.hok b u e).stay (fun c v hc q=>k c v ?_ q) (fun _ q=>q) fun _ _ q=>q;rcases hc with z | z
  .rw [z];exact nit b u e
  .exact nit c _ z
theorem Inv.tok (I:Inv X pj O H s) (t:Nat):Inv X pj O H { s with toks:=t }:=I.un (h':=s.heap) (t':=t) Un.refl I.hok
theorem Inv.kept {t':Nat} (I:Inv X pj O H s) (k:∀ b u,s.heap.get? b=some u->h'.get? b=some u):Inv X pj O H { s with heap:=h',toks:=t' }:=I.un (Un.kept k) (I.hok.kept k)
theorem Inv.laid {a:Addr} {o:HO} {t':Nat} (I:Inv X pj O H s) (k:∀ b u,s.heap.get? b=some u->h'.get? b=some u) (hp:s.heap.objs.size<=a) (new:aS X.prog X.w (aJ H a o) h' a o) :
  Inv X pj O (aJ H a o) { s with heap:=h',toks:=t' }:=I.un (Un.laid k hp (I.hok.fresh hp)) (I.hok.laid k hp new)
theorem Inv.write {x e:Addr} {o:HO} {t':Nat} (I:Inv X pj O H s) (mu:Mut (H x)) (he:e=x\/H e=some (.own x)) (k:∀ b u,b≠e->s.heap.get? b=some u->h'.get? b=some u) (heo:∃ u,h'.get? e=some u)
  (new:aS X.prog X.w (aJ H x o) h' x o):Inv X pj O (aJ H x o) { s with heap:=h',toks:=t' }:=I.un (Un.write mu he k heo) (I.hok.write mu he k heo new)
theorem Inv.pins_of {pins':Pq} (I:Inv X pj O H s) (h:∀ p∈pins',s.heap.get? p.1=some p.2/\H p.1=none/\p.1≠X.env.locals/\p.1∉X.fs/\∀ v,p.2.data≠.cell v):Inv X pins' O H s :=
 ⟨I.ok,I.os,I.bare,I.base,I.loc,I.cell,I.free,I.freeC,fun p hp=>(oma hp).elim (fun z=>I.pin p (List.mem_append_left _ z)) (h p),I.hok,I.len⟩
theorem uP {N:List Str} (hN:N.Nodup) {j:Nat} (a:N[i]?=some x) (b:N[j]?=some x):i=j:=by obtain ⟨h1,e1⟩:=ome a;obtain ⟨h2,e2⟩:=ome b;exact (List.getElem_inj hN).mp (e1.trans e2.symm)
theorem zL {M:Model} {v:V} {u:Value} {Q:Unit->Shared->Prop} (I:Inv X pj O H s) (hN:X.N.Nodup) (hi:X.N[i]?=some x) (hx:Loc X.env.scope x) (r:aB v u)
  (h:∀ s',Inv X pj (O.set i (some v)) H s'->(∃ a,Heap.SameBut a s.heap s'.heap/\(a=X.env.locals\/X.env.cells.lookup x=some a))->Q () s') (hf:X.fn x=true\/X.env.scope.names.lookup x=some .local:=by first | exact .inl rfl | exact .inr rfl | assumption):wpAny M A (storeName X.env x u) Q E s:=by
 obtain ⟨m,hn,hl⟩:=id I.loc;have hcls:(X.env.scope.kind==.class||(X.env.scope.kind==.module&&X.env.locals != X.env.globals))=false:=by rw [I.ok.kind];rfl
 have hiO:i<O.length:=by rw [I.len];exact (ome hi).1
 have cne:=I.cne;have tracked:∀ {a:Addr} {h':Heap},(∃ o,s.heap.get? a=some o/\H a=none)->Heap.SameBut a s.heap h'->HOk X.prog X.w H h':=fun {a h'} ha hs b ob e=>by
  obtain ⟨_,_,hfree⟩:=ha;refine (I.hok b ob e).stay (fun c w' hc q=>(hs.2 c ?_).trans q) (fun _ q=>q) fun _ _ q=>q;rintro rfl;rcases hc with rfl | hc
  .rw [hfree] at e;cases e
  .rw [hfree] at hc;cases hc
 rcases hx with hk | hk
 .refine wpAny_storeName_local hk hn (fun h' hn' hs=>?_) hcls;obtain ⟨oL,_,_,hoL,_⟩:=id hn;refine h _ ⟨I.ok,I.os,I.bare,⟨fun b o e n hb hx=>?_,fun b o e n hb hx=>?_,I.base.free,fun b o e hx=>?_,I.base.tups,I.base.frzs,I.base.tbls⟩,⟨_,hn',fun j y v' e1 e2 e3=>?_⟩,fun y c e=>?_,I.free,I.freeC,fun p hp=>?_,tracked ⟨oL,hoL,I.free⟩ hs,by simpa using I.len⟩ ⟨_,hs,.inl rfl⟩
  .exact (hs.2 b (bP (dI (aX e) I.ok.above))).trans (I.base.keep b o e n hb hx)
  .obtain ⟨sl,e1⟩:=I.base.slot b o e n hb hx;exact ⟨sl,(hs.2 b (bP (dI (aX e) I.ok.above))).trans e1⟩
  .obtain ⟨o',e1⟩:=I.base.there b o e hx;exact ⟨o',(hs.2 b (bP (dI (aX e) I.ok.above))).trans e1⟩
  .by_cases hj:j=i
   .subst hj;rw [hi] at e1;cases e1;rw [jC hiO] at e2;cases e2;exact ⟨u,r,.inl ⟨hk,by simp⟩⟩
   .rw [gW (Ne.symm hj)] at e2;obtain ⟨u',r',q⟩:=hl j y v' e1 e2 e3;refine ⟨u',r',?_⟩;rcases q with ⟨k,e⟩ | ⟨k,c,e,z⟩
    .refine .inl ⟨k,?_⟩;have:y≠x:=fun e=>hj (uP hN e1 (e▸hi));simp [this,e]
    .exact .inr ⟨k,c,e,z.sameBut hs (cne y c e)⟩
  .obtain ⟨w',z⟩:=I.cell y c e;exact ⟨w',z.sameBut hs (cne y c e)⟩
  .obtain ⟨e,n,ne,nf,d⟩:=I.pin p hp;exact ⟨(hs.2 p.1 ne).trans e,n,ne,nf,d⟩
 .have hfn:X.fn x=true:=by
   rcases hf with z | z
   .exact z
   .rw [z] at hk;cases hk
  obtain ⟨c,hc⟩:=I.ok.has x (.inl hk);obtain ⟨w',z⟩:=I.cell x c hc;refine wpAny_storeName_cell I.ok.kind hk hc z (fun h' hc' hs=>?_);obtain ⟨oc,hoc,hocd⟩:=id z;refine h { s with heap:=h' } ⟨I.ok,I.os,I.bare,⟨fun b o e n hb hx=>?_,fun b o e n hb hx=>?_,I.base.free,fun b o e hx=>?_,I.base.tups,I.base.frzs,I.base.tbls⟩,⟨m,hn.sameBut hs (Ne.symm (cne x c hc)),fun j y v' e1 e2 e3=>?_⟩,fun y c' e=>?_,I.free,I.freeC,fun p hp=>?_,tracked ⟨oc,hoc,I.freeC x c hc⟩ hs,by simpa using I.len⟩ ⟨c,hs,.inr hc⟩
  .exact (hs.2 b (bP (dI (aX e) (I.ok.cab x c hfn hc)))).trans (I.base.keep b o e n hb hx)
  .obtain ⟨sl,e1⟩:=I.base.slot b o e n hb hx;exact ⟨sl,(hs.2 b (bP (dI (aX e) (I.ok.cab x c hfn hc)))).trans e1⟩
  .obtain ⟨o',e1⟩:=I.base.there b o e hx;exact ⟨o',(hs.2 b (bP (dI (aX e) (I.ok.cab x c hfn hc)))).trans e1⟩
  .by_cases hj:j=i
   .subst hj;rw [hi] at e1;cases e1;rw [jC hiO] at e2;cases e2;exact ⟨u,r,.inr ⟨.inl hk,c,hc,hc'⟩⟩
   .rw [gW (Ne.symm hj)] at e2;obtain ⟨u',r',q⟩:=hl j y v' e1 e2 e3;refine ⟨u',r',?_⟩;rcases q with q | ⟨k,c',e,z'⟩
    .exact .inl q
    .refine .inr ⟨k,c',e,z'.sameBut hs ?_⟩;rintro rfl;exact hj (uP hN e1 (I.ok.inj _ _ _ e hc▸hi))
  .by_cases hcc:c'=c
   .subst hcc;exact ⟨_,hc'⟩
   .obtain ⟨w2,z2⟩:=I.cell y c' e;exact ⟨w2,z2.sameBut hs hcc⟩
  .obtain ⟨e,n,ne,nf,d⟩:=I.pin p hp;refine ⟨(hs.2 p.1 ?_).trans e,n,ne,nf,d⟩;intro q;rw [q,hoc] at e;have q':oc=p.2:=cP e;exact d w' (by rw [<- q'];exact hocd)
theorem uQ {M:Model} {v:V} {u:Value} {Q:Unit->Shared->Prop} (I:Inv X pj O H s) (hN:X.N.Nodup) (hi:X.N[i]?=some x) (hx:Loc X.env.scope x) (r:aB v u)
  (h:∀ s',Inv X pj (O.set i (some v)) H s'->Q () s') (hf:X.fn x=true\/X.env.scope.names.lookup x=some .local:=by first | exact .inl rfl | exact .inr rfl | assumption):wpAny M A (storeName X.env x u) Q E s :=
 zL I hN hi hx r (fun s' I' _=>h s' I') hf
theorem Inv.call' {s':Shared} (I:Inv X pj O H s) (ho:s'.os=s.os) (u:Un (frs X.stack) ch H H' s.heap s'.heap) (hok:HOk X.prog X.w H' s'.heap) (hg:AllBare s'.gens)
  (hch:∀ b∈ch,(b∈X.ex\/X.s₀.heap.objs.size<=b)/\b≠X.env.locals/\(∀ x c,X.env.cells.lookup x=some c->c≠b)/\∀ p∈X.pn++pj,p.1≠b):Inv X pj O H' s':=by
 obtain ⟨h',g',d',t',o'⟩:=s';have e:o'=s.os:=ho;subst e;exact I.call (g':=g') (t':=t') (d':=d') u hok hg hch
end
abbrev XK:=Value->Option Addr->Hp->Prop
abbrev St:=List (Option V)
abbrev VK:=V->Hp->Prop
abbrev TE:=St->Hp->VK->Prop
abbrev TT:=St->Hp->(Bool->Hp->Prop)->Prop
abbrev TA:=St->Hp->(List V->Hp->Prop)->Prop
structure Ends where
 nx:St->Hp->Prop
 rt:VK
 bk:St->Hp->Prop:=fun _ _=>False
 ct:St->Hp->Prop:=fun _ _=>False
abbrev TS:=Ends->St->Hp->Prop
def EP (X:Cx) (pj:Pq) (O:St) (Q:VK) (u:Value) (s':Shared):Prop:=∃ v H',Inv X pj O H' s'/\aB v u/\Q v H'
def TP (X:Cx) (pj:Pq) (O:St) (Q:Bool->Hp->Prop) (b:Bool) (s':Shared):Prop:=∃ H',Inv X pj O H' s'/\Q b H'
def AP (X:Cx) (pj:Pq) (O:St) (Q:List V->Hp->Prop) (us:List Value) (s':Shared):Prop:=∃ vs H',Inv X pj O H' s'/\aH vs us/\Q vs H'
def SP (X:Cx) (pj:Pq) (D:Ends) (f:Flow) (s':Shared):Prop :=
 match f with
 | .next=>∃ O' H',Inv X pj O' H' s'/\D.nx O' H'
 | .brk=>∃ O' H',Inv X pj O' H' s'/\D.bk O' H'
 | .cont=>∃ O' H',Inv X pj O' H' s'/\D.ct O' H'
 | .ret u=>∃ v O' H',Inv X pj O' H' s'/\aB v u/\D.rt v H'
def PE (X:Cx) (e:Expr) (t:TE):Prop :=
 ∀ (pj:Pq) (s:Shared) (O:St) (H:Hp) (Q:VK),Inv X pj O H s->t O H Q->wpAny (model X.prog X.w) X.A (eval e X.env) (EP X pj O Q) X.xe s
def PT (X:Cx) (e:Expr) (t:TT):Prop :=
 ∀ (pj:Pq) (s:Shared) (O:St) (H:Hp) (Q:Bool->Hp->Prop),Inv X pj O H s->t O H Q->wpAny (model X.prog X.w) X.A (isTrue e X.env (eval e X.env)) (TP X pj O Q) X.xe s
def PW (X:Cx) (e:Expr) (t:TT):Prop :=
 ∀ (whole:Sem Value) (pj:Pq) (s:Shared) (O:St) (H:Hp) (Q:Bool->Hp->Prop),Inv X pj O H s->t O H Q->wpAny (model X.prog X.w) X.A (isTrue e X.env whole) (TP X pj O Q) X.xe s
theorem PW.pt {X:Cx} {e:Expr} {t:TT} (h:PW X e t):PT X e t:=h _
def PA (X:Cx) (es:List Expr) (t:TA):Prop :=
 ∀ (pos:Pos) (pj:Pq) (s:Shared) (O:St) (H:Hp) (Q:List V->Hp->Prop),Inv X pj O H s->t O H Q->wpAny (model X.prog X.w) X.A (spliced (backTo pos (starEach es X.env))) (AP X pj O Q) X.xe s
def PS (X:Cx) (st:Stmt) (t:TS):Prop :=
 ∀ (pj:Pq) (s:Shared) (O:St) (H:Hp) (D:Ends),Inv X pj O H s->t D O H->wpAny (model X.prog X.w) X.A (exec st X.env) (SP X pj D) X.xe s
def PSs (X:Cx) (st:List Stmt) (t:TS):Prop :=
 ∀ (pj:Pq) (s:Shared) (O:St) (H:Hp) (D:Ends),Inv X pj O H s->t D O H->wpAny (model X.prog X.w) X.A (execs st X.env) (SP X pj D) X.xe s
theorem thn {α:Type} {t:Sem α} {Q Q':α->Shared->Prop} {M:Model} {s:Shared} (h:wpAny M A t Q E s) (hQ:∀ a s,Q a s->Q' a s):wpAny M A t Q' E s:=fS h hQ fun _ _ x=>x
end
section
variable {x:Str} {E Q:Vq} {pj:Pq} {u:Value}
section
variable {X:Cx}
def mX (i:Nat):TE:=fun O H Q=>∃ v,O[i]?=some (some v)/\Q v H
def tC (v:V):TE:=fun _ H Q=>Q v H
theorem kQ {i:Nat} {pos:Pos} (hN:X.N[i]?=some x) (hv:Vis X.env.scope x) (hd:(x==("__debug__":Str))=false:=by decide) (hcd:(x==("__classdict__":Str))=false:=by decide):PE X (.Name x pos) (mX i):=by
 intro pj s O H Q I h;obtain ⟨v,e,h⟩:=h;obtain ⟨m,hn,hl⟩:=I.loc;obtain ⟨u,r,l⟩:=hl i x v hN e hv;have fin:EP X pj O Q u s:=⟨v,H,I,r,h⟩;rcases l with ⟨hk,hm⟩ | ⟨hk,c,hc,hcell⟩
 .exact wpAny_Name (wpAny_loadName_local I.ok.kind hk hn hm fin) hd
 .rcases hk with hk | hk
  .exact wpAny_Name (wpAny_loadName_cell I.ok.kind hk hc hcell fin) hd
  .exact wpAny_Name (wpAny_loadName_free I.ok.kind hk hc hcell fin hcd) hd
theorem qH {i j pos}:PE X (.Constant (.int i) j pos) (tC (.int i)):=fun _ _ _ H _ I h=>wpAny_Constant_int ⟨.int i,H,I.tok _,⟨_,rfl⟩,h⟩
theorem uR {b j pos}:PE X (.Constant (.bool b) j pos) (tC (.bl b)):=fun _ _ _ H _ I h=>Constant_bool ⟨.bl b,H,I,rfl,h⟩
theorem JA {j pos}:PE X (.Constant .none j pos) (tC .non):=fun _ _ _ H _ I h=>Constant_none ⟨.non,H,I,rfl,h⟩
theorem oV {x j pos}:PE X (.Constant (.str x) j pos) (tC (.str x)):=fun _ _ _ H _ I h=>Calls.Constant_str ⟨.str x,H,I.tok _,⟨_,rfl⟩,h⟩
def Gl (X:Cx) (x:Str):Prop:=X.env.kindOf x=some .globalImplicit
theorem oW {s:Shared} {O:St} {H:Hp} {pos:Pos} (I:Inv X pj O H s) (hg:Gl X x) (hm:X.mg x=some u) (h:Q u s)
  (hd:(x==("__debug__":Str))=false:=by decide):wpAny (model X.prog X.w) X.A (eval (.Name x pos) X.env) Q E s :=
 Calls.Name_function_global I.ok.kind hg (Calls.loadGlobal_global (by rw [I.ok.glob];exact I.mod.glob.keeps I.bk) hm h) hd
theorem lS {s:Shared} {O:St} {H:Hp} {pos:Pos} (I:Inv X pj O H s) (hg:Gl X x) (hm:X.mg x=none) (hv:bootBuiltins x=some u) (h:Q u s)
  (hn:x≠"__name__":=by decide) (hd:(x==("__debug__":Str))=false:=by decide):wpAny (model X.prog X.w) X.A (eval (.Name x pos) X.env) Q E s:=by
 obtain ⟨mb,h1,h2⟩:=I.mod.blt;exact Calls.Name_function_global I.ok.kind hg (Calls.loadGlobal_builtin (by rw [I.ok.glob];exact I.mod.glob.keeps I.bk) hm (by rw [I.ok.blt];exact h1.keeps I.bk) ((h2 x hn).trans hv) h) hd
theorem JB {v:V} {pos:Pos} (hg:Gl X x) (hm:X.mg x=some u) (r:aB v u) (hd:(x==("__debug__":Str))=false:=by decide):PE X (.Name x pos) (tC v) :=
 fun _ _ _ H _ I h=>oW I hg hm ⟨v,H,I,r,h⟩ hd
theorem uS {v:V} {pos:Pos} (hg:Gl X x) (hm:X.mg x=none) (hv:bootBuiltins x=some u) (r:aB v u) (hn:x≠"__name__":=by decide) (hd:(x==("__debug__":Str))=false:=by decide):PE X (.Name x pos) (tC v) :=
 fun _ _ _ H _ I h=>lS I hg hm hv ⟨v,H,I,r,h⟩ hn hd
variable {a b:Expr} {ta tb:TE} {pos:Pos}
theorem JC (b:Expr) {op:CmpOp} (h:op≠.In) (h2:op≠.NotIn):behindInMarks op b=false:=by
 have e1:(op==CmpOp.In)=false:=by cases op<;>first | rfl | exact absurd rfl h
 have e2:(op==CmpOp.NotIn)=false:=by cases op<;>first | rfl | exact absurd rfl h2
 cases b<;>simp [behindInMarks,e1,e2]
def tB (t:TE):TT:=fun O H Q=>t O H fun x H1=>∃ c,x=.bl c/\Q c H1
theorem zM {e:Expr} {t:TE} (h:PE X e t) (he:∀ whole,isTrue e X.env whole=(do let v <- whole;standAt e.pos;holding [v] (truthy v)):=by intro _;rfl):PT X e (tB t):=by intro pj s O H Q I hw;refine isTrue_plain (thn (h pj s O H _ I hw) fun v s1 ⟨x,H1,I1,r1,q1⟩=>?_) (he _);obtain ⟨d,rfl,q⟩:=q1;cases r1;exact wpAny_truthy_bool ⟨H1,I1,q⟩
variable {tA tB':TT} {rest:List Expr}
def tAnd (t u:TT):TT:=fun O H Q=>t O H fun c H1=>if c=true then u O H1 Q else Q false H1
def tNot (t:TT):TT:=fun O H Q=>t O H fun c H1=>Q (!c) H1
theorem zN (ha:PT X a tA):PW X (.BoolOp .And [a] pos) tA:=by
 intro wh pj s O H Q I h;refine isTrue_and (thn (ha pj s O H Q I h) fun c s1 e=>?_);cases c with
 | true=>exact isTrue_and_nil e
 | false=>exact e
theorem JD (ha:PT X a tA):PW X (.BoolOp .Or [a] pos) tA:=by
 intro wh pj s O H Q I h;refine isTrue_or (thn (ha pj s O H Q I h) fun c s1 e=>?_);cases c with
 | false=>exact isTrue_or_nil e
 | true=>exact e
theorem uT (ha:PT X a tA) (hb:PW X (.BoolOp .And (b::rest) pos) tB'):PW X (.BoolOp .And (a::b::rest) pos) (tAnd tA tB'):=by
 intro wh pj s O H Q I h;refine isTrue_and (thn (ha pj s O H _ I h) fun c s1 ⟨H1,I1,q1⟩=>?_);cases c with
 | true=>exact hb wh pj s1 O H1 Q I1 q1
 | false=>exact ⟨H1,I1,q1⟩
theorem zO (ha:PT X a tA):PT X (.UnaryOp .Not a pos) (tNot tA):=by intro pj s O H Q I h;exact isTrue_not (ha pj s O H (fun c H1=>Q (!c) H1) I h)
def JE (ta tb:TE):TE:=fun O H Q=>ta O H fun x H1=>∃ c,x=.bl c/\if c=true then tb O H1 Q else Q (.bl false) H1
def JF (ta:TE):TE:=fun O H Q=>ta O H fun x H1=>∃ c,x=.bl c/\Q (.bl (!c)) H1
theorem JG {op} {t:TE} (h:PE X a t):PE X (.BoolOp op [a] pos) t:=fun pj s O H Q I hw=>BoolOp_one (h pj s O H Q I hw)
theorem JH (ha:PE X a ta) (hb:PE X (.BoolOp .And (b::rest) pos) tb):PE X (.BoolOp .And (a::b::rest) pos) (JE ta tb):=by
 intro pj s O H Q I h;refine BoolOp_and (thn (ha pj s O H _ I h) fun v s1 ⟨x,H1,I1,r1,q1⟩=>?_);obtain ⟨c,rfl,q1⟩:=q1;cases r1;refine wpAny_truthy_bool ?_;cases c with
 | true=>exact hb pj s1 O H1 Q I1 q1
 | false=>exact ⟨.bl false,H1,I1,rfl,q1⟩
theorem JI (ha:PE X a ta):PE X (.UnaryOp .Not a pos) (JF ta):=by intro pj s O H Q I h;refine UnaryOp_ (thn (ha pj s O H _ I h) fun v s1 ⟨x,H1,I1,r1,q1⟩=>?_);obtain ⟨c,rfl,q1⟩:=q1;cases r1;exact not_of (wpAny_truthy_bool ⟨.bl (!c),H1,I1,rfl,q1⟩)
end
end
section
variable {K:W.Frag} {es:List Expr} {tg:Expr} {P:Program} {w:World}
def SqL (K:W.Frag) (H:Hp) (a:Addr) (xs:List V):Prop :=
 Rd H a (.lst xs) \/
  ∃ (o:Obj) (qc:Array Value) (n:Nat),K.lookup a=some o/\o.cls=.type "list"/\o.dict=none/\o.data=.seq qc n/\qc.size<=sizeLine/\aH xs qc.toList
def SqT (K:W.Frag) (H:Hp) (a:Addr) (xs:List V):Prop :=
 Rd H a (.tup xs) \/
  ∃ (o:Obj) (qc:Array Value) (n:Nat),K.lookup a=some o/\o.cls=.type "tuple"/\o.data=.seq qc n/\qc.size<=sizeLine/\aH xs qc.toList
noncomputable def absV:Value->Option V
 | .none=>some .non
 | .bool b=>some (.bl b)
 | .int i _=>some (.int i)
 | .str x _=>some (.str x)
 | .bytes b _=>some (.byt b)
 | .float b _=>some (.flt b)
 | .ref a=>some (.ref a)
 | .type n=>some (.ty n)
 | _=>none
theorem aB.abs {x:V} {u:Value} (r:aB x u):absV u=some x:=by
 cases x with
 | non=>cases r;rfl
 | bl _=>cases r;rfl
 | int _=>obtain ⟨t,rfl⟩:=r;rfl
 | str _=>obtain ⟨t,rfl⟩:=r;rfl
 | byt _=>obtain ⟨t,rfl⟩:=r;rfl
 | flt _=>obtain ⟨t,rfl⟩:=r;rfl
 | ref _=>cases r;rfl
 | ty _=>cases r;rfl
theorem aB.inj {x y:V} {u:Value} (r:aB x u) (q:aB y u):x=y:=cP (r.abs.symm.trans q.abs)
theorem aH.inj {xs ys:List V} {us:List Value} (h:aH xs us) (h':aH ys us):xs=ys:=by
 induction h generalizing ys with
 | nil=>cases h';rfl
 | cons r t ih =>
  cases h' with
  | cons r' t'=>rw [r.inj r',ih t']
section
variable {X:Cx} {pj:Pq} {O:St} {H:Hp} {s:Shared} {a:Addr} {xs ys:List V}
theorem SqL.of (h:H a=some (.lst xs)):SqL K H a xs:=.inl (.inl h)
theorem SqT.of (h:H a=some (.tup xs)):SqT K H a xs:=.inl (.inl h)
theorem Inv.list (I:Inv X pj O H s) (h:SqL X.K H a xs):∃ qc:List Value,aH xs qc/\PlainL s.heap a qc.toArray/\xs.length<=sizeLine:=by
 rcases h with h | ⟨o,qc,n,hk,hc,hd,hs,hz,r⟩
 .obtain ⟨z,qc,n,r,e⟩:=h.ok I.hok;exact ⟨qc,r,⟨_,n,e,rfl,rfl,rfl⟩,z⟩
 .refine ⟨qc.toList,r,⟨o,n,I.kIn a o hk,hc,hd,by simpa using hs⟩,?_⟩;have e:=r.length;simp only [Array.length_toList] at e;lia
theorem Inv.tuple (I:Inv X pj O H s) (h:SqT X.K H a xs):∃ qc:List Value,aH xs qc/\IsTup s.heap a qc.toArray/\xs.length<=sizeLine:=by
 rcases h with h | ⟨o,qc,n,hk,hc,hs,hz,r⟩
 .obtain ⟨z,qc,r,p⟩:=h.ok I.hok;exact ⟨qc,r,p,z⟩
 .refine ⟨qc.toList,r,⟨o,I.kIn a o hk,hc,n,by simpa using hs⟩,?_⟩;have e:=r.length;simp only [Array.length_toList] at e;lia
theorem Inv.list_inj (I:Inv X pj O H s) (h:SqL X.K H a xs) (h':SqL X.K H a ys):xs=ys:=by
 obtain ⟨qc,r,⟨o,n,e,_,_,d⟩,_⟩:=I.list h;obtain ⟨its',r',⟨o',n',e',_,_,d'⟩,_⟩:=I.list h';rw [e] at e';cases e';rw [d] at d';injection d' with d1 _;have:qc=its':=by simpa using congrArg Array.toList d1
 subst this;exact r.inj r'
theorem Inv.tuple_inj (I:Inv X pj O H s) (h:SqT X.K H a xs) (h':SqT X.K H a ys):xs=ys:=by
 obtain ⟨qc,r,⟨o,e,_,n,d⟩,_⟩:=I.tuple h;obtain ⟨its',r',⟨o',e',_,n',d'⟩,_⟩:=I.tuple h';rw [e] at e';cases e';rw [d] at d';injection d' with d1 _;have:qc=its':=by simpa using congrArg Array.toList d1
 subst this;exact r.inj r'
end
abbrev Cx.wish (X:Cx) (E:Vq):Cx:={ X with xe:=E }
abbrev Cx.nox (X:Cx):Cx:=X.wish fun _ _=>False
theorem Cx.Ok.wish {X:Cx} (ok:X.Ok) (E:Vq):(X.wish E).Ok :=
 ⟨ok.mod,ok.kind,ok.glob,ok.blt,ok.above,ok.inj,ok.has,ok.cab,ok.hd,ok.frames,ok.stk,ok.exf,ok.bs,ok.bsz,ok.noex,ok.exfs,ok.funs,ok.frf⟩
theorem Cx.Ok.unwish {X:Cx} {E:Vq} (ok:(X.wish E).Ok):X.Ok :=
 ⟨ok.mod,ok.kind,ok.glob,ok.blt,ok.above,ok.inj,ok.has,ok.cab,ok.hd,ok.frames,ok.stk,ok.exf,ok.bs,ok.bsz,ok.noex,ok.exfs,ok.funs,ok.frf⟩
section
variable {X:Cx} {pj:Pq} {O:St} {H:Hp} {s:Shared} {E:Vq}
theorem Inv.wish (I:Inv X pj O H s) (E:Vq):Inv (X.wish E) pj O H s:=⟨I.ok.wish E,I.os,I.bare,I.base,I.loc,I.cell,I.free,I.freeC,I.pin,I.hok,I.len⟩
theorem Inv.unwish (I:Inv (X.wish E) pj O H s):Inv X pj O H s:=⟨I.ok.unwish,I.os,I.bare,I.base,I.loc,I.cell,I.free,I.freeC,I.pin,I.hok,I.len⟩
theorem SP.unwish {D:Ends} {f:Flow} {s':Shared} (h:SP (X.wish E) pj D f s'):SP X pj D f s':=by
 cases f with
 | next=>obtain ⟨O',H',I,q⟩:=h;exact ⟨O',H',I.unwish,q⟩
 | brk=>obtain ⟨O',H',I,q⟩:=h;exact ⟨O',H',I.unwish,q⟩
 | cont=>obtain ⟨O',H',I,q⟩:=h;exact ⟨O',H',I.unwish,q⟩
 | ret u=>obtain ⟨v,O',H',I,r,q⟩:=h;exact ⟨v,O',H',I.unwish,r,q⟩
theorem PSs.nox {st:List Stmt} {t:TS} (h:PSs X.nox st t):PSs X st t:=fun pj s O H D I hw =>fS (h pj s O H D (I.wish _) hw) (fun _ _ q=>q.unwish) fun _ _ z=>False.elim z
end
section
variable {X:Cx} {st:Stmt} {rest:List Stmt} {t u:TS} {e:Expr} {te:TE} {pos:Pos}
def JJ:TS:=fun D O H=>D.nx O H
def tSeq (t u:TS):TS:=fun D O H=>t { D with nx:=u D } O H
theorem uU:PSs X [] JJ:=fun _ _ O H _ I h=>wpAny_execs_nil ⟨O,H,I,h⟩
theorem mY (h1:PS X st t) (h2:PSs X rest u):PSs X (st::rest) (tSeq t u):=by
 intro pj s O H D I h;refine wpAny_execs_cons (thn (h1 pj s O H { D with nx:=u D } I h) fun f s1 q=>?_);cases f with
 | next =>obtain ⟨O',H',I',q⟩:=q;exact h2 pj s1 O' H' D I' q
 | ret v=>exact q
 | brk=>exact q
 | cont=>exact q
theorem oX (h1:PS X st t):PSs X [st] t:=by
 intro pj s O H D I h;refine wpAny_execs_cons (thn (h1 pj s O H D I h) fun f s1 q=>?_);cases f with
 | next=>exact wpAny_execs_nil q
 | ret v=>exact q
 | brk=>exact q
 | cont=>exact q
theorem Inv.quiet {pj:Pq} {O:St} {H:Hp} {s:Shared} (I:Inv X pj O H s):interactive X.env=false:=by simp [interactive,I.ok.kind]
def JK (te:TE):TS:=fun D O H=>te O H fun _ H1=>D.nx O H1
theorem lT (he:PE X e te) (hs:swapsWith e none pos.line X.env=pure false:=by rfl):PS X (.Expr e pos) (JK te):=by intro pj s O H D I h;exact wpAny_Expr_any (thn (he pj s O H _ I h) fun v s1 ⟨x,H1,I1,r1,q1⟩=>⟨O,H1,I1,q1⟩) I.quiet hs
def tRet (te:TE):TS:=fun D O H=>te O H D.rt
theorem zP (he:PE X e te):PS X (.Return (some e) pos) (tRet te):=by intro pj s O H D I h;exact wpAny_Return_some (thn (he pj s O H _ I h) fun v s1 ⟨x,H1,I1,r1,q1⟩=>⟨x,O,H1,I1,r1,q1⟩)
def tIfS (c:TT) (t u:TS):TS:=fun D O H=>c O H fun b H1=>if b=true then t D O H1 else u D O H1
theorem uV {c:Expr} {a b:List Stmt} {tc:TT} (hc:PT X c tc) (ha:PSs X a t) (hb:PSs X b u):PS X (.If c a b pos) (tIfS tc t u):=by
 intro pj s O H D I h;refine wpAny_If (thn (hc pj s O H _ I h) fun d s1 ⟨H1,I1,q1⟩=>?_);cases d with
 | true=>exact ha pj s1 O H1 D I1 q1
 | false=>exact hb pj s1 O H1 D I1 q1
end
abbrev TG:=V->St->Hp->(St->Hp->Prop)->Prop
abbrev TGs:=List V->St->Hp->(St->Hp->Prop)->Prop
def PG (X:Cx) (target:Expr) (t:TG):Prop :=
 ∀ (pj:Pq) (s:Shared) (O:St) (H:Hp) (v:V) (u:Value) (Q:St->Hp->Prop),Inv X pj O H s->aB v u->t v O H Q ->
  wpAny (model X.prog X.w) X.A (assign target X.env u) (fun _ s'=>∃ O' H',Inv X pj O' H' s'/\Q O' H') X.xe s
def PGs (X:Cx) (ts:List Expr) (t:TGs):Prop :=
 ∀ (pj:Pq) (s:Shared) (O:St) (H:Hp) (vs:List V) (us:List Value) (Q:St->Hp->Prop),Inv X pj O H s->aH vs us->t vs O H Q ->
  wpAny (model X.prog X.w) X.A (assignInOrder ((assignEach ts X.env).map (·.2)) us) (fun _ s'=>∃ O' H',Inv X pj O' H' s'/\Q O' H') X.xe s
section
variable {X:Cx} {pos:Pos}
def qI (i:Nat):TG:=fun v O H Q=>Q (O.set i (some v)) H
theorem zQ {i:Nat} {x:Str} (hN:X.N.Nodup) (hi:X.N[i]?=some x) (hx:Loc X.env.scope x) (hf:X.fn x=true\/X.env.scope.names.lookup x=some .local:=by first | exact .inl rfl | exact .inr rfl | assumption):PG X (.Name x pos) (qI i):=by intro pj s O H v u Q I r h;exact wpAny_assign_Name (uQ I hN hi hx r (fun s' I'=>⟨_,H,I',h⟩) hf)
def gNil:TGs:=fun vs O H Q=>vs=[]/\Q O H
def zR (t:TG) (u:TGs):TGs:=fun vs O H Q=>∃ v r,vs=v::r/\t v O H fun O' H'=>u r O' H' Q
theorem JL:PGs X [] gNil:=by intro pj s O H vs us Q I r h;obtain ⟨e,h⟩:=h;subst e;cases r;exact assignInOrder_nil ⟨O,H,I,h⟩
theorem JM {e:Expr} {t:TG} {u:TGs} (h1:PG X e t) (h2:PGs X es u)
  (hs:(assignEach (e::es) X.env).map (·.2)=assign e X.env::(assignEach es X.env).map (·.2):=by rfl):PGs X (e::es) (zR t u):=by
 intro pj s O H vs us Q I r h;obtain ⟨v,vr,e1,h⟩:=h;subst e1;cases r with
 | cons r rr =>rw [hs];refine assignInOrder_cons (thn (h1 pj s O H _ _ _ I r h) fun _ s1 ⟨O1,H1,I1,q1⟩=>?_);exact h2 pj s1 O1 H1 _ _ Q I1 rr q1
def gTup (K:W.Frag) (n:Nat) (t:TGs):TG:=fun v O H Q=>∃ a xs,v=.ref a/\SqT K H a xs/\xs.length=n/\t xs O H Q
theorem JN {k:Nat} {t:TGs} {n:Nat} (hc:X.calm=true) (h:PGs X es t)
  (hn:(assignEach es X.env).length=n:=by rfl) (hst:(assignEach es X.env).findIdx? (·.1)=none:=by rfl):PG X (.Tuple es k pos) (gTup X.K n t):=by
 intro pj s O H v u Q I r hw;obtain ⟨a,xs,e1,hq,hl,hw⟩:=hw;subst e1;cases r;obtain ⟨qc,rv,ht,hz⟩:=I.tuple hq;refine assign_Tuple_tuple (I.ok.hd hc) ht (by simp [hn,<- hl,rv.length]) hst fun h' hx=>?_;have I1:Inv X pj O H { s with heap:=h' }:=I.kept (t':=s.toks) fun b o e=>hx b o (bP (aX e)) e;exact h pj _ O H xs _ Q I1 (by simpa using rv) hw
def tAsg (te:TE) (g:TG):TS:=fun D O H=>te O H fun x H1=>g x O H1 D.nx
theorem mZ {i:Nat} {x:Str} {e:Expr} {te:TE} {pos':Pos} (hN:X.N.Nodup) (hi:X.N[i]?=some x) (hx:Loc X.env.scope x) (he:PE X e te) (hs:swapsWith e (some (.Name x pos')) pos.line X.env=pure false:=by rfl) (hf:X.fn x=true\/X.env.scope.names.lookup x=some .local:=by first | exact .inl rfl | exact .inr rfl | assumption) :
  PS X (.Assign [.Name x pos'] e pos) (tAsg te (qI i)):=by
 intro pj s O H D I h;refine wpAny_Assign_Name (thn (he pj s O H _ I h) fun v s1 ⟨y,H1,I1,r1,q1⟩=>?_) hs;exact uQ I1 hN hi hx r1 (fun s2 I2=>⟨_,H1,I2,q1⟩) hf
end
section
variable {X:Cx} {pos:Pos}
end
structure It where
 go:Nat->Hp->Prop
 yld:Nat->Hp->V->Hp->Prop
 stop:Nat->Hp->Prop
def eQ (X:Cx) (pj:Pq) (H:Hp) (b:Addr):Prop :=
 H b=none/\b≠X.env.locals/\b∉X.fs/\(b∈X.ex\/X.s₀.heap.objs.size<=b)/\(∀ x c,X.env.cells.lookup x=some c->c≠b)/\∀ p∈X.pn++pj,p.1≠b
theorem Inv.fpOk {X:Cx} {pj:Pq} {O:St} {H H':Hp} {s:Shared} {b:Addr} (I:Inv X pj O H s) (hb:s.heap.objs.size<=b) (hn:H' b=none):eQ X pj H' b:=by
 refine ⟨hn,Nat.ne_of_gt (dI I.lt hb),I.nofs hb,.inr (dS I.sz hb),fun x c e z=>?_,fun p hp z=>?_⟩
 .obtain ⟨v,q⟩:=I.cell x c e;exact absurd (dI q.lt (by rw [z];exact hb)) (gK _)
 .exact absurd (dI (aX (I.pin p hp).1) (by rw [z];exact hb)) (gK _)
structure Turn (P:Program) (w:World) (K:W.Frag) (tg:Expr) (J:It) (fp:List Addr) (it:Addr) (tn:Nat->Heap->Prop):Prop where
 mem:it∈fp
 obj:∀ i h,tn i h->∀ b∈fp,∃ o,h.get? b=some o/\∀ v,o.data≠.cell v
 keep:∀ i h h',tn i h->(∀ b∈fp,∀ o,h.get? b=some o->h'.get? b=some o)->tn i h'
 item:∀ (X:Cx),X.prog=P->X.w=w->X.K=K->X.calm=true->∀ (i:Nat) (pj:Pq) (s:Shared) (O:St) (H:Hp) (E:Vq),Inv X pj O H s->(∀ b∈fp,eQ X pj H b)->tn i s.heap->J.go i H ->
  wpAny (model P w) X.A (pyNext (.ref it)) (fun r s1=>∃ u,r=some u /\
   wpAny (model P w) X.A (letOwnedTupleGo tg (.ref it) u) (fun _ s2=>∃ x H',Inv X pj O H' s2/\aB x u/\J.yld i H x H'/\tn (i+1) s2.heap/\∀ b∈fp,H' b=none) E s1) E s
 done:∀ (X:Cx),X.prog=P->X.w=w->X.K=K->X.calm=true->∀ (i:Nat) (pj:Pq) (s:Shared) (O:St) (H:Hp) (E:Vq),Inv X pj O H s->(∀ b∈fp,eQ X pj H b)->tn i s.heap->J.stop i H ->
  wpAny (model P w) X.A (pyNext (.ref it)) (fun r s1=>r=none/\Inv X pj O H s1) E s
 self:∀ (A:Around) (i:Nat) (s:Shared) (Q:Vq) (E:Vq),tn i s.heap->Q (.ref it) s->wpAny (model P w) A (pyIter (.ref it)) Q E s
abbrev TI:=St->Hp->(It->Hp->Prop)->Prop
def PIE (X:Cx) (pj:Pq) (O:St) (tg:Expr) (R:It->Hp->Prop) (itv:Value) (s2:Shared):Prop :=
 ∃ (it:Addr) (fp:List Addr) (tn:Nat->Heap->Prop) (J:It) (H':Hp),itv=.ref it/\Inv X pj O H' s2/\Turn X.prog X.w X.K tg J fp it tn/\tn 0 s2.heap/\(∀ b∈fp,eQ X pj H' b)/\R J H'
def PI (X:Cx) (tg iter:Expr) (wi:TI):Prop :=
 ∀ (pj:Pq) (s:Shared) (O:St) (H:Hp) (R:It->Hp->Prop),Inv X pj O H s->wi O H R ->
  wpAny (model X.prog X.w) X.A (eval iter X.env) (fun v s1=>wpAny (model X.prog X.w) X.A (pyIter v) (PIE X pj O tg R) X.xe s1) X.xe s
theorem uW {M:Model} {A:Around} {E:Vq} {s:Shared} {it:Addr} {u:Value} {o:Obj} {n:String} {vs:Array Value} {Q:Unit->Shared->Prop} (ho:s.heap.get? it=some o) (hc:o.cls=.type n) (hd:o.data=.fields vs)
  (hn:["enumerate", "zip", "dict_itemiterator", "dict_reverseitemiterator", "odict_iterator", "itertools.zip_longest", "itertools.pairwise"].contains n=false) (hQ:Q () s):wpAny M A (letOwnedTupleGo tg (.ref it) u) Q E s:=by
 unfold letOwnedTupleGo;cases tg<;>first
  | exact aL hQ
  | (cases u<;>first
    | exact aL hQ
    | (refine aA (wpAny_load ho ?_)
       rw [hc,hd];show wpAny M A (if (["enumerate", "zip", "dict_itemiterator", "dict_reverseitemiterator", "odict_iterator", "itertools.zip_longest", "itertools.pairwise"].contains n&&vs[0]?==some (rawInt _))=true then _ else _) Q E s;rw [if_neg (by intro h;rw [hn,Bool.false_and] at h;cases h)];exact aL hQ))
def Itl (K:W.Frag) (a:Addr):It :=
 ⟨fun i H=>∃ xs x,SqL K H a xs/\xs[i]?=some x,fun i H x H'=>H'=H/\∀ xs,SqL K H a xs->xs[i]?=some x,fun i H=>∃ xs,SqL K H a xs/\xs.length<=i⟩
def Itt (K:W.Frag) (a:Addr):It :=
 ⟨fun i H=>∃ xs x,SqT K H a xs/\xs[i]?=some x,fun i H x H'=>H'=H/\∀ xs,SqT K H a xs->xs[i]?=some x,fun i H=>∃ xs,SqT K H a xs/\xs.length<=i⟩
def Itr (lo:Int) (n:Nat):It:=⟨fun i _=>i<n,fun i H x H'=>H'=H/\x=.int (lo+i),fun i _=>n<=i⟩
theorem JO (a it:Addr):Turn P w K tg (Itl K a) [it] it (fun i h=>h.IsListIter it a i) where
 mem:=by simp
 obj:=fun i h st b hb=>by
  have e:b=it:=by simpa using hb
  subst e;obtain ⟨o,e,c,d⟩:=st;exact ⟨o,e,fun v z=>by rw [d] at z;cases z⟩
 keep:=fun i h h' st k=>st.at fun o e=>k it (by simp) o e
 item:=by intro X hP hw hK hc i pj s O H E I hf st hg;subst hP hw hK;obtain ⟨xs,x,hq,hx⟩:=hg;obtain ⟨qc,rv,p,hz⟩:=I.list hq;obtain ⟨u,hu,ru⟩:=rv.get hx;obtain ⟨f0,f1,f2,f3,f4,f5⟩:=hf it (by simp);refine wpAny_pyNext_list_item st p.isList (x:=u) (by simpa using hu) fun h' st' sb=>?_;have I1:Inv X pj O H { s with heap:=h' }:=I.turned (t':=s.toks) (fun b o hb e=>(sb.2 b hb).trans e) f0 f1 f3 f4 f5;obtain ⟨o,e,c,d⟩:=id st';exact ⟨u,rfl,uW (s:={ s with heap:=h' }) e c d (by decide) ⟨x,H,I1,ru,⟨rfl,fun ys hy=>by rw [I.list_inj hy hq];exact hx⟩,st',fun b hb=>(hf b hb).1⟩⟩
 done:=by intro X hP hw hK hc i pj s O H E I hf st hg;subst hP hw hK;obtain ⟨xs,hq,hx⟩:=hg;obtain ⟨qc,rv,p,hz⟩:=I.list hq;obtain ⟨f0,f1,f2,f3,f4,f5⟩:=hf it (by simp);have hl:=rv.length;exact wpAny_pyNext_list_end (I.ok.hd hc) st p.isList (by simp;lia) fun h' eb=>⟨rfl,I.turned (t':=s.toks) (fun b o hb e=>eb b o hb e) f0 f1 f3 f4 f5⟩
 self:=fun _ _ _ _ _ st h=>wpAny_pyIter_listiter st h
theorem JP (a it:Addr):Turn P w K tg (Itt K a) [it] it (fun i h=>h.IsTupleIter it a i) where
 mem:=by simp
 obj:=fun i h st b hb=>by
  have e:b=it:=by simpa using hb
  subst e;obtain ⟨o,e,c,d⟩:=st;exact ⟨o,e,fun v z=>by rw [d] at z;cases z⟩
 keep:=fun i h h' st k=>st.at fun o e=>k it (by simp) o e
 item:=by intro X hP hw hK hc i pj s O H E I hf st hg;subst hP hw hK;obtain ⟨xs,x,hq,hx⟩:=hg;obtain ⟨qc,rv,p,hz⟩:=I.tuple hq;obtain ⟨u,hu,ru⟩:=rv.get hx;obtain ⟨f0,f1,f2,f3,f4,f5⟩:=hf it (by simp);refine wpAny_pyNext_tuple_item st (show s.heap.IsTuple a qc.toArray from p) (x:=u) (by simpa using hu) fun h' st' sb=>?_;have I1:Inv X pj O H { s with heap:=h' }:=I.turned (t':=s.toks) (fun b o hb e=>(sb.2 b hb).trans e) f0 f1 f3 f4 f5;obtain ⟨o,e,c,d⟩:=id st';exact ⟨u,rfl,uW (s:={ s with heap:=h' }) e c d (by decide) ⟨x,H,I1,ru,⟨rfl,fun ys hy=>by rw [I.tuple_inj hy hq];exact hx⟩,st',fun b hb=>(hf b hb).1⟩⟩
 done:=by intro X hP hw hK hc i pj s O H E I hf st hg;subst hP hw hK;obtain ⟨xs,hq,hx⟩:=hg;obtain ⟨qc,rv,p,hz⟩:=I.tuple hq;obtain ⟨f0,f1,f2,f3,f4,f5⟩:=hf it (by simp);have hl:=rv.length;exact wpAny_pyNext_tuple_end (I.ok.hd hc) st (show s.heap.IsTuple a qc.toArray from p) (by simp;lia) fun h' eb=>⟨rfl,I.turned (t':=s.toks) (fun b o hb e=>eb b o hb e) f0 f1 f3 f4 f5⟩
 self:=fun _ _ _ _ _ st h=>wpAny_pyIter_tupleiter st h
theorem JQ (it:Addr) (lo:Int) (n:Nat):Turn P w K tg (Itr lo n) [it] it (fun i h=>IsRangeIter h it (lo+(i:Nat)*1) ((n:Int)-(i:Nat)) 1) where
 mem:=by simp
 obj:=fun i h st b hb=>by
  have e:b=it:=by simpa using hb
  subst e;exact ⟨_,st,fun v z=>by have z':Data.fields _=Data.cell v:=z;cases z'⟩
 keep:=fun i h h' st k=>k it (by simp) _ st
 item:=by intro X hP hw hK hc i pj s O H E I hf st hg;subst hP hw hK;obtain ⟨f0,f1,f2,f3,f4,f5⟩:=hf it (by simp);have W:=Walks.range (prog:=X.prog) (w:=X.w) (I.ok.hd hc) it lo 1 n;refine W.item i s _ _ hg st fun v h' tk hv st' kk=>?_;obtain ⟨t,rfl⟩:=hv;have I1:Inv X pj O H { s with heap:=h',toks:=tk }:=I.turned (fun b o hb e=>kk b o (by simpa using hb) e) f0 f1 f3 f4 f5;refine ⟨_,rfl,uW (s:={ s with heap:=h',toks:=tk }) (n:="range_iterator") st' rfl rfl (by decide) ⟨.int (lo+i),H,I1,⟨t,?_⟩,⟨rfl,rfl⟩,st',fun b hb=>(hf b hb).1⟩⟩;rw [Int.mul_one]
 done:=by intro X hP hw hK hc i pj s O H E I hf st hg;subst hP hw hK;obtain ⟨f0,f1,f2,f3,f4,f5⟩:=hf it (by simp);exact wpAny_pyNext_range_end (I.ok.hd hc) st (by have:n<=i:=hg;lia) fun h' eb=>⟨rfl,I.turned (t':=s.toks) (fun b o hb e=>eb b o hb e) f0 f1 f3 f4 f5⟩
 self:=fun _ _ _ _ _ st h=>wpAny_pyIter_rangeiter st h
end
section
variable {pj:Pq} {s:Shared} {fp:List Addr}
section
variable {X:Cx} {tg:Expr}
theorem JR {O:St} {H:Hp} {R:It->Hp->Prop} {E:Vq} {lo hi:Int} {t u v:Tok} {tk:Nat} (I:Inv X pj O H s) (h1 : -(2 ^ 62)<=lo) (h2:lo<2 ^ 62) (h3 : -(2 ^ 62)<=hi) (h4:hi<2 ^ 62)
  (q:R (Itr lo (hi-lo).toNat) H):wpAny (model X.prog X.w) X.A (pyIter (.ref s.heap.objs.size)) (PIE X pj O tg R) E { s with heap:=s.heap.push { cls:=.type "range",data:=.fields #[.int lo t,.int hi u,.int 1 v] },toks:=tk }:=by
 refine wpAny_pyIter_range (IsRange.new ..) (small_one h1 h2 h3 h4) ?_;have I1:Inv X pj O H { s with heap:=s.heap.push { cls:=.type "range",data:=.fields #[.int lo t,.int hi u,.int 1 v] },toks:=tk }:=I.kept fun b o e=>aR _ e;refine ⟨(s.heap.push { cls:=.type "range",data:=.fields #[.int lo t,.int hi u,.int 1 v] }).objs.size,[(s.heap.push { cls:=.type "range",data:=.fields #[.int lo t,.int hi u,.int 1 v] }).objs.size],_,_,H,rfl,
  I1.kept (t':=tk) fun b o e=>aR _ e,JQ _ lo (hi-lo).toNat,?_,fun b hb=>?_,q⟩
 .have e1:lo+((0:Nat):Int)*1=lo:=by simp
  have e2:(((hi-lo).toNat:Nat):Int)-((0:Nat):Int)=Builtin.Range.rangeSize lo hi 1:=by rw [rangeSize_one];split<;>lia
  show IsRangeIter _ _ (lo+((0:Nat):Int)*1) ((((hi-lo).toNat:Nat):Int)-((0:Nat):Int)) 1;rw [e1,e2];exact bW _ rfl
 .have e:b=(s.heap.push { cls:=.type "range",data:=.fields #[.int lo t,.int hi u,.int 1 v] }).objs.size:=by simpa using hb
  subst e;exact I1.fpOk (aW _) (I1.hok.fresh (aW _))
def JS (ta:TA):TI:=fun O H R=>ta O H fun vs H1=>∃ j:Int,vs=[.int j] /\ -(2 ^ 62)<=j/\j<2 ^ 62/\R (Itr 0 j.toNat) H1
theorem JT {a:Expr} {ta:TA} {p pos:Pos} (hg:Gl X "range") (hm:X.mg "range"=none) (ha:PA X [a] ta) (hs:starEach [a] X.env=[(false,eval a X.env)]:=by rfl):PI X tg (.Call (.Name "range" p) [a] [] pos) (JS ta):=by
 intro pj s O H R I h;refine Call_ (lS I hg hm boot_range (PyProof.Rows.callWith_type1 (thn (ha pos pj s O H _ I h) fun us s1 ⟨vs,H1,I1,r1,q1⟩=>?_) hs rfl));obtain ⟨j,e,q1,q2,q⟩:=q1;subst e;cases r1 with
 | cons r rr =>cases rr;obtain ⟨t,rfl⟩:=r;exact call_range_1 (JR I1 (by lia) (by lia) q1 q2 (by simpa using q))
def tFor (wi:TI) (g:TG) (tb:TS):TS:=fun D O H=>wi O H fun J H1=>∃ W:Nat->Nat->St->Hp->Prop,(∃ m,W 0 m O H1)/\∀ i m O H,W i m O H ->
 (J.stop i H/\D.nx O H)\/(J.go i H/\∃ N:St->Hp->Prop,(∀ O' H',N O' H'->∃ m',m'<m/\W (i+1) m' O' H')/\∀ x H',J.yld i H x H'->g x O H' fun O2 H2=>tb { D with nx:=N,ct:=N,bk:=D.nx } O2 H2)
def oY (fp:List Addr) (h:Heap):Pq:=fp.filterMap fun b=>(h.get? b).map fun o=>(b,o)
theorem qJ {h:Heap} {b:Addr} {o:Obj} (hb:b∈fp) (e:h.get? b=some o):(b,o)∈oY fp h:=jE.mpr ⟨b,hb,by rw [e];rfl⟩
theorem JU {h:Heap} {p:Addr × Obj} (hp:p∈oY fp h):p.1∈fp/\h.get? p.1=some p.2:=by
 obtain ⟨b,hb,e⟩:=jE.mp hp;cases q:h.get? b with
 | none=>rw [q] at e;cases e
 | some o =>rw [q] at e;have e':(b,o)=p:=cP e;subst e';exact ⟨hb,q⟩
theorem Inv.pinned {O:St} {H:Hp} (I:Inv X pj O H s) (hf:∀ b∈fp,eQ X pj H b) (ho:∀ b∈fp,∃ o,s.heap.get? b=some o/\∀ v,o.data≠.cell v):Inv X (pj++oY fp s.heap) O H s :=
 I.pins_of fun p hp=>(oma hp).elim (fun z=>I.pin p (iF _ z)) fun z=>by obtain ⟨hb,e⟩:=JU z;obtain ⟨f0,f1,f2,_⟩:=hf p.1 hb;obtain ⟨o,e',d⟩:=ho p.1 hb;rw [e] at e';cases e';exact ⟨e,f0,f1,f2,d⟩
theorem Inv.unpinned {pl:Pq} {O:St} {H:Hp} (I:Inv X (pj++pl) O H s):Inv X pj O H s:=I.pins_of fun p hp=>I.pin p (iF _ (List.mem_append_left _ hp))
theorem JV {iter:Expr} {body:List Stmt} {wi:TI} {g:TG} {tb:TS} {pos:Pos} (hp:PassesOwn (model X.prog X.w) X.A X.env X.xe) (hc:X.calm=true) (hi:PI X tg iter wi) (hg:PG X tg g) (hb:PSs X body tb)
  (hs:∀ x,foldedSetIterable iter X.env x=pure x:=by intro _;rfl):PS X (.For tg iter body [] pos) (tFor wi g tb):=by
 intro pj s O H D I h;refine wpAny_For (thn (hi pj s O H _ I h) fun v s1 h1=>thn h1 fun itv s2 h2=>?_) hs;obtain ⟨it,fp,tn,J,H2,e,I2,T,st2,f2,W,⟨m0,w0⟩,turn⟩:=h2;subst e;have stat:∀ {H':Hp},(∀ b∈fp,H' b=none)->∀ b∈fp,eQ X pj H' b:=fun hn b hb=>⟨hn b hb,(f2 b hb).2⟩;refine codeAny_forLoop_any (fun n s'=>∃ i O' H',Inv X pj O' H' s'/\tn i s'.heap/\(∀ b∈fp,H' b=none)/\W i n O' H') ?_ m0 ⟨0,O,H2,I2,st2,fun b hb=>(f2 b hb).1,w0⟩;rintro n s3 ⟨i,O3,H3,I3,st3,fr3,w3⟩;rcases turn i n O3 H3 w3 with ⟨stop,qn⟩ | ⟨go,N,hN,step⟩
 .refine wpAny_passesOwn hp (thn (T.done X rfl rfl rfl hc i pj s3 O3 H3 X.xe I3 (stat fr3) st3 stop) fun r s4 ⟨hr,I4⟩=>?_);subst hr;exact wpAny_execs_nil ⟨O3,H3,I4,qn⟩
 .refine wpAny_passesOwn hp (thn (T.item X rfl rfl rfl hc i pj s3 O3 H3 X.xe I3 (stat fr3) st3 go) fun r s4 ⟨u,hr,h4⟩=>?_);subst hr;refine wpAny_passesOwn hp (thn h4 fun _ s5 ⟨x,H5,I5,r5,y5,st5,fr5⟩=>?_);have I5':=I5.pinned (stat fr5) (T.obj _ _ st5);refine wpAny_passesOwn hp (thn (hg _ s5 O3 H5 x u _ I5' r5 (step x H5 y5)) fun _ s6 ⟨O6,H6,I6,q6⟩=>?_);refine wpAny_passesOwn hp (thn (hb _ s6 O6 H6 _ I6 q6) fun f s7 q7=>?_);have again:∀ {O7:St} {H7:Hp},Inv X (pj++oY fp s5.heap) O7 H7 s7->N O7 H7->∃ m,m<n/\∃ i O' H',Inv X pj O' H' s7/\tn i s7.heap/\(∀ b∈fp,H' b=none)/\W i m O' H':=fun {O7 H7} I7 n7=>by obtain ⟨m',hm,w7⟩:=hN O7 H7 n7;refine ⟨m',hm,i+1,O7,H7,I7.unpinned,T.keep _ _ _ st5 fun b hb o e=>(I7.pin (b,o) (iF _ (iF _ (qJ hb e)))).1,fun b hb=>?_,w7⟩;obtain ⟨o,e,d⟩:=T.obj _ _ st5 b hb;exact (I7.pin (b,o) (iF _ (iF _ (qJ hb e)))).2.1
  cases f with
  | next=>obtain ⟨O7,H7,I7,n7⟩:=q7;exact again I7 n7
  | cont=>obtain ⟨O7,H7,I7,n7⟩:=q7;exact again I7 n7
  | brk=>obtain ⟨O7,H7,I7,q7⟩:=q7;exact ⟨O7,H7,I7.unpinned,q7⟩
  | ret v=>obtain ⟨x7,O7,H7,I7,r7,q7⟩:=q7;exact ⟨x7,O7,H7,I7.unpinned,r7,q7⟩
end
end
section
variable {pj:Pq} {op:CmpOp} {g:Int->Int->Int} {us:List Value}
abbrev R2:=V->V->Hp->VK->Prop
def OpR (X:Cx) (f:Value->Value->Sem Value) (r:R2):Prop :=
 ∀ (pj:Pq) (s:Shared) (O:St) (H:Hp) (x y:V) (v u:Value) (Q:VK),Inv X pj O H s->aB x v->aB y u->r x y H Q ->
  wpAny (model X.prog X.w) X.A (f v u) (EP X pj O Q) X.xe s
def UnR (X:Cx) (f:Value->Sem Value) (r:V->Hp->VK->Prop):Prop :=
 ∀ (pj:Pq) (s:Shared) (O:St) (H:Hp) (x:V) (v:Value) (Q:VK),Inv X pj O H s->aB x v->r x H Q ->
  wpAny (model X.prog X.w) X.A (f v) (EP X pj O Q) X.xe s
def iT (X:Cx) (f:Value) (r:List V->Hp->VK->Prop):Prop :=
 ∀ (pj:Pq) (s:Shared) (O:St) (H:Hp) (xs:List V) (us:List Value) (Q:VK),Inv X pj O H s->aH xs us->r xs H Q ->
  wpAny (model X.prog X.w) X.A (call f us) (EP X pj O Q) X.xe s
def TruR (X:Cx) (r:V->Hp->(Bool->Hp->Prop)->Prop):Prop :=
 ∀ (pj:Pq) (s:Shared) (O:St) (H:Hp) (x:V) (v:Value) (Q:Bool->Hp->Prop),Inv X pj O H s->aB x v->r x H Q ->
  wpAny (model X.prog X.w) X.A (truthy v) (TP X pj O Q) X.xe s
def tOp (r:R2) (ta tb:TE):TE:=fun O H Q=>ta O H fun x H1=>tb O H1 fun y H2=>r x y H2 Q
def tUn (r:V->Hp->VK->Prop) (ta:TE):TE:=fun O H Q=>ta O H fun x H1=>r x H1 Q
def rI (C:Int->Int->Prop) (g:Int->Int->V):R2:=fun x y H Q=>∃ i j,x=.int i/\y=.int j/\C i j/\Q (g i j) H
def rI0 (g:Int->Int->V):R2:=fun x y H Q=>∃ i j,x=.int i/\y=.int j/\Q (g i j) H
def rU (g:Int->V):V->Hp->VK->Prop:=fun x H Q=>∃ i,x=.int i/\Q (g i) H
section
variable {X:Cx} {a b c:Expr} {ta tb tc:TE} {pos:Pos}
theorem bB (ha:PE X a ta) (hb:PE X b tb) {s:Shared} {O:St} {H:Hp} {R:V->V->Hp->Prop} (I:Inv X pj O H s)
  (h:ta O H fun x H1=>tb O H1 fun y H2=>R x y H2) {Q:Vq} {f:Value->Value->Sem Value}
  (hf:∀ v u s2 x y H2,Inv X pj O H2 s2->aB x v->aB y u->R x y H2->wpAny (model X.prog X.w) X.A (f v u) Q X.xe s2) :
  wpAny (model X.prog X.w) X.A (eval a X.env) (fun v s₁=>wpAny (model X.prog X.w) X.A (eval b X.env) (fun u s₂=>wpAny (model X.prog X.w) X.A (f v u) Q X.xe s₂) X.xe s₁) X.xe s:=by
 refine thn (ha pj s O H _ I h) fun v s1 ⟨x,H1,I1,r1,q1⟩=>?_;refine thn (hb pj s1 O H1 _ I1 q1) fun u s2 ⟨y,H2,I2,r2,q2⟩=>?_;exact hf v u s2 x y H2 I2 r1 r2 q2
theorem uX {op:Operator} {r:R2} (ho:OpR X (binaryOp op) r) (ha:PE X a ta) (hb:PE X b tb):PE X (.BinOp a op b pos) (tOp r ta tb):=by intro pj s O H Q I h;exact wpAny_BinOp (bB ha hb I h fun v u s2 x y H2 I2 rx ry q=>ho pj s2 O H2 x y v u Q I2 rx ry q)
theorem zS {op:UnaryOp} {r:V->Hp->VK->Prop} (ho:UnR X (unaryOp op) r) (ha:PE X a ta):PE X (.UnaryOp op a pos) (tUn r ta):=by intro pj s O H Q I h;exact UnaryOp_ (thn (ha pj s O H _ I h) fun v s1 ⟨x,H1,I1,r1,q1⟩=>ho pj s1 O H1 x v Q I1 r1 q1)
theorem opI {f:Value->Value->Sem Value} {C:Int->Int->Prop}
  (rule:∀ (i j:Int) (t u:Tok) (s:Shared) (Q:Vq) (E:Vq),C i j->Q (.int (g i j) s.toks) { s with toks:=s.toks+1 }->wpAny (model X.prog X.w) X.A (f (.int i t) (.int j u)) Q E s) :
  OpR X f (rI C fun i j=>.int (g i j)):=by
 intro pj s O H x y v u Q I rx ry h;obtain ⟨i,j,rfl,rfl,hc,q⟩:=h;obtain ⟨t,rfl⟩:=rx;obtain ⟨t',rfl⟩:=ry;exact rule i j t t' s _ _ hc ⟨.int (g i j),H,I.tok _,⟨_,rfl⟩,q⟩
theorem opI0 {f:Value->Value->Sem Value}
  (rule:∀ (i j:Int) (t u:Tok) (s:Shared) (Q:Vq) (E:Vq),Q (.int (g i j) s.toks) { s with toks:=s.toks+1 }->wpAny (model X.prog X.w) X.A (f (.int i t) (.int j u)) Q E s) :
  OpR X f (rI0 fun i j=>.int (g i j)):=by
 intro pj s O H x y v u Q I rx ry h;obtain ⟨i,j,rfl,rfl,q⟩:=h;obtain ⟨t,rfl⟩:=rx;obtain ⟨t',rfl⟩:=ry;exact rule i j t t' s _ _ ⟨.int (g i j),H,I.tok _,⟨_,rfl⟩,q⟩
theorem opB0 {f:Value->Value->Sem Value} {g:Int->Int->Bool}
  (rule:∀ (i j:Int) (t u:Tok) (s:Shared) (Q:Vq) (E:Vq),Q (.bool (g i j)) s->wpAny (model X.prog X.w) X.A (f (.int i t) (.int j u)) Q E s) :
  OpR X f (rI0 fun i j=>.bl (g i j)):=by
 intro pj s O H x y v u Q I rx ry h;obtain ⟨i,j,rfl,rfl,q⟩:=h;obtain ⟨t,rfl⟩:=rx;obtain ⟨t',rfl⟩:=ry;exact rule i j t t' s _ _ ⟨.bl (g i j),H,I,rfl,q⟩
def CDiv (i j:Int):Prop:=0<j/\j<1073741824
def CMul (i j:Int):Prop:=(-(2 ^ 64)<i/\i<2 ^ 64)\/(-(2 ^ 64)<j/\j<2 ^ 64)
theorem CMul.ok {i j:Int} (h:CMul i j):IntMulOk i j:=by
 rcases h with ⟨h1,h2⟩ | ⟨h1,h2⟩
 .exact .of_left (intBits_le_64 h1 h2)
 .exact .of_right (intBits_le_64 h1 h2)
theorem JW:OpR X (binaryOp .Add) (rI0 fun i j=>.int (i+j)):=opI0 fun _ _ _ _ _ _ _ q=>add_int q
theorem JX:OpR X (binaryOp .Sub) (rI0 fun i j=>.int (i-j)):=opI0 fun _ _ _ _ _ _ _ q=>sub_int q
theorem JY:OpR X (binaryOp .Mult) (rI CMul fun i j=>.int (i*j)):=opI fun _ _ _ _ _ _ _ hc q=>mul_int q hc.ok
theorem JZ:OpR X (binaryOp .FloorDiv) (rI CDiv fun i j=>.int (i/j)):=opI fun i j _ _ _ _ _ hc q=>by have h1:(0:Int)<j:=hc.1;have h2:j<1073741824:=hc.2;exact floordiv_int (by lia) (by rw [Int.fdiv_eq_ediv_of_nonneg i (by lia)];exact q) (.inl (PyProof.noPylong_small (by lia)))
theorem KA:OpR X (binaryOp .Mod) (rI (fun _ j=>0<j) fun i j=>.int (i%j)):=opI fun i j _ _ _ _ _ hc q=>by have h1:(0:Int)<j:=hc;exact mod_int' (by lia) (by rw [Int.fmod_eq_emod_of_nonneg i (by lia)];exact q)
theorem KB {f:Value->Sem Value} {g:Int->Int}
  (rule:∀ (i:Int) (t:Tok) (s:Shared) (Q:Vq) (E:Vq),Q (.int (g i) s.toks) { s with toks:=s.toks+1 }->wpAny (model X.prog X.w) X.A (f (.int i t)) Q E s) :
  UnR X f (rU fun i=>.int (g i)):=by
 intro pj s O H x v Q I rx h;obtain ⟨i,rfl,q⟩:=h;obtain ⟨t,rfl⟩:=rx;exact rule i t s _ _ ⟨.int (g i),H,I.tok _,⟨_,rfl⟩,q⟩
theorem zT:UnR X (unaryOp .USub) (rU fun i=>.int (-i)):=KB fun _ _ _ _ _ q=>neg_int q
end
noncomputable def scal:V->V->Bool
 | .non,.non=>true | .non,.int _=>true | .int _,.non=>true | .non,.bl _=>true | .bl _,.non=>true | .non,.str _=>true | .str _,.non=>true
 | .int _,.int _=>true | .bl _,.bl _=>true | .str _,.str _=>true | .byt _,.byt _=>true
 | .int _,.str _=>true | .str _,.int _=>true | .bl _,.str _=>true | .str _,.bl _=>true
 | _,_=>false
def rEq:R2:=fun x y H Q=>scal x y=true/\Q (.bl (decide (x=y))) H
theorem KC {i j:Int}:decide (V.int i=V.int j)=(i==j):=by rw [Bool.eq_iff_iff];simp
theorem KD {i j:Bool}:decide (V.bl i=V.bl j)=(i==j):=by rw [Bool.eq_iff_iff];simp
theorem KF {i j:Str}:decide (V.str i=V.str j)=(i==j):=by rw [Bool.eq_iff_iff];simp
theorem KG {i j:Array UInt8}:decide (V.byt i=V.byt j)=(i.toList==j.toList):=by rw [Bool.eq_iff_iff];cases i;cases j;simp
section
variable {X:Cx} {a b c:Expr} {ta tb tc:TE} {pos:Pos}
theorem fE {O:St} {H:Hp} {s:Shared} {Q:VK} {k k':Bool} (I:Inv X pj O H s) (q:Q (.bl k) H) (e:k=k'):EP X pj O Q (.bool k') s:=by subst e;exact ⟨.bl k,H,I,rfl,q⟩
theorem KI:OpR X (compareOp .Eq) rEq:=by
 intro pj s O H x y v u Q I rx ry h;obtain ⟨hs,q⟩:=h;cases x with
 | non =>
  cases rx;cases y with
  | non=>cases ry;exact PySem.EqNone.eq_none_none (fE I q (by simp))
  | bl j=>cases ry;exact PySem.EqNone.eq_none_bool (fE I q (by simp))
  | int j=>obtain ⟨t',rfl⟩:=ry;exact PySem.EqNone.eq_none_int (fE I q (by simp))
  | str j=>obtain ⟨t',rfl⟩:=ry;exact PySem.EqNone.eq_none_str (fE I q (by simp))
  | _=>exact absurd (show false=true from hs) dH
 | bl i =>
  cases rx;cases y with
  | non=>cases ry;exact PySem.EqNone.eq_bool_none (fE I q (by simp))
  | bl j=>cases ry;exact eq_bool (fE I q KD)
  | str j=>obtain ⟨t',rfl⟩:=ry;exact PySem.EqMixed.eq_bool_str (fE I q (by simp))
  | _=>exact absurd (show false=true from hs) dH
 | int i =>
  obtain ⟨t,rfl⟩:=rx;cases y with
  | non=>cases ry;exact PySem.EqNone.eq_int_none (fE I q (by simp))
  | int j=>obtain ⟨t',rfl⟩:=ry;exact eq_int (fE I q KC)
  | str j=>obtain ⟨t',rfl⟩:=ry;exact PySem.EqMixed.eq_int_str (fE I q (by simp))
  | _=>exact absurd (show false=true from hs) dH
 | str i =>
  obtain ⟨t,rfl⟩:=rx;cases y with
  | non=>cases ry;exact PySem.EqNone.eq_str_none (fE I q (by simp))
  | bl j=>cases ry;exact PySem.EqMixed.eq_str_bool (fE I q (by simp))
  | int j=>obtain ⟨t',rfl⟩:=ry;exact PySem.EqMixed.eq_str_int (fE I q (by simp))
  | str j=>obtain ⟨t',rfl⟩:=ry;exact eq_str (fE I q KF)
  | _=>exact absurd (show false=true from hs) dH
 | byt i =>
  obtain ⟨t,rfl⟩:=rx;cases y with
  | byt j=>obtain ⟨t',rfl⟩:=ry;exact PySem.W.eq_bytes (fE I q KG)
  | _=>exact absurd (show false=true from hs) dH
 | _=>cases y<;>exact absurd (show false=true from hs) dH
theorem KJ:OpR X (compareOp .Lt) (rI0 fun i j=>.bl (decide (i<j))):=opB0 fun _ _ _ _ _ _ _ q=>lt_int q
theorem KK:OpR X (compareOp .Gt) (rI0 fun i j=>.bl (decide (j<i))):=opB0 fun _ _ _ _ _ _ _ q=>gt_int q
theorem KM:OpR X (compareOp .Lt) (fun x y H Q=>∃ i j,x=.str i/\y=.str j/\Q (.bl (decide (i.cps.toList<j.cps.toList))) H):=by intro pj s O H x y v u Q I rx ry h;obtain ⟨i,j,rfl,rfl,q⟩:=h;obtain ⟨t,rfl⟩:=rx;obtain ⟨t',rfl⟩:=ry;exact lt_str (fE I q rfl)
theorem KN:OpR X (compareOp .IsNot) (fun x y H Q=>y=.non/\Q (.bl (!decide (x=.non))) H):=by
 intro pj s O H x y v u Q I rx ry h;obtain ⟨rfl,q⟩:=h;cases ry;refine isnot_none_gen (fE I q ?_);cases x<;>first
  | (cases rx;rfl)
  | (obtain ⟨t,rfl⟩:=rx;rfl)
theorem oZ (b:Expr) (h:op≠.In:=by decide) (h2:op≠.NotIn:=by decide):behindInMarks op b=false:=by
 have e1:(op==CmpOp.In)=false:=by cases op<;>first | rfl | exact absurd rfl h
 have e2:(op==CmpOp.NotIn)=false:=by cases op<;>first | rfl | exact absurd rfl h2
 cases b<;>simp [behindInMarks,e1,e2]
theorem KO {r:R2} (ho:OpR X (compareOp op) r) (ha:PE X a ta) (hb:PE X b tb) (hm:behindInMarks op b=false):PE X (.Compare a [op] [b] pos) (tOp r ta tb):=by intro pj s O H Q I h;exact wpAny_Compare1 (bB ha hb I h fun v u s2 x y H2 I2 rx ry q=>ho pj s2 O H2 x y v u Q I2 rx ry q) hm
def KP (t:TE):TT:=fun O H Q=>t O H fun x H'=>∃ k,x=.bl k/\Q k H'
theorem zU {r:R2} (ho:OpR X (compareOp op) r) (ha:PE X a ta) (hb:PE X b tb) (hm:behindInMarks op b=false):PT X (.Compare a [op] [b] pos) (KP (tOp r ta tb)):=by
 intro pj s O H Q I h;refine wpAny_isTrue_Compare1 (thn (ha pj s O H _ I h) fun v s1 ⟨x,H1,I1,r1,q1⟩=>thn (hb pj s1 O H1 _ I1 q1) fun u s2 ⟨y,H2,I2,r2,q2⟩ =>thn (ho pj s2 O H2 x y v u _ I2 r1 r2 q2) fun c s3 ⟨z,H3,I3,r3,k,e,q3⟩=>?_) hm;subst e;cases r3;exact wpAny_truthy_bool ⟨H3,I3,q3⟩
def uY (K:W.Frag) (x:V) (H:Hp) (k:Bool):Prop :=
 match x with
 | .non=>k=false
 | .bl b=>k=b
 | .int i=>k=(i != 0)
 | .str y=>y.length<=sizeLine/\k=((y.length:Int) != 0)
 | .byt y=>y.size<=sizeLine/\k=((y.size:Int) != 0)
 | .ref p=>(∃ xs,SqL K H p xs/\k=!xs.isEmpty)\/(∃ xs,SqT K H p xs/\k=!xs.isEmpty)\/∃ qb,H p=some (.dK qb)/\k=!qb.isEmpty
 | _=>False
theorem KQ {κ:Type} {qb:List (κ × V)} {vs:List (κ × Value)} (r:KV qb vs):(!vs.isEmpty)=!qb.isEmpty:=by cases r<;>rfl
theorem zV {xs:List V} {qc:List Value} (r:aH xs qc):(!qc.toArray.isEmpty)=!xs.isEmpty:=by cases r<;>simp
theorem qK:(sizeLine:Nat)<2 ^ 63:=by rw [fD];decide
theorem KR:TruR X (fun x H Q=>∃ k,uY X.K x H k/\Q k H):=by
 intro pj s O H x v Q I rx h;obtain ⟨k,e,q⟩:=h;have hl:=qK;have hs:sizeLine=16777216:=fD;cases x with
 | non =>cases rx;have e':k=false:=e;subst e';exact truthy_none ⟨H,I,q⟩
 | bl b =>cases rx;have e':k=b:=e;subst e';exact wpAny_truthy_bool ⟨H,I,q⟩
 | int i =>obtain ⟨t,rfl⟩:=rx;have e':k=(i != 0):=e;subst e';exact PySem.P.truthy_int ⟨H,I,q⟩
 | str y =>obtain ⟨t,rfl⟩:=rx;obtain ⟨hy,e'⟩:y.length<=sizeLine/\k=((y.length:Int) != 0):=e;subst e';exact PySem.P.truthy_str (by lia) ⟨H,I.tok _,q⟩
 | byt y =>obtain ⟨t,rfl⟩:=rx;obtain ⟨hy,e'⟩:y.size<=sizeLine/\k=((y.size:Int) != 0):=e;subst e';exact PySem.W.truthy_bytes (by lia) ⟨H,I.tok _,q⟩
 | ref p =>
  cases rx;have e':(∃ xs,SqL X.K H p xs/\k=!xs.isEmpty)\/(∃ xs,SqT X.K H p xs/\k=!xs.isEmpty)\/∃ qb,H p=some (.dK qb)/\k=!qb.isEmpty:=e;rcases e' with ⟨xs,hx,e'⟩ | ⟨xs,hx,e'⟩ | ⟨qb,hx,e'⟩
  .subst e';obtain ⟨qc,r,pl,hz⟩:=I.list hx;have hlen:=r.length;exact wpAny_truthy_list pl.isList (by simp only [List.size_toArray];lia) ⟨H,I.tok _,by rw [zV r];exact q⟩
  .subst e';obtain ⟨qc,r,pl,hz⟩:=I.tuple hx;have hlen:=r.length;exact truthy_tuple pl (by simp only [List.size_toArray];lia) ⟨H,I.tok _,by rw [zV r];exact q⟩
  .subst e';obtain ⟨hz,hS,vs,r,m⟩:qb.length<=sizeLine/\(p==sysModules)=false/\∃ vs,KV qb vs/\s.heap.DictOf (cR X.prog X.w) p vs:=I.hok p _ hx;have hlen:qb.length=vs.length:=Paired.length r;exact wpAny_truthy_dict hS m (by lia) ⟨H,I.tok _,by rw [KQ r];exact q⟩
 | _=>exact (show False from e).elim
theorem KS (ha:PE X a ta) (he:∀ whole,isTrue a X.env whole=(do let v <- whole;standAt a.pos;holding [v] (truthy v))) :
  PT X a (fun O H Q=>ta O H fun x H'=>∃ k,uY X.K x H' k/\Q k H'):=by
 intro pj s O H Q I h;exact isTrue_plain (thn (ha pj s O H _ I h) fun v s1 ⟨x,H1,I1,r1,q1⟩=>KR pj s1 O H1 x v Q I1 r1 q1) (he _)
theorem jI {x:V} (r:aH [x] us):∃ u,us=[u]/\aB x u:=by
 cases r with
 | cons r1 r2=>cases r2;exact ⟨_,rfl,r1⟩
theorem uZ {x y:V} (r:aH [x,y] us):∃ u w',us=[u,w']/\aB x u/\aB y w':=by
 cases r with
 | cons r1 r2 =>
  cases r2 with
  | cons r3 r4=>cases r4;exact ⟨_,_,rfl,r1,r3⟩
theorem zW:iT X (.type "int") (fun xs H Q=>(∃ i,xs=[.int i]/\Q (.int i) H)\/∃ k,xs=[.bl k]/\Q (.int (if k then 1 else 0)) H):=by
 intro pj s O H xs us Q I r h;rcases h with ⟨i,rfl,q⟩ | ⟨k,rfl,q⟩
 .obtain ⟨u,rfl,t,rfl⟩:=jI r;exact call_int_int ⟨.int i,H,I,⟨_,rfl⟩,q⟩
 .obtain ⟨u,rfl,r1⟩:=jI r;cases r1;exact call_int_bool ⟨.int (if k then 1 else 0),H,I.tok _,⟨_,rfl⟩,q⟩
end
end
section
structure ObjM (h:Heap) (x dx C:Addr) (mA:Mq):Prop where
 obj:h.get? x=some (W.instObj C dx)
 ns:h.Ns1 dx mA
 ne:dx≠x
theorem KU {h:Heap} {dx:Addr} {mA:Mq} (n:h.Ns1 dx mA):∃ od,h.get? dx=some od/\∀ name,PySem.W.lookIn name od=some (mA name):=by
 obtain ⟨o,es,ep,ho,hd,hk,_,hm⟩:=n;refine ⟨o,ho,fun name=>?_⟩;have e:=hm name;unfold nsFind findBy at e;rw [<- Array.find?_toList] at e;unfold PySem.W.lookIn;rw [hd];dsimp only;split
 .rename_i y q;rw [q] at e;exact aV some e
 .rename_i q;rw [q] at e;have a:es.toList.any (·.refKey)=false:=by rw [List.any_eq_false];intro y hy;obtain ⟨z,t,hkey⟩:=hk y (Array.mem_toList_iff.mp hy);simp [DictEntry.refKey,hkey]
  have a':¬ es.toList.any (·.refKey)=true:=by rw [a];exact dH
  rw [if_neg a'];exact aV some e
section
variable {prog:Program} {w:World} {A:Around} {E:Vq} {s:Shared} {K:W.Frag} {x dx C f:Addr} {mA:Mq} {name:Str} {v:Value}
end
theorem dG.some_of {v:V} {o:Option Value} (r:dG (some v) o):∃ u,o=some u/\aB v u:=by
 cases o with
 | none=>exact (show False from r).elim
 | some u=>exact ⟨u,rfl,r⟩
theorem KW {v:V} {u:Value} (r:aB v u):PySem.W.handedIn u=true:=by
 cases v with
 | non=>cases (show u=Value.none from r);rfl
 | bl b=>cases (show u=Value.bool b from r);rfl
 | int i=>obtain ⟨t,e⟩:=(show ∃ t,u=Value.int i t from r);cases e;rfl
 | str x=>obtain ⟨t,e⟩:=(show ∃ t,u=Value.str x t from r);cases e;rfl
 | byt b=>obtain ⟨t,e⟩:=(show ∃ t,u=Value.bytes b t from r);cases e;rfl
 | flt b=>obtain ⟨t,e⟩:=(show ∃ t,u=Value.float b t from r);cases e;rfl
 | ref a=>cases (show u=Value.ref a from r);rfl
 | ty n=>cases (show u=Value.type n from r);rfl
section
variable {P:Program} {w:World} {H H':Hp} {h h':Heap} {a C dx:Addr} {fs fs':List (Str × V)}
end
structure Cls (K:W.Frag) (C:Addr):Prop where
 pg:PySem.W.plainGet K C Str.empty=true
 hd:PySem.W.hasDictIn K C=true
 po:PySem.W.plainOver K C=true
 sa:W.findIn K (.ref C) "__setattr__"=some (some (.builtin "object.__setattr__"))
structure Con (K:W.Frag) (C:Addr) (f:Str) (v:V) (u:Value):Prop where
 at_:W.findIn K (.ref C) f=some (some u)
 rel:aB v u
 get:PySem.W.specialIn K u "__get__"=some none
 cp:PySem.W.copiedNames.contains f=false
structure Meth (K:W.Frag) (C:Addr) (m:Str) (f:Addr):Prop where
 at_:W.findIn K (.ref C) m=some (some (.ref f))
 fn:W.isFn K (.ref f)=true
 kp:W.keepIn K (.ref f)=true
section
variable {X:Cx} {pj:Pq} {O:St} {H:Hp} {s:Shared} {a C dx:Addr} {fs:List (Str × V)} {f:Str} {v:V} {A:Around} {E:Vq}
theorem KY {prog:Program} {w:World} {env:Env} {e:Expr} {f:Str} {pos:Pos} {s:Shared} {Q:Vq} (hb:attributeBase e f env (eval e env)=eval e env)
  (h:wpAny (model prog w) A (eval e env) (fun o s₁=>wpAny (model prog w) A (getAttr o f true) Q E s₁) E s):wpAny (model prog w) A (eval (.Attribute e f pos) env) Q E s :=
 Attribute_any_ h (by rw [arm_eval_Attribute,hb])
end
section
variable {X:Cx} {o e value:Expr} {f:Str} {pos pos' tpos:Pos} {ta tv:TE}
end
section
variable {X:Cx} {pj:Pq} {O:St} {H:Hp} {s:Shared} {A:Around} {E:Vq} {Q:Vq} {c:Value} {b:Bool}
end
end
section
variable {A:Around} {us:List Value} {kw:List (Str × Value)} {P:Program} {w:World} {K:W.Frag} {mg:Mq} {base:Heap} {outer:List Env} {scope:Scope}
structure Room (k:Nat) (A:Around):Prop where
 hd:A.handled=none
 dp:A.depth+3*k+5<recursionLimit
 un:A.units+16*k+200<cLine
theorem Room.mono {j k:Nat} (r:Room k A) (h:j<=k):Room j A:=⟨r.hd,by have:=r.dp;lia,by have:=r.un;lia⟩
theorem Room.deeper {k:Nat} {A:Around} (r:Room (k+1) A) (env:Env):Room k (A.deeper env) :=
 ⟨r.hd,by have:=r.dp;show A.depth+1+3*k+5<_;lia,by have:=r.un;show A.units+3+16*k+200<_;lia⟩
theorem KZ {C:Addr}:(A.under (.builtin "type.__call__" ⟨.ref C::us,kw⟩)).depth=A.depth+1:=by first | rfl | simp [Around.under,Code.weight,Code.isCreation,Code.isGuard,Code.isCaller,Code.frames,Code.isFrame,guardIds]
theorem LA {C:Addr}:(A.under (.builtin "type.__call__" ⟨.ref C::us,kw⟩)).units=A.units+1:=by first | rfl | simp [Around.under,Code.cUnits,Code.frames,Code.isFrame]
theorem Room.make {k:Nat} (r:Room (k+1) A) (C:Addr) (us:List Value) (kw:List (Str × Value)):Room k (A.under (.builtin "type.__call__" ⟨.ref C::us,kw⟩)) :=
 ⟨r.hd,by have:=r.dp;rw [KZ];lia,by have:=r.un;rw [LA];lia⟩
theorem Room.depth {k:Nat} {A:Around} (r:Room k A):A.depth<recursionLimit:=by have:=r.dp;lia
def qL:TA:=fun _ H Q=>Q [] H
def lU (ta:TE) (tr:TA):TA:=fun O H Q=>ta O H fun x H1=>tr O H1 fun xs H2=>Q (x::xs) H2
section
variable {X:Cx} {e:Expr} {es:List Expr} {te:TE} {t:TA} {pos:Pos}
theorem fV:PA X [] qL:=fun _ _ _ _ H Q I h=>Calls.spliced_nil ⟨[],H,I,.nil,h⟩
theorem bY (ha:PE X e te) (hr:PA X es t) (hs:starEach (e::es) X.env=(false,eval e X.env)::starEach es X.env:=by rfl):PA X (e::es) (lU te t):=by intro pos pj s O H Q I h;rw [hs];show wpAny _ _ (spliced ((false,eval e X.env)::backTo pos (starEach es X.env))) _ _ s;refine Calls.spliced_cons (thn (ha pj s O H _ I h) fun u s1 ⟨x,H1,I1,r1,q1⟩=>?_);exact thn (hr pos pj s1 O H1 _ I1 q1) fun us s2 ⟨xs,H2,I2,r2,q2⟩=>⟨x::xs,H2,I2,.cons r1 r2,q2⟩
def tTup (t:TA):TE:=fun O H Q=>t O H fun xs H1=>xs.length<=sizeLine/\∀ p,H1 p=none->Q (.ref p) (aJ H1 p (.tup xs))
def tLst (t:TA):TE:=fun O H Q=>t O H fun xs H1=>xs.length<=sizeLine/\∀ p,H1 p=none->Q (.ref p) (aJ H1 p (.lst xs))
theorem qM {x1} (h:PA X es t):PE X (.Tuple es x1 pos) (tTup t):=by intro pj s O H Q I hq;refine wpAny_Tuple_spliced (thn (h pos pj s O H _ I hq) fun us s1 ⟨xs,H1,I1,r,z,q⟩=>⟨by rw [<- r.length];exact z,?_⟩);have hf:H1 s1.heap.objs.size=none:=I1.hok.fresh (aW _);refine ⟨.ref s1.heap.objs.size,aJ H1 s1.heap.objs.size (.tup xs),I1.laid (t':=s1.toks) (fun b u e=>aR _ e) (aW _) ?_,rfl,q _ hf⟩;exact ⟨z,us,r,⟨_,bW _ rfl,rfl,_,rfl⟩⟩
theorem vA (h:PA X es t):PE X (.List es pos) (tLst t):=by intro pj s O H Q I hq;refine wpAny_List_spliced (thn (h pos pj s O H _ I hq) fun us s1 ⟨xs,H1,I1,r,z,q⟩=>⟨by rw [<- r.length];exact z,?_⟩);have hf:H1 s1.heap.objs.size=none:=I1.hok.fresh (aW _);refine ⟨.ref s1.heap.objs.size,aJ H1 s1.heap.objs.size (.lst xs),I1.laid (t':=s1.toks) (fun b u e=>aR _ e) (aW _) ?_,rfl,q _ hf⟩;exact ⟨z,us,0,r,bW _ rfl⟩
end
abbrev Sp:=List V->Hp->VK->XK->Prop
abbrev CXT:=List Env->Hp->Shared->XK->Value->Shared->Prop
structure Env0 (P:Program) (w:World) (K:W.Frag) (mg:Mq) (base:Heap) (A:Around) (outer:List Env) (s:Shared) (H:Hp):Prop where
 frames:A.frames=some outer
 mod:Mod K mg base
 bs:∀ b o,base.get? b=some o->s.heap.get? b=some o/\H b=none
 bsz:base.objs.size<=s.heap.objs.size
 funs:s.heap.FunFrames base outer
 frf:∀ b∈frs outer,H b=none
 hok:HOk P w H s.heap
 bare:AllBare s.gens
def CE (outer:List Env) (P:Program) (w:World) (H:Hp) (s:Shared) (Q:VK) (u:Value) (s':Shared):Prop :=
 ∃ v H',s'.os=s.os/\AllBare s'.gens/\Un (frs outer) [] H H' s.heap s'.heap/\HOk P w H' s'.heap/\aB v u/\Q v H'
def CR (CX:CXT) (outer:List Env) (P:Program) (w:World) (H:Hp) (s:Shared) (Q:VK) (E:XK) (r:Result) (s':Shared):Prop :=
 match r with
 | .ok (.ret u)=>CE outer P w H s Q u s'
 | .ok _=>False
 | .error e=>CX outer H s E e s'
structure FnOk (P:Program) (w:World) (K:W.Frag) (mg:Mq) (base:Heap) (CX:CXT) (k:Nat) (f:Addr) (fd:FuncData) (ps:List Str) (sp:Sp):Prop where
 len:∀ vs H Q E,sp vs H Q E->vs.length=ps.length
 run:∀ (A:Around) (outer:List Env) (s:Shared) (H:Hp) (args:Args) (us:List Value) (vs:List V) (Q:VK) (E:XK),Room k A->Env0 P w K mg base A outer s H->BindsTo s fd args (ps.zip us)->aH vs us->sp vs H Q E ->
  codeAny (model P w) A (.call (.ref f) args) (CR CX outer P w H s Q E) s
theorem FnOk.mono {P:Program} {w:World} {K:W.Frag} {mg:Mq} {base:Heap} {CX:CXT} {j k:Nat} {f:Addr} {fd:FuncData} {ps:List Str} {sp:Sp} (F:FnOk P w K mg base CX j f fd ps sp) (h:j<=k) :
  FnOk P w K mg base CX k f fd ps sp:=⟨F.len,fun A outer s H args us vs Q E hr=>F.run A outer s H args us vs Q E (hr.mono h)⟩
theorem Env0.make {s:Shared} {H:Hp} (e:Env0 P w K mg base A outer s H) (C:Addr) (us:List Value) (kw:List (Str × Value)) :
  Env0 P w K mg base (A.under (.builtin "type.__call__" ⟨.ref C::us,kw⟩)) outer s H:=⟨by first | exact e.frames | (simpa [Around.under,Code.envs,Code.isFrame,pushEnvs] using e.frames),e.mod,e.bs,e.bsz,e.funs,e.frf,e.hok,e.bare⟩
section
variable {X:Cx} {pj:Pq} {O:St} {H:Hp} {s s':Shared}
theorem Inv.env0 (I:Inv X pj O H s):Env0 X.prog X.w X.K X.mg X.base X.A X.stack s H :=
 ⟨I.ok.frames,I.ok.mod,I.bs,dS I.ok.bsz I.sz,I.stack,I.stkFree,I.hok,I.bare⟩
theorem Inv.after {Q:VK} {u:Value} (I:Inv X pj O H s) (h:CE X.stack X.prog X.w H s Q u s'):EP X pj O Q u s':=by obtain ⟨v,H',os,bare,un,hok,r,q⟩:=h;obtain ⟨hh,g,d,t,os'⟩:=s';obtain rfl:os'=s.os:=os;exact ⟨v,H',I.call (h':=hh) (g':=g) (d':=d) (t':=t) (ch:=[]) un hok bare (fun b z=>absurd z (by simp)),r,q⟩
end
def LB (sp:Sp) (dvs:List V) (E:XK) (t:TA):TE:=fun O H Q=>t O H fun vs H1=>sp (vs++dvs) H1 Q E
def Binds (K:W.Frag) (fd:FuncData) (ps:List Str) (ds:List Value):Prop :=
 ∀ (s:Shared) (us:List Value),K.In s.heap->(us++ds).length=ps.length->BindsTo s fd ⟨us,[]⟩ (ps.zip (us++ds))
theorem Binds.all {fd:FuncData} {ps:List Str} (h:∀ us:List Value,us.length=ps.length->bindArgs fd ⟨us,[]⟩=pure (ps.zip us)):Binds K fd ps []:=fun s us _ hl=>by rw [dP] at hl ⊢;exact .of_eq (h us hl)
def kR (CX:CXT) (X:Cx) (E:XK):Prop:=∀ (pj:Pq) (O:St) (H:Hp) (s:Shared) (e:Value) (s':Shared),Inv X pj O H s->CX X.stack H s E e s'->X.xe e s'
section
variable {X:Cx} {CX:CXT} {k:Nat} {f C:Addr} {fd:FuncData} {ps:List Str} {sp:Sp} {dvs:List V} {ds:List Value} {E:XK} {x m:Str} {p pos apos:Pos} {e o:Expr} {es:List Expr} {ta:TE} {t:TA}
theorem LC {pj:Pq} {O:St} {H:Hp} {s:Shared} {Q:VK} {vs:List V} (F:FnOk X.prog X.w X.K X.mg X.base CX k f fd ps sp) (hr:Room k X.A) (hb:Binds X.K fd ps ds) (hd:aH dvs ds) (hx:kR CX X E)
  (I:Inv X pj O H s) (r:aH vs us) (h:sp (vs++dvs) H Q E):wpAny (model X.prog X.w) X.A (call (.ref f) us) (EP X pj O Q) X.xe s:=by
 have r2:aH (vs++dvs) (us++ds):=r.append hd;have hl:(us++ds).length=ps.length:=by rw [<- r2.length];exact F.len _ _ _ _ h
 refine wpAny_call (codeAny_mono (F.run X.A X.stack s H ⟨us,[]⟩ (us++ds) (vs++dvs) Q E hr I.env0 (hb s us I.kIn hl) r2 h) fun r s' hq=>?_);cases r with
 | error e=>exact hx pj O H s e s' I hq
 | ok fl =>
  cases fl with
  | ret u=>exact I.after hq
  | next=>exact False.elim hq
  | brk=>exact False.elim hq
  | cont=>exact False.elim hq
theorem vB (F:FnOk X.prog X.w X.K X.mg X.base CX k f fd ps sp) (hr:Room k X.A) (hg:Gl X x) (hm:X.mg x=some (.ref f)) (hk:W.keepIn X.K (.ref f)=true) (hb:Binds X.K fd ps ds) (hd:aH dvs ds) (hx:kR CX X E)
  (ha:PA X (e::es) t) (hdb:(x==("__debug__":Str))=false:=by decide) (he:starEach (e::es) X.env=(false,eval e X.env)::starEach es X.env:=by rfl) (hpl:(backTo pos (starEach es X.env)).any (·.1)=false:=by rfl) :
  PE X (.Call (.Name x p) (e::es) [] pos) (LB sp dvs E t):=by
 intro pj s O H Q I h;refine wpAny_Call_Name_kw (oW I hg hm ?_ hdb);refine PySem.W.callWith_K (h₀:=X.base) I.ok.mod.kin hk (thn (ha pos pj s O H _ I h) fun us s1 ⟨vs,H1,I1,r,q⟩=>⟨I1.kIn,?_⟩) he hpl;exact LC F hr hb hd hx I1 r q
structure Mk (K:W.Frag) (C f:Addr):Prop where
 makes:PySem.W.makesIn K C=true
 init:W.findIn K (.ref C) "__init__"=some (some (.ref f))
 fn:W.isFn K (.ref f)=true
 kp:W.keepIn K (.ref C)=true
end
section
variable {X:Cx} {CX:CXT} {k:Nat} {f C:Addr} {fd:FuncData} {ps ks:List Str} {sp:Sp} {E:XK} {x m:Str} {p pos apos kpos:Pos} {e o:Expr} {es:List Expr} {kws:List Keyword} {te ta:TE} {t tk:TA} {nm:Option Str}
structure KBinds (K:W.Frag) (fd:FuncData) (ps ks:List Str) (g:List Value->List Value->List Value) (gV:List V->List V->List V):Prop where
 to:∀ (s:Shared) (us ws:List Value),K.In s.heap->(g us ws).length=ps.length->BindsTo s fd ⟨us,ks.zip ws⟩ (ps.zip (g us ws))
 rel:∀ {vs:List V} {us:List Value} {zs:List V} {ws:List Value},aH vs us->aH zs ws->aH (gV vs zs) (g us ws)
variable {g:List Value->List Value->List Value} {gV:List V->List V->List V}
end
structure FnScope (N P:List Str) (sc:Scope):Prop where
 kind:sc.kind=.function
 co:sc.isCoroutine=false
 gen:sc.isGenerator=false
 nd:N.Nodup
 pre:N.take P.length=P
 par:∀ x∈P,sc.names.lookup x=some .local\/sc.names.lookup x=some .cell
 nofree:∀ y∈sc.names,y.2≠.free
theorem zX {kindOf:Str->Option NameKind} {x:Str}:∀ {binds:List (Str × Value)} {m:Mq},(∀ v,(x,v)∉binds)->bindL kindOf binds m x=m x
 | [],_,_=>rfl
 | (n,v)::r,m,h=>by
  unfold bindL;rw [zX fun w hw=>h w (cK _ hw)];split
  .have:x≠n:=by rintro rfl;exact h v dW
   simp [this]
  .rfl
theorem zY {kindOf:Str->Option NameKind} {x:Str}:∀ {binds:List (Str × Value)} {m:Mq},(∀ v,(x,v)∉binds)->bindC kindOf binds m x=m x
 | [],_,_=>rfl
 | (n,v)::r,m,h=>by
  unfold bindC;rw [zY fun w hw=>h w (cK _ hw)];split
  .rfl
  .have:x≠n:=by rintro rfl;exact h v dW
   simp [this]
theorem zZ {kindOf:Str->Option NameKind} {x:Str} {v:Value}:∀ {P:List Str} {vs:List Value} {i:Nat} {m:Mq},P.Nodup->P[i]?=some x->vs[i]?=some v->kindOf x=some .local ->
  bindL kindOf (P.zip vs) m x=some v
 | [],_,_,_,_,h,_,_=>by simp at h
 | _::_,[],_,_,_,_,h,_=>by simp at h
 | p::P,w::vs,0,m,nd,h1,h2,hk=>by simp at h1 h2;subst h1;subst h2;show bindL kindOf ((p,w)::P.zip vs) m p=_;unfold bindL;rw [zX fun v hv=>(gI.mp nd).1 (List.of_mem_zip hv).1,if_pos hk];simp
 | p::P,w::vs,i+1,m,nd,h1,h2,hk=>by show bindL kindOf ((p,w)::P.zip vs) m x=_;unfold bindL;exact zZ (i:=i) (gI.mp nd).2 (by simpa using h1) (by simpa using h2) hk
theorem AA {kindOf:Str->Option NameKind} {x:Str} {v:Value}:∀ {P:List Str} {vs:List Value} {i:Nat} {m:Mq},P.Nodup->P[i]?=some x->vs[i]?=some v->kindOf x≠some .local ->
  bindC kindOf (P.zip vs) m x=some v
 | [],_,_,_,_,h,_,_=>by simp at h
 | _::_,[],_,_,_,_,h,_=>by simp at h
 | p::P,w::vs,0,m,nd,h1,h2,hk=>by simp at h1 h2;subst h1;subst h2;show bindC kindOf ((p,w)::P.zip vs) m p=_;unfold bindC;rw [zY fun v hv=>(gI.mp nd).1 (List.of_mem_zip hv).1,if_neg hk];simp
 | p::P,w::vs,i+1,m,nd,h1,h2,hk=>by show bindC kindOf ((p,w)::P.zip vs) m x=_;unfold bindC;exact AA (i:=i) (gI.mp nd).2 (by simpa using h1) (by simpa using h2) hk
def start (N:List Str) (vs:List V):St:=vs.map some++List.replicate (N.length-vs.length) none
def gB (CX:CXT) (P:Program) (w:World) (K:W.Frag) (mg:Mq) (base:Heap) (N:List Str) (qual:Str) (scope:Scope) (f:Addr) (cd:Value) (A:Around) (outer:List Env) (s:Shared) (H:Hp) (E:XK):Cx where
 prog:=P
 w:=w
 K:=K
 mg:=mg
 base:=base
 A:=A.deeper (envOfC qual scope s.heap.objs.size f cd)
 N:=N
 s₀:=s
 H₀:=H
 env:=envOfC qual scope s.heap.objs.size f cd
 outer:=outer
 stack:=envOfC qual scope s.heap.objs.size f cd::outer
 ex:=[]
 calm:=true
 fn:=fun _=>true
 pn:=[]
 xe:=fun e s'=>wpAny (model P w) (A.deeper (envOfC qual scope s.heap.objs.size f cd)) (leaving (envOfC qual scope s.heap.objs.size f cd) e) (fun _ s''=>CX outer H s E e s'') (fun e' s''=>CX outer H s E e' s'') s'
theorem AB {sc:Scope} {n:Nat} {x:Str} (h:sc.names.lookup x=some .cell):∃ c,(cellsFrom n sc.names []).lookup x=some c:=by have q:=W.cellsFrom_some sc.names n [] (.inl h);exact Option.isSome_iff_exists.mp q
theorem AD {CX:CXT} {N ps:List Str} {qual:Str} {f:Addr} {cd:Value} {s s1:Shared} {H:Hp} {E:XK} {vs:List V}
  (S:FnScope N ps scope) (hd:A.handled=none) (e0:Env0 P w K mg base A outer s H) (hl:vs.length=ps.length) (r:aH vs us)
  (x:InCallC s s.heap.objs.size (bindL (envOfC qual scope s.heap.objs.size f cd).kindOf (ps.zip us) fun _=>none) (cellsFrom (s.heap.objs.size+1) scope.names []) (bindC (envOfC qual scope s.heap.objs.size f cd).kindOf (ps.zip us) fun _=>none) s1) :
  Inv (gB CX P w K mg base N qual scope f cd A outer s H E) [] (start N vs) H s1:=by
 have hpl:ps.length<=N.length:=by have:=aV List.length S.pre;rw [uN] at this;lia
 obtain ⟨h1,tk,rfl,hk⟩:=x.done;have noA:∀ b:Addr,b∉(gB CX P w K mg base N qual scope f cd A outer s H E).ex:=fun b z=>absurd (show b∈([]:List Addr) from z) (by simp);refine ⟨⟨e0.mod,S.kind,rfl,rfl,aW _,fun y z c h1 h2=>?_,fun y hy=>?_,fun y c _ h=>?_,fun _=>hd,Around.frames_deeper e0.frames,.inr ⟨rfl,rfl⟩,fun b z=>absurd z (noA b),e0.bs,e0.bsz,fun b _ _=>noA b,fun b z=>absurd z (noA b),e0.funs,e0.frf⟩,
  rfl,e0.bare,Un.kept hk,⟨_,x.toInCall.ns,fun i y v h1 h2 h3=>?_⟩,fun y c h=>⟨_,x.cell y c h⟩,e0.hok.fresh (Nat.le_refl _),fun y c h=>?_,fun p hp=>absurd (show p∈([]:Pq) from hp) (by simp),e0.hok.kept hk,?_⟩
 .exact name_of_addr x.apart (PySem.mem_of_lookup h1) (PySem.mem_of_lookup h2)
 .have hy:scope.names.lookup y=some .cell\/scope.names.lookup y=some .free:=hy;rcases hy with hy | hy
  .exact AB hy
  .exact absurd rfl (S.nofree _ (PySem.mem_of_lookup hy))
 .exact Nat.le_of_lt (x.above y c (PySem.mem_of_lookup h))
 .have hi:i<vs.length:=by
   unfold start at h2;by_cases hi:i<vs.length
   .exact hi
   .rw [oP (by simpa using hi)] at h2;rw [List.getElem?_replicate] at h2;split at h2<;>cases h2
  have ha:vs[i]?=some v:=by
   unfold start at h2;rw [oQ (by simpa using hi),List.getElem?_map] at h2;cases e:vs[i]? with
   | none=>rw [e] at h2;cases h2
   | some a=>rw [e] at h2;cases h2;rfl
  obtain ⟨u,hu,rv⟩:=r.get ha;have hp:ps[i]?=some y:=by rw [<- S.pre,List.getElem?_take_of_lt (by lia)];exact h1
  have ndP:ps.Nodup:=by rw [<- S.pre];exact S.nd.sublist (List.take_sublist _ _)
  refine ⟨u,rv,?_⟩;rcases S.par y (iR hp) with k | k
  .exact .inl ⟨k,zZ ndP hp hu k⟩
  .obtain ⟨c,e⟩:=AB (n:=s.heap.objs.size+1) k;refine .inr ⟨.inl k,c,e,?_⟩;have q:=x.cell y c e;rw [AA ndP hp hu (by show scope.names.lookup y≠_;rw [k];decide)] at q;exact q
 .exact e0.hok.fresh (Nat.le_of_lt (x.above y c (PySem.mem_of_lookup h)))
 .unfold start;show _=N.length;rw [eU,bE,List.length_replicate];lia
theorem qN {CX:CXT} {k:Nat} {f:Addr} {name qual:Str} {params:Arguments} {body:List Stmt} {dV kV doc pm cdv ct oc:Value} {an od:Option Addr}
  {osl:Array (Option Value)} {N ps:List Str} {sp:Sp} (lk:K.lookup f=some ⟨oc,od,.func (W.fnOf name qual params body scope dV kV doc pm an cdv ct),osl⟩) (hcd:W.codeIn K cdv qual=true) (S:FnScope N ps scope)
  (len:∀ vs H Q E,sp vs H Q E->vs.length=ps.length)
  (hbody:∀ (A:Around) (outer:List Env) (s:Shared) (H:Hp) (vs:List V) (Q:VK) (E:XK),Room k (A.deeper (envOfC qual scope s.heap.objs.size f cdv))->sp vs H Q E ->
   ∃ t,PSs (gB CX P w K mg base N qual scope f cdv A outer s H E) body t/\t { nx:=fun _ H'=>Q .non H',rt:=Q } (start N vs) H) :
  FnOk P w K mg base CX (k+1) f (W.fnOf name qual params body scope dV kV doc pm an cdv ct) ps sp:=by
 refine ⟨len,fun A outer s H args us vs Q E hr e0 hb r hsp=>?_⟩;have hl:=len _ _ _ _ hsp;have KX:K.In s.heap:=e0.mod.kin.keeps fun b o e=>(e0.bs b o e).1;have lim:s.heap.NoLimit:=e0.mod.nolimit.keeps fun b o e=>(e0.bs b o e).1;have hkind:∀ y∈ps.zip us,scope.names.lookup y.1=some .local\/(scope.names.lookup y.1=some .cell/\((cellsFrom (s.heap.objs.size+1) scope.names []).lookup y.1).isSome=true):=fun ⟨n,v⟩ hy=>by
  rcases S.par n (List.of_mem_zip hy).1 with q | q
  .exact .inl q
  .exact .inr ⟨q,W.cellsFrom_some _ _ _ (.inl q)⟩
 refine codeAny_call_function hr.depth (KX _ _ lk) rfl S.co S.gen rfl (PySem.W.codeRec_of KX hcd) (hb _ _ _ _ ?_);refine wpAny_newFunctionEnv_cells S.kind hkind fun env he s1 x=>?_;subst he;refine ⟨lim.keeps x.toInCall.keep,codeAny_func ?_⟩;obtain ⟨t,ht,hq⟩:=hbody A outer s H vs Q E (hr.deeper _) hsp;have I:Inv (gB CX P w K mg base N qual scope f cdv A outer s H E) [] (start N vs) H s1:=AD S hr.hd e0 hl r x;refine fS (ht [] s1 (start N vs) H _ I hq) (fun fl s' hs=>?_) fun e s' hs=>hs;have fin:∀ {O':St} {H':Hp} {v:V} {u:Value},Inv (gB CX P w K mg base N qual scope f cdv A outer s H E) [] O' H' s'->aB v u->Q v H'->CE outer P w H s Q u s' :=
  fun {O' H' v u} J rv q=>⟨v,H',J.os,J.bare,J.base,J.hok,rv,q⟩
 cases fl with
 | ret u =>obtain ⟨v,O',H',J,rv,q⟩:=hs;exact fin J rv q
 | next =>obtain ⟨O',H',J,q⟩:=hs;exact fin (v:=V.non) (u:=Value.none) J rfl q
 | brk =>obtain ⟨_,_,_,q⟩:=hs;exact False.elim q
 | cont =>obtain ⟨_,_,_,q⟩:=hs;exact False.elim q
end
section
section
variable {X:Cx} {x:Str} {p pos:Pos} {e:Expr} {es:List Expr} {t:TA} {id T:String} {r:List V->Hp->VK->Prop}
def tCB (r:List V->Hp->VK->Prop) (t:TA):TE:=fun O H Q=>t O H fun vs H1=>r vs H1 Q
theorem pA (hc:iT X (.builtin id) r) (hg:Gl X x) (hm:X.mg x=none) (hv:bootBuiltins x=some (.builtin id)) (ha:PA X (e::es) t) (hn:x≠"__name__":=by decide) (hdb:(x==("__debug__":Str))=false:=by decide)
  (he:starEach (e::es) X.env=(false,eval e X.env)::starEach es X.env:=by rfl) (hpl:(backTo pos (starEach es X.env)).any (·.1)=false:=by rfl):PE X (.Call (.Name x p) (e::es) [] pos) (tCB r t):=by
 intro pj s O H Q I h;refine wpAny_Call_Name_kw (lS I hg hm hv ?_ hn hdb);exact PyProof.Rows.callWith_builtin1 (thn (ha pos pj s O H _ I h) fun us s1 ⟨vs,H1,I1,r1,q1⟩=>hc pj s1 O H1 vs us Q I1 r1 q1) he hpl
theorem LD (hc:iT X (.type T) r) (hg:Gl X x) (hm:X.mg x=none) (hv:bootBuiltins x=some (.type T)) (ha:PA X (e::es) t) (hn:x≠"__name__":=by decide) (hdb:(x==("__debug__":Str))=false:=by decide)
  (he:starEach (e::es) X.env=(false,eval e X.env)::starEach es X.env:=by rfl) (hpl:(backTo pos (starEach es X.env)).any (·.1)=false:=by rfl):PE X (.Call (.Name x p) (e::es) [] pos) (tCB r t):=by
 intro pj s O H Q I h;refine wpAny_Call_Name_kw (lS I hg hm hv ?_ hn hdb);exact PyProof.Rows.callWith_type1 (thn (ha pos pj s O H _ I h) fun us s1 ⟨vs,H1,I1,r1,q1⟩=>hc pj s1 O H1 vs us Q I1 r1 q1) he hpl
end
end
end L2
namespace HT
open PySem PyProof.Rows
variable {Q:Vq} {lo hi:Option Int}
section
open PySem.SeqAt
open PySem.AutoSeq1 (wpAny_loadPart')
open PySem.MeetsSeq PySem.MeetsSeq2 PySem.MeetsSeq3
end
section
variable {prog:Program} {w:World} {A:Around} {E:Vq} {s:Shared}
theorem cat_tup {t b:Addr} {vs ws:List Value} (ht:IsTup s.heap t vs.toArray) (hb:IsTup s.heap b ws.toArray) (hv:vs≠[])
  (h1:ws=[]->Q (.ref t) s) (h2:ws≠[]->Q (.ref s.heap.objs.size) { s with heap:=s.heap.push { cls:=.type "tuple",data:=.seq (vs++ws).toArray } })
  (hsz:vs.length+ws.length<=sizeLine):wpAny (model prog w) A (binaryOp .Add (.ref t) (.ref b)) Q E s:=by
 obtain ⟨⟨cls,dd,data,sl⟩,ho,hc,n,hd⟩:=id ht;obtain ⟨⟨cls2,dd2,data2,sl2⟩,ho2,hc2,n2,hd2⟩:=id hb;simp only at hc hd hc2 hd2;subst hc hd hc2 hd2;have e:vs.toArray++ws.toArray=(vs++ws).toArray:=by simp
 by_cases hw:ws=[]
 .exact concat_meets ⟨_,ho,rfl⟩ ⟨_,ho2,rfl⟩ noFill_tuple_add seq_tuple_add PySem.F.slot_tuple_add PySem.F.entry_tuple_add (PySem.F.args_tuple_add_2 _ _)
   (tuple_addW1 t b vs.toArray ws.toArray n n2 dd dd2 sl sl2 (by simpa using hv) (by simp [hw])) ⟨ho,ho2,h1 hw⟩
 .refine concat_meets ⟨_,ho,rfl⟩ ⟨_,ho2,rfl⟩ noFill_tuple_add seq_tuple_add PySem.F.slot_tuple_add PySem.F.entry_tuple_add (PySem.F.args_tuple_add_2 _ _)
   (tuple_addW2 t b vs.toArray ws.toArray n n2 dd dd2 sl sl2 (by simpa using hv) (by simpa using hw) (by rw [kJ,kJ];exact hsz)) ⟨ho,ho2,?_⟩
  rw [e];exact h2 hw
noncomputable def sIx (n d:Nat):Option Int->Nat
 | none=>d
 | some v=>if v<0 then (v+(n:Int)).toNat else min v.toNat n
theorem LE (n d:Nat) (hd:d<=n) (o:Option Int):sIx n d o<=n:=by
 cases o with
 | none=>exact hd
 | some v =>
  show (if v<0 then (v+(n:Int)).toNat else min v.toNat n)<=n;by_cases hv:v<0
  .rw [if_pos hv];lia
  .rw [if_neg hv];exact Nat.min_le_right _ _
theorem AE (v:Int) (n d:Nat):(if v<0 then max (v+(n:Int)) 0 else min v (n:Int))=((sIx n d (some v):Nat):Int):=by
 show (if v<0 then max (v+(n:Int)) 0 else min v (n:Int))=(((if v<0 then (v+(n:Int)).toNat else min v.toNat n):Nat):Int);by_cases hv:v<0
 .simp only [if_pos hv];lia
 .simp only [if_neg hv];lia
theorem LF (lo hi:Option Int) (n:Nat):Builtin.Slice.sliceAdjust lo hi 1 (n:Int)=(((sIx n 0 lo:Nat):Int),((sIx n n hi:Nat):Int)):=by
 have h1:¬ ((1:Int)<0):=by lia
 unfold Builtin.Slice.sliceAdjust;simp only [h1,if_false];refine Prod.ext ?_ ?_
 .cases lo with
  | none=>rfl
  | some v=>exact AE v n 0
 .cases hi with
  | none=>rfl
  | some v=>exact AE v n n
theorem LG (i j:Nat):Builtin.Slice.slicePlaces (i:Int) (j:Int) 1=j-i:=by
 unfold Builtin.Slice.slicePlaces;have h1:(1:Int)>0:=by lia
 simp only [h1,if_true,Int.ediv_one];split<;>lia
theorem AF {v:Value} {o:Option Int} {Q:Option Int->Shared->Prop} (p:IsPart v o) (h:Q o s):wpAny (model prog w) A (Builtin.Slice.slicePartIndex v) Q E s:=by
 cases p with
 | none=>exact slicePart_none h
 | int i t=>exact slicePart_int h
theorem sliceApplied_gen {sl:Addr} {vl vu:Value} {n:Nat} {Q:Int × Int × Nat->Shared->Prop} (hs:s.heap.IsSliceOf sl vl vu .none) (pl:IsPart vl lo) (pu:IsPart vu hi)
  (h:Q (((sIx n 0 lo:Nat):Int),1,sIx n n hi-sIx n 0 lo) s):wpAny (model prog w) A (Builtin.Slice.sliceApplied (.ref sl) (pure (n:Int))) Q E s:=by
 obtain ⟨os,hos,hcs,hds⟩:=id hs;unfold Builtin.Slice.sliceApplied Builtin.Slice.sliceFields;refine aA (aA (eF hos hds (x:=vl) rfl (aA (eF hos hds (x:=vu) rfl (aA (eF hos hds (x:=.none) rfl (aL ?_)))))));refine aA (slicePart_none ?_);show wpAny _ _ (if ((1:Int)==0)=true then _ else _) _ _ s;rw [if_neg (by decide)];refine aA (AF pl (aA (AF pu (aA (aL ?_)))));show wpAny _ _ (match Builtin.Slice.sliceAdjust lo hi 1 (n:Int) with | (lo,hi)=>pure (lo,(1:Int),Builtin.Slice.slicePlaces lo hi 1)) _ _ s;rw [LF lo hi n];show wpAny _ _ (pure (((sIx n 0 lo:Nat):Int),(1:Int),Builtin.Slice.slicePlaces ((sIx n 0 lo:Nat):Int) ((sIx n n hi:Nat):Int) 1)) _ _ s;rw [LG];exact aL h
theorem LH (xs:Array Value) (i k:Nat):((List.range k).filterMap fun (m:Nat)=>xs[((i:Int)+(m:Int)*1).toNat]?).toArray=((xs.toList.drop i).take k).toArray:=by
 have e:(fun (m:Nat)=>xs[((i:Int)+(m:Int)*1).toNat]?)=fun m=>xs[i+m]?:=by
  funext m;have:((i:Int)+(m:Int)*1).toNat=i+m:=by lia
  rw [this]
 rw [e];have:=pick_run xs i k;rw [List.filterMap_map] at this;have e2:((fun x=>xs[x]?)∘fun x=>i+x)=fun m=>xs[i+m]?:=rfl;rw [e2] at this;rw [this]
theorem getItem_tuple_cut {t sl:Addr} {items:Array Value} {vl vu:Value} (ht:IsTup s.heap t items) (hs:s.heap.IsSliceOf sl vl vu .none) (pl:IsPart vl lo) (pu:IsPart vu hi)
  (hw:¬ (sIx items.size 0 lo=0/\sIx items.size items.size hi=items.size))
  (h:Q (.ref s.heap.objs.size) { s with heap:=s.heap.push { cls:=.type "tuple",data:=.seq ((items.toList.drop (sIx items.size 0 lo)).take (sIx items.size items.size hi-sIx items.size 0 lo)).toArray } })
  (hsz:items.size<=sizeLine):wpAny (model prog w) A (getItem (.ref t) (.ref sl)) Q E s:=by
 have htake:sizeOk (.seq ((items.toList.drop (sIx items.size 0 lo)).take (sIx items.size items.size hi-sIx items.size 0 lo)).toArray):=by show ((items.toList.drop (sIx items.size 0 lo)).take (sIx items.size items.size hi-sIx items.size 0 lo)).toArray.size<=sizeLine;rw [cO,uN,List.length_drop,jV];lia
 have hj:sIx items.size items.size hi<=items.size:=LE _ _ (aW _) hi;obtain ⟨os,hos,hcs,hds⟩:=id hs;have hTs:s.TypeIs (.ref sl) "slice":=⟨os,hos,hcs⟩;unfold getItem
 try with_reducible refine gU ?_
 first | refine aA (aL ?_) | skip
 refine aA (wpAny_sequenceKey ht.typeIs (by decide) ?_);refine aA (kP (name:=Str.ofString "__getitem__") ht.typeIs PyProof.Rows.slot_tuple_getitem
  (iS PyProof.Rows.slot_tuple_getitem ht.typeIs entry_tuple_getitem ?_ (args_tuple_getitem _ _)))
 show wpAny _ _ (Builtin.Tuple.tupleItemsOf (.ref t) >>= _) _ _ s;refine aA (tupleItemsOf_ ht ?_);refine aA (wpAny_typeOf hTs ?_);rw [if_pos (by decide)];refine aA (sliceApplied_gen hs pl pu ?_);have hno:¬ ((((sIx items.size 0 lo:Nat):Int)==0&&(1:Int)==1&&(sIx items.size items.size hi-sIx items.size 0 lo)==items.size)=true):=by intro q;rw [bS,bS] at q;have q1:((sIx items.size 0 lo:Nat):Int)=0:=dO q.1.1;have q2:sIx items.size items.size hi-sIx items.size 0 lo=items.size:=dO q.2;exact hw ⟨by lia,by lia⟩
 show wpAny _ _ (if (((sIx items.size 0 lo:Nat):Int)==0&&(1:Int)==1&&(sIx items.size items.size hi-sIx items.size 0 lo)==items.size)=true then _ else _) _ _ s;rw [if_neg hno,LH]
 first
  | exact aA (m:=Builtin.Tuple.tupleExact _) (jG (aL ⟨_,rfl,aL h⟩) htake)
  | exact aA (m:=Builtin.Tuple.tupleExact _) (jG (aA (aL (aL ⟨_,rfl,aL h⟩))) htake)
  | exact aA (aA (m:=Builtin.Tuple.tupleExact _) (jG (aL (aL ⟨_,rfl,aL h⟩)) htake))
  | exact aA (aA (m:=Builtin.Tuple.tupleExact _) (jG (aL ⟨_,rfl,aL h⟩) htake))
end
end HT
namespace L2
open PySem Spec PyProof.Rows
section
abbrev TO:=St->Hp->(Option Int->Hp->Prop)->Prop
def PO (X:Cx) (e:Option Expr) (t:TO):Prop :=
 ∀ (pj:Pq) (s:Shared) (O:St) (H:Hp) (Q:Option Int->Hp->Prop),Inv X pj O H s->t O H Q ->
  wpAny (model X.prog X.w) X.A (evalPart e X.env) (fun u s'=>∃ o H',Inv X pj O H' s'/\IsPart u o/\Q o H') X.xe s
def LI:TO:=fun _ H Q=>Q none H
def LJ (t:TE):TO:=fun O H Q=>t O H fun x H1=>∃ i,x=.int i/\Q (some i) H1
section
variable {X:Cx} {e:Expr} {te:TE} {lo hi:Option Expr} {tl th:TO} {pos p2:Pos}
theorem LK:PO X none LI:=by intro pj s O H Q I h;rw [evalPart_none];exact aL ⟨none,H,I,.none,h⟩
theorem LL (h:PE X e te):PO X (some e) (LJ te):=by intro pj s O H Q I hw;rw [evalPart_some];refine thn (h pj s O H _ I hw) fun u s1 ⟨x,H1,I1,r1,q1⟩=>?_;obtain ⟨i,rfl,q⟩:=q1;obtain ⟨t,rfl⟩:=r1;exact ⟨some i,H1,I1,.int i t,q⟩
def SlR (X:Cx) (r:V->Option Int->Option Int->Hp->VK->Prop):Prop :=
 ∀ (pj:Pq) (s:Shared) (O:St) (H:Hp) (x:V) (v vl vu:Value) (lo hi:Option Int) (sl:Addr) (Q:VK),Inv X pj O H s->aB x v->s.heap.IsSliceOf sl vl vu .none->IsPart vl lo->IsPart vu hi->r x lo hi H Q ->
  ∃ T id,typeLookup (.type T) "__getitem__"=pure (some (.builtin id))/\s.TypeIs v T/\wpAny (model X.prog X.w) X.A (getItem v (.ref sl)) (EP X pj O Q) X.xe s
def tSl (r:V->Option Int->Option Int->Hp->VK->Prop) (te:TE) (tl th:TO):TE:=fun O H Q=>te O H fun x H1=>tl O H1 fun l H2=>th O H2 fun u H3=>r x l u H3 Q
theorem LM {r:V->Option Int->Option Int->Hp->VK->Prop} (hr:SlR X r) (he:PE X e te) (hl:PO X lo tl) (hu:PO X hi th):PE X (.Subscript e (.Slice lo hi none p2) pos) (tSl r te tl th):=by intro pj s O H Q I h;refine Subscript_ (thn (he pj s O H _ I h) fun v s1 ⟨x,H1,I1,r1,q1⟩=>?_);refine wpAny_Slice (thn (hl pj s1 O H1 _ I1 q1) fun vl s2 ⟨l,H2,I2,pl,q2⟩=>thn (hu pj s2 O H2 _ I2 q2) fun vu s3 ⟨u,H3,I3,pu,q3⟩=>?_);rw [evalPart_none];refine aL ?_;have I4:Inv X pj O H3 { s3 with heap:=s3.heap.push { cls:=.type "slice",data:=.fields #[vl,vu,.none] } }:=I3.kept (t':=s3.toks) fun b ob q=>aR _ q;obtain ⟨T,id,hT,ht,hg⟩:=hr pj { s3 with heap:=s3.heap.push { cls:=.type "slice",data:=.fields #[vl,vu,.none] } } O H3 x v vl vu l u s3.heap.objs.size Q I4 r1 (Heap.IsSliceOf.new ..) pl pu q3;show wpAny (model X.prog X.w) X.A (subscriptTail e (.Slice lo hi none p2) v (.ref s3.heap.objs.size)) (EP X pj O Q) X.xe { s3 with heap:=s3.heap.push { cls:=.type "slice",data:=.fields #[vl,vu,.none] } };exact tail_any (ops:=[.ref s3.heap.objs.size,v]) ht hT hg (by with_unfolding_all rfl)
def jJ (xs:List V) (lo hi:Option Int):List V:=(xs.drop (HT.sIx xs.length 0 lo)).take (HT.sIx xs.length xs.length hi-HT.sIx xs.length 0 lo)
theorem AG (xs:List V) (lo hi:Option Int):(jJ xs lo hi).length<=xs.length:=by unfold jJ;rw [uN,List.length_drop];lia
def rSlT (K:W.Frag):V->Option Int->Option Int->Hp->VK->Prop:=fun x lo hi H Q=>∃ a xs,x=.ref a/\SqT K H a xs /\
 ¬ (HT.sIx xs.length 0 lo=0/\HT.sIx xs.length xs.length hi=xs.length)/\∀ p,H p=none->Q (.ref p) (aJ H p (.tup (jJ xs lo hi)))
theorem LN:SlR X (rSlT X.K):=by
 intro pj s O H x v vl vu lo hi sl Q I rx hs pl pu h;obtain ⟨a,xs,rfl,hx,hw,q⟩:=h;cases rx;obtain ⟨qc,r,ht,hz⟩:=I.tuple hx;have hlen:qc.toArray.size=xs.length:=by rw [cO];exact r.length.symm
 refine ⟨"tuple",_,PyProof.Rows.slot_tuple_getitem.lookup,ht.typeIs,?_⟩;refine HT.getItem_tuple_cut ht hs pl pu (by rw [hlen];exact hw) ?_ (by rw [hlen];exact hz);rw [hlen];refine ⟨.ref s.heap.objs.size,_,I.laid (t':=s.toks) (o:=.tup (jJ xs lo hi)) (fun b ob q=>aR _ q) (aW _) ?_,rfl,q _ (I.hok.fresh (aW _))⟩;exact ⟨dS (AG xs lo hi) hz,_,(r.drop (HT.sIx xs.length 0 lo)).take (HT.sIx xs.length xs.length hi-HT.sIx xs.length 0 lo),IsTup.new _ _⟩
end
end
section
noncomputable def ixN (n:Nat) (i:Int):Option Nat:=if 0<=i then (if i<n then some i.toNat else none) else if -(n:Int)<=i then some (i+n).toNat else none
def atI {α:Type} (xs:List α) (i:Int):Option α:=(ixN xs.length i).bind fun j=>xs[j]?
theorem LO {n:Nat} {i:Int} {j:Nat} (h:ixN n i=some j):seqIndex? i n=some j/\j<n /\ -(n:Int)<=i/\i<n:=by
 unfold ixN at h;by_cases h0:0<=i
 .rw [if_pos h0] at h;by_cases h1:i<n
  .rw [if_pos h1] at h;have e:i.toNat=j:=cP h;exact ⟨by rw [seqIndex_of h0 h1,e],by lia,by lia,h1⟩
  .rw [if_neg h1] at h;cases h
 .rw [if_neg h0] at h;by_cases h1 : -(n:Int)<=i
  .rw [if_pos h1] at h;have e:(i+n).toNat=j:=cP h;exact ⟨by rw [seqIndex_neg (by lia) h1,e],by lia,h1,by lia⟩
  .rw [if_neg h1] at h;cases h
theorem AH {α:Type} {xs:List α} {i:Int} {v:α} (h:atI xs i=some v):∃ j,seqIndex? i xs.length=some j/\xs[j]?=some v/\j<xs.length /\ -(xs.length:Int)<=i/\i<xs.length:=by
 unfold atI at h;cases e:ixN xs.length i with
 | none=>rw [e] at h;cases h
 | some j =>rw [e] at h;obtain ⟨h1,h2,h3,h4⟩:=LO e;exact ⟨j,h1,h,h2,h3,h4⟩
def vC (b:Expr):Prop:=∀ o i,subscripted b false o i=operate [o,i] (getItem o i)
def IxR (X:Cx) (r:R2):Prop :=
 ∀ (value slice:Expr) (pj:Pq) (s:Shared) (O:St) (H:Hp) (x y:V) (v u:Value) (Q:VK),Inv X pj O H s->aB x v->aB y u->r x y H Q ->
  subscripted slice false v u=operate [v,u] (getItem v u)->wpAny (model X.prog X.w) X.A (subscriptTail value slice v u) (EP X pj O Q) X.xe s
def MtR (X:Cx) (id:String) (r:V->List V->Hp->VK->Prop):Prop :=
 ∀ (pj:Pq) (s:Shared) (O:St) (H:Hp) (x:V) (xs:List V) (v:Value) (us:List Value) (Q:VK),Inv X pj O H s->aB x v->aH xs us->r x xs H Q ->
  wpAny (model X.prog X.w) X.A (call (.builtin id) (v::us)) (EP X pj O Q) X.xe s
section
variable {X:Cx} {a b:Expr} {ta tb:TE} {pos:Pos}
theorem LP {r:R2} (hr:IxR X r) (ha:PE X a ta) (hb:PE X b tb) (hs:vC b):PE X (.Subscript a b pos) (tOp r ta tb):=by intro pj s O H Q I h;exact Subscript_ (bB ha hb I h fun v u s2 x y H2 I2 rx ry q=>hr a b pj s2 O H2 x y v u Q I2 rx ry q (hs _ _))
def rIxL (K:W.Frag):R2:=fun x y H Q=>∃ p xs i v,x=.ref p/\y=.int i/\SqL K H p xs/\atI xs i=some v/\Q v H
def rIxT (K:W.Frag):R2:=fun x y H Q=>∃ p xs i v,x=.ref p/\y=.int i/\SqT K H p xs/\atI xs i=some v/\Q v H
theorem LQ:IxR X (rIxL X.K):=by
 intro value slice pj s O H x y v u Q I rx ry h hs;obtain ⟨p,xs,i,z,rfl,rfl,hq,he,q⟩:=h;cases rx;obtain ⟨t,rfl⟩:=ry;obtain ⟨qc,r,pl,hz⟩:=I.list hq;obtain ⟨j,h1,h2,h3,h4,h5⟩:=AH he;obtain ⟨w,ew,rw'⟩:=r.get h2;have hl:=r.length;have hn:=qK;have fin:EP X pj O Q w s:=⟨z,H,I,rw',q⟩;by_cases h0:0<=i
 .have hj:i.toNat=j:=by rw [seqIndex_of h0 h5] at h1;exact cP h1
  exact item_listR pl.isList h0 (by lia) (by rw [hj];simpa using ew) fin hs
 .have hj:(i+(qc.toArray.size:Int)).toNat=j:=by rw [seqIndex_neg (by lia) h4] at h1;rw [cO,<- hl];exact cP h1
  exact subscriptTail_builtinR (x:=w) pl.isList.typeIs slot_list_getitem.lookup
   (wpAny_getItem_list_neg (Q:=fun r s'=>r=w/\EP X pj O Q r s') pl.isList (by lia) (by rw [kJ]<;>lia) (by lia) (by rw [hj];simpa using ew) ⟨rfl,fin⟩) hs
theorem LR:IxR X (rIxT X.K):=by
 intro value slice pj s O H x y v u Q I rx ry h hs;obtain ⟨p,xs,i,z,rfl,rfl,hq,he,q⟩:=h;cases rx;obtain ⟨t,rfl⟩:=ry;obtain ⟨qc,r,pl,hz⟩:=I.tuple hq;obtain ⟨j,h1,h2,h3,h4,h5⟩:=AH he;obtain ⟨w,ew,rw'⟩:=r.get h2;have hl:=r.length;have hn:=qK;have fin:EP X pj O Q w s:=⟨z,H,I,rw',q⟩;exact subscriptTail_builtinR (x:=w) pl.typeIs slot_tuple_getitem.lookup
  (getItem_tuple (j:=j) (Q:=fun r s'=>r=w/\EP X pj O Q r s') pl (by lia) (by lia) (by rw [kJ,<- hl];exact h1) (by simpa using ew) ⟨rfl,fin⟩) hs
theorem LS (lo hi:Option Int) (n:Nat):(sliceBounds lo hi none n).1=((HT.sIx n 0 lo:Nat):Int)/\(sliceBounds lo hi none n).2.1=((HT.sIx n n hi:Nat):Int)/\(sliceBounds lo hi none n).2.2=1:=by
 refine ⟨?_,?_,rfl⟩
 .cases lo with
  | none=>simp [sliceBounds,HT.sIx]
  | some i =>
   simp only [sliceBounds,HT.sIx,Option.getD_none,show (1:Int)>0 by decide,if_true];by_cases h:i<0
   .simp only [h,if_true]<;>lia
   .simp only [h,if_false]<;>lia
 .cases hi with
  | none=>simp [sliceBounds,HT.sIx]
  | some i =>
   simp only [sliceBounds,HT.sIx,Option.getD_none,show (1:Int)>0 by decide,if_true];by_cases h:i<0
   .simp only [h,if_true]<;>lia
   .simp only [h,if_false]<;>lia
theorem LT (qc:List Value) (lo hi:Option Int):slicePick qc.toArray lo hi none=((qc.drop (HT.sIx qc.length 0 lo)).take (HT.sIx qc.length qc.length hi-HT.sIx qc.length 0 lo)).toArray:=by obtain ⟨h1,h2,h3⟩:=LS lo hi qc.toArray.size;unfold slicePick;rw [h1,h2,h3];simp only [sliceRange_one,pick_run,List.size_toArray]<;>rfl
def rSlL (K:W.Frag):V->Option Int->Option Int->Hp->VK->Prop:=fun x lo hi H Q=>∃ a xs,x=.ref a/\SqL K H a xs/\∀ p,H p=none->Q (.ref p) (aJ H p (.lst (jJ xs lo hi)))
theorem LU:SlR X (rSlL X.K):=by intro pj s O H x v vl vu lo hi sl Q I rx hs pl pu h;obtain ⟨a,xs,rfl,hx,q⟩:=h;cases rx;obtain ⟨qc,r,ht,hz⟩:=I.list hx;have hlen:=r.length;refine ⟨"list",_,slot_list_getitem.lookup,ht.isList.typeIs,?_⟩;refine wpAny_getItem_list_slice ht.isList hs pl pu .none (by simp) ?_ (by rw [kJ]<;>lia);rw [LT,<- hlen];refine ⟨.ref s.heap.objs.size,_,I.laid (t':=s.toks) (o:=.lst (jJ xs lo hi)) (fun b ob q=>aR _ q) (aW _) ?_,rfl,q _ (I.hok.fresh (aW _))⟩;exact ⟨dS (AG xs lo hi) hz,_,0,(r.drop (HT.sIx xs.length 0 lo)).take (HT.sIx xs.length xs.length hi-HT.sIx xs.length 0 lo),bW _ rfl⟩
def lV:V->Bool
 | .non=>true
 | .bl _=>true
 | .int _=>true
 | .str _=>true
 | _=>false
noncomputable def eqV:V->V->Bool
 | .non,.non=>true
 | .bl a,.bl b=>a==b
 | .bl a,.int b=>(if a then 1 else 0)==b
 | .int a,.bl b=>a==(if b then 1 else 0)
 | .int a,.int b=>a==b
 | .str a,.str b=>a==b
 | _,_=>false
theorem LV {A:Around} {s:Shared} {y x:V} {u v:Value} (ry:aB y u) (rx:aB x v) (fy:lV y=true) (fx:lV x=true):SeqAt.EqAt A s u v (eqV y x):=by
 cases y with
 | non =>
  cases ry;cases x with
  | non=>cases rx;exact SeqAt.EqAt.same _
  | bl b=>cases rx;exact SeqAt.EqAt.none_bool b
  | int b=>obtain ⟨t,rfl⟩:=rx;exact SeqAt.EqAt.none_int b t
  | str b=>obtain ⟨t,rfl⟩:=rx;exact SeqAt.EqAt.none_str b t
  | _=>exact absurd (show false=true from fx) dH
 | bl a =>
  cases ry;cases x with
  | non=>cases rx;exact SeqAt.EqAt.bool_none a
  | bl b=>cases rx;exact SeqAt.EqAt.bool_bool a b
  | int b=>obtain ⟨t,rfl⟩:=rx;exact SeqAt.EqAt.bool_int a b t
  | str b=>obtain ⟨t,rfl⟩:=rx;exact SeqAt.EqAt.bool_str a b t
  | _=>exact absurd (show false=true from fx) dH
 | int a =>
  obtain ⟨t',rfl⟩:=ry;cases x with
  | non=>cases rx;exact SeqAt.EqAt.int_none a t'
  | bl b=>cases rx;exact SeqAt.EqAt.int_bool a t' b
  | int b=>obtain ⟨t,rfl⟩:=rx;exact SeqAt.EqAt.int_int a t' b t
  | str b=>obtain ⟨t,rfl⟩:=rx;exact SeqAt.EqAt.int_str a t' b t
  | _=>exact absurd (show false=true from fx) dH
 | str a =>
  obtain ⟨t',rfl⟩:=ry;cases x with
  | non=>cases rx;exact SeqAt.EqAt.str_none a t'
  | bl b=>cases rx;exact SeqAt.EqAt.str_bool a t' b
  | int b=>obtain ⟨t,rfl⟩:=rx;exact SeqAt.EqAt.str_int a t' b t
  | str b=>obtain ⟨t,rfl⟩:=rx;exact SeqAt.EqAt.str_str a t' b t
  | _=>exact absurd (show false=true from fx) dH
 | _=>exact absurd (show false=true from fy) dH
def eqU (x:V) (u:Value):Bool:=match u with
 | .none=>eqV .non x
 | .bool b=>eqV (.bl b) x
 | .int i _=>eqV (.int i) x
 | .str z _=>eqV (.str z) x
 | _=>false
theorem AI {x y:V} {u:Value} (r:aB y u) (f:lV y=true):eqU x u=eqV y x:=by
 cases y with
 | non=>cases r;rfl
 | bl b=>cases r;rfl
 | int i=>obtain ⟨t,rfl⟩:=r;rfl
 | str z=>obtain ⟨t,rfl⟩:=r;rfl
 | _=>exact absurd (show false=true from f) dH
theorem AJ {A:Around} {s:Shared} {x:V} {v:Value} (rx:aB x v) (fx:lV x=true):∀ {xs:List V} {us:List Value},aH xs us->xs.all lV=true->∀ u∈us,SeqAt.EqAt A s u v (eqU x u)
 | _,_,.nil,_=>fun u hu=>by cases hu
 | y::xs,u::us,.cons r t,f=>fun u' hu=>by
  rw [List.all_cons,bS] at f;rcases omc hu with rfl | hu
  .rw [AI r f.1];exact LV r rx f.1 fx
  .exact AJ rx fx t f.2 u' hu
theorem AK:iT X (.builtin "len") (fun xs H Q=>∃ p ys,xs=[.ref p]/\(SqL X.K H p ys\/SqT X.K H p ys)/\Q (.int ys.length) H):=by
 intro pj s O H xs us Q I r h;obtain ⟨p,ys,rfl,hq,q⟩:=h;obtain ⟨u,rfl,rx⟩:=jI r;cases rx;have hn:=qK;rcases hq with hq | hq
 .obtain ⟨qc,r',pl,hz⟩:=I.list hq;have hlen:=r'.length;exact Calls.call_len_list pl.isList (by simp only [List.size_toArray]<;>lia) ⟨.int ys.length,H,I.tok _,⟨s.toks+1,by rw [kJ,hlen]⟩,q⟩
 .obtain ⟨qc,r',pl,hz⟩:=I.tuple hq;have hlen:=r'.length;exact len_tuple pl (by simp only [List.size_toArray]<;>lia) ⟨.int ys.length,H,I.tok _,⟨s.toks+1,by rw [kJ,hlen]⟩,q⟩
theorem AM:iT X (.type "tuple") (fun xs H Q=>∃ p ys,xs=[.ref p]/\((SqL X.K H p ys/\∀ l,H l=none->Q (.ref l) (aJ H l (.tup ys)))\/(SqT X.K H p ys/\Q (.ref p) H))):=by
 intro pj s O H xs us Q I r h;obtain ⟨p,ys,rfl,h⟩:=h;obtain ⟨u,rfl,rx⟩:=jI r;cases rx;rcases h with ⟨hq,q⟩ | ⟨hq,q⟩
 .obtain ⟨qc,r',pl,hz⟩:=I.list hq;have hlen:=r'.length;refine call_tuple_list pl.isList (fun h' kp=>?_) (by simp only [List.size_toArray]<;>lia);have I1:Inv X pj O H { s with heap:=h' }:=I.kept (t':=s.toks) kp;have I2:Inv X pj O (aJ H h'.objs.size (.tup ys)) { s with heap:=h'.push { cls:=.type "tuple",data:=.seq qc.toArray } } :=
   I1.laid (t':=s.toks) (fun b o e=>aR _ e) (aW _) (show aS X.prog X.w _ _ _ (.tup ys) from ⟨hz,qc,r',IsTup.new _ _⟩)
  exact ⟨.ref h'.objs.size,_,I2,rfl,q _ (I1.hok.fresh (aW _))⟩
 .obtain ⟨qc,r',pl,hz⟩:=I.tuple hq;exact call_tuple_same pl ⟨.ref p,H,I,rfl,q⟩
def tyV (K:W.Frag) (T:String) (x:V) (H:Hp):Prop:=match x with
 | .str _=>T="str"
 | .int _=>T="int"
 | .ref p=>(T="list"/\∃ xs,SqL K H p xs)\/(T="tuple"/\∃ o,K.lookup p=some o/\o.cls=.type "tuple"/\o.dict=none) \/
   (T="dict"/\((∃ qb,H p=some (.dK qb))\/∃ qb,H p=some (.dT qb)))\/(T="set"/\∃ S n,H p=some (.set S n))
 | _=>False
theorem LW {pj:Pq} {O:St} {H:Hp} {s:Shared} {T:String} {x:V} {v:Value} (I:Inv X pj O H s) (r:aB x v) (ty:tyV X.K T x H) :
  s.TypeIs v T/\∀ a,v=.ref a->∃ ob,s.heap.get? a=some ob/\ob.dict=none:=by
 cases x with
 | str z =>obtain ⟨t,rfl⟩:=r;cases (show T="str" from ty);exact ⟨typeIs_str s z t,fun _ e=>nomatch e⟩
 | int i =>obtain ⟨t,rfl⟩:=r;cases (show T="int" from ty);exact ⟨typeIs_int s i t,fun _ e=>nomatch e⟩
 | ref p =>
  cases r;rcases ty with ⟨rfl,xs,hq⟩ | ⟨rfl,o,hk,hc,hd⟩ | ⟨rfl,hk⟩ | ⟨rfl,S,n,hk⟩
  .obtain ⟨qc,_,pl,_⟩:=I.list hq;refine ⟨pl.isList.typeIs,fun a e=>?_⟩;cases e;obtain ⟨o,n,e,c,hd,_⟩:=pl;exact ⟨o,e,hd⟩
  .refine ⟨⟨o,I.kIn p o hk,hc⟩,fun a e=>?_⟩;cases e;exact ⟨o,I.kIn _ o hk,hd⟩
  .have z:∃ o,s.heap.get? p=some o/\o.ExactDict:=by
    rcases hk with ⟨qb,hk⟩ | ⟨qb,hk⟩
    .obtain ⟨_,_,_,_,o,_,_,e,ex,_⟩:=I.hok p _ hk;exact ⟨o,e,ex⟩
    .obtain ⟨_,_,_,_,o,_,_,e,ex,_⟩:=I.hok p _ hk;exact ⟨o,e,ex⟩
   obtain ⟨o,e,ex⟩:=z;refine ⟨⟨o,e,ex.1⟩,fun a e2=>?_⟩;cases e2;exact ⟨o,e,ex.2.1⟩
  .obtain ⟨o,_,_,_,e,ex,_⟩:=I.hok p _ hk;refine ⟨⟨o,e,ex.1⟩,fun a e2=>?_⟩;cases e2;exact ⟨o,e,ex.2.1⟩
 | _=>exact False.elim ty
def tBM (K:W.Frag) (T:String) (r:V->List V->Hp->VK->Prop) (to:TE) (t:TA):TE:=fun O H Q=>to O H fun x H1=>tyV K T x H1/\t O H1 fun xs H2=>r x xs H2 Q
variable {o e:Expr} {es:List Expr} {to:TE} {t:TA} {name:Str} {apos cpos:Pos} {T id:String} {r:V->List V->Hp->VK->Prop}
theorem nA (pa:PlainAttrs T) (slot:Slot T name id) (hty:typeOf (.builtin id)=pure (.type "method_descriptor")) (hm:MtR X id r) (ho:PE X o to) (ha:PA X (e::es) t)
  (hbase:attributeBase o name X.env (eval o X.env)=eval o X.env:=by rfl)
  (hfew:((backTo cpos (starEach (e::es) X.env)).all (fun x=>!x.1)&&(backToKw cpos (keywordEach [] X.env)).all (fun x=>x.1.isSome)
   && decide ((e::es).length+([]:List Keyword).length+(if ([]:List Keyword).isEmpty then 0 else 1)<30))=true:=by rfl)
  (hline:(apos.endLine==cpos.line)=true:=by rfl) (hs:starEach (e::es) X.env=(false,eval e X.env)::starEach es X.env:=by rfl) (hplain:(backTo cpos (starEach es X.env)).any (·.1)=false:=by rfl) :
  PE X (.Call (.Attribute o name apos) (e::es) [] cpos) (tBM X.K T r to t):=by
 intro pj s O H Q I h;refine wpAny_Call_method_late hbase hfew hline rfl (thn (ho pj s O H _ I h) fun v s1 ⟨x,H1,I1,r1,ty,q1⟩=>?_);obtain ⟨h1,h2⟩:=LW I1 r1 ty;refine ⟨T,id,pa,slot,hty,h1,h2,?_⟩;have hA:=ha cpos pj s1 O H1 _ I1 q1;rw [hs] at hA ⊢;refine Calls.callWith_builtin (by show (false||(backTo cpos (starEach es X.env)).any (·.1))=false;rw [hplain]<;>rfl) (Calls.evalArgs_plain ?_);exact thn hA fun us s2 ⟨vs,H2,I2,r2,q2⟩=>hm pj s2 O H2 x vs v us Q I2 r1 r2 q2
end
end
section
variable {qc:List Value}
def MtM (X:Cx) (id:String) (r:V->List V->Hp->VK->Prop):Prop :=
 ∀ (pj:Pq) (s:Shared) (O:St) (H:Hp) (x:V) (xs:List V) (v:Value) (us:List Value) (Q:VK),Inv X pj O H s->aB x v->aH xs us->r x xs H Q ->
  wpAny (model X.prog X.w) X.A (call (.builtin id) (v::us)) (EP X pj O Q) X.xe s
theorem aH.one {x:V} {us:List Value} (h:aH [x] us):∃ u,us=[u]/\aB x u:=by
 cases h with
 | cons r t=>cases t;exact ⟨_,rfl,r⟩
section
variable {X:Cx} {pj:Pq} {O:St} {H:Hp} {s:Shared} {l b:Addr} {xs ys zs:List V}
theorem Inv.lset {its':List Value} {n:Nat} {f:Array Value->Array Value} {t':Nat} (I:Inv X pj O H s) (hH:H l=some (.lst xs))
  (e:s.heap.get? l=some { cls:=.type "list",data:=.seq qc.toArray n }) (hf:f qc.toArray=its'.toArray) (hv:aH ys its') (hz:ys.length<=sizeLine) :
  Inv X pj O (aJ H l (.lst ys)) { s with heap:=s.heap.update l (Obj.mapSeq f),toks:=t' }:=by
 have q:=PySem.IsL.update e f;rw [hf] at q;refine I.write (x:=l) (e:=l) (by rw [hH];exact trivial) (.inl rfl) (fun b' u hb hu=>(Heap.get?_update_other s.heap (Obj.mapSeq f) (Ne.symm hb)).trans hu) ⟨_,q⟩ ?_;exact ⟨hz,its',_,hv,q⟩
theorem Inv.lnew {t':Nat} (I:Inv X pj O H s) (hv:aH ys qc) (hz:ys.length<=sizeLine) :
  Inv X pj O (aJ H s.heap.objs.size (.lst ys)) { s with heap:=s.heap.push { cls:=.type "list",data:=.seq qc.toArray },toks:=t' } :=
 I.laid (fun _ _ q=>aR _ q) (aW _) ⟨hz,qc,0,hv,bW _ rfl⟩
theorem Inv.fresh (I:Inv X pj O H s):H s.heap.objs.size=none:=I.hok.fresh (aW _)
theorem Inv.lstM (I:Inv X pj O H s) (hH:H l=some (.lst xs)):xs.length<=sizeLine/\∃ (qc:List Value) (n:Nat),aH xs qc/\xs.length=qc.length/\s.heap.get? l=some { cls:=.type "list",data:=.seq qc.toArray n }:=by obtain ⟨z,qc,n,r,e⟩:=I.hok l _ hH;exact ⟨z,qc,n,r,r.length,e⟩
theorem LY {n:Nat} (h:n<=sizeLine):Builtin.List.listTooLong n=false:=by unfold Builtin.List.listTooLong;exact eG (by lia)
end
section
variable {X:Cx}
def LZ:V->List V->Hp->VK->Prop:=fun x vs H Q=>∃ l xs y,x=.ref l/\vs=[y]/\H l=some (.lst xs)/\xs.length<sizeLine/\Q .non (aJ H l (.lst (xs++[y])))
theorem vD:MtM X "list.append" LZ:=by intro pj s O H x vs v us Q I rx rv h;obtain ⟨l,xs,y,rfl,rfl,hH,hz,q⟩:=h;cases rx;obtain ⟨u,rfl,ru⟩:=rv.one;obtain ⟨z,qc,n,r,hl,e⟩:=I.lstM hH;refine call_meets F.slot_list_append ⟨_,e,rfl⟩ F.entry_list_append (F.args_list_append_2 _ _) (PySem.list_append l qc.toArray n u (by rw [cO];lia)) ⟨e,?_⟩;refine ⟨.non,_,I.lset (its':=qc++[u]) hH e (by simp) (r.append (.cons ru .nil)) ?_,rfl,q⟩;rw [eU,List.length_singleton];lia
def rCat:R2:=fun x y H Q=>∃ l b xs zs,x=.ref l/\y=.ref b/\H l=some (.lst xs)/\H b=some (.lst zs)/\xs.length+zs.length<=sizeLine/\∀ p,H p=none->Q (.ref p) (aJ H p (.lst (xs++zs)))
theorem MA:OpR X (binaryOp .Add) rCat:=by
 intro pj s O H x y v u Q I rx ry h;obtain ⟨l,b,xs,zs,rfl,rfl,hH,hB,hz,q⟩:=h;cases rx;cases ry;obtain ⟨z,qc,n,r,hl,e⟩:=I.lstM hH;obtain ⟨z2,its2,n2,r2,hl2,e2⟩:=I.lstM hB;refine PySem.P.add_list e e2 ?_ (by rw [cO,cO];lia);have ea:qc.toArray++its2.toArray=(qc++its2).toArray:=by simp
 rw [ea];exact ⟨.ref _,_,I.lnew (t':=s.toks) (r.append r2) (by rw [eU];lia),rfl,q _ I.fresh⟩
end
section
variable {prog:Program} {w:World} {A:Around} {E:Vq} {s:Shared}
set_option maxRecDepth 100000 in
end
section
variable {X:Cx}
end
end
end L2
namespace Att
open PySem PySem.W PySem.Calls PyProof.Rows
theorem MB {P:Params} {h:Heap}:∀ (ns:List Int) (vs:List Value),WellAll P h vs (ns.map WData.int)->IntsAre vs ns:=by
 intro ns
 induction ns with
 | nil =>intro vs w;rw [List.map_nil] at w;cases w;exact .nil
 | cons n ns ih =>
  intro vs w;rw [aT] at w;cases w with
  | cons a b =>cases a;exact .cons _ _ (ih _ b)
theorem MC {l:OpenLaw} {n:Nat} (hn:l.most=some n) {P:Params} {h:Heap} {args:List WData} {vals:List Value}
  (hpre:l.row.toRowW.claim.pre args=true) (hwl:WellAll P h vals args) :
  ∃ a vs ns,vals=[Value.ref a]/\args=[WData.list (ns.map WData.int)]/\h.get? a=some { cls:=.type "list",data:=.seq vs.toArray }/\IntsAre vs ns/\ns.length<=n:=by
 have hsh:WShape.hasAll [] args [.list .int]=true:=(pre_splitW hpre).1;have hc:l.pre.holds [] { args:=args }=true:=(pre_splitW hpre).2;obtain ⟨d,r,rfl,h1,h2⟩:=hasAllW_cons hsh;obtain rfl:=hasAllW_nil h2;obtain ⟨xs,rfl,h3⟩:=hasW_list h1;obtain ⟨ns,rfl⟩:=items_int h3;have hlen:ns.length<=n:=by
  unfold OpenLaw.pre at hc;have h4:(WTm.not (.lt (.lit (.int (n:Int))) (.len (.arg 0)))).holds [] { args:=[.list (ns.map .int)] }=true:=by have h4:=(holds_andW hc).1;rw [hn] at h4;exact h4
  have h5:=condW_of h4 (w_not (w_lt w_lit (w_len_list (w_arg rfl))));rw [bE] at h5;refine Nat.le_of_not_lt fun q=>?_;have q':(n:Int)<((ns.length:Nat):Int):=by lia
  first
   | (rw [dY q'] at h5;exact absurd h5 (by decide))
   | (simp at h5;lia)
 cases hwl with
 | cons w1 w2 =>
  cases w2;cases w1 with
  | list ho hall=>exact ⟨_,_,ns,rfl,rfl,ho,MB ns _ hall,hlen⟩
theorem MD (l:OpenLaw) (args:List WData):l.row.toRowW.claim.post args (.bool true) args=true :=
 postW_of (r:=l.row.toRowW) (X:=(true==true))
  (show WShape.has [] (.bool true) .bool=true by first | rfl | decide | simp [WShape.has,WShape.arms,WShape.armsAll])
  (show (WTm.eq .res (.lit (.bool true))).value [] { args:=args,res:=some (.bool true),after:=args }=some (.bool (true==true)) from w_eq_bool (w_res rfl) w_lit) rfl
theorem attach_call {l:OpenLaw} {n:Nat} {q:Program} {loose:List Str} {XP:(Mq)->Heap->Prop} {YP:World->Heap->Prop} {d:DefRec}
  (hn:l.most=some n) (hdf:d.params.defaults=[])
  (call:∀ (w:World) (s₀ s₁:Shared) (mg mb:Mq) (fa:Addr) (o:Obj) (pm cd doc:Value) (a:Addr) (vs:List Value) (ns:List Int),
   Ground q loose [] XP w s₀ mg mb s₁.heap->YP w s₁.heap ->
   s₁.heap.get? fa=some o->o.data=.func (docDef d.name d.params d.body d.scope pm cd doc)->s₁.heap.CodeRec cd d.name->mg d.name=some (.ref fa) ->
   s₁.heap.get? a=some { cls:=.type "list",data:=.seq vs.toArray }->IntsAre vs ns->ns.length<=n->s₁.gens=#[] ->
   codeAny (model l.prog w) callerA (.call (.ref fa) ⟨[.ref a],[]⟩) (fun r s'=>r=.ok (.ret (.bool true))/\OldK s₁.heap s'.heap/\s'.os=s₁.os/\AllBare s'.gens) s₁) :
  WalkO q loose XP YP l.row.toRowW d [] (fun f vs=>PySem.call f vs):=by
 intro w s₀ s₁ mg mb G Y fa o pm cd doc dV kV ho hd hcd hD hmg hg args vals as hpre hlay hrd hwl hlo;obtain rfl:dV=.none:=Dflts.none hD hdf;obtain rfl:kV=.none:=Dflts.noKw hD;obtain ⟨a,vs,ns,rfl,rfl,hobj,hints,hlen⟩:=MC hn hpre hwl;refine enter_call (codeAny_mono (call w s₀ s₁ mg mb fa o pm cd doc a vs ns G Y ho (fd_plain hd) hcd hmg hobj hints hlen hg) fun r s' hq=>?_);obtain ⟨rfl,h2,h3,h4⟩:=hq;exact ⟨.inl ⟨.bool true,.bool true,[],rfl,fun _=>rfl,.bool true,MD l _,fun _=>⟨List.Pairwise.nil,fun _ hm=>(nomatch hm)⟩⟩,h2,h3,h4⟩
section
variable {prog:Program} {w:World} {A:Around} {E:Vq} {s:Shared} {K:Frag}
noncomputable def ledger (h:Heap) (L d:Addr):Pq:=(List.range h.objs.size).filterMap fun a=>if a=L\/a=d then none else (h.get? a).map fun o=>(a,o)
end
end Att
namespace L2
open PySem Spec PyProof.Rows
section
theorem AN:∀ {vs:List Value} {ns:List Int},IntsAre vs ns->aH (ns.map V.int) vs
 | _,_,.nil=>.nil
 | _,_,.cons n t h=>.cons ⟨t,rfl⟩ (AN h)
end
section
abbrev KOf {K:W.Frag} {h:Heap} (_:K.In h):W.Frag:=K
end
section
variable {x qual:Str} {st:Stmt} {f:Addr} {fd:FuncData} {ps:List Str}
def eR (s:Stmt):Arguments:=match s with
 | .FunctionDef _ a _ _ _ _ _ _ _ _=>a
 | _=>{ posonlyargs:=[],args:=[],vararg:=none,kwonlyargs:=[],kw_defaults:=[],kwarg:=none,defaults:=[] }
def cW (s:Stmt):List Stmt:=match s with
 | .FunctionDef _ _ b _ _ _ _ _ _ _=>b
 | _=>[]
def aK (s:Stmt):Scope:=match s with
 | .FunctionDef _ _ _ _ _ _ sc _ _ _=>sc
 | _=>{ kind:=.function,names:=[],isGenerator:=false,isCoroutine:=false }
abbrev CX0:CXT:=fun _ _ _ _ _ _=>False
abbrev E0:XK:=fun _ _ _=>False
theorem AO {X:Cx}:kR CX0 X E0:=fun _ _ _ _ _ _ _ h=>h.elim
structure Fun (K:W.Frag) (x qual:Str) (st:Stmt) (f:Addr) (fd:FuncData):Prop where
 ex:∃ (oc:Value) (od:Option Addr) (kV doc pm:Value) (an:Option Addr) (cdv ct:Value) (osl:Array (Option Value)),
  fd=W.fnOf x qual (eR st) (cW st) (aK st) .none kV doc pm an cdv ct/\K.lookup f=some ⟨oc,od,.func fd,osl⟩/\W.codeIn K cdv qual=true
 kp:W.keepIn K (.ref f)=true
section
variable {P:Program} {w:World} {K:W.Frag} {mg:Mq} {base:Heap}
theorem Fun.ok {N:List Str} {k:Nat} {sp:Sp} (F:Fun K x qual st f fd) (S:FnScope N ps (aK st)) (len:∀ vs H Q E,sp vs H Q E->vs.length=ps.length)
  (hbody:∀ (cdv:Value) (A:Around) (outer:List Env) (s:Shared) (H:Hp) (vs:List V) (Q:VK) (E:XK),Room k (A.deeper (envOfC qual (aK st) s.heap.objs.size f cdv))->sp vs H Q E ->
   ∃ t,PSs (gB CX0 P w K mg base N qual (aK st) f cdv A outer s H E).nox (cW st) t/\t { nx:=fun _ H'=>Q .non H',rt:=Q } (start N vs) H):FnOk P w K mg base CX0 (k+1) f fd ps sp:=by
 obtain ⟨oc,od,kV,doc,pm,an,cdv,ct,osl,rfl,lk,hcd⟩:=F.ex;refine qN lk hcd S len fun A outer s H vs Q E hr hsp=>?_;obtain ⟨t,h,q⟩:=hbody cdv A outer s H vs Q E hr hsp;exact ⟨t,h.nox,q⟩
theorem Fun.binds (F:Fun K x qual st f fd)
  (h:∀ (kV doc pm:Value) (an:Option Addr) (cdv ct:Value) (us:List Value),us.length=ps.length->bindArgs (W.fnOf x qual (eR st) (cW st) (aK st) .none kV doc pm an cdv ct) ⟨us,[]⟩=pure (ps.zip us)):Binds K fd ps []:=by
 obtain ⟨oc,od,kV,doc,pm,an,cdv,ct,osl,rfl,lk,hcd⟩:=F.ex;exact .all (h kV doc pm an cdv ct)
theorem ME {oc:Value} {od an:Option Addr} {osl:Array (Option Value)} {kV doc pm cdv ct:Value} (l:K.lookup f=some ⟨oc,od,.func (W.fnOf x qual (eR st) (cW st) (aK st) .none kV doc pm an cdv ct),osl⟩)
  (c:W.codeIn K cdv qual=true) (k:W.keepIn K (.ref f)=true):Fun K x qual st f (W.fnOf x qual (eR st) (cW st) (aK st) .none kV doc pm an cdv ct):=⟨⟨oc,od,kV,doc,pm,an,cdv,ct,osl,rfl,l,c⟩,k⟩
end
theorem AQ {n:Nat} (h:n<=1000):n<sizeLine:=Nat.lt_of_le_of_lt h (by decide)
section
variable {X:Cx}
theorem pv (i:Nat) {pos:Pos} (hN:X.N[i]?=some x:=by rfl) (hv:Vis X.env.scope x:=by first | exact Or.inl rfl | exact Or.inr (Or.inl rfl) | exact Or.inr (Or.inr rfl)) (hd:(x==("__debug__":Str))=false:=by decide)
  (hcd:(x==("__classdict__":Str))=false:=by decide):PE X (.Name x pos) (mX i):=kQ hN hv hd hcd
end
theorem iteF {A B:Prop} (h:B):if false=true then A else B:=by rw [if_neg dH];exact h
theorem iteT {A B:Prop} (h:A):if true=true then A else B:=by rw [if_pos rfl];exact h
def Same (H H':Hp):Prop:=∀ b o,H b=some o->H' b=some o
theorem Same.refl (H:Hp):Same H H:=fun _ _ h=>h
theorem Same.trans {H H1 H2:Hp} (a:Same H H1) (b:Same H1 H2):Same H H2:=fun c o h=>b c o (a c o h)
theorem Same.free {H H':Hp} (e:Same H H') {l:Addr} (h:H' l=Option.none):H l=Option.none:=by
 cases q:H l with
 | none=>rfl
 | some o =>rw [e l o q] at h;cases h
theorem Same.seq {K:W.Frag} {H H':Hp} {a:Addr} {xs:List V} (e:Same H H') (h:SqL K H a xs):SqL K H' a xs:=by
 rcases h with (h | ⟨o,h⟩) | h
 .exact .inl (.inl (e _ _ h))
 .exact .inl (.inr ⟨o,e _ _ h⟩)
 .exact .inr h
end
end L2
end
namespace Ev.Ex
open PySem
section
variable {fI:Addr}
structure Mr (B:String) (l:List Value):Prop where
 b:l.contains (.type B)=true
 a:l.contains (.type "AttributeError")=false
 n:l.contains (.type "NameError")=false
theorem Mr.cb {B:String} {l:List Value} {C:Addr} (m:Mr B l):(Value.ref C::l).contains (.type B)=true:=by rw [List.contains_cons,m.b];rfl
theorem Mr.ca {B:String} {l:List Value} {C:Addr} (m:Mr B l):(Value.ref C::l).contains (.type "AttributeError")=false:=by rw [List.contains_cons,m.a];rfl
theorem Mr.cn {B:String} {l:List Value} {C:Addr} (m:Mr B l):(Value.ref C::l).contains (.type "NameError")=false:=by rw [List.contains_cons,m.n];rfl
section
variable {P:Program} {w:World} {A:Around} {E:Vq} {h:Heap} {g:Array GenState} {d:Drawn} {t:Nat} {os:OsState} {k y:Str} {C N:Addr} {b l lB:List Value} {hd ab:Bool} {sn:List Str} {sub:List Value} {cl:Option Bool} {dd:Option Addr} {k0 k1 k2 k3 k5:Option Value} {B nw ni:String} {us:List Value}
theorem MF {M:Model} {Q:Unit->Shared->Prop} (F:ExcBaseFacts B nw ni lB) (m:Mr B l) (hC:h.get? C=some (excClassObj k y C N b l hd sn sub ab cl dd k0 k1 k2 k3 k5 nw)) (q:Q () ⟨h,g,d,t,os⟩) :
  wpAny M A (checkBuiltinCall nw ⟨.ref C::us,[]⟩) Q E ⟨h,g,d,t,os⟩:=by
 have c:=m.cb (C:=C);have st:=F.noStar;simp only [checkBuiltinCall,F.newKind,F.newSplit,F.newRow]
 repeat (first | (refine wpAny_isSubtype_exc hC ?_;rw [c]) | refine wpAny_loadPart_at hC ?_ | refine wpAny_madeBy_exc hC ?_ | refine wpAny_staticBase_exc hC ?_ | simp only [bne_self_eq_false,Bool.false_eq_true,if_false] | wp_step)
 exact q
noncomputable def exH (h:Heap) (C:Addr) (us:List Value):Heap:=(h.push { cls:=.type "tuple",data:=.seq us.toArray }).push { cls:=.ref C,data:=.fields #[.ref h.objs.size,.none,.none,.none,.bool false,.none] }
theorem MG {R:Result->Shared->Prop} (F:ExcBaseFacts B nw ni lB) (m:Mr B l) (hC:h.get? C=some (excClassObj k y C N b l hd sn sub ab cl dd k0 k1 k2 k3 k5 nw)) (hl:us.length<=sizeLine)
  (q:R (.ok (.ret (.ref (h.objs.size+1)))) ⟨exH h C us,g,d,t,os⟩):codeAny (model P w) A (.builtin nw ⟨.ref C::us,[]⟩) R ⟨h,g,d,t,os⟩:=by
 have c1:=m.cb (C:=C);have c2:=m.ca (C:=C);have c3:=m.cn (C:=C);have fe:=F.ends;have hrest:=hl;refine codeAny_builtinAt F.entry ?_;unfold Builtin.«BaseException.__new__»;refine PySem.wpAt_bind (show PySem.wpAt _ _ _ (stack >>= _) _ _ _ from PySem.wpAt_bind (PySem.wpAt_stack fun p below=>PySem.wpAt_of_wpAny ?_))
 wp_walk
 refine PySem.wpAt_of_wpAny ?_;rw [F.owner]
 repeat (first | with_reducible refine wpAny_loadPart_at hC ?_ | with_reducible refine wpAny_madeHere_exc F.canon hC ?_ | (with_reducible refine wpAny_isSubtype_exc hC ?_;first | rw [c1] | rw [c2] | rw [c3]) | wp_step)
 show R _ _;rw [eL];exact q
def Ini (h:Heap) (C fI:Addr):Prop:=∃ K:W.Frag,K.In h/\W.findIn K (.ref C) "__init__"=some (some (.ref fI))/\W.typeIn K (.ref fI)=some (.type "function")
theorem Ini.up {h h':Heap} {C fI:Addr} (i:Ini h C fI) (up:∀ b o,h.get? b=some o->h'.get? b=some o):Ini h' C fI:=let ⟨K,k,r⟩:=i;⟨K,k.keeps up,r⟩
theorem Ini.fn {h:Heap} {C:Addr} (i:Ini h C fI):∃ o,h.get? fI=some o/\o.cls=.type "function":=by obtain ⟨K,k,_,e⟩:=i;obtain ⟨o,h1,h2⟩:=oms e;exact ⟨o,k _ _ h1,h2⟩
theorem MH {M:Model} {Q:Option Value->Shared->Prop} (i:Ini h C fI) (q:Q (some (.ref fI)) ⟨h,g,d,t,os⟩):wpAny M A (typeLookup (.ref C) "__init__") Q E ⟨h,g,d,t,os⟩:=by obtain ⟨K,k,e,_⟩:=i;exact (W.looks_findIn k e).here q
theorem vE {h:Heap} {C:Addr} {us:List Value}:∀ b o,h.get? b=some o->(exH h C us).get? b=some o:=fun _ _ e=>aR _ (aR _ e)
theorem AR {h:Heap} {C:Addr} {us:List Value}:(exH h C us).get? (h.objs.size+1)=some { cls:=.ref C,data:=.fields #[.ref h.objs.size,.none,.none,.none,.bool false,.none] }:=by unfold exH;heap_get
theorem MI {Q:Fin->Shared->Prop} (F:ExcBaseFacts B nw ni lB) (m:Mr B l) (hC:h.get? C=some (excClassObj k y C N b l hd sn sub ab cl dd k0 k1 k2 k3 k5 nw)) (hl:us.length<=sizeLine) (i:Ini h C fI)
  (q:wpAny (model P w) A (call (.ref fI) (.ref (h.objs.size+1)::us)) (fun r s'=>r=.none/\Q (.done (.ret (.ref (h.objs.size+1)))) s') E ⟨exH h C us,g,d,t,os⟩) :
  wpAny (model P w) A (Builtin.«type.__call__» ⟨.ref C::us,[]⟩) Q E ⟨h,g,d,t,os⟩:=by
 repeat (first | with_reducible refine wpAny_madeBy_exc hC ?_ | with_reducible refine wpAny_loadPart_at hC ?_ | wp_step)
 refine codeAny_call_builtin_code (Code.quiet_builtin _ F.quiet) (MF F m hC (MG F m hC hl ?_));show wpAny _ _ _ _ _ _;have C1:=vE (C:=C) (us:=us) _ _ hC;have i1:=i.up (vE (C:=C) (us:=us));have cc:(Value.ref C::l).contains (.ref C)=true:=by simp
 have ee:=AR (h:=h) (C:=C) (us:=us);unfold isInstance
 repeat (first | (with_reducible refine wpAny_isSubtype_exc C1 ?_;rw [cc]) | with_reducible refine wpAny_loadPart_at ee ?_ | wp_step)
 show wpAny _ _ (typeLookup (.ref C) _) _ _ _;refine MH i1 (gU (aA ?_));obtain ⟨o,o1,o2⟩:=i1.fn;unfold bindSpecial;refine aA (wpAny_typeOf (T:="function") ⟨o,o1,o2⟩ ?_);rw [if_pos (by decide)];refine aL (aA (fS q (fun r s' ⟨hr,hq⟩=>?_) fun _ _ x=>x));subst hr
 wp_walk
 exact hq
theorem MJ {Q:Vq} (F:ExcBaseFacts B nw ni lB) (m:Mr B l) (hC:h.get? C=some (excClassObj k y C N b l hd sn sub ab cl dd k0 k1 k2 k3 k5 nw)) (hl:us.length<=sizeLine) (i:Ini h C fI)
  (q:wpAny (model P w) (A.under (.builtin "type.__call__" ⟨.ref C::us,[]⟩)) (call (.ref fI) (.ref (h.objs.size+1)::us)) (fun r s'=>r=.none/\Q (.ref (h.objs.size+1)) s') E ⟨exH h C us,g,d,t,os⟩) :
  wpAny (model P w) A (call (.ref C) us) Q E ⟨h,g,d,t,os⟩:=by
 have f1:=tc_lookup;have f2:=tc_bind (.ref C);have ty:(⟨h,g,d,t,os⟩:Shared).TypeIs (.ref C) "type":=⟨_,hC,rfl⟩;refine wpAny_call (codeAny_of_tree (show wpAny _ _ (callAny (.ref C) _) _ _ _ from ?_))
 repeat (any_goals (first | with_reducible refine wpAny_loadPart_at hC ?_ | assumption | wp_step))
 exact ⟨rfl,codeAny_call_builtin_at (Code.quiet_builtin _ (by decide +kernel)) entry_typeCall (wpAny_check_type_call_sub hC (MI F m hC hl i q))⟩
end
end
section
section
variable {P:Program} {w:World} {A:Around} {E:Vq} {h:Heap} {g:Array GenState} {d:Drawn} {t:Nat} {os:OsState} {k y:Str} {C N:Addr} {b l lB:List Value} {hd ab:Bool} {sn:List Str} {sub:List Value} {cl:Option Bool} {dd:Option Addr} {k0 k1 k2 k3 k5:Option Value} {B nw ni:String} {us:List Value}
theorem MK {M:Model} {e:Addr} {o:Obj} {Q:Unit->Shared->Prop} (F:ExcBaseFacts B nw ni lB) (m:Mr B l) (hC:h.get? C=some (excClassObj k y C N b l hd sn sub ab cl dd k0 k1 k2 k3 k5 nw)) (he:h.get? e=some o) (ho:o.cls=.ref C) (q:Q () ⟨h,g,d,t,os⟩) :
  wpAny M A (checkBuiltinCall ni ⟨.ref e::us,[]⟩) Q E ⟨h,g,d,t,os⟩:=by
 have c:=m.cb (C:=C);have st:=F.noStar;simp only [checkBuiltinCall,F.initKind,F.initSplit,F.initRow]
 repeat (first | (with_reducible refine wpAny_isSubtype_exc hC ?_;rw [c]) | with_reducible refine wpAny_loadPart_at hC ?_ | (with_reducible refine wpAny_loadPart_at he ?_;rw [ho]) | wp_step)
 refine wpAny_onRaise ?_;rw [show ∀ (a b:String) (n:Nat),Bind.check ⟨.positional, "*",B,.self,[⟨"args",.varPos,false⟩]⟩ a b n (List.map (fun x=>x.fst) ({ pos:=Value.ref e::us }:Args).kw)=pure () from fun a b n=>check_star_args _ _ _ _ _ _];exact aL q
theorem ML {e z:Addr} {Q:Vq} (F:ExcBaseFacts B nw ni lB) (m:Mr B l) (hC:h.get? C=some (excClassObj k y C N b l hd sn sub ab cl dd k0 k1 k2 k3 k5 nw)) (hl:us.length<=sizeLine)
  (he:h.get? e=some { cls:=.ref C,data:=.fields #[.ref z,.none,.none,.none,.bool false,.none] })
  (q:Q .none ⟨(h.push { cls:=.type "tuple",data:=.seq us.toArray }).update e (Obj.mapFields (·.setIfInBounds 0 (.ref h.objs.size))),g,d,t,os⟩) :
  wpAny (model P w) A (call (.builtin ni) (.ref e::us)) Q E ⟨h,g,d,t,os⟩:=by
 have hrest:=hl;refine wpAny_call (codeAny_call_builtin F.init.plain F.initEntry (MK F m hC he rfl ?_));have he':=aR { cls:=.type "tuple",data:=.seq us.toArray } he
 wp_walk
 exact q
end
end
section
open PySem PySem.W Builtin Builtin.ObjectAttr
noncomputable def veL:List Value:=[.type "ValueError",.type "Exception",.type "BaseException",.type "object"]
theorem AS (x:Value):∀ rs:List Addr,refuseLoop x "__setattr__" (rs.map Value.ref++veL)=pure ()
 | []=>PySem.F.store_ValueError.passes x
 | r::rs=>(refuseLoop_ref _ _ _ _).trans (AS x rs)
theorem AT:∀ rs:List Addr,(rs.map Value.ref++veL).contains (.type "object")=true
 | []=>by decide
 | r::rs=>by rw [aT,List.cons_append,List.contains_cons,AT rs,Bool.or_true]
section
variable {P:Program} {w:World} {A:Around} {E:Vq} {s:Shared} {K:Frag} {C e:Addr} {cd:ClassData} {rs:List Addr} {fs:Array Value} {n:Str} {v:Value}
theorem MM {Q:Unit->Shared->Prop} (X:K.In s.heap) (he:s.heap.get? e=some { cls:=.ref C,data:=.fields fs }) (hc:clsIn K C=some cd) (hm:cd.mro=rs.map Value.ref++veL) (hd:cd.hasDict=true)
  (hs:findIn K (.ref C) "__setattr__"=some (some (.builtin "object.__setattr__"))) (ha:findIn K (.ref C) n=some none)
  (q:∀ h' tk,h'.get? e=some { cls:=.ref C,dict:=some s.heap.objs.size,data:=.fields fs }->h'.Ns1 s.heap.objs.size (fun x=>if x=n then some v else none)->(∀ b o,b≠e->s.heap.get? b=some o->h'.get? b=some o)->Q () { s with heap:=h',toks:=tk }) :
  wpAny (model P w) A (setAttr (.ref e) n v) Q E s:=by
 have I:W.InstAt s.heap e { cls:=.ref C,data:=.fields fs } C none:=⟨he,rfl,rfl,trivial⟩;refine set_plain X I hs ?_;obtain ⟨h,g,d,t,os⟩:=s;dsimp only at X he I q ⊢;have SF:=PySem.F.store_object;have ne:cd.mro.isEmpty=false:=by rw [hm];cases rs<;>rfl
 have sub:Looks (model P w) h (isInstance (.ref e) (.type "object")) true:=I.type.andThen (looks_mroIn X (by unfold mroIn;rw [hc,bK,if_neg (by rw [ne];decide),hm,AT]));refine codeAny_call_builtin SF.slot.plain SF.entry (@check_slot (model P w) _ _ ⟨h,g,d,t+1,os⟩ "object.__setattr__" "object" "__setattr__" (.ref e) [.str n t,v] [] _ SF.kind SF.split sub (SF.args (.ref e) (.str n t) v) ?_);have mr:Looks (model P w) h (mroOf (.ref C)) cd.mro:=(looks_clsIn X hc).andThen .now;rw [osa_eq,refuse_eq];refine aA (aA (I.type.here (aA (mr.here ?_))));rw [hm,AS];refine aL (aA (I.type.here (aA ((looks_findIn X ha).here (aA (aL ?_))))));show wpAny _ _ (storeInOwnDict _ _ _ _ _ _) _ _ _;refine aA (aL (aA (aA (wpAny_loadPart he (aA ((looks_clsIn X hc).here ?_))))));rw [hd];have he1:=aR { cls:=.type "dict",data:=.dict #[] } he;have hne:e≠h.objs.size:=bP (aX he);show wpAny _ _ (alloc { cls:=Value.type "dict",data:=Data.dict #[] } >>= fun d=>update e (fun o=>{ cls:=o.cls,dict:=some d,data:=o.data,slots:=o.slots }) >>= fun _=>dictMade (Value.ref C) e d) _ _ _;refine aA (wpAny_alloc' (aA (wpAny_update' he1 (aL (a:=some h.objs.size) ?_))));have gd:((h.push { cls:=.type "dict",data:=.dict #[] }).update e fun o=>{ cls:=o.cls,dict:=some h.objs.size,data:=o.data,slots:=o.slots }).get? h.objs.size=some { cls:=.type "dict",data:=.dict #[] }:=(kN _ _ _ _ hne.symm).trans (Heap.get?_push_at rfl rfl);show wpAny _ _ (storeInDict h.objs.size (.str n t) n v) _ _ _;unfold storeInDict newKeyGuard;refine wpAny_bind (wpAny_pure (wpAny_bind (wpAny_nsSet1 (Heap.Ns1.of_empty ⟨_,#[],_,gd,rfl,fun _ z=>absurd z (by simp),fun _=>rfl⟩) fun h' hn sb=>?_)));obtain ⟨oD,eD,pD,g1,g2,g3⟩:=hn.count (Within.cons n v Within.nil);refine aA (wpAny_lookBehind g1 (by rw [g2];exact pastItsLine_dict (dS g3 (by rw [eV,List.length_nil,fD];lia))) (aL ?_));exact q h' _ ((sb.2 e hne).trans (Heap.get?_update_self _ he1 rfl)) hn fun b o hb hbo=>(sb.2 b (bP (aX hbo))).trans ((kN _ _ _ _ hb).trans (aR _ hbo))
end
end
section
open PySem Spec PyProof.Rows L2
variable {H:Hp} {e:Addr} {pj:Pq}
def dJ (C z:Addr) (dx:Option Addr):Obj:={ cls:=.ref C,dict:=dx,data:=.fields #[.ref z,.none,.none,.none,.bool false,.none] }
def exO (e:Addr) (o:Obj):HO:=.ext fun h=>h.get? e=some o
theorem qO {P:Program} {w:World} {h:Heap} {o:Obj} (x:h.get? e=some o):aS P w H h e (exO e o):=⟨x,⟨o,x⟩,fun _ _ a b=>b o a⟩
theorem nB {P:Program} {w:World} {h:Heap} {o:Obj} (ok:HOk P w H h) (x:H e=some (exO e o)):h.get? e=some o:=(ok e _ x).1
structure XC (K:W.Frag) (C:Addr):Prop where
 ob:∃ k y N b l hd sn sub ab cl dd k0 k1 k2 k3 k5,K.lookup C=some (excClassObj k y C N b l hd sn sub ab cl dd k0 k1 k2 k3 k5 "ValueError.__new__")/\Mr "ValueError" l
 at_:∃ cd rs,W.clsIn K C=some cd/\cd.mro=List.map Value.ref rs++veL/\cd.hasDict=true
 sa:W.findIn K (.ref C) "__setattr__"=some (some (.builtin "object.__setattr__"))
section
variable {X:Cx} {e1:Expr} {es:List Expr} {p ap pos:Pos} {t:TA}
theorem fv (K:W.Frag):W.findCls K (.type "ValueError") (.type "type") "__init__"=some (.val (.builtin "ValueError.__init__")):=by kernel_rfl
def tVi (K:W.Frag) (t:TA):TE:=fun O H Q=>t O H fun vs H1=>∃ e C z x,vs=[V.ref e,x]/\XC K C/\H1 e=some (exO e (dJ C z none))/\∀ z',H1 z'=none->Q .non (aJ H1 e (exO e (dJ C z' none)))
theorem MN {O:L2.St} {s:Shared} {C z:Addr} {us:List Value} {Q:VK} (I:Inv X pj O H s) (he:H e=some (exO e (dJ C z none))) (ee:s.heap.get? e=some (dJ C z none))
  (q:∀ z',H z'=none->Q .non (aJ H e (exO e (dJ C z' none)))):EP X pj O Q .none { s with heap:=(s.heap.push { cls:=.type "tuple",data:=.seq us.toArray }).update e (Obj.mapFields (·.setIfInBounds 0 (.ref s.heap.objs.size))) }:=by
 have e1:=aR { cls:=.type "tuple",data:=.seq us.toArray } ee;have e2:((s.heap.push { cls:=.type "tuple",data:=.seq us.toArray }).update e (Obj.mapFields (·.setIfInBounds 0 (.ref s.heap.objs.size)))).get? e=some (dJ C s.heap.objs.size none):=Heap.get?_update_self _ e1 rfl;exact ⟨.non,_,I.write (x:=e) (e:=e) (t':=s.toks) (by rw [he];trivial) (.inl rfl) (fun b u n h=>(kN _ _ _ _ n).trans (aR _ h)) ⟨_,e2⟩ (qO e2),rfl,q _ (I.hok.fresh (aW _))⟩
theorem MO {pl:Sem Bool} (hg:Gl X "ValueError") (hm:X.mg "ValueError"=none) (ha:PA X (e1::es) t)
  (hst:starEach (e1::es) X.env=(false,eval e1 X.env)::starEach es X.env:=by rfl) (hpl:(backTo pos (starEach es X.env)).any (·.1)=false:=by rfl)
  (ht:eval (.Call (.Attribute (.Name "ValueError" p) "__init__" ap) (e1::es) [] pos) X.env=(do
   let ov <- eval (.Name "ValueError" p) X.env
   standAt ap.atName
   let (f,first) <- holding [ov] (getMethod ov "__init__" pl)
   callWith pos f first (backTo pos (starEach (e1::es) X.env)) (backToKw pos (keywordEach [] X.env))):=by rfl) :
  PE X (.Call (.Attribute (.Name "ValueError" p) "__init__" ap) (e1::es) [] pos) (tVi X.K t):=by
 intro pj s O H Q I h;refine W.methodCall_KW (pl:=pl) (lS I hg hm (u:=.type "ValueError") (by decide +kernel) ?_) ht;obtain ⟨m,hf⟩:=I.fr;refine W.method_type hf I.ok.mod.kin (by kernel_rfl) (by decide +kernel) (fv _) (by decide +kernel) ?_;have I0:=I.tok (s.toks+1);refine callWith_builtin1 (thn (ha pos pj _ O H _ I0 h) fun us s1 z=>?_) hst hpl;obtain ⟨vs,H1,I1,r1,e,C,z,x,ev,xc,he,q⟩:=z;subst ev;obtain ⟨⟨k,y,N,b,l,hd,sn,sub,ab,cl,dd,k0,k1,k2,k3,k5,lk,mr⟩,_,_⟩:=xc;cases r1 with
 | cons ra r2=>cases r2 with
  | cons rb r3 =>cases r3;cases ra;obtain ⟨hh,g,d,tk,os⟩:=s1;have ee:=nB I1.hok he;refine ML PySem.F.excBase_ValueError mr (I1.kIn _ _ lk) (by rw [fD];simp) ee ?_;exact MN I1 he ee q
def sAt (K:W.Frag) (ta tv:TE) (n:Str):TS:=fun D O H=>tv O H fun y H1=>ta O H1 fun x H2=>∃ e C z,x=V.ref e/\XC K C/\W.findIn K (.ref C) n=some none/\H2 e=some (exO e (dJ C z none)) /\
 ∀ dx,H2 dx=none->dx≠e->D.nx O (aJ (aJ H2 dx (.xd [(n,y)])) e (exO e (dJ C z (some dx))))
theorem MP {O:L2.St} {s:Shared} {C z:Addr} {n:Str} {y:V} {v:Value} {h':Heap} {tk:Nat} (I:Inv X pj O H s) (he:H e=some (exO e (dJ C z none))) (ry:aB y v)
  (e1:h'.get? e=some (dJ C z (some s.heap.objs.size))) (ns:h'.Ns1 s.heap.objs.size (fun x=>if x=n then some v else none)) (kp:∀ b o,b≠e->s.heap.get? b=some o->h'.get? b=some o) :
  Inv X pj O (aJ (aJ H s.heap.objs.size (.xd [(n,y)])) e (exO e (dJ C z (some s.heap.objs.size)))) { s with heap:=h',toks:=tk }:=by
 have ee:=nB I.hok he;have ne:s.heap.objs.size≠e:=(bP (aX ee)).symm;have m1:(h'.update e fun _=>dJ C z none).get? e=some (dJ C z none):=Heap.get?_update_self _ e1 rfl;have m2:∀ {b:Addr},b≠e->(h'.update e fun _=>dJ C z none).get? b=h'.get? b:=fun nb=>kN _ _ _ _ nb;have k1:∀ b u,s.heap.get? b=some u->(h'.update e fun _=>dJ C z none).get? b=some u:=fun b u q=>by
  by_cases hb:b=e
  .subst hb;rw [ee] at q;cases q;exact m1
  .exact (m2 hb).trans (kp b u hb q)
 have nw:aS X.prog X.w (aJ H s.heap.objs.size (.xd [(n,y)])) (h'.update e fun _=>dJ C z none) s.heap.objs.size (.xd [(n,y)]):=by
  obtain ⟨o,es,ep,a1,a2⟩:=ns;refine ⟨_,⟨o,es,ep,(m2 ne).trans a1,a2⟩,fun f=>?_⟩;by_cases hf:f=n
  .subst hf;rw [if_pos rfl,List.lookup_cons_self];exact ry
  .rw [if_neg hf,gJ,show (f==n)=false from beq_false_of_ne hf];exact trivial
 have hn:H s.heap.objs.size=none:=I.hok.fresh (aW _);have mu:Mut (aJ H s.heap.objs.size (.xd [(n,y)]) e):=by rw [aN ne.symm,he];trivial
 have k2:∀ b u,b≠e->(h'.update e fun _=>dJ C z none).get? b=some u->h'.get? b=some u:=fun b u nb q=>(m2 nb).symm.trans q;exact I.un (t':=tk) ((Un.laid k1 (aW _) hn).trans (Un.write mu (.inl rfl) k2 ⟨_,e1⟩)) ((I.hok.laid k1 (aW _) nw).write mu (.inl rfl) k2 ⟨_,e1⟩ (qO e1))
theorem MQ {o value:Expr} {f:Str} {pos':Pos} {ta tv:TE} (ha:PE X o ta) (hv:PE X value tv) (hs:swapsWith value (some (.Attribute o f pos')) pos.line X.env=pure false):PS X (.Assign [.Attribute o f pos'] value pos) (sAt X.K ta tv f):=by intro pj s O H D I h;refine plainObj_wpAny_Assign_Attribute (thn (hv pj s O H _ I h) fun u s1 z=>?_) hs;obtain ⟨y,H1,I1,ry,q⟩:=z;refine thn (ha pj s1 O H1 _ I1 q) fun ov s2 z=>?_;obtain ⟨x,H2,I2,rx,e,C,z,ex,xc,na,he,q2⟩:=z;subst ex;obtain rfl:ov=Value.ref e:=rx;have ee:=nB I2.hok he;obtain ⟨cd,rs,c1,c2,c3⟩:=xc.at_;exact MM I2.kIn ee c1 c2 c3 xc.sa na fun h' tk e1 ns kp=>⟨O,_,MP I2 he ry e1 ns kp,q2 _ (I2.hok.fresh (aW _)) (bP (aX ee)).symm⟩
end
end
section
open PySem Spec PyProof.Rows L2
def vF (K:W.Frag):Sp:=fun vs H Q _=>∃ e C z x y,vs=[V.ref e,x,y]/\XC K C/\W.findIn K (.ref C) "at"=some none/\H e=some (exO e (dJ C z none)) /\
 ∀ z' dx,H z'=none->H dx=none->dx≠e->Q .non (aJ (aJ (aJ H e (exO e (dJ C z' none))) dx (.xd [("at",y)])) e (exO e (dJ C z' (some dx))))
theorem MR {CX:CXT} {P:Program} {w:World} {K:W.Frag} {mg:Mq} {base:Heap} {k:Nat} {f:Addr} {name qual:Str} {params:Arguments} {sc:Scope} {dV kV doc pm cdv ct oc:Value} {an od:Option Addr} {osl:Array (Option Value)}
  {p ap pos p1 p2 q1 p3 p4 p5 q2:Pos}
  (lk:K.lookup f=some ⟨oc,od,.func (W.fnOf name qual params [.Expr (.Call (.Attribute (.Name "ValueError" p) "__init__" ap) [.Name "self" p1,.Name "words" p2] [] pos) q1,.Assign [.Attribute (.Name "self" p3) "at" p4] (.Name "at" p5) q2] sc dV kV doc pm an cdv ct),osl⟩)
  (hcd:W.codeIn K cdv qual=true) (S:FnScope ["self", "words", "at"] ["self", "words", "at"] sc) (v0:sc.names.lookup ("self":Str)=some .local) (v1:sc.names.lookup ("words":Str)=some .local) (v2:sc.names.lookup ("at":Str)=some .local)
  (vg:sc.names.lookup ("ValueError":Str)=some .globalImplicit) (hm:mg "ValueError"=none)
  (ht:∀ env:PySem.Env,∃ pl:Sem Bool,eval (.Call (.Attribute (.Name "ValueError" p) "__init__" ap) [.Name "self" p1,.Name "words" p2] [] pos) env=(do
   let ov <- eval (.Name "ValueError" p) env
   standAt ap.atName
   let (f,first) <- holding [ov] (getMethod ov "__init__" pl)
   callWith pos f first (backTo pos (starEach [.Name "self" p1,.Name "words" p2] env)) (backToKw pos (keywordEach [] env)))) :
  FnOk P w K mg base CX (k+1) f (W.fnOf name qual params [.Expr (.Call (.Attribute (.Name "ValueError" p) "__init__" ap) [.Name "self" p1,.Name "words" p2] [] pos) q1,.Assign [.Attribute (.Name "self" p3) "at" p4] (.Name "at" p5) q2] sc dV kV doc pm an cdv ct) ["self", "words", "at"] (vF K):=by
 refine qN lk hcd S (by rintro vs H Q E ⟨e,C,z,x,y,h,_⟩;subst h;rfl) fun A outer s H vs Q E hr hsp=>?_;obtain ⟨e,C,z,x,y,rfl,xc,na,he,q⟩:=hsp;obtain ⟨pl,ht⟩:=ht (gB CX P w K mg base ["self", "words", "at"] qual sc f cdv A outer s H E).env;refine ⟨_,mY (lT (MO (pl:=pl) vg hm (bY (pv 0 rfl (.inl v0)) (bY (pv 1 rfl (.inl v1)) fV)) rfl rfl ht)) (oX (MQ (pv 0 rfl (.inl v0)) (pv 2 rfl (.inl v2)) rfl)),?_⟩;refine ⟨_,rfl,_,rfl,e,C,z,x,rfl,xc,he,fun z' hz=>?_⟩;refine ⟨_,rfl,_,rfl,e,C,z',rfl,xc,na,aY,fun dx hd nd=>?_⟩;rw [aN nd] at hd;exact q z' dx hz hd nd
end
section
open PySem Spec PyProof.Rows L2
section
variable {M:Model} {A:Around} {E:Vq} {env:PySem.Env} {k y:Str} {C N:Addr} {b l:List Value} {hd ab:Bool} {sn:List Str} {sub:List Value} {cl:Option Bool} {dd:Option Addr} {k0 k1 k2 k3 k5:Option Value} {nw:String}
theorem MS {s:Shared} {x:Sem Value} {Q:Flow->Shared->Prop} (c:(Value.ref C::l).contains (.type "BaseException")=true) (hh:A.handled=none)
  (h:wpAny M A x (fun v s1=>∃ e z dx,v=.ref e/\s1.heap.get? C=some (excClassObj k y C N b l hd sn sub ab cl dd k0 k1 k2 k3 k5 nw)/\s1.heap.get? e=some (dJ C z dx)/\E (.ref e) s1) E s) :
  wpAny M A (raiseStmt env (some x) none) Q E s:=by
 unfold raiseStmt;refine aA (fS h (fun v s1 ⟨e,z,dx,ev,hC,he,q⟩=>?_) fun _ _ r=>r);subst ev;obtain ⟨hp,g,d,tk,os⟩:=s1;unfold dJ at he
 repeat (first | with_reducible refine wpAny_loadPart_at hC ?_ | with_reducible refine wpAny_loadPart_at he ?_ | (with_reducible refine wpAny_isSubtype_exc hC ?_;rw [c]) | wp_step)
 exact wpAny_raiseNew_none hh q
end
section
variable {X:Cx} {x:Str} {e1:Expr} {es:List Expr} {np cpos pos:Pos} {te:TE}
theorem AU:∀ rs:List Addr,(rs.map Value.ref++veL).contains (.type "BaseException")=true
 | []=>by decide
 | r::rs=>by rw [aT,List.cons_append,List.contains_cons,AU rs,Bool.or_true]
def MT (X:Cx) (C:Addr) (te:TE):TS:=fun _ O H=>te O H fun v H1=>∃ e z dx,v=V.ref e/\H1 e=some (exO e (dJ C z dx))/\∀ pj s,Inv X pj O H1 s->X.xe (.ref e) s
theorem MU {e:Expr} {C:Addr} (xc:XC X.K C) (hh:X.A.handled=none) (he:PE X e te):PS X (.Raise (some e) none pos) (MT X C te):=by
 intro pj s O H D I h;rw [arm_exec_Raise];obtain ⟨⟨k,y,N,b,l,hd,sn,sub,ab,cl,dd,k0,k1,k2,k3,k5,lk,mr⟩,⟨cd,rs,c1,c2,c3⟩,_⟩:=xc;have c:(Value.ref C::l).contains (.type "BaseException")=true:=by unfold W.clsIn at c1;rw [lk] at c1;cases c1;have c2:Value.ref C::l=rs.map Value.ref++veL:=c2;rw [c2,AU]
 refine aA (wpAny_standAt (MS (C:=C) (k:=k) (y:=y) (N:=N) (b:=b) (hd:=hd) (sn:=sn) (sub:=sub) (ab:=ab) (cl:=cl) (dd:=dd) (k0:=k0) (k1:=k1) (k2:=k2) (k3:=k3) (k5:=k5) (nw:="ValueError.__new__") c hh (aA (thn (he pj s O H _ I h) fun u s1 z=>?_))));obtain ⟨v,H1,I1,r,e,z,dx,ev,ee,q⟩:=z;subst ev;obtain rfl:u=Value.ref e:=r;exact aA (wpAny_standAt (aL ⟨e,z,dx,rfl,I1.kIn _ _ lk,nB I1.hok ee,q _ _ I1⟩))
end
end
section
open PySem Spec PyProof.Rows L2
section
variable {X:Cx} {CX:CXT} {n:Nat} {fI C N:Addr} {fd:FuncData} {ps:List Str} {sp:Sp} {dvs:List V} {ds:List Value} {E:XK} {x:Str} {p pos:Pos} {e1:Expr} {es:List Expr} {t:TA}
 {k y:Str} {b l:List Value} {hd ab:Bool} {sn:List Str} {sub:List Value} {cl:Option Bool} {dd:Option Addr} {k0 k1 k2 k3 k5:Option Value}
theorem MV {pj:Pq} {O:L2.St} {H:Hp} {s:Shared} {Q:VK} {us:List Value} {vs:List V} (hC:X.K.lookup C=some (excClassObj k y C N b l hd sn sub ab cl dd k0 k1 k2 k3 k5 "ValueError.__new__")) (mr:Mr "ValueError" l)
  (hi:∀ h,X.K.In h->Ini h C fI) (F:FnOk X.prog X.w X.K X.mg X.base CX n fI fd ps sp) (hr:Room (n+1) X.A) (hb:Binds X.K fd ps ds) (hv:aH dvs ds) (hx:kR CX X E) (I:Inv X pj O H s) (r:aH vs us) (hz:us.length<=sizeLine)
  (h:∀ e z,H e=none->H z=none->sp (.ref e::(vs++dvs)) (aJ H e (exO e (dJ C z none))) (fun v H2=>v=.non/\Q (.ref e) H2) E) :
  wpAny (model X.prog X.w) X.A (call (.ref C) us) (EP X pj O Q) X.xe s:=by
 have hq:=h (s.heap.objs.size+1) s.heap.objs.size (I.hok.fresh (Nat.le_succ _)) (I.hok.fresh (aW _));have I2:Inv X pj O (aJ H (s.heap.objs.size+1) (exO (s.heap.objs.size+1) (dJ C s.heap.objs.size none))) { s with heap:=exH s.heap C us,toks:=s.toks }:=I.laid vE (Nat.le_succ _) (qO AR);have r2:aH (V.ref (s.heap.objs.size+1)::(vs++dvs)) (Value.ref (s.heap.objs.size+1)::(us++ds)):=.cons rfl (r.append hv);have hl:(Value.ref (s.heap.objs.size+1)::us++ds).length=ps.length:=(r2.length.symm.trans (F.len _ _ _ _ hq));refine MJ (h:=s.heap) (g:=s.gens) (d:=s.drawn) (t:=s.toks) (os:=s.os) PySem.F.excBase_ValueError mr (I.kIn _ _ hC) hz (hi _ I.kIn) ?_;refine wpAny_call (codeAny_mono (F.run _ X.stack _ _ ⟨Value.ref (s.heap.objs.size+1)::us,[]⟩ (Value.ref (s.heap.objs.size+1)::(us++ds)) _ _ E (hr.make C us []) (I2.env0.make C us []) (hb _ (Value.ref (s.heap.objs.size+1)::us) I2.kIn hl) r2 hq) fun r' s' hq'=>?_);cases r' with
 | error e=>exact hx pj O _ _ e s' I2 hq'
 | ok fl =>
  cases fl with
  | ret u =>obtain ⟨v,H',I3,rv,ev,q3⟩:=I2.after hq';subst ev;exact ⟨rv,V.ref (s.heap.objs.size+1),H',I3,rfl,q3⟩
  | next=>exact False.elim hq'
  | brk=>exact False.elim hq'
  | cont=>exact False.elim hq'
def tErr (C:Addr) (sp:Sp) (dvs:List V) (E:XK) (t:TA):TE:=fun O H Q=>t O H fun vs H1=>vs.length<=sizeLine/\∀ e z,H1 e=none->H1 z=none ->
 sp (.ref e::(vs++dvs)) (aJ H1 e (exO e (dJ C z none))) (fun v H2=>v=.non/\Q (.ref e) H2) E
theorem MW (hC:X.K.lookup C=some (excClassObj k y C N b l hd sn sub ab cl dd k0 k1 k2 k3 k5 "ValueError.__new__")) (mr:Mr "ValueError" l) (hkp:W.keepIn X.K (.ref C)=true)
  (hi:∀ h,X.K.In h->Ini h C fI) (F:FnOk X.prog X.w X.K X.mg X.base CX n fI fd ps sp) (hr:Room (n+1) X.A) (hg:Gl X x) (hm:X.mg x=some (.ref C)) (hb:Binds X.K fd ps ds) (hv:aH dvs ds) (hx:kR CX X E) (ha:PA X (e1::es) t)
  (hdb:(x==("__debug__":Str))=false:=by decide) (he:starEach (e1::es) X.env=(false,eval e1 X.env)::starEach es X.env:=by rfl) (hpl:(backTo pos (starEach es X.env)).any (·.1)=false:=by rfl) :
  PE X (.Call (.Name x p) (e1::es) [] pos) (tErr C sp dvs E t):=by
 intro pj s O H Q I h;refine wpAny_Call_Name_kw (oW I hg hm ?_ hdb);refine W.callWith_K (h₀:=X.base) I.ok.mod.kin hkp (thn (ha pos pj s O H _ I h) fun us s1 ⟨vs,H1,I1,r,hz,q⟩=>⟨I1.kIn,?_⟩) he hpl;exact MV hC mr hi F hr hb hv hx I1 r (show us.length<=sizeLine by rw [<- r.length];exact hz) q
end
end
section
open PySem Spec PyProof.Rows L2
structure Flown (h:Heap) (a C dx:Addr) (o:Obj):Prop where
 ob:h.get? a=some o
 cl:o.cls=.ref C
 di:o.dict=some dx
 tr:∃ vs,o.data=.fields vs/\1<vs.size/\(vs[1]?=some .none\/∃ T oT ts,vs[1]?=some (.ref T)/\T≠a/\h.get? T=some oT/\oT.data=.fields ts/\ts[3]?=some .none)
section
variable {M:Model} {A:Around} {E:Vq} {s:Shared} {base:Heap} {env:PySem.Env} {outer:List PySem.Env} {L a C dx:Addr} {o:Obj} {vs:Array Value} {Q:Unit->Shared->Prop}
theorem ent {head:Value} {hn:Bool} (hfr:A.frames=some (env::outer)) (hl:s.heap.FunFrames base (env::outer)) (hf:env.frame=some L) (e0:s.heap.get? a=some o) (hv:o.data=.fields vs) (hz:1<vs.size)
  (h:∀ h' T,h'.get? a=some (o.mapFields (·.setIfInBounds 1 (.ref T)))->T≠a->(∃ oT ts,h'.get? T=some oT/\oT.data=.fields ts/\ts[3]?=some .none) ->
   (∀ b u,b≠a->b∉frs (env::outer)->s.heap.get? b=some u->h'.get? b=some u)->(∀ b u,b≠a->s.heap.get? b=some u->∃ sl,h'.get? b=some { u with slots:=sl })->Q () { s with heap:=h' }) :
  wpAny M A (do let f <- frameOf env;let pl <- entryPlaceOf L hn;let b <- EntryCells.newEntry head f .none (rawInt L) .none pl;setField (.ref a) 1 b) (fun _ s'=>wpAny M A (setFlight (.ref a) none) Q E s') E s:=by
 have na:a∉(env::outer).filterMap (·.frame):=fun z=>by obtain ⟨_,u,e1,e2⟩:=hl.mem z;rw [e0] at e1;cases e1;exact e2 vs hv
 refine aA (wpAny_frameOf_fun hfr hl hf fun h1 ⟨z1,z2,z3⟩=>aA (wpAny_entryPlaceOf fun pl hpl=>?_));unfold EntryCells.newEntry newFields;refine aA (jG ?_ (hpl.sizeOk5 _ _ _ _ _));have e1:h1.get? a=some o:=(z2 a na).trans e0;generalize hT:({ cls:=.type "traceback",dict:=none,data:=.fields ([head,.ref L,.none,rawInt L,.none]++(if pl.isEmpty then List.replicate 6 Value.none else pl)).toArray }:Obj)=oT;have dT:oT.data=.fields ([head,.ref L,.none,rawInt L,.none]++(if pl.isEmpty then List.replicate 6 Value.none else pl)).toArray:=by rw [<- hT]
 have fT:oT.isFreed=false:=by rw [<- hT];rfl
 have e2:=aR oT e1;refine wpAny_setField e2 hv hz ?_;have ne:h1.objs.size≠a:=Nat.ne_of_gt (aX e1);have d3:=jD hv (·.setIfInBounds 1 (Value.ref h1.objs.size));have e3:=Heap.get?_update_self (Obj.mapFields (·.setIfInBounds 1 (Value.ref h1.objs.size))) e2 (Obj.isFreed_of_fields d3);have t3:((h1.push oT).update a (Obj.mapFields (·.setIfInBounds 1 (Value.ref h1.objs.size)))).get? h1.objs.size=some oT:=(Heap.get?_update_other _ _ (Ne.symm ne)).trans (bW h1 fT);unfold setFlight;refine wpAny_bind (eF e3 d3 (x:=.ref h1.objs.size) (by simp [hz]) ?_);rw [if_pos (show (Value.ref h1.objs.size != Value.none)=true from by simp)];refine wpAny_setField t3 dT (by simp) ?_;have k:∀ b u,b≠a->h1.get? b=some u->(((h1.push oT).update a (Obj.mapFields (·.setIfInBounds 1 (Value.ref h1.objs.size)))).update h1.objs.size (Obj.mapFields (·.setIfInBounds 3 ((none:Option Addr).elim Value.none fun f=>rawInt f)))).get? b=some u:=fun b u nb q=>by rw [Heap.get?_update_other _ _ (Nat.ne_of_gt (aX q)),Heap.get?_update_other _ _ (Ne.symm nb)];exact aR _ q
 refine h _ h1.objs.size ?_ ne ⟨_,_,Heap.get?_update_self _ t3 (Obj.isFreed_of_fields (jD dT _)),jD dT _,by simp⟩ (fun b u nb nf q=>k b u nb ((z2 b nf).trans q)) fun b u nb q=>?_
 .rw [Heap.get?_update_other _ _ ne];exact e3
 .obtain ⟨sl,e⟩:=z3 b u q;exact ⟨sl,k b _ nb e⟩
theorem AV {h:Heap} {T:Addr} (e:h.get? a=some (o.mapFields (·.setIfInBounds 1 (.ref T)))) (hc:o.cls=.ref C) (hd:o.dict=some dx) (hv:o.data=.fields vs) (hz:1<vs.size) (ne:T≠a)
  (t:∃ oT ts,h.get? T=some oT/\oT.data=.fields ts/\ts[3]?=some .none):Flown h a C dx (o.mapFields (·.setIfInBounds 1 (.ref T))):=by
 obtain ⟨oT,ts,t1,t2,t3⟩:=t;refine ⟨e,(Obj.cls_mapFields _ _).trans hc,?_,_,jD hv _,by simpa using hz,.inr ⟨T,oT,ts,by simp [hz],ne,t1,t2,t3⟩⟩;obtain ⟨c,d,dt,sl⟩:=o;cases dt<;>first | exact hd | cases hv
theorem nf (hfr:A.frames=some (env::outer)) (hl:s.heap.FunFrames base (env::outer)) (hf:env.frame=some L) (fl:Flown s.heap a C dx o)
  (h:∀ h' o',Flown h' a C dx o'->(∀ b u,b≠a->b∉frs (env::outer)->s.heap.get? b=some u->h'.get? b=some u)->(∀ b u,b≠a->s.heap.get? b=some u->∃ sl,h'.get? b=some { u with slots:=sl })->Q () { s with heap:=h' }) :
  wpAny M A (noteFrame (.ref a) env) (fun _ s'=>wpAny M A (setFlight (.ref a) none) Q E s') E s:=by
 obtain ⟨e0,hc,hd,vs,hv,hz,ht⟩:=fl;unfold noteFrame;simp only [hf];rcases ht with ht | ⟨T,oT,ts,h1,h2,h3,h4,h5⟩
 .refine aA (eF e0 hv ht ?_);rw [if_neg (by decide)];exact ent hfr hl hf e0 hv hz fun h' T g1 g2 g3 g4 g5=>h h' _ (AV g1 hc hd hv hz g2 g3) g4 g5
 .refine aA (eF e0 hv h1 ?_);rw [if_pos (show (Value.ref T != Value.none)=true from by simp)];refine aA (eF h3 h4 h5 ?_);rw [if_neg (show ¬ ((Value.none==rawInt L)=true) from by simp [rawInt])];refine aA (wpAny_setField h3 h4 (Array.getElem?_eq_some_iff.mp h5).1 ?_);have same:∀ b u,s.heap.get? b=some u->(s.heap.update T (Obj.mapFields (·.setIfInBounds 3 Value.none))).get? b=some u:=fun b u q=>by
   by_cases hb:b=T
   .subst hb;rw [h3] at q;cases q;rw [Heap.get?_update_self _ h3 (Obj.isFreed_of_fields (jD h4 _))];obtain ⟨c,d,dt,sl⟩:=oT;cases h4;obtain ⟨l1,l2⟩:=Array.getElem?_eq_some_iff.mp h5;have:ts.setIfInBounds 3 Value.none=ts:=by rw [<- l2];simp [Array.setIfInBounds,l1]
    simp [Obj.mapFields,this]
   .rw [Heap.get?_update_other _ _ (Ne.symm hb)];exact q
  exact ent (s:={ s with heap:=s.heap.update T (Obj.mapFields (·.setIfInBounds 3 Value.none)) }) hfr (hl.of_keeps fun b u q _=>⟨u,same b u q,rfl⟩) hf (same _ _ e0) hv hz fun h' T' g1 g2 g3 g4 g5 =>h h' _ (AV g1 hc hd hv hz g2 g3) (fun b u nb nf q=>g4 b u nb nf (same b u q)) fun b u nb q=>g5 b u nb (same b u q)
theorem lv (hfr:A.frames=some (env::outer)) (hl:s.heap.FunFrames base (env::outer)) (hf:env.frame=some L) (fl:Flown s.heap a C dx o)
  (h:∀ h' o',Flown h' a C dx o'->(∀ b u,b≠a->b∉frs (env::outer)->s.heap.get? b=some u->h'.get? b=some u)->(∀ b u,b≠a->s.heap.get? b=some u->∃ sl,h'.get? b=some { u with slots:=sl })->Q () { s with heap:=h' }) :
  wpAny M A (leaving env (.ref a)) Q E s:=aA (nf hfr hl hf fl h)
end
end
section
open PySem Spec PyProof.Rows L2
def CX1 (P:Program) (w:World):CXT:=fun outer H s E e s'=>∃ a C dx o H',e=.ref a/\s'.os=s.os/\AllBare s'.gens/\Un (frs outer) [] H H' s.heap s'.heap/\HOk P w H' s'.heap /\
 H' a=some (exO a o)/\Flown s'.heap a C dx o/\∀ o',E (.ref C) (some dx) (aJ H' a (exO a o'))
section
variable {P:Program} {w:World} {fs:List Addr} {H H':Hp} {h h':Heap} {a:Addr} {o o':Obj}
theorem AW (ha:H a=some (exO a o)) (ob:h'.get? a=some o') (k:∀ b u,b≠a->b∉fs->h.get? b=some u->h'.get? b=some u) (sl:∀ b u,b≠a->h.get? b=some u->∃ sl,h'.get? b=some { u with slots:=sl }) :
  Un fs [] H (aJ H a (exO a o')) h h':=by
 have n0:∀ {b:Addr},H b=none->b≠a:=fun n z=>by rw [z,ha] at n;cases n
 have nx:∀ {b:Addr} {u:HO},H b=some u->u≠exO a o->b≠a:=fun e d=>iI e ha d;refine ⟨fun b u e n hb _=>k b u (n0 n) hb e,fun b u e n _ _=>sl b u (n0 n) e,fun b u _ n _=>by rw [aN (n0 n)];exact n,fun b u e _=>?_,fun b xs e=>?_,fun b u v e=>?_,fun b ps e=>⟨#[],?_⟩⟩
 .by_cases hb:b=a
  .subst hb;exact ⟨_,ob⟩
  .obtain ⟨_,q⟩:=sl b u hb e;exact ⟨_,q⟩
 .rw [aN (nx e (by intro z;cases z))];exact e
 .rw [aN (nx e (by intro z;cases z))];exact e
 .rw [aN (nx e (by intro z;cases z)),e];simp
theorem AX (ok:HOk P w H h) (ha:H a=some (exO a o)) (frf:∀ b∈fs,H b=none) (ob:h'.get? a=some o') (k:∀ b u,b≠a->b∉fs->h.get? b=some u->h'.get? b=some u):HOk P w (aJ H a (exO a o')) h':=by
 have nx:∀ {b:Addr} {u:HO},H b=some u->u≠exO a o->b≠a:=fun e d=>iI e ha d;have nf:∀ {b:Addr} {u:HO},H b=some u->b∉fs:=fun e z=>by rw [frf _ z] at e;cases e
 intro b u e;by_cases hb:b=a
 .subst hb;rw [aY] at e;cases e;exact qO ob
 .rw [aN hb] at e;refine (ok b u e).stay (fun c v hc q=>?_) (fun c q=>by rw [aN (nx q (by intro z;cases z))];exact q) fun c xs q=>by rw [aN (nx q (by intro z;cases z))];exact q
  rcases hc with rfl | hc
  .exact k c v hb (nf e) q
  .exact k c v (nx hc (by intro z;cases z)) (nf hc) q
theorem MX {L:Addr} (u:Un (L::fs) [] H H' h h') (hL:∀ o,h.get? L≠some o):Un fs [] H H' h h' :=
 ⟨fun b o e n hb hx=>u.keep b o e n (fun z=>(omc z).elim (fun q=>hL o (q▸e)) hb) hx,fun b o e n hb hx=>u.slot b o e n (cK _ hb) hx,u.free,u.there,u.tups,u.frzs,u.tbls⟩
end
section
variable {X:Cx} {pj:Pq} {O:L2.St} {H:Hp} {s:Shared} {a C dx:Addr} {o:Obj} {E:XK} {E':Vq}
theorem AY (hs:X.stack=X.env::X.outer) (hf:X.env.frame=some X.env.locals) (hx:X.ex=[]) (I:Inv X pj O H s) (ha:H a=some (exO a o)) (fl:Flown s.heap a C dx o) (q:∀ o',E (.ref C) (some dx) (aJ H a (exO a o'))) :
  wpAny (model X.prog X.w) X.A (leaving X.env (.ref a)) (fun _ s2=>CX1 X.prog X.w X.outer X.H₀ X.s₀ E (.ref a) s2) E' s:=by
 have fr:=I.ok.frames;have st:=I.stack;have sf:=I.stkFree;rw [hs] at fr st sf;refine lv fr st hf fl fun h' o' fl' k sl=>?_;have fe:frs (X.env::X.outer)=X.env.locals::X.fs:=by unfold frs;rw [jF,hf];rfl
 have b0:=I.base;rw [hx] at b0;rw [fe] at k sf;have U:=(b0.mono (fs':=X.env.locals::X.fs) (fun b hb=>cK _ hb) fun b hb=>hb).trans (AW ha fl'.ob k sl);exact ⟨a,C,dx,o',_,rfl,I.os,I.bare,MX U fun u z=>absurd (dI (aX z) I.ok.above) (gK _),AX I.hok ha sf fl'.ob k,aY,fl',fun o2=>by rw [uO];exact q o2⟩
theorem AZ (hs:X.stack=X.env::X.outer) (hf:X.env.frame=some X.env.locals) (hx:X.ex=[]) (xe:X.xe=fun e s'=>wpAny (model X.prog X.w) X.A (leaving X.env e) (fun _ s2=>CX1 X.prog X.w X.outer X.H₀ X.s₀ E e s2) (fun e2 s2=>CX1 X.prog X.w X.outer X.H₀ X.s₀ E e2 s2) s') :
  kR (CX1 X.prog X.w) X E:=by
 rintro pj O H s e s' I ⟨a,C,dx,o,H',e1,os,bare,un,hok,ha,fl,q⟩;subst e1;rw [xe];exact AY hs hf hx (I.call' os un hok bare (fun b z=>absurd z (by simp))) ha fl q
end
end
section
open PySem Spec PyProof.Rows L2
structure IsEr (H:Hp) (a D dx:Addr) (o:Obj) (y:V):Prop where
 ob:H a=some (exO a o)
 cl:o.cls=.ref D
 di:o.dict=some dx
 fd:∃ vs,o.data=.fields vs
 xd:H dx=some (.xd [("at",y)])
structure ErC (K:W.Frag) (D:Addr):Prop where
 ga:W.findIn K (.ref D) "__getattribute__"=some (some (.builtin "BaseException.__getattribute__"))
 gn:W.findIn K (.ref D) "__getattr__"=some none
 sb:W.mroIn K D (.type "BaseException")=some true
 hd:W.hasDictIn K D=true
 ha:W.findIn K (.ref D) "__class__"=some (some (.builtin "object.__class__"))
 hn:W.specialIn K (.builtin "object.__class__") "__get__"=some (some (.builtin "getset_descriptor.__get__"))
 ht:W.takesIn K (.builtin "object.__class__")=some true
 hm:W.mroIn K D (.type "object")=some true
 na:W.findIn K (.ref D) "at"=some none
section
variable {P:Program} {w:World} {A:Around} {E:Vq} {s:Shared} {K:W.Frag} {a D:Addr} {o:Obj} {od:Option Obj} {name:Str} {tk:Tok} {fill expr:Bool} {Q:Vq}
theorem BA:builtinKind "BaseException.__getattribute__"=some .slot:=by decide +kernel
theorem BB:splitId "BaseException.__getattribute__"=some ("BaseException", "__getattribute__"):=by decide +kernel
theorem BC (X:K.In s.heap) (J:W.InstAt s.heap a o D od) (k:ErC K D)
  (q:∀ R:Result->Shared->Prop,(∀ v s',W.handedIn v=true->Q v s'->R (.ok (.ret v)) s')->codeAny (model P w) A (.call (.builtin "BaseException.__getattribute__") ⟨[.ref a,.str name tk],[]⟩) R s) :
  wpAny (model P w) A (getAttrBy (.ref a) (.str name tk) fill expr) Q E s:=by
 have e0:onTheHeap (Value.builtin "BaseException.__getattribute__")=false:=rfl;have e1:(onTheHeap (Value.ref D)&&Value.builtin "BaseException.__getattribute__"==Value.builtin "object.__getattribute__")=false:=by rw [show (Value.builtin "BaseException.__getattribute__"==Value.builtin "object.__getattribute__")=false by decide +kernel];rfl
 unfold getAttrBy;refine gU (aA ((J.type (M:=model P w)).here (aA ((W.looks_findIn X k.ga).here ?_))));dsimp only;rw [e1,if_neg dH];unfold getAttrByItsOwn hookBefore;rw [if_pos (show onTheHeap (.ref D)=true from rfl)];refine aA ((W.looks_findIn X k.gn).here (aA (wpAny_attempt (gU ?_))));unfold callGetattribute;rw [e0,Bool.and_false,if_neg dH];unfold boundAndCalled;rw [PySem.F.excAttr_ValueError.ga.bind];refine aA (aL ?_);refine wpAny_call (q _ fun v s' hv hq=>?_);exact W.handed_on hv hq
theorem BD (X:K.In s.heap) (J:W.InstAt s.heap a o D od) (k:ErC K D):W.Looks (model P w) s.heap (isInstance (.ref a) (.type "BaseException")) true:=(J.type (M:=model P w)).andThen (W.looks_mroIn X k.sb)
theorem BE:∃ miss:Value->Sem Fin,Builtin.«object.__getattribute__» ⟨[.ref a,.str name tk],[]⟩=(typeOf (.ref a) >>= fun tp=>Builtin.ObjectAttr.find (.ref a) tp name >>= fun r=>match r with
  | .value v=>ret v
  | .bind g b=>Builtin.ObjectAttr.bindTo g b (.ref a) tp
  | .missing=>miss tp):=⟨_,rfl⟩
theorem MY {R:Result->Shared->Prop} {v:Value} (X:K.In s.heap) (J:W.InstAt s.heap a o D od) (k:ErC K D) (hf:W.findObj K D od name=some (.value v)) (q:R (.ok (.ret v)) s) :
  codeAny (model P w) A (.call (.builtin "BaseException.__getattribute__") ⟨[.ref a,.str name tk],[]⟩) R s:=by
 refine codeAny_call_builtin PySem.F.excAttr_ValueError.ga.plain PySem.F.entry_bexc_ga (@W.check_slot (model P w) _ _ s "BaseException.__getattribute__" "BaseException" "__getattribute__" (.ref a) [.str name tk] [] _ BA BB (BD X J k) (PySem.F.args_bexc_ga _ _) ?_);obtain ⟨miss,e⟩:=BE (a:=a) (name:=name) (tk:=tk);rw [e];refine aA ((J.type (M:=model P w)).here (aA ((W.looks_find (M:=model P w) X J hf).here ?_)));exact aL q
theorem MZ {R:Result->Shared->Prop} (X:K.In s.heap) (J:W.InstAt s.heap a o D od) (k:ErC K D) (hf:W.findObj K D od name=some (.bind (.builtin "getset_descriptor.__get__") (.builtin "object.__class__"))) (q:R (.ok (.ret (.ref D))) s) :
  codeAny (model P w) A (.call (.builtin "BaseException.__getattribute__") ⟨[.ref a,.str name tk],[]⟩) R s:=by
 refine codeAny_call_builtin PySem.F.excAttr_ValueError.ga.plain PySem.F.entry_bexc_ga (@W.check_slot (model P w) _ _ s "BaseException.__getattribute__" "BaseException" "__getattribute__" (.ref a) [.str name tk] [] _ BA BB (BD X J k) (PySem.F.args_bexc_ga _ _) ?_);obtain ⟨miss,e⟩:=BE (a:=a) (name:=name) (tk:=tk);rw [e];refine aA ((J.type (M:=model P w)).here (aA ((W.looks_find (M:=model P w) X J hf).here ?_)));refine aA (gU (wpAny_call (W.class_get (ox:=o) (od:=od) X J k.hm ?_)));exact aL q
theorem qP {v:Value} (X:K.In s.heap) (J:W.InstAt s.heap a o D od) (k:ErC K D) (hf:W.findObj K D od name=some (.value v)) (hh:W.handedIn v=true) (q:Q v { s with toks:=s.toks+1 }):wpAny (model P w) A (getAttr (.ref a) name expr) Q E s:=by unfold getAttr;refine aA (wpAny_mkText ?_);exact BC (s:={ s with toks:=s.toks+1 }) X J k fun R hR=>MY (s:={ s with toks:=s.toks+1 }) X J k hf (hR v _ hh q)
theorem NA {Q:Option Value->Shared->Prop} {od:Obj} (X:K.In s.heap) (J:W.InstAt s.heap a o D (some od)) (k:ErC K D) (q:Q (some (.ref D)) { s with toks:=s.toks+1 }):wpAny (model P w) A (getAttr? (.ref a) "__class__") Q E s:=by have hf:W.findObj K D (some od) "__class__"=some (.bind (.builtin "getset_descriptor.__get__") (.builtin "object.__class__")):=W.findObj_data (by obtain ⟨cd,hc,_⟩:=W.any_some k.hd;rw [hc];rfl) k.ha k.hn k.ht;unfold getAttr? getAttrBy?;refine aA (wpAny_mkText (aA (wpAny_attempt ?_)));exact BC (s:={ s with toks:=s.toks+1 }) X J k fun R hR=>MZ (s:={ s with toks:=s.toks+1 }) X J k hf (hR _ _ rfl (aL q))
theorem NB {od:Obj} (k:ErC K D):W.KitX K (.ref a) (.ref D) (fun h=>W.InstAt h a o D (some od)) where
 ty:=fun _ _ _ I=>I.type
 it:=fun _ _ X _=>by
  obtain ⟨cdD,hcD,_⟩:=W.any_some k.hd;unfold W.clsIn at hcD;split at hcD
  .rename_i ho;intro A' Q' E' s' kk q;unfold isType loadHead;exact aA (wpAny_loadPart (kk _ _ (X _ _ ho)) (aL q))
  .cases hcD
 ne:=fun h tp dd qc n sl X htp=>by
  obtain ⟨cdD,hcD,_⟩:=W.any_some k.hd;refine Bool.eq_false_iff.mpr fun q=>?_;have e:D=tp:=Value.ref.inj (lQ.mp q);subst e;unfold W.clsIn at hcD;split at hcD
  .rename_i ho;cases (X _ _ ho).symm.trans htp
  .cases hcD
 ca:=fun X I q=>NA X I k q
end
section
variable {X:Cx} {pj:Pq} {O:L2.St} {H:Hp} {s:Shared} {a D dx:Addr} {o:Obj} {y:V}
theorem IsEr.look (I:Inv X pj O H s) (r:IsEr H a D dx o y):∃ od u,W.InstAt s.heap a o D (some od)/\W.lookIn "at" od=some (some u)/\aB y u:=by obtain ⟨mA,ns,rl⟩:=(show aS X.prog X.w H s.heap dx (.xd [("at",y)]) from I.hok _ _ r.xd);obtain ⟨od,h1,h2⟩:=KU ns;obtain ⟨u,hu,ru⟩:=dG.some_of (v:=y) (o:=mA "at") (rl "at");obtain ⟨vs,hv⟩:=r.fd;exact ⟨od,u,⟨nB I.hok r.ob,r.cl,by unfold W.notCls;rw [hv],by rw [r.di];exact h1⟩,by rw [h2,hu],ru⟩
def nC:V->Value
 | .ref a=>.ref a
 | .ty n=>.type n
 | _=>.none
theorem NC {c:V} {u:Value} (r:aB c u) (h:nC c≠.none):u=nC c:=by
 cases c with
 | ref a=>exact r
 | ty n=>exact r
 | _=>exact absurd rfl h
theorem qQ:iT X (.builtin "isinstance") (fun xs H Q=>∃ a D dx o y c b,xs=[.ref a,c]/\nC c≠.none/\IsEr H a D dx o y/\ErC X.K D/\W.kitOne X.K (.ref D) (nC c)=some b/\Q (.bl b) H):=by
 intro pj s O H xs us Q I r h;obtain ⟨a,D,dx,o,y,c,b,rfl,hc,ie,k,e,q⟩:=h;cases r with
 | cons r1 r=>cases r with
  | cons r2 r =>cases r;cases r1;obtain rfl:=NC r2 hc;obtain ⟨od,u,J,_,_⟩:=ie.look I;exact W.kia_one (NB k) I.kIn J e (fun z=>nomatch z) fun tk=>⟨.bl b,H,I.tok tk,rfl,q⟩
def tAt (K:W.Frag) (te:TE):TE:=fun O H Q=>te O H fun x H1=>∃ a D dx o y,x=.ref a/\IsEr H1 a D dx o y/\ErC K D/\Q y H1
theorem BF {e:Expr} {te:TE} {pos:Pos} (he:PE X e te) (hb:attributeBase e "at" X.env (eval e X.env)=eval e X.env):PE X (.Attribute e "at" pos) (tAt X.K te):=by intro pj s O H Q I h;refine KY hb (thn (he pj s O H _ I h) fun u s1 z=>?_);obtain ⟨x,H1,I1,rx,a,D,dx,o,y,ex,ie,k,q⟩:=z;subst ex;obtain rfl:u=Value.ref a:=rx;obtain ⟨od,v,J,l,ry⟩:=ie.look I1;exact qP I1.kIn J k (W.findObj_own k.hd k.na rfl l) (KW ry) ⟨y,H1,I1.tok _,ry,q⟩
end
end
end Ev.Ex
namespace Ev
open PySem
section
abbrev Kt:=Sum Int (Option Str)
inductive T where
 | non | bl (b:Bool) | int (i:Int) | str (x:Str) | tup (xs:List T) | lst (xs:List T)
 | dk (ks:List Kt) (vs:List T) | dt (ks:List (List Kt)) (vs:List T)
 deriving Inhabited
inductive Bo where
 | add | sub | mul | fdiv | mod
 deriving DecidableEq
inductive Co where
 | eq | ne | lt | gt | isin | notin | notN
 deriving DecidableEq
inductive Ik where
 | plain | range | enum | zip
 deriving DecidableEq
def Ik.pair:Ik->Bool
 | .enum=>true
 | .zip=>true
 | _=>false
inductive Ty where
 | tbool
 deriving DecidableEq
inductive Bn where
 | len | toInt | toTuple | any | sorted | dict
 deriving DecidableEq
inductive Mt where
 | index
 deriving DecidableEq
inductive E where
 | w (i:Nat) | c (t:T)
 | bin (o:Bo) (a b:E) | cmp (o:Co) (a b:E)
 | land (a b:E) | lnot (a:E) | neg (a:E) | tru (a:E)
 | tup (es:List E) | lst (es:List E)
 | idx (a b:E) | sli (a:E) (lo hi:Option E)
 | call (f:Str) (es:List E) | blt (f:Bn) (a:E) | isi (a:E) (k:Ty) | mth (m:Mt) (a b:E)
 | comp (elt:E) (n:Nat) (k:Ik) (src:List E) (cond:Option E)
 | dg1 (a k:E)
 deriving Inhabited
inductive S where
 | asg (i:Nat) (e:E)
 | app (i:Nat) (e:E)
 | ext (i:Nat) (e:E)
 | dnew (i:Nat)
 | dput (i:Nat) (k v:E)
 | ret (e:E)
 | fail | exp (e:E) | tif (f:Str) (es:List E) (e:E) (a:List S)
 | ite (c:E) (a b:List S)
 | loop (is:List Nat) (k:Ik) (src:List E) (body:List S)
 deriving Inhabited
abbrev SZ:Nat:=16777216
abbrev Env:=List (Option T)
structure Glo where
 call:Str->List T->Option T
 exc:Str->List T->Option (Str × Int)
def nE:T->Option Kt
 | .int i=>some (.inl i)
 | .str x=>some (.inr (some x))
 | .non=>some (.inr none)
 | _=>none
def gX:List T->Option (List Kt)
 | []=>some []
 | x::r=>(nE x).bind fun k=>(gX r).bind fun ks=>some (k::ks)
def tkO:T->Option (List Kt)
 | .tup xs=>gX xs
 | _=>none
def kT:Kt->T
 | .inl i=>.int i
 | .inr (some x)=>.str x
 | .inr none=>.non
def tkT (k:List Kt):T:=.tup (k.map kT)
section
variable {κ β:Type} [DecidableEq κ]
def gY:List κ->List β->κ->Option β
 | k::ks,v::vs,q=>if k=q then some v else gY ks vs q
 | _,_,_=>none
def qR:List (κ × β)->κ->Option β
 | [],_=>none
 | p::r,k=>if p.1=k then some p.2 else qR r k
noncomputable def dQ (qb:List (κ × β)) (k:κ) (v:β):List (κ × β) :=
 if (qb.any fun kv=>decide (kv.1=k))=true then qb.map (fun kv=>if kv.1=k then (kv.1,v) else kv) else qb++[(k,v)]
def BG (qb:List (κ × β)) (k:κ):List (κ × β):=qb.filter fun kv=>decide (kv.1≠k)
end
noncomputable def kLt:Kt->Kt->Bool
 | .inl a,.inl b=>decide (a<b)
 | .inr (some a),.inr (some b)=>decide (a.cps.toList<b.cps.toList)
 | _,_=>false
noncomputable def vG:Kt->Kt->Bool
 | .inl _,.inl _=>true
 | .inr (some _),.inr (some _)=>true
 | _,_=>false
noncomputable def bM:List Kt->List Kt->Bool
 | x::xs,y::ys=>if x=y then bM xs ys else kLt x y
 | _,_=>false
def alike:List Kt->List Kt->Bool
 | [],[]=>true
 | x::xs,y::ys=>vG x y&&alike xs ys
 | _,_=>false
def iJ (k:List Kt):List (List Kt)->List (List Kt)
 | []=>[k]
 | x::r=>if bM k x then k::x::r else x::iJ k r
def eW:List (List Kt)->List (List Kt)
 | []=>[]
 | k::r=>iJ k (eW r)
def lW (i:Int):Bool:=decide (-18446744073709551616<i)&&decide (i<18446744073709551616)
noncomputable def cX:T->T->Option T
 | .int a,y=>(match y with
  | .int b=>some (.int (a+b))
  | _=>none)
 | .lst a,y=>(match y with
  | .lst b=>if a.length+b.length<=SZ then some (.lst (a++b)) else none
  | _=>none)
 | .tup a,y=>(match y with
  | .tup b=>if a.length+b.length<=SZ then some (.tup (a++b)) else none
  | _=>none)
 | _,_=>none
def pB:T->T->Option T
 | .int a,.int b=>some (.int (a-b))
 | _,_=>none
noncomputable def kS:T->T->Option T
 | .int a,.int b=>if lW a||lW b then some (.int (a*b)) else none
 | _,_=>none
noncomputable def bZ:T->T->Option T
 | .int a,.int b=>if 0<b/\b<1073741824 then some (.int (a/b)) else none
 | _,_=>none
def cH:T->T->Option T
 | .int a,.int b=>if 0<b then some (.int (a%b)) else none
 | _,_=>none
def bB:Bo->T->T->Option T
 | .add=>cX | .sub=>pB | .mul=>kS | .fdiv=>bZ | .mod=>cH
mutual
noncomputable def eqT:T->T->Bool
 | .non,y=>(match y with
  | .non=>true
  | _=>false)
 | .bl a,y=>(match y with
  | .bl b=>a==b
  | .int b=>(if a then 1 else 0)==b
  | _=>false)
 | .int a,y=>(match y with
  | .bl b=>a==(if b then 1 else 0)
  | .int b=>a==b
  | _=>false)
 | .str a,y=>(match y with
  | .str b=>a==b
  | _=>false)
 | .tup a,y=>(match y with
  | .tup b=>dX a b
  | _=>false)
 | .lst a,y=>(match y with
  | .lst b=>dX a b
  | _=>false)
 | _,_=>false
noncomputable def dX:List T->List T->Bool
 | [],[]=>true
 | x::xs,y::ys=>eqT x y&&dX xs ys
 | _,_=>false
end
mutual
noncomputable def dpP:T->T->Nat
 | .tup a,y=>(match y with
  | .tup b=>cI a b+1
  | .dk _ _=>20000
  | .dt _ _=>20000
  | _=>0)
 | .lst a,y=>(match y with
  | .lst b=>cI a b+1
  | .dk _ _=>20000
  | .dt _ _=>20000
  | _=>0)
 | .dk _ _,_=>20000
 | .dt _ _,_=>20000
 | _,y=>(match y with
  | .dk _ _=>20000
  | .dt _ _=>20000
  | _=>0)
noncomputable def cI:List T->List T->Nat
 | x::xs,y::ys=>max (dpP x y) (cI xs ys)
 | _,_=>0
end
def flat:T->Bool
 | .tup _=>false
 | .lst _=>false
 | .dk _ _=>false
 | .dt _ _=>false
 | _=>true
def eqC (x y:T):Option T:=if dpP x y<=30 then some (.bl (eqT x y)) else none
def neC (x y:T):Option T:=if dpP x y<=30 then some (.bl (!eqT x y)) else none
noncomputable def ltC:T->T->Option T
 | .int a,.int b=>some (.bl (decide (a<b)))
 | .str a,.str b=>some (.bl (decide (a.cps.toList<b.cps.toList)))
 | _,_=>none
def BH:T->Option (List T)
 | .tup xs=>some xs
 | .lst xs=>some xs
 | _=>none
def dpI (x:T) (xs:List T):Bool:=xs.all fun z=>decide (dpP z x<=30)
def inC (x y:T):Option Bool :=
 match y with
 | .tup xs=>if dpI x xs then some (xs.any fun z=>eqT z x) else none
 | .lst xs=>if dpI x xs then some (xs.any fun z=>eqT z x) else none
 | .dt ks _=>(match x with
  | .tup xs=>(gX xs).map fun k=>ks.any fun q=>decide (q=k)
  | _=>none)
 | _=>none
noncomputable def bH:Co->T->T->Option T
 | .eq,x,y=>eqC x y
 | .ne,x,y=>neC x y
 | .lt,x,y=>ltC x y
 | .gt,x,y=>(match x,y with
  | .int a,.int b=>some (.bl (decide (b<a)))
  | _,_=>none)
 | .isin,x,y=>(inC x y).map .bl
 | .notin,x,y=>(inC x y).map fun b=>.bl (!b)
 | .notN,x,y=>(match x,y with
  | .non,.non=>some (.bl false)
  | _,.non=>some (.bl true)
  | _,_=>none)
noncomputable def ixI (n:Nat) (i:Int):Option Nat:=if 0<=i then (if i<n then some i.toNat else none) else if -(n:Int)<=i then some (i+n).toNat else none
def cJ (xs:List T) (i:Int):Option T:=(ixI xs.length i).bind fun j=>xs[j]?
noncomputable def aO:T->T->Option T
 | .tup xs,.int i=>cJ xs i
 | .lst xs,.int i=>cJ xs i
 | .dt ks vs,.tup xs=>(gX xs).bind fun k=>gY ks vs k
 | _,_=>none
def gM (n d:Nat):Option Int->Nat
 | none=>d
 | some v=>if v<0 then (v+(n:Int)).toNat else min v.toNat n
def cut (xs:List T) (lo hi:Option Int):List T:=(xs.drop (gM xs.length 0 lo)).take (gM xs.length xs.length hi-gM xs.length 0 lo)
def gN:T->Option Int->Option Int->Option T
 | .tup xs,lo,hi=>some (.tup (cut xs lo hi))
 | .lst xs,lo,hi=>some (.lst (cut xs lo hi))
 | _,_,_=>none
noncomputable def gZ:T->Option Bool
 | .non=>some false
 | .bl b=>some b
 | .int i=>some (i != 0)
 | .tup xs=>some (!xs.isEmpty)
 | .lst xs=>some (!xs.isEmpty)
 | _=>none
def nF (x:T):Ty->Bool
 | .tbool=>(match x with
  | .bl _=>true
  | _=>false)
mutual
noncomputable def ltD:T->T->Option Bool
 | .int a,y=>(match y with
  | .int b=>some (decide (a<b))
  | _=>none)
 | .str a,y=>(match y with
  | .str b=>some (decide (a.cps.toList<b.cps.toList))
  | _=>none)
 | .tup a,y=>(match y with
  | .tup b=>dR a b
  | _=>none)
 | _,_=>none
noncomputable def dR:List T->List T->Option Bool
 | [],y=>some (!y.isEmpty)
 | x::xs,y=>(match y with
  | []=>some false
  | b::ys=>if eqT x b=true then dR xs ys else ltD x b)
end
def cD (x y:T):Bool:=ltD x y==some true
def kdN:T->Option Nat
 | .int _=>some 0
 | .str _=>some 1
 | .tup _=>some 2
 | _=>none
structure OkN (l:List T):Prop where
 len:l.length<=60
 dp:∀ x∈l,∀ y∈l,dpP x y<=20
 lt:∀ x∈l,∀ y∈l,∃ b,ltD x y=some b
 kd:∃ n,∀ x∈l,∃ a r,x=.tup (a::r)/\kdN a=some n
 tot:l.Pairwise fun x y=>cD y x=!cD x y
 tr:∀ x∈l,∀ y∈l,∀ z∈l,cD x y=true->cD y z=true->cD x z=true
def kU (x:T):List T->List T
 | []=>[x]
 | y::r=>if cD x y=true then x::y::r else y::kU x r
def dZ:List T->List T
 | []=>[]
 | x::r=>kU x (dZ r)
open Classical in
def jK (l:List T):Option T:=if OkN l then some (.lst (dZ l)) else none
noncomputable def qS:T->Option (List Kt × T)
 | .tup [.tup ks,v]=>(gX ks).map fun k=>(k,v)
 | _=>none
def kW:List T->Option (List (List Kt × T))
 | []=>some []
 | x::r=>(qS x).bind fun p=>(kW r).bind fun ps=>some (p::ps)
noncomputable def hG (l:List (List Kt × T)):List (List Kt × T):=l.foldl (fun acc p=>dQ acc p.1 p.2) []
def blO:T->Option Bool
 | .bl b=>some b
 | _=>none
noncomputable def nG:List T->Option (List Bool)
 | []=>some []
 | x::r=>(blO x).bind fun b=>(nG r).bind fun bs=>some (b::bs)
noncomputable def qU:T->T->Option T
 | .dt ks vs,y=>(match y with
  | .non=>some .non
  | .tup xs=>(gX xs).map fun q=>(gY ks vs q).getD .non
  | _=>none)
 | _,_=>none
noncomputable def bO:Bn->T->Option T
 | .len,x=>(match x with
  | .tup xs=>some (.int xs.length)
  | .lst xs=>some (.int xs.length)
  | _=>none)
 | .toInt,x=>(match x with
  | .int i=>some (.int i)
  | .bl b=>some (.int (if b then 1 else 0))
  | _=>none)
 | .toTuple,x=>(match x with
  | .tup xs=>some (.tup xs)
  | .lst xs=>some (.tup xs)
  | _=>none)
 | .any,x=>(match x with
  | .lst xs=>(nG xs).map fun bs=>.bl (bs.any id)
  | _=>none)
 | .sorted,x=>(match x with
  | .dt ks _=>jK (ks.map tkT)
  | .dk [] _=>some (.lst [])
  | .lst xs=>jK xs
  | _=>none)
 | .dict,x=>(match x with
  | .lst xs=>(kW xs).bind fun l=>if l.length<=1000 then some (.dt ((hG l).map (·.1)) ((hG l).map (·.2))) else none
  | _=>none)
def jZ (x:T):List T->Option Nat
 | []=>none
 | y::r=>if eqT y x then some 0 else (jZ x r).map (·+1)
def iK:Mt->T->T->Option T
 | .index,.lst xs,y=>if flat y&&xs.all flat then (jZ y xs).map fun (i:Nat)=>T.int (i:Int) else none
 | _,_,_=>none
def eX:List T->Nat->List T
 | [],_=>[]
 | x::r,i=>.tup [.int i,x]::eX r (i+1)
def eY:List T->List T->List T
 | x::xs,y::ys=>.tup [x,y]::eY xs ys
 | _,_=>[]
def kA (n:Nat):List T:=(List.range n).map fun (i:Nat)=>T.int (i:Int)
noncomputable def ascii (x:Str):Bool:=x.cps.all (·<128)
noncomputable def items:Ik->List T->Option (List T)
 | .plain,l=>(match l with
  | [.tup xs]=>some xs
  | [.lst xs]=>some xs
  | _=>none)
 | .range,l=>(match l with
  | [.int n]=>if -4611686018427387904<=n/\n<4611686018427387904 then some (kA n.toNat) else none
  | _=>none)
 | .enum,l=>(match l with
  | [.tup xs]=>some (eX xs 0)
  | [.lst xs]=>some (eX xs 0)
  | _=>none)
 | .zip,l=>(match l with
  | [x,y]=>(match x with
   | .tup xs=>(BH y).bind fun ys=>some (eY xs ys)
   | _=>none)
  | _=>none)
def cA (k:Ik) (xs:List T):Option (List T):=(items k xs).bind fun qc=>if qc.length<=SZ then some qc else none
noncomputable def bnd (n:Nat) (x:T) (ρ:Env):Option Env :=
 if n=1 then some (some x::ρ) else
  match x with
  | .tup xs=>if xs.length=n then some (xs.map some++ρ) else none
  | _=>none
def eM (f:T->Option (Option T)):List T->Option (List T)
 | []=>some []
 | x::xs=>(f x).bind fun r=>(eM f xs).bind fun rs=>match r with
  | none=>some rs
  | some y=>some (y::rs)
def asI:Option T->Option (Option Int)
 | none=>some none
 | some (.int i)=>some (some i)
 | some _=>none
mutual
noncomputable def evE (G:Glo):E->Env->Option T
 | .w i,ρ=>(ρ[i]?).join
 | .c t,_=>some t
 | .bin o a b,ρ=>(evE G a ρ).bind fun x=>(evE G b ρ).bind fun y=>bB o x y
 | .cmp o a b,ρ=>(evE G a ρ).bind fun x=>(evE G b ρ).bind fun y=>bH o x y
 | .land a b,ρ=>(evE G a ρ).bind fun x=>match x with
  | .bl true=>evE G b ρ
  | .bl false=>some (.bl false)
  | _=>none
 | .lnot a,ρ=>(evE G a ρ).bind fun x=>match x with
  | .bl b=>some (.bl (!b))
  | _=>none
 | .neg a,ρ=>(evE G a ρ).bind fun x=>match x with
  | .int i=>some (.int (-i))
  | _=>none
 | .tru a,ρ=>(evE G a ρ).bind fun x=>(gZ x).map .bl
 | .tup es,ρ=>if es.length<=1000 then (aF G es ρ).map .tup else none
 | .lst es,ρ=>if es.length<=1000 then (aF G es ρ).map .lst else none
 | .idx a b,ρ=>(evE G a ρ).bind fun x=>(evE G b ρ).bind fun y=>aO x y
 | .sli a lo hi,ρ=>(evE G a ρ).bind fun x=>(evO G lo ρ).bind fun l=>(evO G hi ρ).bind fun h=>(asI l).bind fun l'=>(asI h).bind fun h'=>gN x l' h'
 | .call f es,ρ=>(aF G es ρ).bind fun xs=>G.call f xs
 | .blt f a,ρ=>(evE G a ρ).bind fun x=>bO f x
 | .isi a k,ρ=>(evE G a ρ).bind fun x=>some (.bl (nF x k))
 | .mth m a b,ρ=>(evE G a ρ).bind fun x=>(evE G b ρ).bind fun y=>iK m x y
 | .comp elt n k src cond,ρ=>(aF G src ρ).bind fun xs=>(cA k xs).bind fun qc =>
   (eM (fun x=>(bnd n x ρ).bind fun ρ'=>(evO G cond ρ').bind fun c=>match c with
    | none=>(evE G elt ρ').map some
    | some (.bl true)=>(evE G elt ρ').map some
    | some (.bl false)=>some none
    | some _=>none) qc).map .lst
 | .dg1 a k,ρ=>(evE G a ρ).bind fun x=>(evE G k ρ).bind fun y=>qU x y
noncomputable def aF (G:Glo):List E->Env->Option (List T)
 | [],_=>some []
 | e::es,ρ=>(evE G e ρ).bind fun x=>(aF G es ρ).bind fun xs=>some (x::xs)
noncomputable def evO (G:Glo):Option E->Env->Option (Option T)
 | none,_=>some none
 | some e,ρ=>(evE G e ρ).map some
end
inductive Sl where
 | no | val (t:T) | own (ts:List T) | dk (qb:List (Kt × T)) | dt (qb:List (List Kt × T))
 deriving Inhabited
def Sl.get:Sl->Option T
 | .val t=>some t
 | _=>none
noncomputable def Sl.frz:Sl->Sl
 | .own ts=>.val (.lst ts)
 | .dk qb=>.val (.dk (qb.map (·.1)) (qb.map (·.2)))
 | .dt qb=>.val (.dt (qb.map (·.1)) (qb.map (·.2)))
 | s=>s
inductive Out where
 | nx (τ:List Sl) | rt (t:T)
 deriving Inhabited
def aC (τ:List Sl):Env:=τ.map Sl.get
def aQ:List Nat->List Sl->List Sl
 | [],τ=>τ
 | i::r,τ=>aQ r (τ.modify i Sl.frz)
mutual
noncomputable def aM:E->List Nat
 | .w i=>[i]
 | .c _=>[]
 | .bin _ a b=>aM a++aM b
 | .cmp _ a b=>aM a++aM b
 | .land a b=>aM a++aM b
 | .lnot a=>aM a
 | .neg a=>aM a
 | .tru a=>aM a
 | .tup es=>bA es
 | .lst es=>bA es
 | .idx a b=>aM a++aM b
 | .sli a lo hi=>aM a++(jL lo++jL hi)
 | .call _ es=>bA es
 | .blt _ a=>aM a
 | .isi a _=>aM a
 | .mth _ a b=>aM a++aM b
 | .comp elt n _ src cond=>bA src++((aM elt++jL cond).filterMap fun i=>if n<=i then some (i-n) else none)
 | .dg1 a k=>aM a++aM k
noncomputable def bA:List E->List Nat
 | []=>[]
 | e::es=>aM e++bA es
noncomputable def jL:Option E->List Nat
 | none=>[]
 | some e=>aM e
end
def fresh:E->Bool
 | .lst _=>true
 | .bin .add _ _=>true
 | _=>false
def dM (e:E) (t:T):Sl:=match fresh e,t with
 | true,.lst ts=>.own ts
 | _,t=>.val t
noncomputable def setAll:List Nat->List T->List Sl->Option (List Sl)
 | [],[],τ=>some τ
 | i::is,x::xs,τ=>setAll is xs (τ.set i (.val x))
 | _,_,_=>none
noncomputable def bI (is:List Nat) (x:T) (τ:List Sl):Option (List Sl) :=
 match is,x with
 | [i],x=>some (τ.set i (.val x))
 | is,.tup xs=>setAll is xs τ
 | _,_=>none
def cB (f:T->List Sl->Option Out):List T->List Sl->Option Out
 | [],τ=>some (.nx τ)
 | x::xs,τ=>(f x τ).bind fun o=>match o with
  | .nx τ'=>cB f xs τ'
  | .rt t=>some (.rt t)
noncomputable def kX (s:Option Sl) (k v:T):Option Sl :=
 match s with
 | some (.dk qb)=>(match nE k,qb with
  | some q,_=>if qb.length<SZ then some (.dk (dQ qb q v)) else none
  | none,[]=>(tkO k).map fun q=>.dt [(q,v)]
  | none,_=>none)
 | some (.dt qb)=>(tkO k).bind fun q=>if qb.length<SZ then some (.dt (dQ qb q v)) else none
 | _=>none
noncomputable def clsN:List Str:=["NoText", "NoRow", "Twice", "BadCheck", "NoRef", "Held", "NoMark", "BadLog", "Clash"]
def pC (x:Str):List Str->Nat->Option Nat
 | [],_=>none
 | y::r,i=>if y=x then some i else pC x r (i+1)
noncomputable def jM (G:Glo) (f:Str) (ts:List T):Option T:=match G.call f ts with
 | some t=>some (.tup [.str "told",t])
 | none=>(G.exc f ts).bind fun x=>(pC x.1 clsN 0).map fun (j:Nat)=>T.tup [.str "refused",.int (j:Int),.int x.2]
mutual
noncomputable def evS (G:Glo):S->List Sl->Option Out
 | .asg i e,τ=>(evE G e (aC (aQ (aM e) τ))).bind fun t=>some (.nx ((aQ (aM e) τ).set i (dM e t)))
 | .app i e,τ=>(evE G e (aC (aQ (aM e) τ))).bind fun t=>match (aQ (aM e) τ)[i]? with
  | some (.own ts)=>if ts.length<SZ then some (.nx ((aQ (aM e) τ).set i (.own (ts++[t])))) else none
  | _=>none
 | .ext i e,τ=>(evE G e (aC (aQ (aM e) τ))).bind fun t=>match t,(aQ (aM e) τ)[i]? with
  | .lst us,some (.own ts)=>if ts.length+us.length<=SZ then some (.nx ((aQ (aM e) τ).set i (.own (ts++us)))) else none
  | _,_=>none
 | .dnew i,τ=>some (.nx (τ.set i (.dk [])))
 | .dput i k v,τ=>(evE G v (aC (aQ (aM v++aM k) τ))).bind fun y=>(evE G k (aC (aQ (aM v++aM k) τ))).bind fun x =>(kX (aQ (aM v++aM k) τ)[i]? x y).map fun s=>.nx ((aQ (aM v++aM k) τ).set i s)
 | .fail,_=>none
 | .tif f es e a,τ=>(aF G es (aC (aQ (bA es++aM e) τ))).bind fun ts=>(jM G f ts).bind fun t=>(evE G e (aC (aQ (bA es++aM e) τ))).bind fun u=>(bH .ne t u).bind fun b=>match b with
  | .bl true=>aG G a (aQ (bA es++aM e) τ)
  | .bl false=>some (.nx (aQ (bA es++aM e) τ))
  | _=>none
 | .exp e,τ=>(evE G e (aC (aQ (aM e) τ))).bind fun _=>some (.nx (aQ (aM e) τ))
 | .ret e,τ=>(evE G e (aC (aQ (aM e) τ))).map .rt
 | .ite c a b,τ=>(evE G c (aC (aQ (aM c) τ))).bind fun t=>match t with
  | .bl true=>aG G a (aQ (aM c) τ)
  | .bl false=>aG G b (aQ (aM c) τ)
  | _=>none
 | .loop is k src body,τ=>(aF G src (aC (aQ (bA src) τ))).bind fun xs=>(items k xs).bind fun qc =>cB (fun x τ=>(bI is x τ).bind fun τ'=>aG G body τ') qc (aQ (bA src) τ)
noncomputable def aG (G:Glo):List S->List Sl->Option Out
 | [],τ=>some (.nx τ)
 | s::ss,τ=>(evS G s τ).bind fun o=>match o with
  | .nx τ'=>aG G ss τ'
  | o=>some o
end
structure Fd where
 np:Nat
 ns:Nat
 body:List S
 deriving Inhabited
def bX (D:Fd) (ts:List T):List Sl:=ts.map .val++List.replicate (D.ns-ts.length) .no
def aZ:Option Out->Option T
 | some (.nx _)=>some .non
 | some (.rt t)=>some t
 | _=>none
structure Pr where
 fn:Str->Option Fd
def glo (P:Pr) (run:Str->List T->Option T):Glo:=⟨run,fun _ _=>none⟩
def run (P:Pr):Nat->Str->List T->Option T
 | 0,_,_=>none
 | n+1,f,ts=>(P.fn f).bind fun D=>if ts.length=D.np then aZ (aG (glo P (run P n)) D.body (bX D ts)) else none
inductive R1 where
 | fail (x:Str) | exq (f:Str) (es:List E) | nrm (s:S)
noncomputable def eT (G:Glo):List R1->List Sl->Option (Str × Int)
 | [],_=>none
 | .fail x::_,_=>some (x,0)
 | .exq f es::r,τ=>(aF G es (aC (aQ (bA es) τ))).bind fun ts=>(match G.exc f ts with
  | some x=>some x
  | none=>(G.call f ts).bind fun _=>eT G r (aQ (bA es) τ))
 | .nrm s::r,τ=>(evS G s τ).bind fun o=>(match o with
  | .nx τ'=>eT G r τ'
  | _=>none)
structure Rxd where
 np:Nat
 ns:Nat
 body:List R1
def iL (P:Pr) (T:Str->Option Rxd):Nat->Str->List Ev.T->Option (Str × Int)
 | 0,_,_=>none
 | n+1,f,ts=>(T f).bind fun D=>if ts.length=D.np then eT ⟨run P n,iL P T n⟩ D.body (bX ⟨D.np,D.ns,[]⟩ ts) else none
def gO (P:Pr) (T:Str->Option Rxd) (n:Nat):Glo:=⟨run P n,iL P T n⟩
end
section
def cC:List Str->Str->Option Nat
 | [],_=>none
 | y::r,x=>if y==x then some 0 else (cC r x).map (·+1)
structure Tc where
 sc:Scope
 nm:List Str
def cY (sc:Scope) (x:Str):Bool:=match sc.names.lookup x with
 | some .local=>true
 | some .cell=>true
 | some .free=>true
 | _=>false
def glB (sc:Scope) (x:Str):Bool:=sc.names.lookup x==some .globalImplicit
noncomputable def bF (x:Str):Bool:=!(x==("__debug__":Str))&&!(x==("__classdict__":Str))&&!(x==("__name__":Str))&&(!(x==(".0":Str))&&(!(x==(".put":Str))&&!(x==(".lam":Str))))
def pE (x:Str):Option Ty :=
 if x==("bool":Str) then some .tbool else none
noncomputable def vH (x:Str):Option Bn :=
 if x==("len":Str) then some .len else if x==("int":Str) then some .toInt else if x==("tuple":Str) then some .toTuple else if x==("any":Str) then some .any else if x==("sorted":Str) then some .sorted else none
def qV (x:Str):Option Bn:=if x==("dict":Str) then some .dict else vH x
def vI (x:Str):Option Mt:=if x==("index":Str) then some .index else none
noncomputable def bnames:List Str:=["len", "int", "str", "list", "tuple", "bool", "isinstance", "range", "enumerate", "zip", "all", "any", "set", "sorted", "min", "max", "sum", "dict"]
noncomputable def vJ:Operator->Option Bo
 | .Add=>some .add | .Sub=>some .sub | .Mult=>some .mul | .FloorDiv=>some .fdiv | .Mod=>some .mod
 | _=>none
def K9:Expr->Bool
 | .Constant (.bool false) _ _=>true
 | _=>false
def ND:Expr->Bool
 | .Constant .none _ _=>true
 | _=>false
noncomputable def lX:CmpOp->Expr->Option Co
 | .Eq,_=>some .eq | .NotEq,_=>some .ne | .Lt,_=>some .lt | .LtE,_=>none | .Gt,_=>some .gt | .GtE,_=>none
 | .In,e=>if behindInMarks .In e then none else some .isin
 | .NotIn,e=>if behindInMarks .NotIn e then none else some .notin
 | .Is,_=>none
 | .IsNot,e=>if ND e then some .notN else none
noncomputable def iU:Expr->Option (List Str)
 | .Name x _=>some [x]
 | .Tuple es _ _=>es.mapM fun e=>match e with
  | .Name x _=>some x
  | _=>none
 | _=>none
def pF:Expr->Bool
 | .Slice ..=>true
 | .Tuple ..=>true
 | .Starred ..=>true
 | _=>false
def nH:List Str->Bool
 | []=>true
 | x::r=>!r.contains x&&nH r
noncomputable def pG (out sc:Scope) (xs:List Str):Bool :=
 sc.kind==.function&&nH xs&&(xs.all fun x=>bF x&&(sc.names.lookup x==some .local||sc.names.lookup x==some .cell)) &&
 (sc.names.all fun p=>match p.2 with
  | .free=>(sc.names.lookup p.1==some .free)&&(out.names.lookup p.1==some .cell||out.names.lookup p.1==some .free)
  | .local=>(sc.names.lookup p.1==some .local)&&(xs.contains p.1||p.1==(".0":Str))
  | .cell=>(sc.names.lookup p.1==some .cell)&&xs.contains p.1
  | _=>true)
def dU:Expr->Bool
 | .Tuple ..=>true
 | _=>false
noncomputable def cL {α β:Type} (f:α->Option β):List α->Option (List β)
 | []=>some []
 | x::r=>(f x).bind fun y=>(cL f r).bind fun ys=>some (y::ys)
def vK {α β:Type} (f:α->Option β):Option α->Option (Option β)
 | none=>some none
 | some x=>(f x).map some
inductive Md where
 | val | tst
 deriving DecidableEq
mutual
noncomputable def tr:Nat->Tc->Md->Expr->Option E
 | 0,_,_,_=>none
 | n+1,c,.tst,e=>trT n c e
 | n+1,c,.val,e=>trV n c e
noncomputable def trT:Nat->Tc->Expr->Option E
 | 0,_,_=>none
 | n+1,c,.BoolOp .And [a] _=>trT n c a
 | n+1,c,.BoolOp .And (a::b::r) pos=>(trT n c a).bind fun x=>(trT n c (.BoolOp .And (b::r) pos)).bind fun y=>some (.land x y)
 | n+1,c,.BoolOp .Or [a] _=>trT n c a
 | n+1,c,.UnaryOp .Not a _=>(trT n c a).bind fun x=>some (.lnot x)
 | n+1,c,.Compare a [op] [b] _=>(lX op b).bind fun o=>(trV n c a).bind fun x=>(trV n c b).bind fun y=>some (.cmp o x y)
 | n+1,c,.Name x pos=>(trV n c (.Name x pos)).bind fun x=>some (.tru x)
 | n+1,c,.Call f es ks pos=>(trV n c (.Call f es ks pos)).bind fun x=>some (.tru x)
 | n+1,c,.Subscript a b pos=>(trV n c (.Subscript a b pos)).bind fun x=>some (.tru x)
 | _,_,_=>none
noncomputable def trV:Nat->Tc->Expr->Option E
 | 0,_,_=>none
 | _+1,_,.Constant .none _ _=>some (.c .non)
 | _+1,_,.Constant (.bool b) _ _=>some (.c (.bl b))
 | _+1,_,.Constant (.int i) _ _=>some (.c (.int i))
 | _+1,_,.Constant (.str x) _ _=>some (.c (.str x))
 | _+1,c,.Name x _=>if bF x then (if cY c.sc x then (cC c.nm x).map .w else none) else none
 | n+1,c,.BinOp a op b _=>(vJ op).bind fun o=>(trV n c a).bind fun x=>(trV n c b).bind fun y=>some (.bin o x y)
 | n+1,c,.UnaryOp .Not a _=>(trV n c a).bind fun x=>some (.lnot x)
 | n+1,c,.UnaryOp .USub a _=>(trV n c a).bind fun x=>some (.neg x)
 | n+1,c,.BoolOp _ [a] _=>trV n c a
 | n+1,c,.BoolOp .And (a::b::r) pos=>(trV n c a).bind fun x=>(trV n c (.BoolOp .And (b::r) pos)).bind fun y=>some (.land x y)
 | n+1,c,.Compare a [op] [b] _=>(lX op b).bind fun o=>(trV n c a).bind fun x=>(trV n c b).bind fun y=>some (.cmp o x y)
 | n+1,c,.Tuple es _ _=>(cL (trV n c) es).bind fun xs=>some (.tup xs)
 | n+1,c,.List es _=>(cL (trV n c) es).bind fun xs=>some (.lst xs)
 | n+1,c,.Subscript a (.Slice lo hi none _) _=>(trV n c a).bind fun x=>(vK (trV n c) lo).bind fun l=>(vK (trV n c) hi).bind fun h=>some (.sli x l h)
 | n+1,c,.Subscript a b _=>if pF b then none else (trV n c a).bind fun x=>(trV n c b).bind fun y=>some (.idx x y)
 | n+1,c,.Call (.Name f _) [a,b] [] _ =>
  if f==("isinstance":Str) then
   (match b with
   | .Name ty _=>if glB c.sc f&&glB c.sc ty then (pE ty).bind fun k=>(trV n c a).bind fun x=>some (.isi x k) else none
   | _=>none)
  else if glB c.sc f&&bF f&&!bnames.contains f then (cL (trV n c) [a,b]).bind fun xs=>some (.call f xs) else none
 | n+1,c,.Call (.Name f _) [a] [] _=>if glB c.sc f&&bF f then (match qV f with
  | some k=>(trV n c a).bind fun x=>some (.blt k x)
  | none=>if bnames.contains f then none else (trV n c a).bind fun x=>some (.call f [x])) else none
 | n+1,c,.Call (.Name f _) (e::es) [] _=>if glB c.sc f&&bF f&&!bnames.contains f then (cL (trV n c) (e::es)).bind fun xs=>some (.call f xs) else none
 | n+1,c,.Call (.Attribute o m apos) [a] [] cpos=>if apos.endLine==cpos.line then (trV n c o).bind fun x=>(trV n c a).bind fun y=>(if m==("get":Str) then some (.dg1 x y) else (vI m).bind fun k=>some (.mth k x y)) else none
 | n+1,c,.ListComp elt [⟨tg,iter,ifs,0⟩] scope _=>(iU tg).bind fun xs=>(trI n c iter).bind fun ki=>if pG c.sc scope xs&&(!ki.1.pair||dU tg)&&(!dU tg||decide (2<=xs.length)) then
   (match ifs with
   | []=>(trV n ⟨scope,xs++c.nm⟩ elt).bind fun x=>some (.comp x xs.length ki.1 ki.2 none)
   | [t]=>(trV n ⟨scope,xs++c.nm⟩ elt).bind fun x=>(trT n ⟨scope,xs++c.nm⟩ t).bind fun y=>some (.comp x xs.length ki.1 ki.2 (some y))
   | _=>none) else none
 | _,_,_=>none
noncomputable def trI:Nat->Tc->Expr->Option (Ik × List E)
 | 0,_,_=>none
 | n+1,c,.Call (.Name f p) [a] [] pos=>if f==("range":Str)&&glB c.sc f then (trV n c a).bind fun x=>some (.range,[x])
   else if f==("enumerate":Str)&&glB c.sc f then (trV n c a).bind fun x=>some (.enum,[x])
   else (trV n c (.Call (.Name f p) [a] [] pos)).bind fun x=>some (.plain,[x])
 | n+1,c,.Call (.Name f p) [a,b] [] pos=>if f==("zip":Str)&&glB c.sc f then (trV n c a).bind fun x=>(trV n c b).bind fun y=>some (.zip,[x,y])
   else (trV n c (.Call (.Name f p) [a,b] [] pos)).bind fun x=>some (.plain,[x])
 | n+1,c,e=>(trV n c e).bind fun x=>some (.plain,[x])
end
def qW:Expr->Bool
 | .List ..=>true
 | .BinOp ..=>true
 | _=>false
def vL:Expr->Bool
 | .ListComp ..=>true
 | _=>false
def qX:Expr->Bool
 | .Dict [] [] _=>true
 | _=>false
def qY:Expr->Option (Str × List Expr × Pos × Pos)
 | .Call f es ks q=>(match f with
  | .Name x p=>(match ks with
   | []=>some (x,es,p,q)
   | _=>none)
  | _=>none)
 | _=>none
def ks1:List Expr->Bool
 | [a]=>(match a with
  | .Constant k _ _=>(match k with
   | .str _=>true
   | _=>false)
  | _=>false)
 | _=>false
noncomputable def raiC:Option Expr->Option Expr->Option Str
 | some e,none=>(qY e).bind fun y=>if ks1 y.2.1&&clsN.contains y.1 then some y.1 else none
 | _,_=>none
structure TellR where
 g:Str
 es:List Expr
 ls:Scope
 e:Expr
 p1:Pos
 p2:Pos
 p3:Pos
 p4:Pos
 p5:Pos
 p6:Pos
def cE:Str:="_law_told"
def TellR.lam (r:TellR):Expr:=.Lambda ⟨[],[],none,[],[],none,[]⟩ (.Call (.Name r.g r.p1) r.es [] r.p2) r.ls r.p3
def TellR.call (r:TellR):Expr:=.Call (.Name cE r.p4) [r.lam] [] r.p5
def TellR.test (r:TellR):Expr:=.Compare r.call [.NotEq] [r.e] r.p6
noncomputable def vM (a:Arguments):Bool:=match a with
 | ⟨[],[],none,[],[],none,[]⟩=>true
 | _=>false
noncomputable def vN:Expr->Option (Str × List Expr × Scope × Pos × Pos × Pos)
 | .Lambda a b ls p3=>if vM a then (qY b).map fun y=>(y.1,y.2.1,ls,y.2.2.1,y.2.2.2,p3) else none
 | _=>none
def vP (z:Str × List Expr × Pos × Pos) (e:Expr) (p6:Pos):Option TellR:=match z.2.1 with
 | [l]=>if z.1==cE then (vN l).map fun y=>⟨y.1,y.2.1,y.2.2.1,e,y.2.2.2.1,y.2.2.2.2.1,y.2.2.2.2.2,z.2.2.1,z.2.2.2,p6⟩ else none
 | _=>none
noncomputable def vO:Expr->Option TellR
 | .Compare a os bs p6=>(match os,bs with
  | [.NotEq],[e]=>(qY a).bind fun z=>vP z e p6
  | _,_=>none)
 | _=>none
noncomputable def pH (c:Tc) (ls:Scope):Bool:=ls.kind==.function&&!ls.isCoroutine&&!ls.isGenerator&&(ls.names.all fun p=>(p.2==.free&&c.sc.names.lookup p.1==some .cell&&(bF p.1&&ls.names.lookup p.1==some .free))||p.2==.globalImplicit)&&nH (ls.names.map (·.1))
mutual
noncomputable def trS:Nat->Tc->Stmt->Option S
 | 0,_,_=>none
 | n+1,c,.Assign [.Subscript (.Name x _) k _] v _=>if cY c.sc x&&bF x&&!pF k then (cC c.nm x).bind fun i=>(trV n c k).bind fun y=>(if vL v then none else (trV n c v).bind fun z=>some (.dput i y z)) else none
 | n+1,c,.Assign [.Name x _] e _=>if bF x&&(c.sc.names.lookup x==some .local||c.sc.names.lookup x==some .cell) then (cC c.nm x).bind fun i=>if qX e then some (.dnew i) else ((trV n c e).bind fun y=>if fresh y&&!qW e then none else some (.asg i y)) else none
 | n+1,c,.Expr (.Call (.Attribute (.Name x _) m apos) [a] [] cpos) _=>if apos.endLine==cpos.line&&cY c.sc x&&bF x then (cC c.nm x).bind fun i=>(trV n c a).bind fun y =>(if m==("append":Str) then some (.app i y) else if m==("extend":Str) then some (.ext i y) else none) else none
 | n+1,c,.Expr (.Call (.Name f p) es ks cpos) _=>(trV n c (.Call (.Name f p) es ks cpos)).bind fun x=>some (.exp x)
 | _+1,_,.Raise _ _ _=>some .fail
 | n+1,c,.Return (some e) _=>(trV n c e).bind fun y=>some (.ret y)
 | n+1,c,.If t a b _=>(match vO t with
  | some r=>if pH c r.ls&&(glB c.sc cE&&(glB r.ls r.g&&(bF r.g&&(b.isEmpty&&!r.es.isEmpty)))) then (cL (trV n ⟨r.ls,c.nm⟩) r.es).bind fun es=>(trV n c r.e).bind fun e=>(gP n c a).bind fun x=>some (.tif r.g es e x) else none
  | none=>(trT n c t).bind fun z=>(gP n c a).bind fun x=>(gP n c b).bind fun y=>some (.ite z x y))
 | n+1,c,.For tg iter body [] _=>(iU tg).bind fun xs=>(cL (cC c.nm) xs).bind fun is=>(trI n c iter).bind fun ki=>(gP n c body).bind fun b=>if (!ki.1.pair||dU tg)&&(!dU tg||decide (2<=xs.length))&&nH xs&&(xs.all fun x=>bF x&&(c.sc.names.lookup x==some .local||c.sc.names.lookup x==some .cell)) then some (.loop is ki.1 ki.2 b) else none
 | _,_,_=>none
noncomputable def gP:Nat->Tc->List Stmt->Option (List S)
 | 0,_,_=>none
 | _+1,_,[]=>some []
 | n+1,c,s::ss=>(trS n c s).bind fun x=>(gP n c ss).bind fun xs=>some (x::xs)
end
noncomputable def trR (n:Nat) (c:Tc):Stmt->Option R1
 | .Raise a b _=>(raiC a b).bind fun x=>if glB c.sc x then some (.fail x) else none
 | .Expr e q=>(match qY e with
  | some y=>if glB c.sc y.1&&(bF y.1&&!y.2.1.isEmpty) then (cL (trV n c) y.2.1).bind fun xs=>some (.exq y.1 xs) else none
  | none=>(trS n c (.Expr e q)).map .nrm)
 | st=>(trS n c st).map .nrm
noncomputable def bU (sc:Scope):List Str:=(sc.names.filter fun p=>p.2==.local||p.2==.cell).map (·.1)
end
end Ev
namespace L2
open PySem
variable {scope:Scope} {env:Env}
noncomputable def eZ (env:Env):List (Str × NameKind)->List (Str × Addr)->List (Str × Addr)
 | [],acc=>acc
 | (n,k)::r,acc=>if k==.free then eZ env r ((n,(env.cells.lookup n).getD 0)::acc) else eZ env r acc
theorem vP {env:Env} (f:Str × NameKind->List (Str × Addr)->Sem (ForInStep (List (Str × Addr))))
  (hf:∀ n k cs,f (n,k) cs=if k==.free then (do let a <- cellOf env n;pure (ForInStep.yield ((n,a)::cs))) else pure (.yield cs)) :
  ∀ (names:List (Str × NameKind)) (acc:List (Str × Addr)),(∀ y∈names,y.2=.free->∃ c,env.cells.lookup y.1=some c)->(forIn names acc f:Sem _)=pure (eZ env names acc)
 | [],acc,_=>rfl
 | (n,k)::r,acc,h=>by
  rw [List.forIn_cons,hf];unfold eZ;by_cases hk:(k==.free)=true
  .rw [if_pos hk,if_pos hk];obtain ⟨c,hc⟩:=h (n,k) List.mem_cons_self (by simpa using hk);have e:cellOf env n=pure c:=by unfold cellOf;rw [hc]
   rw [e,hc];simp only [pure_bind,Option.getD_some];exact vP f hf r _ fun y hy=>h y (cK _ hy)
  .rw [if_neg hk,if_neg hk];simp only [pure_bind];exact vP f hf r _ fun y hy=>h y (cK _ hy)
theorem vQ (h:∀ y∈scope.names,y.2=.free->∃ c,env.cells.lookup y.1=some c):closureFor scope env=pure (eZ env scope.names []):=by simp only [closureFor];rw [vP (env:=env) _ (fun n k cs=>by by_cases hk:(k==NameKind.free)=true<;>simp [hk]) scope.names [] h];simp only [pure_bind]
theorem pI {env:Env}:∀ (names:List (Str × NameKind)) (acc:List (Str × Addr)),(∀ x c,acc.lookup x=some c->env.cells.lookup x=some c)->(∀ y∈names,y.2=.free->∃ c,env.cells.lookup y.1=some c) ->
  ∀ x c,(eZ env names acc).lookup x=some c->env.cells.lookup x=some c
 | [],acc,h,_,x,c,e=>h x c e
 | (n,k)::r,acc,h,hn,x,c,e=>by
  unfold eZ at e;have hr:∀ y∈r,y.2=.free->∃ c,env.cells.lookup y.1=some c:=fun y hy=>hn y (cK _ hy);by_cases hk:(k==.free)=true
  .rw [if_pos hk] at e;obtain ⟨c',hc'⟩:=hn (n,k) List.mem_cons_self (by simpa using hk);refine pI r _ (fun x c e=>?_) hr x c e;rw [gJ] at e;cases hb:x==n with
   | true =>rw [hb] at e;have e':some ((env.cells.lookup n).getD 0)=some c:=e;rw [hc'] at e';cases e';rw [lQ.mp hb];exact hc'
   | false=>rw [hb] at e;exact h x c e
  .rw [if_neg hk] at e;exact pI r acc h hr x c e
theorem nI {env:Env} {x:Str}:∀ (names:List (Str × NameKind)) (acc:List (Str × Addr)),((x,NameKind.free)∈names\/(acc.lookup x).isSome=true)->((eZ env names acc).lookup x).isSome=true
 | [],acc,h=>h.elim (fun z=>nomatch z) id
 | (n,k)::r,acc,h=>by
  unfold eZ;have up:∀ a:Addr,(acc.lookup x).isSome=true->(List.lookup x ((n,a)::acc)).isSome=true:=fun a z=>by
   rw [gJ];cases x==n with
   | true=>rfl
   | false=>exact z
  by_cases hk:(k==.free)=true
  .rw [if_pos hk];refine nI r _ ?_;rcases h with h | h
   .rcases omc h with e | e
    .cases e;right;rw [gJ,lO];rfl
    .exact .inl e
   .exact .inr (up _ h)
  .rw [if_neg hk];refine nI r _ ?_;rcases h with h | h
   .rcases omc h with e | e
    .cases e;exact absurd rfl hk
    .exact .inl e
   .exact .inr h
theorem NE {x:Str} {names:List (Str × NameKind)} (hn:∀ y∈names,y.2=.free->∃ c,env.cells.lookup y.1=some c) (h:(x,NameKind.free)∈names):(eZ env names []).lookup x=env.cells.lookup x:=by obtain ⟨c,hc⟩:=Option.isSome_iff_exists.mp (nI (env:=env) names [] (.inl h));rw [hc,pI names [] (fun _ _ e=>by cases e) hn x c hc]
theorem nJ:∀ (names:List (Str × NameKind)) (n:Nat) (acc:List (Str × Addr)),cellsFrom n names acc=cellsFrom n names []++acc
 | [],n,acc=>rfl
 | (x,k)::r,n,acc=>by
  unfold cellsFrom;by_cases hk:(k==.cell)=true
  .rw [if_pos hk,if_pos hk,nJ r (n+1) ((x,n)::acc),nJ r (n+1) [(x,n)],jW];rfl
  .rw [if_neg hk,if_neg hk];exact nJ r n acc
theorem qZ {x:Str} {c:Addr}:∀ (names:List (Str × NameKind)) (n:Nat),(x,c)∈cellsFrom n names []->n<=c/\(x,NameKind.cell)∈names
 | [],n,h=>by cases h
 | (y,k)::r,n,h=>by
  unfold cellsFrom at h;by_cases hk:(k==.cell)=true
  .rw [if_pos hk,nJ] at h;have ek:k=.cell:=by simpa using hk
   rcases oma h with h | h
   .obtain ⟨h1,h2⟩:=qZ r (n+1) h;exact ⟨by lia,cK _ h2⟩
   .have e:(x,c)=(y,n):=by simpa using h
    cases e;exact ⟨aW _,by rw [ek];exact dW⟩
  .rw [if_neg hk] at h;obtain ⟨h1,h2⟩:=qZ r n h;exact ⟨h1,cK _ h2⟩
theorem rA {x:Str}:∀ (names:List (Str × NameKind)) (n:Nat) (acc:List (Str × Addr)),((x,NameKind.cell)∈names\/(acc.lookup x).isSome=true)->((cellsFrom n names acc).lookup x).isSome=true
 | [],_,acc,h=>h.elim (fun z=>nomatch z) id
 | (y,k)::r,n,acc,h=>by
  unfold cellsFrom;by_cases hk:(k==.cell)=true
  .rw [if_pos hk];refine rA r _ _ ?_;rcases h with h | h
   .rcases omc h with e | e
    .cases e;right;rw [gJ,lO];rfl
    .exact .inl e
   .right;rw [gJ];cases x==y with
    | true=>rfl
    | false=>exact h
  .rw [if_neg hk];refine rA r _ _ ?_;rcases h with h | h
   .rcases omc h with e | e
    .cases e;exact absurd rfl hk
    .exact .inl e
   .exact .inr h
theorem NF {x:Str} {c:Addr} {names:List (Str × NameKind)} {n:Nat} {acc:List (Str × Addr)} (h:(cellsFrom n names acc).lookup x=some c) :
  (x,c)∈cellsFrom n names []\/((cellsFrom n names []).lookup x=none/\acc.lookup x=some c):=by
 rw [nJ,List.lookup_append] at h;cases e:(cellsFrom n names []).lookup x with
 | none=>rw [e] at h;exact .inr ⟨rfl,by simpa using h⟩
 | some d =>
  rw [e] at h;have h':some d=some c:=by simpa using h
  cases h';exact .inl (mem_of_lookup e)
section
variable {M:Model} {A:Around} {E:Vq} {s:Shared}
theorem NG {globals:Addr} {cl:List (Str × Addr)} {qual:Str} {Q:Env->Shared->Prop}
  (hQ:Q { scope:=scope,locals:=s.heap.objs.size,globals:=globals,cells:=cellsFrom (s.heap.objs.size+1) scope.names cl,qual:=qual,func:=none,code:=env.code,frame:=env.frame,builtins:=env.builtins }
   { s with heap:=pushCells (s.heap.push { cls:=.type "dict",data:=.dict #[] }) scope.names }) :
  wpAny M A (newFunctionEnv scope globals cl [] qual none .none (some env)) Q E s:=by
 simp only [newFunctionEnv,Option.isSome_some,if_true];refine aA (wpAny_alloc ?_);refine wpAny_bind (wpAny_layCells _ (fun name kind cells=>by cases hkc:kind==NameKind.cell<;>simp []) _ _ _ _ ?_);rw [show ({ s with heap:=s.heap.push { cls:=.type "dict",data:=.dict #[] } }:Shared).heap.objs.size=s.heap.objs.size+1 from eL ..];simp only [List.forIn_nil,pure_bind];exact aL hQ
end
end L2
namespace Ev
open PySem Spec PyProof.Rows L2
section
open PySem.AutoSeq1 (wpAny_loadPart')
section
variable {X:Cx}
end
section
variable {prog:Program} {w:World} {A:Around} {E:Vq} {s:Shared}
theorem BI {α β:Type} {f g:α->Option β}:∀ {l:List α},(∀ a∈l,f a=g a)->l.filterMap f=l.filterMap g
 | [],_=>rfl
 | a::l,h=>by rw [jF,jF,h a dW,BI fun b hb=>h b (cK _ hb)]
theorem NH {t sl:Addr} {zs:Array Value} {vl vu:Value} {lo hi:Option Int} {Q:Vq} (ht:IsTup s.heap t zs) (hs:s.heap.IsSliceOf sl vl vu .none) (pl:IsPart vl lo) (pu:IsPart vu hi)
  (hw:HT.sIx zs.size 0 lo=0/\HT.sIx zs.size zs.size hi=zs.size) (h:Q (.ref t) s):wpAny (model prog w) A (getItem (.ref t) (.ref sl)) Q E s:=by
 obtain ⟨os,hos,hcs,hds⟩:=id hs;have hT:s.TypeIs (.ref sl) "slice":=⟨os,hos,hcs⟩;unfold getItem
 try with_reducible refine gU ?_
 first | refine aA (aL ?_) | skip
 refine aA (wpAny_sequenceKey ht.typeIs (by decide) ?_);refine aA (kP (name:=Str.ofString "__getitem__") ht.typeIs PyProof.Rows.slot_tuple_getitem (iS PyProof.Rows.slot_tuple_getitem ht.typeIs PyProof.Rows.entry_tuple_getitem ?_ (PyProof.Rows.args_tuple_getitem _ _)));show wpAny _ _ (Builtin.Tuple.tupleItemsOf (.ref t) >>= _) _ _ s;refine aA (tupleItemsOf_ ht ?_);refine aA (wpAny_typeOf hT ?_);rw [if_pos (by decide)];refine aA (HT.sliceApplied_gen hs pl pu ?_);have hyes:(((HT.sIx zs.size 0 lo:Nat):Int)==0&&(1:Int)==1&&(HT.sIx zs.size zs.size hi-HT.sIx zs.size 0 lo)==zs.size)=true:=by rw [hw.1,hw.2];simp
 show wpAny _ _ (if (((HT.sIx zs.size 0 lo:Nat):Int)==0&&(1:Int)==1&&(HT.sIx zs.size zs.size hi-HT.sIx zs.size 0 lo)==zs.size)=true then _ else _) _ _ s;rw [if_pos hyes];refine aA (show wpAny _ _ (Builtin.Tuple.tupleIsExact (.ref t)) _ _ s from ?_);unfold Builtin.Tuple.tupleIsExact;refine aA (wpAny_typeOf ht.typeIs (aL ?_));simp only [beq_self_eq_true,if_true];exact aA (wpAny_rule (aL ⟨_,rfl,aL h⟩))
end
section
variable {X:Cx} {c:Tc} {a:Expr} {pos p2:Pos}
theorem NI:SlR X (fun x lo hi H Q=>∃ a xs,x=.ref a/\SqT X.K H a xs/\(HT.sIx xs.length 0 lo=0/\HT.sIx xs.length xs.length hi=xs.length)/\Q (.ref a) H):=by
 intro pj s O H x v vl vu lo hi sl Q I rx hs pl pu h;obtain ⟨a,xs,rfl,hx,hw,q⟩:=h;cases rx;obtain ⟨qc,r,ht,hz⟩:=I.tuple hx;have hlen:qc.toArray.size=xs.length:=by rw [cO];exact r.length.symm
 exact ⟨"tuple",_,PyProof.Rows.slot_tuple_getitem.lookup,ht.typeIs,NH ht hs pl pu (by rw [hlen];exact hw) ⟨.ref a,H,I,rfl,q⟩⟩
end
end
section
variable {K:W.Frag} {H F F' H' H1:Hp} {xs:List V} {o:HO} {p:Addr} {e:Expr} {f g:Env->Option T} {h:T->T->Option T}
def Ls (K:W.Frag) (H:Hp) (a:Addr) (xs:List V):Prop :=
 Rd H a (.lst xs)\/∃ (qc:Array Value) (n:Nat),K.lookup a=some { cls:=.type "list",data:=.seq qc n }/\qc.size<=sizeLine/\aH xs qc.toList
theorem Ls.of {a:Addr} (h:H a=some (.lst xs)):Ls K H a xs:=.inl (.inl h)
theorem Ls.sq {a:Addr} (h:Ls K H a xs):SqL K H a xs:=by
 rcases h with h | ⟨qc,n,h1,h2,h3⟩
 .exact .inl h
 .exact .inr ⟨_,qc,n,h1,rfl,rfl,rfl,h2,h3⟩
theorem Ls.ok {X:Cx} {pj:Pq} {O:L2.St} {H:Hp} {s:Shared} {a:Addr} {xs:List V} (h:Ls X.K H a xs) (I:Inv X pj O H s) :
  xs.length<=sizeLine/\∃ (qc:List Value) (n:Nat),aH xs qc/\s.heap.get? a=some { cls:=.type "list",data:=.seq qc.toArray n }:=by
 rcases h with h | ⟨qc,n,h1,h2,h3⟩
 .obtain ⟨z,qc,n,r,e⟩:=h.ok I.hok;exact ⟨z,qc,n,r,e⟩
 .exact ⟨by rw [h3.length,jV];exact h2,qc.toList,n,h3,by rw [Array.toArray_toList];exact I.kIn a _ h1⟩
abbrev Tq (_K:W.Frag) (F:Hp) (a:Addr) (xs:List V):Prop:=F a=some (.tup xs)
mutual
def Rep (K:W.Frag) (F:Hp):T->V->Prop
 | .non,v=>v=.non
 | .bl b,v=>v=.bl b
 | .int i,v=>v=.int i
 | .str x,v=>v=.str x
 | .tup ts,v=>∃ a vs,v=.ref a/\Tq K F a vs/\aD K F ts vs
 | .lst ts,v=>∃ a vs,v=.ref a/\Ls K F a vs/\aD K F ts vs
 | .dk ks ts,v=>∃ a ws,v=.ref a/\F a=some (.dK ws)/\ws.map (·.1)=ks/\aD K F ts (ws.map (·.2))
 | .dt ks ts,v=>∃ a ws,v=.ref a/\F a=some (.dT ws)/\ws.map (·.1)=ks/\aD K F ts (ws.map (·.2))
def aD (K:W.Frag) (F:Hp):List T->List V->Prop
 | [],vs=>vs=[]
 | t::ts,vs=>∃ v r,vs=v::r/\Rep K F t v/\aD K F ts r
end
theorem BJ {a:Addr} (e:Same F F') (h:Rd F a o):Rd F' a o:=by
 rcases h with h | ⟨b,h⟩
 .exact .inl (e _ _ h)
 .exact .inr ⟨b,e _ _ h⟩
theorem Ls.same {a:Addr} (e:Same F F') (h:Ls K F a xs):Ls K F' a xs:=by
 rcases h with h | h
 .exact .inl (BJ e h)
 .exact .inr h
theorem dC {a:Addr} (e:Same F F') (h:Tq K F a xs):SqT K F' a xs:=SqT.of (e _ _ h)
mutual
theorem Rep.mono {K:W.Frag} {F F':Hp} (e:Same F F'):∀ {t:T} {v:V},Rep K F t v->Rep K F' t v
 | .non,_,h=>h
 | .bl _,_,h=>h
 | .int _,_,h=>h
 | .str _,_,h=>h
 | .tup _,_,h=>by obtain ⟨a,vs,h1,h2,h3⟩:=h;exact ⟨a,vs,h1,e _ _ h2,aD.mono e h3⟩
 | .lst _,_,h=>by obtain ⟨a,vs,h1,h2,h3⟩:=h;exact ⟨a,vs,h1,Ls.same e h2,aD.mono e h3⟩
 | .dk _ _,_,h=>by obtain ⟨a,ws,h1,h2,h3,h4⟩:=h;exact ⟨a,ws,h1,e _ _ h2,h3,aD.mono e h4⟩
 | .dt _ _,_,h=>by obtain ⟨a,ws,h1,h2,h3,h4⟩:=h;exact ⟨a,ws,h1,e _ _ h2,h3,aD.mono e h4⟩
theorem aD.mono {K:W.Frag} {F F':Hp} (e:Same F F'):∀ {ts:List T} {vs:List V},aD K F ts vs->aD K F' ts vs
 | [],_,h=>h
 | _::_,_,h=>by obtain ⟨v,r,h1,h2,h3⟩:=h;exact ⟨v,r,h1,Rep.mono e h2,aD.mono e h3⟩
end
theorem aD.length {K:W.Frag} {F:Hp}:∀ {ts:List T} {vs:List V},aD K F ts vs->vs.length=ts.length
 | [],_,h=>by cases h;rfl
 | _::_,_,h=>by obtain ⟨v,r,rfl,_,h3⟩:=h;simp [aD.length h3]
theorem aD.cons {t:T} {v:V} {ts:List T} {vs:List V} (h:Rep K F t v) (r:aD K F ts vs):aD K F (t::ts) (v::vs):=⟨v,vs,rfl,h,r⟩
theorem aD.app {K:W.Frag} {F:Hp}:∀ {ts us:List T} {vs ws:List V},aD K F ts vs->aD K F us ws->aD K F (ts++us) (vs++ws)
 | [],_,_,_,h,r=>by cases h;exact r
 | _::_,_,_,_,h,r=>by obtain ⟨v,q,rfl,h2,h3⟩:=h;exact ⟨v,_,rfl,h2,aD.app h3 r⟩
theorem aD.drop {K:W.Frag} {F:Hp}:∀ (n:Nat) {ts:List T} {vs:List V},aD K F ts vs->aD K F (ts.drop n) (vs.drop n)
 | 0,_,_,h=>h
 | _+1,[],_,h=>by cases h;exact rfl
 | n+1,_::_,_,h=>by obtain ⟨v,q,rfl,h2,h3⟩:=h;exact aD.drop n h3
theorem aD.take {K:W.Frag} {F:Hp}:∀ (n:Nat) {ts:List T} {vs:List V},aD K F ts vs->aD K F (ts.take n) (vs.take n)
 | 0,_,_,_=>rfl
 | _+1,[],_,h=>by cases h;exact rfl
 | n+1,_::_,_,h=>by obtain ⟨v,q,rfl,h2,h3⟩:=h;exact ⟨v,_,rfl,h2,aD.take n h3⟩
theorem aD.get {K:W.Frag} {F:Hp}:∀ {ts:List T} {vs:List V} {i:Nat} {t:T},aD K F ts vs->ts[i]?=some t->∃ v,vs[i]?=some v/\Rep K F t v
 | [],_,_,_,_,e=>by simp at e
 | _::_,_,0,_,h,e=>by obtain ⟨v,q,rfl,h2,h3⟩:=h;simp at e;subst e;exact ⟨v,rfl,h2⟩
 | _::_,_,i+1,t,h,e=>by obtain ⟨v,q,rfl,h2,h3⟩:=h;obtain ⟨w,h4,h5⟩:=aD.get (i:=i) (t:=t) h3 (by simpa using e);exact ⟨w,by simpa using h4,h5⟩
def rB:HO->Bool
 | .tbl _=>true
 | _=>false
def fG:Str:="law.<locals>.<lambda>"
def CdAt (H:Hp) (cv:Value):Prop:=∃ a oc vs t,cv=.ref a/\H a=some (.frz oc (.own 0))/\oc.data=.fields vs/\vs[1]?=some (.str fG t)
def iC (H:Hp) (b:Addr):Prop:=∃ ps:Array Value,H b=some (.tbl ps)/\TriplesOk ps.toList/\∀ pos cv,codeAmong pos ps.toList=some cv->CdAt H cv
theorem CdAt.up {cv:Value} (h:CdAt H cv) (k:∀ a o u,H a=some (.frz o u)->H' a=some (.frz o u)):CdAt H' cv:=by obtain ⟨a,oc,vs,t,h1,h2,h3,h4⟩:=h;exact ⟨a,oc,vs,t,h1,k _ _ _ h2,h3,h4⟩
theorem iC.up {H H':Hp} {b:Addr} (h:iC H b) (k:∀ a o u,H a=some (.frz o u)->H' a=some (.frz o u)) (kt:∀ a ps,H a=some (.tbl ps)->H' a=some (.tbl ps)):iC H' b:=by obtain ⟨ps,h1,h2,h3⟩:=h;exact ⟨ps,kt _ _ h1,h2,fun pos cv e=>(h3 pos cv e).up k⟩
structure SameT (H H':Hp):Prop where
 st:∀ b u,H b=some u->rB u=false->H' b=some u
 fr:∀ b,H' b=none->H b=none
 tb:∀ b,iC H b->iC H' b
 tt:∀ b ps,H b=some (.tbl ps)->∃ qs,H' b=some (.tbl qs)
theorem vR (e:Same H H'):SameT H H':=⟨fun b u h _=>e b u h,fun _ h=>e.free h,fun _ h=>h.up (fun a o u q=>e a _ q) fun a ps q=>e a _ q,fun b ps h=>⟨ps,e b _ h⟩⟩
theorem SameT.refl (H:Hp):SameT H H:=vR (Same.refl H)
theorem SameT.free (e:SameT H H') {l:Addr} (h:H' l=none):H l=none:=e.fr l h
theorem SameT.trans {H2:Hp} (a:SameT H H1) (b:SameT H1 H2):SameT H H2:=⟨fun c u h q=>b.st c u (a.st c u h q) q,fun c h=>a.fr c (b.fr c h),fun c h=>b.tb c (a.tb c h),fun c ps h=>let ⟨qs,g⟩:=a.tt c ps h;b.tt c qs g⟩
theorem SameT.aJ {H H1:Hp} {a:Addr} {o o1:HO} (e:SameT H H1) (h0:H a=none) (h1:H1 a=some o1) (k1:rB o1=false) (k2:∀ p u,o1≠.frz p u):SameT H (aJ H1 a o):=by
 refine ⟨fun b u h q=>?_,fun b h=>?_,fun b h=>?_,fun b ps h=>?_⟩
 .rw [aN (bQ h h0)];exact e.st b u h q
 .by_cases hb:b=a
  .subst hb;exact h0
  .rw [aN hb] at h;exact e.fr b h
 .refine (e.tb b h).up (fun c p u q=>?_) fun c ps q=>?_
  .rw [aN (iI q h1 fun z=>k2 _ _ z.symm)];exact q
  .rw [aN (iI q h1 (by intro z;subst z;cases k1))];exact q
 .obtain ⟨qs,g⟩:=e.tt b ps h;exact ⟨qs,by rw [aN (bQ h h0)];exact g⟩
def vS:Option Obj->Option Addr
 | some ⟨_,_,.func fd,_⟩=>(match fd.code with | .ref c=>some c | _=>none)
 | _=>none
noncomputable def BK (i:Nat):Option Obj->Option Addr
 | some ⟨_,_,.fields vs,_⟩=>(match vs.getD i .none with | .ref c=>some c | _=>none)
 | _=>none
def lY:Option (Option Value)->Option Addr
 | some (some (.ref f))=>some f
 | _=>none
noncomputable def pJ (K:W.Frag):Option Addr:=(lY (W.nsIn K mainGlobals "law")).bind fun f=>(vS (K.lookup f)).bind fun c=>BK 11 (K.lookup c)
structure Step (F H F' H':Hp):Prop where
 hh:SameT H H'
 ff:Same F F'
 fh:Same F' H'
 nw:∀ a,F' a≠none->F a≠none\/H a=none\/∃ xs,H a=some (.tup xs)
theorem Step.refl {F H:Hp} (h:Same F H):Step F H F H:=⟨SameT.refl H,Same.refl F,h,fun _ z=>.inl z⟩
def Tbk (K:W.Frag) (F H:Hp):Prop:=∀ p,pJ K=some p->F p=none/\iC H p
theorem Tbk.up (h:Tbk K F H) (S:Step F H F' H'):Tbk K F' H':=fun p q=>by
 obtain ⟨h1,h2⟩:=h p q;refine ⟨?_,S.hh.tb p h2⟩;cases e:F' p with
 | none=>rfl
 | some v =>
  rcases S.nw p (by rw [e];simp) with z | z | ⟨xs,z⟩
  .exact absurd h1 z
  .obtain ⟨ps,h3,_⟩:=h2;rw [h3] at z;cases z
  .obtain ⟨ps,h3,_⟩:=h2;rw [h3] at z;cases z
theorem Step.trans {F H F1 H1 F2 H2:Hp} (a:Step F H F1 H1) (b:Step F1 H1 F2 H2):Step F H F2 H2 :=
 ⟨a.hh.trans b.hh,a.ff.trans b.ff,b.fh,fun x z=>by
  rcases b.nw x z with q | q | ⟨xs,q⟩
  .exact a.nw x q
  .exact .inr (.inl (a.hh.free q))
  .cases h:H x with
   | none=>exact .inr (.inl rfl)
   | some o =>
    by_cases ht:rB o=true
    .cases o with
     | tbl ps=>obtain ⟨qs,g⟩:=a.hh.tt x ps h;rw [q] at g;cases g
     | _=>cases ht
    .have h':=a.hh.st x o h (by simpa using ht);rw [q] at h';cases h';exact .inr (.inr ⟨xs,rfl⟩)⟩
theorem NJ (h:Same F H):Same (aJ F p o) (aJ H p o):=fun b u e=>by
 by_cases hb:b=p
 .subst hb;rw [aY] at e ⊢;exact e
 .rw [aN hb] at e ⊢;exact h b u e
theorem iM (h:H p=none):Same H (aJ H p o):=fun b u e=>by rw [aN (bQ e h)];exact e
theorem Step.new {F1:Hp} (a:Step F H F1 H1) (h:H1 p=none):Step F H (aJ F1 p o) (aJ H1 p o) :=
 ⟨a.hh.trans (vR (iM h)),a.ff.trans (iM (a.fh.free h)),NJ a.fh,fun x z=>by
  by_cases hx:x=p
  .subst hx;exact .inr (.inl (a.hh.free h))
  .rw [aN hx] at z;exact a.nw x z⟩
theorem Step.newH {F1:Hp} (a:Step F H F1 H1) (h:H1 p=none):Step F H F1 (aJ H1 p o) :=
 ⟨a.hh.trans (vR (iM h)),a.ff,a.fh.trans (iM h),a.nw⟩
structure EnvE (X:Cx) (c:Tc) (r:Env) (F:Hp) (O:L2.St) (H:Hp):Prop where
 fh:Same F H
 tb:Tbk X.K F H
 get:∀ (x:Str) (i:Nat) (t:T),bF x=true->cC c.nm x=some i->cY c.sc x=true->r[i]?=some (some t)->∃ (j:Nat) (v:V),X.N[j]?=some x/\O[j]?=some (some v)/\Rep X.K F t v
theorem EnvE.step {X:Cx} {c:Tc} {r:Env} {O:L2.St} (e:EnvE X c r F O H) (s:Step F H F' H'):EnvE X c r F' O H' :=
 ⟨s.fh,e.tb.up s,fun x i t pn a b d=>let ⟨j,v,h1,h2,h3⟩:=e.get x i t pn a b d;⟨j,v,h1,h2,h3.mono s.ff⟩⟩
def spT (K:W.Frag) (g:List T->Option T):Sp:=fun vs H Q _=>∃ F ts t,Same F H/\Tbk K F H/\aD K F ts vs/\g ts=some t/\∀ v F' H',Step F H F' H'->Rep K F' t v->Q v H'
def kY (f:Str):Bool:=!(f==(".put":Str))&&!(f==(".lam":Str))
structure Gd (X:Cx) (c:Tc) (G:Glo) (k:Nat):Prop where
 room:Room k X.A
 calm:X.calm=true
 nob:∀ x∈bnames,X.mg x=none
 call:∀ f ts t,kY f=true->G.call f ts=some t->∃ (a:Addr) (fd:FuncData) (ps:List Str),FnOk X.prog X.w X.K X.mg X.base CX0 k a fd ps (spT X.K (G.call f))/\X.mg f=some (.ref a)/\W.keepIn X.K (.ref a)=true/\Binds X.K fd ps []
 vis:∀ x,cY c.sc x=true->Vis X.env.scope x
 gl:∀ x,glB c.sc x=true->Gl X x
 cap:∀ x,(c.sc.names.lookup x=some .cell\/c.sc.names.lookup x=some .free)->(X.env.kindOf x=some .cell\/X.env.kindOf x=some .free)
 nd:X.N.Nodup
def spE (X:Cx) (c:Tc) (f:Env->Option T):TE:=fun O H Q=>∃ r F t,EnvE X c r F O H/\f r=some t/\∀ v F' H',Step F H F' H'->Rep X.K F' t v->Q v H'
def spB (X:Cx) (c:Tc) (f:Env->Option T):TT:=fun O H Q=>∃ r F b,EnvE X c r F O H/\f r=some (.bl b)/\∀ F' H',Step F H F' H'->Q b H'
def spL (X:Cx) (c:Tc) (f:Env->Option (List T)):TA:=fun O H Q=>∃ r F ts,EnvE X c r F O H/\f r=some ts/\∀ vs F' H',Step F H F' H'->aD X.K F' ts vs->Q vs H'
abbrev Oke (X:Cx) (c:Tc) (e:Expr) (f:Env->Option T):Prop:=PE X e (spE X c f)
abbrev Okt (X:Cx) (c:Tc) (e:Expr) (f:Env->Option T):Prop:=PT X e (spB X c f)
theorem fH {X:Cx} {t t':TE} (h:PE X e t) (m:∀ O H Q,t' O H Q->t O H Q):PE X e t':=fun pj s O H Q I q=>h pj s O H Q I (m O H Q q)
theorem vT {X:Cx} {t t':TT} (h:PT X e t) (m:∀ O H Q,t' O H Q->t O H Q):PT X e t':=fun pj s O H Q I q=>h pj s O H Q I (m O H Q q)
theorem NK {X:Cx} {t t':TT} (h:PW X e t) (m:∀ O H Q,t' O H Q->t O H Q):PW X e t':=fun wh pj s O H Q I q=>h wh pj s O H Q I (m O H Q q)
theorem iN {X:Cx} {e:Stmt} {t t':TS} (h:PS X e t) (m:∀ D O H,t' D O H->t D O H):PS X e t':=fun pj s O H D I q=>h pj s O H D I (m D O H q)
theorem vU {X:Cx} {e:List Stmt} {t t':TS} (h:PSs X e t) (m:∀ D O H,t' D O H->t D O H):PSs X e t':=fun pj s O H D I q=>h pj s O H D I (m D O H q)
def OpS (X:Cx) (f:Value->Value->Sem Value) (g:T->T->Option T):Prop :=
 OpR X f (fun x y H Q=>∃ F t1 t2 t,Same F H/\Rep X.K F t1 x/\Rep X.K F t2 y/\g t1 t2=some t/\∀ v F' H',Step F H F' H'->Rep X.K F' t v->Q v H')
section
variable {X:Cx} {c:Tc} {a b:Expr} {pos:Pos}
theorem NM {op:Operator} (ho:OpS X (binaryOp op) h) (ha:Oke X c a f) (hb:Oke X c b g):Oke X c (.BinOp a op b pos) (fun r=>(f r).bind fun x=>(g r).bind fun y=>h x y):=by refine fH (uX ho ha hb) fun O H Q q=>?_;obtain ⟨r,F,t,e,ht,q⟩:=q;obtain ⟨t1,e1,ht⟩:=obs ht;obtain ⟨t2,e2,ht⟩:=obs ht;refine ⟨r,F,t1,e,e1,fun v1 F1 H1 s1 r1=>⟨r,F1,t2,e.step s1,e2,fun v2 F2 H2 s2 r2=>?_⟩⟩;exact ⟨F2,t1,t2,t,s2.fh,r1.mono s2.ff,r2,ht,fun v F' H' s3 r3=>q v F' H' (s1.trans (s2.trans s3)) r3⟩
theorem NN {op:CmpOp} (ho:OpS X (compareOp op) h) (ha:Oke X c a f) (hb:Oke X c b g) (hm:behindInMarks op b=false):Oke X c (.Compare a [op] [b] pos) (fun r=>(f r).bind fun x=>(g r).bind fun y=>h x y):=by refine fH (KO ho ha hb hm) fun O H Q q=>?_;obtain ⟨r,F,t,e,ht,q⟩:=q;obtain ⟨t1,e1,ht⟩:=obs ht;obtain ⟨t2,e2,ht⟩:=obs ht;refine ⟨r,F,t1,e,e1,fun v1 F1 H1 s1 r1=>⟨r,F1,t2,e.step s1,e2,fun v2 F2 H2 s2 r2=>?_⟩⟩;exact ⟨F2,t1,t2,t,s2.fh,r1.mono s2.ff,r2,ht,fun v F' H' s3 r3=>q v F' H' (s1.trans (s2.trans s3)) r3⟩
theorem BM {op:CmpOp} (ho:OpS X (compareOp op) h) (ha:Oke X c a f) (hb:Oke X c b g) (hm:behindInMarks op b=false):Okt X c (.Compare a [op] [b] pos) (fun r=>(f r).bind fun x=>(g r).bind fun y=>h x y):=by refine vT (zU ho ha hb hm) fun O H Q q=>?_;obtain ⟨r,F,k,e,ht,q⟩:=q;obtain ⟨t1,e1,ht⟩:=obs ht;obtain ⟨t2,e2,ht⟩:=obs ht;refine ⟨r,F,t1,e,e1,fun v1 F1 H1 s1 r1=>⟨r,F1,t2,e.step s1,e2,fun v2 F2 H2 s2 r2=>?_⟩⟩;exact ⟨F2,t1,t2,_,s2.fh,r1.mono s2.ff,r2,ht,fun v F' H' s3 r3=>⟨k,r3,q F' H' (s1.trans (s2.trans s3))⟩⟩
end
theorem kZ:SZ=sizeLine:=fD.symm
section
variable {X:Cx}
theorem BN:OpR X (binaryOp .Add) (fun x y H Q=>∃ l b xs zs,x=.ref l/\y=.ref b/\Ls X.K H l xs/\Ls X.K H b zs/\xs.length+zs.length<=sizeLine/\∀ p,H p=none->Q (.ref p) (aJ H p (.lst (xs++zs)))):=by
 intro pj s O H x y v u Q I rx ry h;obtain ⟨l,b,xs,zs,rfl,rfl,hH,hB,hz,q⟩:=h;cases rx;cases ry;obtain ⟨z,qc,n,r,e⟩:=hH.ok I;obtain ⟨z2,its2,n2,r2,e2⟩:=hB.ok I;have hl:=r.length;have hl2:=r2.length;refine PySem.P.add_list e e2 ?_ (by rw [cO,cO];lia);have ea:qc.toArray++its2.toArray=(qc++its2).toArray:=by simp
 rw [ea];exact ⟨.ref _,_,I.lnew (t':=s.toks) (r.append r2) (by rw [eU];lia),rfl,q _ I.fresh⟩
theorem NO:OpR X (binaryOp .Add) (fun x y H Q=>∃ a b xs ys,x=.ref a/\y=.ref b/\SqT X.K H a xs/\SqT X.K H b ys/\xs.length+ys.length<=sizeLine /\
  (xs=[]->Q (.ref b) H)/\(xs≠[]->ys=[]->Q (.ref a) H)/\(xs≠[]->ys≠[]->∀ p,H p=none->Q (.ref p) (aJ H p (.tup (xs++ys))))):=by
 intro pj s O H x y v u Q I rx ry h;obtain ⟨a,b,xs,ys,rfl,rfl,ha,hb,hz,q0,q1,q2⟩:=h;cases rx;cases ry;obtain ⟨qc,r,ht,_⟩:=I.tuple ha;obtain ⟨its2,r2,ht2,_⟩:=I.tuple hb;have hl:=r.length;have hl2:=r2.length;by_cases hx:xs=[]
 .subst hx;have hi:qc=[]:=by
   cases qc with
   | nil=>rfl
   | cons _ _=>simp at hl
  subst hi;obtain ⟨⟨cls,dd,data,sl⟩,ho,hc,n,hd⟩:=id ht;obtain ⟨⟨cls2,dd2,data2,sl2⟩,ho2,hc2,n2,hd2⟩:=id ht2;simp only at hc hd hc2 hd2;subst hc hd hc2 hd2;exact concat_meets ⟨_,ho,rfl⟩ ⟨_,ho2,rfl⟩ noFill_tuple_add seq_tuple_add PySem.F.slot_tuple_add PySem.F.entry_tuple_add (PySem.F.args_tuple_add_2 _ _)
   (tuple_addW0 a b _ _ n n2 dd dd2 sl sl2 (by simp)) ⟨ho,ho2,⟨.ref b,H,I.tok _,rfl,q0 rfl⟩⟩
 .refine HT.cat_tup ht ht2 (by intro z;subst z;exact hx (by cases xs with | nil=>rfl | cons _ _=>simp at hl)) (fun hw=>?_) (fun hw=>?_) (by lia)
  .have hy:ys=[]:=by subst hw;cases ys with | nil=>rfl | cons _ _=>simp at hl2
   exact ⟨.ref a,H,I,rfl,q1 hx hy⟩
  .have hy:ys≠[]:=by intro z;subst z;exact hw (by cases its2 with | nil=>rfl | cons _ _=>simp at hl2)
   exact ⟨.ref _,_,I.laid (t':=s.toks) (fun b o e=>aR _ e) (aW _) (show aS X.prog X.w _ _ _ (.tup (xs++ys)) from ⟨by rw [eU];lia,qc++its2,r.append r2,IsTup.new _ _⟩),rfl,q2 hx hy _ I.fresh⟩
theorem NP:OpS X (binaryOp .Add) cX:=by
 intro pj s O H x y v u Q I rx ry h;obtain ⟨F,t1,t2,t,fh,r1,r2,ht,q⟩:=h;cases t1 with
 | int i =>
  cases t2 with
  | int j =>cases r1;cases r2;cases ht;exact JW pj s O H _ _ v u Q I rx ry ⟨_,_,rfl,rfl,q _ F H (Step.refl fh) rfl⟩
  | _=>simp [cX] at ht
 | lst i =>
  cases t2 with
  | lst j =>
   obtain ⟨l,xs,rfl,h1,h2⟩:=r1;obtain ⟨l',ys,rfl,h3,h4⟩:=r2;simp only [cX] at ht;split at ht
   .rename_i hz;cases ht;refine BN pj s O H _ _ v u Q I rx ry ⟨_,_,_,_,rfl,rfl,Ls.same fh h1,Ls.same fh h3,by rw [h2.length,h4.length,<- kZ];exact hz,fun p hp=>?_⟩;have st:=(Step.refl fh).new (o:=.lst (xs++ys)) hp;exact q _ _ _ st ⟨p,_,rfl,Ls.of aY,(h2.app h4).mono st.ff⟩
   .cases ht
  | _=>simp [cX] at ht
 | tup i =>
  cases t2 with
  | tup j =>
   obtain ⟨l,xs,rfl,h1,h2⟩:=r1;obtain ⟨l',ys,rfl,h3,h4⟩:=r2;simp only [cX] at ht;split at ht
   .rename_i hz;cases ht;refine NO pj s O H _ _ v u Q I rx ry ⟨_,_,_,_,rfl,rfl,dC fh h1,dC fh h3,by rw [h2.length,h4.length,<- kZ];exact hz,fun z=>?_,fun _ z=>?_,fun _ _ p hp=>?_⟩
    .subst z;refine q _ F H (Step.refl fh) ⟨l',ys,rfl,h3,?_⟩;have e:=h2.length;cases i with
     | nil=>exact h4
     | cons _ _=>simp at e
    .subst z;refine q _ F H (Step.refl fh) ⟨l,xs,rfl,h1,?_⟩;have e:=h4.length;cases j with
     | nil=>rw [dP];exact h2
     | cons _ _=>simp at e
    .have st:=(Step.refl fh).new (o:=.tup (xs++ys)) hp;exact q _ _ _ st ⟨p,_,rfl,aY,(h2.app h4).mono st.ff⟩
   .cases ht
  | _=>simp [cX] at ht
 | _=>cases t2<;>simp [cX] at ht
theorem NQ:OpS X (binaryOp .Sub) pB:=by intro pj s O H x y v u Q I rx ry h;obtain ⟨F,t1,t2,t,fh,r1,r2,ht,q⟩:=h;cases t1<;>cases t2<;>simp only [pB] at ht<;>cases ht;cases r1;cases r2;exact JX pj s O H _ _ v u Q I rx ry ⟨_,_,rfl,rfl,q _ F H (Step.refl fh) rfl⟩
theorem NR:OpS X (binaryOp .Mult) kS:=by
 intro pj s O H x y v u Q I rx ry h;obtain ⟨F,t1,t2,t,fh,r1,r2,ht,q⟩:=h;cases t1 with
 | int i =>
  cases t2 with
  | int j =>
   cases r1;cases r2;simp only [kS] at ht;split at ht
   .rename_i hz;cases ht;refine JY pj s O H _ _ v u Q I rx ry ⟨_,_,rfl,rfl,?_,q _ F H (Step.refl fh) rfl⟩;rw [Bool.or_eq_true] at hz;have e64:(2:Int) ^ 64=18446744073709551616:=by decide
    rcases hz with hz | hz<;>simp only [lW,Bool.and_eq_true,decide_eq_true_eq] at hz
    .exact .inl (by rw [e64];exact hz)
    .exact .inr (by rw [e64];exact hz)
   .cases ht
  | _=>simp [kS] at ht
 | _=>cases t2<;>simp [kS] at ht
theorem NS:OpS X (binaryOp .FloorDiv) bZ:=by
 intro pj s O H x y v u Q I rx ry h;obtain ⟨F,t1,t2,t,fh,r1,r2,ht,q⟩:=h;cases t1<;>cases t2<;>simp only [bZ] at ht<;>try cases ht
 split at ht
 .rename_i hz;cases ht;cases r1;cases r2;exact JZ pj s O H _ _ v u Q I rx ry ⟨_,_,rfl,rfl,hz,q _ F H (Step.refl fh) rfl⟩
 .cases ht
theorem NT:OpS X (binaryOp .Mod) cH:=by
 intro pj s O H x y v u Q I rx ry h;obtain ⟨F,t1,t2,t,fh,r1,r2,ht,q⟩:=h;cases t1<;>cases t2<;>simp only [cH] at ht<;>try cases ht
 split at ht
 .rename_i hz;cases ht;cases r1;cases r2;exact KA pj s O H _ _ v u Q I rx ry ⟨_,_,rfl,rfl,hz,q _ F H (Step.refl fh) rfl⟩
 .cases ht
end
end
end Ev
section
section
namespace L2
open PySem Spec PyProof.Rows
section
variable {xs:List (List Key × Addr × Value)} {b:Addr} {H':Hp} {Q:Vq}
section
variable {κ:Type} [DecidableEq κ]
def fJ (qb:List (κ × V)) (k:κ):Option V:=(qb.find? fun kv=>decide (kv.1=k)).map (·.2)
noncomputable def fK (qb:List (κ × V)) (k:κ) (v:V):List (κ × V) :=
 if (qb.any fun kv=>decide (kv.1=k))=true then qb.map (fun kv=>if kv.1=k then (kv.1,v) else kv) else qb++[(k,v)]
def BO (qb:List (κ × V)) (k:κ):List (κ × V):=qb.filter fun kv=>decide (kv.1≠k)
theorem nK {p:κ × V} {r:List (κ × V)} {k:κ} (e:p.1=k):fJ (p::r) k=some p.2:=by simp [fJ,e]
theorem nL {p:κ × V} {r:List (κ × V)} {k:κ} (e:¬ p.1=k):fJ (p::r) k=fJ r k:=by simp [fJ,e]
theorem vV (k:κ):∀ qb:List (κ × V),(qb.any fun kv=>decide (kv.1=k))=(fJ qb k).isSome
 | []=>rfl
 | p::r=>by
  rw [iQ];by_cases e:p.1=k
  .simp only [nK e,decide_eq_true e,Bool.true_or,Option.isSome_some]
  .rw [nL e,eG e,Bool.false_or];exact vV k r
theorem vW (qb:List (κ × V)) (k:κ) (v:V):(fK qb k v).length<=qb.length+1:=by
 unfold fK;split
 .rw [bE];lia
 .rw [eU,eV,List.length_nil];lia
theorem dG.isSome_eq {o:Option V} {u:Option Value} (r:dG o u):o.isSome=u.isSome:=by
 cases o with
 | none=>cases u with
  | none=>rfl
  | some _=>exact (show False from r).elim
 | some _=>cases u with
  | none=>exact (show False from r).elim
  | some _=>rfl
theorem dG.getD {o:Option V} {u:Option Value} {d:V} {d':Value} (r:dG o u) (rd:aB d d'):aB (o.getD d) (u.getD d'):=by
 cases o with
 | none=>cases u with
  | none=>exact rd
  | some _=>exact (show False from r).elim
 | some _=>cases u with
  | none=>exact (show False from r).elim
  | some _=>exact r
theorem KV.val {qb:List (κ × V)} {vs:List (κ × Value)} (r:KV qb vs) (k:κ):dG (fJ qb k) (valueAt vs k):=by
 unfold KV at r
 induction r with
 | nil=>exact True.intro
 | @cons p q ps qs h t ih =>
  obtain ⟨h1,h2⟩:=h;by_cases e:p.1=k
  .have e':q.1=k:=h1.symm.trans e;have b:valueAt (q::qs) k=some q.2:=by simp [valueAt,e']
   rw [nK e,b];exact h2
  .have e':¬ q.1=k:=fun z=>e (h1.trans z);have b:valueAt (q::qs) k=valueAt qs k:=by simp [valueAt,e']
   rw [nL e,b];exact ih
theorem KV.any {qb:List (κ × V)} {vs:List (κ × Value)} (r:KV qb vs) (k:κ):(qb.any fun kv=>decide (kv.1=k))=vs.any fun kv=>decide (kv.1=k):=by
 unfold KV at r
 induction r with
 | nil=>rfl
 | cons h t ih=>rw [iQ,iQ,ih,h.1]
theorem KV.repl {qb:List (κ × V)} {vs:List (κ × Value)} (r:KV qb vs) (k:κ) {y:V} {u:Value} (ry:aB y u) :
  KV (qb.map fun kv=>if kv.1=k then (kv.1,y) else kv) (vs.map fun kv=>if kv.1=k then (kv.1,u) else kv):=by
 unfold KV at r ⊢
 induction r with
 | nil=>exact .nil
 | @cons p q ps qs h t ih =>
  rw [aT,aT];refine .cons ?_ ih;obtain ⟨h1,h2⟩:=h;by_cases e:p.1=k
  .rw [if_pos e,if_pos (h1.symm.trans e)];exact ⟨h1,ry⟩
  .rw [if_neg e,if_neg (fun z=>e (h1.trans z))];exact ⟨h1,h2⟩
theorem KV.put {qb:List (κ × V)} {vs:List (κ × Value)} (r:KV qb vs) (k:κ) {y:V} {u:Value} (ry:aB y u):KV (fK qb k y) (stored vs k u):=by
 unfold fK stored;rw [r.any k];by_cases e:(vs.any fun kv=>decide (kv.1=k))=true
 .rw [if_pos e,if_pos e];exact r.repl k ry
 .rw [if_neg e,if_neg e];exact Paired.snoc r ⟨rfl,ry⟩
theorem KV.length {qb:List (κ × V)} {vs:List (κ × Value)} (r:KV qb vs):qb.length=vs.length:=Paired.length r
end
theorem nM {P:Program} {w:World} {k:Key} {u:Value} (r:aB (kV k) u):(cR P w).is k u=true:=by
 rcases k with i | _ | x
 .obtain ⟨t,e⟩:=(show ∃ t,u=Value.int i t from r);subst e;exact IU P w i t
 .cases (show u=Value.none from r);rfl
 .obtain ⟨t,e⟩:=(show ∃ t,u=Value.str x t from r);subst e;exact IV P w x t
theorem BP {P:Program} {w:World}:∀ {ks:List Key} {us:List Value},aH (ks.map kV) us->ItemsAre (cR P w) ks us
 | [],_,r=>by rw [List.map_nil] at r;cases r;exact .nil
 | k::ks,_,r=>by
  rw [aT] at r;cases r with
  | cons h t=>exact .cons (nM h) (BP t)
abbrev KT (H:Hp):Kq->List (List Key × Addr × Value)->Prop:=Paired fun p q=>p.1=q.1/\H q.2.1=some (.tup (p.1.map kV))/\aB p.2 q.2.2
theorem KT.val {H:Hp} {qb:Kq} (r:KT H qb xs) (k:List Key):dG (fJ qb k) ((atKey xs k).map (·.2)):=by
 induction r with
 | nil=>exact True.intro
 | @cons p q ps qs h t ih =>
  obtain ⟨h1,_,h2⟩:=h;by_cases e:p.1=k
  .have e':q.1=k:=h1.symm.trans e;have b:atKey (q::qs) k=some q.2:=by simp [atKey,e']
   rw [nK e,b];exact h2
  .have e':¬ q.1=k:=fun z=>e (h1.trans z);have b:atKey (q::qs) k=atKey qs k:=by simp [atKey,e']
   rw [nL e,b];exact ih
theorem KT.repl {H:Hp} {qb:Kq} (r:KT H qb xs) (k:List Key) {y:V} {u:Value} (ry:aB y u) :
  KT H (qb.map fun kv=>if kv.1=k then (kv.1,y) else kv) (xs.map (putAt k u)):=by
 induction r with
 | nil=>exact .nil
 | @cons p q ps qs h t ih =>
  rw [aT,aT];refine .cons ?_ ih;obtain ⟨h1,h2,h3⟩:=h;unfold putAt;by_cases e:p.1=k
  .rw [if_pos e,if_pos (h1.symm.trans e)];exact ⟨h1,h2,ry⟩
  .rw [if_neg e,if_neg (fun z=>e (h1.trans z))];exact ⟨h1,h2,h3⟩
theorem KT.put {H:Hp} {qb:Kq} (r:KT H qb xs) (k:List Key) {y:V} {u:Value} (hb:H b=some (.tup (k.map kV))) (ry:aB y u) :
  KT H (fK qb k y) (storedH xs k b u):=by
 have e:(qb.any fun kv=>decide (kv.1=k))=(atKey xs k).isSome:=by rw [vV,(r.val k).isSome_eq,Option.isSome_map]
 unfold fK storedH;rw [e];by_cases q:(atKey xs k).isSome=true
 .rw [if_pos q,if_pos q];exact r.repl k ry
 .rw [if_neg q,if_neg q];exact Paired.snoc r ⟨rfl,hb,ry⟩
theorem KT.keeps {H:Hp} {qb:Kq} (r:KT H qb xs) (ht:∀ b ys,H b=some (.tup ys)->H' b=some (.tup ys)):KT H' qb xs :=
 Paired.mapP r fun _ _ z=>⟨z.1,ht _ _ z.2.1,z.2.2⟩
section
variable {P:Program} {w:World} {H:Hp} {h:Heap} {a:Addr}
theorem BQ {u:HO} (ok:HOk P w H h) (e:Rd H a u):aS P w H h a u:=e.ok ok
theorem lZ {qb:List (Key × V)} (ok:HOk P w H h) (e:Rd H a (.dK qb)):qb.length<=sizeLine/\(a==sysModules)=false/\∃ vs,KV qb vs/\h.DictOf (cR P w) a vs :=
 show aS P w H h a (.dK qb) from BQ ok e
theorem rC {qb:List (Key × V)} (ok:HOk P w H h) (e:H a=some (.dK qb)):qb.length<=sizeLine/\(a==sysModules)=false/\∃ vs,KV qb vs/\h.DictOf (cR P w) a vs:=lZ ok (.inl e)
theorem mB {ks:List Key} (ok:HOk P w H h) (e:H a=some (.tup (ks.map kV))):(tupleKind (cR P w)).is h ks a:=by obtain ⟨_,qc,r,o,h1,h2,n,h3⟩:=(show aS P w H h a (.tup (ks.map kV)) from ok a _ e);exact ⟨o,qc.toArray,n,h1,h2,h3,by simpa using BP r⟩
theorem lA {qb:Kq} (ok:HOk P w H h) (e:Rd H a (.dT qb)):qb.length<=sizeLine/\(a==sysModules)=false /\
  ∃ xs,KT H qb xs/\h.DictOfH (tupleKind (cR P w)) a xs:=by
 obtain ⟨z,y,xs,r,o,es,ep,h1,h2,h3,h4,h5⟩:=(show aS P w H h a (.dT qb) from BQ ok e);refine ⟨z,y,xs,r,o,es,ep,h1,h2,h3,h4,fun x hx=>?_,h5⟩;have all:∀ {l:Kq} {m:List (List Key × Addr × Value)},KT H l m->∀ x∈m,(tupleKind (cR P w)).is h x.1 x.2.1:=by
  intro l m q
  induction q with
  | nil=>intro x hx;exact nomatch hx
  | @cons p q ps qs hq t ih =>
   intro x hx;rcases omc hx with e | hx
   .subst e;exact mB ok (by rw [<- hq.1];exact hq.2.1)
   .exact ih x hx
 exact all r x hx
theorem vX {qb:Kq} (ok:HOk P w H h) (e:H a=some (.dT qb)):qb.length<=sizeLine/\(a==sysModules)=false /\
  ∃ xs,KT H qb xs/\h.DictOfH (tupleKind (cR P w)) a xs:=lA ok (.inl e)
end
def dF (H:Hp) (a:Addr) (y:V) (r:Option V):Prop :=
 (∃ qb k,Rd H a (.dK qb)/\y=kV k/\r=fJ qb k)\/∃ qb k b,Rd H a (.dT qb)/\y=.ref b/\H b=some (.tup (k.map kV))/\r=fJ qb k
def fP (H:Hp) (a:Addr) (y v:V) (H':Hp):Prop :=
 (∃ qb k,H a=some (.dK qb)/\y=kV k/\qb.length<sizeLine/\H'=aJ H a (.dK (fK qb k v))) \/
 ∃ qb k b,H a=some (.dT qb)/\y=.ref b/\H b=some (.tup (k.map kV))/\qb.length<sizeLine/\H'=aJ H a (.dT (fK qb k v))
theorem dF.t {H:Hp} {a:Addr} {qb:Kq} {k:List Key} (e:H a=some (.dT qb)) (eb:H b=some (.tup (k.map kV))):dF H a (.ref b) (fJ qb k):=.inr ⟨qb,k,b,.inl e,rfl,eb,rfl⟩
theorem fP.k {H:Hp} {a:Addr} {qb:List (Key × V)} {k:Key} {v:V} (e:H a=some (.dK qb)) (hl:qb.length<sizeLine):fP H a (kV k) v (aJ H a (.dK (fK qb k v))):=.inl ⟨qb,k,e,rfl,hl,rfl⟩
theorem fP.t {H:Hp} {a:Addr} {qb:Kq} {k:List Key} {v:V} (e:H a=some (.dT qb)) (eb:H b=some (.tup (k.map kV))) (hl:qb.length<sizeLine) :
  fP H a (.ref b) v (aJ H a (.dT (fK qb k v))):=.inr ⟨qb,k,b,e,rfl,eb,hl,rfl⟩
section
variable {X:Cx} {pj:Pq} {O:St} {H:Hp} {s:Shared} {a:Addr} {y v:V} {u r:Value} {o:Option V} {A:Around} {E:Vq}
theorem Inv.big (I:Inv X pj O H s):sysModules<s.heap.objs.size:=by have h:mainGlobals<s.heap.objs.size:=(I.mod.glob.keeps I.bk).lt;exact Nat.lt_trans (by decide) h
theorem NU (hu:A.units+1<cLine) (I:Inv X pj O H s) (g:dF H a y (some v)) (ry:aB y u) (h:∀ w' s',Inv X pj O H s'->aB v w'->Q w' s') :
  wpAny (model X.prog X.w) A (getItem (.ref a) u) Q E s:=by
 rcases g with ⟨qb,k,e,ey,l⟩ | ⟨qb,k,b,e,ey,eb,l⟩
 .subst ey;obtain ⟨z,hd,vs,rel,dd⟩:=lZ I.hok e;obtain ⟨w',hw,rw'⟩:=dG.some_of (v:=v) (o:=valueAt vs k) (by rw [l];exact rel.val k);exact wpAny_getItem_of (nM ry) dd.mapOf hw (h w' _ (I.tok _) rw')
 .subst ey;cases (show u=Value.ref b from ry);obtain ⟨z,hd,xs,rel,dd⟩:=lA I.hok e;obtain ⟨w',hw,rw'⟩:=dG.some_of (v:=v) (o:=(atKey xs k).map (·.2)) (by rw [l];exact rel.val k);obtain ⟨p,hp,hp2⟩:=oms hw;refine wpAny_getItem_heap (tupleKind_room_in1 hu) (mB I.hok eb) dd hp ?_;rw [hp2];exact h w' _ (I.tok _) rw'
theorem d_in (hu:A.units+1<cLine) (I:Inv X pj O H s) (g:dF H a y o) (ry:aB y u) (h:∀ s',Inv X pj O H s'->Q (.bool o.isSome) s') :
  wpAny (model X.prog X.w) A (compareOp .In u (.ref a)) Q E s:=by
 rcases g with ⟨qb,k,e,ey,l⟩ | ⟨qb,k,b,e,ey,eb,l⟩
 .subst ey;obtain ⟨z,hd,vs,rel,dd⟩:=lZ I.hok e;refine wpAny_in_of (nM ry) hd dd.mapOf ?_;rw [<- (rel.val k).isSome_eq,<- l];exact h _ (I.tok _)
 .subst ey;cases (show u=Value.ref b from ry);obtain ⟨z,hd,xs,rel,dd⟩:=lA I.hok e;refine wpAny_in_heap (tupleKind_room_in1 hu) (mB I.hok eb) hd dd ?_;have q:=(rel.val k).isSome_eq;rw [Option.isSome_map] at q;rw [<- q,<- l];exact h _ (I.tok _)
theorem NV (hu:A.units+1<cLine) (I:Inv X pj O H s) (g:dF H a y o) (ry:aB y u) (h:∀ s',Inv X pj O H s'->Q (.bool (!o.isSome)) s') :
  wpAny (model X.prog X.w) A (compareOp .NotIn u (.ref a)) Q E s:=by
 rcases g with ⟨qb,k,e,ey,l⟩ | ⟨qb,k,b,e,ey,eb,l⟩
 .subst ey;obtain ⟨z,hd,vs,rel,dd⟩:=lZ I.hok e;refine wpAny_notIn_of (nM ry) hd dd.mapOf ?_;rw [<- (rel.val k).isSome_eq,<- l];exact h _ (I.tok _)
 .subst ey;cases (show u=Value.ref b from ry);obtain ⟨z,hd,xs,rel,dd⟩:=lA I.hok e;refine wpAny_notIn_heap (tupleKind_room_in1 hu) (mB I.hok eb) hd dd ?_;have q:=(rel.val k).isSome_eq;rw [Option.isSome_map] at q;rw [<- q,<- l];exact h _ (I.tok _)
theorem vY {h':Heap} {t':Nat} {ob:HO} (I:Inv X pj O H s) (mu:Mut (H a)) (hs:Heap.SameBut a s.heap h') (he:∃ q,h'.get? a=some q) (new:aS X.prog X.w (aJ H a ob) h' a ob) :
  Inv X pj O (aJ H a ob) { s with heap:=h',toks:=t' } :=
 I.write (x:=a) (e:=a) mu (.inl rfl) (fun b q hb z=>(hs.2 b hb).trans z) he new
theorem NW {P:Program} {w:World} {h':Heap} {qb:List (Key × V)} {vs:List (Key × Value)} (z:qb.length<=sizeLine) (hd:(a==sysModules)=false) (rel:KV qb vs) (dd:h'.DictOf (cR P w) a vs) :
  aS P w H' h' a (.dK qb):=⟨z,hd,vs,rel,dd⟩
theorem NX {Q:Unit->Shared->Prop} (hu:A.units+1<cLine) (I:Inv X pj O H s) (g:fP H a y v H') (ry:aB y u) (rv:aB v r) (h:∀ s',Inv X pj O H' s'->Q () s') :
  wpAny (model X.prog X.w) A (setItem (.ref a) u r) Q E s:=by
 rcases g with ⟨qb,k,e,ey,l,eH⟩ | ⟨qb,k,b,e,ey,eb,l,eH⟩
 .subst ey eH;obtain ⟨z,hd,vs,rel,dd⟩:=rC I.hok e;have hz:vs.length<=sizeLine:=by rw [<- rel.length];exact z
  have hl:(fK qb k v).length<=sizeLine:=by have:=vW qb k v;lia
  refine wpAny_setItem_pairs (hsz:=hz) (nM ry) dd fun h' dd' hs=>h _ ?_;have he:∃ q,h'.get? a=some q:=let ⟨q,_,_,hq,_⟩:=dd';⟨q,hq⟩
  exact vY I (by rw [e];exact True.intro) hs he (NW hl hd (rel.put k rv) dd')
 .subst ey eH;cases (show u=Value.ref b from ry);obtain ⟨z,hd,xs,rel,dd⟩:=vX I.hok e;have hz:xs.length<=sizeLine:=by rw [<- Paired.length rel];exact z
  have hl:(fK qb k v).length<=sizeLine:=by have:=vW qb k v;lia
  refine wpAny_setItem_heap (hsz:=hz) (tupleKind_room_in1 hu) (mB I.hok eb) dd fun h' dd' hs=>h _ ?_;obtain ⟨q,es,ep,hq,h2,h3,h4,_,h5⟩:=dd';refine vY I (by rw [e];exact True.intro) hs ⟨q,hq⟩ ⟨hl,hd,_,(rel.put k eb rv).keeps fun c ys ec=>?_,q,es,ep,hq,h2,h3,h4,h5⟩;rw [aN (iI ec e (fun z=>nomatch z))];exact ec
end
section
variable {X:Cx} {pj:Pq} {O:St} {H:Hp} {s:Shared} {a:Addr} {qb:List (Key × V)} {k:Key} {u:Value} {A:Around} {E:Vq}
end
theorem NY {X:Cx} {pj:Pq} {O:St} {H:Hp} {s:Shared} {a:Addr} {y:V} {o:Option V} (I:Inv X pj O H s) (g:dF H a y o):s.TypeIs (.ref a) "dict":=by
 rcases g with ⟨qb,k,e,_,_⟩ | ⟨qb,k,b,e,_,_,_⟩
 .obtain ⟨_,_,vs,_,dd⟩:=lZ I.hok e;exact dd.typeIs
 .obtain ⟨_,_,xs,_,dd⟩:=lA I.hok e;exact dd.typeIs
def NZ (td ty tv:TE):TS:=fun D O H=>tv O H fun v H1=>td O H1 fun x H2=>ty O H2 fun y H3=>∃ a H4,x=.ref a/\fP H3 a y v H4/\D.nx O H4
section
variable {X:Cx} {o i e value:Expr} {pos pos' tpos:Pos} {td ty tv:TE}
theorem OA (hu:X.A.units+1<cLine) (ho:PE X o td) (hi:PE X i ty) (hv:PE X value tv) (hs:swapsWith value (some (.Subscript o i pos')) pos.line X.env=pure false) :
  PS X (.Assign [.Subscript o i pos'] value pos) (NZ td ty tv):=by
 intro pj s O H D I h;refine wpAny_Assign_Subscript (thn (hv pj s O H _ I h) fun r s1 ⟨v,H1,I1,rv,q1⟩=>thn (ho pj s1 O H1 _ I1 q1) fun u s2 ⟨x,H2,I2,rx,q2⟩=>thn (hi pj s2 O H2 _ I2 q2) fun iv s3 ⟨y,H3,I3,ry,a,H4,ex,g,q3⟩=>?_) hs;subst ex;obtain rfl:u=Value.ref a:=rx;exact NX hu I3 g ry rv fun s4 I4=>⟨O,H4,I4,q3⟩
end
theorem OB {P:Program} {w:World} {H:Hp} (h:Heap) (hb:sysModules<h.objs.size):aS P w H (h.push { cls:=.type "dict",data:=.dict #[] }) h.objs.size (.dK []) :=
 ⟨iH _,zE.mpr (Ne.symm (bP hb)),[],.nil,Heap.DictOf.new h⟩
def OC:TE:=fun _ H Q=>∀ p,H p=none->Q (.ref p) (aJ H p (.dK []))
section
variable {X:Cx} {pos:Pos}
theorem OD:PE X (.Dict [] [] pos) OC:=fun pj s O H Q I h =>wpAny_Dict_empty ⟨.ref s.heap.objs.size,_,I.laid (a:=s.heap.objs.size) (o:=.dK []) (t':=s.toks) (fun _ _ q=>aR _ q) (aW _) (OB s.heap I.big),rfl,h _ (I.hok.fresh (aW _))⟩
end
structure M1 (X:Cx) (o:Expr) (m:Str) (apos:Pos) (e:Expr) (cpos:Pos):Prop where
 base:attributeBase o m X.env (eval o X.env)=eval o X.env
 few:((backTo cpos (starEach [e] X.env)).all (fun x=>!x.1)&&(backToKw cpos (keywordEach [] X.env)).all (fun x=>x.1.isSome)
  && decide (([e]:List Expr).length+([]:List Keyword).length+(if ([]:List Keyword).isEmpty then 0 else 1)<30))=true
 line:(apos.endLine==cpos.line)=true
 trees:backTo cpos (starEach [e] X.env)=[(false,eval e X.env)]
structure M2 (X:Cx) (o:Expr) (m:Str) (apos:Pos) (e f:Expr) (cpos:Pos):Prop where
 base:attributeBase o m X.env (eval o X.env)=eval o X.env
 few:((backTo cpos (starEach [e,f] X.env)).all (fun x=>!x.1)&&(backToKw cpos (keywordEach [] X.env)).all (fun x=>x.1.isSome)
  && decide (([e,f]:List Expr).length+([]:List Keyword).length+(if ([]:List Keyword).isEmpty then 0 else 1)<30))=true
 line:(apos.endLine==cpos.line)=true
 trees:backTo cpos (starEach [e,f] X.env)=[(false,eval e X.env),(false,eval f X.env)]
def IsD (H:Hp) (a:Addr):Prop:=(∃ qb,Rd H a (.dK qb))\/∃ qb,Rd H a (.dT qb)
theorem OE {X:Cx} {pj:Pq} {O:St} {H:Hp} {s:Shared} {a:Addr} (I:Inv X pj O H s) (d:IsD H a) :
  s.TypeIs (.ref a) "dict"/\(∀ b,Value.ref a=.ref b->∃ ob,s.heap.get? b=some ob/\ob.dict=none)/\(a==sysModules)=false:=by
 rcases d with ⟨qb,e⟩ | ⟨qb,e⟩
 .obtain ⟨_,hd,vs,_,dd⟩:=lZ I.hok e;refine ⟨dd.typeIs,fun b q=>?_,hd⟩;cases q;obtain ⟨ob,_,_,h1,h2,_⟩:=dd;exact ⟨ob,h1,h2.2.1⟩
 .obtain ⟨_,hd,xs,_,dd⟩:=lA I.hok e;refine ⟨dd.typeIs,fun b q=>?_,hd⟩;cases q;obtain ⟨ob,_,_,h1,h2,_⟩:=dd;exact ⟨ob,h1,h2.2.1⟩
section
variable {X:Cx} {pj:Pq} {O:St} {H:Hp} {s:Shared} {a:Addr} {y d:V} {u r:Value} {o:Option V} {A:Around} {E:Vq}
theorem OG (hu:A.units+1<cLine) (I:Inv X pj O H s) (g:dF H a y o) (ry:aB y u) (h:∀ w' s',Inv X pj O H s'->aB (o.getD .non) w'->Q w' s') :
  wpAny (model X.prog X.w) A (call (.builtin "dict.get") [.ref a,u]) Q E s:=by
 rcases g with ⟨qb,k,e,ey,l⟩ | ⟨qb,k,b,e,ey,eb,l⟩
 .subst ey;obtain ⟨z,hd,vs,rel,dd⟩:=lZ I.hok e;refine call_meetsIn PySem.F.slot_dict_get dd.typeIs PySem.F.entry_dict_get (PySem.F.args_dict_get_2 _ _) (meets_dict_get (cR X.prog X.w) a (nM ry) hd) ⟨_,dd.mapOf,h _ _ (I.tok _) ?_⟩;rw [l];exact (rel.val k).getD rfl
 .subst ey;cases (show u=Value.ref b from ry);obtain ⟨z,hd,xs,rel,dd⟩:=lA I.hok e;refine call_meetsIn PySem.F.slot_dict_get dd.typeIs PySem.F.entry_dict_get (PySem.F.args_dict_get_2 _ _) (meetsH_dict_get (tupleKind (cR X.prog X.w)) a b hd) ⟨tupleKind_room_in1 hu,k,xs,mB I.hok eb,dd,h _ _ (I.tok _) ?_⟩;rw [l];exact (rel.val k).getD rfl
end
section
variable {X:Cx} {o e f:Expr} {apos cpos:Pos} {td ty tx:TE}
end
section
variable {X:Cx} {pj:Pq} {O:St} {H:Hp} {s:Shared} {a:Addr} {qb:List (Key × V)} {A:Around} {E:Vq}
end
section
variable {X:Cx} {pj:Pq} {O:St} {H:Hp} {s:Shared} {a:Addr} {y:V} {u:Value} {A:Around} {E:Vq}
end
end
section
section
variable {κ:Type} [DecidableEq κ]
end
end
end L2
end
end
namespace Ev
open PySem Spec PyProof.Rows L2
section
variable {t1 t2:T} {n:Nat} {a:Addr} {vs:List V} {ts us:List T} {v u:Value} {x y:V} {A:Around} {qc jts:List Value}
mutual
theorem rD:∀ t:T,dpP t t<20000->eqT t t=true
 | .non,_=>by rw [eqT]
 | .bl b,_=>by rw [eqT];simp
 | .int i,_=>by rw [eqT];simp
 | .str x,_=>by rw [eqT];simp
 | .tup a,h=>by rw [eqT];rw [dpP] at h;exact vZ a (by lia)
 | .lst a,h=>by rw [eqT];rw [dpP] at h;exact vZ a (by lia)
 | .dk _ _,h=>by rw [dpP] at h;lia
 | .dt _ _,h=>by rw [dpP] at h;lia
theorem vZ:∀ ts:List T,cI ts ts<20000->dX ts ts=true
 | [],_=>by rw [dX]
 | t::ts,h=>by rw [cI] at h;rw [dX,rD t (by lia),vZ ts (by lia)];rfl
end
theorem BR:∀ {xs ys:List T} {j:Nat} {x y:T},xs[j]?=some x->ys[j]?=some y->dpP x y<=cI xs ys
 | [],_,_,_,_,h,_=>by simp at h
 | _::_,[],_,_,_,_,h=>by simp at h
 | a::xs,b::ys,0,x,y,h1,h2=>by simp at h1 h2;subst h1 h2;rw [cI];exact Nat.le_max_left _ _
 | a::xs,b::ys,j+1,x,y,h1,h2=>by rw [cI];exact Nat.le_trans (BR (j:=j) (by simpa using h1) (by simpa using h2)) (Nat.le_max_right _ _)
theorem pK:∀ xs ys:List T,dX xs ys=((List.range (min xs.length ys.length)).all (fun j=>eqT (xs.getD j .non) (ys.getD j .non))&&xs.length==ys.length)
 | [],[]=>by rw [dX];rfl
 | [],b::ys=>by simp [dX]
 | a::xs,[]=>by simp [dX]
 | a::xs,b::ys=>by
  rw [dX,pK xs ys,eV,eV,show min (xs.length+1) (ys.length+1)=min xs.length ys.length+1 by lia,List.range_succ_eq_map,List.all_cons,List.all_map];have e:(xs.length+1==ys.length+1)=(xs.length==ys.length):=by
   by_cases h:xs.length=ys.length
   .simp [h]
   .simp []
  rw [e,Bool.and_assoc];rfl
def isD:T->Bool
 | .dk _ _=>true
 | .dt _ _=>true
 | _=>false
theorem rE (hd:dpP t1 t2<=n) (hn:n<20000):isD t1=false/\isD t2=false:=by cases t1<;>cases t2<;>first | exact ⟨rfl,rfl⟩ | (exfalso;simp [dpP] at hd;lia)
noncomputable def fL:T->T->Bool
 | .tup _,.tup _=>true
 | .lst _,.lst _=>true
 | .dk _ _,_=>true
 | .dt _ _,_=>true
 | _,.dk _ _=>true
 | _,.dt _ _=>true
 | _,_=>false
section
variable {X:Cx} {pj:Pq} {O:L2.St} {H F:Hp} {s:Shared}
theorem rF (I:Inv X pj O H s) (h:(∃ ws,H a=some (.dK ws))\/∃ ws,H a=some (.dT ws)):∃ o,s.heap.get? a=some o/\o.cls=.type "dict":=by
 rcases h with ⟨ws,h⟩ | ⟨ws,h⟩
 .obtain ⟨_,_,vs,_,o,es,ep,h1,h2,_⟩:=rC I.hok h;exact ⟨o,h1,h2.1⟩
 .obtain ⟨_,_,xs,_,o,es,ep,h1,h2,_⟩:=vX I.hok h;exact ⟨o,h1,h2.1⟩
theorem rG (I:Inv X pj O H s) (h:(∃ ws,H a=some (.dK ws))\/∃ ws,H a=some (.dT ws)) (p:SqT X.K H a vs):False:=by obtain ⟨o,h1,h2⟩:=rF I h;obtain ⟨qc,_,⟨o',e,c,_⟩,_⟩:=I.tuple p;rw [h1] at e;cases e;rw [h2] at c;exact absurd c (by decide +kernel)
theorem rH (I:Inv X pj O H s) (h:(∃ ws,H a=some (.dK ws))\/∃ ws,H a=some (.dT ws)) (p:Ls X.K H a vs):False:=by obtain ⟨o,h1,h2⟩:=rF I h;obtain ⟨qc,_,p',_⟩:=I.list p.sq;obtain ⟨o',e,c,_⟩:=p'.isList;rw [h1] at e;cases e;rw [h2] at c;exact absurd c (by decide +kernel)
theorem iO (I:Inv X pj O H s) (fh:Same F H) {v:V} (r:Rep X.K F (.tup ts) v) (ru:aB v u):∃ a vs qc,v=.ref a/\u=.ref a/\Tq X.K F a vs/\aD X.K F ts vs/\aH vs qc/\s.heap.IsTuple a qc.toArray:=by obtain ⟨a,vs,rfl,h1,h2⟩:=r;cases ru;obtain ⟨qc,rv,p,_⟩:=I.tuple (dC fh h1);exact ⟨a,vs,qc,rfl,rfl,h1,h2,rv,p⟩
theorem nN (I:Inv X pj O H s) (fh:Same F H) {v:V} (r:Rep X.K F (.lst ts) v) (ru:aB v u):∃ a vs qc,v=.ref a/\u=.ref a/\Ls X.K F a vs/\aD X.K F ts vs/\aH vs qc/\s.heap.IsList a qc.toArray:=by obtain ⟨a,vs,rfl,h1,h2⟩:=r;cases ru;obtain ⟨qc,rv,p,_⟩:=I.list (Ls.same fh h1).sq;exact ⟨a,vs,qc,rfl,rfl,h1,h2,rv,p.isList⟩
theorem BS {xs ys:Array Value} (h1:s.heap.IsTuple a xs) (h2:s.heap.IsList a ys):False:=by obtain ⟨o,e,c,_⟩:=h1;obtain ⟨o',e',c',_⟩:=h2;rw [e] at e';cases e';rw [c] at c';exact absurd c' (by decide +kernel)
theorem OH (h1:aB x u) (h2:aB y u):x=y:=by
 cases x with
 | non=>cases h1;cases y<;>first | rfl | (obtain ⟨_,e⟩:=h2;cases e;done) | (cases h2;done)
 | bl _=>cases h1;cases y<;>first | (obtain ⟨_,e⟩:=h2;cases e;done) | (cases h2;done) | (cases h2;rfl)
 | ref _=>cases h1;cases y<;>first | (obtain ⟨_,e⟩:=h2;cases e;done) | (cases h2;done) | (cases h2;rfl)
 | ty _=>cases h1;cases y<;>first | (obtain ⟨_,e⟩:=h2;cases e;done) | (cases h2;done) | (cases h2;rfl)
 | _=>obtain ⟨_,rfl⟩:=h1;cases y<;>first | (obtain ⟨_,e⟩:=h2;cases e;done) | (cases h2;done) | (obtain ⟨_,e⟩:=h2;cases e;rfl)
mutual
theorem rJ (I:Inv X pj O H s) (fh:Same F H):∀ {t1 t2:T} {v:V},Rep X.K F t1 v->Rep X.K F t2 v->t1=t2
 | .non,t2,v,r1,r2=>by cases r1;cases t2<;>first | rfl | (obtain ⟨_,_,e,_⟩:=r2;cases e) | cases r2
 | .bl b,t2,v,r1,r2=>by cases r1;cases t2<;>first | (cases r2;rfl) | (obtain ⟨_,_,e,_⟩:=r2;cases e) | cases r2
 | .int b,t2,v,r1,r2=>by cases r1;cases t2<;>first | (cases r2;rfl) | (obtain ⟨_,_,e,_⟩:=r2;cases e) | cases r2
 | .str b,t2,v,r1,r2=>by cases r1;cases t2<;>first | (cases r2;rfl) | (obtain ⟨_,_,e,_⟩:=r2;cases e) | cases r2
 | .tup ts,t2,v,r1,r2=>by
  obtain ⟨a,vs,rfl,h1,h2⟩:=r1;cases t2 with
  | tup us =>obtain ⟨b,ws,e,h3,h4⟩:=r2;cases e;have:=I.tuple_inj (dC fh h1) (dC fh h3);subst this;rw [pL I fh h2 h4]
  | lst us =>obtain ⟨b,ws,e,h3,h4⟩:=r2;cases e;obtain ⟨qc,_,p,_⟩:=I.tuple (dC fh h1);obtain ⟨jts,_,p',_⟩:=I.list (Ls.same fh h3).sq;exact absurd (BS (s:=s) p p'.isList) id
  | dk _ _ =>obtain ⟨b,ws,e,h3,h4⟩:=r2;cases e;exact (rG I (.inl ⟨_,fh _ _ h3⟩) (dC fh h1)).elim
  | dt _ _ =>obtain ⟨b,ws,e,h3,h4⟩:=r2;cases e;exact (rG I (.inr ⟨_,fh _ _ h3⟩) (dC fh h1)).elim
  | _=>cases r2
 | .lst ts,t2,v,r1,r2=>by
  obtain ⟨a,vs,rfl,h1,h2⟩:=r1;cases t2 with
  | lst us =>obtain ⟨b,ws,e,h3,h4⟩:=r2;cases e;have:=I.list_inj (Ls.same fh h1).sq (Ls.same fh h3).sq;subst this;rw [pL I fh h2 h4]
  | tup us =>obtain ⟨b,ws,e,h3,h4⟩:=r2;cases e;obtain ⟨qc,_,p,_⟩:=I.tuple (dC fh h3);obtain ⟨jts,_,p',_⟩:=I.list (Ls.same fh h1).sq;exact absurd (BS (s:=s) p p'.isList) id
  | dk _ _ =>obtain ⟨b,ws,e,h3,h4⟩:=r2;cases e;exact (rH I (.inl ⟨_,fh _ _ h3⟩) (Ls.same fh h1)).elim
  | dt _ _ =>obtain ⟨b,ws,e,h3,h4⟩:=r2;cases e;exact (rH I (.inr ⟨_,fh _ _ h3⟩) (Ls.same fh h1)).elim
  | _=>cases r2
 | .dk ks ts,t2,v,r1,r2=>by
  obtain ⟨a,ws,rfl,h1,h2,h2'⟩:=r1;cases t2 with
  | dk _ _ =>obtain ⟨b,zs,e,h3,h4,h4'⟩:=r2;cases e;rw [h1] at h3;cases h3;subst h2 h4;rw [pL I fh h2' h4']
  | dt _ _ =>obtain ⟨b,zs,e,h3,_⟩:=r2;cases e;rw [h1] at h3;cases h3
  | tup _ =>obtain ⟨b,zs,e,h3,_⟩:=r2;cases e;exact (rG I (.inl ⟨_,fh _ _ h1⟩) (dC fh h3)).elim
  | lst _ =>obtain ⟨b,zs,e,h3,_⟩:=r2;cases e;exact (rH I (.inl ⟨_,fh _ _ h1⟩) (Ls.same fh h3)).elim
  | _=>cases r2
 | .dt ks ts,t2,v,r1,r2=>by
  obtain ⟨a,ws,rfl,h1,h2,h2'⟩:=r1;cases t2 with
  | dt _ _ =>obtain ⟨b,zs,e,h3,h4,h4'⟩:=r2;cases e;rw [h1] at h3;cases h3;subst h2 h4;rw [pL I fh h2' h4']
  | dk _ _ =>obtain ⟨b,zs,e,h3,_⟩:=r2;cases e;rw [h1] at h3;cases h3
  | tup _ =>obtain ⟨b,zs,e,h3,_⟩:=r2;cases e;exact (rG I (.inr ⟨_,fh _ _ h1⟩) (dC fh h3)).elim
  | lst _ =>obtain ⟨b,zs,e,h3,_⟩:=r2;cases e;exact (rH I (.inr ⟨_,fh _ _ h1⟩) (Ls.same fh h3)).elim
  | _=>cases r2
theorem pL (I:Inv X pj O H s) (fh:Same F H):∀ {ts us:List T} {vs:List V},aD X.K F ts vs->aD X.K F us vs->ts=us
 | [],us,vs,r1,r2=>by
  cases r1;cases us with
  | nil=>rfl
  | cons _ _=>obtain ⟨_,_,e,_⟩:=r2;cases e
 | t::ts,us,vs,r1,r2=>by
  obtain ⟨v,r,rfl,h1,h2⟩:=r1;cases us with
  | nil=>cases r2
  | cons u us =>obtain ⟨_,_,e,h3,h4⟩:=r2;cases e;rw [rJ I fh h1 h3,pL I fh h2 h4]
end
theorem rK (ih:∀ (t1 t2:T) (x y:V) (v u:Value),dpP t1 t2<=n->Rep X.K F t1 x->Rep X.K F t2 y->aB x v->aB y u->SeqAt.EqAt A s v u (eqT t1 t2)) {ws:List V} (hd:cI ts us<=n)
  (r1:aD X.K F ts vs) (r2:aD X.K F us ws) (v1:aH vs qc) (v2:aH ws jts):∀ j (h1:j<qc.toArray.size) (h2:j<jts.toArray.size),SeqAt.EqAt A s qc.toArray[j] jts.toArray[j] (eqT (ts.getD j .non) (us.getD j .non)):=by
 intro j h1 h2;have l1:qc.length=ts.length:=by rw [<- v1.length,r1.length]
 have l2:jts.length=us.length:=by rw [<- v2.length,r2.length]
 have h1':j<ts.length:=by rw [cO] at h1;lia
 have h2':j<us.length:=by rw [cO] at h2;lia
 have e1:ts[j]?=some ts[j]:=bV h1';have e2:us[j]?=some us[j]:=bV h2';obtain ⟨x,hx,rx⟩:=r1.get e1;obtain ⟨y,hy,ry⟩:=r2.get e2;obtain ⟨v,hv,rv⟩:=v1.get hx;obtain ⟨u,hu,ru⟩:=v2.get hy;have g1:qc.toArray[j]=v:=by
  have:qc[j]?=some qc.toArray[j]:=by simp
  rw [hv] at this;exact (cP this).symm
 have g2:jts.toArray[j]=u:=by
  have:jts[j]?=some jts.toArray[j]:=by simp
  rw [hu] at this;exact (cP this).symm
 rw [g1,g2,fR,fR,e1,e2];exact ih _ _ x y v u (dS (BR e1 e2) hd) rx ry rv ru
theorem rL {ws:List V} (r1:aD X.K F ts vs) (r2:aD X.K F us ws) (v1:aH vs qc) (v2:aH ws jts):qc.toArray.size=ts.length/\jts.toArray.size=us.length:=by rw [cO,cO,<- v1.length,<- v2.length,r1.length,r2.length];exact ⟨rfl,rfl⟩
theorem BT (h:ts.length=us.length):dX ts us=(List.range ts.length).all fun j=>eqT (ts.getD j .non) (us.getD j .non):=by rw [pK,h];simp
theorem BU (h:ts.length≠us.length):dX ts us=false:=by rw [pK,show (ts.length==us.length)=false by simpa using h,Bool.and_false]
theorem kind {P:T->Value->Prop} (I:Inv X pj O H s) (fh:Same F H) {t:T} (r:Rep X.K F t x) (rx:aB x v) (h0:P .non .none) (h1:∀ b,P (.bl b) (.bool b)) (h2:∀ i k,P (.int i) (.int i k)) (h3:∀ i k,P (.str i) (.str i k))
  (h4:∀ ts a qc,s.heap.IsTuple a qc->P (.tup ts) (.ref a)) (h5:∀ ts a qc,s.heap.IsList a qc->P (.lst ts) (.ref a)) (h6:isD t=true->P t v):P t v:=by
 cases t with
 | non=>cases r;cases rx;exact h0
 | bl b=>cases r;cases rx;exact h1 b
 | int i=>cases r;obtain ⟨k,rfl⟩:=rx;exact h2 i k
 | str i=>cases r;obtain ⟨k,rfl⟩:=rx;exact h3 i k
 | tup ts=>obtain ⟨a,_,qc,_,rfl,_,_,_,p⟩:=iO I fh r rx;exact h4 ts a _ p
 | lst ts=>obtain ⟨a,_,qc,_,rfl,_,_,_,p⟩:=nN I fh r rx;exact h5 ts a _ p
 | dk _ _=>exact h6 rfl
 | dt _ _=>exact h6 rfl
theorem OI (h:isD t2=true):fL t1 t2=true:=by cases t2<;>first | (cases h;done) | (cases t1<;>rfl)
theorem OJ (h:isD t1=true):fL t1 t2=true:=by cases t1<;>first | (cases h;done) | rfl
theorem mix {Q:Value->Value->Bool->Prop} {g:Bool->Bool}
  (mnn:Q .none .none (g true))
  (mnb:∀ (b:Bool),Q .none (.bool b) (g false))
  (mni:∀ (b:Int) (b':Tok),Q .none (.int b b') (g false))
  (mns:∀ (b:Str) (b':Tok),Q .none (.str b b') (g false))
  (mnt:∀ {b:Addr} {b':Array Value},s.heap.IsTuple b b'->A.units<cLine->Q .none (.ref b) (g false))
  (mnl:∀ {b:Addr} {b':Array Value},s.heap.IsList b b'->A.units<cLine->Q .none (.ref b) (g false))
  (mbn:∀ (a:Bool),Q (.bool a) .none (g false))
  (mbb:∀ (a:Bool) (b:Bool),Q (.bool a) (.bool b) (g (a==b)))
  (mbi:∀ (a:Bool) (b:Int) (b':Tok),Q (.bool a) (.int b b') (g ((if a then 1 else 0)==b)))
  (mbs:∀ (a:Bool) (b:Str) (b':Tok),Q (.bool a) (.str b b') (g false))
  (mbt:∀ {b:Addr} {b':Array Value} (a:Bool),s.heap.IsTuple b b'->A.units<cLine->Q (.bool a) (.ref b) (g false))
  (mbl:∀ {b:Addr} {b':Array Value} (a:Bool),s.heap.IsList b b'->A.units<cLine->Q (.bool a) (.ref b) (g false))
  (min:∀ (a:Int) (a':Tok),Q (.int a a') .none (g false))
  (mib:∀ (a:Int) (a':Tok) (b:Bool),Q (.int a a') (.bool b) (g (a==(if b then 1 else 0))))
  (mii:∀ (a:Int) (a':Tok) (b:Int) (b':Tok),Q (.int a a') (.int b b') (g (a==b)))
  (mis:∀ (a:Int) (a':Tok) (b:Str) (b':Tok),Q (.int a a') (.str b b') (g false))
  (mit:∀ {b:Addr} {b':Array Value} (a:Int) (a':Tok),s.heap.IsTuple b b'->A.units<cLine->Q (.int a a') (.ref b) (g false))
  (mil:∀ {b:Addr} {b':Array Value} (a:Int) (a':Tok),s.heap.IsList b b'->A.units<cLine->Q (.int a a') (.ref b) (g false))
  (msn:∀ (a:Str) (a':Tok),Q (.str a a') .none (g false))
  (msb:∀ (a:Str) (a':Tok) (b:Bool),Q (.str a a') (.bool b) (g false))
  (msi:∀ (a:Str) (a':Tok) (b:Int) (b':Tok),Q (.str a a') (.int b b') (g false))
  (mss:∀ (a:Str) (a':Tok) (b:Str) (b':Tok),Q (.str a a') (.str b b') (g (a==b)))
  (mst:∀ {b:Addr} {b':Array Value} (a:Str) (a':Tok),s.heap.IsTuple b b'->A.units<cLine->Q (.str a a') (.ref b) (g false))
  (msl:∀ {b:Addr} {b':Array Value} (a:Str) (a':Tok),s.heap.IsList b b'->A.units<cLine->Q (.str a a') (.ref b) (g false))
  (mtn:∀ {a:Addr} {a':Array Value},s.heap.IsTuple a a'->A.units<cLine->Q (.ref a) .none (g false))
  (mtb:∀ {a:Addr} {a':Array Value} (b:Bool),s.heap.IsTuple a a'->A.units<cLine->Q (.ref a) (.bool b) (g false))
  (mti:∀ {a:Addr} {a':Array Value} (b:Int) (b':Tok),s.heap.IsTuple a a'->A.units<cLine->Q (.ref a) (.int b b') (g false))
  (mts:∀ {a:Addr} {a':Array Value} (b:Str) (b':Tok),s.heap.IsTuple a a'->A.units<cLine->Q (.ref a) (.str b b') (g false))
  (mtl:∀ {a:Addr} {a':Array Value} {b:Addr} {b':Array Value},s.heap.IsTuple a a'->s.heap.IsList b b'->A.units<cLine->Q (.ref a) (.ref b) (g false))
  (mln:∀ {a:Addr} {a':Array Value},s.heap.IsList a a'->A.units<cLine->Q (.ref a) .none (g false))
  (mlb:∀ {a:Addr} {a':Array Value} (b:Bool),s.heap.IsList a a'->A.units<cLine->Q (.ref a) (.bool b) (g false))
  (mli:∀ {a:Addr} {a':Array Value} (b:Int) (b':Tok),s.heap.IsList a a'->A.units<cLine->Q (.ref a) (.int b b') (g false))
  (mls:∀ {a:Addr} {a':Array Value} (b:Str) (b':Tok),s.heap.IsList a a'->A.units<cLine->Q (.ref a) (.str b b') (g false))
  (mlt:∀ {a:Addr} {a':Array Value} {b:Addr} {b':Array Value},s.heap.IsList a a'->s.heap.IsTuple b b'->A.units<cLine->Q (.ref a) (.ref b) (g false))
  (I:Inv X pj O H s) (fh:Same F H) {t1 t2:T} {x y:V} {v u:Value} (hu:A.units<cLine) (hne:fL t1 t2≠true) (r1:Rep X.K F t1 x) (r2:Rep X.K F t2 y) (rx:aB x v) (ry:aB y u):Q v u (g (eqT t1 t2)):=by
 revert hne;have two:∀ {t v},(fL t .non≠true->Q v .none (g (eqT t .non)))->(∀ b,fL t (.bl b)≠true->Q v (.bool b) (g (eqT t (.bl b))))->(∀ i k,fL t (.int i)≠true->Q v (.int i k) (g (eqT t (.int i))))->(∀ i k,fL t (.str i)≠true->Q v (.str i k) (g (eqT t (.str i)))) ->
   (∀ ts a qc,s.heap.IsTuple a qc->fL t (.tup ts)≠true->Q v (.ref a) (g (eqT t (.tup ts))))->(∀ ts a qc,s.heap.IsList a qc->fL t (.lst ts)≠true->Q v (.ref a) (g (eqT t (.lst ts))))->fL t t2≠true->Q v u (g (eqT t t2)) :=
  fun {t v} h0 h1 h2 h3 h4 h5=>kind (P:=fun w u=>fL t w≠true->Q v u (g (eqT t w))) I fh r2 ry h0 h1 h2 h3 h4 h5 fun e z=>absurd (OI e) z
 refine kind (P:=fun t v=>fL t t2≠true->Q v u (g (eqT t t2))) I fh r1 rx ?_ ?_ ?_ ?_ ?_ ?_ fun e z=>absurd (OJ e) z
 .exact two (fun _=>mnn) (fun b' _=>mnb b') (fun i' k' _=>mni i' k') (fun i' k' _=>mns i' k') (fun _ _ _ p' _=>mnt p' hu) (fun _ _ _ p' _=>mnl p' hu)
 .intro b;exact two (fun _=>mbn b) (fun b' _=>mbb b b') (fun i' k' _=>mbi b i' k') (fun i' k' _=>mbs b i' k') (fun _ _ _ p' _=>mbt b p' hu) (fun _ _ _ p' _=>mbl b p' hu)
 .intro i k;exact two (fun _=>min i k) (fun b' _=>mib i k b') (fun i' k' _=>mii i k i' k') (fun i' k' _=>mis i k i' k') (fun _ _ _ p' _=>mit i k p' hu) (fun _ _ _ p' _=>mil i k p' hu)
 .intro i k;exact two (fun _=>msn i k) (fun b' _=>msb i k b') (fun i' k' _=>msi i k i' k') (fun i' k' _=>mss i k i' k') (fun _ _ _ p' _=>mst i k p' hu) (fun _ _ _ p' _=>msl i k p' hu)
 .intro _ _ _ p;exact two (fun _=>mtn p hu) (fun b' _=>mtb b' p hu) (fun i' k' _=>mti i' k' p hu) (fun i' k' _=>mts i' k' p hu) (fun _ _ _ _ z=>absurd rfl z) (fun _ _ _ p' _=>mtl p p' hu)
 .intro _ _ _ p;exact two (fun _=>mln p hu) (fun b' _=>mlb b' p hu) (fun i' k' _=>mli i' k' p hu) (fun i' k' _=>mls i' k' p hu) (fun _ _ _ p' _=>mlt p p' hu) (fun _ _ _ _ z=>absurd rfl z)
open SeqAt.EqAt in
theorem BW (I:Inv X pj O H s) (fh:Same F H) (hu:A.units<cLine) (hne:fL t1 t2≠true) (r1:Rep X.K F t1 x) (r2:Rep X.K F t2 y) (rx:aB x v) (ry:aB y u):SeqAt.EqAt A s v u (eqT t1 t2) :=
 mix (g:=id) (Q:=SeqAt.EqAt A s) (same .none) none_bool none_int none_str none_tuple none_list bool_none bool_bool bool_int bool_str bool_tuple bool_list int_none int_bool int_int int_str int_tuple int_list str_none str_bool str_int str_str str_tuple str_list tuple_none tuple_bool tuple_int tuple_str tuple_list list_none list_bool list_int list_str list_tuple I fh hu hne r1 r2 rx ry
open SeqAt.RcAt in
theorem OL (I:Inv X pj O H s) (fh:Same F H) (hu:A.units<cLine) (hne:fL t1 t2≠true) (r1:Rep X.K F t1 x) (r2:Rep X.K F t2 y) (rx:aB x v) (ry:aB y u):SeqAt.RcAt A s v u (eqT t1 t2) :=
 mix (g:=id) (Q:=SeqAt.RcAt A s) none_none none_bool none_int none_str none_tuple none_list bool_none bool_bool bool_int bool_str bool_tuple bool_list int_none int_bool int_int int_str int_tuple int_list str_none str_bool str_int str_str str_tuple str_list tuple_none tuple_bool tuple_int tuple_str tuple_list list_none list_bool list_int list_str list_tuple I fh hu hne r1 r2 rx ry
open SeqAt.RcNeAt in
theorem OM (I:Inv X pj O H s) (fh:Same F H) (hu:A.units<cLine) (hne:fL t1 t2≠true) (r1:Rep X.K F t1 x) (r2:Rep X.K F t2 y) (rx:aB x v) (ry:aB y u):SeqAt.RcNeAt A s v u (!eqT t1 t2) :=
 mix (g:=not) (Q:=SeqAt.RcNeAt A s) none_none none_bool none_int none_str none_tuple none_list bool_none bool_bool bool_int bool_str bool_tuple bool_list int_none int_bool int_int int_str int_tuple int_list str_none str_bool str_int str_str str_tuple str_list tuple_none tuple_bool tuple_int tuple_str tuple_list list_none list_bool list_int list_str list_tuple I fh hu hne r1 r2 rx ry
theorem rM (I:Inv X pj O H s) (fh:Same F H):∀ (n:Nat) (A:Around) (t1 t2:T) (x y:V) (v u:Value),A.units+n<cLine->dpP t1 t2<=n->Rep X.K F t1 x->Rep X.K F t2 y->aB x v->aB y u->SeqAt.EqAt A s v u (eqT t1 t2):=by
 intro n
 induction n with
 | zero =>intro A t1 t2 x y v u hA hd r1 r2 rx ry;refine BW I fh hA ?_ r1 r2 rx ry;intro h;have nd:=rE hd (by lia);cases t1<;>cases t2<;>first | (cases h;done) | (cases nd.1;done) | (cases nd.2;done) | (rw [dpP] at hd;lia)
 | succ n ih =>
  intro A t1 t2 x y v u hA hd r1 r2 rx ry;have hu:A.units<cLine:=by lia
  have ih':=fun (t1 t2:T) (x y:V) (v u:Value) h=>ih A.in1 t1 t2 x y v u (show A.units+1+n<cLine by lia) h;have nd:=rE hd (by have:cLine=9900:=rfl;lia);by_cases hb:fL t1 t2=true
  .cases t1 with
   | tup ts =>
    cases t2 with
    | tup us =>
     rw [dpP] at hd;by_cases hs:v=u
     .subst hs;have e:x=y:=by obtain ⟨_,_,rfl,_⟩:=r1;obtain ⟨_,_,rfl,_⟩:=r2;cases rx;cases ry;rfl
      subst e;have e:=rJ I fh r1 r2;cases e;rw [rD _ (by rw [dpP];have:cLine=9900:=rfl;lia)];exact .same v
     .obtain ⟨l1,vs1,its1,rfl,rfl,_,q1,w1,p1⟩:=iO I fh r1 rx;obtain ⟨l2,vs2,its2,rfl,rfl,_,q2,w2,p2⟩:=iO I fh r2 ry;have h:=SeqAt.RcAt.tuples p1 p2 hu (rK (fun t1 t2 x y v u h a b c d=>ih' t1 t2 x y v u h a b c d) (Nat.le_of_succ_le_succ hd) q1 q2 w1 w2);obtain ⟨z1,z2⟩:=rL q1 q2 w1 w2;rw [z1,z2,<- pK] at h;rw [eqT];exact .of_refs (fun e=>hs (by rw [e])) h
    | dk _ _=>cases nd.2
    | dt _ _=>cases nd.2
    | _=>cases hb
   | lst ts =>
    cases t2 with
    | lst us =>
     rw [dpP] at hd;by_cases hs:v=u
     .subst hs;have e:x=y:=by obtain ⟨_,_,rfl,_⟩:=r1;obtain ⟨_,_,rfl,_⟩:=r2;cases rx;cases ry;rfl
      subst e;have e:=rJ I fh r1 r2;cases e;rw [rD _ (by rw [dpP];have:cLine=9900:=rfl;lia)];exact .same v
     .obtain ⟨l1,vs1,its1,rfl,rfl,_,q1,w1,p1⟩:=nN I fh r1 rx;obtain ⟨l2,vs2,its2,rfl,rfl,_,q2,w2,p2⟩:=nN I fh r2 ry;obtain ⟨z1,z2⟩:=rL q1 q2 w1 w2;rw [eqT];refine .of_refs (fun e=>hs (by rw [e])) ?_;by_cases hl:ts.length=us.length
      .have h:=SeqAt.RcAt.lists p1 p2 (by rw [z1,z2,hl]) hu (rK (fun t1 t2 x y v u h a b c d=>ih' t1 t2 x y v u h a b c d) (Nat.le_of_succ_le_succ hd) q1 q2 w1 w2);rw [z1] at h;rw [BT hl];exact h
      .rw [BU hl];exact SeqAt.RcAt.lists_lengths p1 p2 (by rw [z1,z2];simpa using hl) hu
    | dk _ _=>cases nd.2
    | dt _ _=>cases nd.2
    | _=>cases hb
   | dk _ _=>cases nd.1
   | dt _ _=>cases nd.1
   | _=>cases t2<;>first | (cases hb;done) | (cases nd.2;done)
  .exact BW I fh hu hb r1 r2 rx ry
theorem BX (I:Inv X pj O H s) (fh:Same F H) (hA:A.units+n<cLine) (hd:dpP t1 t2<=n) (r1:Rep X.K F t1 x) (r2:Rep X.K F t2 y) (rx:aB x v) (ry:aB y u):SeqAt.RcAt A s v u (eqT t1 t2)/\SeqAt.RcNeAt A s v u (!eqT t1 t2):=by
 have hu:A.units<cLine:=by lia
 have nd:=rE hd (by have:cLine=9900:=rfl;lia);by_cases hb:fL t1 t2=true
 .cases n with
  | zero =>exfalso;have nd:=rE hd (by lia);cases t1<;>cases t2<;>first | (cases hb;done) | (cases nd.1;done) | (cases nd.2;done) | (rw [dpP] at hd;lia)
  | succ n =>
   have ih':=fun (t1 t2:T) (x y:V) (v u:Value) h=>rM I fh n A.in1 t1 t2 x y v u (show A.units+1+n<cLine by lia) h;cases t1 with
   | tup ts =>
    cases t2 with
    | tup us =>rw [dpP] at hd;obtain ⟨l1,vs1,its1,rfl,rfl,_,q1,w1,p1⟩:=iO I fh r1 rx;obtain ⟨l2,vs2,its2,rfl,rfl,_,q2,w2,p2⟩:=iO I fh r2 ry;have pa:=rK (fun t1 t2 x y v u h a b c d=>ih' t1 t2 x y v u h a b c d) (Nat.le_of_succ_le_succ hd) q1 q2 w1 w2;have h:=SeqAt.RcAt.tuples p1 p2 hu pa;have g:=SeqAt.RcNeAt.tuples p1 p2 hu pa;obtain ⟨z1,z2⟩:=rL q1 q2 w1 w2;rw [z1,z2,<- pK] at h g;rw [eqT];exact ⟨h,g⟩
    | dk _ _=>cases nd.2
    | dt _ _=>cases nd.2
    | _=>cases hb
   | lst ts =>
    cases t2 with
    | lst us =>
     rw [dpP] at hd;obtain ⟨l1,vs1,its1,rfl,rfl,_,q1,w1,p1⟩:=nN I fh r1 rx;obtain ⟨l2,vs2,its2,rfl,rfl,_,q2,w2,p2⟩:=nN I fh r2 ry;obtain ⟨z1,z2⟩:=rL q1 q2 w1 w2;rw [eqT];by_cases hl:ts.length=us.length
     .have pa:=rK (fun t1 t2 x y v u h a b c d=>ih' t1 t2 x y v u h a b c d) (Nat.le_of_succ_le_succ hd) q1 q2 w1 w2;have h:=SeqAt.RcAt.lists p1 p2 (by rw [z1,z2,hl]) hu pa;have g:=SeqAt.RcNeAt.lists p1 p2 (by rw [z1,z2,hl]) hu pa;rw [z1] at h g;rw [BT hl];exact ⟨h,g⟩
     .rw [BU hl];exact ⟨SeqAt.RcAt.lists_lengths p1 p2 (by rw [z1,z2];simpa using hl) hu,SeqAt.RcNeAt.lists_lengths p1 p2 (by rw [z1,z2];simpa using hl) hu⟩
    | dk _ _=>cases nd.2
    | dt _ _=>cases nd.2
    | _=>cases hb
   | dk _ _=>cases nd.1
   | dt _ _=>cases nd.1
   | _=>cases t2<;>first | (cases hb;done) | (cases nd.2;done)
 .exact ⟨OL I fh hu hb r1 r2 rx ry,OM I fh hu hb r1 r2 rx ry⟩
end
end
section
variable {pj:Pq} {O:L2.St} {H F:Hp} {s:Shared} {K:W.Frag} {t t1:T} {v:Value} {x:V}
section
variable {X:Cx}
theorem wA {a:Addr} {xs:List V} (I:Inv X pj O H s) (h:Ls X.K H a xs):∃ qc:List Value,aH xs qc/\s.heap.IsList a qc.toArray/\xs.length<=sizeLine:=by have q:SqL X.K H a xs:=h.sq;obtain ⟨qc,r,p,z⟩:=I.list q;exact ⟨qc,r,p.isList,z⟩
def vOf:T->V
 | .non=>.non
 | .bl b=>.bl b
 | .int i=>.int i
 | .str x=>.str x
 | _=>.non
theorem BY {v:V} (h:Rep K F t v) (f:flat t=true):v=vOf t:=by
 cases t with
 | tup _=>cases f
 | lst _=>cases f
 | dk _ _=>cases f
 | dt _ _=>cases f
 | _=>exact h
theorem wB (f:flat t=true):lV (vOf t)=true:=by cases t<;>first | rfl | cases f
theorem ON {u:T} (f:flat t=true) (g:flat u=true):eqV (vOf t) (vOf u)=eqT t u:=by cases t<;>cases u<;>first | (exact absurd f Bool.false_ne_true) | (exact absurd g Bool.false_ne_true) | rfl | simp [vOf,eqV,eqT]
theorem OO (hu:X.A.units+100<cLine):OpS X (compareOp .Eq) eqC:=by
 intro pj s O H x y v u Q I rx ry h;obtain ⟨F,t1,t2,t,fh,r1,r2,ht,q⟩:=h;simp only [eqC] at ht;split at ht
 .rename_i hd;cases ht;exact (BX I fh (n:=30) (by lia) hd r1 r2 rx ry).1 _ _ _ _ ⟨.bl _,H,I,rfl,q _ F H (Step.refl fh) rfl⟩
 .cases ht
theorem OP (hu:X.A.units+100<cLine):OpS X (compareOp .NotEq) neC:=by
 intro pj s O H x y v u Q I rx ry h;obtain ⟨F,t1,t2,t,fh,r1,r2,ht,q⟩:=h;simp only [neC] at ht;split at ht
 .rename_i hd;cases ht;exact (BX I fh (n:=30) (by lia) hd r1 r2 rx ry).2 _ _ _ _ ⟨.bl _,H,I,rfl,q _ F H (Step.refl fh) rfl⟩
 .cases ht
theorem BZ {v:V} {k:Kt} (r:Rep K F t v) (h:nE t=some k):v=kV k:=by cases t<;>first | (cases h;exact r) | cases h
theorem nP {K:W.Frag} {F:Hp}:∀ {ts:List T} {vs:List V} {ks:List Kt},aD K F ts vs->gX ts=some ks->vs=ks.map kV
 | [],_,_,r,h=>by cases r;cases h;rfl
 | t::ts,_,_,r,h=>by obtain ⟨v,vr,rfl,r1,r2⟩:=r;obtain ⟨k,h1,h⟩:=obs h;obtain ⟨ks,h2,h⟩:=obs h;cases h;rw [BZ r1 h1,nP r2 h2];rfl
theorem OQ (hu:X.A.units+100<cLine):OpS X (compareOp .Lt) ltC:=by
 intro pj s O H x y v u Q I rx ry h;obtain ⟨F,t1,t2,t,fh,r1,r2,ht,q⟩:=h;cases t1 with
 | int i =>
  cases t2 with
  | int j =>cases ht;cases r1;cases r2;exact KJ pj s O H _ _ v u Q I rx ry ⟨_,_,rfl,rfl,q _ F H (Step.refl fh) rfl⟩
  | _=>cases ht
 | str i =>
  cases t2 with
  | str j =>cases ht;cases r1;cases r2;exact KM pj s O H _ _ v u Q I rx ry ⟨_,_,rfl,rfl,q _ F H (Step.refl fh) rfl⟩
  | _=>cases ht
 | _=>cases ht
theorem OR:OpS X (compareOp .Gt) (bH .gt):=by intro pj s O H x y v u Q I rx ry h;obtain ⟨F,t1,t2,t,fh,r1,r2,ht,q⟩:=h;cases t1<;>cases t2<;>simp only [bH] at ht<;>cases ht;cases r1;cases r2;exact KK pj s O H _ _ v u Q I rx ry ⟨_,_,rfl,rfl,q _ F H (Step.refl fh) rfl⟩
theorem CA {K:W.Frag} {F:Hp}:∀ {ts:List T} {vs:List V},aD K F ts vs->ts.all flat=true->vs=ts.map vOf
 | [],_,h,_=>h
 | t::ts,_,h,f=>by obtain ⟨v,r,rfl,h1,h2⟩:=h;rw [List.all_cons,bS] at f;rw [aT,BY h1 f.1,CA h2 f.2]
theorem OS {ts:List T} (g:ts.all flat=true):(ts.map vOf).all lV=true:=by
 induction ts with
 | nil=>rfl
 | cons t ts ih =>rw [List.all_cons,bS] at g;rw [aT,List.all_cons,wB g.1,ih g.2];rfl
theorem CB (I:Inv X pj O H s) (fh:Same F H) {A:Around} (hA:A.units+30<cLine) (r1:Rep X.K F t1 x) (rx:aB x v):∀ {ts:List T} {vs:List V} {us:List Value},dpI t1 ts=true->aD X.K F ts vs->aH vs us ->
  ∃ e:Value->Bool,(∀ w∈us,SeqAt.EqAt A s w v (e w))/\us.map e=ts.map fun z=>eqT z t1:=by
 classical
 intro ts vs us hd r rv;have one:∀ {ts:List T} {vs:List V} {us:List Value},dpI t1 ts=true->aD X.K F ts vs->aH vs us->∀ w∈us,∃ t∈ts,SeqAt.EqAt A s w v (eqT t t1)/\∃ y,Rep X.K F t y/\aB y w:=by
  intro ts
  induction ts with
  | nil=>intro vs us _ r rv w hw;cases r;cases rv;cases hw
  | cons t ts ih =>
   intro vs us hd r rv w hw;obtain ⟨y,vr,rfl,r2,r3⟩:=r;cases rv with
   | cons a b =>
    unfold dpI at hd;rw [List.all_cons,bS,qG] at hd;rcases omc hw with rfl | hw
    .exact ⟨t,dW,rM I fh 30 A _ _ _ _ _ _ hA hd.1 r2 r1 a rx,_,r2,a⟩
    .obtain ⟨t',h1,h2⟩:=ih hd.2 r3 b w hw;exact ⟨t',cK _ h1,h2⟩
 obtain ⟨e,he⟩:∃ e:Value->Bool,∀ w t y,Rep X.K F t y->aB y w->e w=eqT t t1:=by refine ⟨fun w=>if h:∃ t,(∃ y,Rep X.K F t y/\aB y w) then eqT (Classical.choose h) t1 else false,fun w t y h3 h4=>?_⟩;have h:∃ t,(∃ y,Rep X.K F t y/\aB y w):=⟨t,y,h3,h4⟩;obtain ⟨y',h5,h6⟩:=Classical.choose_spec h;have e:y=y':=OH h4 h6;subst e;simp only [dif_pos h];rw [<- rJ I fh h3 h5]
 refine ⟨e,fun w hw=>?_,?_⟩
 .obtain ⟨t,_,h2,y,h3,h4⟩:=one hd r rv w hw;rw [he w t y h3 h4];exact h2
 .clear one
  induction ts generalizing vs us with
  | nil=>cases r;cases rv;rfl
  | cons t ts ih =>
   obtain ⟨y,vr,rfl,r2,r3⟩:=r;cases rv with
   | cons a b =>unfold dpI at hd;rw [List.all_cons,bS] at hd;rw [aT,aT,ih hd.2 r3 b,he _ t y r2 a]
theorem CC (I:Inv X pj O H s) (fh:Same F H) {A:Around} (hA:A.units+30<cLine) (r1:Rep X.K F t1 x) (rx:aB x v):∀ {ts:List T} {vs:List V} {us:List Value},dpI t1 ts=true->aD X.K F ts vs->aH vs us ->
  ∃ e:Value->Bool,(∀ w∈us,SeqAt.EqAt A s w v (e w))/\us.any e=ts.any fun z=>eqT z t1:=by
 intro ts vs us hd r rv;obtain ⟨e,e1,e2⟩:=CB I fh hA r1 rx hd r rv;refine ⟨e,e1,?_⟩;have:=aV (fun l:List Bool=>l.any id) e2;simpa [List.any_map,Function.comp_def] using this
theorem CD (hu:X.A.units+100<cLine) {t2:T} {y:V} {u:Value} {b:Bool} (I:Inv X pj O H s) (fh:Same F H) (r1:Rep X.K F t1 x) (r2:Rep X.K F t2 y) (rx:aB x v) (ry:aB y u) (h:inC t1 t2=some b) (hnd:∀ ks us,t2≠.dt ks us) {Q:Bool->Shared->Prop} (q:Q b s) {Q2:Vq} :
  ((∀ b,Q b s->Q2 (.bool b) s)->wpAny (model X.prog X.w) X.A (compareOp .In v u) Q2 X.xe s)/\((∀ b,Q b s->Q2 (.bool (!b)) s)->wpAny (model X.prog X.w) X.A (compareOp .NotIn v u) Q2 X.xe s):=by
 cases t2 with
 | tup ts =>
  simp only [inC] at h;split at h
  .rename_i hd;cases h;obtain ⟨a,vs,qc,rfl,rfl,_,q1,w1,p1⟩:=iO I fh r2 ry;obtain ⟨e,e1,e2⟩:=CC I fh (A:=X.A.in1) (show X.A.units+1+30<cLine by lia) r1 rx hd q1 w1;have e3:qc.toArray.any e=ts.any fun z=>eqT z t1:=by rw [<- e2];simp
   exact ⟨fun k=>SeqAt.in_tupleAt e p1 (fun w hw=>e1 w (by simpa using hw)) (by rw [e3];exact k _ q),fun k=>SeqAt.notIn_tupleAt e p1 (fun w hw=>e1 w (by simpa using hw)) (by rw [e3];exact k _ q)⟩
  .cases h
 | lst ts =>
  simp only [inC] at h;split at h
  .rename_i hd;cases h;obtain ⟨a,vs,qc,rfl,rfl,_,q1,w1,p1⟩:=nN I fh r2 ry;obtain ⟨e,e1,e2⟩:=CC I fh (A:=X.A.in1) (show X.A.units+1+30<cLine by lia) r1 rx hd q1 w1;have e3:qc.toArray.any e=ts.any fun z=>eqT z t1:=by rw [<- e2];simp
   exact ⟨fun k=>SeqAt.in_listAt e p1 (fun w hw=>e1 w (by simpa using hw)) (by rw [e3];exact k _ q),fun k=>SeqAt.notIn_listAt e p1 (fun w hw=>e1 w (by simpa using hw)) (by rw [e3];exact k _ q)⟩
  .cases h
 | dt ks us=>exact absurd rfl (hnd ks us)
 | _=>cases h
theorem CF {ks:List (List Kt)} {us:List T} {y:V} {u:Value} {b:Bool} (I:Inv X pj O H s) (fh:Same F H) (r1:Rep X.K F t1 x) (r2:Rep X.K F (.dt ks us) y) (rx:aB x v) (ry:aB y u) (h:inC t1 (.dt ks us)=some b):∃ a z o,u=.ref a/\dF H a z o/\aB z v/\o.isSome=b:=by
 cases t1 with
 | tup xs =>obtain ⟨k,hk,rfl⟩:=oms h;obtain ⟨a,ws,rfl,g1,g2,g3⟩:=r2;obtain ⟨c,vs,rfl,g4,g5⟩:=r1;cases rx;cases ry;subst g2;have eb:=nP g5 hk;subst eb;exact ⟨a,.ref c,fJ ws k,rfl,dF.t (fh _ _ g1) (fh _ _ g4),rfl,by rw [<- vV,List.any_map];rfl⟩
 | _=>cases h
theorem OT (hu:X.A.units+100<cLine):OpS X (compareOp .In) (bH .isin):=by
 intro pj s O H x y v u Q I rx ry h;obtain ⟨F,t1,t2,t,fh,r1,r2,ht,q⟩:=h;simp only [bH] at ht;obtain ⟨b,hb,rfl⟩:=oms ht;by_cases hq:∃ ks us,t2=.dt ks us
 .obtain ⟨ks,us,rfl⟩:=hq;obtain ⟨a,z,o,rfl,g,rz,e⟩:=CF I fh r1 r2 rx ry hb;exact d_in (by lia) I g rz fun s' I'=>⟨.bl o.isSome,H,I',rfl,by rw [e];exact q _ F H (Step.refl fh) rfl⟩
 exact (CD hu I fh r1 r2 rx ry hb (fun ks us e=>hq ⟨ks,us,e⟩) (Q:=fun b _=>Q (.bl b) H) (q _ F H (Step.refl fh) rfl)).1 fun b k=>⟨.bl b,H,I,rfl,k⟩
theorem OU (hu:X.A.units+100<cLine):OpS X (compareOp .NotIn) (bH .notin):=by
 intro pj s O H x y v u Q I rx ry h;obtain ⟨F,t1,t2,t,fh,r1,r2,ht,q⟩:=h;simp only [bH] at ht;obtain ⟨b,hb,rfl⟩:=oms ht;by_cases hq:∃ ks us,t2=.dt ks us
 .obtain ⟨ks,us,rfl⟩:=hq;obtain ⟨a,z,o,rfl,g,rz,e⟩:=CF I fh r1 r2 rx ry hb;exact NV (by lia) I g rz fun s' I'=>⟨.bl (!o.isSome),H,I',rfl,by rw [e];exact q _ F H (Step.refl fh) rfl⟩
 exact (CD hu I fh r1 r2 rx ry hb (fun ks us e=>hq ⟨ks,us,e⟩) (Q:=fun b _=>Q (.bl (!b)) H) (q _ F H (Step.refl fh) rfl)).2 fun b k=>⟨.bl (!b),H,I,rfl,k⟩
theorem OV:OpS X (compareOp .IsNot) (bH .notN):=by
 intro pj s O H x y v u Q I rx ry h;obtain ⟨F,t1,t2,t,fh,r1,r2,ht,q⟩:=h;have e2:t2=.non:=by cases t2<;>first | rfl | (cases t1<;>simp [bH] at ht)
 subst e2;cases r2;have e:t=.bl (!decide (x=.non)):=by
  cases t1 with
  | non=>cases r1;cases ht;simp
  | bl _=>cases r1;cases ht;simp
  | int _=>cases r1;cases ht;simp
  | str _=>cases r1;cases ht;simp
  | tup _=>obtain ⟨a,vs,rfl,_⟩:=r1;cases ht;simp
  | lst _=>obtain ⟨a,vs,rfl,_⟩:=r1;cases ht;simp
  | dk _ _=>obtain ⟨a,vs,rfl,_⟩:=r1;cases ht;simp
  | dt _ _=>obtain ⟨a,vs,rfl,_⟩:=r1;cases ht;simp
 subst e;exact KN pj s O H _ _ v u Q I rx ry ⟨rfl,q _ F H (Step.refl fh) rfl⟩
theorem wC (hu:X.A.units+100<cLine) {op:CmpOp} {e:Expr} {o:Co} (h:lX op e=some o):OpS X (compareOp op) (bH o)/\behindInMarks op e=false:=by
 cases op with
 | Eq=>cases h;exact ⟨OO hu,oZ _⟩
 | NotEq=>cases h;exact ⟨OP hu,oZ _⟩
 | Lt=>cases h;exact ⟨OQ hu,oZ _⟩
 | LtE=>cases h
 | Gt=>cases h;exact ⟨OR,oZ _⟩
 | GtE=>cases h
 | Is=>cases h
 | IsNot =>
  simp only [lX] at h;split at h
  .cases h;exact ⟨OV,oZ _⟩
  .cases h
 | In =>
  simp only [lX] at h;split at h
  .cases h
  .rename_i hb;cases h;exact ⟨OT hu,by simpa using hb⟩
 | NotIn =>
  simp only [lX] at h;split at h
  .cases h
  .rename_i hb;cases h;exact ⟨OU hu,by simpa using hb⟩
theorem OW {op:Operator} {o:Bo} (h:vJ op=some o):OpS X (binaryOp op) (bB o):=by
 cases op<;>simp only [vJ] at h<;>cases h
 .exact NP
 .exact NQ
 .exact NR
 .exact NT
 .exact NS
end
end
section
variable {K:W.Frag} {f:Env->Option T} {g:Env->Option (List T)} {k n:Nat} {rest es:List Expr}
section
variable {X:Cx} {c:Tc} {a b:Expr} {pos:Pos}
theorem qP {F:Hp} {ts:List T} {vs:List V} {i:Int} {t:T} (r:aD K F ts vs) (h:cJ ts i=some t):∃ v,atI vs i=some v/\Rep K F t v:=by unfold cJ at h;obtain ⟨j,h1,h2⟩:=obs h;obtain ⟨v,h3,h4⟩:=r.get h2;refine ⟨v,?_,h4⟩;unfold atI;rw [r.length];exact fZ.mpr ⟨j,h1,h3⟩
theorem OX {prog:Program} {w:World} {A:Around} {E:Vq} {s:Shared} {value slice:Expr} {o i:Value} {T id:String} {Q:Vq}
  (hl:typeLookup (.type T) "__getitem__"=pure (some (.builtin id))) (hs:subscripted slice false o i=operate [o,i] (getItem o i)) (hT:s.TypeIs o T) (h:wpAny (model prog w) A (getItem o i) Q E s) :
  wpAny (model prog w) A (subscriptTail value slice o i) Q E s:=by
 unfold subscriptTail;refine aA ?_;rw [getitemInPython_of_ne hT.not_modules];refine aA (wpAny_specialOf hT hl ?_);have fin:wpAny (model prog w) A (subscripted slice false o i) (fun r qz=>wpAny (model prog w) A (letTemporaryGo value o r >>= fun _=>pure r) Q E qz) E s:=by rw [hs];exact wpAny_operating (fS h (fun r qz h₃=>aA (wpAny_letTemporaryGo (aL h₃))) fun _ _ x=>x)
 first
  | exact aL (aA fin)
  | exact aA (aL (aA fin))
  | exact aA fin
theorem CG {κ:Type} [DecidableEq κ] {K:W.Frag} {F:Hp}:∀ {ws:List (κ × V)} {ts:List T} {k:κ} {t:T},aD K F ts (ws.map (·.2))->gY (ws.map (·.1)) ts k=some t->∃ v,fJ ws k=some v/\Rep K F t v
 | [],_,_,_,_,h=>by simp [gY] at h
 | p::ws,[],_,_,r,_=>by cases r
 | p::ws,u::ts,k,t,r,h=>by
  obtain ⟨v,vr,e,r1,r2⟩:=r;rw [aT] at e;injection e with e1 e2;rw [aT,gY] at h;by_cases hk:p.1=k
  .rw [if_pos hk] at h;cases h;exact ⟨p.2,nK hk,by rw [e1];exact r1⟩
  .rw [if_neg hk] at h;rw [nL hk];exact CG (by rw [e2];exact r2) h
theorem ixs (hu:X.A.units+1<cLine):IxR X (fun x y H Q=>∃ F t1 t2 t,Same F H/\Rep X.K F t1 x/\Rep X.K F t2 y/\aO t1 t2=some t/\∀ v F' H',Step F H F' H'->Rep X.K F' t v->Q v H'):=by
 intro value slice pj s O H x y v u Q I rx ry h hs;obtain ⟨F,t1,t2,t,fh,r1,r2,ht,q⟩:=h;cases t1 with
 | tup ts =>
  cases t2 with
  | int i =>cases r2;obtain ⟨p,vs,rfl,h1,h2⟩:=r1;obtain ⟨w,h3,h4⟩:=qP h2 ht;exact LR value slice pj s O H _ _ v u Q I rx ry ⟨p,vs,i,w,rfl,rfl,dC fh h1,h3,q _ F H (Step.refl fh) h4⟩ hs
  | _=>cases ht
 | lst ts =>
  cases t2 with
  | int i =>cases r2;obtain ⟨p,vs,rfl,h1,h2⟩:=r1;obtain ⟨w,h3,h4⟩:=qP h2 ht;exact LQ value slice pj s O H _ _ v u Q I rx ry ⟨p,vs,i,w,rfl,rfl,(Ls.same fh h1).sq,h3,q _ F H (Step.refl fh) h4⟩ hs
  | _=>cases ht
 | dt ks us =>
  cases t2 with
  | tup xs =>
   obtain ⟨k,h1,h2⟩:=obs ht;obtain ⟨a,ws,rfl,g1,g2,g3⟩:=r1;obtain ⟨b,vs,rfl,g4,g5⟩:=r2;cases rx;cases ry;subst g2;obtain ⟨w,w1,w2⟩:=CG g3 h2;have eb:=nP g5 h1;subst eb;have g:dF H a (.ref b) (some w):=by rw [<- w1];exact dF.t (fh _ _ g1) (fh _ _ g4)
   exact OX PySem.F.slot_dict_getitem.lookup hs (NY I g) (NU hu I g rfl fun w' s3 I3 rw'=>⟨w,H,I3,rw',q _ F H (Step.refl fh) w2⟩)
  | _=>cases ht
 | _=>cases t2<;>cases ht
theorem OY (hu:X.A.units+1<cLine) {g:Env->Option T} (ha:Oke X c a f) (hb:Oke X c b g) (hs:vC b):Oke X c (.Subscript a b pos) (fun r=>(f r).bind fun x=>(g r).bind fun y=>aO x y):=by refine fH (LP (ixs hu) ha hb hs) fun O H Q q=>?_;obtain ⟨r,F,t,e,ht,q⟩:=q;obtain ⟨t1,e1,ht⟩:=obs ht;obtain ⟨t2,e2,ht⟩:=obs ht;refine ⟨r,F,t1,e,e1,fun v1 F1 H1 s1 r1=>⟨r,F1,t2,e.step s1,e2,fun v2 F2 H2 s2 r2=>?_⟩⟩;exact ⟨F2,t1,t2,t,s2.fh,r1.mono s2.ff,r2,ht,fun v F' H' s3 r3=>q v F' H' (s1.trans (s2.trans s3)) r3⟩
theorem CH {F:Hp} {ts:List T} {vs:List V} (r:aD K F ts vs) (lo hi:Option Int):aD K F (cut ts lo hi) (jJ vs lo hi):=by
 unfold cut jJ;have e:∀ (n d:Nat) (o:Option Int),HT.sIx n d o=gM n d o:=fun n d o=>by cases o<;>rfl
 rw [e,e,r.length];exact (r.drop _).take _
theorem sls:SlR X (fun x lo hi H Q=>∃ F t1 t,Same F H/\Rep X.K F t1 x/\gN t1 lo hi=some t/\∀ v F' H',Step F H F' H'->Rep X.K F' t v->Q v H'):=by
 intro pj s O H x v vl vu lo hi sl Q I rx hs pl pu h;obtain ⟨F,t1,t,fh,r1,ht,q⟩:=h;cases t1 with
 | tup ts =>
  simp only [gN] at ht;cases ht;obtain ⟨p,vs,rfl,h1,h2⟩:=r1;have e:∀ (n d:Nat) (o:Option Int),HT.sIx n d o=gM n d o:=fun n d o=>by cases o<;>rfl
  by_cases hw:gM ts.length 0 lo=0/\gM ts.length ts.length hi=ts.length
  .refine NI pj s O H _ v vl vu lo hi sl Q I rx hs pl pu ⟨p,vs,rfl,dC fh h1,by rw [e,e,h2.length];exact hw,?_⟩;have ec:cut ts lo hi=ts:=by unfold cut;rw [hw.1,hw.2];simp
   exact q _ F H (Step.refl fh) ⟨p,vs,rfl,h1,by rw [ec];exact h2⟩
  .refine LN pj s O H _ v vl vu lo hi sl Q I rx hs pl pu ⟨p,vs,rfl,dC fh h1,by rw [e,e,h2.length];exact hw,fun p' hp=>?_⟩;have st:=(Step.refl fh).new (o:=.tup (jJ vs lo hi)) hp;exact q _ _ _ st ⟨p',_,rfl,aY,(CH h2 lo hi).mono st.ff⟩
 | lst ts =>simp only [gN] at ht;cases ht;obtain ⟨p,vs,rfl,h1,h2⟩:=r1;refine LU pj s O H _ v vl vu lo hi sl Q I rx hs pl pu ⟨p,vs,rfl,(Ls.same fh h1).sq,fun p' hp=>?_⟩;have st:=(Step.refl fh).new (o:=.lst (jJ vs lo hi)) hp;exact q _ _ _ st ⟨p',_,rfl,Ls.of aY,(CH h2 lo hi).mono st.ff⟩
 | _=>simp [gN] at ht
def spO (X:Cx) (c:Tc) (f:Env->Option (Option T)):TO:=fun O H Q=>∃ r F o,EnvE X c r F O H/\(f r).bind asI=some o/\∀ F' H',Step F H F' H'->Q o H'
theorem CI {e:Option Expr} {t t':TO} (h:PO X e t) (m:∀ O H Q,t' O H Q->t O H Q):PO X e t':=fun pj s O H Q I q=>h pj s O H Q I (m O H Q q)
theorem OZ:PO X none (spO X c fun _=>some none):=by refine CI LK fun O H Q q=>?_;obtain ⟨r,F,o,e,ht,q⟩:=q;cases ht;exact q F H (Step.refl e.fh)
theorem PB (h:Oke X c a f):PO X (some a) (spO X c fun r=>(f r).map some):=by
 refine CI (LL h) fun O H Q q=>?_;obtain ⟨r,F,o,e,ht,q⟩:=q;obtain ⟨o',e1,ht⟩:=obs ht;obtain ⟨t,e2,rfl⟩:=oms e1;refine ⟨r,F,t,e,e2,fun v F' H' s1 r1=>?_⟩;cases t with
 | int i=>cases ht;cases r1;exact ⟨i,rfl,q F' H' s1⟩
 | _=>cases ht
theorem PC {lo hi:Option Expr} {g h:Env->Option (Option T)} {p2:Pos} (ha:Oke X c a f) (hl:PO X lo (spO X c g)) (hh:PO X hi (spO X c h)) :
  Oke X c (.Subscript a (.Slice lo hi none p2) pos) (fun r=>(f r).bind fun x=>(g r).bind fun l=>(h r).bind fun u=>(asI l).bind fun l'=>(asI u).bind fun u'=>gN x l' u'):=by
 refine fH (LM sls ha hl hh) fun O H Q q=>?_;obtain ⟨r,F,t,e,ht,q⟩:=q;obtain ⟨t1,e1,ht⟩:=obs ht;obtain ⟨l,e2,ht⟩:=obs ht;obtain ⟨u,e3,ht⟩:=obs ht;obtain ⟨l',e4,ht⟩:=obs ht;obtain ⟨u',e5,ht⟩:=obs ht;refine ⟨r,F,t1,e,e1,fun v1 F1 H1 s1 r1=>⟨r,F1,l',e.step s1,fZ.mpr ⟨l,e2,e4⟩,fun F2 H2 s2=>⟨r,F2,u',e.step (s1.trans s2),fZ.mpr ⟨u,e3,e5⟩,fun F3 H3 s3=>?_⟩⟩⟩;exact ⟨F3,t1,t,s3.fh,r1.mono (s2.trans s3).ff,ht,fun v F' H' s4 r4=>q v F' H' (s1.trans (s2.trans (s3.trans s4))) r4⟩
theorem PD {t:T} {v:V} (h:PE X a (tC v)) (r:∀ F,Rep X.K F t v):Oke X c a (fun _=>some t):=by refine fH h fun O H Q q=>?_;obtain ⟨r',F,t',e,ht,q⟩:=q;cases ht;exact q v F H (Step.refl e.fh) (r F)
theorem PF {G:Glo} (gd:Gd X c G k) {x:Str} {i:Nat} (hp:bF x=true) (hv:cY c.sc x=true) (hi:cC c.nm x=some i):Oke X c (.Name x pos) (fun r=>(r[i]?).join):=by
 have hpn:=hp;simp only [bF,Bool.and_eq_true,Bool.not_eq_true'] at hp;intro pj s O H Q I q;obtain ⟨r,F,t,e,ht,q⟩:=q;have ht:(r[i]?).join=some t:=ht;have ht':r[i]?=some (some t):=by
  cases h:r[i]? with
  | none=>rw [h] at ht;cases ht
  | some o=>rw [h] at ht;cases o with
   | none=>cases ht
   | some z=>cases ht;rfl
 obtain ⟨j,v,h1,h2,h3⟩:=e.get x i t hpn hi hv ht';exact kQ h1 (gd.vis x hv) hp.1.1.1 hp.1.1.2 pj s O H Q I ⟨v,h2,q v F H (Step.refl e.fh) h3⟩
theorem PH (ha:Oke X c a f):Oke X c (.UnaryOp .Not a pos) (fun r=>(f r).bind fun x=>match x with | .bl b=>some (.bl (!b)) | _=>none):=by
 refine fH (JI ha) fun O H Q q=>?_;obtain ⟨r,F,t,e,ht,q⟩:=q;obtain ⟨t1,e1,ht⟩:=obs ht;cases t1 with
 | bl b=>cases ht;exact ⟨r,F,_,e,e1,fun v F' H' s1 r1=>by cases r1;exact ⟨b,rfl,q _ F' H' s1 rfl⟩⟩
 | _=>cases ht
theorem PJ (ha:Oke X c a f):Oke X c (.UnaryOp .USub a pos) (fun r=>(f r).bind fun x=>match x with | .int i=>some (.int (-i)) | _=>none):=by
 refine fH (zS zT ha) fun O H Q q=>?_;obtain ⟨r,F,t,e,ht,q⟩:=q;obtain ⟨t1,e1,ht⟩:=obs ht;cases t1 with
 | int b=>cases ht;exact ⟨r,F,_,e,e1,fun v F' H' s1 r1=>by cases r1;exact ⟨b,rfl,q _ F' H' s1 rfl⟩⟩
 | _=>cases ht
theorem PK {g:Env->Option T} (ha:Oke X c a f) (hb:Oke X c (.BoolOp .And (b::rest) pos) g):Oke X c (.BoolOp .And (a::b::rest) pos) (fun r=>(f r).bind fun x=>match x with | .bl true=>g r | .bl false=>some (.bl false) | _=>none):=by
 refine fH (JH ha hb) fun O H Q q=>?_;obtain ⟨r,F,t,e,ht,q⟩:=q;obtain ⟨t1,e1,ht⟩:=obs ht;cases t1 with
 | bl d =>
  refine ⟨r,F,_,e,e1,fun v F' H' s1 r1=>?_⟩;cases r1;cases d with
  | true=>exact ⟨true,rfl,iteT ⟨r,F',t,e.step s1,ht,fun v2 F2 H2 s2 r2=>q v2 F2 H2 (s1.trans s2) r2⟩⟩
  | false=>cases ht;exact ⟨false,rfl,iteF (q _ F' H' s1 rfl)⟩
 | _=>cases ht
abbrev Okw (X:Cx) (c:Tc) (e:Expr) (f:Env->Option T):Prop:=PW X e (spB X c f)
theorem PM {g:Env->Option T} (ha:Okt X c a f) (hb:Okw X c (.BoolOp .And (b::rest) pos) g):Okw X c (.BoolOp .And (a::b::rest) pos) (fun r=>(f r).bind fun x=>match x with | .bl true=>g r | .bl false=>some (.bl false) | _=>none):=by
 refine NK (uT ha hb) fun O H Q q=>?_;obtain ⟨r,F,k,e,ht,q⟩:=q;obtain ⟨t1,e1,ht⟩:=obs ht;cases t1 with
 | bl d =>
  refine ⟨r,F,d,e,e1,fun F' H' s1=>?_⟩;cases d with
  | true=>exact iteT ⟨r,F',k,e.step s1,ht,fun F2 H2 s2=>q F2 H2 (s1.trans s2)⟩
  | false=>cases ht;exact iteF (q F' H' s1)
 | _=>cases ht
theorem PN (ha:Okt X c a f):Okt X c (.UnaryOp .Not a pos) (fun r=>(f r).bind fun x=>match x with | .bl b=>some (.bl (!b)) | _=>none):=by
 refine vT (zO ha) fun O H Q q=>?_;obtain ⟨r,F,k,e,ht,q⟩:=q;obtain ⟨t1,e1,ht⟩:=obs ht;cases t1 with
 | bl d =>refine ⟨r,F,d,e,e1,fun F' H' s1=>?_⟩;cases ht;exact q F' H' s1
 | _=>cases ht
theorem PQ {F H:Hp} {t:T} {v:V} {b:Bool} (fh:Same F H) (r:Rep K F t v) (h:gZ t=some b):uY K v H b:=by
 cases t with
 | non=>cases r;cases h;rfl
 | bl _=>cases r;cases h;rfl
 | int _=>cases r;cases h;rfl
 | str _=>cases h
 | tup ts =>obtain ⟨p,vs,rfl,h1,h2⟩:=r;cases h;refine .inr (.inl ⟨vs,dC fh h1,?_⟩);have e:=h2.length;cases vs<;>cases ts<;>first | rfl | simp at e
 | lst ts =>obtain ⟨p,vs,rfl,h1,h2⟩:=r;cases h;refine .inl ⟨vs,(Ls.same fh h1).sq,?_⟩;have e:=h2.length;cases vs<;>cases ts<;>first | rfl | simp at e
 | dk _ _=>cases h
 | dt _ _=>cases h
theorem PR (ha:Oke X c a f) (he:∀ whole,isTrue a X.env whole=(do let v <- whole;standAt a.pos;holding [v] (truthy v))):Okt X c a (fun r=>(f r).bind fun x=>(gZ x).map .bl):=by refine vT (KS ha he) fun O H Q q=>?_;obtain ⟨r,F,k,e,ht,q⟩:=q;obtain ⟨t1,e1,ht⟩:=obs ht;obtain ⟨b,e2,h2⟩:=oms ht;cases h2;exact ⟨r,F,t1,e,e1,fun v F' H' s1 r1=>⟨k,PQ s1.fh r1 e2,q F' H' s1⟩⟩
theorem wD {t t':TA} (h:PA X es t) (m:∀ O H Q,t' O H Q->t O H Q):PA X es t':=fun p pj s O H Q I q=>h p pj s O H Q I (m O H Q q)
theorem CJ:PA X [] (spL X c fun _=>some []):=by refine wD fV fun O H Q q=>?_;obtain ⟨r,F,ts,e,ht,q⟩:=q;cases ht;exact q [] F H (Step.refl e.fh) rfl
theorem wE (ha:Oke X c a f) (hr:PA X es (spL X c g)) (hs:starEach (a::es) X.env=(false,eval a X.env)::starEach es X.env):PA X (a::es) (spL X c fun r=>(f r).bind fun x=>(g r).bind fun xs=>some (x::xs)):=by refine wD (bY ha hr hs) fun O H Q q=>?_;obtain ⟨r,F,ts,e,ht,q⟩:=q;obtain ⟨t1,e1,ht⟩:=obs ht;obtain ⟨t2,e2,ht⟩:=obs ht;cases ht;exact ⟨r,F,t1,e,e1,fun v1 F1 H1 s1 r1=>⟨r,F1,t2,e.step s1,e2,fun vs F2 H2 s2 r2=>q _ F2 H2 (s1.trans s2) ⟨v1,vs,rfl,r1.mono s2.ff,r2⟩⟩⟩
theorem PU (h:PA X es (spL X c g)) (hl:∀ r ts,g r=some ts->ts.length=n):Oke X c (.Tuple es k pos) (fun r=>if n<=1000 then (g r).map .tup else none):=by
 refine fH (qM h) fun O H Q q=>?_;obtain ⟨r,F,t,e,ht,q⟩:=q;split at ht
 .rename_i hn;obtain ⟨ts,e1,rfl⟩:=oms ht;refine ⟨r,F,ts,e,e1,fun vs F' H' s1 r1=>⟨by rw [r1.length,hl r ts e1];exact Nat.le_of_lt (AQ hn),fun p hp=>?_⟩⟩;have st:=s1.new (o:=.tup vs) hp;exact q _ _ _ st ⟨p,vs,rfl,aY,r1.mono (iM (s1.fh.free hp))⟩
 .cases ht
def spN (X:Cx) (c:Tc) (f:Env->Option T):TE:=fun O H Q=>∃ r F ts,EnvE X c r F O H/\f r=some (.lst ts)/\∀ p vs F' H1,Step F H F' H1->H1 p=none->aD X.K F' ts vs->Q (.ref p) (aJ H1 p (.lst vs))
theorem CK (h:PA X es (spL X c g)) (hl:∀ r ts,g r=some ts->ts.length=n):PE X (.List es pos) (spN X c (fun r=>if n<=1000 then (g r).map .lst else none)):=by
 refine fH (vA h) fun O H Q q=>?_;obtain ⟨r,F,t,e,ht,q⟩:=q;split at ht
 .rename_i hn;obtain ⟨ts,e1,e2⟩:=oms ht;cases e2;exact ⟨r,F,t,e,e1,fun vs F' H' s1 r1=>⟨by rw [r1.length,hl r t e1];exact Nat.le_of_lt (AQ hn),fun p hp=>q p vs F' H' s1 hp r1⟩⟩
 .cases ht
theorem PV (h:PA X es (spL X c g)) (hl:∀ r ts,g r=some ts->ts.length=n):Oke X c (.List es pos) (fun r=>if n<=1000 then (g r).map .lst else none):=by
 refine fH (CK h hl) fun O H Q q=>?_;obtain ⟨r,F,t,e,ht,q⟩:=q;have ht':=ht;split at ht
 .obtain ⟨ts,e1,rfl⟩:=oms ht;refine ⟨r,F,ts,e,ht',fun p vs F' H' s1 hp r1=>?_⟩;exact q _ _ _ (s1.new hp) ⟨p,vs,rfl,Ls.of aY,r1.mono (iM (s1.fh.free hp))⟩
 .cases ht
theorem PX {G:Glo} (gd:Gd X c G k) {f:Str} {p:Pos} (hg:glB c.sc f=true) (hp:bF f=true) (h:PA X (a::es) (spL X c g)) (he:starEach (a::es) X.env=(false,eval a X.env)::starEach es X.env)
  (hpl:(backTo pos (starEach es X.env)).any (·.1)=false):Oke X c (.Call (.Name f p) (a::es) [] pos) (fun r=>(g r).bind fun xs=>G.call f xs):=by
 simp only [bF,Bool.and_eq_true,Bool.not_eq_true'] at hp;intro pj s O H Q I q;obtain ⟨r,F,t,e,ht,q⟩:=q;obtain ⟨ts,e1,ht⟩:=obs ht;obtain ⟨ad,fd,ps,h1,h2,h3,h4⟩:=gd.call f ts t (by rw [kY,hp.2.2.1,hp.2.2.2];rfl) ht;refine vB h1 gd.room (gd.gl f hg) h2 h3 h4 .nil AO h hp.1.1.1 he hpl pj s O H Q I ?_;refine ⟨r,F,ts,e,e1,fun vs F' H' s1 r1=>?_⟩;show spT X.K (G.call f) (vs++[]) H' Q E0;rw [dP];exact ⟨F',ts,t,s1.fh,e.tb.up s1,r1,ht,fun v F2 H2 s2 r2=>q v F2 H2 (s1.trans s2) r2⟩
end
end
end Ev
namespace L2
open PySem
section
variable {l:Addr} {items:Array Value} {Q:Vq}
open PySem.AutoSeq1 (wpAny_loadPart')
section
variable {prog:Program} {w:World} {A:Around} {E:Vq} {s:Shared}
theorem PY {it:Addr} {i:Nat} {x:Value} (hit:s.heap.IsTupleIter it l i)
  (hl:s.heap.IsTuple l items) (hx:items[i]?=some x)
  (hQ:∀ h',h'.IsTupleIter it l (i+1)->Heap.SameBut it s.heap h'->Q x { s with heap:=h' }) :
  wpAny (model prog w) A (Builtin.SmallTypes.nextOf (.ref it)) Q E s:=by
 obtain ⟨o,ho,hc,hd⟩:=id hit;obtain ⟨ol,hol,_,nl,hdl⟩:=hl;unfold Builtin.SmallTypes.nextOf;refine aA (kP (name:=Str.ofString "__next__") hit.typeIs F.slot_tuple_iterator_next
  (iS F.slot_tuple_iterator_next hit.typeIs F.entry_tuple_iterator_next ?_ (F.args_tuple_iterator_next_1 _)))
 show wpAny _ _ (field (.ref it) 0 >>= _) _ _ s;refine aA (eF ho hd (x:=.ref l) rfl ?_);show wpAny _ _ (if (Value.ref l==Value.none)=true then _ else _) _ _ s;rw [if_neg (show ¬ ((Value.ref l==Value.none)=true) from dH)];show wpAny _ _ (field (.ref it) 1 >>= _) _ _ s;refine aA (eF ho hd (x:=.int i 0) rfl ?_);show wpAny _ _ (seqItems? (.ref l) >>= _) _ _ s;refine aA (kO hol hdl ?_);simp only [Int.toNat_natCast,hx];refine wpAny_bind (wpAny_setField ho hd (by simp) (wpAny_pure ⟨x,rfl,wpAny_pure (hQ _ ?_ (qB ..))⟩));exact ⟨_,Heap.get?_update_self _ ho (Obj.isFreed_of_fields (jD hd _)),(Obj.cls_mapFields ..).trans hc,by rw [jD hd];simp [rawInt]⟩
theorem PZ {it:Addr} {i:Nat} (hh:A.handled=none)
  (hit:s.heap.IsTupleIter it l i) (hl:s.heap.IsTuple l items) (hx:items[i]?=none)
  (hE:∀ h' e,Heap.ExtBut it s.heap h'->(∃ o,h'.get? e=some o/\o.cls=.type "StopIteration")->E (.ref e) { s with heap:=h' }) :
  wpAny (model prog w) A (Builtin.SmallTypes.nextOf (.ref it)) Q E s:=by
 obtain ⟨o,ho,hc,hd⟩:=id hit;obtain ⟨ol,hol,_,nl,hdl⟩:=hl;unfold Builtin.SmallTypes.nextOf;refine aA (kP (name:=Str.ofString "__next__") hit.typeIs F.slot_tuple_iterator_next
  (iS F.slot_tuple_iterator_next hit.typeIs F.entry_tuple_iterator_next ?_ (F.args_tuple_iterator_next_1 _)))
 show wpAny _ _ (field (.ref it) 0 >>= _) _ _ s;refine aA (eF ho hd (x:=.ref l) rfl ?_);show wpAny _ _ (if (Value.ref l==Value.none)=true then _ else _) _ _ s;rw [if_neg (show ¬ ((Value.ref l==Value.none)=true) from dH)];show wpAny _ _ (field (.ref it) 1 >>= _) _ _ s;refine aA (eF ho hd (x:=.int i 0) rfl ?_);show wpAny _ _ (seqItems? (.ref l) >>= _) _ _ s;refine aA (kO hol hdl ?_);simp only [Int.toNat_natCast,hx]
 first
  | refine wpAny_bind (wpAny_rule (wpAny_bind (wpAny_setField ho hd (by simp) (wpAny_bind (wpAny_letGo ?_)))))
  | refine wpAny_bind (wpAny_rule (wpAny_bind (wpAny_setField ho hd (by simp) ?_)))
 show wpAny _ _ (newExc (.type "StopIteration") [] >>= _) _ _ _;refine aA ?_;simp only [newExc,newTuple];refine aA (jG ?_ (by size_fits));refine wpAny_bind (m:=firstArgMember _ _) (wpAny_of_eq (a:=Value.none) (by first | rfl | (simp only [firstArgMember];rfl)) ?_);refine jG ?_ (by size_fits);simp only [raiseNew];refine aA (wpAny_handled ?_)
 first | rw [show A.in1.handled=none from hh] | rw [hh]
 refine aA (aL (wpAny_throw ?_));exact hE _ _ (((qB ..).extBut.push _).push _) ⟨_,bW _ rfl,rfl⟩
end
theorem wF {prog:Program} {w:World} {A:Around} (hh:A.handled=none) (it l:Addr) (hne:l≠it) (items:Array Value) :
  Draws prog w A it [it,l] items.size (fun i v=>items[i]?=some v) (fun i h=>h.IsTupleIter it l i/\h.IsTuple l items) where
 live:=fun _ _ st=>let ⟨o,ho,_⟩:=st.1;⟨o,ho⟩
 frame:=fun _ _ _ st hk=>⟨let ⟨o,ho,r⟩:=st.1;⟨o,hk it (by simp) o ho,r⟩,let ⟨o,ho,r⟩:=st.2;⟨o,hk l (by simp) o ho,r⟩⟩
 item:=fun i s Q E hi st hQ=>by refine PY st.1 st.2 (x:=items[i]) (by simp [hi]) fun h' hit' hs'=>?_;exact hQ _ h' s.toks (by simp [hi]) ⟨hit',let ⟨o,ho,r⟩:=st.2;⟨o,hs'.extBut l o hne ho,r⟩⟩ hs'
 done:=fun s Q E st hE=>PZ hh st.1 st.2 (by simp) hE
theorem QA (l:Addr) (items:Array Value) (n:Nat) (dct:Option Addr) (sl:Array (Option Value)) :
  Meets (Builtin.«enumerate.__new__» ⟨[.type "enumerate",.ref l],[]⟩) (fun _ R s=>s.heap.get? l=some { cls:=.type "tuple",dict:=dct,data:=.seq items n,slots:=sl } /\
   R (.ok (.ret (.ref (s.heap.push { cls:=.type "tuple_iterator",data:=.fields #[.ref l,.int 0 0] }).objs.size)))
    { s with heap:=(s.heap.push { cls:=.type "tuple_iterator",data:=.fields #[.ref l,.int 0 0] }).push { cls:=.type "enumerate",data:=.fields #[.none,.bool false,.ref s.heap.objs.size,rawInt 0,.none,.none] } }) :=
 .of_wp fun prog w A R s h=>by
  obtain ⟨hp,g,d,tk,os⟩:=s;obtain ⟨hl,h⟩:=h;have hsub:=sub_enumerate;have hL:Heap.IsTuple (Shared.heap ⟨hp,g,d,tk,os⟩) l items:=⟨_,hl,rfl,n,rfl⟩
  wp_walk using wpAny_loadPart' hl
  refine wpAny_stack_any fun st=>aL ?_;split
  .rename_i c _ _ _ _ _;cases (c==Value.type "enumerate")
   .wp_walk using wpAny_loadPart' hl,lP hL
    exact ⟨_,rfl,h⟩
   .wp_walk using wpAny_loadPart' hl,lP hL
    exact ⟨_,rfl,h⟩
  .wp_walk using wpAny_loadPart' hl,lP hL
   exact ⟨_,rfl,h⟩
section
variable {prog:Program} {w:World} {A:Around} {E:Vq} {s:Shared}
theorem QB (hL:s.heap.IsTuple l items)
  (h:∀ h',IsEnum h' (s.heap.objs.size+1) s.heap.objs.size 0 .none->h'.IsTupleIter s.heap.objs.size l 0->h'.objs.size=s.heap.objs.size+2 ->
   (∀ b o,s.heap.get? b=some o->h'.get? b=some o)->Q (.ref (s.heap.objs.size+1)) { s with heap:=h' }) :
  wpAny (model prog w) A (call (.type "enumerate") [.ref l]) Q E s:=by
 obtain ⟨⟨c,dct,dt,sl⟩,hl,hc,n,hd⟩:=hL;replace hc:c=.type "tuple":=hc;replace hd:dt=.seq items n:=hd;subst hc hd;refine callType_new F.called_enumerate (by decide) (F.typeCall_enumerate_1 _) (F.newCall_enumerate_1 _) (fun obj=>F.args_object_init_2 obj _) F.entry_enumerate_new
  (QA l items n dct sl) ⟨hl,?_⟩
 have hz:(s.heap.push { cls:=.type "tuple_iterator",data:=.fields #[.ref l,.int 0 0] }).objs.size=s.heap.objs.size+1:=eL ..;show _/\_;rw [hz];have he:IsEnum ((s.heap.push { cls:=.type "tuple_iterator",data:=.fields #[.ref l,.int 0 0] }).push
   { cls:=.type "enumerate",data:=.fields #[.none,.bool false,.ref s.heap.objs.size,rawInt 0,.none,.none] }) (s.heap.objs.size+1) s.heap.objs.size 0 .none:=by
  have:=bW (s.heap.push { cls:=.type "tuple_iterator",data:=.fields #[.ref l,.int 0 0] })
   (o:={ cls:=.type "enumerate",data:=.fields #[.none,.bool false,.ref s.heap.objs.size,rawInt 0,.none,.none] }) rfl
  rw [hz] at this;exact this
 refine ⟨⟨_,he,rfl⟩,h _ he ⟨_,aR _ (bW _ rfl),rfl,rfl⟩ (by rw [eL,hz]) fun b o x=>aR _ (aR _ x)⟩
end
end
section
open PySem Spec PyProof.Rows
theorem CM {env:PySem.Env}:∀ (names:List (Str × NameKind)) (x:Str),
  (names.map fun (n,k)=>if (k==NameKind.free&&env.scope.kind==.function&&env.kindOf n==some .cell) then (n,NameKind.cell) else (n,k)).lookup x =
   (match names.lookup x with | some .free=>if (env.scope.kind==.function&&env.kindOf x==some .cell) then some .cell else some .free | o=>o)
 | [],_=>rfl
 | (n,k)::r,x=>by
  rw [aT];cases hx:x==n with
  | false =>
   have e:∀ k',List.lookup x ((n,k')::(r.map fun (n,k)=>if (k==NameKind.free&&env.scope.kind==.function&&env.kindOf n==some .cell) then (n,NameKind.cell) else (n,k)))=List.lookup x (r.map fun (n,k)=>if (k==NameKind.free&&env.scope.kind==.function&&env.kindOf n==some .cell) then (n,NameKind.cell) else (n,k)):=fun k'=>by rw [gJ,hx]
   have e2:List.lookup x ((n,k)::r)=List.lookup x r:=by rw [gJ,hx]
   rw [e2,<- CM r x];show List.lookup x ((if (k==NameKind.free&&env.scope.kind==.function&&env.kindOf n==some .cell)=true then (n,NameKind.cell) else (n,k))::_)=_;by_cases hc:(k==NameKind.free&&env.scope.kind==.function&&env.kindOf n==some .cell)=true
   .rw [if_pos hc];exact e _
   .rw [if_neg hc];exact e _
  | true =>
   have en:x=n:=lQ.mp hx;subst en;have e2:List.lookup x ((x,k)::r)=some k:=by rw [gJ,lO]
   rw [e2];have e:∀ k',List.lookup x ((x,k')::(r.map fun (n,k)=>if (k==NameKind.free&&env.scope.kind==.function&&env.kindOf n==some .cell) then (n,NameKind.cell) else (n,k)))=some k':=fun k'=>by rw [gJ,lO]
   cases k<;>simp only [beq_self_eq_true,Bool.true_and,Bool.false_and,Bool.false_eq_true,if_false,show (NameKind.local==NameKind.free)=false from rfl,show (NameKind.cell==NameKind.free)=false from rfl,show (NameKind.globalExplicit==NameKind.free)=false from rfl,show (NameKind.globalImplicit==NameKind.free)=false from rfl]<;>first | exact e _ | (split<;>exact e _)
noncomputable def eN (sc:Scope) (N:List Str):List Str:=N.filter fun y=>sc.names.lookup y==some .free
noncomputable def eI (sc:Scope):List Str->St->St
 | x::N,o::O=>if sc.names.lookup x==some .free then o::eI sc N O else eI sc N O
 | _,_=>[]
theorem CN (sc:Scope):∀ (N:List Str) (O:St),O.length=N.length->(eI sc N O).length=(eN sc N).length
 | [],[],_=>rfl
 | [],_::_,h=>by simp at h
 | _::_,[],h=>by simp at h
 | x::N,o::O,h=>by
  unfold eI eN;rw [jT];have ih:=CN sc N O (by simpa using h);unfold eN at ih;split
  .simp [ih]
  .exact ih
theorem CO (sc:Scope) {x:Str} (hx:sc.names.lookup x=some .free):∀ (N:List Str) (O:St),O.length=N.length->∀ {j:Nat} {v:V},N[j]?=some x->O[j]?=some (some v)->∃ (i:Nat),(eN sc N)[i]?=some x/\(eI sc N O)[i]?=some (some v)
 | [],[],_,j,v,h1,h2=>by simp at h1
 | [],_::_,h,_,_,_,_=>by simp at h
 | _::_,[],h,_,_,_,_=>by simp at h
 | y::N,o::O,h,0,v,h1,h2=>by
  simp at h1 h2;subst h1 h2;refine ⟨0,?_,?_⟩
  .unfold eN;rw [jT,if_pos (by rw [hx];rfl)];rfl
  .unfold eI;rw [if_pos (by rw [hx];rfl)];rfl
 | y::N,o::O,h,j+1,v,h1,h2=>by
  obtain ⟨i,h3,h4⟩:=CO sc hx N O (by simpa using h) (j:=j) (v:=v) (by simpa using h1) (by simpa using h2);unfold eN at h3 ⊢;rw [jT];unfold eI;split
  .exact ⟨i+1,by simpa using h3,by simpa using h4⟩
  .exact ⟨i,h3,h4⟩
theorem wG (sc:Scope):∀ (N:List Str) (O:St) {i:Nat} {x:Str} {v:V},(eN sc N)[i]?=some x->(eI sc N O)[i]?=some (some v)->O.length=N.length->sc.names.lookup x=some .free/\∃ (j:Nat),N[j]?=some x/\O[j]?=some (some v)
 | [],_,i,x,v,h1,_,_=>by unfold eN at h1;simp at h1
 | _::_,[],_,_,_,_,_,h=>by simp at h
 | y::N,o::O,i,x,v,h1,h2,h=>by
  unfold eN at h1;rw [jT] at h1;unfold eI at h2;by_cases hy:(sc.names.lookup y==some .free)=true
  .rw [if_pos hy] at h1 h2;cases i with
   | zero =>simp at h1 h2;subst h1 h2;exact ⟨by simpa using hy,0,rfl,rfl⟩
   | succ i =>obtain ⟨h3,j,h4,h5⟩:=wG sc N O (i:=i) (by simpa [eN] using h1) (by simpa using h2) (by simpa using h);exact ⟨h3,j+1,by simpa using h4,by simpa using h5⟩
  .rw [if_neg hy] at h1 h2;obtain ⟨h3,j,h4,h5⟩:=wG sc N O (i:=i) (by simpa [eN] using h1) h2 (by simpa using h);exact ⟨h3,j+1,by simpa using h4,by simpa using h5⟩
noncomputable def blk (X:Cx) (pj:Pq) (scope:Scope) (xs:List Str) (fp:List Addr) (qz:Shared) (qy:Hp):Cx where
 prog:=X.prog
 w:=X.w
 K:=X.K
 mg:=X.mg
 base:=X.base
 A:=X.A
 N:=xs++eN scope X.N
 s₀:=qz
 H₀:=qy
 env:={ scope:=relabel scope X.env,locals:=qz.heap.objs.size,globals:=X.env.globals,cells:=cellsFrom (qz.heap.objs.size+1) scope.names (eZ X.env scope.names []),qual:=X.env.qual,func:=none,code:=X.env.code,frame:=X.env.frame,builtins:=X.env.builtins }
 outer:=X.stack
 stack:=X.stack
 ex:=fp
 fn:=fun x=>scope.names.lookup x==some .cell
 calm:=X.calm
 pn:=X.pn++pj
 xe:=fun _ _=>False
structure CompSc (X:Cx) (scope:Scope) (xs:List Str):Prop where
 kind:scope.kind=.function
 nd:xs.Nodup
 own:∀ x∈xs,scope.names.lookup x=some .local\/scope.names.lookup x=some .cell
 free:∀ y∈scope.names,y.2=.free->scope.names.lookup y.1=some .free/\(X.env.kindOf y.1=some .cell\/X.env.kindOf y.1=some .free)
 loc:∀ y∈scope.names,y.2=.local->scope.names.lookup y.1=some .local
 cel:∀ y∈scope.names,y.2=.cell->scope.names.lookup y.1=some .cell
section
variable {X:Cx} {pj:Pq} {scope:Scope} {xs:List Str} {fp:List Addr} {qz:Shared} {qy:Hp} {O:St}
theorem CompSc.has (S:CompSc X scope xs) (ok:X.Ok):∀ y∈scope.names,y.2=.free->∃ c,X.env.cells.lookup y.1=some c:=fun y hy hf=>ok.has y.1 (S.free y hy hf).2
theorem mC (scope:Scope) (X:Cx) (pj:Pq) (xs:List Str) (fp:List Addr) (qz:Shared) (qy:Hp) (x:Str):(blk X pj scope xs fp qz qy).env.scope.names.lookup x =
  (match scope.names.lookup x with | some .free=>if (X.env.scope.kind==.function&&X.env.kindOf x==some .cell) then some .cell else some .free | o=>o):=CM scope.names x
theorem nQ (S:CompSc X scope xs) (ok:X.Ok) {x:Str} {c:Addr} (h:(blk X pj scope xs fp qz qy).env.cells.lookup x=some c) :
  (qz.heap.objs.size+1<=c/\(x,c)∈cellsFrom (qz.heap.objs.size+1) scope.names []/\(x,NameKind.cell)∈scope.names)\/((cellsFrom (qz.heap.objs.size+1) scope.names []).lookup x=none/\X.env.cells.lookup x=some c):=by
 rcases NF h with h | ⟨h1,h2⟩
 .obtain ⟨h1,h2⟩:=qZ scope.names _ h;exact .inl ⟨h1,h,h2⟩
 .exact .inr ⟨h1,pI scope.names [] (fun _ _ e=>by cases e) (S.has ok) x c h2⟩
theorem mE {l:List (Str × NameKind)} {x:Str} {k:NameKind} (h:l.lookup x=some k):(x,k)∈l:=PySem.mem_of_lookup h
theorem CP (S:CompSc X scope xs) (I:Inv X pj O qy qz) (ff:∀ b∈fp,eQ X pj qy b) (fl:∀ b∈fp,b<qz.heap.objs.size):(blk X pj scope xs fp qz qy).Ok where
 mod:=I.ok.mod
 kind:=S.kind
 glob:=I.ok.glob
 blt:=I.ok.blt
 above:=aW _
 inj:=fun x y c h1 h2=>by
  have up:∀ {z:Str} {c:Addr},X.env.cells.lookup z=some c->c<qz.heap.objs.size:=fun {z c} h=>by obtain ⟨v,q⟩:=I.cell z c h;exact q.lt
  rcases nQ S I.ok h1 with ⟨a1,a2,_⟩ | ⟨_,a2⟩<;>rcases nQ S I.ok h2 with ⟨b1,b2,_⟩ | ⟨_,b2⟩
  .have ok:=cellsFrom_ok scope.names (qz.heap.push { cls:=.type "dict",data:=.dict #[] }) (qz.heap.objs.size+1) [] ⟨fun _ _ hm=>(nomatch hm),List.Pairwise.nil⟩ (by rw [eL];exact aW _);rw [eL] at ok;exact name_of_addr ok.apart a2 b2
  .exact absurd (dI (up b2) (Nat.le_of_succ_le a1)) (gK _)
  .exact absurd (dI (up a2) (Nat.le_of_succ_le b1)) (gK _)
  .exact I.ok.inj x y c a2 b2
 has:=fun x h=>by
  have h':(blk X pj scope xs fp qz qy).env.scope.names.lookup x=some .cell\/(blk X pj scope xs fp qz qy).env.scope.names.lookup x=some .free:=h;rw [mC] at h';have key:(x,NameKind.cell)∈scope.names\/(x,NameKind.free)∈scope.names:=by
   cases e:scope.names.lookup x with
   | none=>rw [e] at h';rcases h' with h' | h'<;>cases h'
   | some k =>
    rw [e] at h';cases k with
    | cell=>exact .inl (mE e)
    | free=>exact .inr (mE e)
    | _=>rcases h' with h' | h'<;>cases h'
  refine Option.isSome_iff_exists.mp (rA scope.names _ _ ?_);rcases key with k | k
  .exact .inl k
  .exact .inr (nI scope.names [] (.inl k))
 cab:=fun x c hf h=>by
  have hf':scope.names.lookup x=some .cell:=by simpa [blk] using hf
  have hs:=rA (x:=x) scope.names (qz.heap.objs.size+1) [] (.inl (mE hf'));rcases nQ S I.ok h with ⟨a1,_⟩ | ⟨a1,_⟩
  .exact Nat.le_of_lt (dI (Nat.lt_succ_self _) a1)
  .rw [a1] at hs;cases hs
 hd:=I.ok.hd
 frames:=I.ok.frames
 stk:=.inl rfl
 exf:=fun b hb=>⟨bP (fl b hb),fun x c h=>by
  rcases nQ S I.ok h with ⟨a1,_⟩ | ⟨_,a2⟩
  .exact fun z=>by have h1:=fl b hb;rw [<- z] at h1;exact absurd (dI h1 (Nat.le_of_succ_le a1)) (gK _)
  .exact (ff b hb).2.2.2.2.1 x c a2⟩
 bs:=I.bs
 bsz:=dS I.ok.bsz I.sz
 noex:=fun b o e hb=>by
  obtain ⟨_,_,_,h4,_⟩:=ff b hb;rcases h4 with h4 | h4
  .exact I.ok.noex b o e h4
  .exact absurd (dI (aX (I.ok.bs b o e).1) h4) (gK _)
 exfs:=fun b hb hf=>by
  rcases omc (I.stkSub b hf) with z | z
  .exact (ff b hb).2.1 z
  .exact (ff b hb).2.2.1 z
 funs:=I.stack
 frf:=I.stkFree
def pM (scope:Scope) (xs:List Str) (N:List Str) (O:St):St:=List.replicate xs.length none++eI scope N O
theorem QC (S:CompSc X scope xs) (I:Inv X pj O qy qz) (ff:∀ b∈fp,eQ X pj qy b) (fl:∀ b∈fp,b<qz.heap.objs.size) :
  Inv (blk X pj scope xs fp qz qy) [] (pM scope xs X.N O) qy { qz with heap:=pushCells (qz.heap.push { cls:=.type "dict",data:=.dict #[] }) scope.names }:=by
 have keep:∀ b o,qz.heap.get? b=some o->(pushCells (qz.heap.push { cls:=.type "dict",data:=.dict #[] }) scope.names).get? b=some o:=fun b o e=>pushCells_keeps _ _ b o (aR _ e);have cok:=cellsFrom_ok scope.names (qz.heap.push { cls:=.type "dict",data:=.dict #[] }) (qz.heap.objs.size+1) [] ⟨fun _ _ hm=>(nomatch hm),List.Pairwise.nil⟩ (by rw [eL];exact aW _);rw [eL] at cok;have hlen:O.length=X.N.length:=I.len;refine ⟨CP S I ff fl,rfl,I.bare,Un.kept keep,⟨fun _=>none,(Heap.Ns.new qz.heap (.type "dict")).keeps (pushCells_keeps _ _),fun i x v e1 e2 e3=>?_⟩,fun x c h=>?_,I.fresh,fun x c h=>?_,fun p hp=>?_,I.hok.kept keep,?_⟩
 .have hi:xs.length<=i:=by refine Nat.le_of_not_lt fun hlt=>?_;unfold pM at e2;rw [oQ (by simpa using hlt),List.getElem?_replicate] at e2;split at e2<;>cases e2
  have e1':(eN scope X.N)[i-xs.length]?=some x:=by have e1:(xs++eN scope X.N)[i]?=some x:=e1;rw [zF hi] at e1;exact e1
  have e2':(eI scope X.N O)[i-xs.length]?=some (some v):=by unfold pM at e2;rw [oP (by simpa using hi)] at e2;simpa using e2
  obtain ⟨hf,j,h1,h2⟩:=wG scope X.N O e1' e2' hlen;have hm:=mE hf;have hk:=(S.free _ hm rfl).2;obtain ⟨m,hn,hl⟩:=I.loc;obtain ⟨u,r,l⟩:=hl j x v h1 h2 (hk.elim (fun z=>.inr (.inl z)) fun z=>.inr (.inr z));refine ⟨u,r,?_⟩;rcases l with ⟨k,_⟩ | ⟨k,c,hc,z⟩
  .rcases hk with hk | hk<;>rw [hk] at k<;>cases k
  .refine .inr ⟨?_,c,?_,?_⟩
   .show (blk X pj scope xs fp qz qy).env.scope.names.lookup x=_\/(blk X pj scope xs fp qz qy).env.scope.names.lookup x=_;rw [mC,hf];dsimp only;split
    .exact .inl rfl
    .exact .inr rfl
   .show (cellsFrom (qz.heap.objs.size+1) scope.names (eZ X.env scope.names [])).lookup x=some c;have e0:(cellsFrom (qz.heap.objs.size+1) scope.names []).lookup x=none:=by
     cases q:(cellsFrom (qz.heap.objs.size+1) scope.names []).lookup x with
     | none=>rfl
     | some d =>have:=S.cel _ (qZ scope.names _ (PySem.mem_of_lookup q)).2 rfl;rw [hf] at this;cases this
    rw [nJ,List.lookup_append,e0,NE (S.has I.ok) hm];exact hc
   .obtain ⟨o,ho,hd⟩:=z;exact ⟨o,keep c o ho,hd⟩
 .rcases nQ S I.ok h with ⟨_,a2,_⟩ | ⟨_,a2⟩
  .exact ⟨_,(cok.empty x c a2).1⟩
  .obtain ⟨v,o,ho,hd⟩:=I.cell x c a2;exact ⟨v,o,keep c o ho,hd⟩
 .rcases nQ S I.ok h with ⟨a1,_⟩ | ⟨_,a2⟩
  .exact I.hok.fresh (by lia)
  .exact I.freeC x c a2
 .have hp':p∈X.pn++pj:=by have hp:p∈(X.pn++pj)++[]:=hp;rw [dP] at hp;exact hp
  obtain ⟨e,n,ne,nf,d⟩:=I.pin p hp';refine ⟨keep p.1 p.2 e,n,bP (aX e),fun z=>?_,d⟩;rcases omc (I.stkSub p.1 z) with q | q
  .exact ne q
  .exact nf q
 .unfold pM;show _=(xs++eN scope X.N).length;rw [eU,eU,List.length_replicate,CN scope X.N O hlen]
theorem QD {elt iter tg:Expr} {ifs:List Expr} {pos:Pos} {J:It} {it:Addr} {tn:Nat->Heap->Prop} {H2:Hp} {s2:Shared} {E:Vq} {g:Shared->Hp->TG} {tc:Shared->Hp->TT} {te:Shared->Hp->TE}
  (hc:X.calm=true) (S:CompSc X scope xs) (I2:Inv X pj O H2 s2) (T:Turn X.prog X.w X.K tg J fp it tn) (st2:tn 0 s2.heap) (f2:∀ b∈fp,eQ X pj H2 b)
  (hg:∀ qz qy,(blk X pj scope xs fp qz qy).Ok->PG (blk X pj scope xs fp qz qy) tg (g qz qy))
  (hi:∀ qz qy,(blk X pj scope xs fp qz qy).Ok->∀ (pn:Pq) (s:Shared) (O:St) (H:Hp) (Q:Bool->Hp->Prop),Inv (blk X pj scope xs fp qz qy) pn O H s->tc qz qy O H Q ->
   wpAny (model X.prog X.w) X.A (forIn ifs true fun c r=>if r=true then do let ok <- isTrue c (blk X pj scope xs fp qz qy).env (eval c (blk X pj scope xs fp qz qy).env);pure (ForInStep.yield ok) else pure (ForInStep.yield r)) (TP (blk X pj scope xs fp qz qy) pn O Q) (fun _ _=>False) s)
  (he:∀ qz qy,(blk X pj scope xs fp qz qy).Ok->PE (blk X pj scope xs fp qz qy) elt (te qz qy))
  (W:Addr->Nat->Nat->St->Hp->Prop) (R:Addr->Hp->Prop)
  (start:∀ D,H2 D=none->∃ m,W D 0 m (pM scope xs X.N O) (aJ H2 D (.lst [])))
  (turn:∀ qz qy D i m O' H',(blk X pj scope xs fp qz qy).Ok->W D i m O' H'->(J.stop i H'/\R D H')\/(J.go i H'/\∃ N:St->Hp->Prop,(∀ O'' H'',N O'' H''->∃ m',m'<m/\W D (i+1) m' O'' H'') /\
   ∀ x H5,J.yld i H' x H5->g qz qy x O' H5 fun O2 H6=>tc qz qy O2 H6 fun ok H7=>if ok=true then te qz qy O2 H7 fun y H8=>∃ ys,H8 D=some (.lst ys)/\ys.length<sizeLine/\N O2 (aJ H8 D (.lst (ys++[y]))) else N O2 H7)) :
  wpAny (model X.prog X.w) X.A (newList []) (fun acc qz=>wpAny (model X.prog X.w) X.A (newFunctionEnv scope X.env.globals (eZ X.env scope.names []) [] X.env.qual none .none (some X.env)) (fun cenv s₄ =>
   codeAny (model X.prog X.w) X.A (.compStart (.ListComp elt [⟨tg,iter,ifs,0⟩] scope pos) 0 (.ref it) acc { cenv with scope:=relabel scope X.env })
    (fun r s'=>r=.ok .next/\∃ D H',acc=.ref D/\Inv X pj O H' s'/\eQ X pj H' cenv.locals/\(∃ m,s'.heap.Ns cenv.locals m)/\R D H') s₄) E qz) E s2:=by
 refine jG ?_ (by size_fits);have I3:Inv X pj O (aJ H2 s2.heap.objs.size (.lst [])) { s2 with heap:=s2.heap.push { cls:=.type "list",data:=.seq ([]:List Value).toArray } }:=I2.lnew (t':=s2.toks) (ys:=[]) (qc:=[]) .nil (iH _);have hD:H2 s2.heap.objs.size=none:=I2.fresh;have fl2:∀ b∈fp,b<s2.heap.objs.size:=fun b hb=>by obtain ⟨o,e,_⟩:=T.obj 0 _ st2 b hb;exact aX e
 have hsz:(s2.heap.push { cls:=.type "list",data:=.seq ([]:List Value).toArray }).objs.size=s2.heap.objs.size+1:=eL ..;have f3:∀ b∈fp,eQ X pj (aJ H2 s2.heap.objs.size (.lst [])) b:=fun b hb=>⟨by rw [aN (bP (fl2 b hb))];exact (f2 b hb).1,(f2 b hb).2⟩;have fl3:∀ b∈fp,b<(s2.heap.push { cls:=.type "list",data:=.seq ([]:List Value).toArray }).objs.size:=fun b hb=>by rw [hsz];exact Nat.lt_succ_of_lt (fl2 b hb)
 refine NG ?_;generalize hs3:({ s2 with heap:=s2.heap.push { cls:=.type "list",data:=.seq ([]:List Value).toArray } }:Shared)=s3 at I3 fl3 ⊢;have fl3:∀ b∈fp,b<s3.heap.objs.size:=by rw [<- hs3];exact fl3
 have st3:tn 0 s3.heap:=T.keep 0 _ _ st2 fun b _ o e=>by rw [<- hs3];exact aR _ e
 generalize hH3:aJ H2 s2.heap.objs.size (.lst [])=H3 at I3 f3;obtain ⟨m0,w0⟩:=start s2.heap.objs.size hD;rw [hH3] at w0;generalize hDD:s2.heap.objs.size=D at w0;have BOk:=CP (fp:=fp) S I3 f3 fl3;have I4:=QC (fp:=fp) S I3 f3 fl3;have hg':=hg s3 H3 BOk;have hi':=hi s3 H3 BOk;have he':=he s3 H3 BOk;have st4:tn 0 (pushCells (s3.heap.push { cls:=.type "dict",data:=.dict #[] }) scope.names):=T.keep 0 _ _ st3 fun b _ o e=>pushCells_keeps _ _ b o (aR _ e);have stat:∀ {H':Hp} {pn:Pq},pn=[]->(∀ b∈fp,H' b=none)->∀ b∈fp,eQ (blk X pj scope xs fp s3 H3) pn H' b:=fun {H' pn} hp hn b hb=>by subst hp;refine ⟨hn b hb,(BOk.exf b hb).1,BOk.exfs b hb,.inl hb,(BOk.exf b hb).2,fun p hp=>?_⟩;have hp:p∈(X.pn++pj)++[]:=hp;rw [dP] at hp;exact (f3 b hb).2.2.2.2.2 p hp
 have loop:codeAny (model X.prog X.w) X.A (.compLoop (.ListComp elt [⟨tg,iter,ifs,0⟩] scope pos) 0 (.ref it) (.ref D) (blk X pj scope xs fp s3 H3).env)
   (fun r s'=>r=.ok .next/\∃ D' H',Value.ref D=.ref D'/\Inv X pj O H' s'/\eQ X pj H' s3.heap.objs.size/\(∃ m,s'.heap.Ns s3.heap.objs.size m)/\R D' H') { s3 with heap:=pushCells (s3.heap.push { cls:=.type "dict",data:=.dict #[] }) scope.names }:=by
  refine codeAny_loop rfl (fun n s'=>∃ i O' H',Inv (blk X pj scope xs fp s3 H3) [] O' H' s'/\tn i s'.heap/\(∀ b∈fp,H' b=none)/\W D i n O' H') ?_ m0 ⟨0,_,_,I4,st4,fun b hb=>(f3 b hb).1,w0⟩;rintro n s5 ⟨i,O5,H5,I5,st5,fr5,w5⟩;show wpAny _ X.A ((compTurn (.ListComp elt [⟨tg,iter,ifs,0⟩] scope pos) 0 (.ref it) (.ref D) (blk X pj scope xs fp s3 H3).env).onRaise (fun x=>do noteFrame x (blk X pj scope xs fp s3 H3).env;theTreesLotGoes x)) _ _ s5;refine wpAny_noted ?_;rw [compTurn_list];refine aA (wpAny_standAt (aA ?_));rcases turn s3 H3 D i n O5 H5 BOk w5 with ⟨stop,q⟩ | ⟨go,N,hN,step⟩
  .refine thn (T.done (blk X pj scope xs fp s3 H3) rfl rfl rfl hc i [] s5 O5 H5 _ I5 (stat rfl fr5) st5 stop) fun r s6 ⟨hr,I6⟩=>?_;subst hr;refine aL ⟨rfl,D,H5,rfl,?_,?_,?_,q⟩
   .exact I3.call' I6.os I6.base I6.hok I6.bare fun b hb=>⟨(f3 b hb).2.2.2.1,(f3 b hb).2.1,(f3 b hb).2.2.2.2.1,(f3 b hb).2.2.2.2.2⟩
   .exact I3.fpOk (aW _) I6.free
   .obtain ⟨m,hn,_⟩:=I6.loc;exact ⟨m,hn⟩
  .refine thn (T.item (blk X pj scope xs fp s3 H3) rfl rfl rfl hc i [] s5 O5 H5 _ I5 (stat rfl fr5) st5 go) fun r s6 ⟨u,hr,h6⟩=>?_;subst hr;refine aA (thn h6 fun _ s7 ⟨x,H7,I7,r7,y7,st7,fr7⟩=>?_);have I7':=I7.pinned (stat rfl fr7) (T.obj _ _ st7);have hl:∀ {α:Type} {t:Sem α} {Q:α->Shared->Prop} {E':Vq} {s:Shared},wpAny (model X.prog X.w) X.A t Q (fun _ _=>False) s->wpAny (model X.prog X.w) X.A t Q E' s:=fun h=>fS h (fun _ _ q=>q) fun _ _ z=>False.elim z;refine aA (hl (thn (hg' _ s7 O5 H7 x u _ I7' r7 (step x H7 y7)) fun _ s8 ⟨O8,H8,I8,q8⟩=>?_));refine aA (hl (thn (hi' _ s8 O8 H8 _ I8 q8) fun ok s9 ⟨H9,I9,q9⟩=>?_));have again:∀ {O7:St} {H7':Hp} {s7':Shared},Inv (blk X pj scope xs fp s3 H3) ([]++oY fp s7.heap) O7 H7' s7'->N O7 H7'->∃ m,m<n/\∃ i O' H',Inv (blk X pj scope xs fp s3 H3) [] O' H' s7'/\tn i s7'.heap/\(∀ b∈fp,H' b=none)/\W D i m O' H':=fun {O7 H7' s7'} I8 n8=>by obtain ⟨m',hm,w8⟩:=hN O7 H7' n8;refine ⟨m',hm,i+1,O7,H7',I8.unpinned,T.keep _ _ _ st7 fun b hb o e=>(I8.pin (b,o) (iF _ (iF _ (qJ hb e)))).1,fun b hb=>?_,w8⟩;obtain ⟨o,e,d⟩:=T.obj _ _ st7 b hb;exact (I8.pin (b,o) (iF _ (iF _ (qJ hb e)))).2.1
   cases ok with
   | false =>rw [if_neg dH] at q9;exact aL ⟨rfl,again I9 q9⟩
   | true =>rw [if_pos rfl] at q9;refine aA (aA (hl (thn (he' _ s9 O8 H9 _ I9 q9) fun y s10 ⟨yv,H10,I10,r10,ys,e10,z10,q10⟩=>?_)));refine aA (hl (thn (vD (X:=blk X pj scope xs fp s3 H3) _ s10 O8 H10 (.ref D) [yv] (.ref D) [y] (fun _ H'=>N O8 H') I10 rfl (.cons r10 .nil) ⟨D,ys,yv,rfl,rfl,e10,z10,q10⟩) fun _ s11 ⟨_,H11,I11,_,q11⟩=>?_));exact aL (aL ⟨rfl,again I11 q11⟩)
 exact codeAny_compStart_list loop (T.self X.A 0 _ _ _ st4 loop)
end
end
section
open PySem Spec PyProof.Rows
variable {K:W.Frag} {elts:List Expr} {kx:Nat} {pos:Pos}
section
variable {X:Cx} {pj:Pq} {O:St} {H:Hp} {s:Shared} {h':Heap}
theorem Inv.turned2 {it e T:Addr} {xs:List V} {t':Nat} (I:Inv X pj O H s) (k:∀ b o,b≠e->b≠it->s.heap.get? b=some o->h'.get? b=some o) (fe:eQ X pj H e) (fi:eQ X pj H it)
  (hT:s.heap.objs.size<=T) (new:aS X.prog X.w (aJ H T (.tup xs)) h' T (.tup xs)):Inv X pj O (aJ H T (.tup xs)) { s with heap:=h',toks:=t' }:=by
 have hn:H T=none:=I.hok.fresh hT;have nT:∀ {b:Addr} {o:Obj},s.heap.get? b=some o->b≠T:=fun {b o} q=>bP (dI (aX q) hT);have nch:∀ {b:Addr},b∉[e,it]->b≠e/\b≠it:=fun {b} h=>⟨fun z=>h (by simp [z]),fun z=>h (by simp [z])⟩;have nfp:∀ {b:Addr} {u:HO},H b=some u->b≠e/\b≠it:=fun {b u} q=>⟨fun z=>(by rw [z,fe.1] at q;cases q),fun z=>(by rw [z,fi.1] at q;cases q)⟩;refine I.step (g':=s.gens) (d':=s.drawn) (ch:=[e,it]) (fun b hb=>?_) (fun b o _ _ hc q _=>k b o (nch hc).1 (nch hc).2 q) (fun b o _ _ hc q _=>⟨o.slots,k b o (nch hc).1 (nch hc).2 q⟩)
  (fun b o hc q z=>by rw [aN (nT q)];exact z) (fun b o hc q=>⟨o,k b o (nch hc).1 (nch hc).2 q⟩)
  (fun b ys q=>by rw [aN (bQ q hn)];exact q) (fun b o u q=>by rw [aN (bQ q hn)];exact q) (fun b ps q=>⟨#[],by rw [aN (bQ q hn),q];simp⟩) (fun m hm=>?_) (fun b u q=>?_) I.bare
 .rcases omc hb with z | z
  .rw [z];exact ⟨fe.2.2.2.1,fe.2.1,fe.2.2.2.2.1,fe.2.2.2.2.2⟩
  .rw [omg z];exact ⟨fi.2.2.2.1,fi.2.1,fi.2.2.2.2.1,fi.2.2.2.2.2⟩
 .obtain ⟨o,es,ep,ho,r⟩:=hm;exact ⟨o,es,ep,k _ o (Ne.symm fe.2.1) (Ne.symm fi.2.1) ho,r⟩
 .by_cases hb:b=T
  .subst hb;rw [aY] at q;cases q;exact new
  .rw [aN hb] at q;refine (I.hok b u q).stay (fun c v hc z=>?_) (fun c z=>by rw [aN (bQ z hn)];exact z) fun c ys z=>by rw [aN (bQ z hn)];exact z
   rcases hc with rfl | hc
   .exact k c v (nfp q).1 (nfp q).2 z
   .exact k c v (nfp hc).1 (nfp hc).2 z
end
def Ite (sq:Hp->Addr->List V->Prop) (a:Addr):It :=
 ⟨fun i H=>∃ xs x,sq H a xs/\xs[i]?=some x,fun i H x H'=>∃ p v,H p=none/\x=.ref p/\H'=aJ H p (.tup [.int (i:Int),v])/\∀ xs,sq H a xs->xs[i]?=some v,fun i H=>∃ xs,sq H a xs/\xs.length=i⟩
theorem QE {P:Program} {w:World} (a it e:Addr) (hei:e≠it) :
  Turn P w K (.Tuple elts kx pos) (Ite (SqL K) a) [e,it] e (fun i h=>(∃ old,IsEnum h e it (i:Int) old)/\h.IsListIter it a i) where
 mem:=by simp
 obj:=fun i h st b hb=>by
  obtain ⟨⟨old,he⟩,o,ho,hc,hd⟩:=st;rcases omc hb with z | z
  .rw [z];exact ⟨_,he,fun v q=>by cases q⟩
  .rw [omg z];exact ⟨o,ho,fun v q=>by rw [hd] at q;cases q⟩
 keep:=fun i h h' st k=>by obtain ⟨⟨old,he⟩,o,ho,r⟩:=st;exact ⟨⟨old,k e (by simp) _ he⟩,o,k it (by simp) o ho,r⟩
 item:=by
  intro X hP hw hK hc i pj s O H E I hf st hg;subst hP hw hK;obtain ⟨xs,x,hq,hx⟩:=hg;obtain ⟨⟨old,he⟩,hit⟩:=st;obtain ⟨qc,rv,p,hz⟩:=I.list hq;obtain ⟨u,hu,ru⟩:=rv.get hx;have fe:=hf e (by simp);have fi:=hf it (by simp);obtain ⟨ol,hol,hcl,_⟩:=id p.isList;obtain ⟨oi,hoi,hci,_⟩:=id hit;have hai:a≠it:=fun z=>by rw [z,hoi] at hol;cases hol;rw [hci] at hcl;exact absurd hcl (by decide +kernel)
  have hae:e≠a:=fun z=>by have he':s.heap.get? e=_:=he;rw [z,hol] at he';cases he';exact absurd hcl (by show Value.type "enumerate"≠Value.type "list";decide +kernel)
  have D:=Draws.list (prog:=X.prog) (w:=X.w) (A:=X.A.in1) (show X.A.in1.handled=none from I.ok.hd hc) it a hai qc.toArray;have hlt:i<qc.toArray.size:=by have:=rv.length;have h2:=(ome hx).1;rw [cO];lia
  refine wpAny_pyNext_enum_itemD D he ⟨hit,p.isList⟩ hlt hei (fun z=>(omc z).elim hei fun q=>hae (omg q)) fun x' h1 tk hPx ho st1 hT hsz hk=>?_;refine ⟨_,rfl,wpAny_letOwnedTupleGo_enum ho fun h2 he2 hs2=>?_⟩;have hx':x'=u:=by
   have hPx:qc.toArray[i]?=some x':=hPx;have:qc[i]?=some x':=by simpa using hPx
   rw [hu] at this;exact (cP this).symm
  subst hx';have hk2:∀ b o,b≠e->b≠it->s.heap.get? b=some o->h2.get? b=some o:=fun b o hbe hbi q=>(hs2.2 b hbe).trans (hk b o hbe hbi q);have hTe:s.heap.objs.size≠e:=Nat.ne_of_gt (aX he);have I1:Inv X pj O (aJ H s.heap.objs.size (.tup [.int (i:Int),x])) { s with heap:=h2,toks:=tk+1 }:=I.turned2 hk2 fe fi (aW _)
   ⟨by show 2<=sizeLine;decide,[.int (i:Int) tk,x'],.cons ⟨_,rfl⟩ (.cons ru .nil),⟨_,(hs2.2 _ hTe).trans hT,rfl,_,rfl⟩⟩
  refine ⟨.ref s.heap.objs.size,_,I1,rfl,⟨_,x,I.fresh,rfl,rfl,fun ys hy=>by rw [I.list_inj hy hq];exact hx⟩,⟨⟨_,by simpa using he2⟩,?_⟩,fun b hb=>?_⟩
  .obtain ⟨o,ho',r⟩:=st1.1;exact ⟨o,(hs2.2 it (Ne.symm hei)).trans ho',r⟩
  .have hb0:=(hf b hb).1;have hbl:b<s.heap.objs.size:=by
    rcases omc hb with z | z
    .rw [z];exact aX he
    .rw [omg z];exact aX hoi
   rw [aN (bP hbl)];exact hb0
 done:=by
  intro X hP hw hK hc i pj s O H E I hf st hg;subst hP hw hK;obtain ⟨xs,hq,hx⟩:=hg;obtain ⟨⟨old,he⟩,hit⟩:=st;obtain ⟨qc,rv,p,hz⟩:=I.list hq;obtain ⟨ol,hol,hcl,_⟩:=id p.isList;obtain ⟨oi,hoi,hci,_⟩:=id hit;have hai:a≠it:=fun z=>by rw [z,hoi] at hol;cases hol;rw [hci] at hcl;exact absurd hcl (by decide +kernel)
  have D:=Draws.list (prog:=X.prog) (w:=X.w) (A:=X.A.in1) (show X.A.in1.handled=none from I.ok.hd hc) it a hai qc.toArray;have hl:qc.toArray.size=i:=by rw [cO,<- rv.length];exact hx
  obtain ⟨f0,f1,f2,f3,f4,f5⟩:=hf it (by simp);refine wpAny_pyNext_enum_endD D he (by rw [hl];exact ⟨hit,p.isList⟩) fun h1 eb=>⟨rfl,I.turned (t':=s.toks) (fun b o hb q=>eb b o hb q) f0 f1 f3 f4 f5⟩
 self:=fun _ _ _ _ _ st h=>by obtain ⟨⟨old,he⟩,_⟩:=st;exact wpAny_pyIter_enum he h
theorem QF {P:Program} {w:World} (a it e:Addr) (hei:e≠it) :
  Turn P w K (.Tuple elts kx pos) (Ite (SqT K) a) [e,it] e (fun i h=>(∃ old,IsEnum h e it (i:Int) old)/\h.IsTupleIter it a i) where
 mem:=by simp
 obj:=fun i h st b hb=>by
  obtain ⟨⟨old,he⟩,o,ho,hc,hd⟩:=st;rcases omc hb with z | z
  .rw [z];exact ⟨_,he,fun v q=>by cases q⟩
  .rw [omg z];exact ⟨o,ho,fun v q=>by rw [hd] at q;cases q⟩
 keep:=fun i h h' st k=>by obtain ⟨⟨old,he⟩,o,ho,r⟩:=st;exact ⟨⟨old,k e (by simp) _ he⟩,o,k it (by simp) o ho,r⟩
 item:=by
  intro X hP hw hK hc i pj s O H E I hf st hg;subst hP hw hK;obtain ⟨xs,x,hq,hx⟩:=hg;obtain ⟨⟨old,he⟩,hit⟩:=st;obtain ⟨qc,rv,p,hz⟩:=I.tuple hq;obtain ⟨u,hu,ru⟩:=rv.get hx;have fe:=hf e (by simp);have fi:=hf it (by simp);obtain ⟨ol,hol,hcl,_⟩:=id p;obtain ⟨oi,hoi,hci,_⟩:=id hit;have hai:a≠it:=fun z=>by rw [z,hoi] at hol;cases hol;rw [hci] at hcl;exact absurd hcl (by decide +kernel)
  have hae:e≠a:=fun z=>by have he':s.heap.get? e=_:=he;rw [z,hol] at he';cases he';exact absurd hcl (by show Value.type "enumerate"≠Value.type "tuple";decide +kernel)
  have D:=wF (prog:=X.prog) (w:=X.w) (A:=X.A.in1) (show X.A.in1.handled=none from I.ok.hd hc) it a hai qc.toArray;have hlt:i<qc.toArray.size:=by have:=rv.length;have h2:=(ome hx).1;rw [cO];lia
  refine wpAny_pyNext_enum_itemD D he ⟨hit,(show s.heap.IsTuple a qc.toArray from p)⟩ hlt hei (fun z=>(omc z).elim hei fun q=>hae (omg q)) fun x' h1 tk hPx ho st1 hT hsz hk=>?_;refine ⟨_,rfl,wpAny_letOwnedTupleGo_enum ho fun h2 he2 hs2=>?_⟩;have hx':x'=u:=by
   have hPx:qc.toArray[i]?=some x':=hPx;have:qc[i]?=some x':=by simpa using hPx
   rw [hu] at this;exact (cP this).symm
  subst hx';have hk2:∀ b o,b≠e->b≠it->s.heap.get? b=some o->h2.get? b=some o:=fun b o hbe hbi q=>(hs2.2 b hbe).trans (hk b o hbe hbi q);have hTe:s.heap.objs.size≠e:=Nat.ne_of_gt (aX he);have I1:Inv X pj O (aJ H s.heap.objs.size (.tup [.int (i:Int),x])) { s with heap:=h2,toks:=tk+1 }:=I.turned2 hk2 fe fi (aW _)
   ⟨by show 2<=sizeLine;decide,[.int (i:Int) tk,x'],.cons ⟨_,rfl⟩ (.cons ru .nil),⟨_,(hs2.2 _ hTe).trans hT,rfl,_,rfl⟩⟩
  refine ⟨.ref s.heap.objs.size,_,I1,rfl,⟨_,x,I.fresh,rfl,rfl,fun ys hy=>by rw [I.tuple_inj hy hq];exact hx⟩,⟨⟨_,by simpa using he2⟩,?_⟩,fun b hb=>?_⟩
  .obtain ⟨o,ho',r⟩:=st1.1;exact ⟨o,(hs2.2 it (Ne.symm hei)).trans ho',r⟩
  .have hb0:=(hf b hb).1;have hbl:b<s.heap.objs.size:=by
    rcases omc hb with z | z
    .rw [z];exact aX he
    .rw [omg z];exact aX hoi
   rw [aN (bP hbl)];exact hb0
 done:=by
  intro X hP hw hK hc i pj s O H E I hf st hg;subst hP hw hK;obtain ⟨xs,hq,hx⟩:=hg;obtain ⟨⟨old,he⟩,hit⟩:=st;obtain ⟨qc,rv,p,hz⟩:=I.tuple hq;obtain ⟨ol,hol,hcl,_⟩:=id p;obtain ⟨oi,hoi,hci,_⟩:=id hit;have hai:a≠it:=fun z=>by rw [z,hoi] at hol;cases hol;rw [hci] at hcl;exact absurd hcl (by decide +kernel)
  have D:=wF (prog:=X.prog) (w:=X.w) (A:=X.A.in1) (show X.A.in1.handled=none from I.ok.hd hc) it a hai qc.toArray;have hl:qc.toArray.size=i:=by rw [cO,<- rv.length];exact hx
  obtain ⟨f0,f1,f2,f3,f4,f5⟩:=hf it (by simp);refine wpAny_pyNext_enum_endD D he (by rw [hl];exact ⟨hit,(show s.heap.IsTuple a qc.toArray from p)⟩) fun h1 eb=>⟨rfl,I.turned (t':=s.toks) (fun b o hb q=>eb b o hb q) f0 f1 f3 f4 f5⟩
 self:=fun _ _ _ _ _ st h=>by obtain ⟨⟨old,he⟩,_⟩:=st;exact wpAny_pyIter_enum he h
section
variable {X:Cx} {tg:Expr}
theorem QG {l:Expr} {tl:TE} (hl:PE X l tl):PI X tg l (fun O H R=>tl O H fun x H1=>∃ a,x=.ref a/\((∃ xs,SqL X.K H1 a xs/\R (Itl X.K a) H1)\/∃ xs,SqT X.K H1 a xs/\R (Itt X.K a) H1)):=by
 intro pj s O H R I h;refine thn (hl pj s O H _ I h) fun v s1 ⟨x,H1,I1,r1,q1⟩=>?_;obtain ⟨a,e,q1⟩:=q1;subst e;cases r1;rcases q1 with ⟨xs,hq,q⟩ | ⟨xs,hq,q⟩
 .obtain ⟨qc,rv,p,hz⟩:=I1.list hq;refine wpAny_pyIter_list p.isList ?_;refine ⟨s1.heap.objs.size,[s1.heap.objs.size],_,_,H1,rfl,I1.kept (t':=s1.toks) fun b o e=>aR _ e,JO a _,⟨_,bW _ rfl,rfl,rfl⟩,fun b hb=>?_,q⟩;have e:b=s1.heap.objs.size:=by simpa using hb
  subst e;exact I1.fpOk (aW _) (I1.hok.fresh (aW _))
 .obtain ⟨qc,rv,p,hz⟩:=I1.tuple hq;refine lP (show s1.heap.IsTuple a qc.toArray from p) ?_;refine ⟨s1.heap.objs.size,[s1.heap.objs.size],_,_,H1,rfl,I1.kept (t':=s1.toks) fun b o e=>aR _ e,JP a _,⟨_,bW _ rfl,rfl,rfl⟩,fun b hb=>?_,q⟩;have e:b=s1.heap.objs.size:=by simpa using hb
  subst e;exact I1.fpOk (aW _) (I1.hok.fresh (aW _))
theorem QH {a:Expr} {ta:TA} {p p2:Pos} (hg:Gl X "enumerate") (hm:X.mg "enumerate"=none) (ha:PA X [a] ta) (hs:starEach [a] X.env=[(false,eval a X.env)]) :
  PI X (.Tuple elts kx p2) (.Call (.Name "enumerate" p) [a] [] pos) (fun O H R=>ta O H fun vs H1=>∃ a,vs=[.ref a]/\((∃ xs,SqL X.K H1 a xs/\R (Ite (SqL X.K) a) H1)\/∃ xs,SqT X.K H1 a xs/\R (Ite (SqT X.K) a) H1)):=by
 intro pj s O H R I h;refine Call_ (lS I hg hm boot_enumerate (PyProof.Rows.callWith_type1 (thn (ha pos pj s O H _ I h) fun us s1 ⟨vs,H1,I1,r1,q1⟩=>?_) hs rfl));obtain ⟨l,e,q1⟩:=q1;subst e;obtain ⟨u,rfl,rx⟩:=jI r1;cases rx;have fin:∀ {h':Heap} {J:It} {tn:Nat->Heap->Prop},(∀ b o,s1.heap.get? b=some o->h'.get? b=some o)->h'.objs.size=s1.heap.objs.size+2 ->
   Turn X.prog X.w X.K (.Tuple elts kx p2) J [s1.heap.objs.size+1,s1.heap.objs.size] (s1.heap.objs.size+1) tn->tn 0 h'->R J H1->PIE X pj O (.Tuple elts kx p2) R (.ref (s1.heap.objs.size+1)) { s1 with heap:=h' }:=fun {h' J tn} hk hsz T st q=>by
  refine ⟨s1.heap.objs.size+1,[s1.heap.objs.size+1,s1.heap.objs.size],tn,J,H1,rfl,I1.kept (t':=s1.toks) hk,T,st,fun b hb=>?_,q⟩;rcases omc hb with z | z
  .rw [z];exact I1.fpOk (Nat.le_succ _) (I1.hok.fresh (Nat.le_succ _))
  .rw [omg z];exact I1.fpOk (aW _) (I1.hok.fresh (aW _))
 have hne:s1.heap.objs.size+1≠s1.heap.objs.size:=Nat.succ_ne_self _;rcases q1 with ⟨xs,hq,q⟩ | ⟨xs,hq,q⟩
 .obtain ⟨qc,rv,pl,hz⟩:=I1.list hq;refine call_enumerate_list pl.isList fun h' he hit hsz hk=>?_;exact wpAny_pyIter_enum (s:={ s1 with heap:=h' }) he (fin hk hsz (QE l s1.heap.objs.size (s1.heap.objs.size+1) hne) ⟨⟨_,by simpa using he⟩,hit⟩ q)
 .obtain ⟨qc,rv,pl,hz⟩:=I1.tuple hq;refine QB (show s1.heap.IsTuple l qc.toArray from pl) fun h' he hit hsz hk=>?_;exact wpAny_pyIter_enum (s:={ s1 with heap:=h' }) he (fin hk hsz (QF l s1.heap.objs.size (s1.heap.objs.size+1) hne) ⟨⟨_,by simpa using he⟩,hit⟩ q)
end
end
end L2
namespace Ev
open PySem W Spec PyProof.Rows L2
section
section
variable {prog:Program} {w:World} {A:Around} {E:Vq} {s:Shared}
theorem QI {stored:List Value} {Q:Bool->Shared->Prop} (hst:∀ v∈stored,∃ k b,v=.ref b/\IsTupleKey (cR prog w) s.heap k b) (h:Q false s):wpAny (model prog w) A (tableMayTell .none stored) Q E s:=by
 unfold tableMayTell;by_cases he:stored.isEmpty=true
 .rw [if_pos he];exact aL h
 .rw [if_neg he];rw [eqIsQuiet_byValue 8 (v:=.none) rfl];refine aA (aL ?_);simp only [Bool.not_true,Bool.false_eq_true,if_false];refine aA ?_;refine wpAny_forIn_list _ (fun rest r s'=>s'=s/\r=(none,())/\∀ v∈rest,∃ k b,v=.ref b/\IsTupleKey (cR prog w) s.heap k b) _ ?_ ?_ _ _ ⟨rfl,rfl,hst⟩
  .rintro x rest r s' ⟨rfl,rfl,hr⟩;obtain ⟨k',b,rfl,hb⟩:=hr x dW;refine aA (wpAny_eqIsQuiet_tuple hb ?_);simp only [Bool.not_true,Bool.false_eq_true,if_false];exact aL ⟨rfl,rfl,fun v hv=>hr v (cK _ hv)⟩
  .rintro r s' ⟨rfl,rfl,_⟩;exact aL h
theorem QJ {d:Addr} {o:Obj} {es:Array DictEntry} {ep:Nat} {Q:Option Nat->Shared->Prop} (hu:A.units<cLine) (ho:s.heap.get? d=some o) (hd:o.data=.dict es ep)
  (hk:∀ e∈es,∃ k b,e.key=.ref b/\IsTupleKey (cR prog w) s.heap k b) (h:Q none s) (hs:Int):wpAny (model prog w) A (dictFind d .none hs) Q E s:=by
 unfold dictFind
 try with_reducible refine gU ?_
 refine aA (qC ho hd ?_);dsimp only;have hst:∀ v∈(placesWithHash es.size (fun i=>es[i]?.map (·.hash)) hs).filterMap (fun i=>es[i]?.map (·.key)),∃ k b,v=.ref b/\IsTupleKey (cR prog w) s.heap k b:=by
  intro v hv;obtain ⟨i,_,hi⟩:=jE.mp hv;cases hei:es[i]? with
  | none=>rw [hei] at hi;cases hi
  | some e =>
   rw [hei] at hi;obtain rfl:e.key=v:=by simpa using hi
   exact hk e (Array.mem_of_getElem? hei)
 by_cases hall:((Value.none::(placesWithHash es.size (fun i=>es[i]?.map (·.hash)) hs).filterMap (fun i=>es[i]?.map (·.key))).all carriedByValue)=true
 .rw [if_pos hall];have hnil:(placesWithHash es.size (fun i=>es[i]?.map (·.hash)) hs)=[]:=by
   cases hp:placesWithHash es.size (fun i=>es[i]?.map (·.hash)) hs with
   | nil=>rfl
   | cons i r =>
    exfalso;have hi:i∈placesWithHash es.size (fun i=>es[i]?.map (·.hash)) hs:=by rw [hp];exact .head _
    have hi2:=(oN.mp (show i∈(List.range es.size).filter _ from hi)).2;cases hei:es[i]? with
    | none=>dsimp only at hi2;rw [hei] at hi2;simp at hi2
    | some e =>have hm:e.key∈(placesWithHash es.size (fun i=>es[i]?.map (·.hash)) hs).filterMap (fun i=>es[i]?.map (·.key)):=jE.mpr ⟨i,hi,by rw [hei];rfl⟩;obtain ⟨k,b,e1,_⟩:=hst _ hm;have:=oml hall e.key (.tail _ hm);rw [e1] at this;cases this
  rw [hnil];unfold dictWalkPlain;exact aA (aL (aL h))
 .rw [if_neg hall];have hone:¬ (((placesWithHash es.size (fun i=>es[i]?.map (·.hash)) hs).filterMap (fun i=>es[i]?.map (·.key)))==[Value.none])=true:=fun z=>by have z:=dO z;obtain ⟨k,b,e1,_⟩:=hst Value.none (by rw [z];exact .head _);cases e1
  rw [if_neg hone];refine aA (QI hst ?_);rw [if_neg (by simp)];refine aA ?_;refine wpAny_forIn_list _ (fun rest b s'=>s'=s/\b=(none,none)) _ ?_ ?_ _ _ ⟨rfl,rfl⟩
  .rintro x rest b s' ⟨rfl,rfl⟩;cases hei:es[x]? with
   | none=>exact aL ⟨rfl,rfl⟩
   | some e =>
    dsimp only;by_cases hh:(e.hash==hs)=true
    .rw [if_pos hh];obtain ⟨k,b,e1,hb⟩:=hk e (Array.mem_of_getElem? hei);obtain ⟨o',items,n',ho',hc',hd',_⟩:=id hb;refine aA (wpAny_dictEpoch ho hd (aA ?_));rw [e1];refine PySem.SeqAt.EqAt.tuple_none (items:=items) ⟨o',ho',hc',n',hd'⟩ hu prog w E _ (aA (wpAny_dictEpoch ho hd ?_));show wpAny _ _ (if (ep != ep)=true then _ else _) _ E _;rw [if_neg (by simp)];simp only [Bool.false_eq_true,if_false];refine aA (wpAny_rule ?_)
     first | rw [if_neg (by simp)] | skip
     first
      | exact aL ⟨rfl,rfl⟩
      | exact aA (aL (aL ⟨rfl,rfl⟩))
    .rw [if_neg hh];exact aL ⟨rfl,rfl⟩
  .rintro b s' ⟨rfl,rfl⟩;exact aL h
end
section
variable {X:Cx} {pj:Pq} {O:L2.St} {H:Hp} {s:Shared} {a:Addr}
theorem QK {A:Around} {E:Vq} {qb:Kq} {Q:Vq} (hu:A.units+1<cLine) (I:L2.Inv X pj O H s) (e:Rd H a (.dT qb)) (h:∀ s',L2.Inv X pj O H s'->Q .none s') :
  wpAny (model X.prog X.w) A (call (.builtin "dict.get") [.ref a,.none]) Q E s:=by
 obtain ⟨z,hd,xs,rel,dd⟩:=lA I.hok e;have hty:=dd.typeIs;obtain ⟨o,es,ep,e1,e2,e3,e4,e5,e6⟩:=dd;refine iS PySem.F.slot_dict_get hty PySem.F.entry_dict_get ?_ (PySem.F.args_dict_get_2 _ _);show wpAny _ _ (dictGet a .none >>= _) _ _ s;refine aA ?_;unfold dictGet;refine gU (aA (zK (aA (QJ (s:={ s with toks:=s.toks+1 }) (by show A.units+1<cLine;exact hu) e1 e3 (fun e he=>?_) ?_ _))))
 .have:e∈xs.map (entryOfKey (tupleKind (cR X.prog X.w))):=e4▸Array.mem_toList_iff.mpr he;obtain ⟨x,hx,rfl⟩:=omm this;exact ⟨x.1,x.2.1,rfl,e5 x hx⟩
 .refine aL ?_;show wpAny _ _ (Builtin.Dict.missed a .none >>= _) _ _ _;exact aA (wpAny_missed_other hd (aL ⟨.none,rfl,h _ (I.tok _)⟩))
def QL (H:Hp) (a:Addr) (y:V) (o:Option V):Prop:=dF H a y o\/(y=.non/\o=none/\∃ qb,Rd H a (.dT qb))
def QM (td ty:TE):TE:=fun O H Q=>td O H fun x H1=>∃ a,x=.ref a/\IsD H1 a/\ty O H1 fun y H2=>∃ o,QL H2 a y o/\Q (o.getD .non) H2
theorem QN {o e:Expr} {apos cpos:Pos} {td ty:TE} (hu:X.A.units+1<cLine) (ho:PE X o td) (he:PE X e ty) (m:M1 X o "get" apos e cpos):PE X (.Call (.Attribute o "get" apos) [e] [] cpos) (QM td ty):=by
 intro pj s O H Q I h;refine wpAny_Call_method m.base m.few m.line PySem.F.plainAttrs_dict PySem.F.slot_dict_get PySem.F.type_dict_get (thn (ho pj s O H _ I h) fun u s1 ⟨x,H1,I1,rx,a,ex,d,q1⟩=>?_);subst ex;obtain rfl:u=Value.ref a:=rx;obtain ⟨t1,t2,_⟩:=OE I1 d;refine ⟨t1,t2,?_⟩;rw [m.trees];refine Calls.callWith_builtin rfl (Calls.evalArgs_plain (Calls.spliced_cons (thn (he pj s1 O H1 _ I1 q1) fun iv s2 ⟨y,H2,I2,ry,ov,g,q2⟩=>Calls.spliced_nil ?_)));rcases g with g | ⟨ey,eo,qb,g⟩
 .exact OG hu I2 g ry fun w' s3 I3 rw'=>⟨_,H2,I3,rw',q2⟩
 .subst ey eo;cases (show iv=Value.none from ry);exact QK hu I2 g fun s3 I3=>⟨.non,H2,I3,rfl,q2⟩
end
end
section
open PySem PySem.W PyProof.Rows
variable {i j:Nat}
def bN {α:Type} (c:Nat->Nat->Bool):KasT α->α
 | .ret a=>a
 | .ask i j k=>bN c (k (c i j))
noncomputable def kok {α:Type} (n:Nat) (c:Nat->Nat->Bool):KasT α->Bool
 | .ret _=>true
 | .ask i j k=>decide (i<n)&&decide (j<n)&&kok n c (k (c i j))
section
variable {n:Nat} {c:Nat->Nat->Bool}
theorem nR {α β:Type} {f:α->KasT β}:∀ t:KasT α,bN c (t.bind f)=bN c (f (bN c t))
 | .ret _=>rfl
 | .ask i j k=>nR (k (c i j))
theorem mF {α β:Type} {f:α->KasT β}:∀ t:KasT α,kok n c t=true->kok n c (f (bN c t))=true->kok n c (t.bind f)=true
 | .ret _,_,h=>h
 | .ask i j k,h1,h2=>by rw [kok,bS] at h1;show (decide (i<n)&&decide (j<n)&&kok n c ((k (c i j)).bind f))=true;rw [h1.1,mF (k (c i j)) h1.2 h2];rfl
theorem lC {α:Type} {k:Bool->KasT α} (hi:i<n) (hj:j<n) (h:kok n c (k (c i j))=true):kok n c (.ask i j k)=true:=by rw [kok,dY hi,dY hj,h];rfl
def Pm (n:Nat) (p:Array Nat):Prop:=p.toList.Perm (List.range n)
def at' (p:Array Nat) (i:Nat):Nat:=p.getD i 0
variable {p:Array Nat}
theorem Pm.size (h:Pm n p):p.size=n:=by
 have:=List.Perm.length_eq h
 rwa [jV,List.length_range] at this
theorem pN (h:i<p.size):p[i]?=some (at' p i):=by unfold at';rw [Array.getD_eq_getD_getElem?,mU h];rfl
theorem CQ {q:Array Nat} (h:q[i]?=p[j]?):at' q i=at' p j:=by unfold at';rw [Array.getD_eq_getD_getElem?,Array.getD_eq_getD_getElem?,h]
theorem Pm.lt (h:Pm n p) (hi:i<n):at' p i<n:=by have h1:=pN (p:=p) (i:=i) (by rw [h.size];exact hi);rw [<- Array.getElem?_toList] at h1;exact lR.mp ((List.Perm.mem_iff h).mp (iR h1))
theorem Pm.ne (h:Pm n p) (hi:i<n) (hj:j<n) (hne:i≠j):at' p i≠at' p j:=fun e=>by have nd:p.toList.Nodup:=(List.Perm.nodup_iff h).mpr List.nodup_range;have h1:=pN (p:=p) (i:=i) (by rw [h.size];exact hi);have h2:=pN (p:=p) (i:=j) (by rw [h.size];exact hj);rw [<- Array.getElem?_toList] at h1 h2;rw [e,<- h2] at h1;exact hne ((List.getElem?_inj (by rw [jV,h.size];exact hi) nd).mp h1)
structure Tot (n:Nat) (c:Nat->Nat->Bool):Prop where
 tot:∀ i j,i<n->j<n->i≠j->c j i=!c i j
 tr:∀ i j k,i<n->j<n->k<n->c i j=true->c j k=true->c i k=true
def Asc (c:Nat->Nat->Bool) (p:Array Nat) (k:Nat):Prop:=∀ i j,i<j->j<k->c (at' p i) (at' p j)=true
def Dsc (c:Nat->Nat->Bool) (p:Array Nat) (k:Nat):Prop:=∀ i j,i<j->j<k->c (at' p j) (at' p i)=true
theorem Asc.grow (T:Tot n c) (P:Pm n p) {k:Nat} (h1:1<=k) (hk:k<n) (h:Asc c p k) (e:c (at' p (k-1)) (at' p k)=true):Asc c p (k+1):=fun i j hij hj=>by
 by_cases hjk:j<k
 .exact h i j hij hjk
 .obtain rfl:j=k:=by lia
  by_cases hi:i=j-1
  .rw [hi];exact e
  .exact T.tr _ _ _ (P.lt (by lia)) (P.lt (by lia)) (P.lt hk) (h i (j-1) (by lia) (by lia)) e
theorem Dsc.grow (T:Tot n c) (P:Pm n p) {k:Nat} (h1:1<=k) (hk:k<n) (h:Dsc c p k) (e:c (at' p k) (at' p (k-1))=true):Dsc c p (k+1):=fun i j hij hj=>by
 by_cases hjk:j<k
 .exact h i j hij hjk
 .obtain rfl:j=k:=by lia
  by_cases hi:i=j-1
  .rw [hi];exact e
  .exact T.tr _ _ _ (P.lt hk) (P.lt (by lia)) (P.lt (by lia)) e (h i (j-1) (by lia) (by lia))
theorem wH (T:Tot n c) (P:Pm n p):∀ (f k:Nat),1<=k->k+f<=n->Asc c p k->kok n c (kas_asc p f k)=true/\k<=bN c (kas_asc p f k)/\bN c (kas_asc p f k)<=k+f/\Asc c p (bN c (kas_asc p f k))/\(bN c (kas_asc p f k)<k+f->c (at' p (bN c (kas_asc p f k))) (at' p (bN c (kas_asc p f k)-1))=true)
 | 0,k,_,_,h=>⟨rfl,aW _,aW _,h,fun z=>absurd z (gK _)⟩
 | f+1,k,h1,hk,h=>by
  have l1:=P.lt (i:=k) (by lia);have l2:=P.lt (i:=k-1) (by lia);cases e:c (at' p k) (at' p (k-1)) with
  | true =>
   have er:bN c (kas_asc p (f+1) k)=k:=by show bN c (if c (at' p k) (at' p (k-1))=true then _ else _)=k;rw [e];rfl
   rw [er];refine ⟨lC l1 l2 ?_,aW _,by lia,h,fun _=>e⟩;show kok n c (if c (at' p k) (at' p (k-1))=true then _ else _)=true;rw [e];rfl
  | false =>
   have e':c (at' p (k-1)) (at' p k)=true:=by rw [T.tot _ _ l1 l2 (P.ne (by lia) (by lia) (by lia)),e];rfl
   obtain ⟨a1,a2,a3,a4,a5⟩:=wH T P f (k+1) (by lia) (by lia) (h.grow T P h1 (by lia) e');have er:bN c (kas_asc p (f+1) k)=bN c (kas_asc p f (k+1)):=by show bN c (if c (at' p k) (at' p (k-1))=true then _ else _)=_;rw [e];rfl
   rw [er];refine ⟨lC l1 l2 ?_,by lia,by lia,a4,fun z=>a5 (by lia)⟩;show kok n c (if c (at' p k) (at' p (k-1))=true then _ else _)=true;rw [e];exact a1
theorem CU (T:Tot n c) (P:Pm n p):∀ (f k:Nat),1<=k->k+f<=n->Dsc c p k->kok n c (kas_desc f p k 0)=true/\∃ m,bN c (kas_desc f p k 0)=(p,m,0)/\k<=m/\m<=k+f/\Dsc c p m
 | 0,k,_,_,h=>⟨rfl,k,rfl,aW _,aW _,h⟩
 | f+1,k,h1,hk,h=>by
  have l1:=P.lt (i:=k) (by lia);have l2:=P.lt (i:=k-1) (by lia);cases e:c (at' p k) (at' p (k-1)) with
  | true =>
   obtain ⟨a1,m,a2,a3,a4,a5⟩:=CU T P f (k+1) (by lia) (by lia) (h.grow T P h1 (by lia) e);refine ⟨lC l1 l2 ?_,m,?_,by lia,by lia,a5⟩
   .show kok n c (if c (at' p k) (at' p (k-1))=true then _ else _)=true;rw [e];exact a1
   .show bN c (if c (at' p k) (at' p (k-1))=true then _ else _)=_;rw [e];exact a2
  | false =>
   have e':c (at' p (k-1)) (at' p k)=true:=by rw [T.tot _ _ l1 l2 (P.ne (by lia) (by lia) (by lia)),e];rfl
   refine ⟨lC l1 l2 ?_,k,?_,aW _,by lia,h⟩
   .show kok n c (if c (at' p k) (at' p (k-1))=true then _ else _)=true;rw [e];refine lC l2 l1 ?_;show kok n c (if c (at' p (k-1)) (at' p k)=true then _ else _)=true;rw [e'];rfl
   .show bN c (if c (at' p k) (at' p (k-1))=true then _ else _)=_;rw [e];show bN c (if c (at' p (k-1)) (at' p k)=true then _ else _)=_;rw [e'];rfl
theorem QO (P:Pm n p) (m:Nat):Pm n (kas_rev p 0 m):=List.Perm.trans (Array.perm_iff_toList_perm.mp (mirror_perm p 0 m ((m-0)/2))) P
theorem QP (P:Pm n p) {m:Nat} (hm:m<=n) (h:Dsc c p m):Asc c (kas_rev p 0 m) m:=fun i j hij hj=>by
 have hs:=P.size;have g:∀ i,i<m->at' (kas_rev p 0 m) i=at' p (m-1-i):=fun i hi=>CQ (by unfold kas_rev;rw [getElem?_mirror_all (by lia),if_pos ⟨iH _,hi⟩,show 0+m-1-i=m-1-i by lia]);rw [g i (by lia),g j hj];exact h _ _ (by lia) (by lia)
theorem QQ (T:Tot n c) (P:Pm n p) (h2:2<=n):kok n c (kas_count n p)=true/\∃ m q,bN c (kas_count n p)=(m,q)/\1<=m/\m<=n/\Pm n q/\Asc c q m:=by
 obtain ⟨a1,a2,a3,a4,a5⟩:=wH T P (n-1) 1 (aW _) (by lia) (fun i j hij hj=>by lia);unfold kas_count;rw [nR];generalize hm:bN c (kas_asc p (n-1) 1)=m at *;have main:kok n c (if (m==n)=true then .ret (m,p) else if m>1 then .ask (p.getD 0 0) (p.getD (m-1) 0) fun d=>if d=true then .ret (m,p) else kas_descPart m n (kas_rev p 0 m) else kas_descPart m n p)=true/\∃ m' q,bN c (if (m==n)=true then .ret (m,p) else if m>1 then .ask (p.getD 0 0) (p.getD (m-1) 0) fun d=>if d=true then .ret (m,p) else kas_descPart m n (kas_rev p 0 m) else kas_descPart m n p)=(m',q)/\1<=m'/\m'<=n/\Pm n q/\Asc c q m':=by
  by_cases he:m=n
  .rw [if_pos (by simpa using he)];exact ⟨rfl,m,p,rfl,a2,by lia,P,a4⟩
  .rw [if_neg (by simpa using he)];by_cases h1:m>1
   .rw [if_pos h1];have e:c (at' p 0) (at' p (m-1))=true:=a4 0 (m-1) (by lia) (by lia);refine ⟨lC (P.lt (i:=0) (by lia)) (P.lt (i:=m-1) (by lia)) ?_,m,p,?_,a2,by lia,P,a4⟩
    .show kok n c (if c (at' p 0) (at' p (m-1))=true then _ else _)=true;rw [e];rfl
    .show bN c (if c (at' p 0) (at' p (m-1))=true then _ else _)=_;rw [e];rfl
   .rw [if_neg h1];obtain rfl:m=1:=by lia
    have e:=a5 (by lia);obtain ⟨b1,k,b2,b3,b4,b5⟩:=CU T P (n-(1+1)) (1+1) (by lia) (by lia) (fun i j hij hj=>by
     obtain rfl:j=1:=by lia
     obtain rfl:i=0:=by lia
     exact e)
    have P':=QO P k;obtain ⟨d1,d2,d3,d4,_⟩:=wH T P' (n-k) k (by lia) (by lia) (QP P (by lia) b5);unfold kas_descPart;rw [nR,b2];refine ⟨mF _ b1 ?_,bN c (kas_asc (kas_rev p 0 k) (n-k) k),kas_rev p 0 k,?_,by lia,by lia,P',d4⟩
    .rw [b2];exact mF _ d1 rfl
    .show bN c ((kas_asc (kas_rev p 0 k) (n-k) k).bind _)=_;rw [nR];rfl
 exact ⟨mF _ a1 (by rw [hm];exact main.1),main.2⟩
theorem wI (T:Tot n c) (P:Pm n p) {k:Nat} (hk:k<n) (h:Asc c p k):∀ (f l r:Nat),l<=r->r<=k->r-l<=f->(∀ i,i<l->c (at' p i) (at' p k)=true)->(∀ i,r<=i->i<k->c (at' p k) (at' p i)=true) ->
  kok n c (kas_place p k f l r)=true/\bN c (kas_place p k f l r)<=k/\(∀ i,i<bN c (kas_place p k f l r)->c (at' p i) (at' p k)=true)/\∀ i,bN c (kas_place p k f l r)<=i->i<k->c (at' p k) (at' p i)=true
 | 0,l,r,h1,h2,h3,h4,h5=>⟨rfl,by show l<=k;lia,h4,fun i hi hik=>h5 i (by have:l<=i:=hi;lia) hik⟩
 | f+1,l,r,h1,h2,h3,h4,h5=>by
  by_cases hlr:l>=r
  .have er:kas_place p k (f+1) l r=.ret l:=by rw [kas_place,if_pos hlr]
   rw [er];exact ⟨rfl,by show l<=k;lia,h4,fun i hi hik=>h5 i (by have:l<=i:=hi;lia) hik⟩
  .have er:kas_place p k (f+1) l r=.ask (at' p k) (at' p ((l+r)/2)) fun d=>if d=true then kas_place p k f l ((l+r)/2) else kas_place p k f ((l+r)/2+1) r:=by rw [kas_place,if_neg hlr];rfl
   rw [er];have hm:(l+r)/2<k:=by lia
   have l1:=P.lt hk;have l2:=P.lt (i:=(l+r)/2) (by lia);have eo:∀ (b:Bool),c (at' p k) (at' p ((l+r)/2))=b->bN c (.ask (at' p k) (at' p ((l+r)/2)) fun d=>if d=true then kas_place p k f l ((l+r)/2) else kas_place p k f ((l+r)/2+1) r)=bN c (if b=true then kas_place p k f l ((l+r)/2) else kas_place p k f ((l+r)/2+1) r):=fun b e=>by rw [bN,e]
   cases e:c (at' p k) (at' p ((l+r)/2)) with
   | true =>
    obtain ⟨a1,a2,a3,a4⟩:=wI T P hk h f l ((l+r)/2) (by lia) (by lia) (by lia) h4 fun i hi hik=>by
     by_cases q:i=(l+r)/2
     .rw [q];exact e
     .exact T.tr _ _ _ l1 l2 (P.lt (by lia)) e (h _ _ (by lia) hik)
    rw [eo _ e,if_pos rfl];exact ⟨lC l1 l2 (by rw [e,if_pos rfl];exact a1),a2,a3,a4⟩
   | false =>
    have e':c (at' p ((l+r)/2)) (at' p k)=true:=by rw [T.tot _ _ l1 l2 (P.ne (by lia) (by lia) (by lia)),e];rfl
    obtain ⟨a1,a2,a3,a4⟩:=wI T P hk h f ((l+r)/2+1) r (by lia) h2 (by lia) (fun i hi=>by
     by_cases q:i=(l+r)/2
     .rw [q];exact e'
     .exact T.tr _ _ _ (P.lt (by lia)) l2 l1 (h _ _ (by lia) hm) e') h5
    rw [eo _ e,if_neg (by simp)];exact ⟨lC l1 l2 (by rw [e,if_neg (by simp)];exact a1),a2,a3,a4⟩
theorem CV (T:Tot n c):∀ (f:Nat) (p:Array Nat) (k:Nat),Pm n p->1<=k->k+f=n->Asc c p k->kok n c (kas_bin f p k)=true/\Pm n (bN c (kas_bin f p k))/\Asc c (bN c (kas_bin f p k)) n
 | 0,p,k,P,_,hk,h=>⟨rfl,P,by have:k=n:=hk;rw [<- this];exact h⟩
 | f+1,p,k,P,h1,hk,h=>by
  obtain ⟨a1,a2,a3,a4⟩:=wI T P (k:=k) (by lia) h k 0 k (iH _) (aW _) (by lia) (fun i hi=>by lia) fun i hi hik=>by lia
  have er:kas_bin (f+1) p k=(kas_place p k k 0 k).bind fun l=>kas_bin f (bubble p k (k-l)) (k+1):=rfl;rw [er,nR];generalize hl:bN c (kas_place p k k 0 k)=l at *;have P':Pm n (bubble p k (k-l)):=List.Perm.trans (Array.perm_iff_toList_perm.mp (bubble_perm p k (k-l))) P;have hs:=P.size;have g:∀ i,i<k+1->at' (bubble p k (k-l)) i=at' p (if i<l then i else if i=l then k else i-1):=fun i hi=>CQ (by
   rw [getElem?_bubble (by lia) (k-l) (by lia),show k-(k-l)=l by lia];by_cases q1:i=l
   .rw [if_pos q1,if_neg (by lia),if_pos q1]
   .rw [if_neg q1];by_cases q2:i<l
    .rw [if_neg (by lia),if_pos q2]
    .rw [if_pos (by lia),if_neg q2,if_neg q1])
  obtain ⟨b1,b2,b3⟩:=CV T f (bubble p k (k-l)) (k+1) P' (by lia) (by lia) fun i j hij hj=>by
   rw [g i (by lia),g j hj];by_cases q1:j<l
   .rw [if_pos q1,if_pos (by lia)];exact h i j hij (by lia)
   .rw [if_neg q1];by_cases q2:j=l
    .rw [if_pos q2,if_pos (by lia)];exact a3 i (by lia)
    .rw [if_neg q2];by_cases q3:i<l
     .rw [if_pos q3];exact h i (j-1) (by lia) (by lia)
     .rw [if_neg q3];by_cases q4:i=l
      .rw [if_pos q4];exact a4 (j-1) (by lia) (by lia)
      .rw [if_neg q4];exact h (i-1) (j-1) (by lia) (by lia)
  exact ⟨mF _ a1 (by rw [hl];exact b1),b2,b3⟩
theorem QR (h2:2<=n) (T:Tot n c):kok n c (kas_sort n)=true/\Pm n (bN c (kas_sort n))/\(bN c (kas_sort n)).toList.Pairwise fun x y=>c x y=true:=by
 have P0:Pm n (List.toArray (List.range n)):=List.Perm.refl _;obtain ⟨a1,m,q,a2,a3,a4,a5,a6⟩:=QQ T P0 h2;have er:kas_sort n=(kas_count n (List.toArray (List.range n))).bind fun r=>if r.1<n then kas_bin (n-max r.1 1) r.2 (max r.1 1) else .ret r.2:=rfl
 have pw:∀ {q:Array Nat},Pm n q->Asc c q n->q.toList.Pairwise fun x y=>c x y=true:=fun {q} P h=>by rw [List.pairwise_iff_getElem];intro i j hi hj hij;rw [jV,P.size] at hi hj;have e:=h i j hij hj;have g1:=pN (p:=q) (i:=i) (by rw [P.size];exact hi);have g2:=pN (p:=q) (i:=j) (by rw [P.size];exact hj);rw [mU (by rw [P.size];exact hi)] at g1;rw [mU (by rw [P.size];exact hj)] at g2;rw [Array.getElem_toList,Array.getElem_toList,cP g1,cP g2];exact e
 rw [er,nR,a2];show kok n c _=true/\Pm n (bN c (if m<n then kas_bin (n-max m 1) q (max m 1) else .ret q))/\(bN c (if m<n then kas_bin (n-max m 1) q (max m 1) else .ret q)).toList.Pairwise _;by_cases hm:m<n
 .rw [if_pos hm,show max m 1=m by lia];obtain ⟨b1,b2,b3⟩:=CV T (n-m) q m a5 a3 (by lia) a6;exact ⟨mF _ a1 (by rw [a2];show kok n c (if m<n then _ else _)=true;rw [if_pos hm,show max m 1=m by lia];exact b1),b2,pw b2 b3⟩
 .rw [if_neg hm];obtain rfl:m=n:=by lia
  exact ⟨mF _ a1 (by rw [a2];show kok m c (if m<m then _ else _)=true;rw [if_neg hm];rfl),a5,pw a5 a6⟩
end
theorem CW {α:Type} {cmp:Nat->Nat->(Bool->Shared->Prop)->Shared->Prop} {c:Nat->Nat->Bool} {I:Shared->Prop} {n:Nat} (h:∀ i j C s,i<n->j<n->I s->(∀ s',I s'->C (c i j) s')->cmp i j C s) {Q:α->Shared->Prop} :
  ∀ (t:KasT α) (s:Shared),kok n c t=true->I s->(∀ s',I s'->Q (bN c t) s')->t.kasWp cmp Q s
 | .ret _,s,_,hi,q=>q s hi
 | .ask i j k,s,hk,hi,q=>by rw [kok,bS,bS,qG,qG] at hk;exact h i j _ s hk.1.1 hk.1.2 hi fun s' hi'=>CW h (k (c i j)) s' hk.2 hi' q
end
section
section
variable {prog:Program} {w:World} {A:Around} {E:Vq} {s:Shared} {b:Bool} {Q:Bool->Shared->Prop}
end
end
section
open PySem L2
theorem QS {a b:Str} (h:a.cps.toList=b.cps.toList):a=b:=by obtain ⟨⟨a⟩⟩:=a;obtain ⟨⟨b⟩⟩:=b;cases (show a=b from h);rfl
theorem CY (x:Key):kLt x x=false:=by
 rcases x with a | _ | a
 .exact eG (Int.lt_irrefl a)
 .rfl
 .exact eG (List.lt_irrefl _)
theorem wJ {x y:Key} (hs:vG x y=true) (hn:x≠y):kLt y x=!kLt x y:=by
 match x,y,hs with
 | .inl a,.inl b,_ =>
  have:a≠b:=fun e=>hn (by rw [e]);by_cases h:a<b
  .rw [show kLt (.inl b) (.inl a)=false from eG (by lia),show kLt (.inl a) (.inl b)=true from dY h];rfl
  .rw [show kLt (.inl b) (.inl a)=true from dY (by lia),show kLt (.inl a) (.inl b)=false from eG h];rfl
 | .inr (some a),.inr (some b),_ =>
  have hne:a.cps.toList≠b.cps.toList:=fun e=>hn (by rw [QS e]);by_cases h:a.cps.toList<b.cps.toList
  .rw [show kLt (.inr (some b)) (.inr (some a))=false from eG (List.lt_asymm h),show kLt (.inr (some a)) (.inr (some b))=true from dY h];rfl
  .have:b.cps.toList<a.cps.toList:=by
    rcases Nat.lt_trichotomy 0 0 with z | z | z
    .lia
    .exact Classical.byContradiction fun q=>hne (List.le_antisymm (List.not_lt.mp q) (List.not_lt.mp h))
    .lia
   rw [show kLt (.inr (some b)) (.inr (some a))=true from dY this,show kLt (.inr (some a)) (.inr (some b))=false from eG h];rfl
theorem CZ {x y z:Key} (h1:kLt x y=true) (h2:kLt y z=true):kLt x z=true:=by
 match x,y,z with
 | .inl a,.inl b,.inl c=>exact dY (Int.lt_trans (jH h1) (jH h2))
 | .inr (some a),.inr (some b),.inr (some c)=>exact dY (List.lt_trans (jH h1) (jH h2))
 | .inl _,.inr _,_=>cases h1
 | .inr none,.inl _,_=>cases h1
 | .inr (some _),.inl _,_=>cases h1
 | .inl _,.inl _,.inr _=>cases h2
 | .inr (some _),.inr (some _),.inl _=>cases h2
 | .inr none,.inr _,_=>cases h1
 | .inr (some _),.inr none,_=>cases h1
 | .inr (some _),.inr (some _),.inr none=>cases h2
theorem rN:∀ ks:List Key,bM ks ks=false
 | []=>rfl
 | x::ks=>by rw [bM,if_pos rfl];exact rN ks
theorem rO:∀ {ks ls:List Key},alike ks ls=true->ks≠ls->bM ls ks=!bM ks ls
 | [],[],_,h=>absurd rfl h
 | x::ks,y::ls,ha,h=>by
  rw [alike,bS] at ha;rw [bM,bM];by_cases e:x=y
  .subst e;rw [if_pos rfl,if_pos rfl];exact rO ha.2 fun q=>h (by rw [q])
  .rw [if_neg e,if_neg (Ne.symm e)];exact wJ ha.1 e
 | [],_::_,ha,_=>by cases ha
 | _::_,[],ha,_=>by cases ha
theorem DA:∀ {a b c:List Key},alike a b=true->alike b c=true->bM a b=true->bM b c=true->bM a c=true
 | x::a,y::b,z::c,h1,h2,l1,l2=>by
  rw [alike,bS] at h1 h2;rw [bM] at l1 l2 ⊢;by_cases e1:x=y
  .subst e1;rw [if_pos rfl] at l1;by_cases e2:x=z
   .subst e2;rw [if_pos rfl] at l2 ⊢;exact DA h1.2 h2.2 l1 l2
   .rw [if_neg e2] at l2 ⊢;exact l2
  .rw [if_neg e1] at l1;by_cases e2:y=z
   .subst e2;rw [if_neg e1];exact l1
   .rw [if_neg e2] at l2;have l3:=CZ l1 l2;by_cases e3:x=z
    .subst e3;rw [CY] at l3;cases l3
    .rw [if_neg e3];exact l3
 | [],_,_,_,_,l1,_=>by simp [bM] at l1
 | _::_,[],_,_,_,l1,_=>by cases l1
 | _::_,_::_,[],_,_,_,l2=>by cases l2
end
section
end
section
open PySem L2
theorem wL {x k:List Kt}:∀ {l:List (List Kt)},x∈iJ k l↔x=k\/x∈l
 | []=>by simp [iJ]
 | y::r=>by
  rw [iJ];split
  .simp
  .rw [qA,wL (l:=r),qA];constructor
   .rintro (h | h | h)
    .exact .inr (.inl h)
    .exact .inl h
    .exact .inr (.inr h)
   .rintro (h | h | h)
    .exact .inr (.inl h)
    .exact .inl h
    .exact .inr (.inr h)
theorem nS {x:List Kt}:∀ {l:List (List Kt)},x∈eW l↔x∈l
 | []=>by simp [eW]
 | y::r=>by rw [eW,wL,nS (l:=r),qA]
theorem DB (k:List Kt):∀ l:List (List Kt),(iJ k l).length=l.length+1
 | []=>rfl
 | y::r=>by
  rw [iJ];split
  .rfl
  .rw [eV,DB k r,eV]
theorem wM:∀ l:List (List Kt),(eW l).length=l.length
 | []=>rfl
 | y::r=>by rw [eW,DB,wM r,eV]
theorem DC {k:List Kt}:∀ {l:List (List Kt)},(∀ x∈l,alike k x=true/\alike x k=true/\k≠x)->(∀ x∈l,∀ y∈l,alike x y=true)->(l.Pairwise fun x y=>bM x y=true)->(iJ k l).Pairwise fun x y=>bM x y=true
 | [],_,_,_=>by simp [iJ]
 | x::r,ha,hb,hp=>by
  rw [iJ];obtain ⟨h1,h2⟩:=jU.mp hp;split
  .rename_i hk;refine jU.mpr ⟨fun y hy=>?_,hp⟩;rcases omc hy with rfl | hy
   .exact hk
   .exact DA (ha x (.head _)).1 (hb x (.head _) y (.tail _ hy)) hk (h1 y hy)
  .rename_i hk;refine jU.mpr ⟨fun y hy=>?_,DC (fun z hz=>ha z (.tail _ hz)) (fun z hz u hu=>hb z (.tail _ hz) u (.tail _ hu)) h2⟩;rcases wL.mp hy with rfl | hy
   .have:=rO (ha x (.head _)).1 (ha x (.head _)).2.2;rw [this];cases h:bM y x with
    | true=>exact absurd h hk
    | false=>rfl
   .exact h1 y hy
theorem DD:∀ {l:List (List Kt)},l.Nodup->(∀ x∈l,∀ y∈l,alike x y=true)->(eW l).Pairwise fun x y=>bM x y=true
 | [],_,_=>by simp [eW]
 | k::r,nd,ha=>by rw [eW];obtain ⟨h1,h2⟩:=gI.mp nd;refine DC (fun x hx=>?_) (fun x hx y hy=>ha x (.tail _ (nS.mp hx)) y (.tail _ (nS.mp hy))) (DD h2 fun x hx y hy=>ha x (.tail _ hx) y (.tail _ hy));have hx:=nS.mp hx;exact ⟨ha k (.head _) x (.tail _ hx),ha x (.tail _ hx) k (.head _),fun e=>h1 (by rw [e];exact hx)⟩
end
section
variable {Q:Option Value->Shared->Prop}
def eK (g:Heap) (d:Addr) (en:Array DictEntry) (ep:Nat):Prop:=∃ o,g.get? d=some o/\o.ExactDict/\o.data=.dict en ep
section
variable {prog:Program} {w:World} {A:Around} {E:Vq} {s:Shared} {d j:Addr} {en:Array DictEntry} {ep i:Nat}
theorem eK.ty (r:eK s.heap d en ep):s.TypeIs (.ref d) "dict":=let ⟨o,a,b,_⟩:=r;⟨o,a,b.1⟩
theorem eK.to {g g':Heap} (r:eK g d en ep) (k:∀ o,g.get? d=some o->g'.get? d=some o):eK g' d en ep:=let ⟨o,a,b⟩:=r;⟨o,k o a,b⟩
theorem QT {Q:Vq} (hm:(d==sysModules)=false) (r:eK s.heap d en ep)
  (q:Q (.ref s.heap.objs.size) { s with heap:=s.heap.push { cls:=.type "dict_keyiterator",data:=.fields #[.ref d,.int 0 0,.int en.size 0,.int ep 0] } }):wpAny (model prog w) A (pyIter (.ref d)) Q E s:=by
 obtain ⟨o,a,b,c⟩:=id r;refine wpAny_pyIter_slot r.ty PySem.F.slot_dict_iter (iS PySem.F.slot_dict_iter r.ty PySem.F.entry_dict_iter ?_ (PySem.F.args_dict_iter_1 _));unfold Builtin.«dict.__iter__»;refine aA ?_;unfold Builtin.Dict.dictSlotNone;refine aA (wpAny_notOrdered_dict r.ty ?_);show wpAny _ _ (pure (Value.ref d)) _ _ s;refine aL (show wpAny _ _ (Builtin.Dict.showsAll d >>= _) _ _ s from ?_);unfold Builtin.Dict.showsAll;rw [if_neg (by rw [hm];exact dH)];refine aA (aL (aA (qC a c (aA (wpAny_dictEpoch a c ?_)))));refine aA (jG (aL ⟨_,rfl, "dict_keyiterator",_,⟨_,bW _ rfl,rfl⟩,PySem.F.slot_dict_keyiterator_next.lookup,?_⟩));simpa [rawInt] using q
theorem QU (t:s.heap.IsKeyIter j d i en.size ep) (r:eK s.heap d en ep) (hi:i<en.size)
  (q:∀ g,g.IsKeyIter j d (i+1) en.size ep->Heap.SameBut j s.heap g->Q (some en[i].key) { s with heap:=g }):wpAny (model prog w) A (pyNext (.ref j)) Q E s:=by
 obtain ⟨o,a,b,c⟩:=id t;obtain ⟨od,ad,bd,cd⟩:=id r;unfold pyNext;refine aA (wpAny_attempt (kP (name:=Str.ofString "__next__") t.typeIs PySem.F.slot_dict_keyiterator_next (iS PySem.F.slot_dict_keyiterator_next t.typeIs PySem.F.entry_dict_keyiterator_next ?_ (PySem.F.args_dict_keyiterator_next_1 _))));refine aA (aL (aA (aA ?_)))
 first | refine aA (qD t.typeIs (aL (aA (qE a c ?_)))) | refine aA (wpAny_typeNameOf_keyiter t.typeIs (aL (aA (qE a c ?_))))
 simp only [show Builtin.Dict_items.ownsTuple "dict_keyiterator"=false by decide,zG,if_false];refine (show wpAny _ _ (if (Value.ref d==Value.none)=true then _ else _) _ _ s from ?_);rw [if_neg (show ¬ ((Value.ref d==Value.none)=true) from dH)];refine aA (aL (aA (qC ad cd ?_)));rw [if_neg (by simp)];refine aA (aL (aA (wpAny_dictEpoch ad cd ?_)));rw [if_neg (by simp)];refine aL ?_;simp only [show ¬ ((i:Int)<0) from by lia,if_false,Int.toNat_natCast,Array.getElem?_eq_getElem hi];refine aA ?_
 first | refine aA (qD t.typeIs (aL (aA (wpAny_isOneOf_keyiter t.typeIs ?_)))) | refine aA (wpAny_typeNameOf_keyiter t.typeIs (aL (aA (wpAny_isOneOf_keyiter t.typeIs ?_))))
 refine (show wpAny _ _ (setField (.ref j) 1 (rawInt ((i:Int)+1)) >>= _) _ _ s from wpAny_bind (wpAny_setField a c (by simp) ?_));have t':(s.heap.update j (Obj.mapFields (·.setIfInBounds 1 (rawInt ((i:Int)+1))))).IsKeyIter j d (i+1) en.size ep :=
  ⟨_,Heap.get?_update_self _ a (Obj.isFreed_of_fields (jD c _)),(Obj.cls_mapFields ..).trans b,by rw [jD c];simp [rawInt]⟩
 refine aA (gU (aA (wpAny_isOneOf_keyiter (s:={ s with heap:=s.heap.update j (Obj.mapFields (·.setIfInBounds 1 (rawInt ((i:Int)+1)))) }) t'.typeIs ?_)));show wpAny _ _ (pure en[i].key) _ _ _;exact aL (aL ⟨_,rfl,aL (q _ t' (qB ..))⟩)
theorem QV (hh:A.handled=none) (t:s.heap.IsKeyIter j d en.size en.size ep) (r:eK s.heap d en ep) (q:∀ g,Heap.ExtBut j s.heap g->Q none { s with heap:=g }):wpAny (model prog w) A (pyNext (.ref j)) Q E s:=by
 obtain ⟨o,a,b,c⟩:=id t;obtain ⟨od,ad,bd,cd⟩:=id r;unfold pyNext;refine aA (wpAny_attempt (kP (name:=Str.ofString "__next__") t.typeIs PySem.F.slot_dict_keyiterator_next (iS PySem.F.slot_dict_keyiterator_next t.typeIs PySem.F.entry_dict_keyiterator_next ?_ (PySem.F.args_dict_keyiterator_next_1 _))));refine aA (aL (aA (aA ?_)))
 first | refine aA (qD t.typeIs (aL (aA (qE a c ?_)))) | refine aA (wpAny_typeNameOf_keyiter t.typeIs (aL (aA (qE a c ?_))))
 simp only [show Builtin.Dict_items.ownsTuple "dict_keyiterator"=false by decide,zG,if_false];refine (show wpAny _ _ (if (Value.ref d==Value.none)=true then _ else _) _ _ s from ?_);rw [if_neg (show ¬ ((Value.ref d==Value.none)=true) from dH)];refine aA (aL (aA (qC ad cd ?_)));rw [if_neg (by simp)];refine aA (aL (aA (wpAny_dictEpoch ad cd ?_)));rw [if_neg (by simp)];refine aL ?_;simp only [show ¬ ((en.size:Int)<0) from by lia,if_false,Int.toNat_natCast,Array.getElem?_eq_none (Nat.le_refl en.size)];refine aA ?_
 first | refine aA (qD t.typeIs (aL ?_)) | refine aA (wpAny_typeNameOf_keyiter t.typeIs (aL ?_))
 refine (show wpAny _ _ (setField (.ref j) 0 .none >>= _) _ _ s from wpAny_bind (wpAny_setField a c (by simp) ?_));refine (show wpAny _ _ (newExc (.type "StopIteration") [] >>= _) _ _ _ from aA ?_);simp only [newExc,newTuple];refine aA (jG ?_ (by size_fits));refine wpAny_bind (m:=firstArgMember _ _) (wpAny_of_eq (a:=Value.none) (by first | rfl | (simp only [firstArgMember];rfl)) (wpAny_newObj_type ?_ (by size_fits)));simp only [raiseNew];refine aA (wpAny_handled ?_);rw [show A.in1.handled=none from hh];refine aA (aL (wpAny_throw ?_));exact aA (wpAny_isInstance (T:="StopIteration") (b:=true) ⟨_,bW _ rfl,rfl⟩ isSubtype_stop (aL (q _ (((qB ..).extBut.push _).push _))))
theorem QW (hh:A.handled=none) (j d:Addr) (hne:d≠j) (en:Array DictEntry) (ep:Nat) :
  Walks prog w A j [j,d] [j] en.size (fun i v=>∃ e,en[i]?=some e/\v=e.key) (fun i h=>h.IsKeyIter j d i en.size ep/\eK h d en ep) where
 sub:=fun b hb=>by simp at hb;simp [hb]
 frame:=fun _ _ _ st hk=>⟨st.1.at fun o e=>hk j (by simp) o e,st.2.to fun o e=>hk d (by simp) o e⟩
 item:=fun i s Q E hi st hQ=>QU st.1 st.2 hi fun g t' hs=>hQ _ g s.toks ⟨en[i],by simp [hi],rfl⟩ ⟨t',st.2.to fun o e=>hs.extBut d o hne e⟩ fun b o hb e=>hs.extBut b o (fun h=>hb (by simp [h])) e
 done:=fun s Q E st hQ=>QV hh st.1 st.2 fun g he=>hQ g s.toks fun b o hb e=>he b o (fun h=>hb (by simp [h])) e
 self:=fun _ _ _ _ st hQ=>wpAny_pyIter_keyiter st.1 hQ
theorem DF (lo:(d==sysModules)=false):KdlSrc prog w "dict" d d en.size (fun i v=>∃ e,en[i]?=some e/\v=e.key) (fun h=>eK h d en ep) where
 type:=fun _ r=>r.ty
 there:=fun _ r=>⟨let ⟨_,a,_⟩:=r;aX a,let ⟨_,a,_⟩:=r;aX a⟩
 keep:=fun _ _ r hk=>r.to fun o e=>hk d (.inl rfl) o e
 notList:=by decide
 notTuple:=by decide
 hint:=fun _ _ _ _ r hq=>kdl_hint_dict r.ty hq
 iter:=fun _ s hh r=>⟨_,_,(fun _ _ hq=>QT lo r hq),QW hh _ d (bP (let ⟨_,a,_⟩:=r;aX a)) en ep,⟨⟨_,bW _ rfl,rfl,rfl⟩,r.to fun o e=>aR _ e⟩⟩
end
end
section
variable {g:Heap} {vs:List Value}
def jB (g:Heap) (v:Value) (k:List Key):Prop:=∃ a o qc n,v=.ref a/\g.get? a=some o/\o.cls=.type "tuple"/\o.data=.seq qc n/\aH (k.map kV) qc.toList
theorem jB.to {g':Heap} {v:Value} {k:List Key} (h:jB g v k) (q:∀ a o,v=.ref a->g.get? a=some o->g'.get? a=some o):jB g' v k :=
 let ⟨a,o,qc,n,e,h1,h2⟩:=h;⟨a,o,qc,n,e,q a o e h1,h2⟩
abbrev cT (g:Heap):List Value->List (List Key)->Prop:=Paired (jB g)
theorem cT.get {g:Heap}:∀ {vs:List Value} {ks:List (List Key)},cT g vs ks->∀ i,i<ks.length->jB g (vs.getD i .none) (ks.getD i []):=fun h=>by
 induction h with
 | nil=>simp
 | cons r t ih =>
  intro i h;cases i with
  | zero=>simpa using r
  | succ i=>simpa using ih i (by simpa using h)
theorem cT.to {g g':Heap}:∀ {vs:List Value} {ks:List (List Key)},cT g vs ks->(∀ a o,g.get? a=some o->Value.ref a∈vs->g'.get? a=some o)->cT g' vs ks:=fun h=>by
 induction h with
 | nil=>exact fun _=>.nil
 | cons r t ih=>exact fun q=>.cons (r.to fun a o e h=>q a o h (by rw [e];exact .head _)) (ih fun a o h m=>q a o h (.tail _ m))
theorem cT.len {ks:List (List Key)} (h:cT g vs ks):vs.length=ks.length:=Paired.length h
theorem DG:∀ vs:List Value,(vs.zip vs).map (·.2)=vs
 | []=>rfl
 | v::vs=>by rw [List.zip_cons_cons,aT,DG vs]
theorem DH {α:Type} (d:α) (l:List α):l=(List.range l.length).map fun i=>l.getD i d:=by
 apply List.ext_getElem?;intro i;rw [iE];by_cases hi:i<l.length
 .rw [List.getElem?_range hi,bV hi];simp [List.getD_eq_getElem?_getD,hi]
 .rw [oR (by simpa using hi),oR (by simpa using hi)];rfl
section
variable {prog:Program} {w:World} {A:Around} {E:Vq} {s:Shared}
theorem QX {a:Addr} {n:Nat} (ho:g.get? a=some (seqObj "list" vs.toArray n)) (out:Array Value):∃ c,(sortedHeap g a vs out).get? a=some (seqObj "list" out c):=by obtain ⟨e1,ho1⟩:∃ e1,(g.update a (Obj.mapSeq fun _=>#[])).get? a=some (seqObj "list" #[] e1):=⟨_,get?_update_seq ho (fun _=>#[])⟩;have ho6:(((g.update a (Obj.mapSeq fun _=>#[])).push (seqObj "tuple" vs.toArray 0)).push (seqObj "list" #[] 0)).get? a=some (seqObj "list" #[] e1):=aR _ (aR _ ho1);exact ⟨_,get?_update_seq ho6 fun _=>out⟩
theorem QY {a:Addr} {out:Array Value} {b:Addr} {o:Obj} (hb:b≠a) (e:g.get? b=some o):(sortedHeap g a vs out).get? b=some o:=by unfold sortedHeap;rw [kN _ _ _ _ hb];exact aR _ (aR _ (by rw [kN _ _ _ _ hb];exact e))
end
end
section
open PySem PyProof.Rows L2
structure CmpAt (prog:Program) (w:World) (A:Around) (s:Shared) (v u:Value) (e b:Bool):Prop where
 eq:SeqAt.EqAt A s v u e
 lt:e=false->∀ (E:Vq) (Q:Vq),Q (.bool b) s->wpAny (model prog w) A (richCompare .Lt v u) Q E s
def gC:List (Bool × Bool)->Bool->Bool
 | [],d=>d
 | p::r,d=>if p.1=true then gC r d else p.2
inductive CmpL (prog:Program) (w:World) (A:Around) (s:Shared):List Value->List Value->List (Bool × Bool)->Prop
 | nilL {us}:CmpL prog w A s [] us []
 | nilR {vs}:CmpL prog w A s vs [] []
 | cons {v u vs us e b r}:CmpAt prog w A s v u e b->(e=true->CmpL prog w A s vs us r)->CmpL prog w A s (v::vs) (u::us) ((e,b)::r)
section
open PySem.SeqAt
open PySem.AutoSeq1 (wpAny_loadPart')
open PySem.MeetsSeq PySem.MeetsSeq2 PySem.MeetsSeq3
theorem QZ (prog0:Program) (w0:World) (l b:Addr) (items items2:Array Value) (n n2:Nat) (dd dd2:Option Addr) (sl sl2:Array (Option Value)) (L:List (Bool × Bool)) :
  Meets (Builtin.«tuple.__lt__» ⟨[.ref l,.ref b],[]⟩)
   (fun A R s=>s.heap.get? l=some { cls:=.type "tuple",dict:=dd,data:=.seq items n,slots:=sl }/\s.heap.get? b=some { cls:=.type "tuple",dict:=dd2,data:=.seq items2 n2,slots:=sl2 } /\
    (∀ prog w,CmpL prog w A.in1 s items.toList items2.toList L)/\R (.ok (.ret (.bool (gC L (decide (items.size<items2.size)))))) s) :=
 .of_wp fun prog w A R s h=>by
  obtain ⟨hp,g,d,tk,os⟩:=s;obtain ⟨hl,hb,hc,h⟩:=h;have hc:=hc prog w;have f2:=AutoSeq1.sub_tuple_tuple
  wp_walk using wpAny_loadPart' hl,wpAny_loadPart' hb,wpAny_forIn_list _ (fun rest b s'=>b.1=none/\s'=⟨hp,g,d,tk,os⟩/\∃ (vs ws:List Value) (L':List (Bool × Bool)),rest=vs.zip ws /\
   CmpL prog w A.in1 ⟨hp,g,d,tk,os⟩ vs ws L'/\R (.ok (.ret (.bool (gC L' (decide (items.size<items2.size)))))) ⟨hp,g,d,tk,os⟩) _
  case turn =>
   rintro ⟨y,x⟩ rest b s' ⟨hb',rfl,vs,ws,L',hz,hcl,hR⟩;cases hcl with
   | nilL=>cases hz
   | nilR=>rw [List.zip_nil_right] at hz;cases hz
   | @cons v u vs us e b2 r hcm hcr =>
    rw [List.zip_cons_cons] at hz;injection hz with hyx hrest;injection hyx with hy hx;subst hy hx;refine aA (hcm.eq prog w _ _ ?_);cases e with
    | true =>
     rw [gC,if_pos rfl] at hR
     wp_walk
     exact ⟨rfl,rfl,_,_,_,hrest,hcr rfl,hR⟩
    | false =>
     rw [gC,if_neg (by simp)] at hR;have hri:=fun E Q h=>hcm.lt rfl E Q h
     wp_walk using hri
     exact ⟨_,rfl,by simpa using hR⟩
  case fin =>
   rintro ⟨b1,b2⟩ s' ⟨hb',rfl,vs,ws,L',hz,hcl,hR⟩;simp only at hb';subst hb';have hv:gC L' (decide (items.size<items2.size))=decide (items.size<items2.size):=by
    cases hcl with
    | nilL=>rfl
    | nilR=>rfl
    | cons _ _=>cases hz
   rw [hv] at hR
   wp_walk
   exact ⟨_,rfl,by simpa [Builtin.Tuple.tupleCompareSizes] using hR⟩
  case h =>exact ⟨rfl,rfl,items.toList,items2.toList,L,rfl,hc,h⟩
end
section
variable {prog:Program} {w:World} {A:Around} {s:Shared}
theorem RA {E:Vq} {l b:Addr} {items items2:Array Value} {L:List (Bool × Bool)} {Q:Vq} (hl:IsTup s.heap l items) (hb:IsTup s.heap b items2) (hc:∀ prog w,CmpL prog w A.in1 s items.toList items2.toList L)
  (hu:A.units<cLine) (h:Q (.bool (gC L (decide (items.size<items2.size)))) s):wpAny (model prog w) A (compareOp .Lt (.ref l) (.ref b)) Q E s:=by
 obtain ⟨⟨cls,dd,data,sl⟩,ho,hc1,n,hd⟩:=id hl;obtain ⟨⟨cls2,dd2,data2,sl2⟩,ho2,hc2,n2,hd2⟩:=id hb;simp only at hc1 hd hc2 hd2;subst hc1 hd hc2 hd2;refine richCompare_meets_room (op:=.Lt) ⟨_,ho,rfl⟩ ⟨_,ho2,rfl⟩ PySem.F.slot_tuple_lt PySem.F.entry_tuple_lt (PySem.F.args_tuple_lt_2 _ _) (QZ prog w l b items items2 n n2 dd dd2 sl sl2 L)
  ⟨ho,ho2,?_,show Value.bool (gC L (decide (items.size<items2.size)))≠Value.notImplemented/\Q (.bool (gC L (decide (items.size<items2.size)))) s from ⟨(fun x=>nomatch x),h⟩⟩ hu
 exact hc
end
section
variable {X:Cx} {pj:Pq} {O:L2.St} {H F:Hp} {s:Shared}
theorem RB {A:Around} {n:Nat} (ih:∀ (t1 t2:T) (x y:V) (v u:Value),dpP t1 t2<=n->Rep X.K F t1 x->Rep X.K F t2 y->aB x v->aB y u->SeqAt.EqAt A s v u (eqT t1 t2))
  (il:∀ (t1 t2:T) (x y:V) (v u:Value) (b:Bool),dpP t1 t2<=n->ltD t1 t2=some b->Rep X.K F t1 x->Rep X.K F t2 y->aB x v->aB y u->∀ prog w (E Q:Vq),Q (.bool b) s->wpAny (model prog w) A (richCompare .Lt v u) Q E s) :
  ∀ (ts us:List T) (vs ws:List V) (is js:List Value) (b:Bool),cI ts us<=n->dR ts us=some b->aD X.K F ts vs->aD X.K F us ws->aH vs is->aH ws js->∃ L,(∀ prog w,CmpL prog w A s is js L)/\gC L (decide (is.length<js.length))=b:=by
 intro ts
 induction ts with
 | nil =>
  intro us vs ws is js b hd hl r1 r2 v1 v2;cases r1;cases v1;refine ⟨[],fun _ _=>.nilL,?_⟩;cases hl;have e:js.length=us.length:=by rw [<- v2.length,r2.length]
  cases us with
  | nil=>rw [gC,e];rfl
  | cons _ _=>rw [gC,e];simp
 | cons t ts ih' =>
  intro us vs ws is js b hd hl r1 r2 v1 v2;obtain ⟨x,vr,rfl,q1,r1⟩:=r1;cases v1 with
  | cons a1 v1 =>
   cases us with
   | nil =>cases r2;cases v2;cases hl;exact ⟨[],fun _ _=>.nilR,by rw [gC];simp⟩
   | cons u us =>
    obtain ⟨y,wr,rfl,q2,r2⟩:=r2;cases v2 with
    | cons a2 v2 =>
     have hm:max (dpP t u) (cI ts us)<=n:=by rw [cI] at hd;exact hd
     have h1:=dS (Nat.le_max_left _ _) hm;have he:=ih t u x y _ _ h1 q1 q2 a1 a2;have hl':(if eqT t u=true then dR ts us else ltD t u)=some b:=by rw [dR] at hl;exact hl
     cases e:eqT t u with
     | true =>rw [e] at he;rw [e,if_pos rfl] at hl';obtain ⟨L,c1,c2⟩:=ih' us _ _ _ _ b (dS (Nat.le_max_right _ _) hm) hl' r1 r2 v1 v2;refine ⟨(true,false)::L,fun prog w=>.cons ⟨he,fun z=>by cases z⟩ fun _=>c1 prog w,?_⟩;rw [gC,if_pos rfl,<- c2];congr 1;simp
     | false =>rw [e] at he;rw [e,if_neg (by simp)] at hl';exact ⟨[(false,b)],fun prog w=>.cons ⟨he,fun _ E Q q=>il t u x y _ _ b h1 hl' q1 q2 a1 a2 prog w E Q q⟩ (fun z=>by cases z),by rw [gC,if_neg (by simp)]⟩
theorem RC (I:Inv X pj O H s) (fh:Same F H):∀ (n:Nat) (A:Around) (t1 t2:T) (x y:V) (v u:Value) (b:Bool),A.units+n<cLine->dpP t1 t2<=n->ltD t1 t2=some b->Rep X.K F t1 x->Rep X.K F t2 y->aB x v->aB y u->∀ prog w (E Q:Vq),Q (.bool b) s->wpAny (model prog w) A (richCompare .Lt v u) Q E s:=by
 have flat:∀ (A:Around) (t1 t2:T) (x y:V) (v u:Value) (b:Bool),(∀ a c,t1=.tup a->t2=.tup c->False)->ltD t1 t2=some b->Rep X.K F t1 x->Rep X.K F t2 y->aB x v->aB y u->∀ prog w (E Q:Vq),Q (.bool b) s->wpAny (model prog w) A (richCompare .Lt v u) Q E s:=by
  intro A t1 t2 x y v u b hne hl r1 r2 rx ry prog w E Q q;cases t1 with
  | int a =>
   cases t2 with
   | int c =>cases r1;cases r2;obtain ⟨t,rfl⟩:=rx;obtain ⟨t',rfl⟩:=ry;cases (show some (decide (a<c))=some b from hl);exact (PyProof.Rows.lt_int q:wpAny (model prog w) A (compareOp .Lt (.int a t) (.int c t')) Q E s)
   | _=>exact absurd (show none=some b from hl) (by simp)
  | str a =>
   cases t2 with
   | str c =>cases r1;cases r2;obtain ⟨t,rfl⟩:=rx;obtain ⟨t',rfl⟩:=ry;cases (show some (decide (a.cps.toList<c.cps.toList))=some b from hl);exact (PySem.P.lt_str q:wpAny (model prog w) A (compareOp .Lt (.str a t) (.str c t')) Q E s)
   | _=>exact absurd (show none=some b from hl) (by simp)
  | tup a =>
   cases t2 with
   | tup c=>exact (hne a c rfl rfl).elim
   | _=>exact absurd (show none=some b from hl) (by simp)
  | _=>exact absurd (show none=some b from hl) (by simp)
 intro n
 induction n with
 | zero =>intro A t1 t2 x y v u b hA hd hl r1 r2 rx ry;refine flat A t1 t2 x y v u b (fun a c e1 e2=>?_) hl r1 r2 rx ry;subst e1 e2;rw [dpP] at hd;lia
 | succ n ih =>
  intro A t1 t2 x y v u b hA hd hl r1 r2 rx ry;by_cases hq:∃ a c,t1=.tup a/\t2=.tup c
  .obtain ⟨a,c,rfl,rfl⟩:=hq;rw [dpP] at hd;obtain ⟨l1,vs1,its1,rfl,rfl,_,q1,w1,p1⟩:=iO I fh r1 rx;obtain ⟨l2,vs2,its2,rfl,rfl,_,q2,w2,p2⟩:=iO I fh r2 ry;obtain ⟨L,c1,c2⟩:=RB (A:=A.in1) (n:=n) (fun t1 t2 x y v u h a b c d=>rM I fh n A.in1 t1 t2 x y v u (show A.units+1+n<cLine by lia) h a b c d)
    (fun t1 t2 x y v u b h1 h2 h3 h4 h5 h6=>ih A.in1 t1 t2 x y v u b (show A.units+1+n<cLine by lia) h1 h2 h3 h4 h5 h6) a c vs1 vs2 its1 its2 b (by lia) (show dR a c=some b from hl) q1 q2 w1 w2
   intro prog w E Q q;have h:=RA (prog:=prog) (w:=w) (A:=A) (E:=E) (Q:=Q) (L:=L) p1 p2 (by simpa using c1) (by lia) (by
    have e1:its1.toArray.size=its1.length:=by simp
    have e2:its2.toArray.size=its2.length:=by simp
    rw [e1,e2,c2];exact q)
   exact h
  .exact flat A t1 t2 x y v u b (fun a c e1 e2=>hq ⟨a,c,e1,e2⟩) hl r1 r2 rx ry
end
end
section
variable {Q:Bool->Shared->Prop} {n:Nat}
section
variable {X:Cx} {pj:Pq} {O:L2.St} {H F:Hp} {s:Shared}
def flS:T->T->Bool
 | .int _,.int _=>true
 | .str _,.str _=>true
 | _,_=>false
theorem RD {prog:Program} {w:World} {A:Around} {t1 t2:T} {x y:V} {v u:Value} {b:Bool} (hf:flS t1 t2=true) (hl:ltD t1 t2=some b) (r1:Rep X.K F t1 x) (r2:Rep X.K F t2 y) (rx:aB x v) (ry:aB y u) (h:Q b s):wpAny (model prog w) A (oneLt' true v u) Q (fun _ _=>False) s:=by
 cases t1 with
 | int i =>
  cases t2 with
  | int j =>cases r1;cases r2;obtain ⟨t,rfl⟩:=rx;obtain ⟨t',rfl⟩:=ry;cases (show some (decide (i<j))=some b from hl);exact kat_lt_int h
  | _=>cases hf
 | str i =>
  cases t2 with
  | str j =>cases r1;cases r2;obtain ⟨t,rfl⟩:=rx;obtain ⟨t',rfl⟩:=ry;cases (show some (decide (i.cps.toList<j.cps.toList))=some b from hl);exact oneLt_str h
  | _=>cases hf
 | _=>cases hf
theorem RE {prog:Program} {w:World} (I:Inv X pj O H s) (fh:Same F H) {A:Around} (hA:A.units+n<cLine) {sh:Bool} :
  ∀ (ts us:List T) (vs ws:List V) (is js:List Value) (i:Nat) (b fin:Bool),cI ts us<=n->dR ts us=some b->(sh=true->i=0->∀ x y r q,ts=x::r->us=y::q->flS x y=true)->fin=decide (is.length<js.length)->aD X.K F ts vs->aD X.K F us ws->aH vs is->aH ws js->Q b s->KatLex prog w A sh fin Q (is.zip js) i s:=by
 intro ts
 induction ts with
 | nil =>
  intro us vs ws is js i b fin hd hl hs hfin r1 r2 v1 v2 q;cases r1;cases v1;rw [List.zip_nil_left];refine kat_nil ?_;cases hl;have e:js.length=us.length:=by rw [<- v2.length,r2.length]
  rw [hfin,e];cases us with
  | nil=>exact q
  | cons _ _=>simpa using q
 | cons t ts ih =>
  intro us vs ws is js i b fin hd hl hs hfin r1 r2 v1 v2 q;obtain ⟨x,vr,rfl,q1,r1⟩:=r1;cases v1 with
  | cons a1 v1 =>
   cases us with
   | nil =>cases r2;cases v2;cases hl;rw [List.zip_nil_right];refine kat_nil ?_;rw [hfin];simpa using q
   | cons u us =>
    obtain ⟨y,wr,rfl,q2,r2⟩:=r2;cases v2 with
    | cons a2 v2 =>
     have hm:max (dpP t u) (cI ts us)<=n:=by rw [cI] at hd;exact hd
     have h1:=dS (Nat.le_max_left _ _) hm;have he:=rM I fh n A t u x y _ _ hA h1 q1 q2 a1 a2;have hl':(if eqT t u=true then dR ts us else ltD t u)=some b:=by rw [dR] at hl;exact hl
     rw [List.zip_cons_cons];refine kat_cons (he prog w _ _ ?_);cases e:eqT t u with
     | true =>rw [e,if_pos rfl] at hl';exact kat_yes (ih us _ _ _ _ (i+1) b fin (Nat.le_trans (Nat.le_max_right _ _) hm) hl' (fun _ z=>by lia) (by rw [hfin];simp) r1 r2 v1 v2 q)
     | false =>
      rw [e,if_neg (by simp)] at hl';refine kat_no ?_;cases hq:(sh&&i==0) with
      | true =>rw [bS] at hq;exact RD (hs hq.1 (by simpa using hq.2) t u ts us rfl rfl) hl' q1 q2 a1 a2 q
      | false=>exact kat_one _ _ (RC I fh n A t u x y _ _ b hA h1 hl' q1 q2 a1 a2 prog w _ _ q)
end
section
variable {prog:Program} {w:World} {A:Around} {E:Vq} {s:Shared}
def wN (prog:Program) (w:World) (A:Around) (vs:List Value) (c:Nat->Nat->Bool) (s:Shared):Prop :=
 ∃ (sh:Bool) (fs:List Value) (Tv:Value),KatTups s.heap vs fs/\0<fs.length/\(∀ v∈fs,Looks (model prog w) s.heap (typeOf v) Tv)/\(Tv==Tv)=true/\(Tv != Value.type "tuple")=sh /\
  ∀ Q:Array Nat->Shared->Prop,(∀ p:Array Nat,Pm vs.length p->(p.toList.Pairwise fun i j=>c i j=true)->Q p s)->(kas_sort vs.length).kasWp (kas_ask prog w A (tuples' sh) vs) Q s
theorem RF {R:Nat->Nat->Prop} (h:n<2):(List.range n).Pairwise R:=by
 match n,h with
 | 0,_=>exact .nil
 | 1,_=>exact List.pairwise_singleton _ _
theorem RG {a:Addr} {vs:List Value} {c:Nat->Nat->Bool} {P:PySem.Fin->Shared->Prop} (ho:s.heap.get? a=some (seqObj "list" vs.toArray n)) (h60:vs.length<=60)
  (hk:2<=vs.length->∀ g:Heap,(∀ b o,b≠a->s.heap.get? b=some o->g.get? b=some o)->wN prog w A vs c { s with heap:=g })
  (h:∀ p:List Nat,p.Perm (List.range vs.length)->(p.Pairwise fun i j=>c i j=true)->P (.done (.ret .none)) { s with heap:=sortedHeap s.heap a vs (p.map fun i=>vs.getD i .none).toArray }) :
  wpAny (model prog w) A (Builtin.«list.sort» ⟨[.ref a],[]⟩) P E s:=by
 rw [list_sort_plain];have ha:a<s.heap.objs.size:=aX ho;have hz:vs.toArray.size<=sizeLine:=by rw [cO,fD];lia
 refine aA (listItems_at ho rfl (aA (listUpdate_at ho rfl ?_ hz (iH _))));obtain ⟨e1,ho1⟩:∃ e1,(s.heap.update a (Obj.mapSeq fun _=>#[])).get? a=some (seqObj "list" #[] e1):=⟨_,get?_update_seq ho (fun _=>#[])⟩;refine aA (seqEpoch_at ho1 rfl (aA (wpAny_newTuple ?_ (by show vs.length<=_;rw [fD];lia))));refine aA (wpAny_newList (gU ?_) (iH _));have ho6:(((s.heap.update a (Obj.mapSeq fun _=>#[])).push (seqObj "tuple" vs.toArray 0)).push (seqObj "list" #[] 0)).get? a=some (seqObj "list" #[] e1):=aR _ (aR _ ho1);have kp:∀ b o,b≠a->s.heap.get? b=some o->(((s.heap.update a (Obj.mapSeq fun _=>#[])).push (seqObj "tuple" vs.toArray 0)).push (seqObj "list" #[] 0)).get? b=some o:=fun b o hb e =>aR _ (aR _ (by rw [kN _ _ _ _ hb];exact e));show wpAny (model prog w) A _ P E { s with heap:=((s.heap.update a (Obj.mapSeq fun _=>#[])).push (seqObj "tuple" vs.toArray 0)).push (seqObj "list" #[] 0) };dsimp only;by_cases h2:vs.toArray.size<2
 .rw [if_pos h2,if_pos h2];refine aA (aL ?_);rw [StateT.run_pure];refine aA (aL ?_);dsimp only;refine aA (seqEpoch_at ho6 rfl ?_);have eo:(arrOf (SortSt.mk' general' (vs.toArray.zip vs.toArray) #[] 7 none)).map (·.2)=vs.toArray:=by show (vs.toArray.zip vs.toArray).map (·.2)=vs.toArray;apply Array.toList_inj.mp;rw [Array.toList_map,Array.toList_zip];exact DG vs
  rw [eo];refine aA (listUpdate_at ho6 rfl ?_ (iH _) (by show vs.toArray.size<=_;lia));simp only [bne_self_eq_false,Bool.false_eq_true,if_false];have hv2:vs.length<2:=by simpa using h2
  have:=h (List.range vs.length) (List.Perm.refl _) (RF hv2);rw [<- DH] at this;exact aL this
 .rw [if_neg h2,if_neg h2];have hn2:2<=vs.length:=by rw [cO] at h2;lia
  obtain ⟨sh,fs,Tv,f1,f2,f3,f4,f5,ask⟩:=hk hn2 _ kp;refine aA (kat_kind (T:=Tv) f1 f2 f3 f4 ?_);rw [f5];have ask:=ask (fun p s'=>s'={ s with heap:=((s.heap.update a (Obj.mapSeq fun _=>#[])).push (seqObj "tuple" vs.toArray 0)).push (seqObj "list" #[] 0) }/\Pm vs.length p/\p.toList.Pairwise fun i j=>c i j=true) fun p p1 p2=>⟨rfl,p1,p2⟩;refine aA (fS (kat_run (Q:=fun st' s'=>∃ p:Array Nat,p.size=vs.length/\arrOf st'=p.map (kas_item (vs.toArray.zip vs.toArray))/\failedOf st'=none/\s'={ s with heap:=((s.heap.update a (Obj.mapSeq fun _=>#[])).push (seqObj "tuple" vs.toArray 0)).push (seqObj "list" #[] 0) }/\Pm vs.length p/\p.toList.Pairwise fun i j=>c i j=true)
   rfl (by lia) (by lia) (fun p' st' s' a1 a2 a3 a4=>⟨p',a1,a2,a3,a4⟩) ask) ?_ fun _ _ e=>e)
  rintro ⟨⟨⟩,st'⟩ s' ⟨p,hp,har,hf,rfl,p1,p2⟩;dsimp only;have hout:=kat_snds rfl har;refine aA (seqEpoch_at ho6 rfl ?_);rw [hout];refine aA (listUpdate_at ho6 rfl ?_ (iH _) (by show (List.toArray _).size<=_;rw [cO,bE,jV,hp,fD];lia));rw [hf];simp only [bne_self_eq_false,Bool.false_eq_true,if_false];exact aL (h p.toList p1 p2)
theorem RH {r:Value} {Q:Vq} (h:wpAny (model prog w) A.in1 (collect r) (fun vs s1=>vs.length<=60/\∃ c:Nat->Nat->Bool,
   (2<=vs.length->∀ (A':Around) (g:Heap),A'.units<=A.units+5->(∀ b o,s1.heap.get? b=some o->g.get? b=some o)->wN prog w A' vs c { s1 with heap:=g }) /\
   ∀ (p:List Nat) (k:Nat) (g:Heap),p.Perm (List.range vs.length)->(p.Pairwise fun i j=>c i j=true)->(∀ b o,s1.heap.get? b=some o->g.get? b=some o) ->
    g.get? s1.heap.objs.size=some { cls:=.type "list",data:=.seq (p.map fun i=>vs.getD i .none).toArray k }->Q (.ref s1.heap.objs.size) { s1 with heap:=g }) E s):wpAny (model prog w) A (call (.builtin "sorted") [r]) Q E s:=by
 refine Calls.call_function_entry kind_sorted plain_sorted entry_sorted (args_sorted1 _) ?_;unfold Builtin.«sorted»;refine aA (m:=checkCount "sorted" 1 1 _) (aL ?_);refine aA (fS h (fun vs s1 x=>?_) fun _ _ e=>e);obtain ⟨h60,c,hk,q⟩:=x;refine aA (wpAny_newList ?_ (by rw [fD];lia));have hoL:(s1.heap.push (seqObj "list" vs.toArray 0)).get? s1.heap.objs.size=some (seqObj "list" vs.toArray 0):=bW _ rfl;refine aA (gU (iS slot_list_sort ⟨_,hoL,rfl⟩ entry_list_sort ?_ (args_list_sort _)));refine RG (c:=c) (s:={ s1 with heap:=s1.heap.push (seqObj "list" vs.toArray 0) }) hoL h60 (fun h2 g hg=>hk h2 _ g ?_ fun b o e=>hg b o (bP (aX e)) (aR _ e)) fun p p1 p2=>⟨_,rfl,?_⟩
 .show _<=A.units+5
  first | exact Nat.le_add_right _ _ | (show A.units+1<=A.units+5;lia) | (show A.units+2<=A.units+5;lia) | (show A.units+3<=A.units+5;lia)
 .obtain ⟨k,hc⟩:=QX hoL (p.map fun i=>vs.getD i .none).toArray;exact aL ⟨_,rfl,q p k _ p1 p2 (fun b o e=>QY (bP (aX e)) (aR _ e)) hc⟩
end
end
section
variable {l:List T}
theorem RI {x y:T}:cD x y=true↔ltD x y=some true:=by unfold cD;exact lQ
noncomputable def kdT:Nat->Value
 | 0=>.type "int"
 | 1=>.type "str"
 | _=>.type "tuple"
def kdV (a:T):Option Value:=(kdN a).map kdT
theorem OkN.kdv (h:OkN l):∃ Tv,∀ x∈l,∃ a r,x=.tup (a::r)/\kdV a=some Tv :=
 let ⟨n,hk⟩:=h.kd;⟨kdT n,fun x hx=>let ⟨a,r,e,k⟩:=hk x hx;⟨a,r,e,by unfold kdV;rw [k];rfl⟩⟩
theorem wO (x:T):∀ l:List T,(kU x l).Perm (x::l)
 | []=>.refl _
 | y::r=>by
  rw [kU];split
  .exact .refl _
  .exact ((wO x r).cons y).trans (.swap x y r)
theorem nU:∀ l:List T,(dZ l).Perm l
 | []=>.refl _
 | x::r=>(wO x (dZ r)).trans ((nU r).cons x)
theorem DI {x:T}:∀ {l:List T},(l.Pairwise fun a b=>cD a b=true)->(∀ y∈l,cD y x=!cD x y)->(∀ y∈l,∀ z∈l,cD x y=true->cD y z=true->cD x z=true)->(kU x l).Pairwise fun a b=>cD a b=true
 | [],_,_,_=>List.pairwise_singleton _ _
 | y::r,h,ht,hr=>by
  rw [jU] at h;rw [kU];split
  .rename_i hc;refine jU.mpr ⟨fun z hz=>?_,jU.mpr h⟩;rcases omc hz with rfl | hz
   .exact hc
   .exact hr y (.head _) z (.tail _ hz) hc (h.1 z hz)
  .rename_i hc;refine jU.mpr ⟨fun z hz=>?_,DI h.2 (fun z hz=>ht z (.tail _ hz)) fun z hz z' hz'=>hr z (.tail _ hz) z' (.tail _ hz')⟩;rcases omc ((wO x r).mem_iff.mp hz) with rfl | hz
   .rw [ht y (.head _)];simpa using hc
   .exact h.1 z hz
theorem wP:∀ {l:List T},(l.Pairwise fun x y=>cD y x=!cD x y)->(∀ x∈l,∀ y∈l,∀ z∈l,cD x y=true->cD y z=true->cD x z=true)->(dZ l).Pairwise fun a b=>cD a b=true
 | [],_,_=>.nil
 | x::r,h,ht=>by rw [jU] at h;have m:∀ {y},y∈dZ r->y∈r:=fun {y} hy=>(nU r).mem_iff.mp hy;exact DI (wP h.2 fun a ha b hb c hc=>ht a (.tail _ ha) b (.tail _ hb) c (.tail _ hc)) (fun y hy=>h.1 y (m hy)) fun y hy z hz=>ht x (.head _) y (.tail _ (m hy)) z (.tail _ (m hz))
theorem DJ {R:T->T->Prop}:∀ {l m:List T},l.Pairwise R->m.Pairwise R->(∀ x∈l,∀ y∈l,R x y->R y x->False)->l.Perm m->l=m
 | [],m,_,_,_,p=>(List.Perm.nil_eq p)
 | x::l,m,h1,h2,ha,p=>by
  cases m with
  | nil=>exact absurd p.symm (by simp)
  | cons y m =>
   rw [jU] at h1 h2;have e:x=y:=by
    have hx:=p.mem_iff.mp (dW (a:=x) (l:=l));have hy:=p.mem_iff.mpr (dW (a:=y) (l:=m));rcases omc hx with e | hx
    .exact e
    .rcases omc hy with e | hy
     .exact e.symm
     .exact (ha x (.head _) y (.tail _ hy) (h1.1 y hy) (h2.1 x hx)).elim
   subst e;rw [DJ h1.2 h2.2 (fun a b c d=>ha a (.tail _ b) c (.tail _ d)) (List.Perm.cons_inv p)]
theorem DK {t:T} (h:jK l=some t):OkN l/\t=.lst (dZ l):=by
 unfold jK at h;split at h
 .rename_i hk;exact ⟨hk,(cP h).symm⟩
 .cases h
theorem OkN.at (h:OkN l) {i j:Nat} (hi:i<l.length) (hj:j<l.length) (hne:i≠j):cD (l.getD j .non) (l.getD i .non)=!cD (l.getD i .non) (l.getD j .non):=by
 have g:∀ {i},(hi:i<l.length)->l.getD i .non=l[i]:=fun {i} hi=>by rw [fR,bV hi];rfl
 have pw:=List.pairwise_iff_getElem.mp h.tot;rw [g hi,g hj];rcases Nat.lt_or_gt_of_ne hne with q | q
 .exact pw i j hi hj q
 .rw [pw j i hj hi q,Bool.not_not]
theorem OkN.asym (h:OkN l) {i j:Nat} (hi:i<l.length) (hj:j<l.length) (h1:cD (l.getD i .non) (l.getD j .non)=true) (hne:i≠j):cD (l.getD j .non) (l.getD i .non)=false:=by rw [h.at hi hj hne,h1];rfl
theorem RJ (h:OkN l) {p:List Nat} (hp:p.Perm (List.range l.length)) (pw:p.Pairwise fun i j=>cD (l.getD i .non) (l.getD j .non)=true):dZ l=p.map fun i=>l.getD i .non:=by
 have e:l=(List.range l.length).map fun i=>l.getD i .non:=DH _ l;have pm:(p.map fun i=>l.getD i .non).Perm l:=by have:=hp.map fun i=>l.getD i .non;rw [<- e] at this;exact this
 refine DJ (wP h.tot h.tr) (List.pairwise_map.mpr pw) (fun x hx y hy h1 h2=>?_) ((nU l).trans pm.symm);obtain ⟨i,hi,rfl⟩:=List.getElem_of_mem ((nU l).mem_iff.mp hx);obtain ⟨j,hj,rfl⟩:=List.getElem_of_mem ((nU l).mem_iff.mp hy);have g:∀ {i},(hi:i<l.length)->l.getD i .non=l[i]:=fun {i} hi=>by rw [fR,bV hi];rfl
 by_cases q:i=j
 .subst q;have hb:=wP h.tot h.tr;have:=List.pairwise_iff_getElem.mp hb;exact absurd h1 (by
   have irr:cD l[i] l[i]≠true:=fun z=>by
    have t2:ltD l[i] l[i]=some true:=RI.mp z;exact absurd t2 (by
     obtain ⟨Tv,hk⟩:=h.kdv;obtain ⟨a,r,ea,_⟩:=hk _ (iD hi);rw [ea];have dp:=h.dp _ (iD hi) _ (iD hi);rw [ea] at dp;have refl:∀ xs:List T,cI xs xs<20000->dR xs xs=some false:=fun xs=>by
      induction xs with
      | nil=>intro _;rfl
      | cons x xs ih =>intro hd;rw [cI] at hd;rw [dR];show (if eqT x x=true then dR xs xs else ltD x x)=some false;rw [rD x (by lia),if_pos rfl];exact ih (by lia)
     show dR (a::r) (a::r)≠some true;rw [refl _ (by rw [dpP] at dp;lia)];simp)
   exact irr)
 .have:=h.asym hi hj (by rw [g hi,g hj];exact h1) q;rw [g hi,g hj] at this;rw [this] at h2;cases h2
end
section
variable {Tv:Value} {xs:List T} {qc:List Value}
section
variable {X:Cx} {pj:Pq} {O:L2.St} {H F:Hp} {s:Shared}
theorem RK {a:T} (h:kdV a=some Tv):(Tv==Tv)=true:=by
 cases a<;>cases h
 .show (Value.type "int"==Value.type "int")=true;decide
 .show (Value.type "str"==Value.type "str")=true;decide
 .show (Value.type "tuple"==Value.type "tuple")=true;decide
theorem RL {M:Model} (I:Inv X pj O H s) (fh:Same F H) {a:T} (h:kdV a=some Tv) {x:V} {u:Value} (r:Rep X.K F a x) (ru:aB x u):Looks M s.heap (typeOf u) Tv:=by
 cases a with
 | int i=>cases h;cases r;obtain ⟨t,rfl⟩:=ru;exact .now
 | str i=>cases h;cases r;obtain ⟨t,rfl⟩:=ru;exact .now
 | tup xs =>cases h;obtain ⟨p,ws,jts,rfl,rfl,_,_,_,o,h1,h2,_⟩:=iO I fh r ru;show Looks M s.heap (typeOf (Value.ref p)) (Value.type "tuple");rw [<- h2];exact (Looks.ld h1).andThen .now
 | _=>cases h
theorem RM {M:Model} (I:Inv X pj O H s) (fh:Same F H):∀ {xs:List T} {vs:List V} {qc:List Value},(∀ x∈xs,∃ a r,x=.tup (a::r)/\kdV a=some Tv)->aD X.K F xs vs->aH vs qc ->
  ∃ fs,KatTups s.heap qc fs/\fs.length=xs.length/\∀ v∈fs,Looks M s.heap (typeOf v) Tv:=by
 intro xs
 induction xs with
 | nil =>intro vs qc _ r rv;cases r;cases rv;exact ⟨[],KatTups.nil,rfl,fun _ h=>nomatch h⟩
 | cons x xs ih =>
  intro vs qc hx r rv;obtain ⟨v,vr,rfl,r1,r2⟩:=r;cases rv with
  | cons a1 rv =>
   obtain ⟨fs,f1,f2,f3⟩:=ih (fun y hy=>hx y (.tail _ hy)) r2 rv;obtain ⟨a,q,rfl,hk⟩:=hx x (.head _);obtain ⟨p,ws,jts,rfl,rfl,_,g1,g2,o,h1,h2,n,h3⟩:=iO I fh r1 a1;obtain ⟨w0,wr,rfl,k1,k2⟩:=g1;cases g2 with
   | cons b1 b2 =>
    refine ⟨_::fs,KatTups.cons h1 h2 h3 (by simp;rfl) f1,by simp [f2],fun v hv=>?_⟩;rcases omc hv with rfl | hv
    .exact RL I fh hk k1 b1
    .exact f3 v hv
theorem at_N (I:Inv X pj O H s) (fh:Same F H) {vs:List V} (r:aD X.K F xs vs) (rv:aH vs qc) {i:Nat} (hi:i<xs.length) {ys:List T} (hx:xs.getD i .non=.tup ys) :
  ∃ p o ws n jts,qc.getD i .none=.ref p/\s.heap.get? p=some o/\o.data=.seq jts n/\aD X.K F ys ws/\aH ws jts.toList:=by
 have e1:xs[i]?=some (.tup ys):=by rw [fR,bV hi] at hx;rw [bV hi];exact aV some hx
 obtain ⟨v,hv,r1⟩:=r.get e1;obtain ⟨u,hu,ru⟩:=rv.get hv;obtain ⟨p,ws,jts,rfl,rfl,_,g1,g2,o,h1,_,n,h3⟩:=iO I fh r1 ru;exact ⟨p,o,ws,n,jts.toArray,by rw [List.getD_eq_getElem?_getD,hu];rfl,h1,h3,g1,by simpa using g2⟩
theorem RN (I:Inv X pj O H s) (fh:Same F H) {A:Around} (hA:A.units+20<cLine) {vs:List V} (ok:OkN xs) (r:aD X.K F xs vs) (rv:aH vs qc) (h2:2<=qc.length) :
  wN X.prog X.w A qc (fun i j=>cD (xs.getD i .non) (xs.getD j .non)) s:=by
 have hl:qc.length=xs.length:=by rw [<- rv.length,r.length]
 obtain ⟨Tv,hk⟩:=ok.kdv;obtain ⟨fs,f1,f2,f3⟩:=RM (M:=model X.prog X.w) I fh hk r rv;have mem:∀ {i},i<xs.length->xs.getD i .non∈xs:=fun {i} hi=>by rw [fR,bV hi];exact iD hi
 obtain ⟨a0,_,_,k0⟩:=hk _ (mem (i:=0) (by lia));refine ⟨Tv != Value.type "tuple",fs,Tv,f1,by lia,f3,RK k0,rfl,fun Q q=>?_⟩;have T:=QR (n:=qc.length) (c:=fun i j=>cD (xs.getD i .non) (xs.getD j .non)) h2 ⟨fun i j hi hj hne=>ok.at (by lia) (by lia) hne,fun i j k hi hj hk'=>ok.tr _ (mem (by lia)) _ (mem (by lia)) _ (mem (by lia))⟩;refine CW (n:=qc.length) (c:=fun i j=>cD (xs.getD i .non) (xs.getD j .non)) (I:=fun s'=>s'=s) (fun i j C s' hi hj hs hC=>?_) _ s T.1 rfl (fun s' hs=>by subst hs;exact q _ T.2.1 T.2.2);subst hs;have hi':i<xs.length:=by lia
 have hj':j<xs.length:=by lia
 obtain ⟨a,ra,ea,ka⟩:=hk _ (mem hi');obtain ⟨b,rb,eb,kb⟩:=hk _ (mem hj');obtain ⟨p,o,ws,n,jts,e1,e2,e3,e4,e5⟩:=at_N I fh r rv hi' ea;obtain ⟨p',o',ws',n',jts',g1,g2,g3,g4,g5⟩:=at_N I fh r rv hj' eb;obtain ⟨bb,hb⟩:=ok.lt _ (mem hi') _ (mem hj');have dp:=ok.dp _ (mem hi') _ (mem hj');have ec:cD (xs.getD i .non) (xs.getD j .non)=bb:=by unfold cD;rw [hb];cases bb<;>rfl
 have hC:=hC s' rfl;simp only [ec] at hC;rw [ea,eb] at hb dp;show wpAny (model X.prog X.w) A (keyLt' (tuples' (Tv != Value.type "tuple")) (qc.getD i .none) (qc.getD j .none)) C (fun _ _=>False) s';rw [e1,g1];refine kat_lt e2 e3 g2 g3 ?_;refine RE I fh hA (a::ra) (b::rb) _ _ _ _ 0 bb _ (by rw [dpP] at dp;lia) (show dR (a::ra) (b::rb)=some bb from hb) (fun hs _ x y rx ry ex ey=>?_) (by simp) e4 g4 e5 g5 hC;cases ex;cases ey;cases a with
 | int _=>cases ka;cases b<;>first | rfl | (cases kb;done) | (exact absurd (cP kb) (by intro z;injection z with z;exact absurd z (by decide)))
 | str _=>cases ka;cases b<;>first | rfl | (cases kb;done) | (exact absurd (cP kb) (by intro z;injection z with z;exact absurd z (by decide)))
 | tup _=>cases ka;exact absurd hs (by decide)
 | _=>cases ka
theorem DL {K:W.Frag} {F:Hp} {xs:List T} {vs:List V} (r:aD K F xs vs):∀ {p:List Nat},(∀ i∈p,i<xs.length)->aD K F (p.map fun i=>xs.getD i .non) (p.map fun i=>vs.getD i .non)
 | [],_=>rfl
 | i::p,h=>by have hi:=h i (.head _);obtain ⟨v,hv,r1⟩:=r.get (bV hi);refine ⟨vs.getD i .non,_,rfl,?_,DL r fun j hj=>h j (.tail _ hj)⟩;show Rep K F (xs.getD i .non) (vs.getD i .non);rw [fR,fR,hv,bV hi];exact r1
theorem DM {vs:List V} {qc:List Value} (r:aH vs qc):∀ {p:List Nat},(∀ i∈p,i<vs.length)->aH (p.map fun i=>vs.getD i .non) (p.map fun i=>qc.getD i .none)
 | [],_=>.nil
 | i::p,h=>by have hi:=h i (.head _);obtain ⟨u,hu,ru⟩:=r.get (bV hi);refine .cons ?_ (DM r fun j hj=>h j (.tail _ hj));show aB (vs.getD i .non) (qc.getD i .none);rw [fR,fR,hu,bV hi];exact ru
theorem wQ {E:Vq} {Q:VK} (hu:X.A.units+100<cLine) {r:Value} (ok:OkN xs) (q:∀ v F' H',Step F H F' H'->Rep X.K F' (.lst (dZ xs)) v->Q v H')
  (h:wpAny (model X.prog X.w) X.A.in1 (collect r) (fun qc s1=>∃ F1 vs,L2.Inv X pj O H s1/\Step F H F1 H/\aD X.K F1 xs vs/\aH vs qc) E s):wpAny (model X.prog X.w) X.A (call (.builtin "sorted") [r]) (EP X pj O Q) E s:=by
 refine RH (fS h (fun qc s1 z=>?_) fun _ _ e=>e);obtain ⟨F1,vs,I1,sf,g2,rv⟩:=z;have hl:qc.length=xs.length:=by rw [<- rv.length,g2.length]
 have hv:vs.length=xs.length:=g2.length;refine ⟨by rw [hl];exact ok.len,fun i j=>cD (xs.getD i .non) (xs.getD j .non),fun h2 A' g hA' hk=>?_,fun p k g p1 p2 hk hD=>?_⟩
 .have I2:L2.Inv X pj O H { s1 with heap:=g,toks:=s1.toks }:=I1.kept hk;exact RN I2 sf.fh (by lia) ok g2 rv h2
 .have hn:H s1.heap.objs.size=none:=I1.hok.fresh (aW _);have pl':∀ i∈p,i<xs.length:=fun i hi=>by have:=lR.mp (p1.mem_iff.mp hi);lia
  have rv':=DM rv (p:=p) fun i hi=>by rw [hv];exact pl' i hi
  have hp:p.length<=60:=by rw [p1.length_eq,List.length_range,hl];exact ok.len
  have I3:=I1.laid (a:=s1.heap.objs.size) (o:=.lst (p.map fun i=>vs.getD i .non)) (t':=s1.toks) hk (aW _) ⟨by rw [bE,fD];lia,_,k,rv',hD⟩;have st:=(Step.refl sf.fh).new (o:=.lst (p.map fun i=>vs.getD i .non)) hn;refine ⟨.ref s1.heap.objs.size,_,I3,rfl,q _ _ _ (sf.trans st) ⟨_,_,rfl,Ls.of aY,?_⟩⟩;rw [RJ ok (by rw [<- hl];exact p1) p2];exact (DL g2 pl').mono st.ff
end
end
section
variable {as:List Addr}
theorem RO {K:W.Frag} {F:Hp} (k:Kt):Rep K F (kT k) (kV k):=by rcases k with _ | _ | _<;>rfl
theorem DN {K:W.Frag} {F:Hp}:∀ ks:List Kt,aD K F (ks.map kT) (ks.map kV)
 | []=>rfl
 | k::ks=>⟨_,_,rfl,RO k,DN ks⟩
section
variable {X:Cx} {pj:Pq} {O:L2.St} {F1 H1:Hp} {s1:Shared} {Q:VK}
theorem DO {H:Hp}:∀ {ws:Kq} {zs:List (List Key × Addr × Value)},KT H ws zs->∀ i,i<ws.length->H ((zs.map (·.2.1)).getD i 0)=some (.tup (((ws.map (·.1)).getD i []).map kV)):=fun h=>by
 induction h with
 | nil=>simp
 | cons r t ih =>
  intro i h;cases i with
  | zero=>simpa using r.2.1
  | succ i=>simpa using ih i (by simpa using h)
theorem RP {F H:Hp} (fh:Same F H) (h:∀ a∈as,∃ xs,H a=some (.tup xs)):∃ F1,Step F H F1 H/\∀ a∈as,F1 a=H a:=by
 refine ⟨fun b=>if b∈as then H b else F b,⟨SameT.refl H,fun b o e=>?_,fun b o e=>?_,fun b z=>?_⟩,fun a ha=>by simp [ha]⟩
 .by_cases hb:b∈as
  .simp [hb,fh b o e]
  .simp [hb,e]
 .by_cases hb:b∈as
  .simpa [hb] using e
  .simp [hb] at e;exact fh b o e
 .by_cases hb:b∈as
  .exact .inr (.inr (h b hb))
  .simp [hb] at z;exact .inl z
theorem RQ {i:Nat} (h:i<as.length):as.getD i 0∈as:=by rw [fR,bV h];exact iD h
theorem DP {K:W.Frag} {F:Hp}:∀ {as:List Addr} {kss:List (List Kt)},as.length=kss.length->(∀ i,i<kss.length->F (as.getD i 0)=some (.tup ((kss.getD i []).map kV)))->aD K F (kss.map tkT) (as.map V.ref)
 | [],[],_,_=>rfl
 | a::as,k::ks,hl,h=>⟨_,_,rfl,⟨a,_,rfl,by simpa using h 0 (by simp),DN k⟩,DP (by simpa using hl) fun i hi=>by simpa using h (i+1) (by simpa using hi)⟩
theorem DQ:∀ as:List Addr,aH (as.map V.ref) (as.map Value.ref)
 | []=>.nil
 | a::as=>.cons rfl (DQ as)
theorem RR:OkN []:=⟨by decide,(fun _ h=>nomatch h),(fun _ h=>nomatch h),⟨0,(fun _ h=>nomatch h)⟩,.nil,(fun _ h=>nomatch h)⟩
theorem RS (hu:X.A.units+100<cLine) (hcalm:X.calm=true):iT X (.builtin "sorted") (fun xs H Q=>∃ F t1 t x,xs=[x]/\Same F H/\Rep X.K F t1 x/\bO .sorted t1=some t/\∀ v F' H',Step F H F' H'->Rep X.K F' t v->Q v H'):=by
 intro pj s O H xs us Q I r h;obtain ⟨F,t1,t,x,rfl,fh,r1,ht,q⟩:=h;obtain ⟨u,rfl,ru⟩:=jI r;have hh:X.A.handled=none:=I.ok.hd hcalm;cases t1 with
 | dt ks ts =>
  obtain ⟨a,ws,rfl,g1,g2,g3⟩:=r1;cases ru;obtain ⟨ok,rfl⟩:=DK (show jK (ks.map tkT)=some t from ht);obtain ⟨z,lo,zs,rel,o,es,ep,e1,e2,e3,e4,e5,e6⟩:=vX I.hok (fh _ _ g1);subst g2;have hlz:ws.length=zs.length:=Paired.length rel;have hle:es.size=zs.length:=by rw [<- jV,e4,bE]
  have hln:(zs.map (·.2.1)).length=(ws.map (·.1)).length:=by simp [hlz]
  have hA:∀ i,i<(ws.map (·.1)).length->H ((zs.map (·.2.1)).getD i 0)=some (.tup (((ws.map (·.1)).getD i []).map kV)):=fun i hi=>DO rel i (by simpa using hi);obtain ⟨F1,st,hF⟩:=RP fh (as:=zs.map (·.2.1)) fun b hb=>by obtain ⟨i,hi,rfl⟩:=List.getElem_of_mem hb;have:=hA i (by rw [<- hln];exact hi);rw [fR,bV hi] at this;exact ⟨_,this⟩
  refine wQ hu ok q (kdu_collect (A:=X.A.in1) (DF (en:=es) (ep:=ep) lo) hh ⟨o,e1,e2,e3⟩ (by rw [hle,<- hlz];exact z) fun h' tk acc hk hacc=>?_);have ea:acc.toList=(zs.map (·.2.1)).map Value.ref:=by
   apply List.ext_getElem?;intro i;by_cases hi:i<zs.length
   .have hi':i<acc.size:=by rw [hacc.1,hle];exact hi
    obtain ⟨e,he,hv⟩:=hacc.2 i acc[i] (by simp [hi']);rw [Array.getElem?_toList,mU hi',hv,eP,iE,bV hi];rw [<- Array.getElem?_toList,e4,iE,bV hi] at he;cases he;rfl
   .rw [oR (by rw [Array.length_toList,hacc.1,hle];lia),oR (by simp;lia)]
  exact ⟨F1,(zs.map (·.2.1)).map V.ref,I.kept hk,st,DP hln fun i hi=>by rw [hF _ (RQ (by rw [hln];exact hi))];exact hA i hi,by rw [ea];exact DQ _⟩
 | dk ks ts =>
  cases ks with
  | cons _ _=>cases ht
  | nil =>
   cases ht;obtain ⟨a,ws,rfl,g1,g2,g3⟩:=r1;cases ru;have hws:ws=[]:=by cases ws with | nil=>rfl | cons _ _=>simp at g2
   subst hws;obtain ⟨z,lo,vs,rel,o,es,ep,e1,e2,e3,_,e4,_⟩:=rC I.hok (fh _ _ g1);cases rel;have hle:es.size=0:=by have:=e4.length;rw [jV] at this;simpa using this
   refine wQ (xs:=[]) hu RR q (kdu_collect (A:=X.A.in1) (DF (en:=es) (ep:=ep) lo) hh ⟨o,e1,e2,e3⟩ (by rw [hle];exact iH _) fun h' tk acc hk hacc=>?_);have ea:acc.toList=[]:=by have:=hacc.1;rw [hle] at this;exact List.length_eq_zero_iff.mp (by rw [jV];exact this)
   exact ⟨F,[],I.kept hk,Step.refl fh,rfl,by rw [ea];exact .nil⟩
 | lst ts =>
  obtain ⟨ok,rfl⟩:=DK (show jK ts=some t from ht);obtain ⟨l,vs,rfl,g1,g2⟩:=r1;cases ru;obtain ⟨qc,rv,pl,hz⟩:=I.list (Ls.same fh g1).sq;have hkp:∀ b o,s.heap.get? b=some o->((s.heap.push (seqObj "list" #[] 0)).update s.heap.objs.size (Obj.mapSeq (·++qc.toArray))).get? b=some o:=fun b o e=>by rw [kN _ _ _ _ (bP (aX e))];exact aR _ e
  exact wQ hu ok q (collect_list pl.isList ⟨F,vs,(I.kept hkp:L2.Inv X pj O H { s with heap:=(s.heap.push (seqObj "list" #[] 0)).update s.heap.objs.size (Obj.mapSeq (·++qc.toArray)),toks:=s.toks }),Step.refl fh,g2,rv⟩ (by rw [<- rv.length];exact hz))
 | _=>cases ht
end
end
section
open PySem Spec PyProof.Rows L2
variable {P:List Nat}
noncomputable def wR:List Nat->List (List Nat)
 | []=>[[]]
 | a::l=>wR l++(wR l).map (a::·)
noncomputable def allP:List (List Nat):=(wR (List.range 8)).filter fun l=>decide (l.length<=4)
noncomputable def wS (P:List Nat) (j:Nat):SetTable.Slot:=if P.toArray[SetTable.below P.toArray j]?==some j then .live (SetTable.below P.toArray j) else .empty
def lE:List Nat->Nat->Option Nat
 | [],_=>none
 | a::l,j=>if a=j then some 0 else (lE l j).map (·+1)
theorem RU:(allP.all fun P=>(List.range 8).all fun j=>decide (wS P j=(match lE P j with | some i=>.live i | none=>.empty)))=true:=by decide +kernel
theorem RV:(allP.all fun P=>(List.range 8).any fun j=>!P.contains j)=true:=by decide +kernel
theorem RW:(allP.all fun P=>decide P.Nodup)=true:=by decide +kernel
theorem RX (h:P∈allP) {j:Nat} (hj:j<8):wS P j=(match lE P j with | some i=>.live i | none=>.empty) :=
 jH (oml (oml RU P h) j (lR.mpr hj))
theorem RY (h:P∈allP):∃ j,j<8/\j∉P:=by obtain ⟨j,h1,h2⟩:=List.any_eq_true.mp (oml RV P h);exact ⟨j,List.mem_range.mp h1,by simpa using h2⟩
noncomputable def pix (h:Int):Nat->Nat × Nat
 | 0=>(SetTable.bits h%8,SetTable.bits h)
 | n+1=>(((pix h n).1*5+1+(pix h n).2/32)%8,(pix h n).2/32)
abbrev ix (h:Int) (n:Nat):Nat:=(pix h n).1
theorem RZ (h:Int):∀ n,ix h n<8
 | 0=>Nat.mod_lt _ (by decide)
 | n+1=>Nat.mod_lt _ (by decide)
theorem DR (h:Int):∀ n,(pix h n).2=SetTable.bits h/32 ^ n
 | 0=>by show SetTable.bits h=_;simp
 | n+1=>by show (pix h n).2/32=_;rw [DR h n,Nat.div_div_eq_div_mul,Nat.pow_succ]
theorem SA (h:Int) (n:Nat):(pix h (13+n)).2=0:=by
 rw [DR];have hb:SetTable.bits h<2 ^ 64:=by unfold SetTable.bits;have h1:=kM h (show (2 ^ 64:Int)≠0 by decide);have h2:=kL h (show (0:Int)<2 ^ 64 by decide);lia
 refine Nat.div_eq_of_lt (dI hb ?_);rw [Nat.pow_add];exact dS (show 2 ^ 64<=32 ^ 13 by decide) (Nat.le_mul_of_pos_right _ (Nat.pow_pos (by decide)))
def cyc (i:Nat):Nat->Nat
 | 0=>i
 | m+1=>(cyc i m*5+1)%8
theorem SB:((List.range 8).all fun i=>(List.range 8).all fun s=>(List.range 8).any fun m=>decide (cyc i m=s))=true:=by decide +kernel
theorem DS (h:Int):∀ m,ix h (13+m)=cyc (ix h 13) m
 | 0=>rfl
 | m+1=>by show ((pix h (13+m)).1*5+1+(pix h (13+m)).2/32)%8=_;rw [SA,Nat.zero_div,Nat.add_zero,cyc,<- DS h m]
theorem SD (h:Int) {s:Nat} (hs:s<8):∃ k,k<=20/\ix h k=s:=by have:=oml (oml SB (ix h 13) (lR.mpr (RZ h 13))) s (lR.mpr hs);obtain ⟨m,h1,h2⟩:=List.any_eq_true.mp this;have h1:=lR.mp h1;exact ⟨13+m,by lia,by rw [DS];exact jH h2⟩
theorem SE {p:Nat->Prop} [DecidablePred p]:∀ (n:Nat),p n->∃ k,k<=n/\p k/\∀ m,m<k->¬ p m
 | 0,h=>⟨0,aW _,h,fun m hm=>absurd hm (Nat.not_lt_zero _)⟩
 | n+1,h=>by
  by_cases e:∃ m,m<=n/\p m
  .obtain ⟨m,hm,hp⟩:=e;have go:∀ m,m<=n->p m->∃ k,k<=n/\p k/\∀ j,j<k->¬ p j:=by
    intro m
    induction m using Nat.strongRecOn with
    | ind m ih =>
     intro hm hp;by_cases f:∃ j,j<m/\p j
     .obtain ⟨j,hj,hpj⟩:=f;exact ih j hj (by lia) hpj
     .exact ⟨m,hm,hp,fun j hj hpj=>f ⟨j,hj,hpj⟩⟩
   obtain ⟨k,h1,h2,h3⟩:=go m hm hp;exact ⟨k,by lia,h2,h3⟩
  .exact ⟨n+1,aW _,h,fun m hm hp=>e ⟨m,by lia,hp⟩⟩
theorem SG (h:P∈allP) (hs:Int):∃ K,K<=20/\ix hs K∉P/\∀ m,m<K->ix hs m∈P:=by obtain ⟨j,hj,hn⟩:=RY h;obtain ⟨k,hk,e⟩:=SD hs hj;obtain ⟨K,h1,h2,h3⟩:=SE (p:=fun m=>ix hs m∉P) k (by rw [e];exact hn);exact ⟨K,by lia,h2,fun m hm=>Classical.byContradiction fun z=>h3 m hm z⟩
structure TOk (t:SetTable) (P:List Nat):Prop where
 mask:t.mask=7
 dum:t.dummies=#[]
 pl:t.place=P.toArray
 all:P∈allP
theorem TOk.slot {t:SetTable} {P:List Nat} (h:TOk t P) {j:Nat} (hj:j<8):t.slot j=(match lE P j with | some i=>.live i | none=>.empty):=by
 rw [<- RX h.all hj];unfold SetTable.slot wS;rw [h.pl,h.dum];simp only;split
 .rfl
 .rfl
end
section
open PySem Spec PyProof.Rows L2
variable {P:List Nat}
section
variable {prog:Program} {w:World} {A:Around} {E:Vq} {s:Shared}
abbrev tkd (prog:Program) (w:World):=tupleKind (cR prog w)
abbrev hK (prog:Program) (w:World) (k:List Key):Int:=(tkd prog w).hash k
noncomputable def wT (prog:Program) (w:World) (L:List (List Key × Addr)):List (Int × Value):=L.map fun e=>(hK prog w e.1,Value.ref e.2)
structure SetT (prog:Program) (w:World) (g:Heap) (S:Addr) (L:List (List Key × Addr)) (ep:Nat) (t:SetTable) (P:List Nat):Prop where
 ob:g.get? S=some { cls:=.type "set",dict:=none,data:=.set (wT prog w L).toArray ep t }
 ok:TOk t P
 len:P.length=L.length
 led:t.led=false->w.params.followText "set-order"=true
 nd:(L.map (·.1)).Nodup
 ks:∀ e∈L,IsTupleKey (cR prog w) g e.1 e.2
 rch:∀ q∈L.zip P,∃ n,n<=20/\q.2=ix (hK prog w q.1.1) n/\∀ m,m<n->ix (hK prog w q.1.1) m∈P
theorem SH (h:P∈allP):P.length<=4:=by unfold allP at h;exact jH (oN.mp h).2
theorem SetT.fits {g:Heap} {S:Addr} {L:List (List Key × Addr)} {ep:Nat} {t:SetTable} {P:List Nat} (h:SetT prog w g S L ep t P):t.fits (wT prog w L).toArray.size=true:=by have h1:=SH h.ok.all;unfold SetTable.fits SetTable.fill;rw [h.ok.pl,h.ok.dum,h.ok.mask];simp [wT,h.len];have:=h.len;lia
def Stop (prog:Program) (w:World) (L:List (List Key × Addr)) (P:List Nat) (k:List Key) (N:Nat):Prop :=
 (ix (hK prog w k) N∉P/\k∉L.map (·.1))\/∃ i e,lE P (ix (hK prog w k) N)=some i/\L[i]?=some e/\e.1=k
theorem DT:∀ {P:List Nat} {i j:Nat},P.Nodup->P[i]?=some j->lE P j=some i
 | [],i,j,_,h=>by simp at h
 | a::l,0,j,_,h=>by simp at h;subst h;rw [lE,if_pos rfl]
 | a::l,i+1,j,hn,h=>by
  obtain ⟨h1,h2⟩:=gI.mp hn;have h':l[i]?=some j:=by simpa using h
  have:a≠j:=fun e=>h1 (by rw [e];exact iR h');rw [lE,if_neg this,DT h2 h'];rfl
theorem SJ (h:P∈allP):P.Nodup:=jH (oml RW P h)
theorem SetT.stop {g:Heap} {S:Addr} {L:List (List Key × Addr)} {ep:Nat} {t:SetTable} (h:SetT prog w g S L ep t P) (k:List Key):∃ N,N<=20/\Stop prog w L P k N/\∀ m,m<N->ix (hK prog w k) m∈P:=by
 by_cases hk:k∈L.map (·.1)
 .obtain ⟨e,he,rfl⟩:=omm hk;obtain ⟨i,hi⟩:=List.getElem?_of_mem he;obtain ⟨hl,_⟩:=ome hi;have hj:P[i]?=some (P[i]'(by rw [h.len];exact hl)):=bV _;obtain ⟨n,h1,h2,h3⟩:=h.rch (e,P[i]'(by rw [h.len];exact hl)) (iR (i:=i) (by rw [List.getElem?_zip_eq_some];exact ⟨hi,hj⟩));exact ⟨n,h1,.inr ⟨i,e,DT (SJ h.ok.all) (by rw [hj];exact aV some h2),hi,rfl⟩,h3⟩
 .obtain ⟨K,h1,h2,h3⟩:=SG h.ok.all (hK prog w k);exact ⟨K,h1,.inl ⟨h2,hk⟩,h3⟩
end
end
section
open PySem Spec PyProof.Rows L2
section
variable {prog:Program} {w:World} {A:Around} {E:Vq} {s:Shared}
theorem rP {g g':Heap} {k:List Key} {a:Addr} (h:IsTupleKey (cR prog w) g k a) (q:∀ o,g.get? a=some o->g'.get? a=some o):IsTupleKey (cR prog w) g' k a :=
 let ⟨o,qc,n,h1,h2⟩:=h;⟨o,qc,n,q o h1,h2⟩
theorem DU {g:Heap} {S a:Addr} {L:List (List Key × Addr)} {ep:Nat} {t:SetTable} {P:List Nat} {k:List Key} (h:SetT prog w g S L ep t P) (hk:IsTupleKey (cR prog w) g k a):a≠S:=by rintro rfl;obtain ⟨o,qc,n,h1,h2,h3,_⟩:=hk;cases h1.symm.trans h.ob;cases h3
end
end
end Ev
namespace L2
open PySem Spec PyProof.Rows
section
instance (priority:=high) keyBEq:BEq Key:=⟨fun a b=>decide (a=b)⟩
instance keyLaw:LawfulBEq Key where
 eq_of_beq:=fun h=>jH h
 rfl:=dY rfl
section
variable {prog:Program} {w:World} {A:Around} {R:Result->Shared->Prop} {I:Addr} {fp wr:List Addr} {G:Array GenState->Array GenState->Prop} {P:Nat->Value->Prop} {St:Nat->Shared->Prop}
end
end
section
section
variable {prog:Program} {w:World} {A:Around} {E:Vq} {s:Shared}
abbrev setO (b:Bool):Obj:={ cls:=.type "set",dict:=none,data:=.set #[] 0 (.fresh 0 0 b) }
end
end
end L2
namespace Ev
open PySem Spec PyProof.Rows L2
section
section
variable {prog:Program} {w:World} {A:Around} {R:Result->Shared->Prop} {I:Addr} {fp wr:List Addr} {G:Array GenState->Array GenState->Prop} {P:Nat->Value->Prop} {St:Nat->Shared->Prop}
end
section
variable {prog:Program} {w:World} {A:Around} {E:Vq} {s:Shared}
end
end
section
open PySem W Spec PyProof.Rows L2
variable {xs:List (List Key × Addr × Value)}
theorem DV:entryFor table "dict.update.loop"=some Builtin.«dict.update.loop»:=entryFor_of_tree (by kernel_rfl)
theorem rQ:plainId "dict.update.loop"=true:=by decide +kernel
section
variable {prog:Program} {w:World} {A:Around} {R:Result->Shared->Prop} {I:Addr} {fp wr:List Addr} {G:Array GenState->Array GenState->Prop} {P:Nat->Value->Prop} {St:Nat->Shared->Prop}
noncomputable def kB (ky:Nat->List Key) (ka:Nat->Addr) (us:Nat->Value):Nat->List (List Key × Addr × Value)
 | 0=>[]
 | i+1=>storedH (kB ky ka us i) (ky i) (ka i) (us i)
theorem SK {k:List Key} {a:Addr} {v:Value}:(storedH xs k a v).length<=xs.length+1:=by unfold storedH;split<;>simp
theorem DW {ky:Nat->List Key} {ka:Nat->Addr} {us:Nat->Value}:∀ i,(kB ky ka us i).length<=i
 | 0=>aW _
 | i+1=>dS SK (Nat.succ_le_succ (DW i))
theorem rR {ky:Nat->List Key} {ka:Nat->Addr} {us:Nat->Value}:∀ i {x},x∈kB ky ka us i->∃ j,j<i/\x.1=ky j/\x.2.1=ka j
 | 0,_,h=>nomatch h
 | i+1,x,h=>by
  rw [kB] at h;unfold storedH at h;split at h
  .obtain ⟨y,hy,e⟩:=omm h;obtain ⟨j,hj,e1,e2⟩:=rR i hy;refine ⟨j,by lia,?_⟩;unfold putAt at e;split at e<;>(subst e;exact ⟨e1,e2⟩)
  .rcases oma h with h | h
   .obtain ⟨j,hj,e⟩:=rR i h;exact ⟨j,by lia,e⟩
   .rw [omg h];exact ⟨i,by lia,rfl,rfl⟩
theorem wU {g g':Heap} {D:Addr} (h:g.DictOfH (tkd prog w) D xs) (hD:∀ o,g.get? D=some o->g'.get? D=some o) (hk:∀ x∈xs,∀ o,g.get? x.2.1=some o->g'.get? x.2.1=some o):g'.DictOfH (tkd prog w) D xs:=by obtain ⟨o,es,ep,ho,hc,hd,he,his,hn⟩:=h;exact ⟨o,es,ep,hD o ho,hc,hd,he,fun x hx=>rP (his x hx) fun o e=>hk x hx o e,hn⟩
theorem SM {n:Nat} {pr ka:Nat->Addr} {ky:Nat->List Key} {us:Nat->Value} (W:WalksS prog w A.in1 I fp wr G n P St) (D:Addr) (hf:D∉fp) (hv:∀ i,i<n->∀ v,P i v->v=.ref (pr i)) (hnw:∀ i,i<n->pr i∉wr/\ka i∉wr) (hnD:∀ i,i<n->pr i≠D/\ka i≠D) (hn:n<=1000) (hu:A.in1.units+1<cLine) :
  ∀ (k i:Nat) (s:Shared),n-i=k->i<=n->St i s->(∀ j,j<n->IsTup s.heap (pr j) #[.ref (ka j),us j]/\IsTupleKey (cR prog w) s.heap (ky j) (ka j))->s.heap.DictOfH (tkd prog w) D (kB ky ka us i) ->
   (∀ s',Moved (D::wr) G s s'->s'.heap.DictOfH (tkd prog w) D (kB ky ka us n)->R (.ok (.ret .none)) s')->codeAny (model prog w) A (.builtin "dict.update.loop" ⟨[.ref D,.ref I,rawInt i,.none],[]⟩) R s:=by
 have hw:D∉wr:=fun z=>hf (W.sub _ z);have hsu:∀ c∈wr,c∈D::wr:=fun c hc=>cK _ hc;intro k
 induction k with
 | zero =>
  intro i s e1 e2 st ht hd r;have e3:i=n:=by lia
  subst e3;refine codeAny_builtin DV (show wpAny _ _ _ _ _ _ from ?_);rw [Around.under_plainId rQ _];show wpAny _ A.in1 (pyNext (.ref I) >>= _) _ _ s;refine aA (W.done s _ _ st fun s1 mv=>?_);show wpAny _ A.in1 (Builtin.Dict.addKeywords D [] >>= fun _=>ret Value.none) _ _ s1;refine aA (show wpAny _ _ (pure ()) _ _ _ from aL (aL (r s1 (mv.mono hsu) ?_)));exact wU hd (fun o e=>mv.heap D o hw e) fun x hx=>by obtain ⟨j,hj,_,e⟩:=rR _ hx;rw [e];exact fun o q=>mv.heap _ o (hnw j hj).2 q
 | succ k ih =>
  intro i s e1 e2 st ht hd r;have lt:i<n:=by lia
  refine codeAny_builtin DV (show wpAny _ _ _ _ _ _ from ?_);rw [Around.under_plainId rQ _];show wpAny _ A.in1 (pyNext (.ref I) >>= _) _ _ s;refine aA (W.item i s _ _ lt st fun v s1 hP st1 mv=>?_);obtain rfl:=hv i lt v hP;dsimp only;obtain ⟨⟨o,h1,h2,m,h3⟩,hk⟩:=ht i lt;have g1:s1.heap.get? (pr i)=some o:=mv.heap _ o (hnw i lt).1 h1;refine aA (gU (aA (wpAny_tryCatch ?_)));unfold Builtin.Dict.pairItems;refine aA (Looks.here (show Looks _ s1.heap (typeOf (.ref (pr i))) o.cls from (Looks.ld g1).andThen .now) ?_);rw [h2,if_pos (by decide)];refine aA (Looks.here (show Looks _ s1.heap (seqItems? (.ref (pr i))) (some #[.ref (ka i),us i]) from (Looks.ld g1).andThen (by rw [h3];exact .now)) (aL ?_));show wpAny _ _ (holding [.ref (ka i),us i] (dictSet D (.ref (ka i)) (us i))) _ _ s1;have hk1:∀ j,j<n->IsTupleKey (cR prog w) s1.heap (ky j) (ka j):=fun j hj=>rP (ht j hj).2 fun o e=>mv.heap _ o (hnw j hj).2 e;have hd1:s1.heap.DictOfH (tkd prog w) D (kB ky ka us i):=wU hd (fun o e=>mv.heap D o hw e) fun x hx=>by obtain ⟨j,hj,_,e⟩:=rR _ hx;rw [e];exact fun o q=>mv.heap _ o (hnw j (by lia)).2 q
  refine gU (wpAny_dictSet_heap (hsz:=by have:=DW (ky:=ky) (ka:=ka) (us:=us) i;rw [fD];lia) (tupleKind_room_in1 (by have:A.units+1+1<cLine:=hu;lia)) (hk1 i lt) hd1 fun h' dd' hs=>?_);refine aL ⟨plainId_quiet rQ _,ih (i+1) _ (by lia) lt ?_ (fun j hj=>⟨?_,?_⟩) dd' fun s2 mv2 d2=>r s2 ?_ d2⟩
  .exact W.frame _ s1 _ _ st1 (Nat.le_add_right _ _) fun c hc o e=>by show h'.get? c=some o;rw [hs.2 c fun z:c=D=>hf (by rw [<- z];exact hc)];exact e
  .obtain ⟨o',q1,q2,q3⟩:=(ht j hj).1;exact ⟨o',by show h'.get? (pr j)=some o';rw [hs.2 _ (hnD j hj).1];exact mv.heap _ o' (hnw j hj).1 q1,q2,q3⟩
  .exact rP (hk1 j hj) fun o e=>by show h'.get? (ka j)=some o;rw [hs.2 _ (hnD j hj).2];exact e
  .refine Moved.trans W.gtrans ((mv.mono hsu).then_heap (Nat.le_add_right _ _) fun c o hc e=>?_) mv2;rw [hs.2 c fun z:c=D=>hc (by rw [z];exact dW)];exact e
end
end
section
open PySem W Spec PyProof.Rows L2
theorem SN:typeLookup (.type "list") "keys"=pure none:=by rw [typeLookup_type,builtinLookup_eq_fast];kernel_rfl
theorem SO:typeLookup (.type "list") "__getattr__"=pure none:=by rw [typeLookup_type,builtinLookup_eq_fast];kernel_rfl
section
variable {prog:Program} {w:World} {A:Around} {E:Vq} {a:Addr} {xs:Array Value} {n:Nat} {sl:Array (Option Value)}
theorem SQ {s:Shared} {Q:Option Value->Shared->Prop} (hx:s.heap.get? a=some { cls:=.type "list",dict:=none,data:=.seq xs n,slots:=sl }) (hA:A.handled=none)
  (h:∀ h' tk,(∀ b o,s.heap.get? b=some o->h'.get? b=some o)->Q none { s with heap:=h',toks:=tk }):wpAny (model prog w) A (getAttr? (.ref a) "keys") Q E s:=by
 obtain ⟨hp,g,d,tk,os⟩:=s;have hT:∀ t,(⟨hp,g,d,t,os⟩:Shared).TypeIs (.ref a) "list":=fun t=>⟨_,hx,rfl⟩;have f1:=sub_AttributeError;have f3:=F.slot_list_getattribute.lookup;have f4:=F.slot_list_getattribute.bind (.ref a);have f5:=SO;unfold getAttr? getAttrBy? getAttrBy
 repeat (any_goals (first | assumption | exact hT _ | wp_step))
 refine codeAny_call_builtin F.slot_list_getattribute.plain F.entry_list_ga (F.slot_list_getattribute.check _ _ _ _ _ _ _ _ (hT _) (F.args_list_getattribute_2 _ _) ?_);have f6:=SN;have hT':=hT (tk+1);unfold Builtin.«object.__getattribute__»
 repeat (any_goals (first | assumption | exact hT _ | wp_step))
 refine wpAny_raiseAttrError (by first | exact hA | simp [hA]) (fun h' tk' e hx'=>?_) (attrMsg_fits (by decide +kernel) (by rw [fD];decide +kernel));obtain ⟨t',u',he⟩:=hx'.there;show wpAny _ _ (getattributeRaised _ _ _ _ _ _ _) _ _ _;unfold getattributeRaised
 repeat (any_goals (first | assumption | wp_step))
 exact h h' tk' hx'.keeps
end
end
section
open PySem W Spec PyProof.Rows L2
section
variable {prog:Program} {w:World} {A:Around} {E:Vq} {sl:Array (Option Value)}
theorem SR (h:Heap):(h.push { cls:=.type "dict",data:=.dict #[] }).DictOfH (tkd prog w) h.objs.size [] :=
 ⟨_,#[],0,bW _ rfl,⟨rfl,rfl,rfl⟩,rfl,rfl,fun x hx=>(nomatch hx),qF⟩
theorem SS {s:Shared} {l:Addr} {qc:Array Value} {m N:Nat} {pr ka:Nat->Addr} {ky:Nat->List Key} {us:Nat->Value} {Q:Vq} (hh:A.handled=none) (hl:s.heap.get? l=some { cls:=.type "list",dict:=none,data:=.seq qc m,slots:=sl }) (hn:qc.size=N) (hN:N<=1000) (hu:A.units+10<cLine)
  (hp:∀ i,i<N->qc[i]?=some (.ref (pr i))) (ht:∀ i,i<N->IsTup s.heap (pr i) #[.ref (ka i),us i]/\IsTupleKey (cR prog w) s.heap (ky i) (ka i))
  (h:∀ g tk,(∀ b o,s.heap.get? b=some o->g.get? b=some o)->g.DictOfH (tkd prog w) s.heap.objs.size (kB ky ka us N)->Q (.ref s.heap.objs.size) { s with heap:=g,toks:=tk }) :
  wpAny (model prog w) A (call (.type "dict") [.ref l]) Q E s:=by
 refine callType_codes (Q₁:=fun obj s₁=>obj=.ref s.heap.objs.size/\s₁={ s with heap:=s.heap.push { cls:=.type "dict",data:=.dict #[] } }) F.kt_called_dict (F.kt_typeCall_dict_1 _) F.entry_dict_init (kt_code_dict_new _ ⟨rfl,rfl⟩) ?_;rintro obj s₁ ⟨rfl,rfl⟩;have hnew:(s.heap.push { cls:=.type "dict",data:=.dict #[] }).DictOfH (tkd prog w) s.heap.objs.size []:=SR s.heap;have hty:({ s with heap:=s.heap.push { cls:=.type "dict",data:=.dict #[] } }:Shared).TypeIs (.ref s.heap.objs.size) "dict":=⟨_,bW _ rfl,rfl⟩;have hl1:(s.heap.push { cls:=.type "dict",data:=.dict #[] }).get? l=some { cls:=.type "list",dict:=none,data:=.seq qc m,slots:=sl }:=aR _ hl;refine ⟨hty,F.args_dict_init_2 _ _,?_⟩;unfold Builtin.«dict.__init__»;refine aA ?_;unfold Builtin.Dict.selfAndRest;refine aA (wpAny_notOrdered_dict hty ?_);show wpAny _ _ (pure (s.heap.objs.size,[Value.ref l])) _ _ _;refine aL ?_;show wpAny _ _ (Builtin.Dict.updateFrom "dict.__init__" s.heap.objs.size (.ref l) [] .none) _ _ _;unfold Builtin.Dict.updateFrom;refine aA (wpAny_typeOf (show Shared.TypeIs _ (.ref l) "list" from ⟨_,hl1,rfl⟩) ?_);rw [if_pos (by decide)];refine wpAny_bind (SQ hl1 (by simp [hh]) fun h' tk' kp=>?_);rw [if_pos (show (none:Option Value).isNone=true from rfl)];refine aA (wpAny_rule ?_);have hl2:h'.get? l=some { cls:=.type "list",dict:=none,data:=.seq qc m,slots:=sl }:=kp _ _ hl1;have hl3:h'.IsList l qc:=⟨_,hl2,rfl,m,rfl⟩;have kp':∀ b o,s.heap.get? b=some o->h'.get? b=some o:=fun b o e=>kp _ _ (aR _ e);refine aA (wpAny_pyIter_list hl3 (aL ⟨plainId_quiet rQ _,?_⟩));have ll:l<h'.objs.size:=aX hl2;have hD0:h'.get? s.heap.objs.size=some { cls:=.type "dict",data:=.dict #[] }:=kp _ _ (bW _ rfl);have lD:s.heap.objs.size<h'.objs.size:=aX hD0;have ll0:l<s.heap.objs.size:=aX hl;have W:=(Walks.list (prog:=prog) (w:=w) (A:=A.in1.in1) (by simp [hh]) h'.objs.size l (Nat.ne_of_lt ll) qc).toS;rw [hn] at W;have lp:∀ i,i<N->pr i<s.heap.objs.size:=fun i hi=>let ⟨o,e,_⟩:=(ht i hi).1;aX e
 have lk:∀ i,i<N->ka i<s.heap.objs.size:=fun i hi=>let ⟨o,_,_,e,_⟩:=(ht i hi).2;aX e
 refine SM (pr:=pr) (ka:=ka) (ky:=ky) (us:=us) W s.heap.objs.size ?_ (fun i hi v hP=>?_) (fun i hi=>?_) (fun i hi=>⟨bP (lp i hi),bP (lk i hi)⟩) hN (by show A.units+1+1+1<cLine;lia) (N-0) 0 _ rfl (iH _) ?_ (fun j hj=>?_) ?_ fun s' mv dd=>?_
 .simp only [List.mem_cons,List.not_mem_nil,or_false,not_or];exact ⟨bP lD,Nat.ne_of_gt ll0⟩
 .exact cP (hP.symm.trans (hp i hi))
 .simp only [List.mem_cons,List.not_mem_nil,or_false];exact ⟨bP (Nat.lt_trans (lp i hi) lD),bP (Nat.lt_trans (lk i hi) lD)⟩
 .exact ⟨⟨_,bW _ rfl,rfl,rfl⟩,⟨_,aR _ hl2,rfl,m,rfl⟩⟩
 .obtain ⟨o,q1,q2,q3⟩:=(ht j hj).1;exact ⟨⟨o,aR _ (kp' _ _ q1),q2,q3⟩,rP (ht j hj).2 fun o e=>aR _ (kp' _ _ e)⟩
 .exact wU hnew (fun o e=>aR _ (kp _ _ e)) fun x hx=>nomatch hx
 .obtain ⟨g3,gs3,d3,tk3,os3⟩:=s';have eg:gs3=s.gens:=mv.gens;have ed:d3=s.drawn:=mv.drawn;have eo:os3=s.os:=mv.os;subst eg;subst ed;subst eo;refine ⟨rfl,h g3 tk3 (fun b o e=>mv.heap b o ?_ (aR _ (kp' _ _ e))) dd⟩;have hb:=aX e;simp only [List.mem_cons,List.not_mem_nil,or_false,not_or];exact ⟨bP hb,bP (Nat.lt_trans hb lD)⟩
end
end
section
abbrev bL {κ:Type} (K:W.Frag) (F:Hp):List (κ × T)->List (κ × V)->Prop:=Paired fun p q=>q.1=p.1/\Rep K F p.2 q.2
section
variable {κ:Type} [DecidableEq κ] {K:W.Frag} {F:Hp}
theorem bL.of:∀ {qb:List (κ × T)} {ws:List (κ × V)},ws.map (·.1)=qb.map (·.1)->aD K F (qb.map (·.2)) (ws.map (·.2))->bL K F qb ws
 | [],[],_,_=>.nil
 | [],_::_,h,_=>by simp at h
 | _::_,[],h,_=>by simp at h
 | p::qb,q::ws,h,r=>by rw [aT,aT] at h;injection h with h1 h2;obtain ⟨v,vr,e,r1,r2⟩:=r;rw [aT] at e;injection e with e1 e2;exact .cons ⟨h1,by rw [e1];exact r1⟩ (bL.of h2 (by rw [e2];exact r2))
theorem bL.keys {qb:List (κ × T)} {ws:List (κ × V)} (r:bL K F qb ws):ws.map (·.1)=qb.map (·.1):=by
 induction r with
 | nil=>rfl
 | cons h t ih=>rw [aT,aT,ih,h.1]
theorem bL.vals {qb:List (κ × T)} {ws:List (κ × V)} (r:bL K F qb ws):aD K F (qb.map (·.2)) (ws.map (·.2)):=by
 induction r with
 | nil=>rfl
 | cons h t ih=>exact ⟨_,_,rfl,h.2,ih⟩
theorem bL.any {qb:List (κ × T)} {ws:List (κ × V)} (r:bL K F qb ws) (k:κ):(ws.any fun kv=>decide (kv.1=k))=qb.any fun kv=>decide (kv.1=k):=by
 induction r with
 | nil=>rfl
 | cons h t ih=>rw [iQ,iQ,ih,h.1]
theorem bL.put {qb:List (κ × T)} {ws:List (κ × V)} (r:bL K F qb ws) (k:κ) {y:T} {v:V} (ry:Rep K F y v):bL K F (dQ qb k y) (fK ws k v):=by
 unfold dQ fK;rw [r.any k];by_cases e:(qb.any fun kv=>decide (kv.1=k))=true
 .rw [if_pos e,if_pos e];clear e
  induction r with
  | nil=>exact .nil
  | @cons p q ps qs h t ih =>
   rw [aT,aT];refine .cons ?_ ih;by_cases e:p.1=k
   .rw [if_pos e,if_pos (h.1.trans e)];exact ⟨h.1,ry⟩
   .rw [if_neg e,if_neg (fun z=>e (h.1.symm.trans z))];exact h
 .rw [if_neg e,if_neg e];exact Paired.snoc r ⟨rfl,ry⟩
theorem bL.drop {qb:List (κ × T)} {ws:List (κ × V)} (r:bL K F qb ws) (k:κ):bL K F (BG qb k) (BO ws k):=by
 unfold BG BO
 induction r with
 | nil=>exact .nil
 | @cons p q ps qs h t ih =>
  rw [jT,jT,h.1];by_cases e:p.1=k
  .rw [if_neg (by simp [e]),if_neg (by simp [e])];exact ih
  .rw [if_pos (by simp [e]),if_pos (by simp [e])];exact .cons h ih
theorem bL.val {qb:List (κ × T)} {ws:List (κ × V)} (r:bL K F qb ws) (k:κ):(qR qb k=none/\fJ ws k=none)\/∃ t v,qR qb k=some t/\fJ ws k=some v/\Rep K F t v:=by
 induction r with
 | nil=>exact .inl ⟨rfl,rfl⟩
 | @cons p q ps qs h t ih =>
  rw [qR];by_cases e:p.1=k
  .rw [if_pos e,nK (h.1.trans e)];exact .inr ⟨_,_,rfl,rfl,h.2⟩
  .rw [if_neg e,nL (fun z=>e (h.1.symm.trans z))];exact ih
end
end
section
open PySem W Spec PyProof.Rows L2
theorem DX:∀ {xs:List T} {l:List (List Kt × T)},kW xs=some l->xs.length=l.length/\∀ i (h:i<l.length),∃ x,xs[i]?=some x/\qS x=some l[i]
 | [],l,h=>by cases h;exact ⟨rfl,fun i hi=>absurd hi (Nat.not_lt_zero _)⟩
 | x::r,l,h=>by
  obtain ⟨p,h1,h⟩:=obs h;obtain ⟨ps,h2,h⟩:=obs h;cases h;obtain ⟨e,g⟩:=DX h2;refine ⟨by simp [e],fun i hi=>?_⟩;cases i with
  | zero=>exact ⟨x,rfl,h1⟩
  | succ i=>exact g i (by simpa using hi)
section
variable {X:Cx}
theorem SU {pj:Pq} {O:L2.St} {H F:Hp} {s:Shared} (I:Inv X pj O H s) (fh:Same F H) {x:T} {p:List Kt × T} {v:V} {u:Value} (h:qS x=some p) (r:Rep X.K F x v) (ru:aB v u) :
  ∃ (q c:Addr) (y:V) (z:Value),u=.ref q/\IsTup s.heap q #[.ref c,z]/\H c=some (.tup (p.1.map kV))/\F c=some (.tup (p.1.map kV))/\Rep X.K F p.2 y/\aB y z:=by
 unfold qS at h;split at h
 .rename_i ks w;obtain ⟨k,hk,rfl⟩:=oms h;obtain ⟨q,vs,qc,rfl,rfl,g1,g2,g3,g4⟩:=iO I fh r ru;obtain ⟨v1,r1,rfl,k1,v2,r2,rfl,k2,rfl⟩:=g2;cases g3 with
  | cons a1 g3 =>
   cases g3 with
   | cons a2 g3 =>cases g3;obtain ⟨c,ws,rfl,m1,m2⟩:=k1;have:=nP m2 hk;subst this;cases a1;exact ⟨q,c,v2,_,rfl,g4,fh _ _ m1,m1,k2,a2⟩
 .cases h
theorem SV (hcalm:X.calm=true) (hu:X.A.units+100<cLine):iT X (.type "dict") (fun zs H Q=>∃ F xs l x,zs=[x]/\Same F H/\Rep X.K F (.lst xs) x/\kW xs=some l/\l.length<=1000/\∀ v F' H',Step F H F' H'->Rep X.K F' (.dt ((hG l).map (·.1)) ((hG l).map (·.2))) v->Q v H'):=by
 intro pj s O H zs us Q I r h;obtain ⟨F,xs,l,x,rfl,fh,r1,hp,h1000,q⟩:=h;obtain ⟨u,rfl,ru⟩:=jI r;obtain ⟨a,vs,rfl,g1,g2⟩:=r1;cases ru;obtain ⟨z,qc,n,rv,ho⟩:=(Ls.same fh g1).ok I;obtain ⟨e1,hg⟩:=DX hp;have hl:qc.length=l.length:=by rw [<- rv.length,g2.length,e1]
 have ex:∀ i,∃ f:Addr × Addr × V × Value,i<l.length->qc[i]?=some (.ref f.1)/\IsTup s.heap f.1 #[.ref f.2.1,f.2.2.2]/\H f.2.1=some (.tup ((l.getD i ([],.non)).1.map kV))/\Rep X.K F (l.getD i ([],.non)).2 f.2.2.1/\aB f.2.2.1 f.2.2.2:=fun i=>by
  by_cases hi:i<l.length
  .obtain ⟨x,hx,hpx⟩:=hg i hi;obtain ⟨v,hv,rv1⟩:=g2.get hx;obtain ⟨u,hu',ru⟩:=rv.get hv;obtain ⟨q,c,y,z,rfl,t1,t2,_,t3,t4⟩:=SU I fh hpx rv1 ru;have el:l.getD i ([],.non)=l[i]:=by rw [fR,bV hi];rfl
   exact ⟨(q,c,y,z),fun _=>⟨hu',t1,by rw [el];exact t2,by rw [el];exact t3,t4⟩⟩
  .exact ⟨(0,0,.non,.none),fun z=>absurd z hi⟩
 obtain ⟨f,hf⟩:=Classical.axiomOfChoice ex;refine SS (pr:=fun i=>(f i).1) (ka:=fun i=>(f i).2.1) (ky:=fun i=>(l.getD i ([],.non)).1) (us:=fun i=>(f i).2.2.2) (N:=l.length) (I.ok.hd hcalm) ho (by simpa using hl) h1000 (by lia) (fun i hi=>by simpa using (hf i hi).1) (fun i hi=>⟨(hf i hi).2.1,mB I.hok (hf i hi).2.2.1⟩) fun g tk kp dd=>?_;have main:∀ i,i<=l.length->∃ ws:Kq,KT H ws (kB (fun i=>(l.getD i ([],.non)).1) (fun i=>(f i).2.1) (fun i=>(f i).2.2.2) i)/\bL X.K F (hG (l.take i)) ws/\ws.length<=i:=by
  intro i
  induction i with
  | zero=>exact fun _=>⟨[],.nil,.nil,aW _⟩
  | succ i ih =>
   intro hi;obtain ⟨ws,k1,k2,k3⟩:=ih (by lia);obtain ⟨t1,t2,t3,t4,t5⟩:=hf i (by lia);refine ⟨fK ws (l.getD i ([],.non)).1 (f i).2.2.1,k1.put _ t3 t5,?_,?_⟩
   .have e:l.take (i+1)=l.take i++[l.getD i ([],.non)]:=by rw [List.take_succ,bV (show i<l.length by lia),fR,bV (show i<l.length by lia)];rfl
    have e2:hG (l.take (i+1))=dQ (hG (l.take i)) (l.getD i ([],.non)).1 (l.getD i ([],.non)).2:=by unfold hG;rw [e,List.foldl_append];rfl
    rw [e2];exact k2.put _ t4
   .have:=vW ws (l.getD i ([],.non)).1 (f i).2.2.1;lia
 obtain ⟨ws,k1,k2,k3⟩:=main l.length (aW _);rw [List.take_length] at k2;have hn:H s.heap.objs.size=none:=I.hok.fresh (aW _);have hsys:(s.heap.objs.size==sysModules)=false:=by have:=I.big;simpa using Nat.ne_of_gt this
 obtain ⟨o,es,ep,d1,d2,d3,d4,d5,d6⟩:=dd;have I1:=I.laid (a:=s.heap.objs.size) (o:=.dT ws) (t':=tk) kp (aW _) ⟨by rw [fD];lia,hsys,_,k1.keeps fun c ys ec=>by rw [aN (bQ ec hn)];exact ec,o,es,ep,d1,d2,d3,d4,d6⟩;have st:=(Step.refl fh).new (o:=.dT ws) hn;exact ⟨.ref s.heap.objs.size,_,I1,rfl,q _ _ _ st ⟨_,ws,rfl,aY,k2.keys,k2.vals.mono st.ff⟩⟩
end
end
section
variable {f:Env->Option T} {G:Glo} {k:Nat} {x:Str} {g:T->Option T}
section
variable {X:Cx} {c:Tc} {a b:Expr} {pos p:Pos}
def BlS (X:Cx) (f:Value) (g:T->Option T):Prop :=
 iT X f (fun xs H Q=>∃ F t1 t x,xs=[x]/\Same F H/\Rep X.K F t1 x/\g t1=some t/\∀ v F' H',Step F H F' H'->Rep X.K F' t v->Q v H')
theorem SW:BlS X (.builtin "len") (bO .len):=by
 intro pj s O H xs us Q I r h;obtain ⟨F,t1,t,x,rfl,fh,r1,ht,q⟩:=h;cases t1 with
 | tup ts =>obtain ⟨l,vs,rfl,h1,h2⟩:=r1;cases ht;exact AK pj s O H _ us Q I r ⟨l,vs,rfl,.inr (dC fh h1),q _ F H (Step.refl fh) (by rw [h2.length];rfl)⟩
 | lst ts =>obtain ⟨l,vs,rfl,h1,h2⟩:=r1;cases ht;exact AK pj s O H _ us Q I r ⟨l,vs,rfl,.inl (Ls.same fh h1).sq,q _ F H (Step.refl fh) (by rw [h2.length];rfl)⟩
 | _=>cases ht
theorem SY:BlS X (.type "int") (bO .toInt):=by
 intro pj s O H xs us Q I r h;obtain ⟨F,t1,t,x,rfl,fh,r1,ht,q⟩:=h;cases t1 with
 | int i=>cases r1;cases ht;exact zW pj s O H _ us Q I r (.inl ⟨i,rfl,q _ F H (Step.refl fh) rfl⟩)
 | bl k=>cases r1;cases ht;exact zW pj s O H _ us Q I r (.inr ⟨k,rfl,q _ F H (Step.refl fh) rfl⟩)
 | _=>cases ht
theorem TC:BlS X (.type "tuple") (bO .toTuple):=by
 intro pj s O H xs us Q I r h;obtain ⟨F,t1,t,x,rfl,fh,r1,ht,q⟩:=h;cases t1 with
 | tup ts =>obtain ⟨l,vs,rfl,h1,h2⟩:=r1;cases ht;exact AM pj s O H _ us Q I r ⟨l,vs,rfl,.inr ⟨dC fh h1,q _ F H (Step.refl fh) ⟨l,vs,rfl,h1,h2⟩⟩⟩
 | lst ts =>obtain ⟨l,vs,rfl,h1,h2⟩:=r1;cases ht;refine AM pj s O H _ us Q I r ⟨l,vs,rfl,.inl ⟨(Ls.same fh h1).sq,fun l' hl=>?_⟩⟩;have st:=(Step.refl fh).new (o:=.tup vs) hl;exact q _ _ _ st ⟨l',vs,rfl,aY,h2.mono st.ff⟩
 | _=>cases ht
theorem DY {K:W.Frag} {F:Hp}:∀ {ts:List T} {vs:List V} {bs:List Bool},aD K F ts vs->nG ts=some bs->vs=bs.map V.bl
 | [],_,_,h,e=>by cases h;cases e;rfl
 | t::ts,_,_,h,e=>by
  obtain ⟨v,w,rfl,h1,h2⟩:=h;obtain ⟨b,e1,e⟩:=obs e;obtain ⟨bs,e2,e⟩:=obs e;cases e;rw [DY h2 e2];cases t with
  | bl i=>cases e1;cases h1;rfl
  | _=>cases e1
theorem DZ:∀ {bs:List Bool} {us:List Value},aH (bs.map V.bl) us->us=bs.map Value.bool
 | [],_,h=>by cases h;rfl
 | b::bs,_,h=>by
  rw [aT] at h;cases h with
  | cons h1 h2 =>cases h1;rw [DZ h2];rfl
theorem TD (hcalm:X.calm=true):BlS X (.builtin "any") (bO .any):=by
 intro pj s O H xs us Q I r h;obtain ⟨F,t1,t,x,rfl,fh,r1,ht,q⟩:=h;cases t1 with
 | lst ts =>
  obtain ⟨l,vs,rfl,h1,h2⟩:=r1;obtain ⟨u,rfl,ru⟩:=jI r;cases ru;simp only [bO] at ht;obtain ⟨bs,hbs,rfl⟩:=oms ht;have hvs:=DY h2 hbs;subst hvs;obtain ⟨qc,rv,hl,hz⟩:=wA I (Ls.same fh h1);have ei:=DZ rv;subst ei;have hlt:l<s.heap.objs.size:=by obtain ⟨_,e,_⟩:=hl;exact aX e
  refine call_any_walk (wpAny_pyIter_list hl ?_);refine ⟨s.heap.objs.size,[s.heap.objs.size,l],[s.heap.objs.size],(bs.map Value.bool).toArray.size,_,_,fun i=>(bs[i]?).getD true,rfl,Walks.list (A:=X.A.in1) (I.ok.hd hcalm) _ l (bP hlt) (bs.map Value.bool).toArray,
   ⟨⟨_,bW _ rfl,rfl,rfl⟩,hl.push _⟩,fun i v s' Q' E' hP hQ=>?_,fun h' tk hk=>?_⟩
  .have hP':(bs.map Value.bool)[i]?=some v:=by simpa using hP
   rw [iE] at hP';obtain ⟨b,hb,rfl⟩:=oms hP';replace hQ:Q' ((bs[i]?).getD true) s':=hQ;rw [hb] at hQ;exact wpAny_truthy_bool hQ
  .have e:((List.range (bs.map Value.bool).toArray.size).any fun i=>(bs[i]?).getD true)=bs.any id:=by
    rw [cO,bE];have:∀ (l:List Bool),((List.range l.length).any fun i=>(l[i]?).getD true)=l.any id:=by
     intro l
     induction l with
     | nil=>rfl
     | cons a l ih =>rw [eV,List.range_succ_eq_map,iQ,List.any_map,iQ,<- ih];rfl
    exact this bs
   rw [e];exact ⟨.bl _,H,I.kept fun b o eo=>hk b o (fun hm=>by rw [omg hm] at eo;exact gK _ (aX eo)) (aR _ eo),rfl,q _ F H (Step.refl fh) rfl⟩
 | _=>cases ht
theorem TF (hu:X.A.units+100<cLine) (hcalm:X.calm=true):BlS X (.builtin "sorted") (bO .sorted):=RS hu hcalm
theorem lF (ha:Oke X c a f) (hs:starEach [a] X.env=[(false,eval a X.env)]):PA X [a] (spL X c fun r=>(f r).bind fun x=>some [x]):=by refine wD (wE ha CJ hs) fun O H Q q=>?_;obtain ⟨r,F,ts,e,ht,q⟩:=q;exact ⟨r,F,ts,e,ht,q⟩
theorem wV (gd:Gd X c G k) {id:String} (hc:BlS X (.builtin id) g) (hb:x∈bnames) (hg:glB c.sc x=true) (hv:bootBuiltins x=some (.builtin id)) (hn:x≠"__name__") (hdb:(x==("__debug__":Str))=false)
  (ha:Oke X c a f) (hs:starEach [a] X.env=[(false,eval a X.env)]):Oke X c (.Call (.Name x p) [a] [] pos) (fun r=>(f r).bind fun x=>g x):=by
 refine fH (pA hc (gd.gl x hg) (gd.nob x hb) hv (lF ha hs) hn hdb hs rfl) fun O H Q q=>?_;obtain ⟨r,F,t,e,ht,q⟩:=q;obtain ⟨t1,e1,ht⟩:=obs ht;refine ⟨r,F,[t1],e,fZ.mpr ⟨t1,e1,rfl⟩,fun vs F' H' s1 r1=>?_⟩;obtain ⟨v,w,rfl,h1,h2⟩:=r1;cases h2;exact ⟨F',t1,t,v,rfl,s1.fh,h1,ht,fun v' F2 H2 s2 r2=>q v' F2 H2 (s1.trans s2) r2⟩
theorem wW (gd:Gd X c G k) {ty:String} (hc:BlS X (.type ty) g) (hb:x∈bnames) (hg:glB c.sc x=true) (hv:bootBuiltins x=some (.type ty)) (hn:x≠"__name__") (hdb:(x==("__debug__":Str))=false)
  (ha:Oke X c a f) (hs:starEach [a] X.env=[(false,eval a X.env)]):Oke X c (.Call (.Name x p) [a] [] pos) (fun r=>(f r).bind fun x=>g x):=by
 refine fH (LD hc (gd.gl x hg) (gd.nob x hb) hv (lF ha hs) hn hdb hs rfl) fun O H Q q=>?_;obtain ⟨r,F,t,e,ht,q⟩:=q;obtain ⟨t1,e1,ht⟩:=obs ht;refine ⟨r,F,[t1],e,fZ.mpr ⟨t1,e1,rfl⟩,fun vs F' H' s1 r1=>?_⟩;obtain ⟨v,w,rfl,h1,h2⟩:=r1;cases h2;exact ⟨F',t1,t,v,rfl,s1.fh,h1,ht,fun v' F2 H2 s2 r2=>q v' F2 H2 (s1.trans s2) r2⟩
theorem TH (hcalm:X.calm=true) (hu:X.A.units+100<cLine):BlS X (.type "dict") (bO .dict):=by
 intro pj s O H xs us Q I r h;obtain ⟨F,t1,t,x,rfl,fh,r1,ht,q⟩:=h;cases t1 with
 | lst ts =>
  obtain ⟨l,hl,ht⟩:=obs (show ((kW ts).bind fun l=>if l.length<=1000 then some (T.dt ((hG l).map (·.1)) ((hG l).map (·.2))) else none)=some t from ht);split at ht
  .rename_i hz;cases ht;exact SV hcalm hu pj s O H _ _ Q I r ⟨F,ts,l,x,rfl,fh,r1,hl,hz,q⟩
  .cases ht
 | _=>cases ht
theorem TJ (gd:Gd X c G k) {kb:Bn} (hk:vH x=some kb) (hg:glB c.sc x=true) (ha:Oke X c a f) (hs:starEach [a] X.env=[(false,eval a X.env)]) :
  Oke X c (.Call (.Name x p) [a] [] pos) (fun r=>(f r).bind fun x=>bO kb x):=by
 unfold vH at hk;split at hk
 .rename_i e;have e:=dO e;subst e;cases hk;exact wV gd SW (by decide +kernel) hg PySem.boot_len (by decide) (by decide) ha hs
 .split at hk
  .rename_i e;have e:=dO e;subst e;cases hk;exact wW gd SY (by decide +kernel) hg PyProof.Rows.boot_int (by decide) (by decide) ha hs
  .split at hk
   .rename_i e;have e:=dO e;subst e;cases hk;exact wW gd TC (by decide +kernel) hg PyProof.Rows.boot_tuple (by decide) (by decide) ha hs
   .split at hk
    .rename_i e;have e:=dO e;subst e;cases hk;exact wV gd (TD gd.calm) (by decide +kernel) hg PyProof.Rows.boot_any (by decide) (by decide) ha hs
    .split at hk
     .rename_i e;have e:=dO e;subst e;cases hk;exact wV gd (TF (by have:=gd.room.un;lia) gd.calm) (by decide +kernel) hg (show bootBuiltins "sorted"=some (.builtin "sorted") by decide +kernel) (by decide) (by decide) ha hs
     .cases hk
theorem TL (gd:Gd X c G k) {kb:Bn} (hk:qV x=some kb) (hg:glB c.sc x=true) (ha:Oke X c a f) (hs:starEach [a] X.env=[(false,eval a X.env)]) :
  Oke X c (.Call (.Name x p) [a] [] pos) (fun r=>(f r).bind fun x=>bO kb x):=by
 unfold qV at hk;split at hk
 .rename_i e;have e:=dO e;subst e;cases hk;exact wW gd (TH gd.calm (by have:=gd.room.un;lia)) (by decide +kernel) hg PyProof.Rows.boot_dict (by decide) (by decide) ha hs
 .exact TJ gd hk hg ha hs
def tyS:Ty->String
 | .tbool=>"bool"
theorem qQ:iT X (.builtin "isinstance") (fun xs H Q=>∃ F t1 x k,xs=[x,.ty (tyS k)]/\Same F H/\Rep X.K F t1 x/\Q (.bl (nF t1 k)) H):=by
 intro pj s O H xs us Q I r h;obtain ⟨F,t1,x,k,rfl,fh,r1,q⟩:=h;obtain ⟨u,w',rfl,rx,ry⟩:=uZ r;cases ry;have fT:∀ b,b=nF t1 k->EP X pj O Q (.bool b) s:=fun b e=>by subst e;exact ⟨.bl _,H,I,rfl,q⟩
 have fF:∀ b,b=nF t1 k->EP X pj O Q (.bool b) { s with toks:=s.toks+1 }:=fun b e=>by subst e;exact ⟨.bl _,H,I.tok _,rfl,q⟩
 cases t1 with
 | non =>cases r1;cases rx;cases k;exact IsiPair.NoneType_bool (fF _ rfl)
 | bl b =>cases r1;cases rx;cases k;exact IsiPair.bool_bool (fT _ rfl)
 | int b =>cases r1;obtain ⟨t,rfl⟩:=rx;cases k;exact IsiPair.int_bool (fF _ rfl)
 | str b =>cases r1;obtain ⟨t,rfl⟩:=rx;cases k;exact IsiPair.str_bool (fF _ rfl)
 | tup ts =>obtain ⟨l,vs,rfl,h1,h2⟩:=r1;cases rx;obtain ⟨qc,_,⟨o,ho,hc,_⟩,_⟩:=I.tuple (dC fh h1);cases k;exact IsiPair.tuple_bool ho hc (fF _ rfl)
 | lst ts =>obtain ⟨l,vs,rfl,h1,h2⟩:=r1;cases rx;obtain ⟨qc,_,⟨o,ho,hc,_⟩,_⟩:=wA I (Ls.same fh h1);cases k;exact IsiPair.list_bool ho hc (fF _ rfl)
 | dk ks ts =>obtain ⟨l,vs,rfl,h1,h2⟩:=r1;cases rx;obtain ⟨o,ho,hc⟩:=rF I (.inl ⟨_,fh _ _ h1⟩);cases k;exact IsiPair.dict_bool ho hc (fF _ rfl)
 | dt ks ts =>obtain ⟨l,vs,rfl,h1,h2⟩:=r1;cases rx;obtain ⟨o,ho,hc⟩:=rF I (.inr ⟨_,fh _ _ h1⟩);cases k;exact IsiPair.dict_bool ho hc (fF _ rfl)
theorem TM {k:Ty} (h:pE x=some k):bootBuiltins x=some (.type (tyS k))/\x∈bnames/\x≠"__name__"/\(x==("__debug__":Str))=false:=by
 unfold pE at h;split at h
 .rename_i e;have e:=dO e;subst e;cases h;exact ⟨PyProof.Rows.boot_bool,by decide +kernel,by decide,by decide⟩
 .cases h
theorem TN (gd:Gd X c G k) {ty:Str} {kt:Ty} {p2:Pos} (hk:pE ty=some kt) (hg:glB c.sc "isinstance"=true) (hgt:glB c.sc ty=true) (ha:Oke X c a f)
  (hs:starEach [a,.Name ty p2] X.env=(false,eval a X.env)::starEach [.Name ty p2] X.env):Oke X c (.Call (.Name "isinstance" p) [a,.Name ty p2] [] pos) (fun r=>(f r).bind fun x=>some (.bl (nF x kt))):=by
 obtain ⟨h1,h2,h3,h4⟩:=TM hk;have hb:PE X (.Name ty p2) (tC (.ty (tyS kt))):=uS (gd.gl ty hgt) (gd.nob ty h2) h1 rfl h3 h4;refine fH (pA qQ (gd.gl _ hg) (gd.nob _ (by decide +kernel)) boot_isinstance (bY ha (bY hb fV rfl) hs) (by decide) (by decide) hs rfl) fun O H Q q=>?_;obtain ⟨r,F,t,e,ht,q⟩:=q;obtain ⟨t1,e1,ht⟩:=obs ht;cases ht;refine ⟨r,F,t1,e,e1,fun v F' H' s1 r1=>?_⟩;exact ⟨F',t1,v,kt,rfl,s1.fh,r1,q _ F' H' s1 rfl⟩
theorem EA:∀ {ts:List T} {x:T} {i:Nat},jZ x ts=some i->∃ t,ts[i]?=some t/\eqT t x=true/\∀ (j:Nat) u,j<i->ts[j]?=some u->eqT u x=false
 | [],_,_,h=>by cases h
 | y::ts,x,i,h=>by
  simp only [jZ] at h;split at h
  .rename_i e;cases h;exact ⟨y,rfl,e,fun j u hj=>absurd hj (Nat.not_lt_zero _)⟩
  .rename_i e;obtain ⟨k,e1,rfl⟩:=oms h;obtain ⟨t,h1,h2,h3⟩:=EA e1;refine ⟨t,by simpa using h1,h2,fun j u hj hu=>?_⟩;cases j with
   | zero =>simp only [cU,Option.some.injEq] at hu;subst hu;simpa using e
   | succ j=>exact h3 j u (by lia) (by simpa using hu)
theorem EB:MtR X "list.index" (fun x xs H Q=>∃ F t1 t2 t y,xs=[y]/\Same F H/\Rep X.K F t1 x/\Rep X.K F t2 y/\iK .index t1 t2=some t/\∀ v F' H',Step F H F' H'->Rep X.K F' t v->Q v H'):=by
 intro pj s O H x xs v us Q I rx rs h;obtain ⟨F,t1,t2,t,y,rfl,fh,r1,r2,ht,q⟩:=h;obtain ⟨u,rfl,ru⟩:=jI rs;cases t1 with
 | lst ts =>
  simp only [iK] at ht;split at ht
  .rename_i hf;rw [bS] at hf;obtain ⟨f2,f1⟩:=hf;obtain ⟨i,hi,rfl⟩:=oms ht;obtain ⟨l,vs,rfl,h1,h2⟩:=r1;cases rx;have ey:=BY r2 f2;subst ey;have ev:=CA h2 f1;subst ev;obtain ⟨t0,a1,a2,a3⟩:=EA hi;obtain ⟨z,qc,n,r,ho⟩:=(Ls.same fh h1).ok I;have hlt:i<ts.length:=(ome a1).1;have hlen:qc.length=ts.length:=by rw [<- r.length,bE]
   have hz:ts.length<=sizeLine:=by have:=(wA I (Ls.same fh h1)).choose_spec.2.2;simpa using this
   have get:∀ (m:Nat) (hm:m<qc.toArray.size),∃ tm,ts[m]?=some tm/\eqU (vOf t2) qc.toArray[m]=eqT tm t2:=fun m hm=>by
    have hm':m<ts.length:=by rw [<- hlen];simpa using hm
    have hmv:m<(ts.map vOf).length:=by simpa using hm'
    obtain ⟨w,e3,w1⟩:=r.get (bV hmv);have e5:qc.toArray[m]=w:=by obtain ⟨_,z⟩:=ome e3;simpa using z
    refine ⟨ts[m],bV hm',?_⟩;have fm:flat ts[m]=true:=oml f1 _ (iD _);rw [e5,AI (y:=vOf ts[m]) (by simpa using w1) (wB fm),ON fm f2]
   have hj:i<qc.toArray.size:=by rw [cO,hlen];exact hlt
   refine call_meets PySem.F.slot_list_index ⟨_,ho,rfl⟩ PySem.F.entry_list_index (PySem.F.args_list_index_2 _ _) (PySem.SeqAt.list_indexAt l qc.toArray n _ _ u (eqU (vOf t2)) i hj (by unfold sizeLine at hz;lia) ?_ ?_) ⟨ho,?_,?_⟩
   .obtain ⟨tm,g1,g2⟩:=get i hj;rw [g2];rw [a1] at g1;cases g1;exact a2
   .intro m hm hmi;obtain ⟨tm,g1,g2⟩:=get m hm;rw [g2];exact a3 m tm hmi g1
   .intro y hy;exact AJ ru (wB f2) r (OS f1) y (by simpa using hy)
   .exact ⟨.int _,H,I.tok _,⟨_,rfl⟩,q _ F H (Step.refl fh) rfl⟩
  .cases ht
 | _=>cases t2<;>cases ht
theorem TQ {g:Env->Option T} {apos cpos:Pos} {o:Expr} (ho:Oke X c o f) (ha:Oke X c a g) (hbase:attributeBase o "index" X.env (eval o X.env)=eval o X.env) (hs:starEach [a] X.env=[(false,eval a X.env)]) (hl:(apos.endLine==cpos.line)=true) :
  Oke X c (.Call (.Attribute o "index" apos) [a] [] cpos) (fun r=>(f r).bind fun x=>(g r).bind fun y=>iK .index x y):=by
 refine fH (nA F.plainAttrs_list F.slot_list_index F.type_list_index EB ho (lF ha hs) hbase (by rw [hs];rfl) hl hs rfl) fun O H Q q=>?_;obtain ⟨r,F,t,e,ht,q⟩:=q;obtain ⟨t1,e1,ht⟩:=obs ht;obtain ⟨t2,e2,ht⟩:=obs ht;refine ⟨r,F,t1,e,e1,fun v F' H' s1 r1=>⟨?_,r,F',[t2],e.step s1,fZ.mpr ⟨t2,e2,rfl⟩,fun vs F2 H2 s2 r2=>?_⟩⟩
 .cases t1 with
  | lst z=>obtain ⟨l,vs,rfl,h1,h2⟩:=r1;exact .inl ⟨rfl,_,(Ls.same s1.fh h1).sq⟩
  | _=>cases t2<;>cases ht
 .obtain ⟨w,z,rfl,h1,h2⟩:=r2;cases h2;exact ⟨F2,t1,t2,t,w,rfl,s2.fh,r1.mono s2.ff,h1,ht,fun v' F3 H3 s3 r3=>q v' F3 H3 (s1.trans (s2.trans s3)) r3⟩
theorem TR {K:W.Frag} {F:Hp} {k:List Kt} {ws:Kq} {ts:List T} (r:aD K F ts (ws.map (·.2))):Rep K F ((gY (ws.map (·.1)) ts k).getD .non) ((fJ ws k).getD .non):=by
 induction ws generalizing ts with
 | nil=>cases ts<;>rfl
 | cons p ws ih =>
  cases ts with
  | nil=>cases r
  | cons u ts =>
   obtain ⟨v,vr,e,r1,r2⟩:=r;rw [aT] at e;injection e with e1 e2;rw [aT,gY];by_cases hk:p.1=k
   .rw [if_pos hk,nK hk,e1];exact r1
   .rw [if_neg hk,nL hk];exact ih (by rw [e2];exact r2)
theorem TU {g:Env->Option T} {apos cpos:Pos} {o:Expr} (hu:X.A.units+1<cLine) (ho:Oke X c o f) (ha:Oke X c a g) (m:M1 X o "get" apos a cpos) :
  Oke X c (.Call (.Attribute o "get" apos) [a] [] cpos) (fun r=>(f r).bind fun x=>(g r).bind fun y=>qU x y):=by
 refine fH (QN hu ho ha m) fun O H Q q=>?_;obtain ⟨r,F,t,e,ht,q⟩:=q;obtain ⟨t1,e1,ht⟩:=obs ht;obtain ⟨t2,e2,ht⟩:=obs ht;refine ⟨r,F,t1,e,e1,fun v1 F1 H1 s1 r1=>?_⟩;cases t1 with
 | dt ks ts =>
  obtain ⟨a,ws,rfl,g1,g2,g3⟩:=r1;subst g2;refine ⟨a,rfl,.inr ⟨ws,.inl (s1.fh _ _ g1)⟩,r,F1,t2,e.step s1,e2,fun v2 F2 H2 s2 r2=>?_⟩;have ga:H2 a=some (.dT ws):=s2.fh _ _ (s2.ff _ _ g1);cases t2 with
  | non =>cases ht;cases r2;exact ⟨none,.inr ⟨rfl,rfl,ws,.inl ga⟩,q _ F2 H2 (s1.trans s2) rfl⟩
  | tup xs =>obtain ⟨k,hk,rfl⟩:=oms (show ((gX xs).map fun q=>(gY (ws.map (·.1)) ts q).getD .non)=some t from ht);obtain ⟨b,vs,rfl,g4,g5⟩:=r2;have eb:=nP g5 hk;subst eb;exact ⟨fJ ws k,.inl (dF.t ga (s2.fh _ _ g4)),q _ F2 H2 (s1.trans s2) (TR (g3.mono s2.ff))⟩
  | _=>cases ht
 | _=>cases ht
end
end
end Ev
namespace L2
open PySem Spec PyProof.Rows
section
variable {Q:Vq} {xs ys:Array Value}
structure ZAp (z TI TO j1 j2:Addr) (f1 f2:List Addr):Prop where
 nz:TI≠z/\TO≠z/\j1≠z/\j2≠z
 nT:TI≠TO/\TI≠j1/\TI≠j2
 nO:TO≠j1/\TO≠j2
 nj:j1≠j2
 fz:z∉f1/\z∉f2
 fO:TO∉f1/\TO∉f2
 fj:j2∉f1/\j1∉f2
section
variable {prog:Program} {w:World} {A:Around} {E:Vq} {s:Shared}
variable {z TI TO j1 j2:Addr} {f1 f2:List Addr} {n1 n2 k:Nat} {P1 P2:Nat->Value->Prop} {S1 S2:Nat->Heap->Prop} {a b:Value}
theorem TV (D1:Draws prog w A j1 f1 n1 P1 S1) (D2:Draws prog w A j2 f2 n2 P2 S2) (ap:ZAp z TI TO j1 j2 f1 f2)
  (hz:IsZip s.heap z TI TO .none) (hI:IsPair s.heap TI (.ref j1) (.ref j2)) (hO:IsPair s.heap TO a b) (t1:S1 k s.heap) (t2:S2 k s.heap) (l1:k<n1) (l2:k<n2)
  (hQ:∀ x y g tk,P1 k x->P2 k y->IsZip g z TI TO (rawInt s.heap.objs.size)->IsPair g TO x y->S1 (k+1) g->S2 (k+1) g->IsPair g s.heap.objs.size x y->g.objs.size=s.heap.objs.size+1 ->
   (∀ c o,c≠z->c≠TO->c≠j1->c≠j2->s.heap.get? c=some o->g.get? c=some o)->Q (.ref s.heap.objs.size) { s with heap:=g,toks:=tk }) :
  wpAny (model prog w) A (Builtin.«zip.__next__» ⟨[.ref z],[]⟩) (fun e s'=>∃ v,e=.done (.ret v)/\Q v s') E s:=by
 show wpAny _ _ (field (.ref z) 2 >>= _) _ _ s;refine aA (eF (x:=.bool false) hz rfl rfl ?_);show wpAny _ _ (field (.ref z) 3 >>= _) _ _ s;refine aA (eF (x:=.ref TI) hz rfl rfl (aA (kO hI rfl ?_)));show wpAny _ _ (Builtin.SmallTypes.ownedTupleIsFree (.ref z) >>= _) _ _ s;refine aA (show wpAny _ _ (Builtin.SmallTypes.ownedTupleIsFree (.ref z)) _ _ s from ?_);unfold Builtin.SmallTypes.ownedTupleIsFree;refine aA (eF (x:=.none) hz rfl rfl (aL ?_));simp only [if_true];refine aA (wpAny_rule (aA (eF (x:=.ref TO) hz rfl rfl ?_)));refine wpAny_bind (mV hz (by simp) fun g1 hz1 e1=>?_);replace hz1:IsZip g1 z TI TO .ellipsis:=hz1;refine aA (show wpAny _ _ _ _ _ _ from ?_);simp only [List.zipIdx_nil,List.zipIdx_cons,List.forIn_nil,List.forIn_cons];refine aA (aA (wpAny_onRaise ?_));show wpAny _ _ (Builtin.SmallTypes.nextOf (.ref j1) >>= _) _ _ { s with heap:=g1 };have q1:S1 k g1:=D1.frame _ _ _ t1 fun c hc o e=>e1.extBut _ _ (fun y=>ap.fz.1 (y▸hc)) e;refine aA (D1.item k _ _ _ l1 q1 fun x g2 tk2 hx u1 e2=>aL ?_);have hO2:IsPair g2 TO a b:=e2.extBut _ _ ap.nO.1 (e1.extBut _ _ ap.nz.2.1 hO);refine aA (kO hO2 rfl (aA (wpAny_updateSeq_pair hO2 fun g3 hO3 e3=>?_)));replace hO3:IsPair g3 TO x b:=hO3;refine aA (wpAny_letGo (aL (aA (aA (wpAny_onRaise ?_)))));show wpAny _ _ (Builtin.SmallTypes.nextOf (.ref j2) >>= _) _ _ { s with heap:=g3,toks:=tk2 };have q2:S2 k g3:=D2.frame _ _ _ t2 fun c hc o e=>e3.extBut _ _ (fun y=>ap.fO.2 (y▸hc)) (e2.extBut _ _ (fun y=>ap.fj.2 (y▸hc)) (e1.extBut _ _ (fun y=>ap.fz.2 (y▸hc)) e));refine aA (D2.item k _ _ _ l2 q2 fun y g4 tk4 hy u2 e4=>aL ?_);have hO4:IsPair g4 TO x b:=e4.extBut _ _ ap.nO.2 hO3;refine aA (kO hO4 rfl (aA (wpAny_updateSeq_pair hO4 fun g5 hO5 e5=>?_)));replace hO5:IsPair g5 TO x y:=hO5;refine aA (wpAny_letGo (aL (aL (aA (kO hO5 rfl (aA (wpAny_newTuple ?_)))))));have sz:g5.objs.size=s.heap.objs.size:=by rw [e5.1,e4.1,e3.1,e2.1,e1.1]
 have hz5:IsZip g5 z TI TO .ellipsis:=e5.extBut _ _ (Ne.symm ap.nz.2.1) (e4.extBut _ _ (Ne.symm ap.nz.2.2.2) (e3.extBut _ _ (Ne.symm ap.nz.2.1) (e2.extBut _ _ (Ne.symm ap.nz.2.2.1) hz1)));have k5:∀ c o,c≠z->c≠TO->c≠j1->c≠j2->s.heap.get? c=some o->g5.get? c=some o:=fun c o c1 c2 c3 c4 e=>e5.extBut _ _ c2 (e4.extBut _ _ c4 (e3.extBut _ _ c2 (e2.extBut _ _ c3 (e1.extBut _ _ c1 e))));have v1:S1 (k+1) g5:=D1.frame _ _ _ u1 fun c hc o e=>e5.extBut _ _ (fun y=>ap.fO.1 (y▸hc)) (e4.extBut _ _ (fun y=>ap.fj.1 (y▸hc)) (e3.extBut _ _ (fun y=>ap.fO.1 (y▸hc)) e));have v2:S2 (k+1) g5:=D2.frame _ _ _ u2 fun c hc o e=>e5.extBut _ _ (fun y=>ap.fO.2 (y▸hc)) e;have ltz:z<g5.objs.size:=aX hz5;show wpAny _ _ (Builtin.SmallTypes.ownedTupleHandOut (.ref z) (.ref g5.objs.size) >>= _) _ _ _;refine aA (show wpAny _ _ (Builtin.SmallTypes.ownedTupleHandOut (.ref z) (.ref g5.objs.size)) _ _ _ from ?_);unfold Builtin.SmallTypes.ownedTupleHandOut;have hz6:IsZip (g5.push { cls:=.type "tuple",data:=.seq #[x,y] }) z TI TO .ellipsis:=aR _ hz5;refine wpAny_bind (mV hz6 (by simp) fun g7 hz7 e7=>?_);replace hz7:IsZip g7 z TI TO (rawInt g5.objs.size):=hz7;refine mV hz7 (by simp) fun g8 hz8 e8=>?_;replace hz8:IsZip g8 z TI TO (rawInt g5.objs.size):=hz8;have up:∀ c o,c≠z->g5.get? c=some o->g8.get? c=some o:=fun c o c1 e=>e8.extBut _ _ c1 (e7.extBut _ _ c1 (aR _ e));have hT8:IsPair g8 g5.objs.size x y:=e8.extBut _ _ (Nat.ne_of_gt ltz) (e7.extBut _ _ (Nat.ne_of_gt ltz) (bW _ rfl));have sz8:g8.objs.size=g5.objs.size+1:=by rw [e8.1,e7.1,eL]
 rw [sz] at hz8 hT8 sz8;refine aL ⟨_,rfl,?_⟩;show Q (.ref g5.objs.size) { s with heap:=g8,toks:=tk4 };rw [sz];exact hQ x y g8 tk4 hx hy hz8 (up _ _ ap.nz.2.1 hO5) (D1.frame _ _ _ v1 fun c hc o e=>up c o (fun y=>ap.fz.1 (y▸hc)) e) (D2.frame _ _ _ v2 fun c hc o e=>up c o (fun y=>ap.fz.2 (y▸hc)) e) hT8 sz8
  fun c o c1 c2 c3 c4 e=>up c o c1 (k5 c o c1 c2 c3 c4 e)
theorem TW {Q:Fin->Shared->Prop} (D1:Draws prog w A j1 f1 n1 P1 S1) (D2:Draws prog w A j2 f2 n2 P2 S2) (ap:ZAp z TI TO j1 j2 f1 f2)
  (hz:IsZip s.heap z TI TO .none) (hI:IsPair s.heap TI (.ref j1) (.ref j2)) (hO:IsPair s.heap TO a b) (t1:S1 k s.heap) (t2:S2 k s.heap) (hk:k=n1\/k<n1/\k=n2)
  (hE:∀ g e tk,(∀ c o,c≠z->c≠TO->c≠j1->c≠j2->s.heap.get? c=some o->g.get? c=some o)->(∃ o,g.get? e=some o/\o.cls=.type "StopIteration")->E (.ref e) { s with heap:=g,toks:=tk }) :
  wpAny (model prog w) A (Builtin.«zip.__next__» ⟨[.ref z],[]⟩) Q E s:=by
 show wpAny _ _ (field (.ref z) 2 >>= _) _ _ s;refine aA (eF (x:=.bool false) hz rfl rfl ?_);show wpAny _ _ (field (.ref z) 3 >>= _) _ _ s;refine aA (eF (x:=.ref TI) hz rfl rfl (aA (kO hI rfl ?_)));show wpAny _ _ (Builtin.SmallTypes.ownedTupleIsFree (.ref z) >>= _) _ _ s;refine aA (show wpAny _ _ (Builtin.SmallTypes.ownedTupleIsFree (.ref z)) _ _ s from ?_);unfold Builtin.SmallTypes.ownedTupleIsFree;refine aA (eF (x:=.none) hz rfl rfl (aL ?_));simp only [if_true];refine aA (wpAny_rule (aA (eF (x:=.ref TO) hz rfl rfl ?_)));refine wpAny_bind (mV hz (by simp) fun g1 hz1 e1=>?_);replace hz1:IsZip g1 z TI TO .ellipsis:=hz1;refine aA (show wpAny _ _ _ _ _ _ from ?_);simp only [List.zipIdx_nil,List.zipIdx_cons,List.forIn_nil,List.forIn_cons];refine aA (aA (wpAny_onRaise ?_));show wpAny _ _ (Builtin.SmallTypes.nextOf (.ref j1) >>= _) _ _ { s with heap:=g1 };have q1:S1 k g1:=D1.frame _ _ _ t1 fun c hc o e=>e1.extBut _ _ (fun y=>ap.fz.1 (y▸hc)) e;rcases hk with rfl | ⟨hlt,rfl⟩
 .refine aA (D1.done _ _ _ q1 fun g2 e e2 he=>?_);obtain ⟨oe,hoe,hce⟩:=he;have hz2:IsZip g2 z TI TO .ellipsis:=e2 _ _ (Ne.symm ap.nz.2.2.1) hz1;have ez:e≠z:=fun y=>by subst y;rw [hz2] at hoe;cases hoe;simp at hce
  exact mV hz2 (by simp) fun g3 _ e3=>hE g3 e s.toks (fun c o c1 _ c3 _ y=>e3.extBut _ _ c1 (e2 _ _ c3 (e1.extBut _ _ c1 y))) ⟨oe,e3.extBut _ _ ez hoe,hce⟩
 .refine aA (D1.item _ _ _ _ hlt q1 fun x g2 tk2 hx u1 e2=>aL ?_);have hO2:IsPair g2 TO a b:=e2.extBut _ _ ap.nO.1 (e1.extBut _ _ ap.nz.2.1 hO);refine aA (kO hO2 rfl (aA (wpAny_updateSeq_pair hO2 fun g3 hO3 e3=>?_)));refine aA (wpAny_letGo (aL (aA (aA (wpAny_onRaise ?_)))));show wpAny _ _ (Builtin.SmallTypes.nextOf (.ref j2) >>= _) _ _ { s with heap:=g3,toks:=tk2 };have q2:S2 k g3:=D2.frame _ _ _ t2 fun c hc o e=>e3.extBut _ _ (fun y=>ap.fO.2 (y▸hc)) (e2.extBut _ _ (fun y=>ap.fj.2 (y▸hc)) (e1.extBut _ _ (fun y=>ap.fz.2 (y▸hc)) e));refine aA (D2.done _ _ _ q2 fun g4 e e4 he=>?_);obtain ⟨oe,hoe,hce⟩:=he;have hz4:IsZip g4 z TI TO .ellipsis:=e4 _ _ (Ne.symm ap.nz.2.2.2) (e3.extBut _ _ (Ne.symm ap.nz.2.1) (e2.extBut _ _ (Ne.symm ap.nz.2.2.1) hz1));have ez:e≠z:=fun y=>by subst y;rw [hz4] at hoe;cases hoe;simp at hce
  exact mV hz4 (by simp) fun g5 _ e5=>hE g5 e tk2 (fun c o c1 c2 c3 c4 y=>e5.extBut _ _ c1 (e4 _ _ c4 (e3.extBut _ _ c2 (e2.extBut _ _ c3 (e1.extBut _ _ c1 y))))) ⟨oe,e5.extBut _ _ ez hoe,hce⟩
theorem TX {Q:Option Value->Shared->Prop} (D1:Draws prog w A.in1 j1 f1 n1 P1 S1) (D2:Draws prog w A.in1 j2 f2 n2 P2 S2) (ap:ZAp z TI TO j1 j2 f1 f2)
  (hz:IsZip s.heap z TI TO .none) (hI:IsPair s.heap TI (.ref j1) (.ref j2)) (hO:IsPair s.heap TO a b) (t1:S1 k s.heap) (t2:S2 k s.heap) (l1:k<n1) (l2:k<n2)
  (hQ:∀ x y g tk,P1 k x->P2 k y->IsZip g z TI TO (rawInt s.heap.objs.size)->IsPair g TO x y->S1 (k+1) g->S2 (k+1) g->IsPair g s.heap.objs.size x y->g.objs.size=s.heap.objs.size+1 ->
   (∀ c o,c≠z->c≠TO->c≠j1->c≠j2->s.heap.get? c=some o->g.get? c=some o)->Q (some (.ref s.heap.objs.size)) { s with heap:=g,toks:=tk }):wpAny (model prog w) A (pyNext (.ref z)) Q E s:=by
 have ty:s.TypeIs (.ref z) "zip":=⟨_,hz,rfl⟩;unfold pyNext;exact aA (wpAny_attempt (kP (name:=Str.ofString "__next__") ty F.slot_zip_next (iS F.slot_zip_next ty F.entry_zip_next
  (TV D1 D2 ap hz hI hO t1 t2 l1 l2 fun x y g tk b1 b2 b3 b4 b5 b6 b7 b8 b9=>aL (hQ x y g tk b1 b2 b3 b4 b5 b6 b7 b8 b9)) (F.args_zip_next_1 _))))
theorem TY {Q:Option Value->Shared->Prop} (D1:Draws prog w A.in1 j1 f1 n1 P1 S1) (D2:Draws prog w A.in1 j2 f2 n2 P2 S2) (ap:ZAp z TI TO j1 j2 f1 f2)
  (hz:IsZip s.heap z TI TO .none) (hI:IsPair s.heap TI (.ref j1) (.ref j2)) (hO:IsPair s.heap TO a b) (t1:S1 k s.heap) (t2:S2 k s.heap) (hk:k=n1\/k<n1/\k=n2)
  (hQ:∀ g tk,(∀ c o,c≠z->c≠TO->c≠j1->c≠j2->s.heap.get? c=some o->g.get? c=some o)->Q none { s with heap:=g,toks:=tk }):wpAny (model prog w) A (pyNext (.ref z)) Q E s:=by
 have ty:s.TypeIs (.ref z) "zip":=⟨_,hz,rfl⟩;unfold pyNext;refine aA (wpAny_attempt (kP (name:=Str.ofString "__next__") ty F.slot_zip_next (iS F.slot_zip_next ty F.entry_zip_next
  (TW D1 D2 ap hz hI hO t1 t2 hk fun g e tk hc he=>?_) (F.args_zip_next_1 _))))
 obtain ⟨o,ho,hc2⟩:=he;exact aA (wpAny_isInstance (b:=true) (T:="StopIteration") ⟨o,ho,hc2⟩ isSubtype_stop (aL (hQ _ _ hc)))
end
abbrev rS (h:Heap) (l1:Addr):Heap:=h.push { cls:=.type "tuple_iterator",data:=.fields #[.ref l1,.int 0 0] }
abbrev rT (h:Heap) (l1 l2:Addr):Heap:=(rS h l1).push { cls:=.type "list_iterator",data:=.fields #[.ref l2,.int 0 0] }
abbrev rV (h:Heap) (l1 l2:Addr):Heap:=(rT h l1 l2).push { cls:=.type "tuple",data:=.seq #[.ref h.objs.size,.ref (rS h l1).objs.size] }
abbrev rW (h:Heap) (l1 l2:Addr):Heap:=(rV h l1 l2).push { cls:=.type "tuple",data:=.seq #[.none,.none] }
abbrev mG (h:Heap) (l1 l2:Addr):Heap:=(rW h l1 l2).push { cls:=.type "zip",data:=.fields #[.none,.bool false,.bool false,.ref (rT h l1 l2).objs.size,.ref (rV h l1 l2).objs.size] }
theorem TZ (l1 l2:Addr) (xs ys:Array Value):Meets (Builtin.«zip.__new__» ⟨[.type "zip",.ref l1,.ref l2],[]⟩) (fun _ R s=>s.heap.IsTuple l1 xs/\s.heap.IsList l2 ys /\
   R (.ok (.ret (.ref (rW s.heap l1 l2).objs.size))) { s with heap:=mG s.heap l1 l2 }) :=
 .of_wp fun prog w A R s q=>by
  obtain ⟨hp,gs,dr,tk,os⟩:=s;obtain ⟨q1,q2,q⟩:=q;have hsub:=sub_zip;have y1:Heap.IsTuple (Shared.heap ⟨hp,gs,dr,tk,os⟩) l1 xs:=q1;have y2:Heap.IsList (Shared.heap ⟨hp.push { cls:=.type "tuple_iterator",data:=.fields #[.ref l1,.int 0 0] },gs,dr,tk,os⟩) l2 ys:=Heap.IsList.push q2 _
  wp_walk using lP y1,wpAny_pyIter_list y2
  exact ⟨_,rfl,q⟩
theorem UA {prog:Program} {w:World} {A:Around} {E:Vq} {s:Shared} {l1 l2:Addr} (q1:s.heap.IsTuple l1 xs) (q2:s.heap.IsList l2 ys)
  (q:∀ g,IsZip g (s.heap.objs.size+4) (s.heap.objs.size+2) (s.heap.objs.size+3) .none->IsPair g (s.heap.objs.size+2) (.ref s.heap.objs.size) (.ref (s.heap.objs.size+1))->IsPair g (s.heap.objs.size+3) .none .none ->
   g.IsTupleIter s.heap.objs.size l1 0->g.IsListIter (s.heap.objs.size+1) l2 0->g.objs.size=s.heap.objs.size+5->(∀ c o,s.heap.get? c=some o->g.get? c=some o)->Q (.ref (s.heap.objs.size+4)) { s with heap:=g }) :
  wpAny (model prog w) A (call (.type "zip") [.ref l1,.ref l2]) Q E s:=by
 refine callType_new F.called_zip (by decide) (F.typeCall_zip_2 _ _) (F.newCall_zip_2 _ _) (fun ob=>F.args_object_init_3 ob _ _) F.entry_zip_new (TZ l1 l2 xs ys) ⟨q1,q2,?_⟩;have a1:(rS s.heap l1).objs.size=s.heap.objs.size+1:=eL ..;have a2:(rT s.heap l1 l2).objs.size=s.heap.objs.size+2:=by rw [eL,a1]
 have a3:(rV s.heap l1 l2).objs.size=s.heap.objs.size+3:=by rw [eL,a2]
 have a4:(rW s.heap l1 l2).objs.size=s.heap.objs.size+4:=by rw [eL,a3]
 have a5:(mG s.heap l1 l2).objs.size=s.heap.objs.size+5:=by rw [eL,a4]
 have b5:(mG s.heap l1 l2).get? (rW s.heap l1 l2).objs.size=some _:=bW _ rfl;have b4:(mG s.heap l1 l2).get? (rV s.heap l1 l2).objs.size=some _:=aR _ (bW _ rfl);have b3:(mG s.heap l1 l2).get? (rT s.heap l1 l2).objs.size=some _:=aR _ (aR _ (bW _ rfl));have b2:(mG s.heap l1 l2).get? (rS s.heap l1).objs.size=some _:=aR _ (aR _ (aR _ (bW _ rfl)));have b1:(mG s.heap l1 l2).get? s.heap.objs.size=some _:=aR _ (aR _ (aR _ (aR _ (bW _ rfl))));show _/\_;rw [a2,a3,a4] at b5;rw [a1,a2] at b3;rw [a3] at b4;rw [a1] at b2;rw [a4];exact ⟨⟨_,b5,rfl⟩,q _ b5 b3 b4 ⟨_,b1,rfl,rfl⟩ ⟨_,b2,rfl,rfl⟩ a5 fun c o y=>aR _ (aR _ (aR _ (aR _ (aR _ y))))⟩
abbrev rX (h:Heap) (l1:Addr):Heap:=h.push { cls:=.type "tuple_iterator",data:=.fields #[.ref l1,.int 0 0] }
abbrev rY (h:Heap) (l1 l2:Addr):Heap:=(rX h l1).push { cls:=.type "tuple_iterator",data:=.fields #[.ref l2,.int 0 0] }
abbrev rZ (h:Heap) (l1 l2:Addr):Heap:=(rY h l1 l2).push { cls:=.type "tuple",data:=.seq #[.ref h.objs.size,.ref (rX h l1).objs.size] }
abbrev sA (h:Heap) (l1 l2:Addr):Heap:=(rZ h l1 l2).push { cls:=.type "tuple",data:=.seq #[.none,.none] }
abbrev mH (h:Heap) (l1 l2:Addr):Heap:=(sA h l1 l2).push { cls:=.type "zip",data:=.fields #[.none,.bool false,.bool false,.ref (rY h l1 l2).objs.size,.ref (rZ h l1 l2).objs.size] }
theorem UB (l1 l2:Addr) (xs ys:Array Value):Meets (Builtin.«zip.__new__» ⟨[.type "zip",.ref l1,.ref l2],[]⟩) (fun _ R s=>s.heap.IsTuple l1 xs/\s.heap.IsTuple l2 ys /\
   R (.ok (.ret (.ref (sA s.heap l1 l2).objs.size))) { s with heap:=mH s.heap l1 l2 }) :=
 .of_wp fun prog w A R s q=>by
  obtain ⟨hp,gs,dr,tk,os⟩:=s;obtain ⟨q1,q2,q⟩:=q;have hsub:=sub_zip;have y1:Heap.IsTuple (Shared.heap ⟨hp,gs,dr,tk,os⟩) l1 xs:=q1;have y2:Heap.IsTuple (Shared.heap ⟨hp.push { cls:=.type "tuple_iterator",data:=.fields #[.ref l1,.int 0 0] },gs,dr,tk,os⟩) l2 ys:=let ⟨o,ho,r⟩:=q2;⟨o,aR _ ho,r⟩
  wp_walk using lP y1,lP y2
  exact ⟨_,rfl,q⟩
theorem UC {prog:Program} {w:World} {A:Around} {E:Vq} {s:Shared} {l1 l2:Addr} (q1:s.heap.IsTuple l1 xs) (q2:s.heap.IsTuple l2 ys)
  (q:∀ g,IsZip g (s.heap.objs.size+4) (s.heap.objs.size+2) (s.heap.objs.size+3) .none->IsPair g (s.heap.objs.size+2) (.ref s.heap.objs.size) (.ref (s.heap.objs.size+1))->IsPair g (s.heap.objs.size+3) .none .none ->
   g.IsTupleIter s.heap.objs.size l1 0->g.IsTupleIter (s.heap.objs.size+1) l2 0->g.objs.size=s.heap.objs.size+5->(∀ c o,s.heap.get? c=some o->g.get? c=some o)->Q (.ref (s.heap.objs.size+4)) { s with heap:=g }) :
  wpAny (model prog w) A (call (.type "zip") [.ref l1,.ref l2]) Q E s:=by
 refine callType_new F.called_zip (by decide) (F.typeCall_zip_2 _ _) (F.newCall_zip_2 _ _) (fun ob=>F.args_object_init_3 ob _ _) F.entry_zip_new (UB l1 l2 xs ys) ⟨q1,q2,?_⟩;have a1:(rX s.heap l1).objs.size=s.heap.objs.size+1:=eL ..;have a2:(rY s.heap l1 l2).objs.size=s.heap.objs.size+2:=by rw [eL,a1]
 have a3:(rZ s.heap l1 l2).objs.size=s.heap.objs.size+3:=by rw [eL,a2]
 have a4:(sA s.heap l1 l2).objs.size=s.heap.objs.size+4:=by rw [eL,a3]
 have a5:(mH s.heap l1 l2).objs.size=s.heap.objs.size+5:=by rw [eL,a4]
 have b5:(mH s.heap l1 l2).get? (sA s.heap l1 l2).objs.size=some _:=bW _ rfl;have b4:(mH s.heap l1 l2).get? (rZ s.heap l1 l2).objs.size=some _:=aR _ (bW _ rfl);have b3:(mH s.heap l1 l2).get? (rY s.heap l1 l2).objs.size=some _:=aR _ (aR _ (bW _ rfl));have b2:(mH s.heap l1 l2).get? (rX s.heap l1).objs.size=some _:=aR _ (aR _ (aR _ (bW _ rfl)));have b1:(mH s.heap l1 l2).get? s.heap.objs.size=some _:=aR _ (aR _ (aR _ (aR _ (bW _ rfl))));show _/\_;rw [a2,a3,a4] at b5;rw [a1,a2] at b3;rw [a3] at b4;rw [a1] at b2;rw [a4];exact ⟨⟨_,b5,rfl⟩,q _ b5 b3 b4 ⟨_,b1,rfl,rfl⟩ ⟨_,b2,rfl,rfl⟩ a5 fun c o y=>aR _ (aR _ (aR _ (aR _ (aR _ y))))⟩
end
section
variable {ch:List Addr} {xs:List V} {t:Bool} {elts:List Expr}
section
variable {X:Cx} {pj:Pq} {O:St} {H:Hp} {s:Shared} {h':Heap}
theorem Inv.turnedC {t':Nat} (I:Inv X pj O H s) (k:∀ b o,b∉ch->s.heap.get? b=some o->h'.get? b=some o) (f:∀ b∈ch,eQ X pj H b):Inv X pj O H { s with heap:=h',toks:=t' }:=by
 have nfp:∀ {b:Addr} {u:HO},H b=some u->b∉ch:=fun {b u} q z=>by rw [(f b z).1] at q;cases q
 refine I.step (g':=s.gens) (d':=s.drawn) (ch:=ch) (fun b hb=>⟨(f b hb).2.2.2.1,(f b hb).2.1,(f b hb).2.2.2.2.1,(f b hb).2.2.2.2.2⟩) (fun b o _ _ hc q _=>k b o hc q) (fun b o _ _ hc q _=>⟨o.slots,k b o hc q⟩)
  (fun b o hc q z=>z) (fun b o hc q=>⟨o,k b o hc q⟩) (fun b ys q=>q) (fun b o u q=>q) (fun b ps q=>⟨#[],by rw [q];simp⟩) (fun m hm=>?_) (fun b u q=>?_) I.bare
 .obtain ⟨o,es,ep,ho,r⟩:=hm;exact ⟨o,es,ep,k _ o (fun z=>(f _ z).2.1 rfl) ho,r⟩
 .refine (I.hok b u q).stay (fun c v hc z=>?_) (fun c z=>z) fun c ys z=>z;rcases hc with rfl | hc
  .exact k c v (nfp q) z
  .exact k c v (nfp hc) z
theorem Inv.turnedN {T:Addr} {t':Nat} (I:Inv X pj O H s) (k:∀ b o,b∉ch->s.heap.get? b=some o->h'.get? b=some o) (f:∀ b∈ch,eQ X pj H b)
  (hT:s.heap.objs.size<=T) (new:aS X.prog X.w (aJ H T (.tup xs)) h' T (.tup xs)):Inv X pj O (aJ H T (.tup xs)) { s with heap:=h',toks:=t' }:=by
 have hn:H T=none:=I.hok.fresh hT;have nT:∀ {b:Addr} {o:Obj},s.heap.get? b=some o->b≠T:=fun {b o} q=>bP (dI (aX q) hT);have nfp:∀ {b:Addr} {u:HO},H b=some u->b∉ch:=fun {b u} q z=>by rw [(f b z).1] at q;cases q
 refine I.step (g':=s.gens) (d':=s.drawn) (ch:=ch) (fun b hb=>⟨(f b hb).2.2.2.1,(f b hb).2.1,(f b hb).2.2.2.2.1,(f b hb).2.2.2.2.2⟩) (fun b o _ _ hc q _=>k b o hc q) (fun b o _ _ hc q _=>⟨o.slots,k b o hc q⟩)
  (fun b o hc q z=>by rw [aN (nT q)];exact z) (fun b o hc q=>⟨o,k b o hc q⟩)
  (fun b ys q=>by rw [aN (bQ q hn)];exact q) (fun b o u q=>by rw [aN (bQ q hn)];exact q) (fun b ps q=>⟨#[],by rw [aN (bQ q hn),q];simp⟩) (fun m hm=>?_) (fun b u q=>?_) I.bare
 .obtain ⟨o,es,ep,ho,r⟩:=hm;exact ⟨o,es,ep,k _ o (fun z=>(f _ z).2.1 rfl) ho,r⟩
 .by_cases hb:b=T
  .subst hb;rw [aY] at q;cases q;exact new
  .rw [aN hb] at q;refine (I.hok b u q).stay (fun c v hc z=>?_) (fun c z=>by rw [aN (bQ z hn)];exact z) fun c ys z=>by rw [aN (bQ z hn)];exact z
   rcases hc with rfl | hc
   .exact k c v (nfp q) z
   .exact k c v (nfp hc) z
end
def SqB (t:Bool) (K:W.Frag) (H:Hp) (a:Addr) (xs:List V):Prop:=if t then SqT K H a xs else SqL K H a xs
def ItB (t:Bool) (h:Heap) (j l:Addr) (i:Nat):Prop:=if t then h.IsTupleIter j l i else h.IsListIter j l i
def IsB (t:Bool) (h:Heap) (l:Addr) (qc:Array Value):Prop:=if t then h.IsTuple l qc else h.IsList l qc
theorem ItB.at {h h':Heap} {j l:Addr} {i:Nat} (x:ItB t h j l i) (k:∀ o,h.get? j=some o->h'.get? j=some o):ItB t h' j l i:=by
 cases t with
 | true=>obtain ⟨o,e,r⟩:=(show h.IsTupleIter j l i from x);exact (show h'.IsTupleIter j l i from ⟨o,k o e,r⟩)
 | false=>obtain ⟨o,e,r⟩:=(show h.IsListIter j l i from x);exact (show h'.IsListIter j l i from ⟨o,k o e,r⟩)
theorem ItB.obj {h:Heap} {j l:Addr} {i:Nat} (x:ItB t h j l i):∃ o,h.get? j=some o/\∀ v,o.data≠.cell v:=by
 cases t with
 | true=>obtain ⟨o,e,_,d⟩:=(show h.IsTupleIter j l i from x);exact ⟨o,e,fun v q=>by rw [d] at q;cases q⟩
 | false=>obtain ⟨o,e,_,d⟩:=(show h.IsListIter j l i from x);exact ⟨o,e,fun v q=>by rw [d] at q;cases q⟩
theorem Inv.sqB {X:Cx} {pj:Pq} {O:St} {H:Hp} {s:Shared} {a:Addr} (I:Inv X pj O H s) (q:SqB t X.K H a xs):∃ qc:List Value,aH xs qc/\IsB t s.heap a qc.toArray/\a<s.heap.objs.size:=by
 cases t with
 | true =>obtain ⟨qc,rv,p,_⟩:=I.tuple (show SqT X.K H a xs from q);obtain ⟨o,e,_⟩:=id p;exact ⟨qc,rv,p,aX e⟩
 | false =>obtain ⟨qc,rv,p,_⟩:=I.list (show SqL X.K H a xs from q);obtain ⟨o,e,_⟩:=id p.isList;exact ⟨qc,rv,p.isList,aX e⟩
theorem Inv.sqB_inj {X:Cx} {pj:Pq} {O:St} {H:Hp} {s:Shared} {a:Addr} {ys:List V} (I:Inv X pj O H s) (q:SqB t X.K H a xs) (q':SqB t X.K H a ys):xs=ys:=by
 cases t with
 | true=>exact I.tuple_inj (show SqT X.K H a xs from q) q'
 | false=>exact I.list_inj (show SqL X.K H a xs from q) q'
theorem sB {prog:Program} {w:World} {A:Around} (t:Bool) (hh:A.handled=none) (j l:Addr) (hne:l≠j) (qc:Array Value):Draws prog w A j [j,l] qc.size (fun i v=>qc[i]?=some v) (fun i h=>ItB t h j l i/\IsB t h l qc):=by
 cases t with
 | true=>exact wF hh j l hne qc
 | false=>exact Draws.list hh j l hne qc
def Itz (K:W.Frag) (t1 t2:Bool) (l1 l2:Addr):It :=
 ⟨fun i H=>∃ xs ys x y,SqB t1 K H l1 xs/\SqB t2 K H l2 ys/\xs[i]?=some x/\ys[i]?=some y,
  fun i H v H'=>∃ p x y,H p=none/\v=.ref p/\H'=aJ H p (.tup [x,y])/\(∀ xs,SqB t1 K H l1 xs->xs[i]?=some x)/\∀ ys,SqB t2 K H l2 ys->ys[i]?=some y,
  fun i H=>∃ xs ys,SqB t1 K H l1 xs/\SqB t2 K H l2 ys/\(i=xs.length\/i<xs.length/\i=ys.length)⟩
theorem ane {a b:Nat} (h:a<b\/b<a):(show Addr from a)≠(show Addr from b):=fun e=>by have e:a=b:=e;lia
theorem anm {z a b:Nat} (h1:z<a\/a<z) (h2:z<b\/b<z):(show Addr from z)∉[(show Addr from a),(show Addr from b)]:=fun e=>by
 rcases omc e with e | e
 .exact ane h1 e
 .exact ane h2 (omg e)
theorem EC {N l1 l2:Nat} (h1:l1<N) (h2:l2<N):ZAp (N+4) (N+2) (N+3) N (N+1) [N,l1] [N+1,l2] :=
 ⟨⟨ane (by lia),ane (by lia),ane (by lia),ane (by lia)⟩,⟨ane (by lia),ane (by lia),ane (by lia)⟩,⟨ane (by lia),ane (by lia)⟩,ane (by lia),⟨anm (by lia) (by lia),anm (by lia) (by lia)⟩,⟨anm (by lia) (by lia),anm (by lia) (by lia)⟩,⟨anm (by lia) (by lia),anm (by lia) (by lia)⟩⟩
theorem UD {P:Program} {w:World} {K:W.Frag} {kx:Nat} {pos:Pos} (t1 t2:Bool) (l1 l2 N:Nat) (h1:l1<N) (h2:l2<N) :
  Turn P w K (.Tuple elts kx pos) (Itz K t1 t2 l1 l2) [N+4,N+2,N+3,N,N+1] (N+4)
   (fun i h=>IsZip h (N+4) (N+2) (N+3) .none/\IsPair h (N+2) (.ref N) (.ref (N+1))/\(∃ a b,IsPair h (N+3) a b)/\ItB t1 h N l1 i/\ItB t2 h (N+1) l2 i) where
 mem:=by simp
 obj:=fun i h st b hb=>by
  obtain ⟨s1,s2,⟨a,c,s3⟩,s4,s5⟩:=st;simp only [List.mem_cons,List.not_mem_nil,or_false] at hb;rcases hb with rfl | rfl | rfl | rfl | rfl
  .exact ⟨_,s1,fun v q=>by cases q⟩
  .exact ⟨_,s2,fun v q=>by cases q⟩
  .exact ⟨_,s3,fun v q=>by cases q⟩
  .exact s4.obj
  .exact s5.obj
 keep:=fun i h h' st k=>by obtain ⟨s1,s2,⟨a,c,s3⟩,s4,s5⟩:=st;exact ⟨k _ (by simp) _ s1,k _ (by simp) _ s2,⟨a,c,k _ (by simp) _ s3⟩,s4.at fun o e=>k _ (by simp) o e,s5.at fun o e=>k _ (by simp) o e⟩
 item:=by
  intro X hP hw hK hc i pj s O H E I hf st hg;subst hP hw hK;obtain ⟨xs,ys,x,y,q1,q2,hx,hy⟩:=hg;obtain ⟨s1,s2,⟨a,c,s3⟩,s4,s5⟩:=st;obtain ⟨qc,rv,p,_⟩:=I.sqB q1;obtain ⟨jts,rw',p',_⟩:=I.sqB q2;obtain ⟨u,hu,ru⟩:=rv.get hx;obtain ⟨u',hu',ru'⟩:=rw'.get hy;have hd:X.A.in1.handled=none:=I.ok.hd hc;have D1:=sB (prog:=X.prog) (w:=X.w) (A:=X.A.in1) t1 hd N l1 (ane (.inl h1)) qc.toArray;have D2:=sB (prog:=X.prog) (w:=X.w) (A:=X.A.in1) t2 hd (N+1) l2 (ane (by lia)) jts.toArray;have lt1:i<qc.toArray.size:=by have:=(ome hu).1;rw [cO];exact this
  have lt2:i<jts.toArray.size:=by have:=(ome hu').1;rw [cO];exact this
  have zlt:N+4<s.heap.objs.size:=aX s1;refine TX D1 D2 (EC h1 h2) s1 s2 s3 ⟨s4,p⟩ ⟨s5,p'⟩ lt1 lt2 fun v v' g tk hv hv' b3 b4 b5 b6 b7 b8 b9=>⟨_,rfl,wpAny_letOwnedTupleGo_zip b3 fun g2 z2 e2=>?_⟩;have ev:v=u:=by
   have z:qc[i]?=some v:=by simpa using hv
   rw [hu] at z;exact (cP z).symm
  have ev':v'=u':=by
   have z:jts[i]?=some v':=by simpa using hv'
   rw [hu'] at z;exact (cP z).symm
  subst ev ev';have up:∀ b o,b≠N+4->g.get? b=some o->g2.get? b=some o:=fun b o hb e=>(e2.2 b hb).trans e;have hk2:∀ b o,b∉[N+4,N+2,N+3,N,N+1]->s.heap.get? b=some o->g2.get? b=some o:=fun b o hb e=>by simp only [List.mem_cons,List.not_mem_nil,or_false,not_or] at hb;exact up b o hb.1 (b9 b o hb.1 hb.2.2.1 hb.2.2.2.1 hb.2.2.2.2 e)
  have nT:s.heap.objs.size≠N+4:=Nat.ne_of_gt zlt;have I1:Inv X pj O (aJ H s.heap.objs.size (.tup [x,y])) { s with heap:=g2,toks:=tk }:=I.turnedN hk2 hf (aW _)
   ⟨by show 2<=sizeLine;decide,[v,v'],.cons ru (.cons ru' .nil),⟨_,up _ _ nT b7,rfl,_,rfl⟩⟩
  refine ⟨.ref s.heap.objs.size,_,I1,rfl,⟨_,x,y,I.fresh,rfl,rfl,fun zs hz=>by rw [I.sqB_inj hz q1];exact hx,fun zs hz=>by rw [I.sqB_inj hz q2];exact hy⟩,⟨z2,?_,⟨_,_,up _ _ (ane (a:=N+3) (b:=N+4) (by lia)) b4⟩,?_,?_⟩,fun b hb=>?_⟩
  .exact up _ _ (ane (a:=N+2) (b:=N+4) (by lia)) (b9 _ _ (ane (a:=N+2) (b:=N+4) (by lia)) (ane (a:=N+2) (b:=N+3) (by lia)) (ane (a:=N+2) (b:=N) (by lia)) (ane (a:=N+2) (b:=N+1) (by lia)) s2)
  .exact b5.1.at fun o e=>up _ o (ane (a:=N) (b:=N+4) (by lia)) e
  .exact b6.1.at fun o e=>up _ o (ane (a:=N+1) (b:=N+4) (by lia)) e
  .have hbl:b<s.heap.objs.size:=by have zl:N+4<s.heap.objs.size:=zlt;simp only [List.mem_cons,List.not_mem_nil,or_false] at hb;rcases hb with e | e | e | e | e<;>(rw [e];show (_:Nat)<_;lia)
   rw [aN (bP hbl)];exact (hf b hb).1
 done:=by intro X hP hw hK hc i pj s O H E I hf st hg;subst hP hw hK;obtain ⟨xs,ys,q1,q2,hx⟩:=hg;obtain ⟨s1,s2,⟨a,c,s3⟩,s4,s5⟩:=st;obtain ⟨qc,rv,p,_⟩:=I.sqB q1;obtain ⟨jts,rw',p',_⟩:=I.sqB q2;have hd:X.A.in1.handled=none:=I.ok.hd hc;have D1:=sB (prog:=X.prog) (w:=X.w) (A:=X.A.in1) t1 hd N l1 (ane (.inl h1)) qc.toArray;have D2:=sB (prog:=X.prog) (w:=X.w) (A:=X.A.in1) t2 hd (N+1) l2 (ane (by lia)) jts.toArray;refine TY D1 D2 (EC h1 h2) s1 s2 s3 ⟨s4,p⟩ ⟨s5,p'⟩ (k:=i) (by rw [cO,cO,<- rv.length,<- rw'.length];exact hx) fun g tk hk=>⟨rfl,I.turnedC (fun b o hb e=>?_) hf⟩;simp only [List.mem_cons,List.not_mem_nil,or_false,not_or] at hb;exact hk b o hb.1 hb.2.2.1 hb.2.2.2.1 hb.2.2.2.2 e
 self:=fun _ _ _ _ _ st q=>wpAny_pyIter_zip st.1 q
section
variable {X:Cx}
theorem UE {a b:Expr} {ta:TA} {p pos p2:Pos} {kx:Nat} (hg:Gl X "zip") (hm:X.mg "zip"=none) (ha:PA X [a,b] ta) (hs:starEach [a,b] X.env=[(false,eval a X.env),(false,eval b X.env)]) (hs2:starEach [b] X.env=[(false,eval b X.env)]) :
  PI X (.Tuple elts kx p2) (.Call (.Name "zip" p) [a,b] [] pos) (fun O H R=>ta O H fun vs H1=>∃ l1 l2 t2 xs ys,vs=[.ref l1,.ref l2]/\SqB true X.K H1 l1 xs/\SqB t2 X.K H1 l2 ys/\R (Itz X.K true t2 l1 l2) H1):=by
 intro pj s O H R I h;refine Call_ (lS I hg hm (show bootBuiltins "zip"=some (.type "zip") by decide +kernel) (PyProof.Rows.callWith_type1 (thn (ha pos pj s O H _ I h) fun us s1 ⟨vs,H1,I1,r1,q1⟩=>?_) (by rw [hs,hs2]) (by rw [hs2];rfl)));obtain ⟨l1,l2,t2,xs,ys,e,q1,q2,q⟩:=q1;subst e;obtain ⟨u,u',rfl,rx,ry⟩:=uZ r1;cases rx;cases ry;obtain ⟨qc,rv,b1,lt1⟩:=I1.sqB q1;obtain ⟨jts,rw',b2,lt2⟩:=I1.sqB q2;have fin:∀ {g:Heap},IsZip g (s1.heap.objs.size+4) (s1.heap.objs.size+2) (s1.heap.objs.size+3) .none->IsPair g (s1.heap.objs.size+2) (.ref s1.heap.objs.size) (.ref (s1.heap.objs.size+1))->IsPair g (s1.heap.objs.size+3) .none .none ->
   ItB true g s1.heap.objs.size l1 0->ItB t2 g (s1.heap.objs.size+1) l2 0->(∀ c o,s1.heap.get? c=some o->g.get? c=some o)->wpAny (model X.prog X.w) X.A (pyIter (.ref (s1.heap.objs.size+4))) (PIE X pj O (.Tuple elts kx p2) R) X.xe { s1 with heap:=g }:=fun {g} y1 y2 y3 y4 y5 k=>by
  refine wpAny_pyIter_zip (s:={ s1 with heap:=g }) y1 ⟨_,_,_,_,H1,rfl,I1.kept (t':=s1.toks) k,UD true t2 l1 l2 s1.heap.objs.size lt1 lt2,⟨y1,y2,⟨_,_,y3⟩,y4,y5⟩,fun b hb=>?_,q⟩;have le:s1.heap.objs.size<=b:=by simp only [List.mem_cons,List.not_mem_nil,or_false] at hb;rcases hb with e | e | e | e | e<;>(rw [e];show (_:Nat)<=_;lia)
  exact I1.fpOk le (I1.hok.fresh le)
 cases t2
 .exact UA b1 b2 fun g y1 y2 y3 y4 y5 _ k=>fin y1 y2 y3 y4 y5 k
 .exact UC b1 b2 fun g y1 y2 y3 y4 y5 _ k=>fin y1 y2 y3 y4 y5 k
end
end
end L2
namespace Ev
open PySem Spec PyProof.Rows L2
section
variable {tg:Expr} {K:W.Frag} {F':Hp} {l:Addr} {vs:List V} {ts:List T} {f:Env->Option T} {G:Glo} {k:Nat} {elts:List Expr}
section
variable {X:Cx} {c:Tc} {a b:Expr} {pos p:Pos}
structure Walk (K:W.Frag) (J:It) (ts:List T) (F':Hp):Prop where
 go:∀ (i:Nat) (H:Hp),i<ts.length->Same F' H->J.go i H
 yld:∀ (i:Nat) (H:Hp) (x:V) (H5 F:Hp) (t:T),ts[i]?=some t->Same F' F->Same F H->J.yld i H x H5->∃ F5,Step F H F5 H5/\Rep K F5 t x
 stop:∀ (H:Hp),Same F' H->J.stop ts.length H
def spI (X:Cx) (c:Tc) (f:Env->Option (List T)):TI:=fun O H R=>∃ r F ts,EnvE X c r F O H/\f r=some ts/\∀ J F' H',Step F H F' H'->Walk X.K J ts F'->R J H'
theorem sC {it:Expr} {t t':TI} (h:PI X tg it t) (m:∀ O H R,t' O H R->t O H R):PI X tg it t':=fun pj s O H R I q=>h pj s O H R I (m O H R q)
theorem UF (h1:Ls K F' l vs) (h2:aD K F' ts vs):Walk K (Itl K l) ts F' where
 go:=fun i H hi sm=>by obtain ⟨v,hv,_⟩:=h2.get (bV hi);exact ⟨vs,v,(Ls.same sm h1).sq,hv⟩
 yld:=fun i H x H5 F t ht sF fh y=>by obtain ⟨rfl,y⟩:=y;obtain ⟨v,hv,hr⟩:=h2.get ht;have e:=y vs ((Ls.same fh (Ls.same sF h1)).sq);rw [hv] at e;cases e;exact ⟨F,Step.refl fh,hr.mono sF⟩
 stop:=fun H sm=>⟨vs,(Ls.same sm h1).sq,by rw [h2.length];exact aW _⟩
theorem UG {F:Hp} {a:Addr} {xs:List V} (e:Same F F') (h:SqT K F a xs):SqT K F' a xs:=by
 rcases h with h | h
 .exact .inl (BJ e h)
 .exact .inr h
theorem UH (h1:Tq K F' l vs) (h2:aD K F' ts vs):Walk K (Itt K l) ts F' where
 go:=fun i H hi sm=>by obtain ⟨v,hv,_⟩:=h2.get (bV hi);exact ⟨vs,v,dC sm h1,hv⟩
 yld:=fun i H x H5 F t ht sF fh y=>by obtain ⟨rfl,y⟩:=y;obtain ⟨v,hv,hr⟩:=h2.get ht;have e:=y vs (dC (sF.trans fh) h1);rw [hv] at e;cases e;exact ⟨F,Step.refl fh,hr.mono sF⟩
 stop:=fun H sm=>⟨vs,dC sm h1,by rw [h2.length];exact aW _⟩
theorem UI {n i:Nat} {t:T} (h:(kA n)[i]?=some t):i<n/\t=.int (i:Int):=by unfold kA at h;rw [iE] at h;obtain ⟨j,hj,e⟩:=oms h;have:=ome hj;obtain ⟨h1,h2⟩:=this;rw [List.getElem_range] at h2;subst h2;exact ⟨by simpa using h1,e.symm⟩
theorem UJ (n:Nat):Walk K (Itr 0 n) (kA n) F' where
 go:=fun i H hi _=>by
  have:i<n:=by simpa [kA] using hi
  exact this
 yld:=fun i H x H5 F t ht _ fh y=>by obtain ⟨rfl,rfl⟩:=y;obtain ⟨_,rfl⟩:=UI ht;exact ⟨F,Step.refl fh,by show V.int (0+(i:Int))=V.int (i:Int);rw [Int.zero_add]⟩
 stop:=fun H _=>by show n<=(kA n).length;simp [kA]
theorem ED:∀ {ts:List T} {i j:Nat} {t:T},(eX ts j)[i]?=some t->∃ u,ts[i]?=some u/\t=.tup [.int ((j+i:Nat):Int),u]
 | [],_,_,_,h=>by simp [eX] at h
 | u::ts,0,j,t,h=>by simp [eX] at h;exact ⟨u,rfl,by rw [<- h];simp⟩
 | u::ts,i+1,j,t,h=>by simp only [eX,dA] at h;obtain ⟨w,h1,h2⟩:=ED (ts:=ts) (i:=i) (j:=j+1) h;exact ⟨w,by simpa using h1,by rw [h2,show j+1+i=j+(i+1) by lia]⟩
theorem wX:∀ (ts:List T) (j:Nat),(eX ts j).length=ts.length
 | [],_=>rfl
 | _::ts,j=>by simp [eX,wX ts (j+1)]
theorem EE {sq:Hp->Addr->List V->Prop} (mono:∀ {F G:Hp} {xs:List V},Same F G->sq F l xs->sq G l xs) (h1:sq F' l vs) (h2:aD K F' ts vs):Walk K (Ite sq l) (eX ts 0) F' where
 go:=fun i H hi sm=>by rw [wX] at hi;obtain ⟨v,hv,_⟩:=h2.get (bV hi);exact ⟨vs,v,mono sm h1,hv⟩
 yld:=fun i H x H5 F t ht sF fh y=>by obtain ⟨p,v,hp,rfl,rfl,y⟩:=y;obtain ⟨u,hu,rfl⟩:=ED ht;obtain ⟨w,hw,hr⟩:=h2.get hu;have e:=y vs (mono fh (mono sF h1));rw [hw] at e;cases e;have st:=(Step.refl fh).new (o:=.tup [.int (i:Int),v]) hp;refine ⟨_,st,p,_,rfl,aY,.int (i:Int),[v],rfl,?_,v,[],rfl,(hr.mono sF).mono st.ff,rfl⟩;show V.int (i:Int)=V.int ((0+i:Nat):Int);rw [Nat.zero_add]
 stop:=fun H sm=>⟨vs,mono sm h1,by rw [wX,h2.length]⟩
theorem UK (ha:Oke X c a f):PI X tg a (spI X c fun r=>(f r).bind fun x=>items .plain [x]):=by
 refine sC (QG ha) fun O H R q=>?_;obtain ⟨r,F,ts,e,ht,q⟩:=q;obtain ⟨t,e1,ht⟩:=obs ht;refine ⟨r,F,t,e,e1,fun v F' H' s1 r1=>?_⟩;cases t with
 | tup us =>cases ht;obtain ⟨l,vs,rfl,h1,h2⟩:=r1;exact ⟨l,rfl,.inr ⟨vs,dC s1.fh h1,q _ F' H' s1 (UH h1 h2)⟩⟩
 | lst us =>cases ht;obtain ⟨l,vs,rfl,h1,h2⟩:=r1;exact ⟨l,rfl,.inl ⟨vs,(Ls.same s1.fh h1).sq,q _ F' H' s1 (UF h1 h2)⟩⟩
 | _=>cases ht
theorem UL (gd:Gd X c G k) (hg:glB c.sc "range"=true) (ha:Oke X c a f) (hs:starEach [a] X.env=[(false,eval a X.env)]) :
  PI X tg (.Call (.Name "range" p) [a] [] pos) (spI X c fun r=>(f r).bind fun x=>items .range [x]):=by
 refine sC (JT (gd.gl _ hg) (gd.nob _ (by decide +kernel)) (lF ha hs) hs) fun O H R q=>?_;obtain ⟨r,F,ts,e,ht,q⟩:=q;obtain ⟨t,e1,ht⟩:=obs ht;refine ⟨r,F,[t],e,fZ.mpr ⟨t,e1,rfl⟩,fun vs F' H' s1 r1=>?_⟩;obtain ⟨v,w,rfl,h1,h2⟩:=r1;cases h2;cases t with
 | int n =>
  cases h1;simp only [items] at ht;split at ht
  .rename_i hz;cases ht;have e62:(2:Int) ^ 62=4611686018427387904:=by decide
   exact ⟨n,rfl,by rw [e62];exact hz.1,by rw [e62];exact hz.2,q _ F' H' s1 (UJ _)⟩
  .cases ht
 | _=>cases ht
theorem UM (gd:Gd X c G k) {kx:Nat} {p2:Pos} (hg:glB c.sc "enumerate"=true) (ha:Oke X c a f) (hs:starEach [a] X.env=[(false,eval a X.env)]) :
  PI X (.Tuple elts kx p2) (.Call (.Name "enumerate" p) [a] [] pos) (spI X c fun r=>(f r).bind fun x=>items .enum [x]):=by
 refine sC (QH (gd.gl _ hg) (gd.nob _ (by decide +kernel)) (lF ha hs) hs) fun O H R q=>?_;obtain ⟨r,F,ts,e,ht,q⟩:=q;obtain ⟨t,e1,ht⟩:=obs ht;refine ⟨r,F,[t],e,fZ.mpr ⟨t,e1,rfl⟩,fun vs F' H' s1 r1=>?_⟩;obtain ⟨v,w,rfl,h1,h2⟩:=r1;cases h2;cases t with
 | tup us =>cases ht;obtain ⟨l,vs,rfl,h1,h2⟩:=h1;exact ⟨l,rfl,.inr ⟨vs,dC s1.fh h1,q _ F' H' s1 (EE (sq:=SqT X.K) (fun e h=>UG e h) (SqT.of h1) h2)⟩⟩
 | lst us =>cases ht;obtain ⟨l,vs,rfl,h1,h2⟩:=h1;exact ⟨l,rfl,.inl ⟨vs,(Ls.same s1.fh h1).sq,q _ F' H' s1 (EE (sq:=SqL X.K) (fun e h=>e.seq h) h1.sq h2)⟩⟩
 | _=>cases ht
theorem wY:∀ (xs ys:List T),(eY xs ys).length=min xs.length ys.length
 | [],_=>by simp [eY]
 | _::_,[]=>by simp [eY]
 | x::xs,y::ys=>by simp only [eY,List.length_cons,wY xs ys];lia
theorem EF:∀ {xs ys:List T} {i:Nat} {t:T},(eY xs ys)[i]?=some t->∃ x y,xs[i]?=some x/\ys[i]?=some y/\t=.tup [x,y]
 | [],_,_,_,h=>by simp [eY] at h
 | _::_,[],_,_,h=>by simp [eY] at h
 | x::xs,y::ys,0,t,h=>by simp [eY] at h;exact ⟨x,y,rfl,rfl,h.symm⟩
 | x::xs,y::ys,i+1,t,h=>by simp only [eY,dA] at h;obtain ⟨u,v,h1,h2,h3⟩:=EF h;exact ⟨u,v,by simpa using h1,by simpa using h2,h3⟩
theorem UN {F:Hp} {t:T} {v:V} (h:BH t=some ts) (r:Rep K F t v):∃ b l vs,v=.ref l/\aD K F ts vs/\∀ H,Same F H->SqB b K H l vs:=by
 cases t with
 | tup us=>cases h;obtain ⟨l,vs,rfl,h1,h2⟩:=r;exact ⟨true,l,vs,rfl,h2,fun H sm=>dC sm h1⟩
 | lst us=>cases h;obtain ⟨l,vs,rfl,h1,h2⟩:=r;exact ⟨false,l,vs,rfl,h2,fun H sm=>(Ls.same sm h1).sq⟩
 | _=>cases h
theorem UO {b1 b2:Bool} {l1 l2:Addr} {ws:List V} {xs ys:List T} (q1:∀ H,Same F' H->SqB b1 K H l1 vs) (q2:∀ H,Same F' H->SqB b2 K H l2 ws) (h1:aD K F' xs vs) (h2:aD K F' ys ws):Walk K (Itz K b1 b2 l1 l2) (eY xs ys) F' where
 go:=fun i H hi sm=>by rw [wY] at hi;obtain ⟨v,hv,_⟩:=h1.get (bV (show i<xs.length by lia));obtain ⟨u,hu,_⟩:=h2.get (bV (show i<ys.length by lia));exact ⟨vs,ws,v,u,q1 H sm,q2 H sm,hv,hu⟩
 yld:=fun i H x H5 F t ht sF fh y=>by obtain ⟨p,v,u,hp,rfl,rfl,y1,y2⟩:=y;obtain ⟨a,b,ha,hb,rfl⟩:=EF ht;obtain ⟨va,hva,ra⟩:=h1.get ha;obtain ⟨vb,hvb,rb⟩:=h2.get hb;have e1:=y1 vs (q1 H (sF.trans fh));have e2:=y2 ws (q2 H (sF.trans fh));rw [hva] at e1;rw [hvb] at e2;cases e1;cases e2;have st:=(Step.refl fh).new (o:=.tup [v,u]) hp;exact ⟨_,st,p,_,rfl,aY,v,[u],rfl,(ra.mono sF).mono st.ff,u,[],rfl,(rb.mono sF).mono st.ff,rfl⟩
 stop:=fun H sm=>⟨vs,ws,q1 H sm,q2 H sm,by rw [wY,h1.length,h2.length];lia⟩
theorem UP (gd:Gd X c G k) {b:Expr} {kx:Nat} {p2:Pos} {g:Env->Option T} (hg:glB c.sc "zip"=true) (ha:Oke X c a f) (hb:Oke X c b g) (hs:starEach [a,b] X.env=[(false,eval a X.env),(false,eval b X.env)]) (hs2:starEach [b] X.env=[(false,eval b X.env)]) :
  PI X (.Tuple elts kx p2) (.Call (.Name "zip" p) [a,b] [] pos) (spI X c fun r=>(f r).bind fun x=>(g r).bind fun y=>items .zip [x,y]):=by
 refine sC (UE (gd.gl _ hg) (gd.nob _ (by decide +kernel)) (wE ha (lF hb hs2) (by rw [hs,hs2])) hs hs2) fun O H R q=>?_;obtain ⟨r,F,ts,e,ht,q⟩:=q;obtain ⟨t1,e1,ht⟩:=obs ht;obtain ⟨t2,e2,ht⟩:=obs ht;refine ⟨r,F,[t1,t2],e,fZ.mpr ⟨t1,e1,fZ.mpr ⟨[t2],fZ.mpr ⟨t2,e2,rfl⟩,rfl⟩⟩,fun vs F' H' s1 r1=>?_⟩;obtain ⟨v,w1,rfl,r1,w,w2,rfl,r2,r3⟩:=r1;cases r3;cases t1 with
 | tup xs =>obtain ⟨ys,y1,ht⟩:=obs ht;cases ht;obtain ⟨l1,vs1,rfl,a2,a1⟩:=r1;have a2:∀ H,Same F' H->SqB true X.K H l1 vs1:=fun H sm=>dC sm a2;obtain ⟨b2,l2,vs2,rfl,a3,a4⟩:=UN y1 r2;exact ⟨l1,l2,b2,vs1,vs2,rfl,a2 H' s1.fh,a4 H' s1.fh,q _ F' H' s1 (UO a2 a4 a1 a3)⟩
 | _=>cases ht
def mI:List Nat->List V->L2.St->L2.St
 | i::is,v::vs,O=>mI is vs (O.set i (some v))
 | _,_,O=>O
def gL:List Nat->TGs
 | []=>gNil
 | i::is=>zR (qI i) (gL is)
theorem EG:∀ {is:List Nat} {vs:List V} {O:L2.St} {H:Hp} {Q:L2.St->Hp->Prop},vs.length=is.length->Q (mI is vs O) H->gL is vs O H Q
 | [],[],_,_,_,_,q=>⟨rfl,q⟩
 | [],_::_,_,_,_,h,_=>by simp at h
 | _::_,[],_,_,_,h,_=>by simp at h
 | i::is,v::vs,O,H,Q,h,q=>⟨v,vs,rfl,EG (is:=is) (by simpa using h) q⟩
structure At (X:Cx) (x:Str) (i:Nat):Prop where
 ix:X.N[i]?=some x
 loc:Loc X.env.scope x
 fn:X.fn x=true\/X.env.scope.names.lookup x=some .local
inductive Ats (X:Cx):List Str->List Nat->Prop
 | nil:Ats X [] []
 | cons {x:Str} {i:Nat} {xs:List Str} {is:List Nat}:At X x i->Ats X xs is->Ats X (x::xs) (i::is)
theorem EH (hN:X.N.Nodup):∀ {es:List Expr} {xs:List Str} {is:List Nat},(es.mapM fun e=>match e with | .Name x _=>some x | _=>none)=some xs->Ats X xs is ->
  PGs X es (gL is)/\(assignEach es X.env).length=xs.length/\(assignEach es X.env).findIdx? (·.1)=none
 | [],xs,is,h,ha=>by
  have e:xs=[]:=by simpa using h.symm
  subst e;cases ha;exact ⟨JL,rfl,rfl⟩
 | e::es,xs,is,h,ha=>by
  rw [List.mapM_cons] at h;obtain ⟨x,h1,h⟩:=obs h;obtain ⟨xs',h2,h⟩:=obs h;cases h;cases ha with
  | cons a1 a2 =>
   obtain ⟨q1,q2,q3⟩:=EH hN (es:=es) h2 a2;cases e with
   | Name y pos =>
    cases h1;refine ⟨JM (zQ hN a1.ix a1.loc a1.fn) q1 rfl,?_,?_⟩
    .show (assignEach es X.env).length+1=xs'.length+1;rw [q2]
    .show List.findIdx? (·.1) ((false,_)::assignEach es X.env)=none;rw [List.findIdx?_cons];simp [q3]
   | _=>cases h1
def gT (K:W.Frag) (one:Bool) (is:List Nat):TG:=fun v O H Q =>
 match one,is with
 | true,[i]=>Q (O.set i (some v)) H
 | true,_=>False
 | false,is=>∃ a vs,v=.ref a/\SqT K H a vs/\vs.length=is.length/\Q (mI is vs O) H
theorem wZ:∀ {xs:List Str} {is:List Nat},Ats X xs is->xs.length=is.length
 | _,_,.nil=>rfl
 | _,_,.cons _ h=>by simp [wZ h]
theorem EI (hN:X.N.Nodup) (hc:X.calm=true) {xs:List Str} {is:List Nat} (h:iU tg=some xs) (ha:Ats X xs is):PG X tg (gT X.K (!dU tg) is):=by
 cases tg with
 | Name x pos =>
  cases h;cases ha with
  | cons a1 a2 =>cases a2;exact zQ hN a1.ix a1.loc a1.fn
 | Tuple es k pos =>obtain ⟨q1,q2,q3⟩:=EH hN h ha;intro pj s O H v u Q I r hw;obtain ⟨a,vs,rfl,h1,h2,q⟩:=hw;exact JN hc q1 (q2.trans (wZ ha)) q3 pj s O H _ u Q I r ⟨a,vs,rfl,h1,h2,EG h2 q⟩
 | _=>cases h
end
section
variable {M:Program} {W:World} {A:Around} {E:Vq}
end
section
variable {X:Cx}
end
end
section
theorem mJ:∀ {l:List Str} {x:Str} {i:Nat},cC l x=some i->l[i]?=some x
 | [],_,_,h=>by cases h
 | y::r,x,i,h=>by
  unfold cC at h;split at h
  .rename_i e;cases h;rw [dO e];rfl
  .obtain ⟨j,hj,rfl⟩:=oms h;simpa using mJ hj
theorem EJ:∀ {l r:List Str} {x:Str} {i:Nat},cC (l++r) x=some i->(cC l x=some i/\i<l.length)\/(x∉l/\l.length<=i/\cC r x=some (i-l.length))
 | [],r,x,i,h=>.inr ⟨by simp,Nat.zero_le _,by simpa using h⟩
 | y::l,r,x,i,h=>by
  rw [List.cons_append,cC] at h;split at h
  .rename_i e;cases h;left;rw [cC,if_pos e];exact ⟨rfl,by simp⟩
  .rename_i e;obtain ⟨j,hj,rfl⟩:=oms h;rcases EJ hj with ⟨h1,h2⟩ | ⟨h1,h2,h3⟩
   .left;rw [cC,if_neg e,h1];exact ⟨rfl,by simpa using h2⟩
   .right;refine ⟨fun z=>?_,by simpa using h2,?_⟩
    .rcases omc z with q | q
     .exact e (by rw [q];exact lO _)
     .exact h1 q
    .rw [h3,eV,show j+1-(l.length+1)=j-l.length by lia]
theorem EL:∀ {xs:List Str},nH xs=true->xs.Nodup
 | [],_=>qF
 | x::r,h=>by simp only [nH,Bool.and_eq_true,Bool.not_eq_true'] at h;refine gI.mpr ⟨fun z=>?_,EL h.2⟩;have:=h.1;rw [List.contains_iff_mem.mpr z] at this;cases this
structure CsB (out sc:Scope) (xs:List Str):Prop where
 kind:sc.kind=.function
 nd:xs.Nodup
 own:∀ x∈xs,bF x=true/\(sc.names.lookup x=some .local\/sc.names.lookup x=some .cell)
 free:∀ y∈sc.names,y.2=.free->sc.names.lookup y.1=some .free/\(out.names.lookup y.1=some .cell\/out.names.lookup y.1=some .free)
 loc:∀ y∈sc.names,y.2=.local->sc.names.lookup y.1=some .local/\(y.1∈xs\/y.1=".0")
 cel:∀ y∈sc.names,y.2=.cell->sc.names.lookup y.1=some .cell/\y.1∈xs
theorem UQ {out sc:Scope} {xs:List Str} (h:pG out sc xs=true):CsB out sc xs:=by
 simp only [pG,Bool.and_eq_true] at h;obtain ⟨⟨⟨h1,h2⟩,h3⟩,h4⟩:=h;have all:=oml h4;refine ⟨by simpa using h1,EL h2,fun x hx=>?_,fun y hy e=>?_,fun y hy e=>?_,fun y hy e=>?_⟩
 .have:=oml h3 x hx;simp only [Bool.and_eq_true,Bool.or_eq_true,beq_iff_eq] at this;exact this
 .have:=all y hy;rw [e] at this;simp only [Bool.and_eq_true,Bool.or_eq_true,beq_iff_eq] at this;exact this
 .have:=all y hy;rw [e] at this;simp only [Bool.and_eq_true,Bool.or_eq_true,beq_iff_eq] at this;exact ⟨this.1,this.2.imp (fun z=>List.contains_iff_mem.mp z) id⟩
 .have:=all y hy;rw [e] at this;simp only [Bool.and_eq_true,beq_iff_eq] at this;exact ⟨this.1,List.contains_iff_mem.mp this.2⟩
section
variable {X:Cx} {c:Tc} {G:Glo} {k:Nat} {scope:Scope} {xs:List Str} {pj:Pq} {fp:List Addr} {qz:Shared} {qy:Hp}
theorem CsB.sc (S:CsB c.sc scope xs) (gd:Gd X c G k):CompSc X scope xs :=
 ⟨S.kind,S.nd,fun x hx=>(S.own x hx).2,fun y hy e=>⟨(S.free y hy e).1,gd.cap y.1 (S.free y hy e).2⟩,fun y hy e=>(S.loc y hy e).1,fun y hy e=>(S.cel y hy e).1⟩
theorem UR {N:List Str} (h:N.Nodup):(eN scope N).Nodup:=h.sublist List.filter_sublist
theorem US (S:CsB c.sc scope xs) (gd:Gd X c G k):(xs++eN scope X.N).Nodup:=by
 refine List.nodup_append.mpr ⟨S.nd,UR gd.nd,fun x hx y hy e=>?_⟩;subst e;have h1:=(S.own x hx).2;have h2:scope.names.lookup x=some .free:=by have:=(oN.mp hy).2;simpa using this
 rw [h2] at h1;rcases h1 with z | z<;>cases z
theorem UT (S:CsB c.sc scope xs) (gd:Gd X c G k):Gd (blk X pj scope xs fp qz qy) ⟨scope,xs++c.nm⟩ G k where
 room:=gd.room
 calm:=gd.calm
 nob:=gd.nob
 call:=gd.call
 vis:=fun x h=>by
  show (blk X pj scope xs fp qz qy).env.scope.names.lookup x=_\/(blk X pj scope xs fp qz qy).env.scope.names.lookup x=_\/(blk X pj scope xs fp qz qy).env.scope.names.lookup x=_;rw [mC];have h:cY scope x=true:=h;unfold cY at h;cases e:scope.names.lookup x with
  | none=>rw [e] at h;cases h
  | some q =>
   rw [e] at h;cases q with
   | «local»=>exact .inl rfl
   | cell=>exact .inr (.inl rfl)
   | free =>
    dsimp only;split
    .exact .inr (.inl rfl)
    .exact .inr (.inr rfl)
   | _=>cases h
 gl:=fun x h=>by
  show (blk X pj scope xs fp qz qy).env.scope.names.lookup x=_;rw [mC];have h:scope.names.lookup x=some .globalImplicit:=by simpa [glB] using h
  rw [h]
 cap:=fun x h=>by
  show (blk X pj scope xs fp qz qy).env.scope.names.lookup x=_\/(blk X pj scope xs fp qz qy).env.scope.names.lookup x=_;rw [mC];have h:scope.names.lookup x=some .cell\/scope.names.lookup x=some .free:=h;rcases h with h | h<;>rw [h]
  .exact .inl rfl
  .dsimp only;split
   .exact .inl rfl
   .exact .inr rfl
 nd:=US S gd
theorem EM (S:CsB c.sc scope xs):∀ (l:List Str) (n:Nat),(∀ (j:Nat) (x:Str),l[j]?=some x->xs[n+j]?=some x)->Ats (blk X pj scope xs fp qz qy) l (List.range' n l.length)
 | [],_,_=>.nil
 | x::l,n,h=>by
  have h0:xs[n]?=some x:=by simpa using h 0 x rfl
  have hx:x∈xs:=iR h0;have own:=(S.own x hx).2;have hn:n<xs.length:=(ome h0).1;rw [eV,List.range'_succ];refine .cons ⟨?_,?_,?_⟩ (EM S l (n+1) fun j y e=>by have:=h (j+1) y (by simpa using e);rwa [show n+(j+1)=n+1+j by lia] at this)
  .show (xs++eN scope X.N)[n]?=some x;rw [uM hn];exact h0
  .show (blk X pj scope xs fp qz qy).env.scope.names.lookup x=_\/(blk X pj scope xs fp qz qy).env.scope.names.lookup x=_;rw [mC];rcases own with e | e<;>rw [e]
   .exact .inl rfl
   .exact .inr rfl
  .rcases own with e | e
   .right;rw [mC,e]
   .left;show (scope.names.lookup x==some .cell)=true;rw [e];rfl
theorem UU (S:CsB c.sc scope xs) {r:Env} {F:Hp} {O:L2.St} {H Hc:Hp} (e:EnvE X c r F O H) (hl:O.length=X.N.length) {ts:List T} {vs:List V} (ht:ts.length=xs.length) (rv:aD X.K F ts vs) (fh:Same F Hc) (tb:Tbk X.K F Hc) :
  EnvE (blk X pj scope xs fp qz qy) ⟨scope,xs++c.nm⟩ (ts.map some++r) F (vs.map some++eI scope X.N O) Hc where
 fh:=fh
 tb:=tb
 get:=fun x i t hpn hi hv hr=>by
  have hvl:vs.length=xs.length:=by rw [rv.length,ht]
  have hv:cY scope x=true:=hv;rcases EJ (show cC (xs++c.nm) x=some i from hi) with ⟨h1,h2⟩ | ⟨h1,h2,h3⟩
  .have hi':i<ts.length:=by lia
   rw [oQ (by simpa using hi'),List.getElem?_map] at hr;obtain ⟨t',ht',e'⟩:=oms hr;cases e';obtain ⟨v,hv1,hv2⟩:=rv.get ht';refine ⟨i,v,?_,?_,hv2⟩
   .show (xs++eN scope X.N)[i]?=some x;rw [uM h2];exact mJ h1
   .rw [oQ (by simp;lia),List.getElem?_map,hv1];rfl
  .rw [oP (by simp;lia)] at hr;have hr':r[i-xs.length]?=some (some t):=by simpa [ht] using hr
   have hfree:scope.names.lookup x=some .free:=by
    unfold cY at hv;cases q:scope.names.lookup x with
    | none=>rw [q] at hv;cases hv
    | some kd =>
     rw [q] at hv;cases kd with
     | free=>rfl
     | «local» =>
      have:=(S.loc _ (mE q) rfl).2;rcases this with z | z
      .exact absurd z h1
      .rw [show x=".0" from z] at hpn;exact absurd hpn (by decide +kernel)
     | cell=>exact absurd (S.cel _ (mE q) rfl).2 h1
     | _=>cases hv
   have hout:cY c.sc x=true:=by rcases (S.free _ (mE hfree) rfl).2 with z | z<;>simp [cY,z]
   obtain ⟨j,v,g1,g2,g3⟩:=e.get x (i-xs.length) t hpn h3 hout hr';obtain ⟨m,m1,m2⟩:=CO scope hfree X.N O hl g1 g2;refine ⟨xs.length+m,v,?_,?_,g3⟩
   .show (xs++eN scope X.N)[xs.length+m]?=some x;rw [zF (by lia)];simpa using m1
   .rw [oP (by simp;lia)];simpa [hvl] using m2
end
end
section
theorem EN:∀ (vs:List V) (front pre rest:L2.St),pre.length=vs.length->mI (List.range' front.length vs.length) vs (front++pre++rest)=front++vs.map some++rest
 | [],front,pre,rest,h=>by
  cases pre with
  | nil=>simp [mI]
  | cons _ _=>simp at h
 | v::vs,front,pre,rest,h=>by
  cases pre with
  | nil=>simp at h
  | cons p pre =>
   rw [eV,List.range'_succ,mI];have e:(front++(p::pre)++rest).set front.length (some v)=(front++[some v])++pre++rest:=by rw [jW,List.set_append,if_neg (gK _)];simp
   have e2:(front++[some v]).length=front.length+1:=by simp
   rw [e,<- e2,EN vs (front++[some v]) pre rest (by simpa using h)];simp
def spC (X:Cx) (c:Tc) (fc:Env->Option Bool):TT:=fun O H Q=>∃ r F b,EnvE X c r F O H/\fc r=some b/\∀ F' H',Step F H F' H'->Q b H'
noncomputable def elM (n:Nat) (r:Env) (fc:Env->Option Bool) (fe:Env->Option T):T->Option (Option T):=fun x=>(bnd n x r).bind fun r'=>(fc r').bind fun b=>if b=true then (fe r').map some else some none
section
variable {X:Cx} {c:Tc} {G:Glo} {k:Nat} {scope:Scope} {xs:List Str}
theorem EO {elt iter tg:Expr} {ifs:List Expr} {pos:Pos} {fe:Env->Option T} {fc:Env->Option Bool} (gd:Gd X c G k) (S:CsB c.sc scope xs) (htg:iU tg=some xs) (h2n:dU tg=true->2<=xs.length)
  (he:∀ pj fp qz qy,Gd (blk X pj scope xs fp qz qy) ⟨scope,xs++c.nm⟩ G k->Oke (blk X pj scope xs fp qz qy) ⟨scope,xs++c.nm⟩ elt fe)
  (hi:∀ pj fp qz qy,Gd (blk X pj scope xs fp qz qy) ⟨scope,xs++c.nm⟩ G k->∀ (pn:Pq) (s:Shared) (O:L2.St) (H:Hp) (Q:Bool->Hp->Prop),L2.Inv (blk X pj scope xs fp qz qy) pn O H s->spC (blk X pj scope xs fp qz qy) ⟨scope,xs++c.nm⟩ fc O H Q ->
   wpAny (model X.prog X.w) X.A (forIn ifs true fun c r=>if r=true then do let ok <- isTrue c (blk X pj scope xs fp qz qy).env (eval c (blk X pj scope xs fp qz qy).env);pure (ForInStep.yield ok) else pure (ForInStep.yield r)) (TP (blk X pj scope xs fp qz qy) pn O Q) (fun _ _=>False) s)
  {pj:Pq} {fp:List Addr} {O:L2.St} {H2 F2:Hp} {s2:Shared} {J:It} {it:Addr} {tn:Nat->Heap->Prop} {E:Vq} {ts total:List T} {r:Env}
  (I2:L2.Inv X pj O H2 s2) (Tn:Turn X.prog X.w X.K tg J fp it tn) (st2:tn 0 s2.heap) (f2:∀ b∈fp,eQ X pj H2 b) (wk:Walk X.K J ts F2) (e2:EnvE X c r F2 O H2) (hts:ts.length<=SZ) (hcm:eM (elM xs.length r fc fe) ts=some total) :
  wpAny (model X.prog X.w) X.A (newList []) (fun acc qz=>wpAny (model X.prog X.w) X.A (newFunctionEnv scope X.env.globals (eZ X.env scope.names []) [] X.env.qual none .none (some X.env)) (fun cenv s₄ =>
   codeAny (model X.prog X.w) X.A (.compStart (.ListComp elt [⟨tg,iter,ifs,0⟩] scope pos) 0 (.ref it) acc { cenv with scope:=relabel scope X.env })
    (fun r s'=>r=.ok .next/\∃ D H',acc=.ref D/\L2.Inv X pj O H' s'/\eQ X pj H' cenv.locals/\(∃ m,s'.heap.Ns cenv.locals m) /\
     ∃ F vs,Step F2 H2 F H'/\F D=none/\H2 D=none/\H' D=some (.lst vs)/\aD X.K F total vs) s₄) E qz) E s2:=by
 have hl:O.length=X.N.length:=I2.len;have gb:∀ qz qy,Gd (blk X pj scope xs fp qz qy) ⟨scope,xs++c.nm⟩ G k:=fun qz qy=>UT S gd;have hat:∀ qz qy,Ats (blk X pj scope xs fp qz qy) xs (List.range' 0 xs.length):=fun qz qy=>EM S xs 0 fun j x e=>by rw [Nat.zero_add];exact e
 refine QD (g:=fun _ _=>gT X.K (!dU tg) (List.range' 0 xs.length)) (tc:=fun qz qy=>spC (blk X pj scope xs fp qz qy) ⟨scope,xs++c.nm⟩ fc) (te:=fun qz qy=>spE (blk X pj scope xs fp qz qy) ⟨scope,xs++c.nm⟩ fe)
  gd.calm (S.sc gd) I2 Tn st2 f2 (fun qz qy _=>EI (X:=blk X pj scope xs fp qz qy) (gb qz qy).nd gd.calm htg (hat qz qy)) (fun qz qy _=>hi pj fp qz qy (gb qz qy)) (fun qz qy _=>he pj fp qz qy (gb qz qy))
  (fun D i m O' H'=>i<=ts.length/\m=ts.length-i/\(∃ pre:L2.St,O'=pre++eI scope X.N O/\pre.length=xs.length)/\∃ F vs rs rest,Step F2 H2 F H'/\F D=none/\H2 D=none/\H' D=some (.lst vs)/\aD X.K F rs vs/\vs.length<=i/\eM (elM xs.length r fc fe) (ts.drop i)=some rest/\rs++rest=total)
  (fun D H'=>∃ F vs,Step F2 H2 F H'/\F D=none/\H2 D=none/\H' D=some (.lst vs)/\aD X.K F total vs) ?_ ?_
 .intro D hD;exact ⟨ts.length,Nat.zero_le _,rfl,⟨_,rfl,by simp⟩,F2,[],[],total,(Step.refl e2.fh).newH hD,e2.fh.free hD,hD,aY,rfl,Nat.le_refl _,hcm,rfl⟩
 .rintro qz qy D i m O' H' BOk ⟨hi1,rfl,⟨pre,rfl,hpre⟩,F,vs,rs,rest,st,hF,hH2,hH',hrs,hvl,hcr,htot⟩;have sm:Same F2 H':=st.ff.trans st.fh;by_cases hlt:i<ts.length
  .right;have hti:ts[i]?=some ts[i]:=bV hlt;generalize hT:ts[i]=t at hti;rw [List.drop_eq_getElem_cons hlt,hT,eM] at hcr;obtain ⟨o,ho,hcr⟩:=obs hcr;obtain ⟨rest',hr',hcr⟩:=obs hcr;obtain ⟨r',hb,ho⟩:=obs (show (bnd xs.length t r).bind _=some o from ho);obtain ⟨bb,hfc,ho⟩:=obs ho;refine ⟨wk.go i H' hlt sm,fun O'' H''=>i+1<=ts.length/\(∃ pre:L2.St,O''=pre++eI scope X.N O/\pre.length=xs.length)/\∃ F vs rs rest,Step F2 H2 F H''/\F D=none/\H2 D=none/\H'' D=some (.lst vs)/\aD X.K F rs vs/\vs.length<=i+1/\eM (elM xs.length r fc fe) (ts.drop (i+1))=some rest/\rs++rest=total,?_,?_⟩
   .rintro O'' H'' ⟨a1,a2,a3⟩;exact ⟨ts.length-(i+1),by lia,a1,rfl,a2,a3⟩
   .intro x H5 y;obtain ⟨F5,st5,r5⟩:=wk.yld i H' x H5 F t hti st.ff st.fh y;have cont:∀ (us:List T) (ws:List V),us.length=xs.length->aD X.K F5 us ws->r'=us.map some++r->(spC (blk X pj scope xs fp qz qy) ⟨scope,xs++c.nm⟩ fc) (ws.map some++eI scope X.N O) H5 fun ok H7=>if ok=true then (spE (blk X pj scope xs fp qz qy) ⟨scope,xs++c.nm⟩ fe) (ws.map some++eI scope X.N O) H7 fun y H8=>∃ ys,H8 D=some (.lst ys)/\ys.length<sizeLine /\
      (i+1<=ts.length/\(∃ pre:L2.St,ws.map some++eI scope X.N O=pre++eI scope X.N O/\pre.length=xs.length)/\∃ F vs rs rest,Step F2 H2 F (aJ H8 D (.lst (ys++[y])))/\F D=none/\H2 D=none/\aJ H8 D (.lst (ys++[y])) D=some (.lst vs)/\aD X.K F rs vs/\vs.length<=i+1/\eM (elM xs.length r fc fe) (ts.drop (i+1))=some rest/\rs++rest=total)
      else (i+1<=ts.length/\(∃ pre:L2.St,ws.map some++eI scope X.N O=pre++eI scope X.N O/\pre.length=xs.length)/\∃ F vs rs rest,Step F2 H2 F H7/\F D=none/\H2 D=none/\H7 D=some (.lst vs)/\aD X.K F rs vs/\vs.length<=i+1/\eM (elM xs.length r fc fe) (ts.drop (i+1))=some rest/\rs++rest=total):=by
     intro us ws hul hrw hrr;have hwl:(ws.map some:L2.St).length=xs.length:=by rw [bE,hrw.length,hul]
     have e5:=UU (pj:=pj) (fp:=fp) (qz:=qz) (qy:=qy) S (e2.step (st.trans st5)) hl hul hrw st5.fh (e2.tb.up (st.trans st5));rw [<- hrr] at e5;refine ⟨r',F5,bb,e5,hfc,fun F7 H7 s7=>?_⟩;have st7:=st5.trans s7;have hD7:H7 D=some (.lst vs):=st7.hh.st D _ hH' rfl;have nD:∀ {F8 H8:Hp},Step F H' F8 H8->F8 D=none:=fun {F8 H8} s8=>by
      cases q:F8 D with
      | none=>rfl
      | some o =>
       rcases s8.nw D (by rw [q];simp) with z | z | ⟨_,z⟩
       .exact absurd hF z
       .rw [hH'] at z;cases z
       .rw [hH'] at z;cases z
     cases bb with
     | false =>dsimp only at ho ⊢;rw [if_neg dH] at ho ⊢;cases ho;cases hcr;exact ⟨hlt,⟨_,rfl,hwl⟩,F7,vs,rs,_,st.trans st7,nD st7,hH2,hD7,hrs.mono st7.ff,by lia,hr',htot⟩
     | true =>
      dsimp only at ho ⊢;rw [if_pos rfl] at ho ⊢;obtain ⟨yt,hye,rfl⟩:=oms ho;cases hcr;refine ⟨r',F7,yt,e5.step s7,hye,fun v F8 H8 s8 r8=>?_⟩;have st8:=st7.trans s8;have S8:=st.trans st8;have hF8:=nD st8;refine ⟨vs,st8.hh.st D _ hH' rfl,?_,hlt,⟨_,rfl,hwl⟩,F8,vs++[v],rs++[yt],_,⟨S8.hh.aJ hH2 (st8.hh.st D _ hH' rfl) rfl (fun _ _ z=>nomatch z),S8.ff,fun b o q=>?_,S8.nw⟩,hF8,hH2,aY,(hrs.mono st8.ff).app ⟨v,[],rfl,r8,rfl⟩,by simp;lia,hr',by rw [List.append_assoc];exact htot⟩
      .rw [<- kZ];lia
      .rw [aN (bQ q hF8)];exact S8.fh b o q
    cases htup:dU tg with
    | false =>
     have hx1:∃ z,xs=[z]:=by
      cases tg with
      | Name z p=>cases htg;exact ⟨z,rfl⟩
      | Tuple _ _ _=>cases htup
      | _=>cases htg
     obtain ⟨z,rfl⟩:=hx1;have hb':some (some t::r)=some r':=hb;cases hb';obtain ⟨p0,rfl⟩:∃ p0,pre=[p0]:=by
      cases pre with
      | nil=>simp at hpre
      | cons p0 q=>cases q with
       | nil=>exact ⟨p0,rfl⟩
       | cons _ _=>simp at hpre
     exact cont [t] [x] rfl ⟨x,[],rfl,r5,rfl⟩ rfl
    | true =>
     have hn2:=h2n htup;unfold bnd at hb;rw [if_neg (by lia)] at hb;cases t with
     | tup us =>
      simp only at hb;split at hb
      .rename_i hul;cases hb;obtain ⟨a,ws,rfl,q1,q2⟩:=r5;refine ⟨a,ws,rfl,dC st5.fh q1,by rw [List.length_range',q2.length,hul],?_⟩;have es:=EN ws [] pre (eI scope X.N O) (by rw [hpre,q2.length,hul]);rw [q2.length,hul] at es;simp only [List.length_nil,List.nil_append] at es;rw [es];exact cont us ws hul q2 rfl
      .cases hb
     | _=>cases hb
  .left;have hie:i=ts.length:=by lia
   subst hie;rw [List.drop_length] at hcr;cases hcr;rw [dP] at htot;subst htot;exact ⟨wk.stop H' sm,F,vs,st,hF,hH2,hH',hrs⟩
end
end
section
section
variable {X:Cx} {c:Tc} {G:Glo} {k:Nat} {scope:Scope} {xs:List Str}
theorem EQ {F H F2 H2 F3 H':Hp} {D:Addr} {vs:List V} (a:Step F H F2 H2) (b:Step F2 H2 F3 H') (h1:F3 D=none) (h2:H2 D=none) (h3:H' D=some (.lst vs)):Step F H (aJ F3 D (.lst vs)) H' :=
 have S:=a.trans b
 ⟨S.hh,S.ff.trans (iM h1),fun x o q=>by
  by_cases hx:x=D
  .subst hx;rw [aY] at q;cases q;exact h3
  .rw [aN hx] at q;exact S.fh x o q,fun x z=>by
  by_cases hx:x=D
  .subst hx;exact .inr (.inl (a.hh.free h2))
  .rw [aN hx] at z;exact S.nw x z⟩
noncomputable def kC (xs:List Str) (fi:Env->Option (List T)) (fc:Env->Option Bool) (fe:Env->Option T):Env->Option T :=
 fun r=>((fi r).bind fun qc=>if qc.length<=SZ then some qc else none).bind fun qc=>(eM (elM xs.length r fc fe) qc).map .lst
variable {elt iter tg:Expr} {ifs:List Expr} {pos:Pos} {fe:Env->Option T} {fc:Env->Option Bool} {fi:Env->Option (List T)}
theorem ER {r:Env} {t:T} (h:kC xs fi fc fe r=some t):∃ qc total,fi r=some qc/\qc.length<=SZ/\eM (elM xs.length r fc fe) qc=some total/\t=.lst total:=by
 unfold kC at h;obtain ⟨qc,h1,h⟩:=obs h;obtain ⟨its',h2,h1⟩:=obs h1;split at h1
 .rename_i hz;cases h1;obtain ⟨total,h3,rfl⟩:=oms h;exact ⟨qc,total,h2,hz,h3,rfl⟩
 .cases h1
theorem xA (gd:Gd X c G k) (S:CsB c.sc scope xs) (htg:iU tg=some xs) (h2n:dU tg=true->2<=xs.length)
  (he:∀ pj fp qz qy,Gd (blk X pj scope xs fp qz qy) ⟨scope,xs++c.nm⟩ G k->Oke (blk X pj scope xs fp qz qy) ⟨scope,xs++c.nm⟩ elt fe)
  (hi:∀ pj fp qz qy,Gd (blk X pj scope xs fp qz qy) ⟨scope,xs++c.nm⟩ G k->∀ (pn:Pq) (s:Shared) (O:L2.St) (H:Hp) (Q:Bool->Hp->Prop),L2.Inv (blk X pj scope xs fp qz qy) pn O H s->spC (blk X pj scope xs fp qz qy) ⟨scope,xs++c.nm⟩ fc O H Q ->
   wpAny (model X.prog X.w) X.A (forIn ifs true fun c r=>if r=true then do let ok <- isTrue c (blk X pj scope xs fp qz qy).env (eval c (blk X pj scope xs fp qz qy).env);pure (ForInStep.yield ok) else pure (ForInStep.yield r)) (TP (blk X pj scope xs fp qz qy) pn O Q) (fun _ _=>False) s)
  (hit:PI X tg iter (spI X c fi)) (hfs:∀ x,foldedSetIterable iter X.env x=pure x):Oke X c (.ListComp elt [⟨tg,iter,ifs,0⟩] scope pos) (kC xs fi fc fe):=by
 intro pj s O H Q I q;obtain ⟨r,F,t,e,ht,q⟩:=q;obtain ⟨qc,total,hf,hz,hcm,rfl⟩:=ER ht;rw [eval_ListComp];refine wpAny_comprehension_free (use:=none) rfl hfs (vQ ((S.sc gd).has I.ok)) S.kind (fun y hy e=>(S.loc y hy e).1)
  (thn (hit pj s O H (fun J H'=>∃ F',Step F H F' H'/\Walk X.K J qc F') I ⟨r,F,qc,e,hf,fun J F' H' s1 wk=>⟨F',s1,wk⟩⟩) fun v s1 h1=>thn h1 fun itv s2 h2=>?_)
 obtain ⟨it,fp,tn,J,H2,rfl,I2,T,st2,f2,F2,s12,wk⟩:=h2;refine thn (EO (E:=X.xe) gd S htg h2n he hi I2 T st2 f2 wk (e.step s12) hz hcm) fun acc s3 h3=>thn h3 fun cenv s4 h4=>codeAny_mono h4 fun res s' hres=>?_;obtain ⟨rfl,D,H',rfl,I',fC,⟨m,hm⟩,F3,vs,st3,d1,d2,d3,d4⟩:=hres;refine ⟨m,hm,fun h' hsb=>⟨.ref D,H',I'.turned (t':=s'.toks) (fun b o hb q=>(hsb.2 b hb).trans q) fC.1 fC.2.1 fC.2.2.2.1 fC.2.2.2.2.1 fC.2.2.2.2.2,rfl,?_⟩⟩;have S3:=EQ s12 st3 d1 d2 d3;exact q _ _ _ S3 ⟨D,vs,rfl,Ls.of aY,d4.mono (iM d1)⟩
def xB (X:Cx) (c:Tc) (i:Nat) (f:Env->Option T):TS:=fun D O H=>∃ r F t,EnvE X c r F O H/\f r=some t/\∀ v F' H',Step F H F' H'->Rep X.K F' t v->D.nx (O.set i (some v)) H'
theorem ES (gd:Gd X c G k) (S:CsB c.sc scope xs) (htg:iU tg=some xs) (h2n:dU tg=true->2<=xs.length)
  (he:∀ pj fp qz qy,Gd (blk X pj scope xs fp qz qy) ⟨scope,xs++c.nm⟩ G k->Oke (blk X pj scope xs fp qz qy) ⟨scope,xs++c.nm⟩ elt fe)
  (hi:∀ pj fp qz qy,Gd (blk X pj scope xs fp qz qy) ⟨scope,xs++c.nm⟩ G k->∀ (pn:Pq) (s:Shared) (O:L2.St) (H:Hp) (Q:Bool->Hp->Prop),L2.Inv (blk X pj scope xs fp qz qy) pn O H s->spC (blk X pj scope xs fp qz qy) ⟨scope,xs++c.nm⟩ fc O H Q ->
   wpAny (model X.prog X.w) X.A (forIn ifs true fun c r=>if r=true then do let ok <- isTrue c (blk X pj scope xs fp qz qy).env (eval c (blk X pj scope xs fp qz qy).env);pure (ForInStep.yield ok) else pure (ForInStep.yield r)) (TP (blk X pj scope xs fp qz qy) pn O Q) (fun _ _=>False) s)
  (hit:PI X tg iter (spI X c fi)) (hfs:∀ x,foldedSetIterable iter X.env x=pure x) {y:Str} {py spos:Pos} {i:Nat} (hy:At X y i):PS X (.Assign [.Name y py] (.ListComp elt [⟨tg,iter,ifs,0⟩] scope pos) spos) (xB X c i (kC xs fi fc fe)):=by
 obtain ⟨b,hb⟩:∃ b:Bool,swapsWith (.ListComp elt [⟨tg,iter,ifs,0⟩] scope pos) (some (.Name y py)) spos.line X.env=pure b:=⟨_,rfl⟩;cases b with
 | false =>refine iN (mZ gd.nd hy.ix hy.loc (xA gd S htg h2n he hi hit hfs) hb hy.fn) fun D O H q=>?_;exact q
 | true =>
  intro pj s O H Dn I q;obtain ⟨r,F,t,e,ht,q⟩:=q;obtain ⟨qc,total,hf,hz,hcm,rfl⟩:=ER ht;rw [exec_Assign_Name_used _ _ _ _ hb];refine aA (wpAny_standAt (aA ?_));show wpAny _ X.A (do let _ <- comprehension (.ListComp elt [⟨tg,iter,ifs,0⟩] scope pos) scope X.env _ (newList []) false (eval iter X.env) (some (assign (.Name y py) X.env))) _ _ s;refine aA (fS (wpAny_comprehension_free (use:=some (assign (.Name y py) X.env)) (Q:=fun _ s'=>SP X pj Dn .next s') rfl hfs (vQ ((S.sc gd).has I.ok)) S.kind (fun y hy e=>(S.loc y hy e).1)
   (thn (hit pj s O H (fun J H'=>∃ F',Step F H F' H'/\Walk X.K J qc F') I ⟨r,F,qc,e,hf,fun J F' H' s1 wk=>⟨F',s1,wk⟩⟩) fun v s1 h1=>thn h1 fun itv s2 h2=>?_)) (fun _ s' hq=>aL (aL hq)) fun _ _ e=>e)
  obtain ⟨it,fp,tn,J,H2,rfl,I2,T,st2,f2,F2,s12,wk⟩:=h2;refine thn (EO (E:=X.xe) gd S htg h2n he hi I2 T st2 f2 wk (e.step s12) hz hcm) fun acc s3 h3=>thn h3 fun cenv s4 h4=>codeAny_mono h4 fun res s' hres=>?_;obtain ⟨rfl,D,H',rfl,I',fC,⟨m,hm⟩,F3,vs,st3,d1,d2,d3,d4⟩:=hres;show wpAny _ X.A (assign (.Name y py) X.env (.ref D)) _ _ s';refine wpAny_assign_Name (zL I' gd.nd hy.ix hy.loc (v:=.ref D) (u:=.ref D) rfl (fun s'' I'' hsb=>?_) hy.fn);obtain ⟨a,hsb,ha⟩:=hsb;have hCa:cenv.locals≠a:=by
   rcases ha with z | z
   .rw [z];exact fC.2.1
   .exact Ne.symm (fC.2.2.2.2.1 y a z)
  refine ⟨m,hm.sameBut hsb hCa,fun h' hsb2=>⟨_,H',I''.turned (t':=s''.toks) (fun b o hb q=>(hsb2.2 b hb).trans q) fC.1 fC.2.1 fC.2.2.2.1 fC.2.2.2.2.1 fC.2.2.2.2.2,?_⟩⟩;have S3:=EQ s12 st3 d1 d2 d3;exact q _ _ _ S3 ⟨D,vs,rfl,Ls.of aY,d4.mono (iM d1)⟩
end
end
section
variable {e:Expr} {e':E}
theorem lG {n:Nat} {c:Tc} (h:trV n c e=some e') (es:List Expr) (env:PySem.Env):starEach (e::es) env=(false,eval e env)::starEach es env:=by
 cases n with
 | zero=>cases h
 | succ n=>cases e<;>first | rfl | (cases h)
theorem kD {n:Nat} {c:Tc} (h:trV n c e=some e') (env:PySem.Env):starEach [e] env=[(false,eval e env)]:=lG h [] env
theorem sD {n:Nat} {c:Tc} (pos:Pos) (env:PySem.Env):∀ {es:List Expr} {xs:List E},cL (trV n c) es=some xs->(backTo pos (starEach es env)).any (·.1)=false
 | [],_,_=>rfl
 | e::es,xs,h=>by obtain ⟨x,h1,h⟩:=obs h;obtain ⟨ys,h2,_⟩:=obs h;rw [lG h1];have ih:=sD pos env h2;unfold backTo at ih ⊢;rw [aT,iQ,ih];rfl
theorem UV {b:Expr} (h:pF b=false):vC b:=by cases b<;>first | (intro o i;rfl) | (cases h)
theorem ET {n:Nat} {c:Tc} {o:Expr} (h:trV n c o=some e') (m:Str) (env:PySem.Env) (w:Sem Value):attributeBase o m env w=w:=by
 cases n with
 | zero=>cases h
 | succ n =>
  cases o with
  | Call f args kws pos =>
   cases f with
   | Name id p =>
    cases args with
    | nil=>cases kws<;>(cases h;done)
    | cons _ _=>rfl
   | _=>rfl
  | _=>rfl
theorem sE {G:Glo}:∀ {xs:List E} {r:Env} {ts:List T},aF G xs r=some ts->ts.length=xs.length
 | [],_,_,h=>by rw [aF] at h;cases h;rfl
 | x::xs,r,ts,h=>by rw [aF] at h;obtain ⟨t,_,h⟩:=obs h;obtain ⟨us,h2,h⟩:=obs h;cases h;simp [sE h2]
def isBO:Expr->Bool
 | .BoolOp ..=>true
 | _=>false
structure Snd (G:Glo) (k n:Nat):Prop where
 v:∀ {X:Cx} {c:Tc} {e:Expr} {e':E},Gd X c G k->trV n c e=some e'->Oke X c e (evE G e')
 t:∀ {X:Cx} {c:Tc} {e:Expr} {e':E},Gd X c G k->trT n c e=some e'->Okt X c e (evE G e')/\(isBO e=true->Okw X c e (evE G e'))
 i:∀ {X:Cx} {c:Tc} {tg e:Expr} {ki:Ik × List E},Gd X c G k->trI n c e=some ki->(ki.1.pair=true->dU tg=true)->PI X tg e (spI X c fun r=>(aF G ki.2 r).bind fun xs=>items ki.1 xs)
section
variable {G:Glo} {k n:Nat} {X:Cx} {c:Tc}
theorem Snd.l (S:Snd G k n) (gd:Gd X c G k):∀ {es:List Expr} {xs:List E},cL (trV n c) es=some xs->PA X es (spL X c (aF G xs))
 | [],xs,h=>by
  cases h;have e:aF G []=fun _=>some []:=by funext r;rw [aF]
  rw [e];exact CJ
 | a::es,xs,h=>by
  obtain ⟨x,h1,h⟩:=obs h;obtain ⟨ys,h2,h⟩:=obs h;cases h;have e:aF G (x::ys)=fun r=>(evE G x r).bind fun t=>(aF G ys r).bind fun ts=>some (t::ts):=by funext r;rw [aF]
  rw [e];exact wE (S.v gd h1) (Snd.l S gd h2) (lG h1 es X.env)
theorem Snd.o (S:Snd G k n) (gd:Gd X c G k) {e:Option Expr} {x:Option E} (h:vK (trV n c) e=some x):PO X e (spO X c (evO G x)):=by
 cases e with
 | none =>
  cases h;have e:evO G none=fun _=>some none:=by funext r;rw [evO]
  rw [e];exact OZ
 | some a =>
  obtain ⟨y,h1,rfl⟩:=oms h;have e:evO G (some y)=fun r=>(evE G y r).map some:=by funext r;rw [evO]
  rw [e];exact PB (S.v gd h1)
theorem Gd.hu (gd:Gd X c G k):X.A.units+100<cLine:=by have:=gd.room.un;lia
theorem UW (S:Snd G k n) (gd:Gd X c G k) (h:trT (n+1) c e=some e'):Okt X c e (evE G e')/\(isBO e=true->Okw X c e (evE G e')):=by
 have tru:∀ {a:Expr} {x:E},(∀ whole,isTrue a X.env whole=(do let v <- whole;standAt a.pos;holding [v] (truthy v)))->trV n c a=some x->Okt X c a (evE G (.tru x)):=fun {a x} he h1=>by
  have e:evE G (.tru x)=fun r=>(evE G x r).bind fun t=>(gZ t).map .bl:=by funext r;rw [evE]
  rw [e];exact PR (S.v gd h1) he
 cases e with
 | BoolOp op vs pos =>
  have key:Okw X c (.BoolOp op vs pos) (evE G e'):=by
   cases vs with
   | nil=>cases op<;>(cases h;done)
   | cons a r =>
    cases r with
    | nil =>
     cases op with
     | And=>exact zN (S.t gd h).1
     | Or=>exact JD (S.t gd h).1
    | cons b r =>
     cases op with
     | And =>
      obtain ⟨x,h1,h⟩:=obs h;obtain ⟨y,h2,h⟩:=obs h;cases h;have e:evE G (.land x y)=fun r=>(evE G x r).bind fun t=>match t with | .bl true=>evE G y r | .bl false=>some (.bl false) | _=>none:=by funext r;rw [evE];try rfl
      rw [e];exact PM (S.t gd h1).1 ((S.t gd h2).2 rfl)
     | Or=>(cases h;done)
  exact ⟨key.pt,fun _=>key⟩
 | UnaryOp op a pos =>
  refine ⟨?_,fun z=>by cases z⟩;cases op with
  | Not =>
   obtain ⟨x,h1,h⟩:=obs h;cases h;have e:evE G (.lnot x)=fun r=>(evE G x r).bind fun t=>match t with | .bl b=>some (.bl (!b)) | _=>none:=by funext r;rw [evE];try rfl
   rw [e];exact PN (S.t gd h1).1
  | _=>(cases h;done)
 | Compare a ops bs pos =>
  refine ⟨?_,fun z=>by cases z⟩
  match ops,bs,h with
  | [op],[b],h =>
   obtain ⟨o,h0,h⟩:=obs h;obtain ⟨x,h1,h⟩:=obs h;obtain ⟨y,h2,h⟩:=obs h;cases h;obtain ⟨q1,q2⟩:=wC (X:=X) gd.hu h0;have e:evE G (.cmp o x y)=fun r=>(evE G x r).bind fun s=>(evE G y r).bind fun t=>bH o s t:=by funext r;rw [evE]
   rw [e];exact BM q1 (S.v gd h1) (S.v gd h2) q2
  | [op,op'],[b,d],h=>(cases h;done)
  | [],_,h=>(cases h;done)
  | [_],[],h=>(cases h;done)
  | [_],_::_::_,h=>(cases h;done)
  | [_,_],[],h=>(cases h;done)
  | [_,_],[_],h=>(cases h;done)
  | [_,_],_::_::_::_,h=>(cases h;done)
  | _::_::_::_,_,h=>(cases h;done)
 | Name x pos =>refine ⟨?_,fun z=>by cases z⟩;obtain ⟨y,h1,h⟩:=obs h;cases h;exact tru (fun _=>rfl) h1
 | Call f es ks pos =>refine ⟨?_,fun z=>by cases z⟩;obtain ⟨y,h1,h⟩:=obs h;cases h;exact tru (fun _=>rfl) h1
 | Subscript a b pos =>refine ⟨?_,fun z=>by cases z⟩;obtain ⟨y,h1,h⟩:=obs h;cases h;exact tru (fun _=>rfl) h1
 | _=>(cases h;done)
theorem UX (S:Snd G k n) {tg:Expr} {ki:Ik × List E} (gd:Gd X c G k) (h:trI (n+1) c e=some ki) (ht:ki.1.pair=true->dU tg=true):PI X tg e (spI X c fun r=>(aF G ki.2 r).bind fun xs=>items ki.1 xs):=by
 have one:∀ (x:E) (kk:Ik),(fun r=>(aF G [x] r).bind fun xs=>items kk xs)=fun r=>(evE G x r).bind fun t=>items kk [t]:=fun x kk=>by funext r;rw [aF,aF];cases evE G x r<;>rfl
 have plain:∀ {a:Expr},((trV n c a).bind fun x=>some (Ik.plain,[x]))=some ki->PI X tg a (spI X c fun r=>(aF G ki.2 r).bind fun xs=>items ki.1 xs):=fun {a} h=>by obtain ⟨x,h1,h⟩:=obs h;cases h;rw [one];exact UK (S.v gd h1)
 have call:∀ {f:Str} {p pos:Pos} {a:Expr},trI (n+1) c (.Call (.Name f p) [a] [] pos)=some ki->PI X tg (.Call (.Name f p) [a] [] pos) (spI X c fun r=>(aF G ki.2 r).bind fun xs=>items ki.1 xs):=fun {f p pos a} h=>by
  unfold trI at h;split at h
  .rename_i hr;rw [bS] at hr;have hf:=dO hr.1;subst hf;obtain ⟨x,h1,h⟩:=obs h;cases h;rw [one];exact UL gd hr.2 (S.v gd h1) (kD h1 X.env)
  .split at h
   .rename_i hr;rw [bS] at hr;have hf:=dO hr.1;subst hf;obtain ⟨x,h1,h⟩:=obs h;cases h;have htt:=ht rfl;cases tg with
    | Tuple es kx p2 =>rw [one];exact UM gd hr.2 (S.v gd h1) (kD h1 X.env)
    | _=>cases htt
   .exact plain h
 cases e with
 | Call f args kws pos =>
  cases f with
  | Name id p =>
   match args,kws,h with
   | [a],[],h=>exact call h
   | [],kws,h=>exact plain h
   | [_],_::_,h=>exact plain h
   | [a,b],[],h =>
    replace h:(if id==("zip":Str)&&glB c.sc id then (trV n c a).bind fun x=>(trV n c b).bind fun y=>some (Ik.zip,[x,y]) else (trV n c (.Call (.Name id p) [a,b] [] pos)).bind fun x=>some (Ik.plain,[x]))=some ki:=h;split at h
    .rename_i hr;rw [bS] at hr;obtain ⟨x,h1,g1⟩:=obs h;obtain ⟨y,h2,g2⟩:=obs g1;cases g2;have hf:=dO hr.1;subst hf;have htt:=ht rfl;cases tg with
     | Tuple es kx p2 =>
      have two:(fun r=>(aF G [x,y] r).bind fun xs=>items Ik.zip xs)=fun r=>(evE G x r).bind fun s=>(evE G y r).bind fun t=>items Ik.zip [s,t]:=by funext r;rw [aF,aF,aF];cases evE G x r<;>cases evE G y r<;>rfl
      show PI X _ _ (spI X c fun r=>(aF G [x,y] r).bind fun xs=>items Ik.zip xs);rw [two];exact UP gd hr.2 (S.v gd h1) (S.v gd h2) (by rw [lG h1,kD h2]) (kD h2 X.env)
     | _=>cases htt
    .exact plain h
   | [_,_],_::_,h=>exact plain h
   | _::_::_::_,kws,h=>exact plain h
  | _=>exact plain h
 | _=>exact plain h
end
end
section
variable {m:Nat} {fe:Env->Option T} {scope:Scope} {pos:Pos}
section
variable {G:Glo} {k n:Nat} {X:Cx} {c:Tc}
theorem EU {e:Expr} {ki:Ik × List E} (h:trI m c e=some ki) (env:PySem.Env):∀ x,foldedSetIterable e env x=pure x:=by
 intro x;cases e with
 | Set es k p =>
  exfalso;cases m with
  | zero=>cases h
  | succ m =>
   have h:((trV m c (.Set es k p)).bind fun x=>some (Ik.plain,[x]))=some ki:=h;cases m with
   | zero=>cases h
   | succ m=>cases h
 | _=>rfl
structure CompParts (G:Glo) (n:Nat) (c:Tc) (elt tg iter:Expr) (ifs:List Expr) (scope:Scope) (e':E) (xs:List Str) (fi:Env->Option (List T)) (fc:Env->Option Bool) (fe:Env->Option T):Prop where
 htg:iU tg=some xs
 cs:CsB c.sc scope xs
 h2:dU tg=true->2<=xs.length
 ev:evE G e'=kC xs fi fc fe
theorem UY {r:Env}:(fun x=>(bnd m x r).bind fun r'=>((some none:Option (Option T))).bind fun c=>match c with
    | none=>(fe r').map some
    | some (.bl true)=>(fe r').map some
    | some (.bl false)=>some none
    | some _=>none)=elM m r (fun _=>some true) fe:=by
 funext x;unfold elM;cases bnd m x r<;>rfl
theorem UZ {r:Env} {f1:Env->Option T}:(fun x=>(bnd m x r).bind fun r'=>((f1 r').map some).bind fun c=>match c with
    | none=>(fe r').map some
    | some (.bl true)=>(fe r').map some
    | some (.bl false)=>some none
    | some _=>none)=elM m r (fun r'=>(f1 r').bind fun t=>match t with | .bl b=>some b | _=>none) fe:=by
 funext x;unfold elM;cases bnd m x r with
 | none=>rfl
 | some r' =>
  simp only [bD];cases f1 r' with
  | none=>rfl
  | some t=>cases t<;>first | rfl | (rename_i b;cases b<;>rfl)
theorem EV {n:Nat} {c:Tc} {elt:Expr} {gens:List Comprehension} {e':E} (h:trV (n+1) c (.ListComp elt gens scope pos)=some e') :
  ∃ tg iter ifs,gens=[⟨tg,iter,ifs,0⟩]/\∃ xs ki,iU tg=some xs/\trI n c iter=some ki/\(pG c.sc scope xs&&(!ki.1.pair||dU tg)&&(!dU tg||decide (2<=xs.length)))=true /\
   (match ifs with
   | []=>(trV n ⟨scope,xs++c.nm⟩ elt).bind fun x=>some (.comp x xs.length ki.1 ki.2 none)
   | [t]=>(trV n ⟨scope,xs++c.nm⟩ elt).bind fun x=>(trT n ⟨scope,xs++c.nm⟩ t).bind fun y=>some (.comp x xs.length ki.1 ki.2 (some y))
   | _=>none)=some e':=by
 match gens,h with
 | [⟨tg,iter,ifs,.ofNat 0⟩],h =>
  obtain ⟨xs,h0,h⟩:=obs (show ((iU tg).bind fun xs=>(trI n c iter).bind fun ki=>if pG c.sc scope xs&&(!ki.1.pair||dU tg)&&(!dU tg||decide (2<=xs.length)) then
   (match ifs with
   | []=>(trV n ⟨scope,xs++c.nm⟩ elt).bind fun x=>some (.comp x xs.length ki.1 ki.2 none)
   | [t]=>(trV n ⟨scope,xs++c.nm⟩ elt).bind fun x=>(trT n ⟨scope,xs++c.nm⟩ t).bind fun y=>some (.comp x xs.length ki.1 ki.2 (some y))
   | _=>none) else none)=some e' from h)
  obtain ⟨ki,h1,h⟩:=obs h;split at h
  .rename_i hc;exact ⟨tg,iter,ifs,rfl,xs,ki,h0,h1,hc,h⟩
  .cases h
 | [⟨tg,iter,ifs,.ofNat (a+1)⟩],h=>cases h
 | [⟨tg,iter,ifs,.negSucc a⟩],h=>cases h
 | [],h=>cases h
 | g1::g2::gs,h =>obtain ⟨t1,i1,f1,a1⟩:=g1;rcases a1 with (_ | _) | _<;>cases h
theorem EW (S:Snd G k n) (gd:Gd X c G k) {elt:Expr} {gens:List Comprehension} {e':E} (h:trV (n+1) c (.ListComp elt gens scope pos)=some e') :
  Oke X c (.ListComp elt gens scope pos) (evE G e')/\∀ {y:Str} {py spos:Pos} {i:Nat},At X y i->PS X (.Assign [.Name y py] (.ListComp elt gens scope pos) spos) (xB X c i (evE G e')):=by
 obtain ⟨tg,iter,ifs,rfl,xs,ki,h0,h1,hcs,hr⟩:=EV h;simp only [Bool.and_eq_true,Bool.or_eq_true,Bool.not_eq_true',decide_eq_true_eq] at hcs;have CS:=UQ hcs.1.1;have h2n:dU tg=true->2<=xs.length:=fun z=>hcs.2.elim (fun q=>by rw [q] at z;cases z) id;have hen:ki.1.pair=true->dU tg=true:=fun z=>hcs.1.2.elim (fun q=>by rw [q] at z;cases z) id;have hit:=S.i (tg:=tg) gd h1 hen;have hfs:=EU h1 X.env
 match ifs,hr with
 | [],hr =>
  obtain ⟨x,h3,hr⟩:=obs hr;cases hr;have he:∀ pj fp qz qy,Gd (blk X pj scope xs fp qz qy) ⟨scope,xs++c.nm⟩ G k->Oke (blk X pj scope xs fp qz qy) ⟨scope,xs++c.nm⟩ elt (evE G x):=fun pj fp qz qy g=>S.v g h3;have hi:∀ pj fp qz qy,Gd (blk X pj scope xs fp qz qy) ⟨scope,xs++c.nm⟩ G k->∀ (pn:Pq) (s:Shared) (O:L2.St) (H:Hp) (Q:Bool->Hp->Prop),L2.Inv (blk X pj scope xs fp qz qy) pn O H s->spC (blk X pj scope xs fp qz qy) ⟨scope,xs++c.nm⟩ (fun _=>some true) O H Q ->
   wpAny (model X.prog X.w) X.A (forIn ([]:List Expr) true fun c r=>if r=true then do let ok <- isTrue c (blk X pj scope xs fp qz qy).env (eval c (blk X pj scope xs fp qz qy).env);pure (ForInStep.yield ok) else pure (ForInStep.yield r)) (TP (blk X pj scope xs fp qz qy) pn O Q) (fun _ _=>False) s:=fun pj fp qz qy g pn s O H Q I q=>by
   obtain ⟨r,F,b,e,hb,q⟩:=q;cases hb;exact wpAny_tests_nil ⟨H,I,q F H (Step.refl e.fh)⟩
  have e:evE G (.comp x xs.length ki.1 ki.2 none)=kC xs (fun r=>(aF G ki.2 r).bind fun xs=>items ki.1 xs) (fun _=>some true) (evE G x):=by
   funext r;rw [evE];unfold kC cA;rw [<- UY];dsimp only;cases aF G ki.2 r with
   | none=>rfl
   | some ys=>simp only [bD,evO]
  rw [e];exact ⟨xA gd CS h0 h2n he hi hit hfs,fun {y py spos i} hy=>ES gd CS h0 h2n he hi hit hfs hy⟩
 | [t],hr =>
  obtain ⟨x,h3,hr⟩:=obs hr;obtain ⟨y1,h4,hr⟩:=obs hr;cases hr;have he:∀ pj fp qz qy,Gd (blk X pj scope xs fp qz qy) ⟨scope,xs++c.nm⟩ G k->Oke (blk X pj scope xs fp qz qy) ⟨scope,xs++c.nm⟩ elt (evE G x):=fun pj fp qz qy g=>S.v g h3;have hi:∀ pj fp qz qy,Gd (blk X pj scope xs fp qz qy) ⟨scope,xs++c.nm⟩ G k->∀ (pn:Pq) (s:Shared) (O:L2.St) (H:Hp) (Q:Bool->Hp->Prop),L2.Inv (blk X pj scope xs fp qz qy) pn O H s->spC (blk X pj scope xs fp qz qy) ⟨scope,xs++c.nm⟩ (fun r'=>(evE G y1 r').bind fun t=>match t with | .bl b=>some b | _=>none) O H Q ->
   wpAny (model X.prog X.w) X.A (forIn [t] true fun c r=>if r=true then do let ok <- isTrue c (blk X pj scope xs fp qz qy).env (eval c (blk X pj scope xs fp qz qy).env);pure (ForInStep.yield ok) else pure (ForInStep.yield r)) (TP (blk X pj scope xs fp qz qy) pn O Q) (fun _ _=>False) s:=fun pj fp qz qy g pn s O H Q I q=>by
   obtain ⟨r,F,b,e,hb,q⟩:=q;obtain ⟨tt,ht,hb⟩:=obs hb;cases tt with
   | bl b' =>cases hb;exact wpAny_tests_one ((S.t g h4).1 pn s O H Q I ⟨r,F,b,e,ht,q⟩)
   | _=>cases hb
  have e:evE G (.comp x xs.length ki.1 ki.2 (some y1))=kC xs (fun r=>(aF G ki.2 r).bind fun xs=>items ki.1 xs) (fun r'=>(evE G y1 r').bind fun t=>match t with | .bl b=>some b | _=>none) (evE G x):=by
   funext r;rw [evE];unfold kC cA;rw [<- UZ];dsimp only;cases aF G ki.2 r with
   | none=>rfl
   | some ys=>simp only [bD,evO];try rfl
  rw [e];exact ⟨xA gd CS h0 h2n he hi hit hfs,fun {y py spos i} hy=>ES gd CS h0 h2n he hi hit hfs hy⟩
 | _::_::_,hr=>cases hr
theorem pO (S:Snd G k n) (gd:Gd X c G k) {f:Str} {a:Expr} {es:List Expr} {p:Pos} {xs:List E} (hg:glB c.sc f=true) (hp:bF f=true) (h:cL (trV n c) (a::es)=some xs):Oke X c (.Call (.Name f p) (a::es) [] pos) (evE G (.call f xs)):=by
 have e:evE G (.call f xs)=fun r=>(aF G xs r).bind fun ys=>G.call f ys:=by funext r;rw [evE]
 rw [e];obtain ⟨x,h1,h'⟩:=obs h;obtain ⟨ys,h2,_⟩:=obs h';exact PX gd hg hp (S.l gd h) (lG h1 es X.env) (sD pos X.env h2)
theorem EX (S:Snd G k n) {e:Expr} {e':E} (gd:Gd X c G k) (h:trV (n+1) c e=some e'):Oke X c e (evE G e'):=by
 have cst:∀ {t:T} {v:V} {a:Expr},PE X a (tC v)->(∀ F,Rep X.K F t v)->Oke X c a (evE G (.c t)):=fun {t v a} h1 h2=>by
  have e:evE G (.c t)=fun _=>some t:=by funext r;rw [evE]
  rw [e];exact PD h1 h2
 cases e with
 | Constant cs q pos =>
  cases cs with
  | none=>cases (show some (E.c .non)=some e' from h);exact cst JA fun _=>rfl
  | bool b=>cases (show some (E.c (.bl b))=some e' from h);exact cst uR fun _=>rfl
  | int i=>cases (show some (E.c (.int i))=some e' from h);exact cst qH fun _=>rfl
  | str x=>cases (show some (E.c (.str x))=some e' from h);exact cst oV fun _=>rfl
  | _=>(cases h;done)
 | Name x pos =>
  replace h:(if bF x then (if cY c.sc x then (cC c.nm x).map E.w else none) else none)=some e':=h;split at h
  .rename_i hp;split at h
   .rename_i hv;obtain ⟨i,hi,rfl⟩:=oms h;have e:evE G (.w i)=fun r=>(r[i]?).join:=by funext r;rw [evE]
    rw [e];exact PF gd hp hv hi
   .cases h
  .cases h
 | BinOp a op b pos =>
  obtain ⟨o,h0,h⟩:=obs h;obtain ⟨x,h1,h⟩:=obs h;obtain ⟨y,h2,h⟩:=obs h;cases h;have e:evE G (.bin o x y)=fun r=>(evE G x r).bind fun s=>(evE G y r).bind fun t=>bB o s t:=by funext r;rw [evE]
  rw [e];exact NM (OW h0) (S.v gd h1) (S.v gd h2)
 | UnaryOp op a pos =>
  cases op with
  | Not =>
   obtain ⟨x,h1,h⟩:=obs h;cases h;have e:evE G (.lnot x)=fun r=>(evE G x r).bind fun t=>match t with | .bl b=>some (.bl (!b)) | _=>none:=by funext r;rw [evE];try rfl
   rw [e];exact PH (S.v gd h1)
  | USub =>
   obtain ⟨x,h1,h⟩:=obs h;cases h;have e:evE G (.neg x)=fun r=>(evE G x r).bind fun t=>match t with | .int b=>some (.int (-b)) | _=>none:=by funext r;rw [evE];try rfl
   rw [e];exact PJ (S.v gd h1)
  | _=>(cases h;done)
 | BoolOp op vs pos =>
  cases vs with
  | nil=>cases op<;>(cases h;done)
  | cons a r =>
   cases r with
   | nil=>exact JG (S.v gd h)
   | cons b r =>
    cases op with
    | And =>
     obtain ⟨x,h1,h⟩:=obs h;obtain ⟨y,h2,h⟩:=obs h;cases h;have e:evE G (.land x y)=fun r=>(evE G x r).bind fun t=>match t with | .bl true=>evE G y r | .bl false=>some (.bl false) | _=>none:=by funext r;rw [evE];try rfl
     rw [e];exact PK (S.v gd h1) (S.v gd h2)
    | Or=>(cases h;done)
 | Compare a ops bs pos =>
  match ops,bs,h with
  | [op],[b],h =>
   obtain ⟨o,h0,h⟩:=obs h;obtain ⟨x,h1,h⟩:=obs h;obtain ⟨y,h2,h⟩:=obs h;cases h;obtain ⟨q1,q2⟩:=wC (X:=X) gd.hu h0;have e:evE G (.cmp o x y)=fun r=>(evE G x r).bind fun s=>(evE G y r).bind fun t=>bH o s t:=by funext r;rw [evE]
   rw [e];exact NN q1 (S.v gd h1) (S.v gd h2) q2
  | [op,op'],[b,d],h=>(cases h;done)
  | [],_,h=>(cases h;done)
  | [_],[],h=>(cases h;done)
  | [_],_::_::_,h=>(cases h;done)
  | [_,_],[],h=>(cases h;done)
  | [_,_],[_],h=>(cases h;done)
  | [_,_],_::_::_::_,h=>(cases h;done)
  | _::_::_::_,_,h=>(cases h;done)
 | Tuple es q pos =>
  obtain ⟨xs,h1,h⟩:=obs h;cases h;have e:evE G (.tup xs)=fun r=>if xs.length<=1000 then (aF G xs r).map .tup else none:=by funext r;rw [evE]
  rw [e];exact PU (S.l gd h1) fun r ts q=>sE q
 | List es pos =>
  obtain ⟨xs,h1,h⟩:=obs h;cases h;have e:evE G (.lst xs)=fun r=>if xs.length<=1000 then (aF G xs r).map .lst else none:=by funext r;rw [evE]
  rw [e];exact PV (S.l gd h1) fun r ts q=>sE q
 | Subscript a b pos =>
  have idx:pF b=false->((trV n c a).bind fun x=>(trV n c b).bind fun y=>some (E.idx x y))=some e'->Oke X c (.Subscript a b pos) (evE G e'):=fun hs h=>by
   obtain ⟨x,h1,h⟩:=obs h;obtain ⟨y,h2,h⟩:=obs h;cases h;have e:evE G (.idx x y)=fun r=>(evE G x r).bind fun s=>(evE G y r).bind fun t=>aO s t:=by funext r;rw [evE]
   rw [e];exact OY (by have:=gd.hu;lia) (S.v gd h1) (S.v gd h2) (UV hs)
  cases b with
  | Slice lo hi st p2 =>
   cases st with
   | some st =>replace h:(none:Option E)=some e':=h;cases h
   | none =>
    obtain ⟨x,h1,h⟩:=obs h;obtain ⟨l,h2,h⟩:=obs h;obtain ⟨u,h3,h⟩:=obs h;cases h;have e:evE G (.sli x l u)=fun r=>(evE G x r).bind fun s=>(evO G l r).bind fun l1=>(evO G u r).bind fun u1=>(asI l1).bind fun l2=>(asI u1).bind fun u2=>gN s l2 u2:=by funext r;rw [evE]
    rw [e];exact PC (S.v gd h1) (S.o gd h2) (S.o gd h3)
  | Tuple _ _ _=>cases h
  | Starred _ _=>cases h
  | _=>exact idx rfl h
 | Call f args kws pos =>
  cases f with
  | Name f p =>
   match args,kws,h with
   | [],kws,h=>(cases h;done)
   | [a],[],h =>
    replace h:(if glB c.sc f&&bF f then (match qV f with
  | some k=>(trV n c a).bind fun x=>some (.blt k x)
  | none=>if bnames.contains f then none else (trV n c a).bind fun x=>some (.call f [x])) else none)=some e':=h
    split at h
    .rename_i hg;rw [bS] at hg;split at h
     .rename_i kb hk;obtain ⟨x,h1,h⟩:=obs h;cases h;have e:evE G (.blt kb x)=fun r=>(evE G x r).bind fun t=>bO kb t:=by funext r;rw [evE]
      rw [e];exact TL gd hk hg.1 (S.v gd h1) (kD h1 X.env)
     .split at h
      .cases h
      .obtain ⟨x,h1,h⟩:=obs h;cases h;exact pO S gd hg.1 hg.2 (by show (trV n c a).bind _=_;rw [h1];rfl)
    .cases h
   | [a,b],[],h =>
    replace h:(if f==("isinstance":Str) then
   (match b with
   | .Name ty _=>if glB c.sc f&&glB c.sc ty then (pE ty).bind fun k=>(trV n c a).bind fun x=>some (.isi x k) else none
   | _=>none)
  else if glB c.sc f&&bF f&&!bnames.contains f then (cL (trV n c) [a,b]).bind fun xs=>some (.call f xs) else none)=some e':=h
    split at h
    .rename_i hf;have hf:=dO hf;subst hf;cases b with
     | Name ty p2 =>
      simp only at h;split at h
      .rename_i hg;rw [bS] at hg;obtain ⟨kt,hk,h⟩:=obs h;obtain ⟨x,h1,h⟩:=obs h;cases h;have e:evE G (.isi x kt)=fun r=>(evE G x r).bind fun t=>some (.bl (nF t kt)):=by funext r;rw [evE]
       rw [e];exact TN gd hk hg.1 hg.2 (S.v gd h1) (lG h1 _ X.env)
      .cases h
     | _=>cases h
    .split at h
     .rename_i hg;simp only [Bool.and_eq_true] at hg;obtain ⟨xs,h1,h⟩:=obs h;cases h;exact pO S gd hg.1.1 hg.1.2 h1
     .cases h
   | a::b::d::es,[],h =>
    replace h:(if glB c.sc f&&bF f&&!bnames.contains f then (cL (trV n c) (a::b::d::es)).bind fun xs=>some (.call f xs) else none)=some e':=h;split at h
    .rename_i hg;simp only [Bool.and_eq_true] at hg;obtain ⟨xs,h1,h⟩:=obs h;cases h;exact pO S gd hg.1.1 hg.1.2 h1
    .cases h
   | _::bs,_::_,h=>rcases bs with _ | ⟨_,_ | ⟨_,_⟩⟩<;>cases h
  | Attribute o m apos =>
   match args,kws,h with
   | [a],[],h =>
    replace h:(if apos.endLine==pos.line then (trV n c o).bind fun x=>(trV n c a).bind fun y=>(if m==("get":Str) then some (.dg1 x y) else (vI m).bind fun k=>some (.mth k x y)) else none)=some e':=h;split at h
    .rename_i hl;obtain ⟨x,h1,h⟩:=obs h;obtain ⟨y,h2,h⟩:=obs h;split at h
     .rename_i hm;cases h;have hm:=dO hm;subst hm;have e:evE G (.dg1 x y)=fun r=>(evE G x r).bind fun s=>(evE G y r).bind fun t=>qU s t:=by funext r;rw [evE]
      have hst:=kD h2 X.env;rw [e];exact TU (by have:=gd.hu;lia) (S.v gd h1) (S.v gd h2) ⟨ET h1 _ _ _,by rw [hst];rfl,hl,by rw [hst];rfl⟩
     .obtain ⟨km,hm,h⟩:=obs h;cases h;unfold vI at hm;split at hm
      .rename_i hj;have hj:=dO hj;subst hj;cases hm;have e:evE G (.mth .index x y)=fun r=>(evE G x r).bind fun s=>(evE G y r).bind fun t=>iK .index s t:=by funext r;rw [evE]
       rw [e];exact TQ (S.v gd h1) (S.v gd h2) (ET h1 _ _ _) (kD h2 X.env) hl
      .cases hm
    .cases h
   | [],_,h=>(cases h;done)
   | [_],_::_,h=>(cases h;done)
   | [a,b],[],h=>(cases h;done)
   | [_,_],_::_,h=>cases h
   | _::_::_::_,_,h=>cases h
  | _=>(cases h;done)
 | ListComp elt gens scope pos=>exact (EW S gd h).1
 | _=>(cases h;done)
end
theorem hJ (G:Glo) (k:Nat):∀ n,Snd G k n
 | 0=>⟨fun _ h=>(by cases h),fun _ h=>(by cases h),fun _ h=>(by cases h)⟩
 | n+1 =>
  have S:=hJ G k n
  ⟨fun gd h=>EX S gd h,fun gd h=>UW S gd h,fun gd h ht=>UX S gd h ht⟩
end
section
variable {K:W.Frag} {s:Sl} {o:HO} {a:Addr} {i:Nat}
def Sl.isOwn:Sl->Bool
 | .own _=>true
 | .dk _=>true
 | .dt _=>true
 | _=>false
def Own (K:W.Frag) (F:Hp):Sl->HO->Prop
 | .own ts,o=>∃ vs,o=.lst vs/\aD K F ts vs
 | .dk qb,o=>∃ ws:List (Key × V),o=.dK ws/\ws.map (·.1)=qb.map (·.1)/\aD K F (qb.map (·.2)) (ws.map (·.2))
 | .dt qb,o=>∃ ws:Kq,o=.dT ws/\ws.map (·.1)=qb.map (·.1)/\aD K F (qb.map (·.2)) (ws.map (·.2))
 | _,_=>False
theorem Own.mono {K:W.Frag} {F F':Hp} {s:Sl} {o:HO} (e:Same F F') (h:Own K F s o):Own K F' s o:=by
 cases s with
 | own ts=>obtain ⟨vs,h1,h2⟩:=h;exact ⟨vs,h1,h2.mono e⟩
 | dk qb=>obtain ⟨ws,h1,h2,h3⟩:=h;exact ⟨ws,h1,h2,h3.mono e⟩
 | dt qb=>obtain ⟨ws,h1,h2,h3⟩:=h;exact ⟨ws,h1,h2,h3.mono e⟩
 | _=>exact h
theorem Own.noTup {F:Hp} {xs:List V} (h:Own K F s o):o≠.tup xs:=by
 cases s with
 | own ts=>obtain ⟨vs,rfl,_⟩:=h;exact fun z=>nomatch z
 | dk qb=>obtain ⟨ws,rfl,_⟩:=h;exact fun z=>nomatch z
 | dt qb=>obtain ⟨ws,rfl,_⟩:=h;exact fun z=>nomatch z
 | _=>exact h.elim
theorem Own.noTbl {F:Hp} (h:Own K F s o):rB o=false:=by
 cases s with
 | own ts=>obtain ⟨vs,rfl,_⟩:=h;rfl
 | dk qb=>obtain ⟨ws,rfl,_⟩:=h;rfl
 | dt qb=>obtain ⟨ws,rfl,_⟩:=h;rfl
 | _=>exact h.elim
theorem Own.noFrz {F:Hp} (h:Own K F s o):∀ p u,o≠.frz p u:=by
 cases s with
 | own ts=>obtain ⟨vs,rfl,_⟩:=h;exact fun _ _ z=>nomatch z
 | dk qb=>obtain ⟨ws,rfl,_⟩:=h;exact fun _ _ z=>nomatch z
 | dt qb=>obtain ⟨ws,rfl,_⟩:=h;exact fun _ _ z=>nomatch z
 | _=>exact h.elim
theorem Own.frz {K:W.Frag} {F:Hp} {s:Sl} {o:HO} {a:Addr} (h:Own K F s o) (ha:F a=some o):∃ t,s.frz=.val t/\Rep K F t (.ref a):=by
 cases s with
 | own ts=>obtain ⟨vs,rfl,h2⟩:=h;exact ⟨_,rfl,a,vs,rfl,Ls.of ha,h2⟩
 | dk qb=>obtain ⟨ws,rfl,h2,h3⟩:=h;exact ⟨_,rfl,a,ws,rfl,ha,h2,h3⟩
 | dt qb=>obtain ⟨ws,rfl,h2,h3⟩:=h;exact ⟨_,rfl,a,ws,rfl,ha,h2,h3⟩
 | _=>exact h.elim
structure EnvS (X:Cx) (F0 H0:Hp) (τ:List Sl) (O:L2.St) (F H:Hp):Prop where
 st:Step F0 H0 F H
 t0:Tbk X.K F0 H0
 len:τ.length=O.length
 val:∀ (i:Nat) (t:T),τ[i]?=some (.val t)->∃ v,O[i]?=some (some v)/\Rep X.K F t v
 ownG:∀ (i:Nat) (s:Sl),τ[i]?=some s->s.isOwn=true->∃ a o,O[i]?=some (some (.ref a))/\H a=some o/\F a=none/\H0 a=none/\Own X.K F s o
 disG:∀ (i j:Nat) (s u:Sl) (a:Addr),i≠j->τ[i]?=some s->τ[j]?=some u->s.isOwn=true->u.isOwn=true->O[i]?=some (some (.ref a))->O[j]?≠some (some (.ref a))
section
variable {X:Cx} {c:Tc} {F0 H0:Hp} {τ:List Sl} {O:L2.St} {F H F' H':Hp}
theorem EnvS.own (e:EnvS X F0 H0 τ O F H) (i:Nat) (ts:List T) (h:τ[i]?=some (.own ts)):∃ a vs,O[i]?=some (some (.ref a))/\H a=some (.lst vs)/\F a=none/\H0 a=none/\aD X.K F ts vs:=by obtain ⟨a,o,h1,h2,h3,h4,vs,rfl,h5⟩:=e.ownG i _ h rfl;exact ⟨a,vs,h1,h2,h3,h4,h5⟩
theorem EnvS.env (e:EnvS X F0 H0 τ O F H) (hN:X.N=c.nm):EnvE X c (aC τ) F O H :=
 ⟨e.st.fh,e.t0.up e.st,fun x i t _ hi _ hr=>by
  unfold aC at hr;rw [iE] at hr;obtain ⟨s,hs,hg⟩:=oms hr;cases s with
  | val u =>cases hg;obtain ⟨v,h1,h2⟩:=e.val i t hs;exact ⟨i,v,by rw [hN];exact mJ hi,h1,h2⟩
  | _=>cases hg⟩
theorem Step.off {F H F' H':Hp} (s:Step F H F' H') (h3:F a=none) (h2:H a=some o) (ht:∀ xs,o≠.tup xs):F' a=none:=by
 cases q:F' a with
 | none=>rfl
 | some o' =>
  rcases s.nw a (by rw [q];simp) with z | z | ⟨xs,z⟩
  .exact absurd h3 z
  .rw [h2] at z;cases z
  .rw [h2] at z;exact absurd (cP z) (ht xs)
theorem EnvS.step (e:EnvS X F0 H0 τ O F H) (s:Step F H F' H'):EnvS X F0 H0 τ O F' H':=by
 refine ⟨e.st.trans s,e.t0,e.len,fun i t h=>let ⟨v,h1,h2⟩:=e.val i t h;⟨v,h1,h2.mono s.ff⟩,fun i sl h ho=>?_,e.disG⟩
 .obtain ⟨a,o,h1,h2,h3,h4,h5⟩:=e.ownG i sl h ho;exact ⟨a,o,h1,s.hh.st a _ h2 h5.noTbl,s.off h3 h2 fun xs=>h5.noTup,h4,h5.mono s.ff⟩
theorem EY (τ:List Sl) (i j:Nat):(τ.modify i Sl.frz)[j]?=if i=j then (τ[j]?).map Sl.frz else τ[j]?:=by
 rw [List.getElem?_modify];by_cases h:i=j
 .simp only [h,if_true];cases τ[j]?<;>rfl
 .simp only [h,if_false];cases τ[j]?<;>rfl
theorem EnvS.frz1 (e:EnvS X F0 H0 τ O F H) (i:Nat):∃ F',EnvS X F0 H0 (τ.modify i Sl.frz) O F' H/\Same F F':=by
 by_cases ho:∃ s,τ[i]?=some s/\s.isOwn=true
 .obtain ⟨sl,ho,hw⟩:=ho;obtain ⟨a,ob,h1,h2,h3,h4,h5⟩:=e.ownG i sl ho hw;have hs:Same F (aJ F a ob):=iM h3;obtain ⟨t0,ef,r0⟩:=(h5.mono hs).frz (a:=a) aY;have get:∀ (j:Nat) (s:Sl),(τ.modify i Sl.frz)[j]?=some s->(j=i/\s=.val t0)\/(j≠i/\τ[j]?=some s):=fun j s h=>by
   rw [EY] at h;by_cases hj:i=j
   .subst hj;rw [if_pos rfl,ho] at h;rw [<- ef];exact .inl ⟨rfl,(cP h).symm⟩
   .rw [if_neg hj] at h;exact .inr ⟨Ne.symm hj,h⟩
  refine ⟨aJ F a ob,⟨⟨e.st.hh,e.st.ff.trans hs,fun b o q=>?_,fun b z=>?_⟩,e.t0,by rw [List.length_modify];exact e.len,fun j t h=>?_,fun j u h hu=>?_,fun j l u w b hjl hj hl hu hw'=>?_⟩,hs⟩
  .by_cases hb:b=a
   .subst hb;rw [aY] at q;cases q;exact h2
   .rw [aN hb] at q;exact e.st.fh b o q
  .by_cases hb:b=a
   .subst hb;exact .inr (.inl h4)
   .rw [aN hb] at z;exact e.st.nw b z
  .rcases get j _ h with ⟨rfl,q⟩ | ⟨_,q⟩
   .cases q;exact ⟨.ref a,h1,r0⟩
   .obtain ⟨v,q1,q2⟩:=e.val j t q;exact ⟨v,q1,q2.mono hs⟩
  .rcases get j _ h with ⟨rfl,q⟩ | ⟨hj,q⟩
   .subst q;cases hu
   .obtain ⟨b,o,q1,q2,q3,q4,q5⟩:=e.ownG j u q hu;have hne:b≠a:=fun z=>by subst z;exact e.disG i j sl u b (Ne.symm hj) ho q hw hu h1 q1
    exact ⟨b,o,q1,q2,by rw [aN hne];exact q3,q4,q5.mono hs⟩
  .rcases get j _ hj with ⟨_,q⟩ | ⟨_,q⟩
   .subst q;cases hu
   .rcases get l _ hl with ⟨_,q'⟩ | ⟨_,q'⟩
    .subst q';cases hw'
    .exact e.disG j l u w b hjl q q' hu hw'
 .refine ⟨F,?_,Same.refl F⟩;have:τ.modify i Sl.frz=τ:=by
   apply List.ext_getElem?;intro j;rw [EY];by_cases hj:i=j
   .subst hj;rw [if_pos rfl];cases q:τ[i]? with
    | none=>rfl
    | some s =>
     cases s with
     | own ts=>exact absurd ⟨_,q,rfl⟩ ho
     | dk ts=>exact absurd ⟨_,q,rfl⟩ ho
     | dt ts=>exact absurd ⟨_,q,rfl⟩ ho
     | _=>rfl
   .rw [if_neg hj]
  rw [this];exact e
theorem EnvS.frz:∀ (is:List Nat) {τ:List Sl} {F:Hp},EnvS X F0 H0 τ O F H->∃ F',EnvS X F0 H0 (aQ is τ) O F' H/\Same F F'
 | [],_,F,e=>⟨F,e,Same.refl F⟩
 | i::is,τ,F,e=>by obtain ⟨F1,e1,s1⟩:=e.frz1 i;obtain ⟨F2,e2,s2⟩:=EnvS.frz is e1;exact ⟨F2,e2,s1.trans s2⟩
theorem gE {α:Type} {l:List α} {j:Nat} {x y:α} (h:(l.set i x)[j]?=some y):(j=i/\y=x)\/(j≠i/\l[j]?=some y):=by
 rw [List.getElem?_set] at h;split at h
 .rename_i hj;split at h
  .cases h;exact .inl ⟨hj.symm,rfl⟩
  .cases h
 .rename_i hj;exact .inr ⟨Ne.symm hj,h⟩
theorem EnvS.setV1 (e:EnvS X F0 H0 τ O F H) (i:Nat) {t:T} {v:V} (r:Rep X.K F t v):EnvS X F0 H0 (τ.set i (.val t)) (O.set i (some v)) F H:=by
 refine ⟨e.st,e.t0,by rw [fQ,fQ];exact e.len,fun j u h=>?_,fun j u h hu=>?_,fun j l u w b hjl hj hl hu hw=>?_⟩
 .rcases gE h with ⟨rfl,q⟩ | ⟨hj,q⟩
  .cases q;refine ⟨v,?_,r⟩;have hlt:j<(τ.set j (.val t)).length:=(ome h).1;rw [fQ,e.len] at hlt;rw [jC hlt]
  .obtain ⟨w,q1,q2⟩:=e.val j u q;exact ⟨w,by rw [gW (Ne.symm hj)];exact q1,q2⟩
 .rcases gE h with ⟨rfl,q⟩ | ⟨hj,q⟩
  .subst q;cases hu
  .obtain ⟨a,o,q1,q2⟩:=e.ownG j u q hu;exact ⟨a,o,by rw [gW (Ne.symm hj)];exact q1,q2⟩
 .rcases gE hj with ⟨_,q⟩ | ⟨hji,q⟩
  .subst q;cases hu
  .rcases gE hl with ⟨_,q'⟩ | ⟨hli,q'⟩
   .subst q';cases hw
   .rw [gW (Ne.symm hji),gW (Ne.symm hli)];exact e.disG j l u w b hjl q q' hu hw
theorem EnvS.setG (e:EnvS X F0 H0 τ O F H) (i:Nat) {p:Addr} (hp:H p=none) (r:Own X.K F s o):EnvS X F0 H0 (τ.set i s) (O.set i (some (.ref p))) F (aJ H p o):=by
 have hs:Same H (aJ H p o):=iM hp;have nop:∀ {j:Nat} {u:Sl} {a:Addr},τ[j]?=some u->u.isOwn=true->O[j]?=some (some (.ref a))->a≠p:=fun {j u a} q hu q1=>by obtain ⟨a',o',g1,g2,_⟩:=e.ownG j u q hu;rw [q1] at g1;cases g1;exact bQ g2 hp
 refine ⟨e.st.newH hp,e.t0,by rw [fQ,fQ];exact e.len,fun j u h=>?_,fun j u h hu=>?_,fun j l u w b hjl hj hl hu hw=>?_⟩
 .rcases gE h with ⟨_,q⟩ | ⟨hj,q⟩
  .subst q;exact r.elim
  .obtain ⟨w,q1,q2⟩:=e.val j u q;exact ⟨w,by rw [gW (Ne.symm hj)];exact q1,q2⟩
 .rcases gE h with ⟨rfl,q⟩ | ⟨hj,q⟩
  .subst q;have hlt:j<(τ.set j u).length:=(ome h).1;rw [fQ,e.len] at hlt;exact ⟨p,o,by rw [jC hlt],aY,e.st.fh.free hp,e.st.hh.free hp,r⟩
  .obtain ⟨a,o',q1,q2,q3⟩:=e.ownG j u q hu;exact ⟨a,o',by rw [gW (Ne.symm hj)];exact q1,hs a _ q2,q3⟩
 .intro hb hb';rcases gE hj with ⟨rfl,q⟩ | ⟨hji,q⟩
  .rcases gE hl with ⟨rfl,q'⟩ | ⟨hli,q'⟩
   .exact hjl rfl
   .rw [gW (Ne.symm hli)] at hb';have hlt:j<O.length:=by have:=(ome hj).1;rw [fQ,e.len] at this;exact this
    rw [jC hlt] at hb;cases hb;exact nop q' hw hb' rfl
  .rw [gW (Ne.symm hji)] at hb;rcases gE hl with ⟨rfl,q'⟩ | ⟨hli,q'⟩
   .have hlt:l<O.length:=by have:=(ome hl).1;rw [fQ,e.len] at this;exact this
    rw [jC hlt] at hb';cases hb';exact nop q hu hb rfl
   .rw [gW (Ne.symm hli)] at hb';exact e.disG j l u w b hjl q q' hu hw hb hb'
theorem EnvS.setO (e:EnvS X F0 H0 τ O F H) (i:Nat) {ts:List T} {p:Addr} {vs:List V} (hp:H p=none) (r:aD X.K F ts vs):EnvS X F0 H0 (τ.set i (.own ts)) (O.set i (some (.ref p))) F (aJ H p (.lst vs)):=e.setG i hp ⟨vs,rfl,r⟩
theorem EnvS.growG (e:EnvS X F0 H0 τ O F H) {s':Sl} (ho:τ[i]?=some s) (hs:s.isOwn=true) (ha:O[i]?=some (some (.ref a))) (h3:F a=none) (h4:H0 a=none) (r:Own X.K F s' o):EnvS X F0 H0 (τ.set i s') O F (aJ H a o):=by
 refine ⟨⟨(by obtain ⟨a2,o2,g1,g2,_,_,g5⟩:=e.ownG i s ho hs;rw [ha] at g1;cases g1;exact e.st.hh.aJ h4 g2 g5.noTbl g5.noFrz),e.st.ff,fun b u q=>by rw [aN (bQ q h3)];exact e.st.fh b u q,e.st.nw⟩,e.t0,by rw [fQ];exact e.len,fun j u h=>?_,fun j w h hw=>?_,fun j l w z b hjl hj hl hw hz=>?_⟩
 .rcases gE h with ⟨_,q⟩ | ⟨hj,q⟩
  .subst q;exact r.elim
  .exact e.val j u q
 .rcases gE h with ⟨rfl,q⟩ | ⟨hj,q⟩
  .subst q;exact ⟨a,o,ha,aY,h3,h4,r⟩
  .obtain ⟨b,z,q1,q2,q3,q4,q5⟩:=e.ownG j w q hw;have hne:b≠a:=fun z=>by subst z;exact e.disG i j s w b (Ne.symm hj) ho q hs hw ha q1
   exact ⟨b,z,q1,by rw [aN hne];exact q2,q3,q4,q5⟩
 .rcases gE hj with ⟨rfl,q⟩ | ⟨hji,q⟩
  .rcases gE hl with ⟨rfl,q'⟩ | ⟨hli,q'⟩
   .exact absurd rfl hjl
   .exact e.disG j l s z b hjl ho q' hs hz
  .rcases gE hl with ⟨rfl,q'⟩ | ⟨hli,q'⟩
   .exact e.disG j l w s b hjl q ho hw hs
   .exact e.disG j l w z b hjl q q' hw hz
theorem EnvS.grow (e:EnvS X F0 H0 τ O F H) {ts us:List T} {vs:List V} (ho:τ[i]?=some (.own ts)) (ha:O[i]?=some (some (.ref a))) (h3:F a=none) (h4:H0 a=none) (r:aD X.K F us vs):EnvS X F0 H0 (τ.set i (.own us)) O F (aJ H a (.lst vs)):=e.growG ho rfl ha h3 h4 ⟨vs,rfl,r⟩
theorem EnvS.setAll (hN:X.N=c.nm):∀ {is:List Nat} {us:List T} {vs:List V} {τ τ':List Sl} {O:L2.St},EnvS X F0 H0 τ O F H->aD X.K F us vs->setAll is us τ=some τ'->EnvS X F0 H0 τ' (mI is vs O) F H/\vs.length=is.length
 | [],[],_,τ,τ',O,e,r,h=>by cases r;cases h;exact ⟨e,rfl⟩
 | [],_::_,_,_,_,_,_,_,h=>by cases h
 | _::_,[],_,_,_,_,_,_,h=>by cases h
 | i::is,u::us,vs,τ,τ',O,e,r,h=>by obtain ⟨v,ws,rfl,r1,r2⟩:=r;obtain ⟨q1,q2⟩:=EnvS.setAll hN (is:=is) (e.setV1 i r1) r2 h;exact ⟨q1,by simp [q2]⟩
end
def eO (X:Cx) (F0 H0 F:Hp) (D:Ends):Out->Prop
 | .nx τ'=>∀ O' F' H',EnvS X F0 H0 τ' O' F' H'->Same F F'->D.nx O' H'
 | .rt t=>∀ v F' H',Step F0 H0 F' H'->Rep X.K F' t v->D.rt v H'
def spS (X:Cx) (F0 H0:Hp) (f:List Sl->Option Out):TS:=fun D O H=>∃ τ F o,EnvS X F0 H0 τ O F H/\f τ=some o/\eO X F0 H0 F D o
theorem eO.up {X:Cx} {F0 H0 F F':Hp} {D:Ends} {o:Out} (s:Same F F') (h:eO X F0 H0 F D o):eO X F0 H0 F' D o:=by
 cases o with
 | nx τ=>exact fun O' G' H' e s'=>h O' G' H' e (s.trans s')
 | rt t=>exact h
end
section
structure Fx (X:Cx) (c:Tc):Prop where
 hN:X.N=c.nm
 loc:∀ x,(c.sc.names.lookup x=some .local\/c.sc.names.lookup x=some .cell)->Loc X.env.scope x
 fn:∀ x,X.fn x=true
 xe:X.xe=fun _ _=>False
abbrev Tl (X:Cx) (c:Tc) (G:Glo):Prop:=∀ (n:Nat) (r:TellR) (xs:List E),(pH c r.ls&&(glB c.sc cE&&(glB r.ls r.g&&bF r.g)))=true->r.es≠[]->cL (trV n ⟨r.ls,c.nm⟩) r.es=some xs ->
 Oke X c r.call (fun ρ=>(aF G xs ρ).bind fun ts=>jM G r.g ts)
section
variable {X:Cx} {c:Tc} {G:Glo} {k n:Nat} {F0 H0:Hp}
theorem Fx.at (fx:Fx X c) {x:Str} {i:Nat} (hl:c.sc.names.lookup x=some .local\/c.sc.names.lookup x=some .cell) (hi:cC c.nm x=some i):At X x i:=⟨by rw [fx.hN];exact mJ hi,fx.loc x hl,.inl (fx.fn x)⟩
theorem Fx.ats (fx:Fx X c):∀ {xs:List Str} {is:List Nat},(xs.all fun x=>bF x&&(c.sc.names.lookup x==some .local||c.sc.names.lookup x==some .cell))=true->cL (cC c.nm) xs=some is->Ats X xs is
 | [],_,_,h=>by cases h;exact .nil
 | x::xs,is,hl,h=>by rw [List.all_cons,bS] at hl;obtain ⟨i,h1,h⟩:=obs h;obtain ⟨js,h2,h⟩:=obs h;cases h;have q:=hl.1;simp only [Bool.and_eq_true,Bool.or_eq_true,beq_iff_eq] at q;exact .cons (fx.at q.2 h1) (fx.ats hl.2 h2)
theorem xC {e:Expr} {e':E} (h:trV n c e=some e') (hl:∀ a b s p,e≠.ListComp a b s p) (t:Option Expr) (l:Nat) (env:PySem.Env):swapsWith e t l env=pure false:=by
 cases n with
 | zero=>cases h
 | succ n =>
  cases e with
  | ListComp a b s p=>exact absurd rfl (hl a b s p)
  | SetComp _ _ _ _=>cases h
  | DictComp _ _ _ _ _=>cases h
  | _=>rfl
theorem VA:MtM X "list.extend" (fun x vs H Q=>∃ l b xs zs,x=.ref l/\vs=[.ref b]/\H l=some (.lst xs)/\Ls X.K H b zs/\xs.length+zs.length<=sizeLine/\Q .non (aJ H l (.lst (xs++zs)))):=by
 intro pj s O H x vs v us Q I rx rv h;obtain ⟨l,b,xs,zs,rfl,rfl,hH,hB,hz,q⟩:=h;cases rx;obtain ⟨u,rfl,ru⟩:=rv.one;cases ru;obtain ⟨z,qc,n,r,hl,e⟩:=I.lstM hH;obtain ⟨z2,its2,n2,r2,e2⟩:=hB.ok I;have hl2:=r2.length;have hsz:qc.toArray.size+its2.toArray.size<=sizeLine:=by rw [cO,cO];lia
 have hlong:¬ (!qc.toArray.isEmpty&&Builtin.List.listTooLong (qc.toArray.size+its2.toArray.size))=true:=by rw [LY hsz,Bool.and_false];exact dH
 refine call_meets F.slot_list_extend ⟨_,e,rfl⟩ F.entry_list_extend (F.args_list_extend_2 _ _)
  (AutoSeq1.list_extend_list_list_0 l qc.toArray n b its2.toArray n2 hlong (by rw [cO];lia) (by lia)) ⟨e,e2,?_⟩
 refine ⟨.non,_,I.lset (its':=qc++its2) hH e (by simp) (r.append r2) ?_,rfl,q⟩;rw [eU];lia
theorem VB {a b:Expr} {pos:Pos} {f g:Env->Option T} (ha:Oke X c a f) (hb:Oke X c b g):PE X (.BinOp a .Add b pos) (spN X c (fun r=>(f r).bind fun x=>(g r).bind fun y=>cX x y)):=by
 refine fH (uX BN ha hb) fun O H Q q=>?_;obtain ⟨r,F,ts,e,ht,q⟩:=q;obtain ⟨t1,e1,ht⟩:=obs ht;obtain ⟨t2,e2,ht⟩:=obs ht;refine ⟨r,F,t1,e,e1,fun v1 F1 H1 s1 r1=>⟨r,F1,t2,e.step s1,e2,fun v2 F2 H2 s2 r2=>?_⟩⟩;have key:∃ us ws,t1=.lst us/\t2=.lst ws/\us.length+ws.length<=SZ/\ts=us++ws:=by
  cases t1 with
  | lst us =>
   cases t2 with
   | lst ws =>
    simp only [cX] at ht;split at ht
    .rename_i hz;cases ht;exact ⟨_,_,rfl,rfl,hz,rfl⟩
    .cases ht
   | _=>simp [cX] at ht
  | _=>cases t2<;>simp only [cX] at ht<;>(try split at ht)<;>cases ht
 obtain ⟨us,ws,rfl,rfl,hz,rfl⟩:=key;obtain ⟨l,vs,rfl,g1,g2⟩:=r1;obtain ⟨l',vs',rfl,g3,g4⟩:=r2;refine ⟨l,l',vs,vs',rfl,rfl,Ls.same (s2.ff.trans s2.fh) g1,Ls.same s2.fh g3,by rw [g2.length,g4.length,<- kZ];exact hz,fun p hp=>?_⟩;exact q p _ F2 H2 (s1.trans s2) hp ((g2.mono s2.ff).app g4)
theorem sG {y:E} {t:T} (h:fresh y=false\/∀ ts,t≠.lst ts):dM y t=.val t:=by
 unfold dM;rcases h with h | h
 .rw [h]
 .cases fresh y with
  | false=>rfl
  | true=>cases t with
   | lst ts=>exact absurd rfl (h ts)
   | _=>rfl
theorem VC {y:E} {ts:List T} (h:fresh y=true):dM y (.lst ts)=.own ts:=by unfold dM;rw [h]
theorem VD (gd:Gd X c G k) (fx:Fx X c) {x:Str} {e:Expr} {y:E} {py pos:Pos} {i:Nat} (hl:c.sc.names.lookup x=some .local\/c.sc.names.lookup x=some .cell) (hi:cC c.nm x=some i) (h:trV (n+1) c e=some y) (hfl:fresh y=true->qW e=true) :
  PS X (.Assign [.Name x py] e pos) (spS X F0 H0 (evS G (.asg i y))):=by
 have S:=hJ G k n;have at_:=fx.at hl hi;intro pj s O H D I q;obtain ⟨τ,F,o,en,hf,hw⟩:=q;rw [evS] at hf;obtain ⟨F1,e1,s1⟩:=en.frz (aM y);obtain ⟨t,ht,hf⟩:=obs hf;cases hf;have val:dM y t=.val t->xB X c i (evE G y) D O H:=fun hs=>⟨_,F1,t,e1.env fx.hN,ht,fun v F' H' st r=>hw _ F' H' (by rw [hs];exact (e1.step st).setV1 i r) (s1.trans st.ff)⟩;have valN:dM y t=.val t->(∀ a b s p,e≠.ListComp a b s p)->wpAny (model X.prog X.w) X.A (exec (.Assign [.Name x py] e pos) X.env) (SP X pj D) X.xe s:=fun hs hne =>
  mZ gd.nd at_.ix at_.loc (EX S gd h) (xC h hne _ _ _) at_.fn pj s O H D I (by obtain ⟨r,F2,t2,a1,a2,a3⟩:=val hs;exact ⟨r,F2,t2,a1,a2,a3⟩)
 have own:∀ {ts:List T},t=.lst ts->fresh y=true->(∀ a b s p,e≠.ListComp a b s p)->PE X e (spN X c (evE G y))->wpAny (model X.prog X.w) X.A (exec (.Assign [.Name x py] e pos) X.env) (SP X pj D) X.xe s:=fun {ts} et hfr hne hp=>by subst et;refine mZ gd.nd at_.ix at_.loc hp (xC h hne _ _ _) at_.fn pj s O H D I ⟨_,F1,ts,e1.env fx.hN,ht,fun p vs F' H1 st hp r=>hw _ F' _ ?_ (s1.trans st.ff)⟩;rw [VC hfr];exact (e1.step st).setO i hp r
 cases e with
 | ListComp a b sc p =>
  have hy:fresh y=false:=by
   obtain ⟨tg,iter,ifs,rfl,xs,ki,h0,h1,hcs,hr⟩:=EV h
   match ifs,hr with
   | [],hr =>obtain ⟨z,h2,hr⟩:=obs hr;cases hr;rfl
   | [t],hr =>obtain ⟨z,h2,hr⟩:=obs hr;obtain ⟨w,h3,hr⟩:=obs hr;cases hr;rfl
   | _::_::_,hr=>cases hr
  exact (EW S gd h).2 at_ pj s O H D I (val (sG (.inl hy)))
 | List es p =>
  have h':=h;obtain ⟨zs,h1,h'⟩:=obs h';cases h';have ee:evE G (.lst zs)=fun r=>if zs.length<=1000 then (aF G zs r).map .lst else none:=by funext r;rw [evE]
  have hlst:∃ ts,t=.lst ts:=by
   rw [ee] at ht;dsimp only at ht;split at ht
   .obtain ⟨ts,_,rfl⟩:=oms ht;exact ⟨ts,rfl⟩
   .cases ht
  obtain ⟨ts,rfl⟩:=hlst;exact own rfl rfl (fun _ _ _ _ z=>by cases z) (by rw [ee];exact CK (S.l gd h1) fun r ts q=>sE q)
 | BinOp a op b p =>
  have h':=h;obtain ⟨o,h0,h'⟩:=obs h';obtain ⟨x1,h1,h'⟩:=obs h';obtain ⟨y1,h2,h'⟩:=obs h';cases h';by_cases hadd:op=.Add
  .subst hadd;cases h0;by_cases hlst:∃ ts,t=.lst ts
   .obtain ⟨ts,rfl⟩:=hlst;have ee:evE G (.bin .add x1 y1)=fun r=>(evE G x1 r).bind fun s=>(evE G y1 r).bind fun t=>cX s t:=by funext r;rw [evE];try rfl
    exact own rfl rfl (fun _ _ _ _ z=>by cases z) (by rw [ee];exact VB (S.v gd h1) (S.v gd h2))
   .exact valN (sG (.inr fun ts z=>hlst ⟨ts,z⟩)) (fun _ _ _ _ z=>by cases z)
  .refine valN (sG (.inl ?_)) (fun _ _ _ _ z=>by cases z);cases op<;>first | exact absurd rfl hadd | (cases h0;done) | (cases h0;rfl)
 | _ =>
  refine valN (sG (.inl ?_)) (fun _ _ _ _ z=>by cases z);cases hfr:fresh y with
  | false=>rfl
  | true=>cases hfl hfr
end
end
section
variable {x:Str} {a:Expr} {y:E} {cpos pos:Pos} {xs:List Str} {is:List Nat}
section
variable {X:Cx} {c:Tc} {G:Glo} {k n:Nat} {F0 H0:Hp}
theorem nV (h:bF x=true):(x==("__debug__":Str))=false/\(x==("__classdict__":Str))=false:=by unfold bF at h;simp only [Bool.and_eq_true,Bool.not_eq_true'] at h;exact ⟨h.1.1.1,h.1.1.2⟩
theorem VE (gd:Gd X c G k) (fx:Fx X c) {px apos:Pos} {i:Nat} (hv:cY c.sc x=true) (hp:bF x=true) (hi:cC c.nm x=some i) (h:trV n c a=some y) (hl:(apos.endLine==cpos.line)=true) :
  PS X (.Expr (.Call (.Attribute (.Name x px) "append" apos) [a] [] cpos) pos) (spS X F0 H0 (evS G (.app i y))):=by
 have S:=hJ G k n;have hN:X.N[i]?=some x:=by rw [fx.hN];exact mJ hi
 have hs:=kD h X.env;refine iN (lT (nA F.plainAttrs_list F.slot_list_append F.type_list_append vD (kQ hN (gd.vis x hv) (nV hp).1 (nV hp).2) (lF (S.v gd h) hs) rfl (by rw [hs];rfl) hl hs rfl) rfl) fun D O H q=>?_;obtain ⟨τ,F,o,en,hf,hw⟩:=q;rw [evS] at hf;obtain ⟨F1,e1,s1⟩:=en.frz (aM y);obtain ⟨t,ht,hf⟩:=obs hf;split at hf
 .rename_i ts ho;split at hf
  .rename_i hz;cases hf;obtain ⟨b,vs,q1,q2,q3,q4,q5⟩:=e1.own i ts ho;refine ⟨.ref b,q1,.inl ⟨rfl,_,SqL.of q2⟩,_,F1,[t],e1.env fx.hN,fZ.mpr ⟨t,ht,rfl⟩,fun ws F' H' st r=>?_⟩;obtain ⟨v,r',rfl,r1,r2⟩:=r;cases r2;have e2:=e1.step st;obtain ⟨b',vs',p1,p2,p3,p4,p5⟩:=e2.own i ts ho;rw [q1] at p1;cases p1;refine ⟨b,vs',v,rfl,rfl,p2,by rw [p5.length,<- kZ];exact hz,?_⟩;exact hw O F' _ (e2.grow ho q1 p3 p4 (p5.app (.cons r1 rfl))) (s1.trans st.ff)
  .cases hf
 .cases hf
theorem VF (gd:Gd X c G k) (fx:Fx X c) {px apos:Pos} {i:Nat} (hv:cY c.sc x=true) (hp:bF x=true) (hi:cC c.nm x=some i) (h:trV n c a=some y) (hl:(apos.endLine==cpos.line)=true) :
  PS X (.Expr (.Call (.Attribute (.Name x px) "extend" apos) [a] [] cpos) pos) (spS X F0 H0 (evS G (.ext i y))):=by
 have S:=hJ G k n;have hN:X.N[i]?=some x:=by rw [fx.hN];exact mJ hi
 have hs:=kD h X.env;refine iN (lT (nA F.plainAttrs_list F.slot_list_extend F.type_list_extend VA (kQ hN (gd.vis x hv) (nV hp).1 (nV hp).2) (lF (S.v gd h) hs) rfl (by rw [hs];rfl) hl hs rfl) rfl) fun D O H q=>?_;obtain ⟨τ,F,o,en,hf,hw⟩:=q;rw [evS] at hf;obtain ⟨F1,e1,s1⟩:=en.frz (aM y);obtain ⟨t,ht,hf⟩:=obs hf;split at hf
 .rename_i us ts ho;split at hf
  .rename_i hz;cases hf;obtain ⟨b,vs,q1,q2,q3,q4,q5⟩:=e1.own i ts ho;refine ⟨.ref b,q1,.inl ⟨rfl,_,SqL.of q2⟩,_,F1,[.lst us],e1.env fx.hN,fZ.mpr ⟨_,ht,rfl⟩,fun ws F' H' st r=>?_⟩;obtain ⟨v,r',rfl,r1,r2⟩:=r;cases r2;obtain ⟨l,zs,rfl,g1,g2⟩:=r1;have e2:=e1.step st;obtain ⟨b',vs',p1,p2,p3,p4,p5⟩:=e2.own i ts ho;rw [q1] at p1;cases p1;refine ⟨b,l,vs',zs,rfl,rfl,p2,Ls.same st.fh g1,by rw [p5.length,g2.length,<- kZ];exact hz,?_⟩;exact hw O F' _ (e2.grow ho q1 p3 p4 (p5.app g2)) (s1.trans st.ff)
  .cases hf
 .cases hf
theorem VG {a b:Option Expr}:PS X (.Raise a b pos) (spS X F0 H0 (evS G .fail)):=fun pj s O H D I q=>by obtain ⟨τ,F,o,en,hf,hw⟩:=q;rw [evS] at hf;cases hf
theorem VH (gd:Gd X c G k) (fx:Fx X c) {f:Str} {p:Pos} {es:List Expr} {ks:List Keyword} (h:trV n c (.Call (.Name f p) es ks cpos)=some y):PS X (.Expr (.Call (.Name f p) es ks cpos) pos) (spS X F0 H0 (evS G (.exp y))):=by have S:=hJ G k n;refine iN (lT (S.v gd h) rfl) fun D O H q=>?_;obtain ⟨τ,F,o,en,hf,hw⟩:=q;rw [evS] at hf;obtain ⟨F1,e1,s1⟩:=en.frz (aM y);obtain ⟨t,ht,hf⟩:=obs hf;cases hf;exact ⟨_,F1,t,e1.env fx.hN,ht,fun v F' H' st r=>hw O F' H' (e1.step st) (s1.trans st.ff)⟩
theorem VI (gd:Gd X c G k) (fx:Fx X c) (h:trV n c a=some y):PS X (.Return (some a) pos) (spS X F0 H0 (evS G (.ret y))):=by have S:=hJ G k n;refine iN (zP (S.v gd h)) fun D O H q=>?_;obtain ⟨τ,F,o,en,hf,hw⟩:=q;rw [evS] at hf;obtain ⟨F1,e1,s1⟩:=en.frz (aM y);obtain ⟨t,ht,rfl⟩:=oms hf;exact ⟨_,F1,t,e1.env fx.hN,ht,fun v F' H' st r=>hw v F' H' (e1.st.trans st) r⟩
theorem VJ (gd:Gd X c G k) (fx:Fx X c) {t:Expr} {a b:List Stmt} {z:E} {x y:List S} (h:trT n c t=some z) (ha:PSs X a (spS X F0 H0 (aG G x))) (hb:PSs X b (spS X F0 H0 (aG G y))):PS X (.If t a b pos) (spS X F0 H0 (evS G (.ite z x y))):=by
 have S:=hJ G k n;refine iN (uV (S.t gd h).1 ha hb) fun D O H q=>?_;obtain ⟨τ,F,o,en,hf,hw⟩:=q;rw [evS] at hf;obtain ⟨F1,e1,s1⟩:=en.frz (aM z);obtain ⟨t,ht,hf⟩:=obs hf;cases t with
 | bl d =>
  refine ⟨_,F1,d,e1.env fx.hN,ht,fun F' H' st=>?_⟩;cases d with
  | true=>exact ⟨_,F',o,e1.step st,hf,hw.up (s1.trans st.ff)⟩
  | false=>exact ⟨_,F',o,e1.step st,hf,hw.up (s1.trans st.ff)⟩
 | _=>cases hf
theorem VL (gd:Gd X c G k) (fx:Fx X c) (tl:Tl X c G) {r:TellR} {a:List Stmt} {xs:List E} {e:E} {x:List S} (hk:(pH c r.ls&&(glB c.sc cE&&(glB r.ls r.g&&bF r.g)))=true) (hne:r.es≠[]) (h1:cL (trV n ⟨r.ls,c.nm⟩) r.es=some xs) (h2:trV n c r.e=some e) (ha:PSs X a (spS X F0 H0 (aG G x))) :
  PS X (.If r.test a [] pos) (spS X F0 H0 (evS G (.tif r.g xs e x))):=by
 have S:=hJ G k n;obtain ⟨q1,q2⟩:=wC (X:=X) gd.hu (show lX .NotEq r.e=some .ne from rfl);refine iN (uV (BM (pos:=r.p6) q1 (tl n r xs hk hne h1) (S.v gd h2) q2) ha uU) fun D O H q=>?_;obtain ⟨τ,F,o,en,hf,hw⟩:=q;rw [evS] at hf;obtain ⟨F1,e1,s1⟩:=en.frz (bA xs++aM e);obtain ⟨ts,g1,hf⟩:=obs hf;obtain ⟨t,g2,hf⟩:=obs hf;obtain ⟨u,g3,hf⟩:=obs hf;obtain ⟨b,g4,hf⟩:=obs hf;cases b with
 | bl d =>
  refine ⟨_,F1,d,e1.env fx.hN,?_,fun F' H' st=>?_⟩
  .show (((aF G xs (aC (aQ (bA xs++aM e) τ))).bind fun ts=>jM G r.g ts).bind fun x=>(evE G e (aC (aQ (bA xs++aM e) τ))).bind fun y=>bH .ne x y)=some (.bl d);rw [g1,bK,g2,bK,g3,bK];exact g4
  .cases d with
   | true=>exact ⟨_,F',o,e1.step st,hf,hw.up (s1.trans st.ff)⟩
   | false =>cases (show some (Out.nx (aQ (bA xs++aM e) τ))=some o from hf);exact hw O F' H' (e1.step st) (s1.trans st.ff)
 | _=>cases hf
theorem VM (fx:Fx X c) {tg:Expr} {b:List S} (h1:iU tg=some xs) (h2n:dU tg=true->2<=xs.length) (hat:Ats X xs is) {J:It} {qc:List T} {τ2:List Sl} {O:L2.St} {F2 H2:Hp} {D:Ends} {o:Out}
  (e2:EnvS X F0 H0 τ2 O F2 H2) (wk:Walk X.K J qc F2) (hf:cB (fun x τ=>(bI is x τ).bind fun τ'=>aG G b τ') qc τ2=some o) (hw:eO X F0 H0 F2 D o) :
  ∃ W:Nat->Nat->L2.St->Hp->Prop,(∃ m,W 0 m O H2)/\∀ i m O H,W i m O H ->
 (J.stop i H/\D.nx O H)\/(J.go i H/\∃ N:L2.St->Hp->Prop,(∀ O' H',N O' H'->∃ m',m'<m/\W (i+1) m' O' H')/\∀ x H',J.yld i H x H'->gT X.K (!dU tg) is x O H' fun O2 H2=>spS X F0 H0 (aG G b) { D with nx:=N,ct:=N,bk:=D.nx } O2 H2):=by
 refine ⟨fun i m O' H'=>i<=qc.length/\m=qc.length-i/\∃ τ' F',EnvS X F0 H0 τ' O' F' H'/\Same F2 F'/\cB (fun x τ=>(bI is x τ).bind fun τ'=>aG G b τ') (qc.drop i) τ'=some o,⟨qc.length,iH _,rfl,_,F2,e2,Same.refl F2,hf⟩,?_⟩;rintro i m O' H' ⟨hle,rfl,τ',F',e',s',hlo⟩;have sm:Same F2 H':=s'.trans e'.st.fh;have wup:eO X F0 H0 F' D o:=hw.up s';by_cases hlt:i<qc.length
 .refine .inr ⟨wk.go i H' hlt sm,?_⟩;rw [List.drop_eq_getElem_cons hlt,cB] at hlo;obtain ⟨o1,ho1,hlo⟩:=obs hlo;obtain ⟨τ1,hb1,ho1⟩:=obs ho1;refine ⟨fun O'' H''=>∃ τ'' F'',EnvS X F0 H0 τ'' O'' F'' H''/\Same F2 F''/\cB (fun x τ=>(bI is x τ).bind fun τ'=>aG G b τ') (qc.drop (i+1)) τ''=some o,fun O'' H'' hN=>⟨qc.length-(i+1),by lia,hlt,rfl,hN⟩,fun x H5 hy=>?_⟩;obtain ⟨F5,st5,r5⟩:=wk.yld i H' x H5 F' qc[i] (by simp [hlt]) s' e'.st.fh hy;have e5:=e'.step st5;have fin:∀ O6,EnvS X F0 H0 τ1 O6 F5 H5->spS X F0 H0 (aG G b) { D with nx:=fun O'' H''=>∃ τ'' F'',EnvS X F0 H0 τ'' O'' F'' H''/\Same F2 F''/\cB (fun x τ=>(bI is x τ).bind fun τ'=>aG G b τ') (qc.drop (i+1)) τ''=some o,ct:=fun O'' H''=>∃ τ'' F'',EnvS X F0 H0 τ'' O'' F'' H''/\Same F2 F''/\cB (fun x τ=>(bI is x τ).bind fun τ'=>aG G b τ') (qc.drop (i+1)) τ''=some o,bk:=D.nx } O6 H5:=fun O6 e6=>by
   refine ⟨τ1,F5,o1,e6,ho1,?_⟩;cases o1 with
   | nx τ2=>exact fun O7 F7 H7 e7 s7=>⟨τ2,F7,e7,s'.trans (st5.ff.trans s7),hlo⟩
   | rt t =>cases hlo;exact wup
  have hlen:=wZ hat;cases htup:dU tg with
  | false =>
   have one:∃ i0,is=[i0]:=by
    cases tg with
    | Name y p =>
     cases h1
     exact List.length_eq_one_iff.mp hlen.symm
    | Tuple _ _ _=>cases htup
    | _=>cases h1
   obtain ⟨i0,rfl⟩:=one;cases hb1;exact fin _ (e5.setV1 i0 r5)
  | true =>
   have h2n:=h2n htup;have hb2:∃ ts,qc[i]=.tup ts/\setAll is ts τ'=some τ1:=by
    match is,hlen,hb1 with
    | [],hl,_=>rw [hl] at h2n;simp at h2n
    | [_],hl,_=>rw [hl] at h2n;simp at h2n
    | i0::i1::ir,_,hb1 =>
     cases hq:qc[i] with
     | tup ts=>rw [hq] at hb1;exact ⟨ts,rfl,hb1⟩
     | _=>rw [hq] at hb1;cases hb1
   obtain ⟨ts,et,hb2⟩:=hb2;rw [et] at r5;obtain ⟨a,vs,rfl,q1,q2⟩:=r5;obtain ⟨e6,hl6⟩:=e5.setAll fx.hN q2 hb2;exact ⟨a,vs,rfl,dC st5.fh q1,hl6,fin _ e6⟩
 .have e:i=qc.length:=by lia
  subst e;rw [List.drop_length,cB] at hlo;cases hlo;exact .inl ⟨wk.stop H' sm,wup O' F' H' e' (Same.refl F')⟩
theorem VN (gd:Gd X c G k) (fx:Fx X c) {tg iter:Expr} {body:List Stmt} {ki:Ik × List E} {b:List S} (h1:iU tg=some xs) (h2:cL (cC c.nm) xs=some is) (h3:trI n c iter=some ki)
  (ht:ki.1.pair=true->dU tg=true) (h2n:dU tg=true->2<=xs.length) (hat:Ats X xs is) (hb:PSs X body (spS X F0 H0 (aG G b))):PS X (.For tg iter body [] pos) (spS X F0 H0 (evS G (.loop is ki.1 ki.2 b))):=by
 have S:=hJ G k n;refine iN (JV (by rw [fx.xe];exact PassesOwn.never) gd.calm (S.i gd h3 ht) (EI gd.nd gd.calm h1 hat) hb (EU h3 X.env)) fun D O H q=>?_;obtain ⟨τ,F,o,en,hf,hw⟩:=q;rw [evS] at hf;obtain ⟨F1,e1,s1⟩:=en.frz (bA ki.2);obtain ⟨us,hu,hf⟩:=obs hf;obtain ⟨qc,hi,hf⟩:=obs hf;refine ⟨_,F1,qc,e1.env fx.hN,fZ.mpr ⟨us,hu,hi⟩,fun J F2 H2 st wk=>?_⟩;have e2:=e1.step st;exact VM fx h1 h2n hat e2 wk hf (hw.up (s1.trans st.ff))
end
end
section
variable {i:Nat} {x:Str} {pos:Pos}
theorem VO {τ:List Sl} {s s':Sl} (h:τ[i]?=some s) (e:s.get=s'.get):aC (τ.set i s')=aC τ:=by
 unfold aC;rw [List.map_set];apply List.ext_getElem?;intro j;rw [List.getElem?_set];by_cases hj:i=j
 .subst hj;rw [if_pos rfl,bE];have hlt:=(ome h).1;rw [if_pos hlt,iE,h,<- e];rfl
 .rw [if_neg hj]
section
variable {X:Cx} {c:Tc} {G:Glo} {k n:Nat} {F0 H0:Hp}
theorem VP (gd:Gd X c G k) (fx:Fx X c) {py dp:Pos} (hl:c.sc.names.lookup x=some .local\/c.sc.names.lookup x=some .cell) (hi:cC c.nm x=some i) :
  PS X (.Assign [.Name x py] (.Dict [] [] dp) pos) (spS X F0 H0 (evS G (.dnew i))):=by
 have at_:=fx.at hl hi;intro pj s O H D I q;obtain ⟨τ,F,o,en,hf,hw⟩:=q;rw [evS] at hf;cases hf;exact mZ gd.nd at_.ix at_.loc OD rfl at_.fn pj s O H D I fun p hp=>hw _ F _ (en.setG i hp ⟨[],rfl,rfl,rfl⟩) (Same.refl F)
theorem VQ {ke ve:Expr} {px tp:Pos} {fk:Env->Option T} (gd:Gd X c G k) (fx:Fx X c) (hv:cY c.sc x=true) (hp:bF x=true) (hi:cC c.nm x=some i) (hk:Oke X c ke fk) {tv:TE} (hve:PE X ve tv) (hs:swapsWith ve (some (.Subscript (.Name x px) ke tp)) pos.line X.env=pure false)
  {pj:Pq} {s:Shared} {O:L2.St} {H:Hp} {D:Ends} (I:L2.Inv X pj O H s) {τ:List Sl} {F:Hp} (e1:EnvS X F0 H0 τ O F H) {kt y:T} {s':Sl} (ht:fk (aC τ)=some kt) (hput:kX τ[i]? kt y=some s')
  (hval:∀ (τ':List Sl) (H':Hp) (Q:VK),EnvS X F0 H0 τ' O F H'->aC τ'=aC τ->(τ'[i]?=τ[i]?\/∃ q,tkO kt=some q/\τ[i]?=some (.dk [])/\τ'[i]?=some (.dt []))->(∀ v F2 H2,Step F H' F2 H2->Rep X.K F2 y v->Q v H2)->tv O H' Q)
  (hw:∀ O' F' H',EnvS X F0 H0 (τ.set i s') O' F' H'->Same F F'->D.nx O' H'):wpAny (model X.prog X.w) X.A (exec (.Assign [.Subscript (.Name x px) ke tp] ve pos) X.env) (SP X pj D) X.xe s:=by
 have hu:X.A.units+1<cLine:=by have:=gd.hu;lia
 have hN:X.N[i]?=some x:=by rw [fx.hN];exact mJ hi
 have P:=OA (pos:=pos) hu (kQ (pos:=px) hN (gd.vis x hv) (nV hp).1 (nV hp).2) hk hve hs;have dtc:∀ (τ1:List Sl) (H1:Hp) (qb:List (List Kt × T)) (q:List Kt),L2.Inv X pj O H1 s->EnvS X F0 H0 τ1 O F H1->aC τ1=aC τ->τ1[i]?=some (.dt qb)->(τ1[i]?=τ[i]?\/∃ q,tkO kt=some q/\τ[i]?=some (.dk [])/\τ1[i]?=some (.dt []))->tkO kt=some q->qb.length<SZ->τ1.set i (.dt (dQ qb q y))=τ.set i s' ->
   wpAny (model X.prog X.w) X.A (exec (.Assign [.Subscript (.Name x px) ke tp] ve pos) X.env) (SP X pj D) X.xe s:=fun τ1 H1 qb q I1 e2 hvw ho hor hq hz hset=>by
  refine P pj s O H1 D I1 (hval τ1 H1 _ e2 hvw hor fun v F2 H2 st2 rv=>?_);have e3:=e2.step st2;obtain ⟨b,ob,q1,q2,q3,q4,q5⟩:=e3.ownG i _ ho rfl;refine ⟨.ref b,q1,_,F2,kt,e3.env fx.hN,by rw [hvw];exact ht,fun u F3 H3 st3 rk=>?_⟩;have e4:=e3.step st3;obtain ⟨b',ob',p1,p2,p3,p4,ws,rfl,w1,w2⟩:=e4.ownG i _ ho rfl;rw [q1] at p1;cases p1;cases kt with
  | tup xs =>
   obtain ⟨kb,vs,rfl,g1,g2⟩:=rk;have ek:=nP g2 hq;subst ek;have rel:=bL.of w1 w2;have hl:ws.length=qb.length:=by have:=congrArg List.length w1;simpa using this
   refine ⟨b,_,rfl,fP.t p2 (st3.fh _ _ g1) (by rw [hl,<- kZ];exact hz),?_⟩;have rel2:=rel.put q (rv.mono st3.ff);have:=e4.growG (s':=.dt (dQ qb q y)) (o:=.dT (fK ws q v)) ho rfl q1 p3 p4 ⟨_,rfl,rel2.keys,rel2.vals⟩;rw [hset] at this;exact hw _ _ _ this (st2.ff.trans st3.ff)
  | _=>cases hq
 cases hsl:τ[i]? with
 | none=>rw [hsl] at hput;cases hput
 | some sl =>
  rw [hsl] at hput;cases sl with
  | dk qb =>
   cases hkk:nE kt with
   | some q =>
    simp only [kX,hkk] at hput;split at hput
    .rename_i hz;cases hput;refine P pj s O H D I (hval τ H _ e1 rfl (.inl rfl) fun v F2 H2 st2 rv=>?_);have e3:=e1.step st2;obtain ⟨b,ob,q1,q2,q3,q4,q5⟩:=e3.ownG i _ hsl rfl;refine ⟨.ref b,q1,_,F2,kt,e3.env fx.hN,ht,fun u F3 H3 st3 rk=>?_⟩;have e4:=e3.step st3;obtain ⟨b',ob',p1,p2,p3,p4,ws,rfl,w1,w2⟩:=e4.ownG i _ hsl rfl;rw [q1] at p1;cases p1;have ek:=BZ rk hkk;subst ek;have rel:=bL.of w1 w2;have hl:ws.length=qb.length:=by have:=congrArg List.length w1;simpa using this
     refine ⟨b,_,rfl,fP.k p2 (by rw [hl,<- kZ];exact hz),?_⟩;have rel2:=rel.put q (rv.mono st3.ff);exact hw _ _ _ (e4.growG (s':=.dk (dQ qb q y)) (o:=.dK (fK ws q v)) hsl rfl q1 p3 p4 ⟨_,rfl,rel2.keys,rel2.vals⟩) (st2.ff.trans st3.ff)
    .cases hput
   | none =>
    cases qb with
    | cons _ _=>simp only [kX,hkk] at hput;cases hput
    | nil =>
     simp only [kX,hkk] at hput;obtain ⟨q,hq,rfl⟩:=oms hput;obtain ⟨b,ob,q1,q2,q3,q4,ws,rfl,w1,w2⟩:=e1.ownG i _ hsl rfl;have hws:ws=[]:=by cases ws with | nil=>rfl | cons _ _=>simp at w1
     subst hws;have I1:L2.Inv X pj O (aJ H b (.dT [])) s:=by
      obtain ⟨z,hd,vs,rel,ob,es,ep,h1,h2,h3,_,h4,_⟩:=rC I.hok q2;cases rel;refine vY (t':=s.toks) (h':=s.heap) I (by rw [q2];exact True.intro) (Heap.SameBut.refl _ _) ⟨ob,h1⟩ ⟨iH _,hd,[],.nil,ob,es,ep,h1,h2,h3,?_,qF⟩;have:=h4.length;cases hes:es.toList with
      | nil=>rfl
      | cons _ _=>rw [hes] at this;simp at this
     have e2:=e1.growG (s':=.dt []) (o:=.dT []) hsl rfl q1 q3 q4 ⟨[],rfl,rfl,rfl⟩;have hlt:=(ome hsl).1;have hg:(τ.set i (.dt []))[i]?=some (Sl.dt []):=by rw [jC hlt]
     exact dtc _ _ [] q I1 e2 (VO hsl rfl) hg (.inr ⟨q,hq,hsl,hg⟩) hq (by decide) (by rw [List.set_set];rfl)
  | dt qb =>
   simp only [kX] at hput;obtain ⟨q,hq,hput⟩:=obs hput;split at hput
   .rename_i hz;cases hput;exact dtc τ H qb q I e1 rfl hsl (.inl rfl) hq hz rfl
   .cases hput
  | _=>cases hput
theorem VR (gd:Gd X c G k) (fx:Fx X c) {ke ve:Expr} {y z:E} {px tp:Pos} (hv:cY c.sc x=true) (hp:bF x=true) (hi:cC c.nm x=some i) (h1:trV n c ke=some y) (h2:trV n c ve=some z) (hc:vL ve=false) :
  PS X (.Assign [.Subscript (.Name x px) ke tp] ve pos) (spS X F0 H0 (evS G (.dput i y z))):=by
 have S:=hJ G k n;intro pj s O H D I q;obtain ⟨τ,F,o,en,hf,hw⟩:=q;rw [evS] at hf;obtain ⟨F1,e1,s1⟩:=en.frz (aM z++aM y);obtain ⟨vt,g1,hf⟩:=obs hf;obtain ⟨kt,g2,hf⟩:=obs hf;obtain ⟨s',g3,rfl⟩:=oms hf;refine VQ gd fx hv hp hi (S.v gd h1) (S.v gd h2) (xC h2 (fun a b s p z=>by subst z;cases hc) _ _ _) I e1 g2 g3 (fun τ' H' Q e2 hvw _ hQ=>?_) fun O' F' H' e' s'=>hw O' F' H' e' (s1.trans s');exact ⟨_,F1,vt,e2.env fx.hN,by rw [hvw];exact g1,hQ⟩
end
end
section
end
section
variable {e:Expr}
section
variable {X:Cx} {c:Tc} {G:Glo} {k:Nat} {F0 H0:Hp}
theorem VS:PSs X [] (spS X F0 H0 (aG G [])):=by refine vU uU fun D O H q=>?_;obtain ⟨τ,F,o,en,hf,hw⟩:=q;rw [aG] at hf;cases hf;exact hw _ F H en (Same.refl F)
theorem VT {st:Stmt} {rest:List Stmt} {s:S} {ss:List S} (h1:PS X st (spS X F0 H0 (evS G s))) (h2:PSs X rest (spS X F0 H0 (aG G ss))):PSs X (st::rest) (spS X F0 H0 (aG G (s::ss))):=by
 refine vU (mY h1 h2) fun D O H q=>?_;obtain ⟨τ,F,o,en,hf,hw⟩:=q;rw [aG] at hf;obtain ⟨o1,ho1,hf⟩:=obs hf;refine ⟨τ,F,o1,en,ho1,?_⟩;cases o1 with
 | nx τ'=>exact fun O' F' H' e s'=>⟨τ',F',o,e,hf,hw.up s'⟩
 | rt t=>cases hf;exact hw
theorem VU (h:qX e=true):∃ p,e=.Dict [] [] p:=by
 cases e with
 | Dict ks vs p =>
  match ks,vs,h with
  | [],[],_=>exact ⟨p,rfl⟩
  | _::_,_,h=>cases h
  | [],_::_,h=>cases h
 | _=>cases h
theorem WQ {y:Str × List Expr × Pos × Pos} (h:qY e=some y):e=.Call (.Name y.1 y.2.2.1) y.2.1 [] y.2.2.2:=by
 cases e with
 | Call f es ks q =>
  cases f with
  | Name x p =>
   cases ks with
   | nil=>cases h;rfl
   | cons _ _=>cases h
  | _=>cases h
 | _=>cases h
theorem VV {y:Str × List Expr × Scope × Pos × Pos × Pos} (h:vN e=some y):e=.Lambda ⟨[],[],none,[],[],none,[]⟩ (.Call (.Name y.1 y.2.2.2.1) y.2.1 [] y.2.2.2.2.1) y.2.2.1 y.2.2.2.2.2:=by
 cases e with
 | Lambda a b ls p3 =>
  replace h:(if vM a then (qY b).map fun y=>(y.1,y.2.1,ls,y.2.2.1,y.2.2.2,p3) else none)=some y:=h
  split at h
  .rename_i ha;obtain rfl:a=⟨[],[],none,[],[],none,[]⟩:=by
    unfold vM at ha;split at ha
    .rfl
    .cases ha
   obtain ⟨z,hz,rfl⟩:=oms h;rw [WQ hz]
  .cases h
 | _=>cases h
theorem VPz {z:Str × List Expr × Pos × Pos} {p6:Pos} {r:TellR} (h:vP z e p6=some r):(Expr.Compare (.Call (.Name z.1 z.2.2.1) z.2.1 [] z.2.2.2) [.NotEq] [e] p6)=r.test:=by
 obtain ⟨x,es,p4,p5⟩:=z;cases es with
 | nil=>cases h
 | cons l t =>
  cases t with
  | nil =>
   have h2:(if x==cE then (vN l).map fun y=>(⟨y.1,y.2.1,y.2.2.1,e,y.2.2.2.1,y.2.2.2.2.1,y.2.2.2.2.2,p4,p5,p6⟩:TellR) else none)=some r:=h;by_cases hx:(x==cE)=true
   .rw [if_pos hx] at h2;obtain ⟨y,hl,hr⟩:=oms h2;rw [<- hr,VV hl,dO hx];rfl
   .rw [if_neg hx] at h2;cases h2
  | cons _ _=>cases h
theorem VW {r:TellR} (h:vO e=some r):e=r.test:=by
 cases e with
 | Compare a os bs p6 =>
  cases os with
  | nil=>cases h
  | cons o os =>
   cases os with
   | cons _ _=>cases o<;>cases h
   | nil =>
    cases bs with
    | nil=>cases o<;>cases h
    | cons e bs =>
     cases bs with
     | cons _ _=>cases o<;>cases h
     | nil =>
      cases o with
      | NotEq=>obtain ⟨z,hz,h⟩:=obs (show Option.bind _ _=_ from h);rw [WQ hz];exact VPz h
      | _=>cases h
 | _=>cases h
theorem sH (gd:Gd X c G k) (fx:Fx X c) (tl:Tl X c G):∀ n,(∀ st s,trS n c st=some s->PS X st (spS X F0 H0 (evS G s)))/\(∀ sts ss,gP n c sts=some ss->PSs X sts (spS X F0 H0 (aG G ss)))
 | 0=>⟨fun _ _ h=>(by (cases h;done)),fun _ _ h=>(by (cases h;done))⟩
 | n+1=>by
  obtain ⟨i1,i2⟩:=sH gd fx tl n;refine ⟨fun st s h=>?_,fun sts ss h=>?_⟩
  .cases st with
   | Assign tgs e pos =>
    match tgs,h with
    | [],h=>(cases h;done)
    | t::_::_,h =>
     cases t with
     | Subscript o _ _=>cases o<;>(cases h;done)
     | _=>(cases h;done)
    | [t],h =>
     cases t with
     | Name x px =>
      replace h:(if bF x&&(c.sc.names.lookup x==some .local||c.sc.names.lookup x==some .cell) then (cC c.nm x).bind fun i=>if qX e then some (S.dnew i) else ((trV n c e).bind fun y=>if fresh y&&!qW e then none else some (S.asg i y)) else none)=some s:=h;split at h
      .rename_i hc;simp only [Bool.and_eq_true,Bool.or_eq_true,beq_iff_eq] at hc;obtain ⟨i,h1,g1⟩:=obs h;clear h;by_cases hd:qX e=true
       .rw [if_pos hd] at g1;cases g1;obtain ⟨dp,rfl⟩:=VU hd;exact VP gd fx hc.2 h1
       .rw [if_neg hd] at g1;obtain ⟨y,h2,g2⟩:=obs g1;clear g1;by_cases hfl:(fresh y&&!qW e)=true
        .rw [if_pos hfl] at g2;cases g2
        .rw [if_neg hfl] at g2;cases g2;cases n with
         | zero=>cases h2
         | succ m =>
          exact VD gd fx hc.2 h1 h2 fun hfr=>by rw [hfr,Bool.true_and] at hfl;simpa using hfl
      .cases h
     | Subscript o ke tp =>
      cases o with
      | Name x px =>
       replace h:(if cY c.sc x&&bF x&&!pF ke then (cC c.nm x).bind fun i=>(trV n c ke).bind fun y=>(if vL e then none else (trV n c e).bind fun z=>some (S.dput i y z)) else none)=some s:=h;split at h
       .rename_i hc;simp only [Bool.and_eq_true] at hc;obtain ⟨i,h1,g1⟩:=obs h;obtain ⟨y,h2,g2⟩:=obs g1;clear g1 h;split at g2
        .cases g2
        .rename_i hcomp;obtain ⟨z,h3,g3⟩:=obs g2;cases g3;exact VR gd fx hc.1.1 hc.1.2 h1 h2 h3 (by simpa using hcomp)
       .cases h
      | _=>(cases h;done)
     | _=>(cases h;done)
   | Expr e pos =>
    cases e with
    | Constant cst kk p =>
     cases cst with
     | str x=>(cases h;done)
     | _=>(cases h;done)
    | Call f es ks cpos =>
     cases f with
     | Attribute o m apos =>
      match es,ks,h with
      | [a],[],h =>
       cases o with
       | Name x px =>
         replace h:(if apos.endLine==cpos.line&&cY c.sc x&&bF x then (cC c.nm x).bind fun i=>(trV n c a).bind fun y=>(if m==("append":Str) then some (S.app i y) else if m==("extend":Str) then some (S.ext i y) else none) else none)=some s:=h;split at h
         .rename_i hc;simp only [Bool.and_eq_true] at hc;obtain ⟨i,h1,g1⟩:=obs h;obtain ⟨y,h2,g2⟩:=obs g1;clear g1 h;by_cases hm:(m==("append":Str))=true
          .rw [if_pos hm] at g2;have hm:=dO hm;subst hm;cases g2;exact VE gd fx hc.1.2 hc.2 h1 h2 hc.1.1
          .rw [if_neg hm] at g2;by_cases hm:(m==("extend":Str))=true
           .rw [if_pos hm] at g2;have hm:=dO hm;subst hm;cases g2;exact VF gd fx hc.1.2 hc.2 h1 h2 hc.1.1
           .rw [if_neg hm] at g2;cases g2
         .cases h
       | _=>(cases h;done)
      | [],_,h=>cases o<;>(cases h;done)
      | [_],_::_,h=>cases o<;>(cases h;done)
      | _::_::_,_,h=>cases o<;>(cases h;done)
     | Name f p =>obtain ⟨y,h2,g⟩:=obs h;cases g;exact VH gd fx h2
     | _=>(cases h;done)
    | _=>(cases h;done)
   | Raise a b pos =>cases (show some S.fail=some s from h);exact VG
   | Return e pos =>
    cases e with
    | none=>(cases h;done)
    | some e =>obtain ⟨y,h2,g⟩:=obs h;cases g;exact VI gd fx h2
   | If t a b pos =>
    replace h:(match vO t with
     | some r=>if pH c r.ls&&(glB c.sc cE&&(glB r.ls r.g&&(bF r.g&&(b.isEmpty&&!r.es.isEmpty)))) then (cL (trV n ⟨r.ls,c.nm⟩) r.es).bind fun es=>(trV n c r.e).bind fun e=>(gP n c a).bind fun x=>some (S.tif r.g es e x) else none
     | none=>(trT n c t).bind fun z=>(gP n c a).bind fun x=>(gP n c b).bind fun y=>some (S.ite z x y))=some s:=h
    split at h
    .rename_i r hr;split at h
     .rename_i hc;rw [bS,bS,bS,bS,bS] at hc;obtain ⟨c1,c2,c3,c4,c5,c6⟩:=hc;obtain rfl:b=[]:=List.isEmpty_iff.mp c5;obtain ⟨xs,h1,h⟩:=obs h;obtain ⟨e,h2,h⟩:=obs h;obtain ⟨x,h3,h⟩:=obs h;cases h;rw [VW hr];exact VL gd fx tl (by rw [c1,c2,c3,c4];rfl) (fun z=>by rw [z] at c6;cases c6) h1 h2 (i2 _ _ h3)
     .cases h
    .obtain ⟨z,h1,g⟩:=obs h;obtain ⟨x,h2,g⟩:=obs g;obtain ⟨y,h3,g⟩:=obs g;cases g;exact VJ gd fx h1 (i2 _ _ h2) (i2 _ _ h3)
   | For tg iter body els pos =>
    cases els with
    | cons _ _=>(cases h;done)
    | nil =>
     obtain ⟨xs,h1,g⟩:=obs h;obtain ⟨is,h2,g⟩:=obs g;obtain ⟨ki,h3,g⟩:=obs g;obtain ⟨b,h4,g⟩:=obs g;split at g
     .rename_i hc;simp only [Bool.and_eq_true] at hc;obtain ⟨⟨⟨c1,c2⟩,c3⟩,c4⟩:=hc;cases g;refine VN gd fx h1 h2 h3 (fun e=>?_) (fun e=>?_) (fx.ats c4 h2) (i2 _ _ h4)
      .rw [e] at c1;simpa using c1
      .rw [e] at c2;simpa using c2
     .cases g
   | _=>(cases h;done)
  .cases sts with
   | nil=>cases (show some ([]:List S)=some ss from h);exact VS
   | cons st rest =>obtain ⟨x,h1,h⟩:=obs h;obtain ⟨xs,h2,h⟩:=obs h;cases h;exact VT (i1 _ _ h1) (i2 _ _ h2)
end
section
variable {P:Program} {w:World} {K:W.Frag} {mg:Mq} {base:Heap} {R:Pr}
structure FnD (K:W.Frag) (mg:Mq) (f:Str) (D:Fd) (st:Stmt) (a:Addr) (fd:FuncData) (ps:List Str):Prop where
 qu:∃ x qual,Fun K x qual st a fd
 sc:FnScope (bU (aK st)) ps (aK st)
 np:ps.length=D.np
 ns:(bU (aK st)).length=D.ns
 tr:gP 60 ⟨aK st,bU (aK st)⟩ (cW st)=some D.body
 mg:mg f=some (.ref a)
 kp:W.keepIn K (.ref a)=true
 bi:Binds K fd ps []
 nt:glB (aK st) cE=false
theorem xD {X:Cx} {D:Fd} {N:List Str} {ts:List T} {vs:List V} {F H:Hp} (hN:N.length=D.ns) (fh:Same F H) (tb:Tbk X.K F H) (r:aD X.K F ts vs):EnvS X F H (bX D ts) (L2.start N vs) F H:=by
 have hl:=r.length;have none:∀ i s,(bX D ts)[i]?=some s->¬ i<ts.length->s=.no:=fun i s h hi=>by
  unfold bX at h;rw [oP (by simpa using hi)] at h;rw [List.getElem?_replicate] at h;split at h
  .cases h;rfl
  .cases h
 have some':∀ i s,(bX D ts)[i]?=some s->i<ts.length->∃ t,ts[i]?=some t/\s=.val t:=fun i s h hi=>by unfold bX at h;rw [oQ (by simpa using hi),List.getElem?_map] at h;obtain ⟨t,h1,h2⟩:=oms h;exact ⟨t,h1,h2.symm⟩
 have noown:∀ i (u:Sl),(bX D ts)[i]?=some u->u.isOwn=true->False:=fun i u h hu=>by
  by_cases hi:i<ts.length
  .obtain ⟨t,_,e⟩:=some' i _ h hi;subst e;cases hu
  .have:=none i _ h hi;subst this;cases hu
 refine ⟨Step.refl fh,tb,?_,fun i t h=>?_,fun i u h hu=>(noown i u h hu).elim,fun i j u _ a _ h _ hu=>(noown i u h hu).elim⟩
 .unfold bX L2.start;simp only [List.length_append,List.length_map,List.length_replicate];rw [hl,hN]
 .by_cases hi:i<ts.length
  .obtain ⟨u,h1,e⟩:=some' i _ h hi;cases e;obtain ⟨v,h2,h3⟩:=r.get h1;refine ⟨v,?_,h3⟩;unfold L2.start;rw [uM (by rw [bE,hl];exact hi),iE,h2];rfl
  .cases none i _ h hi
def Kn (P:Program) (w:World) (K:W.Frag) (mg:Mq) (base:Heap) (R:Pr) (n:Nat) (f:Str):Prop :=
 ∃ (a:Addr) (fd:FuncData) (ps:List Str),FnOk P w K mg base CX0 n a fd ps (spT K (run R n f))/\mg f=some (.ref a)/\W.keepIn K (.ref a)=true/\Binds K fd ps []
abbrev mK (P:Program) (w:World) (K:W.Frag) (mg:Mq) (base:Heap) (R:Pr) (n:Nat):Prop:=∀ m,m<=n->∀ f D,kY f=true->R.fn f=some D->Kn P w K mg base R m f
theorem VX {a:Addr} {fd:FuncData} {ps:List Str} {f:Str}:FnOk P w K mg base CX0 0 a fd ps (spT K (run R 0 f)):=by
 have no:∀ vs H Q E,¬ spT K (run R 0 f) vs H Q E:=fun vs H Q E h=>by obtain ⟨F,ts,t,_,_,_,h,_⟩:=h;cases h
 exact ⟨fun vs H Q E h=>absurd h (no vs H Q E),fun A outer s H args us vs Q E _ _ _ _ h=>absurd h (no vs H Q E)⟩
theorem EZ {n:Nat} (ih:mK P w K mg base R n) (nob:∀ x∈bnames,mg x=none)
  {st:Stmt} {ps:List Str} (sc:FnScope (bU (aK st)) ps (aK st)) {qual:Str} {a:Addr} {cdv:Value} {A:Around} {outer:List PySem.Env} {s:Shared} {H:Hp} {E:XK} (hr:Room n (A.deeper (envOfC qual (aK st) s.heap.objs.size a cdv))) :
  Gd (gB CX0 P w K mg base (bU (aK st)) qual (aK st) a cdv A outer s H E).nox ⟨aK st,bU (aK st)⟩ (glo R (run R n)) n:={
   room:=hr
   calm:=rfl
   nob:=nob
   call:=fun g ts t hp hg=>by
    have hD:∃ D',R.fn g=some D':=by
     cases n with
     | zero=>cases hg
     | succ m =>have hg:run R (m+1) g ts=some t:=hg;rw [run] at hg;obtain ⟨D',h1,_⟩:=obs hg;exact ⟨D',h1⟩
    obtain ⟨D',hD⟩:=hD;exact ih n (aW n) g D' hp hD
   vis:=fun x h=>by
    show (aK st).names.lookup x=_\/(aK st).names.lookup x=_\/(aK st).names.lookup x=_;have h:cY (aK st) x=true:=h;unfold cY at h;cases e:(aK st).names.lookup x with
    | none=>rw [e] at h;cases h
    | some q =>
     rw [e] at h;cases q with
     | «local»=>exact .inl rfl
     | cell=>exact .inr (.inl rfl)
     | free=>exact .inr (.inr rfl)
     | _=>cases h
   gl:=fun x h=>by show (aK st).names.lookup x=_;simpa [glB] using h
   cap:=fun x h=>h
   nd:=sc.nd }
theorem VY {n:Nat} (ih:mK P w K mg base R n) (nob:∀ x∈bnames,mg x=none)
  {f:Str} {D:Fd} {st:Stmt} {a:Addr} {fd:FuncData} {ps:List Str} (hf:R.fn f=some D) (d:FnD K mg f D st a fd ps):FnOk P w K mg base CX0 (n+1) a fd ps (spT K (run R (n+1) f)):=by
  obtain ⟨x,qual,FU⟩:=d.qu;have inv:∀ {ts:List T} {t:T},run R (n+1) f ts=some t->ts.length=D.np/\aZ (aG (glo R (run R n)) D.body (bX D ts))=some t:=fun {ts t} h=>by
   rw [run,hf] at h;simp only [bD] at h;split at h
   .rename_i e;exact ⟨e,h⟩
   .cases h
  refine FU.ok d.sc (fun vs H Q E h=>?_) (fun cdv A outer s H vs Q E hr h=>?_)
  .obtain ⟨F,ts,t,fh,tb,r,h,_⟩:=h;rw [r.length,(inv h).1,d.np]
  obtain ⟨F,ts,t,fh,tb,r,h,q⟩:=h;obtain ⟨hl,he⟩:=inv h;have gd:=EZ (outer:=outer) (H:=H) (E:=E) ih nob d.sc hr;have fx:Fx (gB CX0 P w K mg base (bU (aK st)) qual (aK st) a cdv A outer s H E).nox ⟨aK st,bU (aK st)⟩:=⟨rfl,fun x h=>h,fun _=>rfl,rfl⟩;refine ⟨_,(sH (F0:=F) (H0:=H) gd fx (fun n r xs hk=>by rw [d.nt,Bool.false_and,Bool.and_false] at hk;cases hk) 60).2 _ _ d.tr,?_⟩;cases ho:aG (glo R (run R n)) D.body (bX D ts) with
  | none=>rw [ho] at he;cases he
  | some o =>
   refine ⟨bX D ts,F,o,xD d.ns fh tb r,ho,?_⟩;rw [ho] at he;cases o with
   | nx τ=>cases he;exact fun O' F' H' e _=>q .non F' H' e.st rfl
   | rt t=>cases he;exact fun v F' H' s r=>q v F' H' s r
theorem FA (L:∀ f D,kY f=true->R.fn f=some D->∃ st a fd ps,FnD K mg f D st a fd ps)
  (nob:∀ x∈bnames,mg x=none):∀ n,mK P w K mg base R n
 | 0=>fun m hm f D hp hf=>by
  obtain rfl:m=0:=by lia
  obtain ⟨st,a,fd,ps,d⟩:=L f D hp hf;exact ⟨a,fd,ps,VX,d.mg,d.kp,d.bi⟩
 | n+1=>fun m hm f D hp hf=>by
  have ih:=FA L nob n;by_cases hmn:m<=n
  .exact ih m hmn f D hp hf
  .obtain rfl:m=n+1:=by lia
   obtain ⟨st,a,fd,ps,d⟩:=L f D hp hf;exact ⟨a,fd,ps,VY ih nob hf d,d.mg,d.kp,d.bi⟩
end
end
end Ev
namespace Ev.Ex
open PySem Spec PyProof.Rows L2
section
variable {i:Nat} {x:Str}
section
variable {X:Cx}
theorem VZ (hu:X.A.units+100<cLine):MtR X "list.count" (fun x xs H Q=>∃ F ts t2 y,xs=[y]/\Same F H/\Rep X.K F (.lst ts) x/\Rep X.K F t2 y/\dpI t2 ts=true/\Q (.int ((ts.filter fun z=>eqT z t2).length:Nat)) H):=by
 intro pj s O H x xs v us Q I rx rs h;obtain ⟨F,ts,t2,y,rfl,fh,r1,r2,hf,q⟩:=h;obtain ⟨u,rfl,ru⟩:=jI rs;obtain ⟨l,vs,rfl,h1,h2⟩:=r1;cases rx;obtain ⟨z,qc,n,r,ho⟩:=(Ls.same fh h1).ok I;obtain ⟨e,e1,e2⟩:=CB I fh (A:=X.A.in1) (show X.A.units+1+30<cLine by lia) r2 ru hf h2 r;refine call_meets PySem.F.slot_list_count ⟨_,ho,rfl⟩ PySem.F.entry_list_count (PySem.F.args_list_count_2 _ _) (PySem.SeqAt.list_countAt l qc.toArray n _ _ u e) ⟨ho,fun y hy=>e1 y (by simpa using hy),?_⟩;have e3:qc.countP e=(ts.filter fun z=>eqT z t2).length:=by have:=aV (fun l:List Bool=>l.countP id) e2;simp only [List.countP_map,Function.comp_def,id] at this;rw [show qc.countP e=qc.countP (fun x=>e x) from rfl,this,List.countP_eq_length_filter]
 refine ⟨.int _,H,I.tok _,⟨_,rfl⟩,?_⟩;rw [List.toList_toArray,e3];exact q
end
noncomputable def toldN:List Str:=["_law_deed", "_law_found", "e", "_law_kinds"]
noncomputable def toldC:List Str:=["NoText", "NoRow", "Twice", "BadCheck", "NoRef", "Held", "NoMark", "BadLog", "Clash"]
structure TK (Y:Cx) (cs:List Addr):Prop where
 N:Y.N=toldN
 lo:∀ x∈toldN,Y.env.scope.names.lookup x=some .local
 gl:∀ x∈toldC++(["isinstance", "ValueError", "bool"]:List Str),Gl Y x
 nb:∀ x∈(["isinstance", "ValueError", "bool"]:List Str),Y.mg x=none
 mc:toldC.map Y.mg=cs.map fun C=>some (.ref C)
 hu:Y.A.units+100<cLine
structure EK (K:W.Frag) (cs:List Addr) (D:Addr) (j:Nat):Prop where
 ec:ErC K D
 ki:cs.map (fun C=>W.kitOne K (.ref D) (.ref C))=(List.range 9).map fun i=>some (decide (i=j))
 kv:W.kitOne K (.ref D) (.type "ValueError")=some true
 hj:j<9
theorem IsEr.aJ {H:Hp} {a D dx p:Addr} {o:Obj} {y:V} {u:HO} (r:IsEr H a D dx o y) (h1:a≠p) (h2:dx≠p):IsEr (aJ H p u) a D dx o y:=⟨by rw [aN h1];exact r.ob,r.cl,r.di,r.fd,by rw [aN h2];exact r.xd⟩
theorem IsEr.new {H:Hp} {a D dx p:Addr} {o:Obj} {y:V} {u:HO} (r:IsEr H a D dx o y) (h:H p=none):IsEr (L2.aJ H p u) a D dx o y:=r.aJ (bQ r.ob h) (bQ r.xd h)
section
variable {Y:Cx} {cs:List Addr}
def xE (K:W.Frag) (xs:List V) (H:Hp) (Q:VK):Prop:=∃ a D dx o y c b,xs=[.ref a,c]/\nC c≠.none/\IsEr H a D dx o y/\ErC K D/\W.kitOne K (.ref D) (nC c)=some b/\Q (.bl b) H
theorem TK.nd (t:TK Y cs):Y.N.Nodup:=by rw [t.N];decide
theorem TK.pv (t:TK Y cs) {p:Pos} (h:toldN[i]?=some x) (hd:(x==("__debug__":Str))=false:=by decide) (hcd:(x==("__classdict__":Str))=false:=by decide):PE Y (.Name x p) (mX i):=kQ (by rw [t.N];exact h) (.inl (t.lo x (iR h))) hd hcd
theorem TK.cls (t:TK Y cs) (h:toldC[i]?=some x):∃ C,cs[i]?=some C/\Y.mg x=some (.ref C):=by
 have:=aV (fun l:List (Option Value)=>l[i]?) t.mc;simp only [List.getElem?_map,h,fU] at this;cases e:cs[i]? with
 | none=>rw [e] at this;cases this
 | some C=>rw [e] at this;exact ⟨C,rfl,cP this⟩
theorem TK.isi (t:TK Y cs) {C:Addr} {p1 p2 p3 p4:Pos} (h:toldC[i]?=some x) (hm:Y.mg x=some (.ref C)) (hd:(x==("__debug__":Str))=false:=by decide) :
  PE Y (.Call (.Name "isinstance" p1) [.Name "e" p2,.Name x p3] [] p4) (tCB (xE Y.K) (lU (mX 2) (lU (tC (.ref C)) qL))) :=
 pA qQ (t.gl _ (by decide)) (t.nb _ (by decide)) boot_isinstance (bY (t.pv (i:=2) rfl) (bY (JB (t.gl x (List.mem_append_left _ (iR h))) hm rfl hd) fV))
def kE (j:Nat):List V:=(List.range 9).map fun i=>V.bl (decide (i=j))
def mL (j:Nat):List T:=(List.range 9).map fun i=>T.bl (decide (i=j))
theorem WA:∀ j,j<9->dpI (.bl true) (mL j)=true/\((mL j).filter fun z=>eqT z (.bl true)).length=1/\iK .index (.lst (mL j)) (.bl true)=some (.int j)
 | 0,_=>⟨rfl,rfl,rfl⟩
 | 1,_=>⟨rfl,rfl,rfl⟩
 | 2,_=>⟨rfl,rfl,rfl⟩
 | 3,_=>⟨rfl,rfl,rfl⟩
 | 4,_=>⟨rfl,rfl,rfl⟩
 | 5,_=>⟨rfl,rfl,rfl⟩
 | 6,_=>⟨rfl,rfl,rfl⟩
 | 7,_=>⟨rfl,rfl,rfl⟩
 | 8,_=>⟨rfl,rfl,rfl⟩
 | n+9,h=>by lia
theorem FB {K:W.Frag} {F:Hp}:∀ l:List Bool,aD K F (l.map T.bl) (l.map V.bl)
 | []=>rfl
 | b::l=>.cons rfl (FB l)
theorem WB {K:W.Frag} {F:Hp} (j:Nat):aD K F (mL j) (kE j):=by have:=FB (K:=K) (F:=F) ((List.range 9).map fun i=>decide (i=j));unfold mL kE;simpa only [List.map_map,Function.comp_def] using this
theorem WC:iT Y (.builtin "isinstance") (fun xs H Q=>∃ k,xs=[.int k,.ty "bool"]/\Q (.bl false) H):=by intro pj s O H xs us Q I r h;obtain ⟨k,rfl,q⟩:=h;obtain ⟨u,w',rfl,rx,ry⟩:=uZ r;obtain ⟨t,rfl⟩:=rx;cases ry;exact IsiPair.int_bool ⟨.bl false,H,I.tok _,rfl,q⟩
theorem EK.at {K:W.Frag} {D C:Addr} {i j:Nat} (k:EK K cs D j) (h:cs[i]?=some C) (hi:i<9):W.kitOne K (.ref D) (.ref C)=some (decide (i=j)):=by have:=aV (fun l:List (Option Bool)=>l[i]?) k.ki;simp only [List.getElem?_map,h,fU,List.getElem?_range hi] at this;exact cP this
theorem kF {O:L2.St} {H:Hp} {Q:VK} {a D dx C:Addr} {o:Obj} {y:V} {j:Nat} (hs:O[2]?=some (some (.ref a))) (ie:IsEr H a D dx o y) (k:EK Y.K cs D j) (h:cs[i]?=some C) (hi:i<9) (q:Q (.bl (decide (i=j))) H) :
  tCB (xE Y.K) (lU (mX 2) (lU (tC (.ref C)) qL)) O H Q:=⟨_,hs,a,D,dx,o,y,.ref C,_,rfl,(fun z=>nomatch z),ie,k.ec,k.at h hi,q⟩
def sJ (ks:List Stmt):Prop:=∀ {Y:Cx} {cs:List Addr},TK Y cs->PSs Y ks (fun D O H=>∃ a Dc dx o k j F,O[2]?=some (some (.ref a))/\O.length=4/\IsEr H a Dc dx o (.int k)/\EK Y.K cs Dc j/\Same F H /\
   ∀ O' H' p,O'.length=4->O'[1]?=some (some (.ref p))->Step F H (L2.aJ F p (.tup [.str "refused",.int j,.int k])) H'->D.nx O' H')
theorem WD {p0 p1 p2 p3 p4 p5 p6 p7 p8 p9 p10 p11 p12 p13 p14 p15 p16 p17 p18 p19 p20 p21 p22 p23 p24 p25 p26 p27 p28 p29 p30 p31 p32 p33 p34 p35 p36 p37 p38 p39 p40 p41 p42 p43 p44 p45 p46 p47 p48 p49 p50 p51 p52 p53 p54 p55 p56 p57 p58 p59 p60 p61 p62 p63 p64 p65 p66 p67 p68 p69 p70 p71 p72 p73 p74 p75 p76 p77 p78 p79 p80 p81 p82:Pos} (l1:(p41.endLine==p46.line)=true) (l2:(p60.endLine==p62.line)=true) (l3:(p75.endLine==p77.line)=true):sJ [.Assign [.Name "_law_kinds" p0] (.List [.Call (.Name "isinstance" p1) [.Name "e" p2,.Name "NoText" p3] [] p4,.Call (.Name "isinstance" p5) [.Name "e" p6,.Name "NoRow" p7] [] p8,.Call (.Name "isinstance" p9) [.Name "e" p10,.Name "Twice" p11] [] p12,.Call (.Name "isinstance" p13) [.Name "e" p14,.Name "BadCheck" p15] [] p16] p17) p18,.Assign [.Name "_law_kinds" p19] (.BinOp (.Name "_law_kinds" p20) .Add (.List [.Call (.Name "isinstance" p21) [.Name "e" p22,.Name "NoRef" p23] [] p24,.Call (.Name "isinstance" p25) [.Name "e" p26,.Name "Held" p27] [] p28,.Call (.Name "isinstance" p29) [.Name "e" p30,.Name "NoMark" p31] [] p32,.Call (.Name "isinstance" p33) [.Name "e" p34,.Name "BadLog" p35] [] p36] p37) p38) p39,.Expr (.Call (.Attribute (.Name "_law_kinds" p40) "append" p41) [.Call (.Name "isinstance" p42) [.Name "e" p43,.Name "Clash" p44] [] p45] [] p46) p47,.Assign [.Name "_law_found" p48] (.Tuple [.Constant (.str "refused") 0 p49,.UnaryOp .USub (.Constant (.int 1) 0 p50) p51,.Constant (.int 0) 0 p52] 0 p53) p54,.If (.BoolOp .And [.Call (.Name "isinstance" p55) [.Name "e" p56,.Name "ValueError" p57] [] p58,.Compare (.Call (.Attribute (.Name "_law_kinds" p59) "count" p60) [.Constant (.bool true) 0 p61] [] p62) [.Eq] [.Constant (.int 1) 0 p63] p64,.UnaryOp .Not (.Call (.Name "isinstance" p65) [.Attribute (.Name "e" p66) "at" p67,.Name "bool" p68] [] p69) p70] p71) [.Assign [.Name "_law_found" p72] (.Tuple [.Constant (.str "refused") 0 p73,.Call (.Attribute (.Name "_law_kinds" p74) "index" p75) [.Constant (.bool true) 0 p76] [] p77,.Attribute (.Name "e" p78) "at" p79] 0 p80) p81] [] p82]:=by
 intro Y cs t;obtain ⟨C0,c0,m0⟩:=t.cls (i:=0) (x:="NoText") rfl;obtain ⟨C1,c1,m1⟩:=t.cls (i:=1) (x:="NoRow") rfl;obtain ⟨C2,c2,m2⟩:=t.cls (i:=2) (x:="Twice") rfl;obtain ⟨C3,c3,m3⟩:=t.cls (i:=3) (x:="BadCheck") rfl;obtain ⟨C4,c4,m4⟩:=t.cls (i:=4) (x:="NoRef") rfl;obtain ⟨C5,c5,m5⟩:=t.cls (i:=5) (x:="Held") rfl;obtain ⟨C6,c6,m6⟩:=t.cls (i:=6) (x:="NoMark") rfl;obtain ⟨C7,c7,m7⟩:=t.cls (i:=7) (x:="BadLog") rfl;obtain ⟨C8,c8,m8⟩:=t.cls (i:=8) (x:="Clash") rfl;have st:∀ {i:Nat} {x:Str} {e:Expr} {te:TE} {p q:Pos},toldN[i]?=some x->PE Y e te->swapsWith e (some (.Name x p)) q.line Y.env=pure false->PS Y (.Assign [.Name x p] e q) (tAsg te (qI i)):=fun {i x e te p q} h he hs=>mZ t.nd (by rw [t.N];exact h) (.inl (t.lo x (iR h))) he hs (.inr (t.lo x (iR h)));have ve:PE Y (.Call (.Name "isinstance" p55) [.Name "e" p56,.Name "ValueError" p57] [] p58) (tCB (xE Y.K) (lU (mX 2) (lU (tC (.ty "ValueError")) qL))) :=
  pA qQ (t.gl _ (by decide)) (t.nb _ (by decide)) boot_isinstance (bY (t.pv (i:=2) rfl) (bY (uS (t.gl _ (by decide)) (t.nb _ (by decide)) (by decide +kernel) (show aB (.ty "ValueError") (.type "ValueError") from rfl)) fV))
 have bo:PE Y (.Call (.Name "isinstance" p65) [.Attribute (.Name "e" p66) "at" p67,.Name "bool" p68] [] p69) _ :=
  pA WC (t.gl _ (by decide)) (t.nb _ (by decide)) boot_isinstance (bY (BF (t.pv (i:=2) rfl) rfl) (bY (uS (t.gl _ (by decide)) (t.nb _ (by decide)) PyProof.Rows.boot_bool (show aB (.ty "bool") (.type "bool") from rfl)) fV))
 have cn:PE Y (.Call (.Attribute (.Name "_law_kinds" p59) "count" p60) [.Constant (.bool true) 0 p61] [] p62) _:=nA F.plainAttrs_list F.slot_list_count F.type_list_count (VZ t.hu) (t.pv (i:=3) rfl) (bY uR fV) rfl rfl l2 rfl rfl;have ix:PE Y (.Call (.Attribute (.Name "_law_kinds" p74) "index" p75) [.Constant (.bool true) 0 p76] [] p77) _:=nA F.plainAttrs_list F.slot_list_index F.type_list_index EB (t.pv (i:=3) rfl) (bY uR fV) rfl rfl l3 rfl rfl;have S1:=st (i:=3) (p:=p0) (q:=p18) rfl (vA (pos:=p17) (bY (t.isi (i:=0) (p1:=p1) (p2:=p2) (p3:=p3) (p4:=p4) rfl m0) (bY (t.isi (i:=1) (p1:=p5) (p2:=p6) (p3:=p7) (p4:=p8) rfl m1) (bY (t.isi (i:=2) (p1:=p9) (p2:=p10) (p3:=p11) (p4:=p12) rfl m2) (bY (t.isi (i:=3) (p1:=p13) (p2:=p14) (p3:=p15) (p4:=p16) rfl m3) fV))))) rfl;have S2:=st (i:=3) (p:=p19) (q:=p39) rfl (uX (pos:=p38) MA (t.pv (p:=p20) (i:=3) rfl) (vA (pos:=p37) (bY (t.isi (i:=4) (p1:=p21) (p2:=p22) (p3:=p23) (p4:=p24) rfl m4) (bY (t.isi (i:=5) (p1:=p25) (p2:=p26) (p3:=p27) (p4:=p28) rfl m5) (bY (t.isi (i:=6) (p1:=p29) (p2:=p30) (p3:=p31) (p4:=p32) rfl m6) (bY (t.isi (i:=7) (p1:=p33) (p2:=p34) (p3:=p35) (p4:=p36) rfl m7) fV)))))) rfl;have S3:=lT (pos:=p47) (nA (apos:=p41) (cpos:=p46) F.plainAttrs_list F.slot_list_append F.type_list_append vD (t.pv (p:=p40) (i:=3) rfl) (bY (t.isi (i:=8) (p1:=p42) (p2:=p43) (p3:=p44) (p4:=p45) rfl m8) fV) rfl rfl l1 rfl rfl);have S4:=st (i:=1) (p:=p48) (q:=p54) rfl (qM (x1:=0) (pos:=p53) (bY (oV (x:="refused") (j:=0) (pos:=p49)) (bY (zS (pos:=p51) zT (qH (i:=1) (j:=0) (pos:=p50))) (bY (qH (i:=0) (j:=0) (pos:=p52)) fV)))) rfl;have S5:=uV (pos:=p82) (PW.pt (uT (pos:=p71) (zM ve) (uT (zU (pos:=p64) KI cn (qH (i:=1) (j:=0) (pos:=p63)) (JC _ (by decide) (by decide))) (zN (zO (pos:=p70) (zM bo))))))
  (oX (st (i:=1) (p:=p72) (q:=p81) rfl (qM (x1:=0) (pos:=p80) (bY (oV (x:="refused") (j:=0) (pos:=p73)) (bY ix (bY (BF (pos:=p79) (t.pv (p:=p78) (i:=2) rfl) rfl) fV)))) rfl)) uU
 have S6:=iN S5 (t':=fun D τ G=>∃ a Dc dx o k j a3,τ[2]?=some (some (V.ref a))/\τ[3]?=some (some (V.ref a3))/\IsEr G a Dc dx o (.int k)/\EK Y.K cs Dc j/\G a3=some (.lst (kE j)) /\
   ∀ F' G' p,Step G G F' G'->G' p=none->D.nx (τ.set 1 (some (.ref p))) (L2.aJ G' p (.tup [.str "refused",.int j,.int k]))) fun D O3 H4 h=>by
  obtain ⟨a,Dc,dx,o,k,j,a3,hs3,gk3,ie4,ek,q4,q⟩:=h;have rl:Rep Y.K H4 (.lst (mL j)) (.ref a3):=⟨a3,_,rfl,Ls.of q4,WB j⟩;obtain ⟨k1,k2,k3⟩:=WA j ek.hj;refine ⟨_,hs3,a,Dc,dx,o,.int k,.ty "ValueError",true,rfl,(fun z=>nomatch z),ie4,ek.ec,ek.kv,true,rfl,?_⟩;refine ⟨_,gk3,.inl ⟨rfl,_,SqL.of q4⟩,H4,mL j,.bl true,_,rfl,Same.refl H4,rl,rfl,k1,?_⟩;rw [k2];refine ⟨rfl,true,rfl,?_⟩;refine ⟨_,hs3,a,Dc,dx,o,.int k,rfl,ie4,ek.ec,k,rfl,false,rfl,?_⟩;refine ⟨_,gk3,.inl ⟨rfl,_,SqL.of q4⟩,H4,_,.bl true,_,_,rfl,Same.refl H4,rl,rfl,k3,fun v F' H5 T5 rv=>?_⟩;cases rv;have ie5:IsEr H5 a Dc dx o (.int k):=⟨T5.hh.st _ _ ie4.ob rfl,ie4.cl,ie4.di,ie4.fd,T5.hh.st _ _ ie4.xd rfl⟩;exact ⟨_,hs3,a,Dc,dx,o,.int k,rfl,ie5,ek.ec,by rw [fD];simp,fun a6 h6=>q F' H5 a6 T5 h6⟩
 refine vU (mY S1 (mY S2 (mY S3 (mY S4 (oX S6))))) fun D O H h=>?_;obtain ⟨a,Dc,dx,o,k,j,F,hs,hl,ie,ek,fh,q⟩:=h;have hz:∀ n:Nat,n<1000->n<=sizeLine:=fun n h=>by rw [fD];lia
 refine kF hs ie ek c0 (by decide) ?_;refine kF hs ie ek c1 (by decide) ?_;refine kF hs ie ek c2 (by decide) ?_;refine kF hs ie ek c3 (by decide) ?_;refine ⟨hz _ (by simp),fun a1 h1=>?_⟩;have get:∀ {τ:L2.St} {i:Nat} {v:V},τ.length=4->i<4->(τ.set i (some v))[i]?=some (some v):=fun hl hi=>by rw [jC (by lia)]
 have gne:∀ {τ:L2.St} {i k:Nat} {v:V} {w:Option V},i≠k->τ[k]?=some w->(τ.set i (some v))[k]?=some w:=fun hn h=>by rw [gW hn];exact h
 have hs1:=gne (i:=3) (v:=.ref a1) (by decide) hs;have hl1:(O.set 3 (some (V.ref a1))).length=4:=by rw [fQ];exact hl
 have ie1:=ie.new (u:=.lst [.bl (decide (0=j)),.bl (decide (1=j)),.bl (decide (2=j)),.bl (decide (3=j))]) h1;have T1:=(Step.refl fh).newH (o:=.lst [.bl (decide (0=j)),.bl (decide (1=j)),.bl (decide (2=j)),.bl (decide (3=j))]) h1;have gk:=get (i:=3) (v:=.ref a1) hl (by decide);refine ⟨_,gk,?_⟩;refine kF hs1 ie1 ek c4 (by decide) ?_;refine kF hs1 ie1 ek c5 (by decide) ?_;refine kF hs1 ie1 ek c6 (by decide) ?_;refine kF hs1 ie1 ek c7 (by decide) ?_;refine ⟨hz _ (by simp),fun a2 h2=>?_⟩;refine ⟨a1,a2,_,_,rfl,rfl,(aN (bQ aY h2)).trans aY,aY,hz _ (by simp),fun a3 h3=>?_⟩;generalize hH1:L2.aJ H a1 (.lst [.bl (decide (0=j)),.bl (decide (1=j)),.bl (decide (2=j)),.bl (decide (3=j))])=H1 at *;have ie2:=(ie1.new (u:=.lst [.bl (decide (4=j)),.bl (decide (5=j)),.bl (decide (6=j)),.bl (decide (7=j))]) h2);have T2:=T1.newH (o:=.lst [.bl (decide (4=j)),.bl (decide (5=j)),.bl (decide (6=j)),.bl (decide (7=j))]) h2;generalize hH2:L2.aJ H1 a2 (.lst [.bl (decide (4=j)),.bl (decide (5=j)),.bl (decide (6=j)),.bl (decide (7=j))])=H2 at *;generalize hO1:O.set 3 (some (V.ref a1))=O1 at *;have hs2:=gne (i:=3) (v:=.ref a3) (by decide) hs1;have hl2:(O1.set 3 (some (V.ref a3))).length=4:=by rw [fQ];exact hl1
 have gk2:=get (i:=3) (v:=.ref a3) hl1 (by decide);refine ⟨_,gk2,.inl ⟨rfl,_,SqL.of aY⟩,?_⟩;refine kF hs2 (ie2.new h3) ek c8 (by decide) ?_;refine ⟨a3,_,_,rfl,rfl,aY,hz _ (by simp),?_⟩;rw [uO];have ie3:=ie2.new (u:=.lst (kE j)) h3;have T3:=T2.newH (o:=.lst (kE j)) h3;show tSeq _ _ D (O1.set 3 (some (V.ref a3))) (L2.aJ H2 a3 (.lst (kE j)));generalize hH3:L2.aJ H2 a3 (.lst (kE j))=H3 at *;have q3:H3 a3=some (.lst (kE j)):=by rw [<- hH3];exact aY
 generalize hO2:O1.set 3 (some (V.ref a3))=O2 at *;refine ⟨1,rfl,hz _ (by simp),fun a4 h4=>?_⟩;have ie4:=ie3.new (u:=.tup [.str "refused",.int (-1),.int 0]) h4;have T4:=T3.newH (o:=.tup [.str "refused",.int (-1),.int 0]) h4;have q4:L2.aJ H3 a4 (.tup [.str "refused",.int (-1),.int 0]) a3=some (.lst (kE j)):=(aN (bQ q3 h4)).trans q3;have hs3:=gne (i:=1) (v:=.ref a4) (by decide) hs2;have gk3:=gne (i:=1) (v:=.ref a4) (by decide) gk2;have hl3:(O2.set 1 (some (V.ref a4))).length=4:=by rw [fQ];exact hl2
 refine ⟨a,Dc,dx,o,k,j,a3,hs3,gk3,ie4,ek,q4,fun F' G' p T5 hp=>?_⟩;refine q _ _ p (by rw [fQ];exact hl3) (get hl3 (by decide)) ?_;have T6:Step F H F G':=⟨T4.hh.trans T5.hh,Same.refl F,T4.fh.trans (T5.ff.trans T5.fh),fun _ z=>.inl z⟩;exact T6.new hp
end
end
section
variable {e:Value}
section
variable {X:Cx} {pj:Pq} {O:L2.St} {H:Hp} {s:Shared}
abbrev mkd (X:Cx) (e:Value):Cx:={ X with A:=X.A.mark (some e),calm:=false,xe:=fun _ _=>False }
theorem WE (ok:X.Ok):(mkd X e).Ok :=
 ⟨ok.mod,ok.kind,ok.glob,ok.blt,ok.above,ok.inj,ok.has,ok.cab,(fun z=>nomatch z),ok.frames,ok.stk,ok.exf,ok.bs,ok.bsz,ok.noex,ok.exfs,ok.funs,ok.frf⟩
theorem FC (I:Inv X pj O H s):Inv (mkd X e) pj O H s:=⟨WE I.ok,I.os,I.bare,I.base,I.loc,I.cell,I.free,I.freeC,I.pin,I.hok,I.len⟩
theorem WF (ok:X.Ok) (I:Inv (mkd X e) pj O H s):Inv X pj O H s:=⟨ok,I.os,I.bare,I.base,I.loc,I.cell,I.free,I.freeC,I.pin,I.hok,I.len⟩
theorem WG {m:Mq} {i:Nat} {x:Str} {v:Option Value} {h':Heap} {t':Nat} (I:Inv X pj O H s) (hN:X.N.Nodup) (hi:X.N[i]?=some x) (hn:s.heap.Ns X.env.locals m) (hm:∀ (i:Nat) (x:Str) (v:V),X.N[i]?=some x->O[i]?=some (some v)->Vis X.env.scope x->∃ u,aB v u/\Look X.env s.heap m x u)
  (hn2:h'.Ns X.env.locals (fun y=>if y=x then v else m y)) (sb:Heap.SameBut X.env.locals s.heap h'):Inv X pj (O.set i none) H { s with heap:=h',toks:=t' }:=by
 have ne0:∀ b o,X.s₀.heap.get? b=some o->b≠X.env.locals:=fun b o e=>bP (dI (aX e) I.ok.above);have nt:∀ {b:Addr} {u:HO},H b=some u->b≠X.env.locals:=fun e=>bQ e I.free;have ck:∀ {y:Str} {c:Addr} {w:Option Value},X.env.cells.lookup y=some c->s.heap.IsCell c w->h'.IsCell c w:=fun hc ⟨o,e,d⟩=>⟨o,(sb.2 _ (I.cne _ _ hc)).trans e,d⟩;refine ⟨I.ok,I.os,I.bare,⟨fun b o e n hb hx=>(sb.2 b (ne0 b o e)).trans (I.base.keep b o e n hb hx),fun b o e n hb hx=>?_,I.base.free,fun b o e hx=>?_,I.base.tups,I.base.frzs,I.base.tbls⟩,⟨_,hn2,fun j y w h1 h2 h3=>?_⟩,fun y c hc=>?_,I.free,I.freeC,fun p hp=>?_,fun b u e=>?_,by rw [fQ];exact I.len⟩
 .obtain ⟨sl,q⟩:=I.base.slot b o e n hb hx;exact ⟨sl,(sb.2 b (ne0 b o e)).trans q⟩
 .obtain ⟨o2,q⟩:=I.base.there b o e hx;exact ⟨o2,(sb.2 b (ne0 b o e)).trans q⟩
 .rcases gE h2 with ⟨_,z⟩ | ⟨nj,h2⟩
  .cases z
  .have ny:y≠x:=fun z=>nj (uP hN h1 (by rw [z];exact hi));obtain ⟨u,r,l⟩:=hm j y w h1 h2 h3;refine ⟨u,r,?_⟩;rcases l with ⟨k,l⟩ | ⟨k,c,hc,l⟩
   .exact .inl ⟨k,(if_neg ny).trans l⟩
   .exact .inr ⟨k,c,hc,ck hc l⟩
 .obtain ⟨w,z⟩:=I.cell y c hc;exact ⟨w,ck hc z⟩
 .obtain ⟨e,n,ne,r⟩:=I.pin p hp;exact ⟨(sb.2 _ ne).trans e,n,ne,r⟩
 .refine (I.hok b u e).stay (fun c w hc q=>?_) (fun _ q=>q) fun _ _ q=>q;rcases hc with rfl | hc
  .exact (sb.2 _ (nt e)).trans q
  .exact (sb.2 _ (nt hc)).trans q
theorem sf {M:Model} {A:Around} {E:Vq} {a C dx:Addr} {o:Obj} {Q:Unit->Shared->Prop} (fl:Flown s.heap a C dx o) (h:∀ h',(∀ b u,s.heap.get? b=some u->h'.get? b=some u)->Q () { s with heap:=h' }):wpAny M A (setFlight (.ref a) none) Q E s:=by
 obtain ⟨e0,_,_,vs,hv,hz,ht⟩:=fl;unfold setFlight;rcases ht with ht | ⟨T,oT,ts,h1,h2,h3,h4,h5⟩
 .refine aA (eF e0 hv ht ?_);rw [if_neg (by decide)];exact aL (h s.heap fun _ _ q=>q)
 .refine aA (eF e0 hv h1 ?_);rw [if_pos (show (Value.ref T != Value.none)=true from by simp)];refine wpAny_setField h3 h4 (Array.getElem?_eq_some_iff.mp h5).1 (h _ fun b u q=>?_);by_cases hb:b=T
  .subst hb;rw [h3] at q;cases q;rw [Heap.get?_update_self _ h3 (Obj.isFreed_of_fields (jD h4 _))];obtain ⟨c,d,dt,sl⟩:=oT;cases h4;obtain ⟨l1,l2⟩:=Array.getElem?_eq_some_iff.mp h5;have:ts.setIfInBounds 3 Value.none=ts:=by rw [<- l2];simp [Array.setIfInBounds,l1]
   simp [Obj.mapFields,this]
  .rw [Heap.get?_update_other _ _ (Ne.symm hb)];exact q
def FD (X:Cx) (cs:List Addr) (D:Ends):XK:=fun c d H1=>∃ Dc dx k j F1,c=.ref Dc/\d=some dx/\H1 dx=some (.xd [("at",.int k)])/\EK X.K cs Dc j/\Same F1 H1 /\
 ∀ O' H' p,O'.length=4->O'[1]?=some (some (.ref p))->Step F1 H1 (L2.aJ F1 p (.tup [.str "refused",.int j,.int k])) H'->D.nx O' H'
theorem WH {pt ph:Pos} {cs:List Addr} {DE a C dx:Addr} {o:Obj} {D:Ends} (hs:X.stack=X.env::X.outer) (hf:X.env.frame=some X.env.locals) (t:∀ e,TK (mkd X e) cs) {k0:Stmt} {ks:List Stmt} (so:sJ (k0::ks))
  (gD:Gl X "DealError") (mD:X.mg "DealError"=some (.ref DE)) (ex:W.exmOne X.K (.ref C) (.ref DE)=some true)
  (I:Inv X pj O H s) (hl:O.length=4) (ha:H a=some (exO a o)) (fl:Flown s.heap a C dx o) (q:∀ o',FD X cs D (.ref C) (some dx) (L2.aJ H a (exO a o'))) :
  wpAny (model X.prog X.w) X.A (noteFrame (.ref a) X.env) (fun _ s2=>wpAny (model X.prog X.w) X.A (setFlight (.ref a) none) (fun _ s3=>wpAny (model X.prog X.w) X.A (handleBy (.ref a) X.env [.ExceptHandler (some (.Name "DealError" pt)) (some "e") (k0::ks) ph]) (SP X pj D) X.xe s3) X.xe s2) X.xe s:=by
 have fr:=I.ok.frames;have st:=I.stack;have sf0:=I.stkFree;rw [hs] at fr st;refine nf fr st hf fl fun h1 o1 fl1 k1 k2=>?_;rw [<- hs] at k1;have I1:Inv X pj O (L2.aJ H a (exO a o1)) { s with heap:=h1 }:=I.call' (s':={ s with heap:=h1 }) rfl (AW (fs:=frs X.stack) ha fl1.ob k1 k2) (AX I.hok ha sf0 fl1.ob k1) I.bare (fun b z=>absurd z (by simp));have q1:=q o1;have ha1:L2.aJ H a (exO a o1) a=some (exO a o1):=aY;generalize L2.aJ H a (exO a o1)=H1 at *;have kind:(X.env.scope.kind==.class||(X.env.scope.kind==.module&&X.env.locals != X.env.globals))=false:=by rw [I.ok.kind];rfl
 have tk:=t (.ref a);refine wpAny_handleBy_cons (codeAny_handlers_test (thn (oW (X:=mkd X (.ref a)) (Q:=fun c s1=>c=.ref DE/\s1={ s with heap:=h1 }) (FC I1) gD mD ⟨rfl,rfl⟩) fun c s1 ⟨e1,e2⟩=>?_)) (by intro z;cases z);subst e1 e2;have ty:∀ M,W.Looks M h1 (typeOf (.ref a)) (.ref C):=fun M=>fl1.cl▸(W.Looks.ld fl1.ob).andThen .now;refine ((W.exm_one I1.kIn (ty _) ex).here ?_);refine codeAny_handlers_suite_as (sf (s:={ s with heap:=h1 }) fl1 fun h2 k3=>?_);have I2:Inv X pj O H1 { s with heap:=h2,toks:=s.toks }:=I1.kept k3;refine uQ (X:=mkd X (.ref a)) (i:=2) (v:=.ref a) (FC I2) tk.nd (by rw [tk.N];rfl) (.inl (tk.lo _ (by decide))) rfl (fun s3 I3=>?_) (.inr (tk.lo _ (by decide)));obtain ⟨Dc,dx',k,j,F1,e1,e2,hx,ek,fh,qn⟩:=q1;cases e1;cases e2;have ie:IsEr H1 a C dx o1 (.int k):=⟨ha1,fl1.cl,fl1.di,let ⟨vs,hv,_⟩:=fl1.tr;⟨vs,hv⟩,hx⟩;have gs:(O.set 2 (some (V.ref a)))[2]?=some (some (V.ref a)):=by rw [jC (by lia)]
 refine fS (so tk pj s3 _ H1 { nx:=fun O' H'=>D.nx (O'.set 2 none) H' ,rt:=fun _ _=>False } I3 ⟨a,C,dx,o1,k,j,F1,gs,by rw [fQ];exact hl,ie,ek,fh,fun O' H' p g1 g2 T=>?_⟩) (fun f s4 z=>?_) fun x s4 z=>z.elim
 .exact qn _ H' p (by rw [fQ];exact g1) (by rw [gW (by decide)];exact g2) T
 .cases f with
  | next =>obtain ⟨O',H',I4,z⟩:=z;have I5:=WF I.ok I4;obtain ⟨m,hn,hm⟩:=I5.loc;refine wpAny_nameGoes_keeps (tk.lo "e" (by decide)) hn kind fun h5 v hn5 sb=>?_;exact ⟨_,H',WG I5 tk.nd (by rw [show X.N=toldN from tk.N];rfl) hn hm hn5 sb,z⟩
  | ret u =>obtain ⟨_,_,_,_,_,z⟩:=z;exact z.elim
  | brk =>obtain ⟨_,_,_,z⟩:=z;exact z.elim
  | cont =>obtain ⟨_,_,_,z⟩:=z;exact z.elim
end
end
section
section
variable {X:Cx}
def xF (X:Cx) (i:Nat) (E:XK):TE:=fun O H Q=>∃ f n q lp lb ls cl pm cd ctv,O[i]?=some (some (.ref f))/\∀ pj s,Inv X pj O H s->s.heap.get? f=some (W.kla_obj n q lp lb ls cl pm cd ctv) /\
 codeAny (model X.prog X.w) X.A (.call (.ref f) ⟨[],[]⟩) (CR (CX1 X.prog X.w) X.stack X.prog X.w H s Q E) s
theorem WI {i:Nat} {x:Str} {p pos:Pos} {E:XK} (hN:X.N[i]?=some x) (hv:Vis X.env.scope x) (hx:kR (CX1 X.prog X.w) X E) (hd:(x==("__debug__":Str))=false:=by decide) (hcd:(x==("__classdict__":Str))=false:=by decide) :
  PE X (.Call (.Name x p) [] [] pos) (xF X i E):=by
 intro pj s O H Q I h;obtain ⟨f,n,q,lp,lb,ls,cl,pm,cd,ctv,h1,h2⟩:=h;refine wpAny_Call_Name_kw (thn (kQ hN hv hd hcd pj s O H (fun v H1=>v=V.ref f/\H1=H) I ⟨_,h1,rfl,rfl⟩) fun u s1 ⟨v,H1,I1,rv,e1,e2⟩=>?_);subst e1 e2;obtain rfl:u=.ref f:=rv;obtain ⟨g1,g2⟩:=h2 pj s1 I1;refine W.callWith_of (P:=fun h=>h.get? f=some (W.kla_obj n q lp lb ls cl pm cd ctv)) rfl (fun h e=>⟨.frame,.inl rfl,(W.Looks.ld (part:=none) e).andThen .now⟩) (PyProof.Rows.evalArgs_none ?_);refine ⟨g1,wpAny_call (codeAny_mono g2 fun r s' hq=>?_)⟩;cases r with
 | error e=>exact hx pj O _ _ e s' I1 hq
 | ok fl =>
  cases fl with
  | ret u=>exact I1.after hq
  | next=>exact False.elim hq
  | brk=>exact False.elim hq
  | cont=>exact False.elim hq
def FE (D:Ends):VK:=fun v H1=>∀ p,H1 p=none->D.rt (.ref p) (L2.aJ H1 p (.tup [.str "told",v]))
def xG (X:Cx) (cs:List Addr) (DE:Addr) (D:Ends):XK:=fun c d H1=>W.exmOne X.K c (.ref DE)=some true/\FD X cs { nx:=fun O' H'=>∃ v,O'[1]?=some (some v)/\D.rt v H',rt:=fun _ _=>False } c d H1
theorem WJ {pt ph q0 q1 q2 q3 q4 q5 q6 q7 q8:Pos} {cs:List Addr} {DE:Addr} {O:L2.St} {H:Hp} {s:Shared} {D:Ends} (hs:X.stack=X.env::X.outer) (hf:X.env.frame=some X.env.locals) (t:∀ e,TK (mkd X e) cs) {k0:Stmt} {ks:List Stmt} (so:sJ (k0::ks))
  (gD:Gl X "DealError") (mD:X.mg "DealError"=some (.ref DE)) (I:Inv X [] O H s) (hl:O.length=4) (h:∀ E,xF (X.wish E) 0 (xG X cs DE D) O H (FE D)) :
  wpAny (model X.prog X.w) X.A (execs [.Try [.Assign [.Name "_law_found" q0] (.Tuple [.Constant (.str "told") 0 q1,.Call (.Name "_law_deed" q2) [] [] q3] 0 q4) q5] [.ExceptHandler (some (.Name "DealError" pt)) (some "e") (k0::ks) ph] [] [] q6,.Return (some (.Name "_law_found" q7)) q8] X.env) (SP X [] D) X.xe s:=by
 have tN:X.N=toldN:=(t .none).N;have tl:∀ x∈toldN,X.env.scope.names.lookup x=some .local:=(t .none).lo;have nd:X.N.Nodup:=by rw [tN];decide
 have g:∀ {i:Nat} {x:Str},toldN[i]?=some x->X.N[i]?=some x:=fun e=>by rw [tN];exact e
 let D1:Ends:={ nx:=fun O' H'=>∃ v,O'[1]?=some (some v)/\D.rt v H',rt:=fun _ _=>False }
 refine wpAny_execs_cons (thn (Q:=SP X [] D1) (wpAny_Try_except ?_) fun f s1 z=>?_)
 .let XE:Value->Shared->Prop:=fun e s1=>wpAny (model X.prog X.w) X.A (noteFrame e X.env) (fun _ s2=>wpAny (model X.prog X.w) X.A (setFlight e none) (fun _ s3=>wpAny (model X.prog X.w) X.A (handleBy e X.env [.ExceptHandler (some (.Name "DealError" pt)) (some "e") (k0::ks) ph]) (SP X [] D1) X.xe s3) X.xe s2) X.xe s1
  have ps:kR (CX1 X.prog X.w) (X.wish XE) (xG X cs DE D):=by rintro pj O' H' s' e s2 I' ⟨a,C,dx,o,H2,e1,os,bare,un,hok,ha,fl,q⟩;subst e1;have J:Inv X pj O' H2 s2:=I'.unwish.call' os un hok bare (fun b z=>absurd z (by simp));have J0:Inv X [] O' H2 s2:=J.pins_of (pins':=[]) fun p z=>absurd z (by simp);exact WH hs hf t so gD mD (q o).1 J0 (by rw [J0.len,tN];rfl) ha fl fun o'=>(q o').2
  have pb:=mZ (X:=X.wish XE) (pos:=q5) (pos':=q0) (i:=1) nd (g rfl) (.inl (tl _ (by decide))) (qM (x1:=0) (pos:=q4) (bY (oV (x:="told") (j:=0) (pos:=q1)) (bY (WI (p:=q2) (pos:=q3) (i:=0) (g rfl) (.inl (tl "_law_deed" (by decide))) ps) fV))) rfl (.inr (tl _ (by decide)));refine thn (oX pb [] s O H D1 (I.wish XE) ?_) fun f s1 z=>?_
  .obtain ⟨f,n,q,lp,lb,ls,cl,pm,cd,ctv,h1,h2⟩:=h XE;refine ⟨f,n,q,lp,lb,ls,cl,pm,cd,ctv,h1,fun pj s I'=>⟨(h2 pj s I').1,codeAny_mono (h2 pj s I').2 fun r s' z=>?_⟩⟩;cases r with
   | error e=>exact z
   | ok fl =>
    cases fl with
    | ret u =>obtain ⟨v,H2,a1,a2,a3,a4,a5,a6⟩:=z;refine ⟨v,H2,a1,a2,a3,a4,a5,by rw [fD];simp,fun p hp=>⟨.ref p,?_,a6 p hp⟩⟩;rw [jC (by lia)]
    | next=>exact z.elim
    | brk=>exact z.elim
    | cont=>exact z.elim
  .have z:=z.unwish;cases f with
   | next=>exact wpAny_execs_nil z
   | ret u=>exact z
   | brk=>exact z
   | cont=>exact z
 .cases f with
  | next =>obtain ⟨O',H',I2,v,hv,q⟩:=z;exact oX (zP (pos:=q8) (kQ (pos:=q7) (i:=1) (g rfl) (.inl (tl "_law_found" (by decide))))) [] s1 O' H' D I2 ⟨v,hv,q⟩
  | ret u =>obtain ⟨_,_,_,_,_,z⟩:=z;exact z.elim
  | brk =>obtain ⟨_,_,_,z⟩:=z;exact z.elim
  | cont =>obtain ⟨_,_,_,z⟩:=z;exact z.elim
end
end
section
variable {x:Str}
def ErW (P:Program) (w:World) (K:W.Frag) (mg:Mq) (base:Heap) (x:Str):Prop :=
 ∃ (C fI:Addr) (fd:FuncData) (k y:Str) (N:Addr) (b l:List Value) (hd:Bool) (sn:List Str) (sub:List Value) (ab:Bool) (cl:Option Bool) (dd:Option Addr) (k0 k1 k2 k3 k5:Option Value) (d:Value),
  mg x=some (.ref C)/\K.lookup C=some (excClassObj k y C N b l hd sn sub ab cl dd k0 k1 k2 k3 k5 "ValueError.__new__")/\Mr "ValueError" l/\W.keepIn K (.ref C)=true/\(∀ h,K.In h->Ini h C fI)/\XC K C /\
  W.findIn K (.ref C) "at"=some none/\FnOk P w K mg base CX0 1 fI fd ["self", "words", "at"] (vF K)/\Binds K fd ["self", "words", "at"] [d]/\aB (.int 0) d
def sK (mg:Mq) (F H:Hp) (E:XK) (x:Str × Int):Prop:=∀ C dx F' H',mg x.1=some (.ref C)->Step F H F' H'->H' dx=some (.xd [("at",.int x.2)])->E (.ref C) (some dx) H'
def spX (K:W.Frag) (mg:Mq) (g:List T->Option (Str × Int)):Sp:=fun vs H _ E=>∃ F ts x,Same F H/\Tbk K F H/\aD K F ts vs/\g ts=some x/\sK mg F H E x
def spR (X:Cx) (F0 H0:Hp) (E:XK) (g:List Sl->Option (Str × Int)):TS:=fun _ O H=>∃ τ F x,EnvS X F0 H0 τ O F H/\g τ=some x/\sK X.mg F0 H0 E x
structure Lv (X:Cx) (E:XK):Prop where
 hs:X.stack=X.env::X.outer
 hf:X.env.frame=some X.env.locals
 ex:X.ex=[]
 xe:X.xe=fun e s'=>wpAny (model X.prog X.w) X.A (leaving X.env e) (fun _ s2=>CX1 X.prog X.w X.outer X.H₀ X.s₀ E e s2) (fun e2 s2=>CX1 X.prog X.w X.outer X.H₀ X.s₀ E e2 s2) s'
theorem upd3 {H:Hp} {e dx:Addr} {a b c d:HO} (h:dx≠e):L2.aJ (L2.aJ (L2.aJ (L2.aJ H e a) e b) dx c) e d=L2.aJ (L2.aJ H dx c) e d:=by
 funext x;unfold L2.aJ;by_cases h1:x=e
 .rw [if_pos h1,if_pos h1]
 .rw [if_neg h1,if_neg h1];by_cases h2:x=dx
  .rw [if_pos h2,if_neg h1,if_pos h2]
  .simp only [if_neg h1,if_neg h2]
theorem WK {X:Cx} {F0 H0 F H:Hp} {τ:List Sl} {O:L2.St} (e:EnvS X F0 H0 τ O F H):EnvS X.nox F0 H0 τ O F H:=⟨e.st,e.t0,e.len,e.val,e.ownG,e.disG⟩
theorem WL {X:Cx} {F0 H0 F H:Hp} {τ:List Sl} {O:L2.St} (e:EnvS X.nox F0 H0 τ O F H):EnvS X F0 H0 τ O F H:=⟨e.st,e.t0,e.len,e.val,e.ownG,e.disG⟩
theorem WM {X:Cx} {st:Stmt} {t:TS} (h:PS X.nox st t):PS X st t:=fun pj s O H D I hw=>fS (h pj s O H D (I.wish _) hw) (fun _ _ q=>q.unwish) fun _ _ z=>False.elim z
section
variable {X:Cx} {c:Tc} {G:Glo} {k n:Nat} {F0 H0:Hp} {E:XK}
theorem WN {w:Str} {j:Nat} {p q p1 p2:Pos} (lv:Lv X E) (ew:ErW X.prog X.w X.K X.mg X.base x) (hr:Room 2 X.A) (hg:Gl X x) (hd:(x==("__debug__":Str))=false) :
  PS X (.Raise (some (.Call (.Name x p) [.Constant (.str w) j q] [] p1)) none p2) (spR X F0 H0 E fun _=>some (x,0)):=by
 obtain ⟨C,fI,fd,kk,y,N,b,l,hdd,sn,sub,ab,cl,dd,k0,k1,k2,k3,k5,d,m1,m2,m3,m4,m5,m6,m7,m8,m9,m10⟩:=ew;refine iN (MU m6 hr.hd (MW (n:=1) (dvs:=[.int 0]) (E:=E0) m2 m3 m4 m5 m8 hr hg m1 m9 (.cons m10 .nil) AO (bY oV fV) hd)) fun D O H h=>?_;obtain ⟨τ,F,z,en,e1,hw⟩:=h;cases e1;refine ⟨by rw [fD];simp,fun e z he hz=>⟨e,C,z,_,_,rfl,m6,m7,aY,fun z' dx hz' hdx ne=>⟨rfl,e,z',some dx,rfl,aY,fun pj s I=>?_⟩⟩⟩;rw [lv.xe];have hx:H dx=none:=by rw [<- hdx,aN ne]
 refine AY lv.hs lv.hf lv.ex I aY ⟨nB I.hok aY,rfl,rfl,_,rfl,by simp,.inl rfl⟩ fun o'=>?_;rw [uO,upd3 ne];refine hw C dx F _ m1 ((en.st.newH hx).newH (by rw [aN (Ne.symm ne)];exact he)) (by rw [aN ne];exact aY)
theorem WO {f:Str} {a:Expr} {es:List Expr} {xs:List Ev.E} {m:Nat} {p p1 p2:Pos} {ad:Addr} {fd:FuncData} {ps:List Str} (lv:Lv X E) (gd:Gd X c G k) (hN:X.N=c.nm) (hg:glB c.sc f=true) (hp:bF f=true) (h:cL (trV n c) (a::es)=some xs)
  (FX:FnOk X.prog X.w X.K X.mg X.base (CX1 X.prog X.w) m ad fd ps (spX X.K X.mg (G.exc f))) (hr:Room m X.A) (hm:X.mg f=some (.ref ad)) (hk:W.keepIn X.K (.ref ad)=true) (hb:Binds X.K fd ps []) :
  PS X (.Expr (.Call (.Name f p) (a::es) [] p1) p2) (spR X F0 H0 E fun τ=>(aF G xs (aC (aQ (bA xs) τ))).bind fun ts=>G.exc f ts):=by
 have S:=hJ G k n;obtain ⟨x,h1,h'⟩:=obs h;obtain ⟨ys,h2,_⟩:=obs h';have hp':=hp;simp only [bF,Bool.and_eq_true,Bool.not_eq_true'] at hp';refine iN (lT (vB FX hr (gd.gl f hg) hm hk hb .nil (AZ (E:=E) lv.hs lv.hf lv.ex lv.xe) (S.l gd h) hp'.1.1.1 (lG h1 es X.env) (sD p1 X.env h2)) rfl) fun D O H q=>?_;obtain ⟨τ,F,x,en,hf,hw⟩:=q;obtain ⟨F1,e1,s1⟩:=en.frz (bA xs);obtain ⟨ts,g1,g2⟩:=obs hf;refine ⟨_,F1,ts,e1.env hN,g1,fun vs F' H' st r=>?_⟩;show spX X.K X.mg (G.exc f) (vs++[]) H' _ E;rw [dP];exact ⟨F',ts,x,st.fh,(e1.t0.up e1.st).up st,r,g2,fun C dx F2 H2 q1 q2 q3=>hw C dx F2 H2 q1 (e1.st.trans (st.trans q2)) q3⟩
end
theorem WSx {es:List Expr} (h:ks1 es=true):∃ w j q,es=[.Constant (.str w) j q]:=by
 cases es with
 | nil=>cases h
 | cons a t =>
  cases t with
  | cons _ _=>cases h
  | nil =>
   cases a with
   | Constant k j q =>
    cases k with
    | str w=>exact ⟨w,j,q,rfl⟩
    | _=>cases h
   | _=>cases h
theorem WP {a b:Option Expr} (h:raiC a b=some x):∃ p w j q p1,a=some (.Call (.Name x p) [.Constant (.str w) j q] [] p1)/\b=none/\clsN.contains x=true:=by
 cases a with
 | none=>cases h
 | some e =>
  cases b with
  | some _=>cases h
  | none =>
   obtain ⟨y,hy,h⟩:=obs (show Option.bind _ _=_ from h);split at h
   .rename_i hc;cases h;rw [Bool.and_eq_true_iff] at hc;obtain ⟨w,j,q,e⟩:=WSx hc.1;rw [WQ hy,e];exact ⟨_,w,j,q,_,rfl,rfl,hc.2⟩
   .cases h
theorem WR (h:clsN.contains x=true):(x==("__debug__":Str))=false:=by rw [List.contains_iff_mem] at h;revert x;decide
section
variable {X:Cx} {c:Tc} {G:Glo} {k n:Nat} {F0 H0:Hp} {E:XK}
theorem FF (lv:Lv X E) (gd:Gd X c G k) (gn:Gd X.nox c G k) (fx:Fx X.nox c) (tl:Tl X.nox c G) (hr:Room 2 X.A) (ew:∀ x,clsN.contains x=true->glB c.sc x=true->ErW X.prog X.w X.K X.mg X.base x)
  (kx:∀ f ts x,G.exc f ts=some x->∃ m ad fd ps,FnOk X.prog X.w X.K X.mg X.base (CX1 X.prog X.w) m ad fd ps (spX X.K X.mg (G.exc f))/\Room m X.A/\X.mg f=some (.ref ad)/\W.keepIn X.K (.ref ad)=true/\Binds X.K fd ps []) :
  ∀ (sts:List Stmt) (rs:List R1),cL (trR n c) sts=some rs->PSs X sts (spR X F0 H0 E (eT G rs))
 | [],rs,h=>fun pj s O H D I q=>by cases h;obtain ⟨τ,F,x,en,hf,hw⟩:=q;cases hf
 | st::sts,rs,h=>by
  obtain ⟨r,h1,h⟩:=obs h;obtain ⟨rr,h2,h⟩:=obs h;cases h;have ih:=FF lv gd gn fx tl hr ew kx sts rr h2;have now:∀ {g:List Sl->Option (Str × Int)},PS X st (spR X F0 H0 E g)->PSs X (st::sts) (spR X F0 H0 E g):=fun {g} hp pj s O H D I q =>
   wpAny_execs_cons (thn (hp pj s O H { nx:=fun _ _=>False,rt:=fun _ _=>False } I q) fun f s1 z=>by
    cases f with
    | next=>obtain ⟨_,_,_,z⟩:=z;exact z.elim
    | ret _=>obtain ⟨_,_,_,_,_,z⟩:=z;exact z.elim
    | brk=>obtain ⟨_,_,_,z⟩:=z;exact z.elim
    | cont=>obtain ⟨_,_,_,z⟩:=z;exact z.elim)
  have later:∀ {sS:S},PS X.nox st (spS X.nox F0 H0 (evS G sS))->∀ {pj:Pq} {s:Shared} {O:L2.St} {H:Hp} {D:Ends} {τ τ':List Sl} {F:Hp} {x:Str × Int},Inv X pj O H s->EnvS X F0 H0 τ O F H->evS G sS τ=some (.nx τ')->eT G rr τ'=some x->sK X.mg F0 H0 E x ->
    wpAny (model X.prog X.w) X.A (execs (st::sts) X.env) (SP X pj D) X.xe s:=fun {sS} hp {pj s O H D τ τ' F x} I en he hx hw =>
   wpAny_execs_cons (thn (WM hp pj s O H { nx:=spR X F0 H0 E (eT G rr) D,rt:=fun _ _=>False } I ⟨τ,F,_,WK en,he,fun O' F' H' en' _=>⟨τ',F',x,WL en',hx,hw⟩⟩) fun f s1 z=>by
    cases f with
    | next=>obtain ⟨O',H',I',z⟩:=z;exact ih pj s1 O' H' D I' z
    | ret _=>obtain ⟨_,_,_,_,_,z⟩:=z;exact z.elim
    | brk=>obtain ⟨_,_,_,z⟩:=z;exact z.elim
    | cont=>obtain ⟨_,_,_,z⟩:=z;exact z.elim)
  have nrm:(trS n c st).map R1.nrm=some r->PSs X (st::sts) (spR X F0 H0 E (eT G (r::rr))):=fun h pj s O H D I q=>by
   obtain ⟨sS,h3,e⟩:=oms h;subst e;obtain ⟨τ,F,x,en,hf,hw⟩:=q;rw [eT] at hf;obtain ⟨o,g1,g2⟩:=obs hf;cases o with
   | nx τ'=>exact later ((sH gn fx tl n).1 _ _ h3) I en g1 g2 hw
   | rt t=>cases g2
  cases st with
  | Raise a b pos =>
   obtain ⟨x,h3,h4⟩:=obs h1;split at h4
   .rename_i hg;cases h4;obtain ⟨p,w,j,q,p1,rfl,rfl,hc⟩:=WP h3;have e:eT G (.fail x::rr)=fun _=>some (x,0):=by funext τ;rw [eT]
    rw [e];exact now (WN lv (ew x hc hg) hr (gd.gl x hg) (WR hc))
   .cases h4
  | Expr e pos =>
   have h1':(match qY e with
    | some y=>if glB c.sc y.1&&(bF y.1&&!y.2.1.isEmpty) then (cL (trV n c) y.2.1).bind fun xs=>some (R1.exq y.1 xs) else none
    | none=>(trS n c (.Expr e pos)).map .nrm)=some r:=h1
   cases hy:qY e with
   | none=>rw [hy] at h1';exact nrm h1'
   | some y =>
    rw [hy] at h1';have h1':(if glB c.sc y.1&&(bF y.1&&!y.2.1.isEmpty) then (cL (trV n c) y.2.1).bind fun xs=>some (R1.exq y.1 xs) else none)=some r:=h1';split at h1'
    .rename_i hc;rw [bS,bS] at hc;obtain ⟨c1,c2,c3⟩:=hc;obtain ⟨xs,h3,h4⟩:=obs h1';cases h4;have ey:=WQ hy;obtain ⟨f,es,p,p1⟩:=y;dsimp only at c1 c2 c3 h3 ey;subst ey;cases es with
     | nil=>cases c3
     | cons a es =>
      intro pj s O H D I q;obtain ⟨τ,F,x,en,hf,hw⟩:=q;rw [eT] at hf;obtain ⟨ts,g1,g2⟩:=obs hf;cases hx:G.exc f ts with
      | some z =>rw [hx] at g2;cases g2;obtain ⟨m,ad,fd,ps,k1,k2,k3,k4,k5⟩:=kx f ts _ hx;refine now (WO lv gd fx.hN c1 c2 h3 k1 k2 k3 k4 k5) pj s O H D I ⟨τ,F,_,en,?_,hw⟩;show ((aF G xs (aC (aQ (bA xs) τ))).bind fun ts=>G.exc f ts)=_;rw [g1];exact hx
      | none =>
       rw [hx] at g2;obtain ⟨t,g3,g4⟩:=obs (show ((G.call f ts).bind fun _=>eT G rr (aQ (bA xs) τ))=some x from g2);have S:=hJ G k n;have pe:=pO S gn (p:=p) (pos:=p1) c1 c2 h3;have ps:PS X.nox (.Expr (.Call (.Name f p) (a::es) [] p1) pos) (spS X.nox F0 H0 (evS G (.exp (.call f xs)))):=iN (lT pe rfl) fun D O H q=>by obtain ⟨τ,F,o,en,hf,hw⟩:=q;rw [evS] at hf;obtain ⟨F1,e1,s1⟩:=en.frz (aM (.call f xs));obtain ⟨t,ht,hf⟩:=obs hf;cases hf;exact ⟨_,F1,t,e1.env fx.hN,ht,fun v F' H' st r=>hw O F' H' (e1.step st) (s1.trans st.ff)⟩
       refine later ps I en ?_ g4 hw;rw [evS];have:evE G (.call f xs) (aC (aQ (aM (.call f xs)) τ))=some t:=by rw [evE];show ((aF G xs (aC (aQ (bA xs) τ))).bind _)=_;rw [g1];exact g3
       rw [this];rfl
    .cases h1'
  | _=>exact nrm h1
end
end
end Ev.Ex
namespace Ev
open PySem Spec PyProof.Rows L2
theorem FG:∀ (ps:List Str) (us:List Value),us.length=ps.length->∀ n∈ps,((ps.zip us).lookup n).isNone=false
 | p::ps,u::us,hl,n,hn=>by
  rw [List.zip_cons_cons,gJ];cases e:n==p with
  | true=>rfl
  | false=>exact FG ps us (by simpa using hl) n ((omc hn).resolve_left fun z=>by subst z;simp at e)
theorem FH:∀ (ps:List Str) (us:List Value),us.length=ps.length->ps.Nodup->ps.filterMap (fun n=>((ps.zip us).lookup n).map (n,·))=ps.zip us
 | [],us,_,_=>by cases us<;>rfl
 | p::ps,u::us,hl,hn=>by
  rw [gI] at hn;rw [List.zip_cons_cons,jF,gJ,lO];simp only [fU];congr 1;refine Eq.trans (BI fun n h=>?_) (FH ps us (by simpa using hl) hn.2);rw [gJ];cases e:n==p with
  | true=>rw [dO e] at h;exact absurd h hn.1
  | false=>rfl
theorem xH {fd:FuncData} {as:List Arg} {us:List Value} (h:fd.params=⟨[],as,none,[],[],none,[]⟩) (hd:fd.defaults=.none) (hn:(as.map (·.arg)).Nodup) (hl:us.length=(as.map (·.arg)).length):bindArgs fd ⟨us,[]⟩=pure ((as.map (·.arg)).zip us):=by
 have e1:((as.map (·.arg)).filter fun n=>(((as.map (·.arg)).zip us).lookup n).isNone)=[]:=List.filter_eq_nil_iff.mpr fun n hn=>by rw [FG _ us hl n hn];simp
 have e2:=FH _ us hl hn;have e3:seqItems? Value.none=(pure none:Sem _):=rfl;unfold bindArgs;rw [h,hd];dsimp only;generalize as.map (·.arg)=ps at hn hl e1 e2 ⊢;simp only [cV,List.nil_append,List.append_nil,List.forIn_nil,pure_bind,e3,Option.getD_none,List.length_nil,hl,gt_iff_lt,Nat.lt_irrefl,decide_false,Bool.false_and,Bool.false_eq_true,if_false,Nat.zero_sub,List.drop_zero,Nat.sub_zero,List.take_length,e1,List.isEmpty_nil,Bool.not_true,List.drop_length,List.zip_nil_left,e2]
 done
def del (H:Hp) (c:Addr):Hp:=fun b=>if b=c then none else H b
theorem FI {H:Hp} {c:Addr}:del H c c=none:=by unfold del;rw [if_pos rfl]
theorem FJ {H:Hp} {b c:Addr} (h:b≠c):del H c b=H b:=by unfold del;rw [if_neg h]
theorem WS {H:Hp} {b c:Addr} {u:HO} (h:del H c b=some u):b≠c/\H b=some u:=by
 by_cases hb:b=c
 .subst hb;rw [FI] at h;cases h
 .rw [FJ hb] at h;exact ⟨hb,h⟩
abbrev lab (o:Obj):HO:=.frz o (.own 0)
section
variable {P:Program} {w:World} {H H' F F':Hp} {h h':Heap} {c:Addr} {o:Obj} {K:W.Frag}
end
end Ev
namespace Ev.Ex
open PySem Spec PyProof.Rows L2
section
variable {i j:Int}
theorem WT {pos:Pos} {c cv:Value}:∀ (n:Nat) (l:List Value),l.length<=n->TriplesOk l->codeAmong pos (l++[rawInt i,rawInt j,c])=some cv->codeAmong pos l=some cv\/cv=c:=by
 intro n
 induction n with
 | zero =>
  intro l hl ht h;obtain rfl:l=[]:=List.length_eq_zero_iff.mp (by lia);have h:(if (i==pos.line&&j==pos.col)=true then some c else codeAmong pos [])=some cv:=h;split at h
  .cases h;exact .inr rfl
  .exact .inl h
 | succ n ih =>
  intro l hl ht h;unfold TriplesOk at ht;split at ht
  .have h:(if (i==pos.line&&j==pos.col)=true then some c else codeAmong pos [])=some cv:=h;split at h
   .cases h;exact .inr rfl
   .exact .inl h
  .rename_i a s b t d rest;have h:(if (a==pos.line&&b==pos.col)=true then some d else codeAmong pos (rest++[rawInt i,rawInt j,c]))=some cv:=h;show (if (a==pos.line&&b==pos.col)=true then some d else codeAmong pos rest)=some cv\/cv=c;split at h
   .rename_i e;rw [if_pos e];exact .inl h
   .rename_i e;rw [if_neg e];exact ih rest (by simp at hl;lia) ht h
  .exact ht.elim
theorem WU {c:Value}:∀ (n:Nat) (l:List Value),l.length<=n->TriplesOk l->TriplesOk (l++[rawInt i,rawInt j,c]):=by
 intro n
 induction n with
 | zero =>intro l hl ht;obtain rfl:l=[]:=List.length_eq_zero_iff.mp (by lia);exact trivial
 | succ n ih =>
  intro l hl ht;unfold TriplesOk at ht;split at ht
  .exact trivial
  .rename_i a s b t d rest;exact ih rest (by simp at hl;lia) ht
  .exact ht.elim
structure TabK (K:W.Frag) (mg:Mq) (cc p:Addr):Prop where
 tab:pJ K=some p
 hd:∀ h,K.In h->PySem.W.CodeHd h cc p
 bm:∀ h,K.In h->h.BuiltinsAt mg p
abbrev sM:Arguments:=⟨[],[],none,[],[],none,[]⟩
abbrev lH (lb:Expr) (ls:Scope) (cl:List (Str × Addr)) (pm:Value) (cd:Addr) (ctv:Value):Obj:=W.kla_obj "<lambda>" fG sM lb ls cl pm cd ctv
section
variable {lb:Expr} {ls:Scope} {X:Cx} {cc p:Addr}
def spMk (lb:Expr) (ls:Scope) (X:Cx) (cl:List (Str × Addr)):TE:=fun O H Q=>∃ F,Same F H/\Tbk X.K F H /\
 ∀ (f cd:Addr) (pm ctv:Value) (oc:Obj) (vs:Array Value) (t:Nat) (H':Hp),Step F H F H'->H' f=some (lab (lH lb ls cl pm cd ctv))->H' cd=some (lab oc)->oc.data=.fields vs->vs[1]?=some (.str fG t)->Q (V.ref f) H'
theorem WV {F H:Hp} {ps:Array Value} {cd:Addr} {oc:Obj} {vs:Array Value} {t:Nat} (fh:Same F H) (hF:F p=none) (hp:H p=some (.tbl ps)) (ht:TriplesOk ps.toList) (hps:∀ pos cv,codeAmong pos ps.toList=some cv->CdAt H cv)
  (hc:H cd=none) (hd:oc.data=.fields vs) (hv:vs[1]?=some (.str fG t)):Step F H F (aJ (aJ H p (.tbl (ps++#[rawInt i,rawInt j,.ref cd]))) cd (lab oc)):=by
 have hcp:p≠cd:=bQ hp hc;have frz:∀ a o u,H a=some (.frz o u)->aJ (aJ H p (.tbl (ps++#[rawInt i,rawInt j,.ref cd]))) cd (lab oc) a=some (.frz o u):=fun a o u e=>by rw [aN (bQ e hc),aN (iI e hp (by intro z;cases z))];exact e
 refine ⟨⟨fun b u q n=>?_,fun b q=>?_,fun b q=>?_,fun b qs q=>?_⟩,Same.refl F,fun b u q=>?_,fun a z=>.inl z⟩
 .rw [aN (bQ q hc),aN (iI q hp (by intro z;subst z;cases n))];exact q
 .by_cases h1:b=cd
  .subst h1;exact hc
  .rw [aN h1] at q;by_cases h2:b=p
   .subst h2;rw [aY] at q;cases q
   .rw [aN h2] at q;exact q
 .by_cases hb:b=p
  .subst hb;refine ⟨_,by rw [aN hcp];exact aY,?_,fun pos cv e=>?_⟩
   .rw [Array.toList_append];exact WU _ _ (aW _) ht
   .rw [Array.toList_append] at e;rcases WT _ _ (aW _) ht e with e | rfl
    .exact (hps pos cv e).up frz
    .exact ⟨cd,oc,vs,t,rfl,aY,hd,hv⟩
  .obtain ⟨qs,g1,g2,g3⟩:=q;exact ⟨qs,by rw [aN (bQ g1 hc),aN hb];exact g1,g2,fun pos cv e=>(g3 pos cv e).up frz⟩
 .by_cases hb:b=p
  .subst hb;exact ⟨_,by rw [aN hcp];exact aY⟩
  .exact ⟨qs,by rw [aN (bQ q hc),aN hb];exact q⟩
 .have:=fh b u q;rw [aN (bQ this hc),aN (bQ q hF)];exact this
theorem WW {pos:Pos} {cl:List (Str × Addr)} (clo:closureFor ls X.env=pure cl) (hq:X.env.qual++"<lambda>"=fG) (hcode:X.env.code=.ref cc) (T:TabK X.K X.mg cc p):PE X (.Lambda sM lb ls pos) (spMk lb ls X cl):=by
 intro pj s O H Q I h;obtain ⟨F,fh,tb,q⟩:=h;obtain ⟨hF,ps,hp,ht,hps⟩:=tb p T.tab;have hP:s.heap.get? p=some (PySem.W.tabObj ps):=I.hok p _ hp;have hg:=I.mod.glob.keeps I.bk;have hgP:mainGlobals≠p:=fun z=>by obtain ⟨o,es,ep,e,hd,_⟩:=hg;rw [z,hP] at e;cases e;cases hd
 have hb:=T.bm _ I.kIn;have hC:=T.hd _ I.kIn;refine PySem.W.kla_eval rfl ?_;rw [hq];cases hca:codeAmong pos ps.toList with
 | some cv =>obtain ⟨cd,oc,vs,t,rfl,g2,g3,g4⟩:=hps pos cv hca;refine PySem.W.kla_makeFunctionHit clo I.ok.glob hg hcode hC hP ht hca hb fun ctv h' tk hk hsz=>?_;show EP X pj O Q (.ref h'.objs.size) { s with heap:=h'.push (lH lb ls cl ((X.mg "__name__").getD .none) cd ctv),toks:=tk };generalize hlo:lH lb ls cl ((X.mg "__name__").getD .none) cd ctv=lo;have hk':∀ b o,s.heap.get? b=some o->(h'.push lo).get? b=some o:=fun b o e=>aR _ (hk b o e);have hn:H h'.objs.size=none:=I.hok.fresh hsz;have hnew:(h'.push lo).get? h'.objs.size=some lo:=bW _ (by rw [<- hlo];rfl);have un:Un (frs X.stack) [] H (aJ H h'.objs.size (lab lo)) s.heap (h'.push lo):=Un.laid hk' hsz hn;have ok:HOk X.prog X.w (aJ H h'.objs.size (lab lo)) (h'.push lo):=I.hok.laid hk' hsz ⟨hnew,_,hnew⟩;have J:=I.call (g':=s.gens) (d':=s.drawn) (t':=tk) un ok I.bare (fun b z=>absurd z (by simp));exact ⟨V.ref h'.objs.size,_,J,rfl,q h'.objs.size cd ((X.mg "__name__").getD .none) ctv oc vs t _ ((Step.refl fh).newH (o:=lab lo) hn) (by rw [hlo];exact aY) (by rw [aN (bQ g2 hn)];exact g2) g3 g4⟩
 | none =>
  refine PySem.W.kla_makeFunction clo I.ok.glob hg hcode hC hP ht hca hgP hb fun cd ctv h' tk hx hge hlt hrec htb=>?_;obtain ⟨cd2,oc,vs,t,e2,hoc,hd,hv⟩:=hrec;cases e2;show EP X pj O Q (.ref h'.objs.size) { s with heap:=h'.push (lH lb ls cl ((X.mg "__name__").getD .none) cd ctv),toks:=tk };generalize hlo:lH lb ls cl ((X.mg "__name__").getD .none) cd ctv=lo;have hc0:H cd=none:=I.hok.fresh hge;have S1:=WV (i:=pos.line) (j:=pos.col) fh hF hp ht hps hc0 hd hv;have hsz:s.heap.objs.size<=h'.objs.size:=dS hge (Nat.le_of_lt hlt);have hn0:H h'.objs.size=none:=I.hok.fresh hsz;have hpf:p≠h'.objs.size:=bQ hp hn0;have hcf:cd≠h'.objs.size:=bP hlt;have hcp:p≠cd:=bQ hp hc0;generalize hH1:aJ (aJ H p (.tbl (ps++#[rawInt pos.line,rawInt pos.col,.ref cd]))) cd (lab oc)=H1 at S1;have e1:∀ b,b≠p->b≠cd->H1 b=H b:=fun b h1 h2=>by rw [<- hH1,aN h2,aN h1]
  have e2:H1 p=some (.tbl (ps++#[rawInt pos.line,rawInt pos.col,.ref cd])):=by rw [<- hH1,aN hcp];exact aY
  have e3:H1 cd=some (lab oc):=by rw [<- hH1];exact aY
  have hn:H1 h'.objs.size=none:=by rw [e1 _ (Ne.symm hpf) (Ne.symm hcf)];exact hn0
  have hnew:(h'.push lo).get? h'.objs.size=some lo:=bW _ (by rw [<- hlo];rfl);have k1:∀ b o,b≠p->s.heap.get? b=some o->h'.get? b=some o:=fun b o hb e=>hx b o hb e;have old:∀ {b:Addr} {u:HO},H b=some u->b≠p->H1 b=some u:=fun {b u} e hb=>by rw [e1 b hb (bQ e hc0)];exact e
  have xI:Un (frs X.stack) [] H H1 s.heap h':=by
   refine ⟨fun b o e n _ _=>k1 b o (fun z=>by subst z;rw [hp] at n;cases n) e,fun b o e n _ _=>⟨o.slots,k1 b o (fun z=>by subst z;rw [hp] at n;cases n) e⟩,fun b o e n _=>?_,fun b o e _=>?_,fun b xs e=>old e (iI e hp (by intro z;cases z)),fun b o u e=>old e (iI e hp (by intro z;cases z)),fun b qs e=>?_⟩
   .rw [e1 b (fun z=>by subst z;rw [hp] at n;cases n) (bP (dI (aX e) hge))];exact n
   .by_cases hb:b=p
    .subst hb;exact ⟨_,htb⟩
    .exact ⟨o,k1 b o hb e⟩
   .by_cases hb:b=p
    .subst hb;rw [hp] at e;cases e;exact ⟨_,e2⟩
    .exact ⟨#[],by rw [old e hb];simp⟩
  have ok1:HOk X.prog X.w H1 h':=fun b u e=>by
   by_cases hb:b=p
   .subst hb;rw [e2] at e;cases e;exact htb
   .by_cases hbc:b=cd
    .subst hbc;rw [e3] at e;cases e;exact ⟨hoc,_,hoc⟩
    .rw [e1 b hb hbc] at e;exact (I.hok b u e).stay (fun b' o h1 h2=>k1 b' o (by
      rcases h1 with rfl | h1
      .exact hb
      .exact iI h1 hp (by intro z;cases z)) h2) (fun b' q=>old q (iI q hp (by intro z;cases z))) fun b' xs q=>old q (iI q hp (by intro z;cases z))
  have kp:∀ b o,h'.get? b=some o->(h'.push lo).get? b=some o:=fun b o e=>aR _ e;have un:Un (frs X.stack) [] H (aJ H1 h'.objs.size (lab lo)) s.heap (h'.push lo):=xI.trans (Un.laid kp (aW _) hn);have ok:HOk X.prog X.w (aJ H1 h'.objs.size (lab lo)) (h'.push lo):=ok1.laid kp (aW _) ⟨hnew,_,hnew⟩;have J:=I.call (g':=s.gens) (d':=s.drawn) (t':=tk) un ok I.bare (fun b z=>absurd z (by simp));exact ⟨V.ref h'.objs.size,_,J,rfl,q h'.objs.size cd ((X.mg "__name__").getD .none) ctv oc vs t _ (S1.newH (o:=lab lo) hn) (by rw [hlo];exact aY) (by rw [aN hcf];exact e3) hd hv⟩
end
noncomputable def cxL (P:Program) (w:World) (K:W.Frag) (mg:Mq) (base:Heap) (N:List Str) (ls:Scope) (f:Addr) (cd:Value) (cl:List (Str × Addr)) (A:Around) (outer:List PySem.Env) (s:Shared) (H:Hp) (E:XK):Cx where
 prog:=P
 w:=w
 K:=K
 mg:=mg
 base:=base
 A:=A.deeper (W.envX fG ls s.heap.objs.size f cd cl)
 N:=N
 s₀:=s
 H₀:=H
 env:=W.envX fG ls s.heap.objs.size f cd cl
 outer:=outer
 stack:=W.envX fG ls s.heap.objs.size f cd cl::outer
 ex:=[]
 calm:=true
 fn:=fun _=>false
 pn:=[]
 xe:=fun e s'=>wpAny (model P w) (A.deeper (W.envX fG ls s.heap.objs.size f cd cl)) (leaving (W.envX fG ls s.heap.objs.size f cd cl) e) (fun _ s2=>CX1 P w outer H s E e s2) (fun e2 s2=>CX1 P w outer H s E e2 s2) s'
structure Caught (N:List Str) (O:L2.St) (ls:Scope) (cl:List (Str × Addr)) (H:Hp) (h:Heap):Prop where
 kind:ls.kind=.function
 co:ls.isCoroutine=false
 gen:ls.isGenerator=false
 no:∀ x∈ls.names,x.2=.free\/x.2=.globalImplicit
 inj:∀ x y c,cl.lookup x=some c->cl.lookup y=some c->x=y
 has:∀ x,ls.names.lookup x=some .free->∃ c,cl.lookup x=some c
 cell:∀ x c,cl.lookup x=some c->H c=none/\∃ v,h.IsCell c v
 look:∀ (i:Nat) (x:Str) (v:V),N[i]?=some x->O[i]?=some (some v)->ls.names.lookup x=some .free->∃ u c,aB v u/\cl.lookup x=some c/\h.IsCell c (some u)
 len:O.length=N.length
 nd:N.Nodup
theorem Caught.nocell {N:List Str} {O:L2.St} {ls:Scope} {cl:List (Str × Addr)} {H:Hp} {h:Heap} (C:Caught N O ls cl H h) {x:Str} (k:ls.names.lookup x=some .cell\/ls.names.lookup x=some .local):False:=by rcases k with k | k<;>rcases C.no _ (PySem.mem_of_lookup k) with z | z<;>cases z
section
variable {P:Program} {w:World} {K:W.Frag} {mg:Mq} {base:Heap} {G:Glo} {k n:Nat} {N:List Str} {O:L2.St} {ls:Scope} {cl:List (Str × Addr)} {A:Around} {outer:List PySem.Env} {s:Shared} {H F:Hp} {E:XK} {f cd:Addr} {pm ctv:Value}
theorem WX {cdv:Value} {h':Heap} {tk:Tok} {m:Mq} (C:Caught N O ls cl H s.heap) (hd:A.handled=none) (e0:Env0 P w K mg base A outer s H) (hns:h'.Ns s.heap.objs.size m) (hk:∀ b o,s.heap.get? b=some o->h'.get? b=some o) :
  Inv (cxL P w K mg base N ls f cdv cl A outer s H E) [] O H { s with heap:=h',toks:=tk }:=by
 have noA:∀ b:Addr,b∉(cxL P w K mg base N ls f cdv cl A outer s H E).ex:=fun b z=>absurd (show b∈([]:List Addr) from z) (by simp);have ck:∀ {c:Addr} {v:Option Value},s.heap.IsCell c v->h'.IsCell c v:=fun ⟨o,e,d⟩=>⟨o,hk _ _ e,d⟩;refine ⟨⟨e0.mod,C.kind,rfl,rfl,aW _,fun y z d h1 h2=>C.inj y z d h1 h2,fun y hy=>?_,(fun y d z h=>nomatch z),fun _=>hd,Around.frames_deeper e0.frames,.inr ⟨rfl,rfl⟩,fun b z=>absurd z (noA b),e0.bs,e0.bsz,fun b _ _=>noA b,fun b z=>absurd z (noA b),e0.funs,e0.frf⟩,
  rfl,e0.bare,Un.kept hk,⟨_,hns,fun i y v h1 h2 h3=>?_⟩,fun y d h=>?_,e0.hok.fresh (Nat.le_refl _),fun y d h=>(C.cell y d h).1,fun p hp=>absurd (show p∈([]:Pq) from hp) (by simp),e0.hok.kept hk,C.len⟩
 .have hy:ls.names.lookup y=some .cell\/ls.names.lookup y=some .free:=hy;rcases hy with hy | hy
  .exact (C.nocell (.inl hy)).elim
  .exact C.has y hy
 .have h3:ls.names.lookup y=some .local\/ls.names.lookup y=some .cell\/ls.names.lookup y=some .free:=h3;rcases h3 with h3 | h3 | h3
  .exact (C.nocell (.inr h3)).elim
  .exact (C.nocell (.inl h3)).elim
  .obtain ⟨u,c,r,hc,l⟩:=C.look i y v h1 h2 h3;exact ⟨u,r,.inr ⟨.inr h3,c,hc,ck l⟩⟩
 .obtain ⟨v,z⟩:=(C.cell y d h).2;exact ⟨v,ck z⟩
theorem WY {cdv:Value} (C:Caught N O ls cl H s.heap) (hr:Room (k+1) A) (nob:∀ x∈bnames,mg x=none)
  (call:∀ f ts t,kY f=true->G.call f ts=some t->∃ (a:Addr) (fd:FuncData) (ps:List Str),FnOk P w K mg base CX0 k a fd ps (spT K (G.call f))/\mg f=some (.ref a)/\W.keepIn K (.ref a)=true/\Binds K fd ps [])
  : Gd (cxL P w K mg base N ls f cdv cl A outer s H E) ⟨ls,N⟩ G k where
 room:=hr.deeper _
 calm:=rfl
 nob:=nob
 call:=call
 vis:=fun x h=>by
  show ls.names.lookup x=_\/ls.names.lookup x=_\/ls.names.lookup x=_;have h:cY ls x=true:=h;unfold cY at h;cases e:ls.names.lookup x with
  | none=>rw [e] at h;cases h
  | some q =>
   rw [e] at h;cases q with
   | «local»=>exact .inl rfl
   | cell=>exact .inr (.inl rfl)
   | free=>exact .inr (.inr rfl)
   | _=>cases h
 gl:=fun x h=>by show ls.names.lookup x=_;simpa [glB] using h
 cap:=fun x h=>h
 nd:=C.nd
theorem WZ {g:Str} {a:Expr} {es:List Expr} {xs:List Ev.E} {ρ:Env} {ts:List T} {p1 p2:Pos} {m:Nat} {Q:VK} (C:Caught N O ls cl H s.heap) (hr:Room (k+1) A) (nob:∀ x∈bnames,mg x=none)
  (call:∀ f ts t,kY f=true->G.call f ts=some t->∃ (a:Addr) (fd:FuncData) (ps:List Str),FnOk P w K mg base CX0 k a fd ps (spT K (G.call f))/\mg f=some (.ref a)/\W.keepIn K (.ref a)=true/\Binds K fd ps [])

  (kx:∀ f ts x,G.exc f ts=some x->∃ ad fd ps,FnOk P w K mg base (CX1 P w) m ad fd ps (spX K mg (G.exc f))/\mg f=some (.ref ad)/\W.keepIn K (.ref ad)=true/\Binds K fd ps []) (hm:m<=k)
  (e0:Env0 P w K mg base A outer s H) (ho:s.heap.get? f=some (lH (.Call (.Name g p1) (a::es) [] p2) ls cl pm cd ctv)) (hc:∃ oc vs t,s.heap.get? cd=some oc/\oc.data=.fields vs/\vs[1]?=some (.str fG t))
  (hg:glB ls g=true) (hp:bF g=true) (h:cL (trV n ⟨ls,N⟩) (a::es)=some xs) (fh:Same F H) (tb:Tbk K F H) (eg:∀ (x:Str) (i:Nat) (t:T),bF x=true->cC N x=some i->cY ls x=true->ρ[i]?=some (some t)->∃ (j:Nat) (v:V),N[j]?=some x/\O[j]?=some (some v)/\Rep K F t v) (hev:aF G xs ρ=some ts)
  (ans:(∃ t,G.call g ts=some t/\∀ v F' H',Step F H F' H'->Rep K F' t v->Q v H')\/∃ x,G.exc g ts=some x/\sK mg F H E x) :
  codeAny (model P w) A (.call (.ref f) ⟨[],[]⟩) (CR (CX1 P w) outer P w H s Q E) s:=by
 have lim:s.heap.NoLimit:=e0.mod.nolimit.keeps fun b o e=>(e0.bs b o e).1;obtain ⟨oc,vs,tt,h5,h6,h7⟩:=hc;refine W.kla_callFunE hr.depth ho rfl C.co C.gen rfl ⟨cd,oc,vs,tt,rfl,h5,h6,h7⟩ ?_;rw [show bindArgs (W.kla_fn "<lambda>" fG sM (.Call (.Name g p1) (a::es) [] p2) ls cl pm (.ref cd) ctv) ⟨[],[]⟩=pure [] from
  xH (fd:=W.kla_fn "<lambda>" fG sM (.Call (.Name g p1) (a::es) [] p2) ls cl pm (.ref cd) ctv) (as:=[]) (us:=[]) rfl rfl (by simp) rfl]
 refine wpAny_pure (wpAny_newFunctionEnv (fun x hx=>by rcases C.no x hx with z | z<;>rw [z]<;>decide) (fun x hx=>absurd hx (by simp)) (fun h' hns hsb=>?_) C.kind);have hk:∀ b o,s.heap.get? b=some o->h'.get? b=some o:=fun b o e=>hsb.extBut b o (bP (aX e)) (aR _ e);refine ⟨lim.keeps hk,?_⟩;show codeAny _ _ (.expr (.Call (.Name g p1) (a::es) [] p2) (W.envX fG ls s.heap.objs.size f (.ref cd) cl)) _ _;refine W.kla_codeExpr ?_;have I:=WX (f:=f) (E:=E) (cdv:=.ref cd) (tk:=s.toks+0) C hr.hd e0 hns hk;have gd:=WY (f:=f) (E:=E) (outer:=outer) (cdv:=.ref cd) C hr nob call;have S:=hJ G k n;have ee:EnvE (cxL P w K mg base N ls f (.ref cd) cl A outer s H E) ⟨ls,N⟩ ρ F O H:=⟨fh,tb,eg⟩;obtain ⟨x,h1,h'1⟩:=obs h;obtain ⟨ys,h2,_⟩:=obs h'1;have hp':=hp;simp only [bF,Bool.and_eq_true,Bool.not_eq_true'] at hp';rcases ans with ⟨t,ht,q⟩ | ⟨x,hx,hw⟩
 .have pe:=pO S gd (p:=p1) (pos:=p2) hg hp h;refine fS (pe [] _ _ _ (fun v H2=>Q v H2) I ⟨ρ,F,t,ee,?_,q⟩) (fun u s' z=>?_) fun e s' z=>z
  .rw [evE,hev];exact ht
  .obtain ⟨v,H',J,rv,q⟩:=z;exact ⟨v,H',J.os,J.bare,J.base,J.hok,rv,q⟩
 .obtain ⟨ad,fd,ps,k1,k2,k3,k4⟩:=kx g ts x hx;have pe:=vB (X:=cxL P w K mg base N ls f (.ref cd) cl A outer s H E) (p:=p1) (pos:=p2) (E:=E) k1 ((hr.deeper _).mono hm) (gd.gl g hg) k2 k3 k4 .nil (AZ rfl rfl rfl rfl) (S.l gd h) hp'.1.1.1 (lG h1 es _) (sD p2 _ h2);refine fS (pe [] _ _ _ (fun v H2=>Q v H2) I ⟨ρ,F,ts,ee,hev,fun vs F' H' st r=>?_⟩) (fun u s' z=>?_) fun e s' z=>z
  .show spX K mg (G.exc g) (vs++[]) H' _ E;rw [dP];exact ⟨F',ts,x,st.fh,tb.up st,r,hx,fun C dx F2 H2 q1 q2 q3=>hw C dx F2 H2 q1 (st.trans q2) q3⟩
  .obtain ⟨v,H',J,rv,q⟩:=z;exact ⟨v,H',J.os,J.bare,J.base,J.hok,rv,q⟩
end
end
section
def FK (body:List Stmt):Prop:=∀ (X:Cx) (cs:List Addr) (DE:Addr) (O:L2.St) (H:Hp) (s:Shared) (D:Ends),X.stack=X.env::X.outer->X.env.frame=some X.env.locals->(∀ e,TK (mkd X e) cs)->Gl X "DealError"->X.mg "DealError"=some (.ref DE) ->
 Inv X [] O H s->O.length=4->(∀ E,xF (X.wish E) 0 (xG X cs DE D) O H (FE D))->wpAny (model X.prog X.w) X.A (execs body X.env) (SP X [] D) X.xe s
structure ToldS (st:Stmt):Prop where
 sc:FnScope toldN ["_law_deed"] (aK st)
 lo:∀ x∈toldN,(aK st).names.lookup x=some .local
 gl:∀ x∈(("DealError":Str)::toldC)++(["isinstance", "ValueError", "bool"]:List Str),(aK st).names.lookup x=some .globalImplicit
 bd:FK (cW st)
structure ToldK (K:W.Frag) (mg:Mq) (st:Stmt) (ta:Addr) (fd:FuncData) (cs:List Addr) (DE:Addr):Prop where
 fu:Fun K cE cE st ta fd
 bi:Binds K fd ["_law_deed"] []
 s:ToldS st
 mt:mg cE=some (.ref ta)
 md:mg "DealError"=some (.ref DE)
 mc:toldC.map mg=cs.map fun C=>some (.ref C)
 nb:∀ x∈(["isinstance", "ValueError", "bool"]:List Str),mg x=none
 ek:∀ x C j,pC x clsN 0=some j->mg x=some (.ref C)->EK K cs C j/\W.exmOne K (.ref C) (.ref DE)=some true
section
variable {P:Program} {w:World} {K:W.Frag} {mg:Mq} {base:Heap} {G:Glo} {k n:Nat} {N:List Str} {O:L2.St} {ls:Scope} {cl:List (Str × Addr)} {A:Around} {outer:List PySem.Env} {s:Shared} {H F:Hp} {f cd:Addr} {pm ctv:Value}
 {st:Stmt} {ta:Addr} {fd:FuncData} {cs:List Addr} {DE:Addr}
theorem XA {g:Str} {a:Expr} {es:List Expr} {xs:List E} {ρ:Env} {ts:List T} {tt:T} {p1 p2:Pos} {m:Nat} {Q:VK} (TK:ToldK K mg st ta fd cs DE) (C:Caught N O ls cl H s.heap) (hcl:∀ x c,cl.lookup x=some c->c∉frs outer) (hr:Room (k+2) A) (nob:∀ x∈bnames,mg x=none)
  (call:∀ f ts t,kY f=true->G.call f ts=some t->∃ (a:Addr) (fd:FuncData) (ps:List Str),FnOk P w K mg base CX0 k a fd ps (spT K (G.call f))/\mg f=some (.ref a)/\W.keepIn K (.ref a)=true/\Binds K fd ps [])

  (kx:∀ f ts x,G.exc f ts=some x->∃ ad fd ps,FnOk P w K mg base (CX1 P w) m ad fd ps (spX K mg (G.exc f))/\mg f=some (.ref ad)/\W.keepIn K (.ref ad)=true/\Binds K fd ps []) (hm:m<=k)
  (e0:Env0 P w K mg base A outer s H) {oc:Obj} {vs:Array Value} {t0:Nat} (ho:H f=some (lab (lH (.Call (.Name g p1) (a::es) [] p2) ls cl pm cd ctv))) (hc1:H cd=some (lab oc)) (hc2:oc.data=.fields vs) (hc3:vs[1]?=some (.str fG t0))
  (hg:glB ls g=true) (hp:bF g=true) (h:cL (trV n ⟨ls,N⟩) (a::es)=some xs) (fh:Same F H) (tb:Tbk K F H)
  (eg:∀ (x:Str) (i:Nat) (t:T),bF x=true->cC N x=some i->cY ls x=true->ρ[i]?=some (some t)->∃ (j:Nat) (v:V),N[j]?=some x/\O[j]?=some (some v)/\Rep K F t v) (hev:aF G xs ρ=some ts)
  (ht:jM G g ts=some tt) (q:∀ v F' H',Step F H F' H'->Rep K F' tt v->Q v H') :
  codeAny (model P w) A (.call (.ref ta) ⟨[.ref f],[]⟩) (CR CX0 outer P w H s Q E0) s:=by
 obtain ⟨oc',od,kV,doc,pm',an,cdv,ct,osl,rfl,lk,hcd⟩:=TK.fu.ex;have S:=TK.s.sc;have KX:K.In s.heap:=e0.mod.kin.keeps fun b o e=>(e0.bs b o e).1;have lim:s.heap.NoLimit:=e0.mod.nolimit.keeps fun b o e=>(e0.bs b o e).1;have hkind:∀ y∈(["_law_deed"]:List Str).zip [Value.ref f],(aK st).names.lookup y.1=some .local\/((aK st).names.lookup y.1=some .cell/\((cellsFrom (s.heap.objs.size+1) (aK st).names []).lookup y.1).isSome=true):=fun ⟨n,v⟩ hy=>.inl (by cases omg hy;exact TK.s.lo "_law_deed" (by decide));refine codeAny_call_function hr.depth (KX _ _ lk) rfl S.co S.gen rfl (W.codeRec_of KX hcd) (TK.bi s [.ref f] KX rfl _ _ _ _ ?_);refine wpAny_newFunctionEnv_cells S.kind hkind fun env he s1 x=>?_;subst he;refine ⟨lim.keeps x.toInCall.keep,codeAny_func ?_⟩;have I:Inv (gB CX0 P w K mg base toldN cE (aK st) ta cdv A outer s H E0) [] (L2.start toldN [V.ref f]) H s1:=AD S hr.hd e0 rfl (.cons rfl .nil) x;have hr1:=hr.deeper (envOfC cE (aK st) s.heap.objs.size ta cdv);have tk:∀ e,Ex.TK (mkd (gB CX0 P w K mg base toldN cE (aK st) ta cdv A outer s H E0) e) cs:=fun e=>⟨rfl,TK.s.lo,fun y hy=>TK.s.gl y (cK _ hy),TK.nb,TK.mc,by have:=hr1.un;show (A.deeper (envOfC cE (aK st) s.heap.objs.size ta cdv)).units+100<cLine;lia⟩;refine fS (TK.s.bd (gB CX0 P w K mg base toldN cE (aK st) ta cdv A outer s H E0) cs DE _ H s1 { nx:=fun _ H'=>Q .non H',rt:=Q } rfl rfl tk (TK.s.gl _ (by decide)) TK.md I rfl fun E'=>?_) (fun fl s' z=>?_) fun e s' z=>z
 .refine ⟨f,_,_,_,_,_,_,_,_,_,rfl,fun pj s2 I2=>⟨(I2.hok f _ ho).1,?_⟩⟩;have kc:∀ {y:Str} {c:Addr} {v:Option Value},cl.lookup y=some c->s.heap.IsCell c v->s2.heap.IsCell c v:=fun {y c v} hy ⟨o,e,d⟩=>⟨o,I2.base.keep c o e (C.cell y c hy).1 (hcl y c hy) (by simp [gB]),d⟩;have C2:Caught N O ls cl H s2.heap:=⟨C.kind,C.co,C.gen,C.no,C.inj,C.has,fun y c hy=>⟨(C.cell y c hy).1,let ⟨v,z⟩:=(C.cell y c hy).2;⟨v,kc hy z⟩⟩,fun i y v h1 h2 h3=>let ⟨u,c,r,hy,z⟩:=C.look i y v h1 h2 h3;⟨u,c,r,hy,kc hy z⟩,C.len,C.nd⟩;refine WZ C2 hr1 nob call kx hm I2.env0 (I2.hok f _ ho).1 ⟨oc,vs,t0,(I2.hok cd _ hc1).1,hc2,hc3⟩ hg hp h fh tb eg hev ?_;unfold jM at ht;cases hgc:G.call g ts with
  | some t =>rw [hgc] at ht;cases ht;refine .inl ⟨t,rfl,fun v F' H' T r p hp'=>q _ (L2.aJ F' p (.tup [.str "told",v])) _ (T.new hp') ⟨p,_,rfl,aY,.cons rfl (.cons (r.mono (iM (T.fh.free hp'))) rfl)⟩⟩
  | none =>rw [hgc] at ht;obtain ⟨x,hx,ht⟩:=obs ht;obtain ⟨j,hj,rfl⟩:=oms ht;refine .inr ⟨x,hx,fun Cc dx F' H' q1 T q3=>?_⟩;obtain ⟨e1,e2⟩:=TK.ek x.1 Cc j hj q1;exact ⟨e2,Cc,dx,x.2,j,F',rfl,rfl,q3,e1,T.fh,fun O' H2 p g1 g2 T2=>⟨_,g2,q _ _ H2 (T.trans T2) ⟨p,_,rfl,aY,.cons rfl (.cons rfl (.cons rfl rfl))⟩⟩⟩
 .cases fl with
  | ret u =>obtain ⟨v,O',H',J,rv,q⟩:=z;exact ⟨v,H',J.os,J.bare,J.base,J.hok,rv,q⟩
  | next =>obtain ⟨O',H',J,q⟩:=z;exact ⟨.non,H',J.os,J.bare,J.base,J.hok,rfl,q⟩
  | brk=>obtain ⟨_,_,_,z⟩:=z;exact z.elim
  | cont=>obtain ⟨_,_,_,z⟩:=z;exact z.elim
end
end
section
structure LwX (X:Cx) (cc p:Addr):Prop where
 code:X.env.code=.ref cc
 tab:TabK X.K X.mg cc p
 qual:X.env.qual++"<lambda>"=fG
 fn:∀ x,X.fn x=true
section
variable {X:Cx} {c:Tc} {G:Glo} {k:Nat} {cc p:Addr} {st:Stmt} {ta:Addr} {fd:FuncData} {cs:List Addr} {DE:Addr} {m:Nat}
theorem XB (TK:ToldK X.K X.mg st ta fd cs DE) (L:LwX X cc p) (gd:Gd X c G k) (hN:X.N=c.nm) (hr:Room (k+5) X.A)
  (kx:∀ f ts x,G.exc f ts=some x->∃ ad fd ps,FnOk X.prog X.w X.K X.mg X.base (CX1 X.prog X.w) (k+3) ad fd ps (spX X.K X.mg (G.exc f))/\X.mg f=some (.ref ad)/\W.keepIn X.K (.ref ad)=true/\Binds X.K fd ps []):Tl X c G:=by
 intro n r xs hk hne h pj s O H Q I q;obtain ⟨ρ,F,tt,ee,ht,q⟩:=q;obtain ⟨ts,hev,ht⟩:=obs ht;rw [bS,bS,bS] at hk;obtain ⟨c1,c2,c3,c4⟩:=hk;unfold pH at c1;simp only [Bool.and_eq_true,Bool.not_eq_true',beq_iff_eq] at c1;obtain ⟨⟨⟨⟨l1,l2⟩,l3⟩,l4⟩,l5⟩:=c1;have nm:∀ y∈r.ls.names,(y.2=.free/\c.sc.names.lookup y.1=some .cell/\r.ls.names.lookup y.1=some .free)\/y.2=.globalImplicit:=fun y hy=>by
  have:=oml l4 y hy;simp only [Bool.or_eq_true,Bool.and_eq_true,beq_iff_eq] at this;rcases this with ⟨⟨a1,a2⟩,a3,a4⟩ | a
  .exact .inl ⟨a1,a2,a4⟩
  .exact .inr a
 have fr:∀ y:Str,r.ls.names.lookup y=some .free->c.sc.names.lookup y=some .cell/\(y,NameKind.free)∈r.ls.names:=fun y hy=>by
  have:=PySem.mem_of_lookup hy;rcases nm _ this with ⟨_,a,_⟩ | a
  .exact ⟨a,this⟩
  .cases a
 have kin:∀ y:Str,c.sc.names.lookup y=some .cell->X.env.kindOf y=some .cell\/X.env.kindOf y=some .free:=fun y hy=>gd.cap y (.inl hy);have h0:∀ y∈r.ls.names,y.2=.free->∃ a,X.env.cells.lookup y.1=some a:=fun y hy hf=>by
  rcases nm y hy with ⟨_,a,_⟩ | a
  .exact I.ok.has y.1 (kin _ a)
  .rw [a] at hf;cases hf
 have clo:=vQ h0;have sub:∀ x a,(eZ X.env r.ls.names []).lookup x=some a->X.env.cells.lookup x=some a:=pI r.ls.names [] (fun _ _ z=>nomatch z) h0;show wpAny _ _ (eval (.Call (.Name cE r.p4) [r.lam] [] r.p5) X.env) _ _ _;refine wpAny_Call_Name_kw (oW I (gd.gl cE c2) TK.mt ?_ (by decide));obtain ⟨e1,es,hes⟩:∃ a es,r.es=a::es:=by
  cases hh:r.es with
  | nil=>exact absurd hh hne
  | cons a es=>exact ⟨a,es,rfl⟩
 refine W.callWith_K (h₀:=X.base) I.ok.mod.kin TK.fu.kp (thn (bY (WW (pos:=r.p3) (lb:=.Call (.Name r.g r.p1) r.es [] r.p2) clo L.qual L.code L.tab) fV rfl r.p5 pj s O H
  (fun vs H1=>∃ f cd pm ctv oc ws t,vs=[V.ref f]/\Step F H F H1/\H1 f=some (lab (lH (.Call (.Name r.g r.p1) r.es [] r.p2) r.ls (eZ X.env r.ls.names []) pm cd ctv))/\H1 cd=some (lab oc)/\oc.data=.fields ws/\ws[1]?=some (.str fG t)) I
  ⟨F,ee.fh,ee.tb,fun f cd pm ctv oc ws t H1 T a1 a2 a3 a4=>⟨f,cd,pm,ctv,oc,ws,t,rfl,T,a1,a2,a3,a4⟩⟩) fun us s1 z=>?_) rfl rfl
 obtain ⟨vs,H1,I1,rv,f,cd,pm,ctv,oc,ws,t,ev,T,a1,a2,a3,a4⟩:=z;refine ⟨I1.kIn,?_⟩;subst ev;cases rv with
 | cons r1 r2 =>
  cases r2;cases r1;have C:Caught c.nm O r.ls (eZ X.env r.ls.names []) H1 s1.heap:=by
   refine ⟨l1,l2,l3,fun y hy=>(nm y hy).imp (fun z=>z.1) id,fun x y a e1 e2=>I.ok.inj x y a (sub x a e1) (sub y a e2),fun x hx=>Option.isSome_iff_exists.mp (nI _ _ (.inl (fr x hx).2)),fun x a e=>⟨I1.freeC x a (sub x a e),I1.cell x a (sub x a e)⟩,fun i x v e1 e2 e3=>?_,by rw [<- hN];exact I1.len,by rw [<- hN];exact gd.nd⟩;obtain ⟨a,ha⟩:=Option.isSome_iff_exists.mp (nI (env:=X.env) (x:=x) r.ls.names [] (.inl (fr x e3).2));have kx:=kin x (fr x e3).1;obtain ⟨mm,_,hl⟩:=I1.loc;obtain ⟨u,ru,lk⟩:=hl i x v (by rw [hN];exact e1) e2 (.inr kx);rcases lk with ⟨k1,_⟩ | ⟨_,a',k2,k3⟩
   .rcases kx with k | k<;>(rw [k1] at k;cases k)
   .rw [sub x a ha] at k2;cases k2;exact ⟨u,a,ru,ha,k3⟩
  have ncl:∀ x a,(eZ X.env r.ls.names []).lookup x=some a->a∉frs X.stack:=fun x a e z=>by
   rcases omc (I1.stkSub a z) with e2 | z
   .exact I1.cne x a (sub x a e) e2
   .obtain ⟨_,o,ho,_⟩:=I1.ok.funs.mem z;exact absurd (dI (aX ho) (I1.ok.cab x a (L.fn x) (sub x a e))) (gK _)
  rw [hes] at a1 h;refine wpAny_call (codeAny_mono (XA (k:=k+3) TK C ncl hr gd.nob (fun f ts t hp hg=>let ⟨a,fd,ps,F1,r⟩:=gd.call f ts t hp hg;⟨a,fd,ps,F1.mono (Nat.le_add_right _ _),r⟩) kx (aW _) I1.env0 a1 a2 a3 a4 c3 c4 h T.fh (ee.tb.up T) (fun x i t pn hi vx hr'=>?_) hev ht (fun v F' H' T2 rr=>q v F' H' (T.trans T2) rr)) fun rs s' hq=>?_)
  .have:cY c.sc x=true:=by
    have vx:cY r.ls x=true:=vx;unfold cY at vx ⊢;cases e:r.ls.names.lookup x with
    | none=>rw [e] at vx;cases vx
    | some kd =>
     rcases nm _ (PySem.mem_of_lookup e) with ⟨_,a,_⟩ | a
     .rw [show c.sc.names.lookup x=some .cell from a]
     .rw [e,show kd=.globalImplicit from a] at vx;cases vx
   obtain ⟨j,v,g1,g2,g3⟩:=ee.get x i t pn hi this hr';exact ⟨j,v,by rw [<- hN];exact g1,g2,g3⟩
  .cases rs with
   | error e=>exact hq.elim
   | ok fl =>
    cases fl with
    | ret u=>exact I1.after hq
    | next=>exact False.elim hq
    | brk=>exact False.elim hq
    | cont=>exact False.elim hq
end
section
variable {P:Program} {w:World} {K:W.Frag} {mg:Mq} {base:Heap} {R:Pr} {T:Str->Option Rxd}
structure FnX (P:Program) (w:World) (K:W.Frag) (mg:Mq) (base:Heap) (f:Str) (D:Rxd) (st:Stmt) (a:Addr) (fd:FuncData) (ps:List Str):Prop where
 qu:∃ x qual,Fun K x qual st a fd
 sc:FnScope (bU (aK st)) ps (aK st)
 np:ps.length=D.np
 ns:(bU (aK st)).length=D.ns
 tr:cL (trR 60 ⟨aK st,bU (aK st)⟩) (cW st)=some D.body
 mf:mg f=some (.ref a)
 kp:W.keepIn K (.ref a)=true
 bi:Binds K fd ps []
 nt:glB (aK st) cE=false
 ew:∀ x,clsN.contains x=true->glB (aK st) x=true->ErW P w K mg base x
theorem FL {CX:CXT} {n:Nat} (ih:mK P w K mg base R n) (nob:∀ x∈bnames,mg x=none)
  {st:Stmt} {ps:List Str} (sc:FnScope (bU (aK st)) ps (aK st)) {qual:Str} {a:Addr} {cdv:Value} {A:Around} {outer:List PySem.Env} {s:Shared} {H:Hp} {E:XK} (hr:Room n (A.deeper (envOfC qual (aK st) s.heap.objs.size a cdv))) :
  Gd (gB CX P w K mg base (bU (aK st)) qual (aK st) a cdv A outer s H E) ⟨aK st,bU (aK st)⟩ (gO R T n) n :=
 let g:=EZ (outer:=outer) (H:=H) (E:=E) ih nob sc hr
 ⟨g.room,g.calm,g.nob,g.call,g.vis,g.gl,g.cap,g.nd⟩
theorem FM (L:∀ f D,T f=some D->∃ st a fd ps,FnX P w K mg base f D st a fd ps) (kn:∀ n,mK P w K mg base R n) (nob:∀ x∈bnames,mg x=none) :
  ∀ n f ts x,iL R T n f ts=some x->∃ (a:Addr) (fd:FuncData) (ps:List Str),FnOk P w K mg base (CX1 P w) (n+3) a fd ps (spX K mg (iL R T n f))/\mg f=some (.ref a)/\W.keepIn K (.ref a)=true/\Binds K fd ps []
 | 0,f,ts,x,h=>by cases h
 | n+1,f,ts0,x0,h0=>by
  have ih:=FM L kn nob n;obtain ⟨D,hD,_⟩:=obs h0;obtain ⟨st,a,fd,ps,d⟩:=L f D hD;refine ⟨a,fd,ps,?_,d.mf,d.kp,d.bi⟩;obtain ⟨x,qual,FU⟩:=d.qu;obtain ⟨oc,od,kV,doc,pm,an,cdv,ct,osl,rfl,lk,hcd⟩:=FU.ex;have inv:∀ {ts:List Ev.T} {t:Str × Int},iL R T (n+1) f ts=some t->ts.length=D.np/\eT (gO R T n) D.body (bX ⟨D.np,D.ns,[]⟩ ts)=some t:=fun {ts t} h=>by
   rw [iL,hD] at h;simp only [bD] at h;split at h
   .rename_i e;exact ⟨e,h⟩
   .cases h
  refine qN lk hcd d.sc (fun vs H Q E h=>?_) fun A outer s H vs Q E hr h=>?_
  .obtain ⟨F,ts,t,fh,tb,r,h,_⟩:=h;rw [r.length,(inv h).1,d.np]
  obtain ⟨F,ts,t,fh,tb,r,h,hw⟩:=h;obtain ⟨hl,he⟩:=inv h;have gd:=FL (T:=T) (CX:=CX1 P w) (outer:=outer) (H:=H) (E:=E) (kn n) nob d.sc (hr.mono (Nat.le_add_right n 3));refine ⟨_,FF (F0:=F) (H0:=H) (E:=E) ⟨rfl,rfl,rfl,rfl⟩ gd ⟨gd.room,gd.calm,gd.nob,gd.call,gd.vis,gd.gl,gd.cap,gd.nd⟩ ⟨rfl,fun x h=>h,fun _=>rfl,rfl⟩ (fun n r xs hk=>by rw [d.nt,Bool.false_and,Bool.and_false] at hk;cases hk) (hr.mono (by lia)) d.ew (fun g ts z hz=>?_) _ _ d.tr,?_⟩
  .obtain ⟨ad,fd,ps,k1,k2,k3,k4⟩:=ih g ts z hz;exact ⟨n+3,ad,fd,ps,k1,hr,k2,k3,k4⟩
  .exact ⟨_,F,t,xD (D:=⟨D.np,D.ns,[]⟩) d.ns fh tb r,he,hw⟩
def runL (R:Pr) (T:Str->Option Rxd) (D:Fd) (n:Nat) (ts:List Ev.T):Option Ev.T:=if ts.length=D.np then aZ (aG (gO R T n) D.body (bX D ts)) else none
theorem XD {n:Nat} {D:Fd} {st:Stmt} {a:Addr} {fd:FuncData} {ps:List Str} {sT:Stmt} {ta:Addr} {fdT:FuncData} {cs:List Addr} {DE cc p:Addr} (L:∀ f D,T f=some D->∃ st a fd ps,FnX P w K mg base f D st a fd ps) (kn:∀ n,mK P w K mg base R n) (nob:∀ x∈bnames,mg x=none)
  (FU:Fun K "law" "law" st a fd) (sc:FnScope (bU (aK st)) ps (aK st)) (np:ps.length=D.np) (ns:(bU (aK st)).length=D.ns)
  (tr:gP 60 ⟨aK st,bU (aK st)⟩ (cW st)=some D.body) (hc:fd.code=.ref cc) (TB:TabK K mg cc p) (TK:ToldK K mg sT ta fdT cs DE):FnOk P w K mg base CX0 (n+6) a fd ps (spT K (runL R T D n)):=by
 obtain ⟨oc,od,kV,doc,pm,an,cdv,ct,osl,rfl,lk,hcd⟩:=FU.ex;have inv:∀ {ts:List Ev.T} {t:Ev.T},runL R T D n ts=some t->ts.length=D.np/\aZ (aG (gO R T n) D.body (bX D ts))=some t:=fun {ts t} h=>by
  unfold runL at h;split at h
  .rename_i e;exact ⟨e,h⟩
  .cases h
 refine qN (k:=n+5) lk hcd sc (fun vs H Q E h=>?_) fun A outer s H vs Q E hr h=>?_
 .obtain ⟨F,ts,t,fh,tb,r,h,_⟩:=h;rw [r.length,(inv h).1,np]
 obtain ⟨F,ts,t,fh,tb,r,h,q⟩:=h;obtain ⟨hl,he⟩:=inv h;have gd:=FL (T:=T) (CX:=CX0) (outer:=outer) (H:=H) (E:=E) (kn n) nob sc (hr.mono (Nat.le_add_right n 5))
 let X0:=(gB CX0 P w K mg base (bU (aK st)) "law" (aK st) a cdv A outer s H E).nox
 have gn:Gd X0 ⟨aK st,bU (aK st)⟩ (gO R T n) n:=⟨gd.room,gd.calm,gd.nob,gd.call,gd.vis,gd.gl,gd.cap,gd.nd⟩;have fx:Fx X0 ⟨aK st,bU (aK st)⟩:=⟨rfl,fun x h=>h,fun _=>rfl,rfl⟩;have tl:Tl X0 ⟨aK st,bU (aK st)⟩ (gO R T n):=XB (X:=X0) TK ⟨hc,TB,rfl,fun _=>rfl⟩ gn rfl hr (FM L kn nob n);refine ⟨_,((sH (F0:=F) (H0:=H) gn fx tl 60).2 _ _ tr).nox,?_⟩;cases ho:aG (gO R T n) D.body (bX D ts) with
 | none=>rw [ho] at he;cases he
 | some o =>
  refine ⟨bX D ts,F,o,xD ns fh tb r,ho,?_⟩;rw [ho] at he;cases o with
  | nx τ=>cases he;exact fun O' F' H' e _=>q .non F' H' e.st rfl
  | rt t=>cases he;exact fun v F' H' s r=>q v F' H' s r
end
end
end Ev.Ex
namespace Ev
open PySem Spec PyProof.Rows L2
variable {h:Heap} {x:Str} {st:Stmt} {fs:List (Str × Stmt)} {bs:List Str} {p C:Addr} {mg:Mq} {K:W.Frag}
noncomputable def jN (h:Heap) (ns:Addr) (x:Str):Option (Option Value):=match h.get? ns with
 | some ⟨_,_,.dict es _,_⟩=>(match es.toList.find? (·.key.isStr x) with
   | some e=>some (some e.val)
   | none=>if es.toList.any (·.refKey) then none else some none)
 | _=>none
structure FnV where
 name:Str
 qual:Str
 params:Arguments
 body:FuncBody
 scope:Scope
 globals:Addr
 closure:List (Str × Addr)
 defaults:Value
 builtins:Addr
def fnV (f:FuncData):FnV:=⟨f.name,f.qualname,f.params,f.body,f.scope,f.globals,f.closure,f.defaults,f.builtins⟩
def sN (x:Str) (st:Stmt):FnV:=fnV (W.fnOf x x (eR st) (cW st) (aK st) .none .none .none .none none .none .none)
noncomputable def sO (h:Heap) (cd:Value) (q:Str):Bool:=match cd with
 | .ref c=>(match h.get? c with
   | some ⟨_,_,.fields vs,_⟩=>(match vs.toList with | _::.str n _::_=>n==q | _=>false)
   | _=>false)
 | _=>false
noncomputable def sP (h:Heap) (x:Str):Option (FnV × Bool):=match jN h mainGlobals x with
 | some (some (.ref a))=>(match h.get? a with
   | some ⟨_,_,.func f,_⟩=>some (fnV f,sO h f.code x)
   | _=>none)
 | _=>none
def seeT (h:Heap):Nat->Value->Option T
 | _,.none=>some .non
 | _,.bool b=>some (.bl b)
 | _,.int i _=>some (.int i)
 | _,.str x _=>some (.str x)
 | _,_=>none
noncomputable def nW (fs bs:List Str) (h:Heap):List (Option (FnV × Bool)) × List (Option (Option Value)):=(fs.map (sP h),bs.map (jN h mainGlobals))
noncomputable def lI (fs:List (Str × Stmt)) (bs:List Str):List (Option (FnV × Bool)) × List (Option (Option Value)):=(fs.map fun p=>some (sN p.1 p.2,true),bs.map fun _=>some none)
def KH (h:Heap):W.Frag:=(List.range h.objs.size).filterMap fun a=>(h.get? a).map fun o=>(a,o)
theorem XF {a:Addr} {o:Obj} (e:h.get? a=some o):a<h.objs.size:=by
 by_cases hl:a<h.objs.size
 .exact hl
 .have:h.objs[a]?=none:=Array.getElem?_eq_none (Nat.le_of_not_lt hl);unfold Heap.get? at e;rw [this] at e;cases e
theorem FN {f:Addr->Option Obj} {a:Addr}:∀ l:List Addr,((l.filterMap fun b=>(f b).map fun o=>(b,o)).lookup a)=if a∈l then f a else none
 | []=>rfl
 | b::l=>by
  have ih:=FN (f:=f) (a:=a) l;rw [jF];by_cases hab:a=b
  .subst hab;cases hf:f a with
   | none=>simp only [Option.map_none];rw [ih,hf];simp
   | some o=>simp only [fU];rw [List.lookup_cons];simp
  .cases hf:f b with
   | none=>simp only [Option.map_none];rw [ih];simp [hab]
   | some o =>simp only [fU];rw [List.lookup_cons,show (a==b)=false by simpa using hab,ih];simp [hab]
theorem iV (h:Heap) (a:Addr):(KH h).lookup a=h.get? a:=by
 unfold KH;rw [FN];split
 .rfl
 .rename_i hn;cases e:h.get? a with
  | none=>rfl
  | some o=>exact absurd (lR.mpr (XF e)) hn
theorem XG {h':Heap} (k:∀ b o,h.get? b=some o->h'.get? b=some o):(KH h).In h':=fun a o e=>k a o (by rw [<- iV];exact e)
theorem nX {ns:Addr}:W.nsIn (KH h) ns x=jN h ns x:=by unfold W.nsIn jN;rw [iV];rfl
theorem FO {cd:Value} {q:Str}:W.codeIn (KH h) cd q=sO h cd q:=by
 unfold W.codeIn sO;cases cd with
 | ref c=>simp only [iV];rfl
 | _=>rfl
theorem XH (e:sP h x=some (sN x st,true)):∃ f fd,W.nsIn (KH h) mainGlobals x=some (some (.ref f))/\Fun (KH h) x x st f fd:=by
 unfold sP at e;split at e
 .rename_i a ha;split at e
  .rename_i oc od f sl ho;have e:=cP e;have e1:=aV Prod.fst e;have e2:=aV Prod.snd e;dsimp only at e1 e2;obtain ⟨n,q,p,b,sc,g,cl,df,kd,doc,pm,an,cd,ct,bi⟩:=f;unfold sN fnV at e1;dsimp only [W.fnOf] at e1;obtain ⟨rfl,rfl,rfl,rfl,rfl,rfl,rfl,rfl,rfl⟩:=FnV.mk.inj e1;have hl:(KH h).lookup a=some ⟨oc,od,.func (W.fnOf q q (eR st) (cW st) (aK st) .none kd doc pm an cd ct),sl⟩:=by rw [iV];exact ho
   refine ⟨a,_,by rw [nX];exact ha,ME hl (by rw [FO];exact e2) ?_⟩;simp only [W.keepIn,hl]
  .cases e
 .cases e
theorem XI (e:nW (fs.map (·.1)) bs h=lI fs bs) {p:Str × Stmt} (hp:p∈fs):sP h p.1=some (sN p.1 p.2,true):=by have e1:=aV Prod.fst e;unfold nW lI at e1;dsimp only at e1;rw [eP] at e1;exact List.map_inj_left.mp e1 p hp
theorem FP (e:nW (fs.map (·.1)) bs h=lI fs bs) (hx:x∈bs):jN h mainGlobals x=some none:=by have e1:=aV Prod.snd e;unfold nW lI at e1;dsimp only at e1;exact List.map_inj_left.mp e1 x hx
structure St (x:Str) (D:Fd) (st:Stmt) (ps:List Str):Prop where
 sc:FnScope (bU (aK st)) ps (aK st)
 np:ps.length=D.np
 ns:(bU (aK st)).length=D.ns
 tr:gP 60 ⟨aK st,bU (aK st)⟩ (cW st)=some D.body
 bi:∀ (kV doc pm:Value) (an:Option Addr) (cdv ct:Value) (us:List Value),us.length=ps.length->bindArgs (W.fnOf x x (eR st) (cW st) (aK st) .none kV doc pm an cdv ct) ⟨us,[]⟩=pure (ps.zip us)
abbrev Tab:=List (Str × Fd × Stmt × List Str)
def Tab.fns (t:Tab):List (Str × Fd):=t.map fun p=>(p.1,p.2.1)
def Tab.sts (t:Tab):List (Str × Stmt):=t.map fun p=>(p.1,p.2.2.1)
def Tab.pr (t:Tab):Pr:=⟨fun f=>t.fns.lookup f⟩
theorem xJ {α:Type}:∀ {l:List (Str × α)} {f:Str} {D:α},l.lookup f=some D->(f,D)∈l
 | [],_,_,h=>by cases h
 | (g,E)::l,f,D,h=>by
  rw [gJ] at h;split at h
  .rename_i e;cases h;rw [dO e];exact dW
  .exact cK _ (xJ h)
noncomputable def xK (D:Fd) (st:Stmt) (ps:List Str):Bool :=
 (aK st).kind==.function&&!(aK st).isCoroutine&&!(aK st).isGenerator&&decide ((bU (aK st)).Nodup)&&decide ((bU (aK st)).take ps.length=ps) &&
 (ps.all fun x=>(aK st).names.lookup x==some .local||(aK st).names.lookup x==some .cell)&&((aK st).names.all fun y=>!(y.2==.free)) &&
 decide (ps.length=D.np)&&decide ((bU (aK st)).length=D.ns) &&
 (match eR st with | ⟨[],as,none,[],[],none,[]⟩=>decide (as.map (·.arg)=ps) | _=>false)
theorem FQ {D:Fd} {ps:List Str} (h:xK D st ps=true) (tr:gP 60 ⟨aK st,bU (aK st)⟩ (cW st)=some D.body):St x D st ps:=by
 unfold xK at h;simp only [Bool.and_eq_true,Bool.not_eq_true',decide_eq_true_eq,beq_iff_eq] at h;obtain ⟨⟨⟨⟨⟨⟨⟨⟨⟨h1,h2⟩,h3⟩,h4⟩,h5⟩,h6⟩,h7⟩,h8⟩,h9⟩,h10⟩:=h;have hnd:ps.Nodup:=by rw [<- h5];exact h4.sublist (List.take_sublist _ _)
 refine ⟨⟨h1,h2,h3,h4,h5,fun y hy=>by simpa using oml h6 y hy,fun y hy=>by simpa using oml h7 y hy⟩,h8,h9,tr,fun kV doc pm an cdv ct us hl=>?_⟩;split at h10
 .rename_i as ha;rw [qG] at h10;subst h10;exact xH ha rfl hnd hl
 .cases h10
def nY (h:Heap):Option Addr:=(lY (jN h mainGlobals "law")).bind fun f=>vS (h.get? f)
def nZ (h:Heap):Option Addr:=(nY h).bind fun c=>BK 11 (h.get? c)
theorem XJ:pJ (KH h)=nZ h:=by
 unfold pJ nZ nY;rw [nX];cases lY (jN h mainGlobals "law") with
 | none=>rfl
 | some f =>simp only [bD,iV]
def FR:Value->Bool | .str _ _=>true | _=>false
def sQ:Value->Bool | .int _ _=>true | _=>false
def FS:Value->Bool | .bool _=>true | _=>false
def FV (p:Addr):Value->Bool | .ref q=>q==p | _=>false
noncomputable def xL (c p:Addr):Option Obj->Bool
 | some ⟨.type ty,_,.fields vs,_⟩=>ty=="code"&&decide (11<vs.size)&&FV p (vs.getD 11 .none)&&FR (vs.getD 18 .none)&&sQ (vs.getD 7 .none)&&FS (vs.getD 9 .none)&&sQ (vs.getD 10 .none)&&!(c==p)
 | _=>false
noncomputable def xM:Option Obj->Bool
 | some ⟨.none,none,.fields vs,sl⟩=>vs.size==0&&sl.size==0
 | _=>false
noncomputable def sR (p:Addr) (h:Heap):Bool:=match lY (jN h mainGlobals "__builtins__") with
 | some b=>!(b==builtinsNs)&&!(b==mainGlobals)&&!(b==p)&&(match h.get? b with
   | some ⟨.type ty,some d,.plain,_⟩=>ty=="module"&&d==builtinsNs
   | _=>false)
 | none=>false
theorem XM {c:Addr} (e:xL c p (h.get? c)=true):PySem.W.CodeHd h c p:=by
 cases q:h.get? c with
 | none=>rw [q] at e;cases e
 | some o =>
  rw [q] at e;obtain ⟨cl,di,da,sl⟩:=o;cases cl with
  | type ty =>
   cases da with
   | fields vs =>
    have e:(ty=="code"&&decide (11<vs.size)&&FV p (vs.getD 11 .none)&&FR (vs.getD 18 .none)&&sQ (vs.getD 7 .none)&&FS (vs.getD 9 .none)&&sQ (vs.getD 10 .none)&&!(c==p))=true:=e;simp only [Bool.and_eq_true,beq_iff_eq,decide_eq_true_eq,Bool.not_eq_true',beq_eq_false_iff_ne] at e;obtain ⟨⟨⟨⟨⟨⟨⟨rfl,h11⟩,e2⟩,e3⟩,e4⟩,e5⟩,e6⟩,e7⟩:=e;have g11:vs.getD 11 .none=.ref p:=by
     cases g:vs.getD 11 .none with
     | ref r=>rw [g] at e2;rw [dO (show (r==p)=true from e2)]
     | _=>rw [g] at e2;cases e2
    have g18:∃ x t,vs.getD 18 .none=.str x t:=by
     cases g:vs.getD 18 .none with
     | str x t=>exact ⟨x,t,rfl⟩
     | _=>rw [g] at e3;cases e3
    have g7:∃ x t,vs.getD 7 .none=.int x t:=by
     cases g:vs.getD 7 .none with
     | int x t=>exact ⟨x,t,rfl⟩
     | _=>rw [g] at e4;cases e4
    have g9:∃ x,vs.getD 9 .none=.bool x:=by
     cases g:vs.getD 9 .none with
     | bool x=>exact ⟨x,rfl⟩
     | _=>rw [g] at e5;cases e5
    have g10:∃ x t,vs.getD 10 .none=.int x t:=by
     cases g:vs.getD 10 .none with
     | int x t=>exact ⟨x,t,rfl⟩
     | _=>rw [g] at e6;cases e6
    obtain ⟨x18,t18,g18⟩:=g18;obtain ⟨x7,t7,g7⟩:=g7;obtain ⟨x9,g9⟩:=g9;obtain ⟨x10,t10,g10⟩:=g10;refine ⟨_,vs,x18,t18,x7,t7,x9,x10,t10,q,rfl,rfl,?_,g11,g18,g7,g9,g10,e7⟩;rw [mU h11];rw [Array.getD_eq_getD_getElem?,mU h11] at g11;exact aV some g11
   | _=>cases e
  | _=>cases e
theorem XN {h1:Heap} (e:sR p h=true) (KX:(KH h).In h1) (G:h1.Ns mainGlobals mg):∀ h2,(KH h).In h2->h2.BuiltinsAt mg p:=fun h2 K2=>by
 unfold sR at e;cases q:jN h mainGlobals "__builtins__" with
 | none=>rw [q] at e;cases e
 | some r =>
  cases r with
  | none=>rw [q] at e;cases e
  | some v =>
   cases v with
   | ref b =>
    rw [q] at e;have e:(!(b==builtinsNs)&&!(b==mainGlobals)&&!(b==p)&&(match h.get? b with
     | some ⟨.type ty,some d,.plain,_⟩=>ty=="module"&&d==builtinsNs
     | _=>false))=true:=e
    simp only [Bool.and_eq_true,Bool.not_eq_true',beq_eq_false_iff_ne] at e;obtain ⟨⟨⟨e1,e2⟩,e3⟩,e4⟩:=e;split at e4
    .rename_i ty d sl ho;simp only [Bool.and_eq_true,beq_iff_eq] at e4;obtain ⟨rfl,rfl⟩:=e4;exact ⟨b,_,W.mg_of KX G (by rw [nX];exact q),e1,e2,e3,K2 b _ (by rw [iV];exact ho),rfl,rfl,rfl⟩
    .cases e4
   | _=>rw [q] at e;cases e
theorem XO {P:Program} {w:World} {K:W.Frag} {mb:Mq} {k:Nat} {fa a cc:Addr} {fd:FuncData} {g:List T->Option T} {s₁:Shared} {vs:List Value} {ns:List Int}
  (KX:K.In s₁.heap) (hns:s₁.heap.Ns mainGlobals mg) (hb:s₁.heap.Ns builtinsNs mb) (hbb:∀ x:Str,x≠"__name__"->mb x=bootBuiltins x) (hlim:s₁.heap.NoLimit) (hg:s₁.gens=#[])
  (ha:s₁.heap.get? a=some { cls:=.type "list",data:=.seq vs.toArray }) (hi:IntsAre vs ns) (hl:ns.length<=sizeLine) (hr:Room k callerA)
  (hp:s₁.heap.get? p=some (PySem.W.tabObj #[])) (hKp:K.lookup p=none) (htb:∀ q,pJ K=some q->q=p) (hcd:PySem.W.CodeHd s₁.heap cc p)
  (F:∀ base:Heap,K.In base->base.Ns mainGlobals mg->FnOk P w K mg base CX0 k fa fd [x] (spT K g)) (hbind:∀ (s:Shared) (u:Value),BindsTo s fd ⟨[u],[]⟩ [(x,u)])
  (law:g [.lst (ns.map .int)]=some (.bl true)) :
  codeAny (model P w) callerA (.call (.ref fa) ⟨[.ref a],[]⟩) (fun r s'=>r=.ok (.ret (.bool true))/\OldK s₁.heap s'.heap/\s'.os=s₁.os/\AllBare s'.gens) s₁:=by
 have rv:=AN hi;have lenV:=hi.length;have hap:a≠p:=fun z=>by rw [z,hp] at ha;cases ha
 have ri:∀ (F:Hp) (ns:List Int),aD K F (ns.map .int) (ns.map V.int):=fun F ns=>by
  induction ns with
  | nil=>exact rfl
  | cons i r ih=>exact ⟨_,_,rfl,rfl,ih⟩
 have core:∀ H:Hp,Ls K (del H p) a (ns.map V.int)->HOk P w H s₁.heap->(∀ b,H b≠none->b=a\/b=p)->(H a≠none->K.lookup a=none)->H p=some (.tbl #[])->(∀ b,b≠p->H b=none\/∃ ob xs,H b=some (.frz ob xs)) ->
   codeAny (model P w) callerA (.call (.ref fa) ⟨[.ref a],[]⟩) (fun r s'=>r=.ok (.ret (.bool true))/\OldK s₁.heap s'.heap/\s'.os=s₁.os/\AllBare s'.gens) s₁:=by
  intro H hS hok hA hK hHp hO;have base_of:∀ {b:Addr} {o:Obj},s₁.heap.get? b=some o->H b=none->(jY s₁.heap H).get? b=some o:=fun e n=>IX e n;have noA:∀ {b:Addr} {o:Obj} {es:Array DictEntry} {ep:Nat},s₁.heap.get? b=some o->o.data=.dict es ep->H b=none:=fun {b o es ep} e d=>by
   cases q:H b with
   | none=>rfl
   | some u =>
    rcases hA b (by rw [q];simp) with rfl | rfl
    .rw [ha] at e;cases e;cases (show Data.seq vs.toArray _=Data.dict es ep from d)
    .rw [hp] at e;cases e;cases (show Data.fields #[]=Data.dict es ep from d)
  have nsK:∀ {b:Addr} {m:Mq},s₁.heap.Ns b m->(jY s₁.heap H).Ns b m:=fun {b m} ⟨o,es,ep,e,d,r⟩=>⟨o,es,ep,base_of e (noA e d),d,r⟩;have hKb:K.In (jY s₁.heap H):=fun b o e=>base_of (KX b o e) (by
   cases q:H b with
   | none=>rfl
   | some u =>
    rcases hA b (by rw [q];simp) with rfl | rfl
    .rw [hK (by rw [q];simp)] at e;cases e
    .rw [hKp] at e;cases e)
  have hM:Mod K mg (jY s₁.heap H):=⟨hKb,nsK hns,⟨mb,nsK hb,hbb⟩,let ⟨mc,h1,h2⟩:=hlim;⟨mc,nsK h1,h2⟩⟩;have e0:Env0 P w K mg (jY s₁.heap H) callerA [] s₁ H:=⟨rfl,hM,fun b o e=>IY e,Nat.le_of_eq (IW _ _),trivial,fun b hb=>absurd (show b∈([]:List Addr) from hb) (by simp),hok,.of_eq hg⟩;have hsm:Same (del H p) H:=fun b u e=>(WS e).2;have hsp:spT K g [.ref a] H (fun v _=>v=.bl true) fun _ _ _=>False:=⟨del H p,[.lst (ns.map .int)],.bl true,hsm,fun q hq=>by rw [htb q hq];exact ⟨FI,#[],hHp,trivial,fun _ _ z=>by cases z⟩,⟨_,_,rfl,⟨a,_,rfl,hS,ri _ ns⟩,rfl⟩,law,fun v F' H' _ r=>r⟩;refine codeAny_mono ((F _ hKb (nsK hns)).run callerA [] s₁ H ⟨[.ref a],[]⟩ [.ref a] [.ref a] _ _ hr e0 (hbind s₁ (.ref a)) (.cons rfl .nil) hsp) fun r s' h=>?_;cases r with
  | error e=>exact h.elim
  | ok fl =>
   cases fl with
   | next=>exact False.elim h
   | brk=>exact False.elim h
   | cont=>exact False.elim h
   | ret u =>
    obtain ⟨v,H',os,bare,un,hok',r',q⟩:=h;have q':v=.bl true:=q;subst q';obtain rfl:u=Value.bool true:=r';obtain ⟨gA,hp'⟩:=un.tbls p #[] hHp;have hp2:s'.heap.get? p=some { cls:=.none,data:=.fields (#[]++gA) }:=hok' p _ hp';have kept:∀ b o,b≠p->s₁.heap.get? b=some o->s'.heap.get? b=some o:=fun b o hbp e=>by
     rcases hO b hbp with z | ⟨ob,xs,z⟩
     .exact un.keep b o e z (by intro z;exact absurd (show b∈([]:List Addr) from z) (by simp)) (by simp)
     .have z2:=un.frzs b ob _ z;obtain ⟨e1,_⟩:=hok b _ z;obtain ⟨e2,_⟩:=hok' b _ z2;rw [e] at e1;cases e1;exact e2
    refine ⟨rfl,⟨fun b o e=>?_,fun b o e=>?_⟩,os,bare⟩
    .by_cases hbp:b=p
     .subst hbp;rw [hp] at e;cases e;exact .inr (.inl ⟨(hcd.tab hp).isCodeTable,rfl,#[],gA,rfl,hp2⟩)
     .exact .inl (kept b o hbp e)
    .by_cases hbp:b=p
     .subst hbp;exact ⟨_,hp2⟩
     .exact ⟨o,kept b o hbp e⟩
 cases hk:K.lookup a with
 | some o =>
  have e:=KX a o hk;rw [ha] at e;cases e;refine core (aJ (fun _=>none) p (.tbl #[])) (.inr ⟨vs.toArray,_,hk,by rw [kJ,lenV];exact hl,by simpa using rv⟩) (fun b u z=>?_) (fun b z=>?_) (fun z=>?_) aY fun b hb=>.inl (by rw [aN hb])
  .by_cases hb:b=p
   .subst hb;rw [aY] at z;cases z;exact hp
   .rw [aN hb] at z;cases z
  .by_cases hb:b=p
   .exact .inr hb
   .rw [aN hb] at z;exact absurd rfl z
  .rw [aN hap] at z;exact absurd rfl z
 | none =>
  have hHa:aJ (aJ (fun _=>none) a (.frz { cls:=.type "list",data:=.seq vs.toArray } (.lst (ns.map V.int)))) p (.tbl #[]) a=some (.frz { cls:=.type "list",data:=.seq vs.toArray } (.lst (ns.map V.int))):=by rw [aN hap];exact aY
  refine core (aJ (aJ (fun _=>none) a (.frz { cls:=.type "list",data:=.seq vs.toArray } (.lst (ns.map V.int)))) p (.tbl #[])) (.inl (.inr ⟨_,by rw [FJ hap];exact hHa⟩)) (fun b u z=>?_) (fun b z=>?_) (fun _=>hk) aY fun b hb=>?_
  .by_cases hb:b=p
   .subst hb;rw [aY] at z;cases z;exact hp
   .by_cases hba:b=a
    .subst hba;rw [hHa] at z;cases z;exact ⟨ha,by rw [bE];exact hl,vs,_,rv,ha⟩
    .rw [aN hb,aN hba] at z;cases z
  .by_cases hb:b=p
   .exact .inr hb
   .by_cases hba:b=a
    .exact .inl hba
    .rw [aN hb,aN hba] at z;exact absurd rfl z
  .by_cases hba:b=a
   .subst hba;exact .inr ⟨_,_,hHa⟩
   .exact .inl (by rw [aN hb,aN hba])
theorem XQ {o:Option Obj} (h:xM o=true):o=some (PySem.W.tabObj #[]):=by
 cases o with
 | none=>cases h
 | some o =>
  obtain ⟨cl,di,da,sl⟩:=o;cases cl with
  | none =>
   cases di with
   | none =>
    cases da with
    | fields vs =>have h:(vs.size==0&&sl.size==0)=true:=h;simp only [Bool.and_eq_true,beq_iff_eq] at h;rw [Array.eq_empty_of_size_eq_zero h.1,Array.eq_empty_of_size_eq_zero h.2]
    | _=>cases h
   | some _=>cases h
  | _=>cases h
open Ex
def mM (K:W.Frag) (x:Str):Option Addr:=lY (W.nsIn K mainGlobals x)
noncomputable def xN (K:W.Frag) (D:Addr):Bool:=W.findIn K (.ref D) "__getattribute__"==some (some (.builtin "BaseException.__getattribute__"))&&W.findIn K (.ref D) "__getattr__"==some none&&W.mroIn K D (.type "BaseException")==some true&&W.hasDictIn K D &&
 W.findIn K (.ref D) "__class__"==some (some (.builtin "object.__class__"))&&W.specialIn K (.builtin "object.__class__") "__get__"==some (some (.builtin "getset_descriptor.__get__"))&&W.takesIn K (.builtin "object.__class__")==some true &&
 W.mroIn K D (.type "object")==some true&&W.findIn K (.ref D) "at"==some none
theorem XR {D:Addr} (h:xN K D=true):ErC K D:=by unfold xN at h;simp only [Bool.and_eq_true,beq_iff_eq] at h;obtain ⟨⟨⟨⟨⟨⟨⟨⟨h1,h2⟩,h3⟩,h4⟩,h5⟩,h6⟩,h7⟩,h8⟩,h9⟩:=h;exact ⟨h1,h2,h3,h4,h5,h6,h7,h8,h9⟩
noncomputable def xO (K:W.Frag) (cs:List Addr) (DE D:Addr) (j:Nat):Bool:=xN K D&&(cs.map fun C=>W.kitOne K (.ref D) (.ref C))==((List.range 9).map fun i=>some (decide (i=j)))&&W.kitOne K (.ref D) (.type "ValueError")==some true&&decide (j<9)&&W.exmOne K (.ref D) (.ref DE)==some true
theorem XS {cs:List Addr} {DE D:Addr} {j:Nat} (h:xO K cs DE D j=true):EK K cs D j/\W.exmOne K (.ref D) (.ref DE)=some true:=by unfold xO at h;simp only [Bool.and_eq_true,beq_iff_eq,decide_eq_true_eq] at h;obtain ⟨⟨⟨⟨h1,h2⟩,h3⟩,h4⟩,h5⟩:=h;exact ⟨⟨XR h1,h2,h3,h4⟩,h5⟩
def isR:Value->Bool | .ref _=>true | _=>false
noncomputable def sU (C:Addr):List Value->Bool
 | [a,b,x,y,z,u]=>a==.ref C&&isR b&&[x,y,z,u]==veL
 | _=>false
noncomputable def sV:List (Option Value)->Bool
 | [_,_,_,_,k,_]=>k==some (.builtin "ValueError.__new__")
 | _=>false
theorem XT {l:List Value} (h:sU C l=true):∃ D,l=.ref C::.ref D::veL:=by
 unfold sU at h;split at h
 .rename_i a b x y z u;simp only [Bool.and_eq_true,beq_iff_eq] at h;obtain ⟨⟨rfl,h2⟩,h3⟩:=h;cases b with
  | ref D=>exact ⟨D,by rw [h3]⟩
  | _=>cases h2
 .cases h
theorem XU {l:List (Option Value)} (h:sV l=true):∃ k0 k1 k2 k3 k5,l=[k0,k1,k2,k3,some (.builtin "ValueError.__new__"),k5]:=by
 unfold sV at h;split at h
 .rename_i k0 k1 k2 k3 k k5;rw [lQ] at h;exact ⟨k0,k1,k2,k3,k5,by rw [h]⟩
 .cases h
noncomputable def FW (C:Addr):Option Obj->Bool
 | some ⟨c,_,.cls cd,sl⟩=>c==.type "type"&&!cd.hasDel&&cd.hasDict&&sU C cd.mro&&sV sl.toList
 | _=>false
theorem XV (h:FW C (K.lookup C)=true) (hs:W.findIn K (.ref C) "__setattr__"=some (some (.builtin "object.__setattr__"))) :
  (∃ k y N b l hd sn sub ab cl dd k0 k1 k2 k3 k5,K.lookup C=some (excClassObj k y C N b l hd sn sub ab cl dd k0 k1 k2 k3 k5 "ValueError.__new__")/\Mr "ValueError" l)/\XC K C:=by
 cases e:K.lookup C with
 | none=>rw [e] at h;cases h
 | some o =>
  rw [e] at h;obtain ⟨c,dd,da,sl⟩:=o;cases da with
  | cls cd =>
   obtain ⟨nm,bs,mro,N,q,hd,sn,sub,ab,col,dl⟩:=cd;have h:(c==.type "type"&&!dl&&hd&&sU C mro&&sV sl.toList)=true:=h;simp only [Bool.and_eq_true,beq_iff_eq,Bool.not_eq_true'] at h;obtain ⟨⟨⟨⟨h1,h2⟩,h3⟩,h4⟩,h5⟩:=h;obtain ⟨D,h6⟩:=XT h4;obtain ⟨k0,k1,k2,k3,k5,h7⟩:=XU h5;have h8:sl=#[k0,k1,k2,k3,some (.builtin "ValueError.__new__"),k5]:=by rw [<- Array.toArray_toList (xs:=sl),h7]
   subst h1 h2 h3 h6 h8;have ob:∃ k y' N' b l hd sn sub ab cl dd k0 k1 k2 k3 k5,K.lookup C=some (excClassObj k y' C N' b l hd sn sub ab cl dd k0 k1 k2 k3 k5 "ValueError.__new__")/\Mr "ValueError" l:=⟨nm,q,N,bs,_,true,sn,sub,ab,col,dd,k0,k1,k2,k3,k5,e,rfl,rfl,rfl⟩;rw [<- e];exact ⟨ob,ob,⟨_,[C,D],by unfold W.clsIn;rw [e],rfl,rfl⟩,hs⟩
  | _=>cases h
noncomputable def sW (K:W.Frag) (C fI:Addr):Bool:=FW C (K.lookup C)&&W.keepIn K (.ref C)&&W.findIn K (.ref C) "__init__"==some (some (.ref fI))&&W.typeIn K (.ref fI)==some (.type "function")&&W.findIn K (.ref C) "__setattr__"==some (some (.builtin "object.__setattr__"))&&W.findIn K (.ref C) "at"==some none
def XW (K:W.Frag):Option (List Addr):=cL (mM K) clsN
def sX (K:W.Frag) (C:Addr):Option Addr:=lY (W.findIn K (.ref C) "__init__")
noncomputable def ckX (K:W.Frag):Bool:=match XW K,mM K "DealError",mM K "NoRow" with
 | some cs,some DE,some C=>((cs.zipIdx 0).all fun p=>xO K cs DE p.1 p.2)&&(match sX K C with
  | some fI=>sW K C fI
  | none=>false)
 | _,_,_=>false
noncomputable def mN (h:Heap):Option Obj->Option (FnV × Bool × List (Option T))
 | some ⟨_,_,.func f,_⟩=>(match f.defaults with
  | .ref a=>(match h.get? a with
   | some ⟨_,_,.seq qc _,_⟩=>some ({ fnV f with defaults:=.none },sO h f.code f.qualname,qc.toList.map (seeT h 4))
   | _=>none)
  | _=>none)
 | _=>none
def xP (h:Heap):Option (FnV × Bool × List (Option T)):=(mM (KH h) "NoRow").bind fun C=>(sX (KH h) C).bind fun fI=>mN h (h.get? fI)
def mO:Str:="DealError.__init__"
def fnVI (st:Stmt):FnV:=fnV (W.fnOf "__init__" mO (eR st) (cW st) (aK st) .none .none .none .none none .none .none)
noncomputable def mP (st:Stmt):Option (FnV × Bool × List (Option T)):=some (fnVI st,true,[some (.str ""),some (.int 0)])
theorem XX {fI:Addr} (e:mN h (h.get? fI)=mP st):∃ (oc:Value) (od:Option Addr) (kV doc pm:Value) (an:Option Addr) (cdv ct:Value) (osl:Array (Option Value)) (a:Addr) (oT:Obj) (n t1 t2:Nat),
  (KH h).lookup fI=some ⟨oc,od,.func (W.fnOf "__init__" mO (eR st) (cW st) (aK st) (.ref a) kV doc pm an cdv ct),osl⟩/\W.codeIn (KH h) cdv mO=true/\h.get? a=some oT/\oT.data=.seq #[.str "" t1,.int 0 t2] n:=by
 cases q:h.get? fI with
 | none=>rw [q] at e;cases e
 | some o =>
  rw [q] at e;obtain ⟨oc,od,da,osl⟩:=o;cases da with
  | func f =>
   obtain ⟨fn,fq,fp,fb,fsc,fg,fcl,fdf,kd,doc,pm,an,cd,ct,bi⟩:=f;cases fdf with
   | ref a =>
    cases qa:h.get? a with
    | none=>simp only [mN,qa] at e;cases e
    | some oT =>
     obtain ⟨tc,td,tda,tsl⟩:=oT;cases tda with
     | seq qc n =>
      simp only [mN,qa] at e;have e:=cP e;have e1:=aV Prod.fst e;have e2:=aV (fun p=>p.2.1) e;have e3:=aV (fun p=>p.2.2) e;dsimp only at e1 e2 e3;unfold fnVI fnV at e1;dsimp only [W.fnOf] at e1;obtain ⟨rfl,rfl,rfl,rfl,rfl,rfl,rfl,_,rfl⟩:=FnV.mk.inj e1;have hi:∃ t1 t2,qc=#[.str "" t1,.int 0 t2]:=by
       rw [<- Array.toArray_toList (xs:=qc)];have hlen:qc.toList.length=2:=by have:=aV List.length e3;rw [bE] at this;exact this
       match hl:qc.toList,e3,hlen with
       | [x,y],e3,_ =>
        injection e3 with g1 g2;injection g2 with g2 g3;cases x with
        | str z t1 =>
         cases y with
         | int i t2=>cases g1;cases g2;exact ⟨t1,t2,rfl⟩
         | _=>cases g2
        | _=>cases g1
       | [],_,h=>cases h
       | [_],_,h=>cases h
       | _::_::_::_,_,h=>simp at h
      obtain ⟨t1,t2,rfl⟩:=hi;exact ⟨oc,od,kd,doc,pm,an,cd,ct,osl,a,_,n,t1,t2,by rw [iV];exact q,by rw [FO];exact e2,qa,rfl⟩
     | _=>simp only [mN,qa] at e;cases e
   | _=>cases e
  | _=>cases e
structure IniS (st:Stmt):Prop where
 fn:∀ (P:Program) (w:World) (K:W.Frag) (mg:Mq) (base:Heap) (f:Addr) (dV kV doc pm cdv ct oc:Value) (an od:Option Addr) (osl:Array (Option Value)),mg "ValueError"=none->W.codeIn K cdv mO=true ->
  K.lookup f=some ⟨oc,od,.func (W.fnOf "__init__" mO (eR st) (cW st) (aK st) dV kV doc pm an cdv ct),osl⟩->FnOk P w K mg base CX0 1 f (W.fnOf "__init__" mO (eR st) (cW st) (aK st) dV kV doc pm an cdv ct) ["self", "words", "at"] (vF K)
 bi:∀ (a:Addr) (kV doc pm:Value) (an:Option Addr) (cdv ct u1 u2:Value) (t1 t2:Nat),∃ k,bindArgs (W.fnOf "__init__" mO (eR st) (cW st) (aK st) (.ref a) kV doc pm an cdv ct) ⟨[u1,u2],[]⟩=(seqItems? (.ref a) >>= k)/\k (some #[.str "" t1,.int 0 t2])=(pure [(("self":Str),u1),(("words":Str),u2),(("at":Str),Value.int 0 t2)]:Sem (List (Str × Value)))
theorem XY {P:Program} {w:World} {base h0:Heap} {fI:Addr} (I:IniS st) (KX:(KH h0).In h) (hC:mg "NoRow"=some (.ref C)) (nv:mg "ValueError"=none) (ck:sW (KH h0) C fI=true) (e:mN h0 (h0.get? fI)=mP st):ErW P w (KH h0) mg base "NoRow":=by
 unfold sW at ck;simp only [Bool.and_eq_true,beq_iff_eq] at ck;obtain ⟨⟨⟨⟨⟨h1,h2⟩,h3⟩,h4⟩,h5⟩,h6⟩:=ck;obtain ⟨⟨k,y,N,b,l,hd,sn,sub,ab,cl,dd,k0,k1,k2,k3,k5,o1,o2⟩,xc⟩:=XV h1 h5;obtain ⟨oc,od,kV,doc,pm,an,cdv,ct,osl,a,oT,n,t1,t2,g1,g2,g3,g4⟩:=XX e;refine ⟨C,fI,_,k,y,N,b,l,hd,sn,sub,ab,cl,dd,k0,k1,k2,k3,k5,.int 0 t2,hC,o1,o2,h2,fun h' K=>⟨_,K,h3,h4⟩,xc,h6,I.fn P w (KH h0) mg base fI _ _ _ _ _ _ _ _ _ _ nv g2 g1,fun s us K hl=>?_,⟨_,rfl⟩⟩;obtain ⟨u1,u2,rfl⟩:∃ u1 u2,us=[u1,u2]:=by
  rw [eU] at hl;have hl:us.length=2:=by simpa using hl
  rcases us with _ | ⟨a,_ | ⟨b,_ | ⟨_,_⟩⟩⟩<;>simp at hl;exact ⟨a,b,rfl⟩
 .obtain ⟨kk,b1,b2⟩:=I.bi a kV doc pm an cdv ct u1 u2 t1 t2;exact BindsTo.of_defaults (T:=a) (k:=kk) rfl (K a oT (by rw [iV];exact g3)) g4 b1 b2
structure StX (D:Rxd) (st:Stmt) (ps:List Str):Prop where
 np:ps.length=D.np
 ns:(bU (aK st)).length=D.ns
 tr:cL (trR 60 ⟨aK st,bU (aK st)⟩) (cW st)=some D.body
 ew:∀ x,clsN.contains x=true->glB (aK st) x=true->x="NoRow"
abbrev Tax:=List (Str × Rxd × Stmt × List Str)
def Tax.fn (t:Tax):Str->Option Rxd:=fun f=>(t.map fun p=>(p.1,p.2.1)).lookup f
abbrev Tab.stsX (t:Tab) (sL sT:Stmt):List (Str × Stmt):=t.sts++[(("law":Str),sL),(cE,sT)]
noncomputable def seeX (fs bs:List Str) (h:Heap) (p:Addr):(List (Option (FnV × Bool)) × List (Option (Option Value))) × Bool × Bool × Option (FnV × Bool × List (Option T)) :=
 (nW fs bs (h.hide p),xM (h.get? p)&&(nZ (h.hide p)==some p)&&(match nY (h.hide p) with | some c=>xL c p ((h.hide p).get? c) | none=>false)&&sR p (h.hide p),ckX (KH (h.hide p)),xP (h.hide p))
def xQ (fs bs:List Str) (h:Heap):=(nZ h).map (seeX fs bs h)
def bnX:List Str:="ValueError"::bnames
noncomputable def FY (fs:List (Str × Stmt)) (sI:Stmt):PySem.W.Hook :=
 ⟨_,fun s=>xQ (fs.map (·.1)) bnX s.heap,fun _=>some (lI fs bnX,true,true,mP sI),fun _ h=>∃ h0:Heap,(∀ b o,h0.get? b=some o->h.get? b=some o)/\xQ (fs.map (·.1)) bnX h0=some (lI fs bnX,true,true,mP sI),
  fun _ s e=>⟨s.heap,fun _ _ e=>e,e⟩,fun _ _ _ ⟨h0,a,b⟩ k=>⟨h0,fun c o e=>k c o (a c o e),b⟩⟩
theorem FZ {α β:Type} {f:α->Option β}:∀ {l:List α} {r:List β},cL f l=some r->r.length=l.length/\∀ (i:Nat) (x:α),l[i]?=some x->∃ y,f x=some y/\r[i]?=some y
 | [],r,h=>by cases h;exact ⟨rfl,fun i x z=>by simp at z⟩
 | a::l,r,h=>by
  obtain ⟨b,h1,h⟩:=obs h;obtain ⟨bs,h2,h⟩:=obs h;cases h;obtain ⟨g1,g2⟩:=FZ h2;refine ⟨by rw [eV,eV,g1],fun i x z=>?_⟩;cases i with
  | zero=>cases z;exact ⟨b,h1,rfl⟩
  | succ i=>exact g2 i x z
theorem GA:∀ (l:List Str) (x:Str) (i j:Nat),pC x l i=some j->i<=j/\l[j-i]?=some x
 | [],x,i,j,h=>by cases h
 | y::r,x,i,j,h=>by
  unfold pC at h;split at h
  .rename_i e;cases h;subst e;exact ⟨Nat.le_refl _,by simp⟩
  .obtain ⟨h1,h2⟩:=GA r x (i+1) j h;refine ⟨by lia,?_⟩;rw [show j-i=(j-(i+1))+1 by lia];exact h2
theorem sY {h0:Heap} (KX:(KH h0).In h) (G:h.Ns mainGlobals mg) (e:mM (KH h0) x=some C):mg x=some (.ref C):=by
 unfold mM lY at e;split at e
 .rename_i q;cases e;exact W.mg_of KX G q
 .cases e
theorem walk_seeX {l:PySem.W.OpenLaw} {n k:Nat} {q:Program} {loose:List Str} {XP:(Mq)->Heap->Prop} {d:DefRec} {tab:Tab} {tax:Tax} {D:Fd} {sT sI:Stmt}
  (hn:l.most=some n) (hn2:n<=sizeLine) (hdf:d.params.defaults=[]) (hr:Room (k+6) callerA) (hdn:d.name=("law":Str)) (hst:∀ p∈tab,St p.1 p.2.1 p.2.2.1 p.2.2.2) (hnt:∀ p∈tab,glB (aK p.2.2.1) cE=false)
  (hsx:∀ p∈tax,StX p.2.1 p.2.2.1 p.2.2.2/\∃ D',(p.1,D',p.2.2.1,p.2.2.2)∈tab) (ST:ToldS sT) (bT:∀ (kV doc pm:Value) (an:Option Addr) (cdv ct:Value) (us:List Value),us.length=1->bindArgs (W.fnOf cE cE (eR sT) (cW sT) (aK sT) .none kV doc pm an cdv ct) ⟨us,[]⟩=pure ((["_law_deed"]:List Str).zip us)) (SI:IniS sI)
  (SL:St "law" D st [x]) (law:∀ ns:List Int,ns.length<=n->runL tab.pr tax.fn D k [.lst (ns.map .int)]=some (.bl true)) :
  PySem.W.WalkO q loose XP (FY (tab.stsX st sT) sI).says l.row.toRowW d [] (fun f vs=>PySem.call f vs):=by
 refine Att.attach_call hn hdf fun w s₀ s₁ mg mb fa o pm cd doc a vs ns G Y ho hd hcd hmg hobj hints hlen hg=>?_;obtain ⟨h0,k0,e0⟩:=Y;obtain ⟨p,hp,e⟩:=oms (show (nZ h0).map (seeX _ _ h0)=some _ from e0);have eA:nW ((tab.stsX st sT).map (·.1)) bnX (h0.hide p)=lI (tab.stsX st sT) bnX:=aV Prod.fst e;have eB:(xM (h0.get? p)&&(nZ (h0.hide p)==some p)&&(match nY (h0.hide p) with | some c=>xL c p ((h0.hide p).get? c) | none=>false)&&sR p (h0.hide p))=true:=aV (fun z=>z.2.1) e;have eC:ckX (KH (h0.hide p))=true:=aV (fun z=>z.2.2.1) e;have eD:xP (h0.hide p)=mP sI:=aV (fun z=>z.2.2.2) e;simp only [Bool.and_eq_true,beq_iff_eq] at eB;obtain ⟨⟨⟨b1,b2⟩,b3⟩,b4⟩:=eB;have KX:(KH (h0.hide p)).In s₁.heap:=XG fun b o e=>k0 b o (PySem.W.of_hideAll [p] e);have hp0:=k0 p _ (XQ b1);have hpn:(KH (h0.hide p)).lookup p=none:=by rw [iV];exact PySem.W.hideAll_none [p] (.head _)
 clear e e0 hp;generalize h0.hide p=h1 at *;cases hc:nY h1 with
 | none=>rw [hc] at b3;cases b3
 | some cc =>
  rw [hc] at b3;have hcd0:PySem.W.CodeHd h1 cc p:=XM b3;have TB:TabK (KH h1) mg cc p:=⟨by rw [XJ];exact b2,fun h K=>hcd0.keeps fun b o e=>K b o (by rw [iV];exact e),XN b4 KX G.T.g⟩;have nob:∀ x∈bnames,mg x=none:=fun x hx=>PySem.W.mg_none_of KX G.T.g (by rw [nX];exact FP eA (cK _ hx));have nv:mg "ValueError"=none:=PySem.W.mg_none_of KX G.T.g (by rw [nX];exact FP eA (.head _));have fn:∀ q∈tab.stsX st sT,∃ f fd,W.nsIn (KH h1) mainGlobals q.1=some (some (.ref f))/\Fun (KH h1) q.1 q.1 q.2 f fd:=fun q hq=>XH (XI (p:=q) eA hq);have one:∀ q∈tab,∃ a fd,FnD (KH h1) mg q.1 q.2.1 q.2.2.1 a fd q.2.2.2:=fun q hq=>by obtain ⟨f,fd,g1,FU⟩:=fn (q.1,q.2.2.1) (List.mem_append_left _ (fY.mpr ⟨q,hq,rfl⟩));have S:=hst q hq;exact ⟨f,fd,⟨_,_,FU⟩,S.sc,S.np,S.ns,S.tr,W.mg_of KX G.T.g g1,FU.kp,FU.binds S.bi,hnt q hq⟩
  have L:∀ f D,kY f=true->tab.pr.fn f=some D->(∃ st a fd ps,FnD (KH h1) mg f D st a fd ps):=fun f D _ hf=>by obtain ⟨q,hq,e⟩:=omm (xJ (show tab.fns.lookup f=some D from hf));cases e;obtain ⟨a,fd,M⟩:=one q hq;exact ⟨_,_,_,_,M⟩
  have kn:∀ base n,mK l.prog w (KH h1) mg base tab.pr n:=fun base n=>FA L nob n;unfold ckX at eC;split at eC
  .rename_i cls DE CR q1 q2 q3;rw [bS] at eC;obtain ⟨z1,z2⟩:=eC;have hCR:=sY KX G.T.g q3;obtain ⟨fI,hfI,z3,z4⟩:∃ fI,sX (KH h1) CR=some fI/\sW (KH h1) CR fI=true/\mN h1 (h1.get? fI)=mP sI:=by
    cases hi:sX (KH h1) CR with
    | none=>rw [hi] at z2;cases z2
    | some fI =>rw [hi] at z2;refine ⟨fI,rfl,z2,?_⟩;unfold xP at eD;rw [q3,bK,hi] at eD;exact eD
   have ew:∀ base,ErW l.prog w (KH h1) mg base "NoRow":=fun base=>XY SI KX hCR nv z3 z4;obtain ⟨y1,y2⟩:=FZ (show cL (mM (KH h1)) clsN=some cls from q1);have LX:∀ base f D,tax.fn f=some D->∃ st a fd ps,FnX l.prog w (KH h1) mg base f D st a fd ps:=fun base f D hf=>by obtain ⟨q,hq,e⟩:=omm (xJ hf);cases e;obtain ⟨SX,D',hD'⟩:=hsx q hq;obtain ⟨a,fd,M⟩:=one _ hD';exact ⟨_,a,fd,_,M.qu,M.sc,SX.np,SX.ns,SX.tr,M.mg,M.kp,M.bi,M.nt,fun x hx hg=>by rw [SX.ew x hx hg];exact ew base⟩
   obtain ⟨f,fd,g1,FU⟩:=fn ("law",st) (iF _ (.head _));have hm:=W.mg_of KX G.T.g g1;rw [<- hdn,hmg] at hm;cases hm;obtain ⟨ta,fdT,t1,FT⟩:=fn (cE,sT) (iF _ (.tail _ (.head _)));have TK:ToldK (KH h1) mg sT ta fdT cls DE:=by
    refine ⟨FT,FT.binds (ps:=["_law_deed"]) bT,ST,W.mg_of KX G.T.g t1,sY KX G.T.g q2,?_,fun x hx=>?_,fun x Cc j hj hx=>?_⟩
    .refine List.ext_getElem? fun i=>?_;rw [iE,iE];show (clsN[i]?).map mg=_;cases hi:clsN[i]? with
     | none =>have:cls[i]?=none:=oR (by rw [y1];exact List.getElem?_eq_none_iff.mp hi);rw [this];rfl
     | some x =>obtain ⟨y,a1,a2⟩:=y2 i x hi;rw [a2];show some (mg x)=some (some (.ref y));rw [sY KX G.T.g a1]
    .rcases omc hx with rfl | hx
     .exact nob _ (by decide +kernel)
     .rcases omc hx with rfl | hx
      .exact nv
      .cases omg hx;exact nob _ (by decide +kernel)
    .obtain ⟨_,hj2⟩:=GA clsN x 0 j hj;obtain ⟨y,a1,a2⟩:=y2 j x hj2;have:=sY KX G.T.g a1;rw [hx] at this;cases this;exact XS (oml z1 (Cc,j) (List.mk_mem_zipIdx_iff_getElem?.mpr a2))
   have hcc:fd.code=.ref cc:=by
    have g:jN h1 mainGlobals "law"=some (some (.ref fa)):=by rw [<- nX];exact g1
    unfold nY at hc;rw [g] at hc;obtain ⟨oc,od,kV,doc,pm,an,cdv,ct,osl,rfl,lk,_⟩:=FU.ex;have hc:vS (h1.get? fa)=some cc:=hc;rw [<- iV,lk] at hc;show cdv=_;cases cdv with
    | ref c=>cases hc;rfl
    | _=>cases hc
   have hb:∀ (s:Shared) (u:Value),BindsTo s fd ⟨[u],[]⟩ [(x,u)]:=fun s u=>by obtain ⟨oc,od,kV,doc,pm,an,cdv,ct,osl,rfl,_,_⟩:=FU.ex;exact .of_eq (SL.bi kV doc pm an cdv ct [u] rfl)
   exact XO (g:=runL tab.pr tax.fn D k) KX G.T.g G.T.b G.T.builtins G.T.nolimit hg hobj hints (dS hlen hn2) hr hp0 hpn (fun q hq=>by rw [TB.tab] at hq;cases hq;rfl) (TB.hd _ KX)
    (fun base _ _=>XD (LX base) (kn base) nob FU SL.sc SL.np SL.ns SL.tr hcc TB TK) hb (law ns hlen)
  .cases eC
theorem XZ {pt ph q0 q1 q2 q3 q4 q5 q6 q7 q8:Pos} {k0:Stmt} {ks:List Stmt} (so:sJ (k0::ks)) :
  FK [.Try [.Assign [.Name "_law_found" q0] (.Tuple [.Constant (.str "told") 0 q1,.Call (.Name "_law_deed" q2) [] [] q3] 0 q4) q5] [.ExceptHandler (some (.Name "DealError" pt)) (some "e") (k0::ks) ph] [] [] q6,.Return (some (.Name "_law_found" q7)) q8] :=
 fun X cs DE O H s D hs hf t gD mD I hl h=>WJ hs hf t so gD mD I hl h
end Ev
namespace Ev.K04
open PySem
section
variable {P:Pr}
noncomputable def kG:Fd:=⟨3,4,[.asg 3 (.comp (.idx (.w 0) (.c (.int 0))) 1 .plain [.idx (.w 0) (.c (.int 1))] none),
  .ret (.blt .toTuple (.comp (.idx (.w 2) (.mth .index (.w 4) (.w 0))) 1 .plain [.w 2] none))]⟩
noncomputable def oA:Fd:=⟨2,2,[.ite (.cmp .lt (.w 1) (.blt .len (.w 0))) [.ret (.idx (.w 0) (.w 1))] [],
  .ret (.c (.int 0))]⟩
noncomputable def sZ:Fd:=⟨2,3,[.asg 2 (.bin .mod (.bin .mul (.bin .add (.bin .add (.call "_law_cell_at" [.w 0,.w 1]) (.bin .mul (.c (.int 7919)) (.w 1))) (.c (.int 1))) (.c (.int 48271))) (.c (.int 2147483647))),
  .ret (.bin .mod (.bin .add (.bin .add (.bin .mul (.w 2) (.w 2)) (.bin .mul (.c (.int 7)) (.w 2))) (.w 1)) (.c (.int 2147483629)))]⟩
noncomputable def hU:Fd:=⟨2,3,[.asg 2 (.bin .mod (.bin .mul (.bin .add (.bin .add (.w 0) (.bin .mul (.c (.int 104729)) (.w 1))) (.c (.int 17))) (.c (.int 69621))) (.c (.int 2147483647))),
  .ret (.bin .mod (.bin .add (.bin .add (.bin .mul (.w 2) (.w 2)) (.bin .mul (.c (.int 3)) (.w 2))) (.w 1)) (.c (.int 2147483629)))]⟩
noncomputable def lJ:Fd:=⟨1,1,[.ret (.comp (.idx (.w 0) (.c (.int 0))) 1 .plain [.idx (.w 0) (.c (.int 1))] none)]⟩
noncomputable def xR:List S:=[.ret (.idx (.comp (.w 0) 1 .plain [.w 0] (some (.cmp .eq (.idx (.w 0) (.c (.int 0))) (.w 2)))) (.c (.int 0)))]
noncomputable def tD:Fd:=⟨2,2,xR⟩
noncomputable def mQ:Fd:=⟨2,2,[.ret (.blt .toTuple (.comp (.idx (.w 2) (.mth .index (.call "_law_names" [.w 1]) (.w 0))) 1 .plain [.idx (.w 0) (.c (.int 2))] none))]⟩
noncomputable def pP:Fd:=⟨3,4,[.asg 3 (.blt .toTuple (.comp (.idx (.w 2) (.mth .index (.call "_law_names" [.w 1]) (.w 0))) 1 .plain [.w 2] none)),
  .ret (.idx (.lst [.w 3,.c .non]) (.blt .toInt (.cmp .isin (.c .non) (.w 3))))]⟩
noncomputable def xS:List S:=[.ret (.idx (.w 1) (.mth .index (.comp (.idx (.w 0) (.c (.int 0))) 1 .plain [.w 0] none) (.w 2)))]
noncomputable def tE:Fd:=⟨3,3,xS⟩
noncomputable def iP:Fd:=⟨3,9,[.asg 3 (.idx (.w 0) (.c (.int 1))),
  .asg 4 (.idx (.w 3) (.bin .mod (.bin .fdiv (.w 1) (.c (.int 8))) (.blt .len (.w 3)))),
  .asg 5 (.bin .mod (.w 1) (.c (.int 8))),
  .ite (.land (.cmp .gt (.w 2) (.c (.int 1))) (.cmp .gt (.w 5) (.c (.int 4)))) [.asg 6 (.comp (.call "_law_test" [.w 1,.bin .fdiv (.call "_law_drawn" [.w 2,.w 0]) (.c (.int 4)),.bin .sub (.w 3) (.c (.int 1))]) 1 .plain [.tup [.c (.int 1),.c (.int 2)]] none),
  .ret (.idx (.lst [.tup [.c (.str "not"),.idx (.w 6) (.c (.int 0))],.tup [.c (.str "and"),.idx (.w 6) (.c (.int 0)),.idx (.w 6) (.c (.int 1))],.tup [.c (.str "or"),.idx (.w 6) (.c (.int 0)),.idx (.w 6) (.c (.int 1))]]) (.bin .sub (.w 5) (.c (.int 5))))] [],
  .ite (.cmp .eq (.w 5) (.c (.int 0))) [.ret (.tup [.c (.str "empty"),.idx (.w 4) (.c (.int 0))])] [],
  .asg 7 (.comp (.idx (.w 0) (.c (.int 0))) 1 .plain [.w 3] (some (.cmp .eq (.idx (.w 0) (.c (.int 1))) (.idx (.w 5) (.c (.int 1)))))),
  .ite (.cmp .eq (.w 5) (.c (.int 1))) [.ret (.tup [.c (.str "below"),.idx (.w 4) (.c (.int 0)),.idx (.w 7) (.bin .mod (.bin .fdiv (.w 1) (.c (.int 64))) (.blt .len (.w 7)))])] [],
  .asg 8 (.idx (.lst [.tup [.c (.int 0),.c (.int 1),.c (.int 2),.c (.int 3),.neg (.c (.int 5)),.c (.int 999)],.tup [.c (.str ""),.c (.str "a"),.c (.str "b"),.c (.str "ab"),.c (.str "x9"),.c (.str "zzzzzz")]]) (.blt .toInt (.cmp .eq (.idx (.w 4) (.c (.int 1))) (.c (.str "text"))))),
  .ret (.tup [.c (.str "is"),.idx (.w 4) (.c (.int 0)),.idx (.w 8) (.bin .mod (.bin .fdiv (.w 1) (.c (.int 64))) (.c (.int 6)))])]⟩
noncomputable def tF:List S:=[.asg 6 (.bin .fdiv (.call "_law_drawn" [.w 1,.bin .add (.c (.int 10)) (.w 4)]) (.c (.int 4))),
  .ite (.cmp .gt (.bin .mod (.w 6) (.c (.int 4))) (.c (.int 0))) [.app 3 (.tup [.w 5,.idx (.w 2) (.bin .mod (.bin .fdiv (.w 6) (.c (.int 4))) (.c (.int 6))),.cmp .gt (.bin .mod (.bin .fdiv (.w 6) (.c (.int 32))) (.c (.int 3))) (.c (.int 0))])] []]
noncomputable def kH:Fd:=⟨2,10,[.asg 2 (.tup [.c (.str "whole"),.c (.str "whole"),.c (.str "text"),.c (.str "whole"),.c (.str "text"),.c (.str "whole")]),
  .asg 3 (.lst [.tup [.c (.str "id"),.idx (.w 2) (.bin .mod (.w 1) (.c (.int 6))),.c (.bl false)]]),
  .loop [4,5] .enum [.tup [.c (.str "n"),.c (.str "t"),.c (.str "u")]] tF,
  .asg 7 (.comp (.idx (.w 0) (.c (.int 0))) 1 .plain [.w 3] (some (.lnot (.tru (.idx (.w 0) (.c (.int 2))))))),
  .asg 8 (.tup [.c (.str "id")]),
  .ite (.land (.cmp .eq (.bin .mod (.bin .fdiv (.w 1) (.c (.int 8))) (.c (.int 4))) (.c (.int 0))) (.cmp .gt (.blt .len (.w 7)) (.c (.int 1)))) [.asg 8 (.idx (.lst [.tup [.c (.str "id"),.idx (.w 7) (.c (.int 1))],.tup [.idx (.w 7) (.c (.int 1)),.c (.str "id")]]) (.bin .mod (.bin .fdiv (.w 1) (.c (.int 32))) (.c (.int 2))))] [],
  .asg 9 (.bin .mod (.bin .fdiv (.w 1) (.c (.int 64))) (.blt .len (.w 3))),
  .ret (.tup [.w 0,.blt .toTuple (.bin .add (.sli (.w 3) (some (.w 9)) none) (.sli (.w 3) none (some (.w 9)))),.w 8,.tup []])]⟩
noncomputable def lK:Fd:=⟨2,6,[.asg 2 (.lst [.tup []]),
  .loop [3] .plain [.w 1] [.asg 4 (.lst []),
  .loop [5] .plain [.w 2] [.asg 4 (.bin .add (.w 4) (.comp (.bin .add (.w 6) (.tup [.idx (.w 0) (.c (.int 0))])) 1 .plain [.idx (.w 0) (.c (.int 1))] (some (.land (.cmp .eq (.idx (.w 0) (.c (.int 1))) (.w 4)) (.cmp .notin (.idx (.w 0) (.c (.int 0))) (.w 6))))))],
  .asg 2 (.w 4)],
  .ret (.w 2)]⟩
noncomputable def jO:Fd:=⟨3,11,[.asg 3 (.idx (.w 0) (.bin .mod (.bin .fdiv (.w 2) (.c (.int 8))) (.blt .len (.w 0)))),
  .asg 4 (.comp (.idx (.comp (.idx (.w 0) (.c (.int 1))) 1 .plain [.idx (.w 4) (.c (.int 1))] (some (.cmp .eq (.idx (.w 0) (.c (.int 0))) (.w 1)))) (.c (.int 0))) 1 .plain [.idx (.w 3) (.c (.int 2))] none),
  .asg 5 (.call "_law_pairs" [.w 1,.w 4]),
  .ite (.land (.cmp .lt (.bin .mod (.w 2) (.c (.int 8))) (.c (.int 5))) (.cmp .ne (.w 5) (.lst []))) [.asg 6 (.idx (.w 5) (.bin .mod (.bin .fdiv (.w 2) (.c (.int 64))) (.blt .len (.w 5)))),
  .asg 7 (.idx (.tup [.c (.str "along"),.c (.str "stop"),.c (.str "late"),.c (.str "gap"),.c (.str "along"),.c (.str "gap")]) (.bin .mod (.bin .fdiv (.w 2) (.c (.int 1024))) (.c (.int 6)))),
  .asg 8 (.comp (.w 0) 1 .plain [.idx (.w 1) (.c (.int 1))] (some (.land (.cmp .isin (.idx (.w 0) (.c (.int 0))) (.w 7)) (.lnot (.tru (.idx (.w 0) (.c (.int 2)))))))),
  .ite (.land (.cmp .ne (.w 8) (.lst [])) (.cmp .eq (.w 7) (.c (.str "gap")))) [.asg 7 (.c (.str "late"))] [],
  .ret (.tup [.c (.str "refers"),.w 6,.idx (.w 3) (.c (.int 0)),.w 7])] [],
  .asg 9 (.comp (.idx (.w 0) (.c (.int 0))) 1 .plain [.idx (.w 1) (.c (.int 1))] none),
  .ite (.cmp .eq (.bin .mod (.w 2) (.c (.int 8))) (.c (.int 5))) [.asg 10 (.bin .mod (.bin .fdiv (.w 2) (.c (.int 64))) (.blt .len (.w 9))),
  .ret (.tup [.c (.str "unlike"),.sli (.bin .add (.sli (.w 9) (some (.w 10)) none) (.sli (.w 9) none (some (.w 10)))) none (some (.bin .add (.c (.int 1)) (.bin .mod (.bin .fdiv (.w 2) (.c (.int 1024))) (.c (.int 2)))))])] [],
  .ret (.tup [.c (.str "check"),.call "_law_test" [.w 1,.bin .fdiv (.w 2) (.c (.int 64)),.bin .add (.c (.int 1)) (.bin .mod (.bin .fdiv (.w 2) (.c (.int 1024))) (.c (.int 3)))]])]⟩
noncomputable def tG:Fd:=⟨1,11,[.asg 1 (.lst [.c (.str "item"),.c (.str "user"),.c (.str "box"),.c (.str "log")]),
  .asg 2 (.bin .mod (.w 0) (.c (.int 4))),
  .asg 1 (.sli (.bin .add (.sli (.w 1) (some (.w 2)) none) (.sli (.w 1) none (some (.w 2)))) none (some (.idx (.tup [.c (.int 2),.c (.int 1),.c (.int 3),.c (.int 4),.c (.int 2),.c (.int 3)]) (.bin .mod (.bin .fdiv (.w 0) (.c (.int 4))) (.c (.int 6)))))),
  .asg 4 (.comp (.call "_law_bare" [.w 1,.bin .fdiv (.call "_law_drawn" [.w 2,.w 0]) (.c (.int 4))]) 2 .enum [.w 1] none),
  .asg 5 (.tup []),
  .loop [3,6] .enum [.w 4] [.asg 7 (.bin .fdiv (.call "_law_drawn" [.w 0,.bin .add (.c (.int 20)) (.w 3)]) (.c (.int 4))),
  .asg 8 (.lst []),
  .loop [9] .range [.idx (.tup [.c (.int 1),.c (.int 2),.c (.int 0),.c (.int 1),.c (.int 3)]) (.bin .mod (.w 7) (.c (.int 5)))] [.app 8 (.call "_law_rule" [.w 4,.w 6,.bin .fdiv (.call "_law_drawn" [.w 7,.w 9]) (.c (.int 4))])],
  .asg 10 (.blt .toTuple (.comp (.bin .add (.tup [.idx (.w 0) (.c (.int 0)),.blt .toTuple (.idx (.w 0) (.c (.int 1)))]) (.sli (.w 0) (some (.c (.int 2))) none)) 1 .plain [.w 8] none)),
  .asg 5 (.bin .add (.w 5) (.tup [.bin .add (.sli (.w 6) none (some (.c (.int 3)))) (.tup [.w 10])]))],
  .ret (.w 5)]⟩
noncomputable def hW:Fd:=⟨2,2,[.ite (.land (.tru (.idx (.w 0) (.c (.int 2)))) (.cmp .eq (.bin .mod (.w 1) (.c (.int 4))) (.c (.int 0)))) [.ret (.c .non)] [],
  .ite (.cmp .eq (.idx (.w 0) (.c (.int 1))) (.c (.str "text"))) [.ret (.idx (.lst [.c (.str "a"),.c (.str "b"),.c (.str ""),.c (.str "ab"),.c (.str "a"),.c (.str "x9")]) (.bin .mod (.bin .fdiv (.w 1) (.c (.int 4))) (.c (.int 6))))] [],
  .ret (.idx (.lst [.c (.int 0),.c (.int 1),.c (.int 2),.c (.int 3),.c (.int 1),.c (.int 2),.c (.int 4),.neg (.c (.int 5))]) (.bin .mod (.bin .fdiv (.w 1) (.c (.int 4))) (.c (.int 8))))]⟩
noncomputable def xU:List S:=[.ret (.blt .toTuple (.comp (.call "_law_worth" [.w 1,.bin .fdiv (.call "_law_drawn" [.w 3,.w 0]) (.c (.int 4))]) 2 .enum [.idx (.w 0) (.c (.int 1))] none))]
noncomputable def tH:Fd:=⟨2,2,xU⟩
theorem cF {n:Nat} {f:Str} {D:Fd} {ts:List T} (h:P.fn f=some D) (hl:ts.length=D.np):run P (n+1) f ts=aZ (aG (glo P (run P n)) D.body (bX D ts)):=by rw [run,h];simp [hl]
noncomputable def cM (a k:Int):Int:=((a+104729*k+17)*69621%2147483647*((a+104729*k+17)*69621%2147483647)+3*((a+104729*k+17)*69621%2147483647)+k)%2147483629
noncomputable def iW (a k:Int):Int:=((a+7919*k+1)*48271%2147483647*((a+7919*k+1)*48271%2147483647)+7*((a+7919*k+1)*48271%2147483647)+k)%2147483629
theorem xV {a:Int} (h0:0<=a) (h1:a<2147483647):lW a=true:=by unfold lW;rw [dY (by lia),dY (by lia)];rfl
theorem GB (a:Int):lW (a%2147483647)=true:=xV (kM _ (by decide)) (kL _ (by decide))
theorem lL (h:P.fn "_law_drawn"=some hU) (n:Nat) (a k:Int):run P (n+1) "_law_drawn" [.int a,.int k]=some (.int (cM a k)):=by rw [cF h rfl];simp [hU,aG,evS,evE,bX,aC,aQ,aM,Sl.get,Sl.frz,bB,cX,kS,cH,dM,fresh,aZ,glo,SZ,GB,xV,cM]
def gF (ns:List Int) (k:Nat):Int:=ns.getD k 0
theorem hY {xs:List T} {k:Nat} {t:T} (h:xs[k]?=some t):cJ xs (k:Int)=some t:=by have hk:k<xs.length:=(ome h).1;unfold cJ ixI;rw [if_pos (by lia),if_pos (by lia)];simpa using h
theorem YA (h:P.fn "_law_cell_at"=some oA) (n:Nat) (ns:List Int) (k:Nat):run P (n+1) "_law_cell_at" [.lst (ns.map .int),.int (k:Int)]=some (.int (gF ns k)):=by
 rw [cF h rfl];by_cases hk:k<ns.length
 .have e:cJ (ns.map T.int) (k:Int)=some (.int (gF ns k)):=hY (by simp [gF,hk]);have hd:decide ((k:Int)<(ns.length:Int))=true:=dY (by lia);simp [oA,aG,evS,evE,bX,aC,aQ,aM,Sl.get,Sl.frz,aZ,bH,aO,bO,glo,ltC,hk,e]
 .have e:gF ns k=0:=by simp [gF,List.getD_eq_getElem?_getD,List.getElem?_eq_none (Nat.le_of_not_lt hk)]
  simp [oA,aG,evS,evE,bX,aC,aQ,aM,Sl.get,Sl.frz,aZ,bH,aO,bO,glo,ltC,hk,e]
theorem xW (hc:P.fn "_law_cell_at"=some oA) (h:P.fn "_law_mixed"=some sZ) (n:Nat) (ns:List Int) (k:Nat):run P (n+2) "_law_mixed" [.lst (ns.map .int),.int (k:Int)]=some (.int (iW (gF ns k) k)):=by rw [cF h rfl];have e:=YA hc n ns k;simp [sZ,aG,evS,evE,aF,bX,aC,aQ,aM,bA,Sl.get,Sl.frz,bB,cX,kS,cH,dM,fresh,aZ,glo,SZ,GB,xV,iW,e]
structure Col where
 n:Str
 k:Str
 g:Bool
def Col.t (c:Col):T:=.tup [.str c.n,.str c.k,.bl c.g]
noncomputable def kinds6:List Str:=["whole", "whole", "text", "whole", "text", "whole"]
def fW (i:Int):Str:=kinds6.getD (i%6).toNat "whole"
theorem YB {xs:List T} {m:Nat} (hm:xs.length=m) (h0:0<m) (i:Int):cJ xs (i%(m:Int))=some (xs.getD (i%(m:Int)).toNat .non):=by have h1:0<=i%(m:Int):=kM _ (by lia);have h2:i%(m:Int)<(m:Int):=kL _ (by lia);unfold cJ ixI;rw [if_pos h1,if_pos (by lia)];simp only [bD,List.getD_eq_getElem?_getD];rw [bV (by lia)];rfl
theorem GC (i:Int):cJ [.str "whole",.str "whole",.str "text",.str "whole",.str "text",.str "whole"] (i%6)=some (.str (fW i)):=by
 have h1:0<=i%6:=kM _ (by decide);have h2:i%6<6:=kL _ (by decide);have e:=YB (xs:=[.str "whole",.str "whole",.str "text",.str "whole",.str "text",.str "whole"]) (m:=6) rfl (by decide) i;have e':((6:Nat):Int)=6:=rfl;rw [e'] at e;rw [e,fW,kinds6];have:(i%6).toNat=0\/(i%6).toNat=1\/(i%6).toNat=2\/(i%6).toNat=3\/(i%6).toNat=4\/(i%6).toNat=5:=by lia
 rcases this with z | z | z | z | z | z<;>rw [z]<;>rfl
noncomputable def lM (k j:Int) (nm:Str):List Col:=if 0<cM k (10+j)/4%4 then [⟨nm,fW (cM k (10+j)/4/4),decide (0<cM k (10+j)/4/32%3)⟩] else []
noncomputable def bR (k:Int):List Col:=[⟨"id",fW k,false⟩]++(lM k 0 "n"++(lM k 1 "t"++lM k 2 "u"))
end
section
variable {G:Glo} {ss:List S} {τ:List Sl} {t:T}
theorem bG {s:S} {τ':List Sl} (h:evS G s τ=some (.nx τ')):aG G (s::ss) τ=aG G ss τ':=by rw [aG,h];rfl
theorem kI {s:S} (h:evS G s τ=some (.rt t)):aG G (s::ss) τ=some (.rt t):=by rw [aG,h];rfl
theorem bJ {i:Nat} {e:E} {τ':List Sl} (h0:aQ (aM e) τ=τ) (h1:evE G e (aC τ)=some t) (h2:τ.set i (dM e t)=τ'):aG G (.asg i e::ss) τ=aG G ss τ':=bG (by rw [evS,h0,h1,<- h2];rfl)
theorem cZ {e:E} (h0:aQ (aM e) τ=τ) (h1:evE G e (aC τ)=some t):aG G (.ret e::ss) τ=some (.rt t):=kI (by rw [evS,h0,h1];rfl)
theorem eJ {c:E} {a:List S} (h0:aQ (aM c) τ=τ) (h1:evE G c (aC τ)=some (.bl false)):aG G (.ite c a []::ss) τ=aG G ss τ:=bG (by rw [evS,h0,h1];rfl)
theorem jP {c:E} {a b:List S} (h0:aQ (aM c) τ=τ) (h1:evE G c (aC τ)=some (.bl true)) (h2:aG G a τ=some (.rt t)):aG G (.ite c a b::ss) τ=some (.rt t):=kI (by rw [evS,h0,h1];exact h2)
theorem iA {α:Type} {enc:α->T} {f:T->Option (Option T)} (g:α->Option T):∀ {l:List α},(∀ a∈l,f (enc a)=some (g a))->eM f (l.map enc)=some (l.filterMap g)
 | [],_=>rfl
 | a::l,h=>by rw [aT,eM,h a dW,iA g fun b hb=>h b (cK _ hb),jF];cases g a<;>rfl
def fM (cs:List Col):List Str:=cs.filterMap fun c=>if c.g then none else some c.n
noncomputable def iX (k:Int) (cs:List Col):List Str:=if k/8%4=0/\1<(fM cs).length then (if k/32%2=0 then ["id",(fM cs).getD 1 "id"] else [(fM cs).getD 1 "id", "id"]) else ["id"]
def fA {α:Type} (cs:List α) (b:Nat):List α:=cs.drop b++cs.take b
theorem pQ (k j:Int) (nm:Str):(lM k j nm).length<=1:=by unfold lM;split<;>simp
theorem GD (k:Int):1<=(bR k).length/\(bR k).length<=4:=by have h1:=pQ k 0 "n";have h2:=pQ k 1 "t";have h3:=pQ k 2 "u";unfold bR;simp only [List.length_append,List.length_cons,List.length_nil];lia
theorem xX (xs:List T) (b:Nat) (h:b<=xs.length):cut xs (some (b:Int)) none=xs.drop b:=by
 unfold cut gM;have e:min ((b:Int)).toNat xs.length=b:=by lia
 simp only [show ¬ ((b:Int)<0) by lia,if_false,e];rw [List.take_of_length_le];simp
theorem xY (xs:List T) (b:Nat) (h:b<=xs.length):cut xs none (some (b:Int))=xs.take b:=by
 unfold cut gM;have e:min ((b:Int)).toNat xs.length=b:=by lia
 simp only [show ¬ ((b:Int)<0) by lia,if_false,e];simp
noncomputable def gG (nm:Str) (cs:List Col) (key:List Str) (rules:List T):T:=.tup [.str nm,.tup (cs.map Col.t),.tup (key.map .str),.tup rules]
abbrev kd6:T:=.tup [.str "whole",.str "whole",.str "text",.str "whole",.str "text",.str "whole"]
theorem YC {nm:T} {k j:Int} {x:Str} {cs:List Col} {s4 s5 s6:Sl} (e:G.call "_law_drawn" [.int k,.int (10+j)]=some (.int (cM k (10+j)))) (hl:cs.length<=10) :
  ((bI [4,5] (.tup [.int j,.str x]) [.val nm,.val (.int k),.val kd6,.own (cs.map Col.t),s4,s5,s6,.no,.no,.no]).bind fun τ'=>aG G tF τ') =
   some (.nx [.val nm,.val (.int k),.val kd6,.own ((cs++lM k j x).map Col.t),.val (.int j),.val (.str x),.val (.int (cM k (10+j)/4)),.no,.no,.no]):=by
 show aG G tF [.val nm,.val (.int k),.val kd6,.own (cs.map Col.t),.val (.int j),.val (.str x),s6,.no,.no,.no]=_;generalize hq:cM k (10+j)=q at e;refine (bJ (t:=.int (q/4)) (τ':=[.val nm,.val (.int k),.val kd6,.own (cs.map Col.t),.val (.int j),.val (.str x),.val (.int (q/4)),.no,.no,.no]) rfl (by simp [evE,aF,aC,Sl.get,bB,cX,bZ,e]) rfl).trans ?_;unfold lM;rw [hq];have hc:evE G (.cmp .gt (.bin .mod (.w 6) (.c (.int 4))) (.c (.int 0))) (aC [.val nm,.val (.int k),.val kd6,.own (cs.map Col.t),.val (.int j),.val (.str x),.val (.int (q/4)),.no,.no,.no])=some (.bl (decide (0<q/4%4))):=rfl;by_cases h:0<q/4%4
 .rw [if_pos h];have hz:(cs.map Col.t).length<16777216:=by rw [bE];lia
  have e3:evE G (.tup [.w 5,.idx (.w 2) (.bin .mod (.bin .fdiv (.w 6) (.c (.int 4))) (.c (.int 6))),.cmp .gt (.bin .mod (.bin .fdiv (.w 6) (.c (.int 32))) (.c (.int 3))) (.c (.int 0))]) (aC [.val nm,.val (.int k),.val kd6,.own (cs.map Col.t),.val (.int j),.val (.str x),.val (.int (q/4)),.no,.no,.no])=some (Col.t ⟨x,fW (q/4/4),decide (0<q/4/32%3)⟩):=by simp [evE,aF,aC,Sl.get,bB,cH,bZ,aO,GC,bH,Col.t]
  have e4:aG G [.app 3 (.tup [.w 5,.idx (.w 2) (.bin .mod (.bin .fdiv (.w 6) (.c (.int 4))) (.c (.int 6))),.cmp .gt (.bin .mod (.bin .fdiv (.w 6) (.c (.int 32))) (.c (.int 3))) (.c (.int 0))])] [.val nm,.val (.int k),.val kd6,.own (cs.map Col.t),.val (.int j),.val (.str x),.val (.int (q/4)),.no,.no,.no]=some (.nx [.val nm,.val (.int k),.val kd6,.own ((cs++[(⟨x,fW (q/4/4),decide (0<q/4/32%3)⟩:Col)]).map Col.t),.val (.int j),.val (.str x),.val (.int (q/4)),.no,.no,.no]):=by refine (bG (τ':=[.val nm,.val (.int k),.val kd6,.own ((cs++[(⟨x,fW (q/4/4),decide (0<q/4/32%3)⟩:Col)]).map Col.t),.val (.int j),.val (.str x),.val (.int (q/4)),.no,.no,.no]) ?_).trans rfl;rw [evS];refine Eq.trans (aV (fun o=>Option.bind o _) e3) ?_;show (if (cs.map Col.t).length<SZ then _ else none)=_;rw [if_pos hz,iG];rfl
  exact (bG (τ':=[.val nm,.val (.int k),.val kd6,.own ((cs++[(⟨x,fW (q/4/4),decide (0<q/4/32%3)⟩:Col)]).map Col.t),.val (.int j),.val (.str x),.val (.int (q/4)),.no,.no,.no]) (by rw [evS];refine Eq.trans (aV (fun o=>Option.bind o _) (hc.trans (by rw [dY h]))) ?_;exact e4)).trans rfl
 .rw [if_neg h,dP];exact (eJ rfl (hc.trans (by rw [eG h]))).trans rfl
theorem YD {P:Pr} (hd:P.fn "_law_drawn"=some hU) (n:Nat) (nm:T) (k:Int) :
  ∃ a b c,cB (fun x τ=>(bI [4,5] x τ).bind fun τ'=>aG (glo P (run P (n+1))) tF τ')
   [.tup [.int 0,.str "n"],.tup [.int 1,.str "t"],.tup [.int 2,.str "u"]]
   [.val nm,.val (.int k),.val kd6,.own [Col.t ⟨"id",fW k,false⟩],.no,.no,.no,.no,.no,.no] =
   some (.nx [.val nm,.val (.int k),.val kd6,.own ((bR k).map Col.t),.val a,.val b,.val c,.no,.no,.no]):=by
 have c0:=pQ k 0 "n";have c1:=pQ k 1 "t";have st:=fun (j:Int) (x:Str) (cs:List Col) (s4 s5 s6:Sl) (hl:cs.length<=10)=>YC (G:=glo P (run P (n+1))) (nm:=nm) (k:=k) (j:=j) (x:=x) (cs:=cs) (s4:=s4) (s5:=s5) (s6:=s6) (lL hd n k (10+j)) hl;refine ⟨.int 2,.str "u",.int (cM k (10+2)/4),?_⟩;rw [cB,show [Col.t ⟨"id",fW k,false⟩]=([⟨"id",fW k,false⟩]:List Col).map Col.t from rfl,st 0 "n" _ _ _ _ (by simp)];dsimp only [bD];rw [cB,st 1 "t" _ _ _ _ (by simp;lia)];dsimp only [bD];rw [cB,st 2 "u" _ _ _ _ (by simp;lia)];dsimp only [bD];rw [cB,bR,jW,jW]
end
section
theorem YE (cs:List Col):(cs.filterMap fun c=>if c.g then none else some (T.str c.n))=(fM cs).map T.str:=by
 unfold fM
 induction cs with
 | nil=>rfl
 | cons c cs ih=>simp only [List.filterMap_cons];cases c.g<;>simp [ih]
theorem eE (a:T) (r:List T):cJ (a::r) 0=some a:=by simp [cJ,ixI]
theorem cS (a b:T) (r:List T):cJ (a::b::r) 1=some b:=by have:=hY (xs:=a::b::r) (k:=1) (t:=b) rfl;exact this
theorem gH (a b c:T) (r:List T):cJ (a::b::c::r) 2=some c:=by have:=hY (xs:=a::b::c::r) (k:=2) (t:=c) rfl;exact this
theorem YF (a b c d:T) (r:List T):cJ (a::b::c::d::r) 3=some d:=by have:=hY (xs:=a::b::c::d::r) (k:=3) (t:=d) rfl;exact this
theorem YG (i:Int):i%2=0\/i%2=1:=by lia
theorem GE {G:Glo} {i:Nat} {e:E} {ss:List S} {τ τ0 τ':List Sl} {t:T} (h0:aQ (aM e) τ=τ0) (h1:evE G e (aC τ0)=some t) (h2:τ0.set i (dM e t)=τ'):aG G (.asg i e::ss) τ=aG G ss τ':=bG (by rw [evS,h0,h1,<- h2];rfl)
noncomputable def bareT2:List S:=kH.body.drop 3
section
variable {G:Glo} {nm CL KT PL:T} {k:Int} {s4 s5 s6:Sl} {l p:Nat}
theorem YH {by_:Nat} {cs:List T} {id1:Str} {key:List Str} (hcs:CL=.lst cs) (hl:0<cs.length) (hz:cs.length<=1000) (hb:k/64%(cs.length:Int)=(by_:Int)) (hbl:by_<=cs.length)
  (lp:bO .len PL=some (.int (p:Int))) (ip:1<p->aO PL (.int 1)=some (.str id1)) (hk:key=if k/8%4=0/\1<p then (if k/32%2=0 then ([("id":Str),id1]:List Str) else ([id1, "id"]:List Str)) else (["id"]:List Str)) :
  aG G (bareT2.drop 1) [.val nm,.val (.int k),.val KT,.val CL,s4,s5,s6,.val PL,.no,.no]=some (.rt (.tup [nm,.tup (cs.drop by_++cs.take by_),.tup (key.map .str),.tup []])):=by
 refine (bJ (t:=.tup [.str "id"]) (τ':=[.val nm,.val (.int k),.val KT,.val CL,s4,s5,s6,.val PL,.val (.tup [.str "id"]),.no]) rfl (by simp [evE,aF]) rfl).trans ?_;have hc:evE G (.land (.cmp .eq (.bin .mod (.bin .fdiv (.w 1) (.c (.int 8))) (.c (.int 4))) (.c (.int 0))) (.cmp .gt (.blt .len (.w 7)) (.c (.int 1)))) (aC [.val nm,.val (.int k),.val KT,.val CL,s4,s5,s6,.val PL,.val (.tup [.str "id"]),.no])=some (.bl (decide (k/8%4=0/\1<p))):=by
  have e1:evE G (.cmp .eq (.bin .mod (.bin .fdiv (.w 1) (.c (.int 8))) (.c (.int 4))) (.c (.int 0))) (aC [.val nm,.val (.int k),.val KT,.val CL,s4,s5,s6,.val PL,.val (.tup [.str "id"]),.no])=some (.bl (k/8%4==0)):=rfl;rw [evE,e1];by_cases h1:k/8%4=0
  .rw [show (k/8%4==0)=true by simpa using h1];simp [evE,aC,Sl.get,lp,bH,h1];lia
  .rw [show (k/8%4==0)=false by simpa using h1];simp [h1]
 have mid:aG G (bareT2.drop 2) [.val nm,.val (.int k),.val KT,.val CL,s4,s5,s6,.val PL,.val (.tup [.str "id"]),.no]=aG G (bareT2.drop 3) [.val nm,.val (.int k),.val KT,.val CL,s4,s5,s6,.val PL,.val (.tup (key.map .str)),.no]:=by
  by_cases h:k/8%4=0/\1<p
  .rw [if_pos h] at hk;have i1:=ip h.2;have e8:evE G (.idx (.lst [.tup [.c (.str "id"),.idx (.w 7) (.c (.int 1))],.tup [.idx (.w 7) (.c (.int 1)),.c (.str "id")]]) (.bin .mod (.bin .fdiv (.w 1) (.c (.int 32))) (.c (.int 2)))) (aC [.val nm,.val (.int k),.val KT,.val CL,s4,s5,s6,.val PL,.val (.tup [.str "id"]),.no])=cJ [.tup [.str "id",.str id1],.tup [.str id1,.str "id"]] (k/32%2):=by have il:∀ l i,aO (.lst l) (.int i)=cJ l i:=fun _ _=>rfl;simp [evE,aF,aC,Sl.get,i1,bB,cH,bZ,il]
   refine bG ?_;rw [evS];refine Eq.trans (aV (fun o=>Option.bind o _) (hc.trans (by rw [dY h]))) ?_;refine (bJ (t:=.tup (key.map .str)) rfl (e8.trans ?_) rfl).trans rfl;rw [hk];rcases YG (k/32) with z | z
   .rw [z,if_pos rfl];exact eE _ _
   .rw [z,if_neg (by decide)];exact cS _ _ _
  .rw [if_neg h] at hk;subst hk;exact eJ rfl (hc.trans (by rw [eG h]))
 refine (show aG G (bareT2.drop 2) _=_ from mid).trans ?_;subst hcs;refine (bJ (t:=.int (by_:Int)) (τ':=[.val nm,.val (.int k),.val KT,.val (.lst cs),s4,s5,s6,.val PL,.val (.tup (key.map .str)),.val (.int (by_:Int))]) rfl (by have lc:bO .len (.lst cs)=some (.int (cs.length:Int)):=rfl;simp [evE,aC,Sl.get,lc,bB,cH,bZ,hl,hb]) rfl).trans (cZ rfl ?_);have hz1:cs.length-by_+min by_ cs.length<=16777216:=by lia
 simp [evE,aF,evO,aC,Sl.get,asI,gN,xX _ _ hbl,xY _ _ hbl,bB,cX,SZ,hz1,bO]
end
theorem YI {P:Pr} (hd:P.fn "_law_drawn"=some hU) (hb:P.fn "_law_bare"=some kH) (n:Nat) (nm:Str) (k:Int) :
  run P (n+2) "_law_bare" [.str nm,.int k]=some (gG nm (fA (bR k) (k/64%((bR k).length:Int)).toNat) (iX k (bR k)) []):=by
 rw [cF hb rfl];obtain ⟨a,b,c,el⟩:=YD hd n (.str nm) k;show aZ (aG (glo P (run P (n+1))) kH.body [.val (.str nm),.val (.int k),.no,.no,.no,.no,.no,.no,.no,.no])=_;generalize glo P (run P (n+1))=G at *;have hlen:=GD k;have hm0:0<=k/64%((bR k).length:Int):=kM _ (by lia);have hm1:k/64%((bR k).length:Int)<((bR k).length:Int):=kL _ (by lia);generalize hby:(k/64%((bR k).length:Int)).toNat=by_ at *;have hbi:k/64%((bR k).length:Int)=(by_:Int):=by lia
 generalize hC:bR k=cs at *;have hbl:by_<=cs.length:=by rw [hbi] at hm1;lia
 have p1:aG G kH.body [.val (.str nm),.val (.int k),.no,.no,.no,.no,.no,.no,.no,.no]=aG G (kH.body.drop 2) [.val (.str nm),.val (.int k),.val kd6,.own [Col.t ⟨"id",fW k,false⟩],.no,.no,.no,.no,.no,.no] :=
  (bJ (t:=kd6) (τ':=[.val (.str nm),.val (.int k),.val kd6,.no,.no,.no,.no,.no,.no,.no]) rfl (by simp [evE,aF,kd6]) rfl).trans (bJ (t:=.lst [Col.t ⟨"id",fW k,false⟩]) rfl (by simp [evE,aF,aC,Sl.get,kd6,bB,cH,aO,GC,Col.t]) rfl)
 have p2:aG G (kH.body.drop 2) [.val (.str nm),.val (.int k),.val kd6,.own [Col.t ⟨"id",fW k,false⟩],.no,.no,.no,.no,.no,.no]=aG G bareT2 [.val (.str nm),.val (.int k),.val kd6,.own (cs.map Col.t),.val a,.val b,.val c,.no,.no,.no]:=bG (by rw [evS];simp only [bA,aM,List.append_nil,aQ,aF,evE,List.length_cons,List.length_nil];simp only [Nat.reduceAdd,Nat.reduceLeDiff,if_true,fU,bD,items,eX];exact el);have e7:evE G (.comp (.idx (.w 0) (.c (.int 0))) 1 .plain [.w 3] (some (.lnot (.tru (.idx (.w 0) (.c (.int 2))))))) (aC [.val (.str nm),.val (.int k),.val kd6,.val (.lst (cs.map Col.t)),.val a,.val b,.val c,.no,.no,.no])=some (.lst ((fM cs).map .str)):=by
  have hz':cs.length<=16777216:=by lia
  simp [evE,aF,evO,aC,Sl.get,items,cA,bnd,SZ,hz'];rw [iA (enc:=Col.t) (fun c=>if c.g then none else some (T.str c.n)) (fun c _=>by cases hg:c.g<;>simp [Col.t,hg,aO,eE,gH,gZ]),YE]
 have p3:aG G bareT2 [.val (.str nm),.val (.int k),.val kd6,.own (cs.map Col.t),.val a,.val b,.val c,.no,.no,.no]=aG G (bareT2.drop 1) [.val (.str nm),.val (.int k),.val kd6,.val (.lst (cs.map Col.t)),.val a,.val b,.val c,.val (.lst ((fM cs).map .str)),.no,.no]:=GE rfl e7 rfl;rw [p1,p2,p3];have hk:=YH (G:=G) (nm:=.str nm) (KT:=kd6) (CL:=.lst (cs.map Col.t)) (cs:=cs.map Col.t) (PL:=.lst ((fM cs).map .str)) (k:=k) (s4:=.val a) (s5:=.val b) (s6:=.val c) (p:=(fM cs).length) (by_:=by_) (id1:=(fM cs).getD 1 "id") (key:=iX k cs) rfl (by rw [List.length_map];lia) (by rw [List.length_map];lia) (by rw [List.length_map];exact hbi) (by rw [List.length_map];exact hbl) (by simp [bO]) (fun h2=>hY (xs:=(fM cs).map T.str) (k:=1) (by rw [List.getElem?_map,List.getElem?_eq_getElem h2,List.getD_eq_getElem?_getD,List.getElem?_eq_getElem h2];rfl)) rfl;rw [hk,gG,fA,iG,List.map_drop,List.map_take];rfl
end
section
variable {cs:List Col}
theorem GF {α:Type} {enc:α->T} {f:T->List Sl->Option Out} (I:List α->List Sl->Prop):∀ (l done:List α) (τ:List Sl),I done τ ->
  (∀ l1 a l2,l=l1++a::l2->∀ τ,I (done++l1) τ->∃ τ',f (enc a) τ=some (.nx τ')/\I (done++l1++[a]) τ')->∃ τ',cB f (l.map enc) τ=some (.nx τ')/\I (done++l) τ'
 | [],done,τ,h,_=>⟨τ,rfl,by rw [dP];exact h⟩
 | a::l,done,τ,h,hs=>by
  obtain ⟨τ1,e1,h1⟩:=hs [] a l rfl τ (by rw [dP];exact h);rw [dP] at h1;obtain ⟨τ2,e2,h2⟩:=GF I l (done++[a]) τ1 h1 fun l1 b l2 e τ hd=>by have:=hs (a::l1) b l2 (by rw [e];rfl) τ (by simpa using hd);simpa using this
  refine ⟨τ2,?_,by rw [jW] at h2;exact h2⟩;rw [aT,cB,e1];exact e2
theorem gQ {α:Type} {enc:α->T} {f:T->List Sl->Option Out} (I:List α->List Sl->Prop) (l:List α) (τ:List Sl) (h:I [] τ)
  (hs:∀ l1 a l2,l=l1++a::l2->∀ τ,I l1 τ->∃ τ',f (enc a) τ=some (.nx τ')/\I (l1++[a]) τ'):∃ τ',cB f (l.map enc) τ=some (.nx τ')/\I l τ':=by
 have:=GF I l [] τ h fun l1 a l2 e τ hd=>by have:=hs l1 a l2 e τ (by simpa using hd);simpa using this
 simpa using this
theorem iY {α:Type} {enc:α->T} {cs:List α} (h:cs≠[]) (i:Int):∃ c∈cs,cJ (cs.map enc) (i%(cs.length:Int))=some (enc c):=by
 have hl:0<cs.length:=by cases cs with | nil=>exact absurd rfl h | cons _ _=>simp
 have h1:0<=i%(cs.length:Int):=kM _ (by lia);have h2:i%(cs.length:Int)<(cs.length:Int):=kL _ (by lia);obtain ⟨j,hj⟩:∃ j:Nat,i%(cs.length:Int)=(j:Int):=⟨(i%(cs.length:Int)).toNat,by lia⟩;rw [hj] at h2 ⊢;have hj':j<cs.length:=by lia
 refine ⟨cs[j],iD _,hY ?_⟩;rw [iE,bV hj'];rfl
noncomputable def xZ:List Int:=[0,1,2,3,-5,999]
def oB (cs:List Col):Prop:=cs≠[]/\cs.length<=4
noncomputable def yA:List Str:=["", "a", "b", "ab", "x9", "zzzzzz"]
theorem YJ (k:Int):∃ i∈xZ,cJ [.int 0,.int 1,.int 2,.int 3,.int (-5),.int 999] (k%6)=some (.int i):=by obtain ⟨c,hc,e⟩:=iY (enc:=T.int) (cs:=xZ) (by simp [xZ]) k;exact ⟨c,hc,e⟩
theorem YK (k:Int):∃ x∈yA,cJ [.str "",.str "a",.str "b",.str "ab",.str "x9",.str "zzzzzz"] (k%6)=some (.str x):=by obtain ⟨c,hc,e⟩:=iY (enc:=T.str) (cs:=yA) (by simp [yA]) k;exact ⟨c,hc,e⟩
def alike (cs:List Col) (c:Col):List Str:=cs.filterMap fun o=>if o.k==c.k then some o.n else none
theorem YL (cs:List Col) (c:Col):(cs.filterMap fun o=>if o.k==c.k then some (T.str o.n) else none)=(alike cs c).map T.str:=by
 unfold alike
 induction cs with
 | nil=>rfl
 | cons o cs ih=>simp only [List.filterMap_cons];split<;>simp_all
theorem YM {c:Col} {x:Str} (h:x∈alike cs c):∃ o∈cs,o.n=x/\o.k=c.k:=by
 unfold alike at h;obtain ⟨o,ho,e⟩:=jE.mp h;split at e
 .rename_i hk;cases e;exact ⟨o,ho,rfl,dO hk⟩
 .cases e
theorem GG {c:Col} (h:c∈cs):alike cs c≠[]:=by intro e;have:c.n∈alike cs c:=jE.mpr ⟨c,h,by simp⟩;rw [e] at this;cases this
end
section
variable {G:Glo} {k:Int} {s0 s3 s6 s7 s8:Sl} {cs:List Col}
def dE (nm:T) (cs:List Col) (key rules:T):T:=.tup [nm,.tup (cs.map Col.t),key,rules]
noncomputable def teB:List S:=iP.body.drop 3
noncomputable def teC:List S:=iP.body.drop 4
theorem tI {j:Int} {s1 s2 s4:Sl}:evE G (.cmp .eq (.w 5) (.c (.int j))) (aC [s0,s1,s2,s3,s4,.val (.int k),s6,s7,s8])=some (.bl (k==j)):=rfl
theorem tJ {c:Col} {s1 s2 s5:Sl}:evE G (.idx (.w 4) (.c (.int 0))) (aC [s0,s1,s2,s3,.val c.t,s5,s6,s7,s8])=some (.str c.n):=by simp [evE,aC,Sl.get,Col.t,aO,eE]
theorem GH (hc:oB cs) {c:Col} (hm:c∈cs) (TB:T) (k d:Int) :
  ∃ t:List T,aG G teC [.val TB,.val (.int k),.val (.int d),.val (.tup (cs.map Col.t)),.val c.t,.val (.int (k%8)),.no,.no,.no]=some (.rt (.tup t)):=by
 have hl:cs.length<=16777216:=by have:=hc.2;lia
 by_cases h0:k%8=0
 .exact ⟨[.str "empty",.str c.n],jP rfl (tI.trans (by rw [h0];rfl)) (cZ rfl (by rw [evE,aF,aF,tJ];rfl))⟩
 .have e7:evE G (.comp (.idx (.w 0) (.c (.int 0))) 1 .plain [.w 3] (some (.cmp .eq (.idx (.w 0) (.c (.int 1))) (.idx (.w 5) (.c (.int 1)))))) (aC [.val TB,.val (.int k),.val (.int d),.val (.tup (cs.map Col.t)),.val c.t,.val (.int (k%8)),.no,.no,.no])=some (.lst ((alike cs c).map .str)):=by
   simp [evE,aF,evO,aC,Sl.get,bH,aO,items,cA,bnd,SZ,hl];rw [iA (enc:=Col.t) (fun o=>if o.k==c.k then some (T.str o.n) else none) (fun o _=>by cases hk:(o.k==c.k)<;>simp [Col.t,eE,cS,eqC,dpP,eqT,hk]),YL]
  have pre:aG G teC [.val TB,.val (.int k),.val (.int d),.val (.tup (cs.map Col.t)),.val c.t,.val (.int (k%8)),.no,.no,.no]=aG G (teC.drop 2) [.val TB,.val (.int k),.val (.int d),.val (.tup (cs.map Col.t)),.val c.t,.val (.int (k%8)),.no,.val (.lst ((alike cs c).map .str)),.no] :=
   (eJ rfl (tI.trans (by rw [show (k%8==0)=false by simpa using h0]))).trans (bJ rfl e7 rfl)
  rw [pre];generalize T.tup (cs.map Col.t)=CT;by_cases h1:k%8=1
  .obtain ⟨x,hx,e⟩:=iY (enc:=T.str) (GG hm) (k/64);have hp:0<(alike cs c).length:=by
    have:=GG hm;cases q:alike cs c with
    | nil=>exact absurd q this
    | cons _ _=>simp
   obtain ⟨o,ho,rfl,hk⟩:=YM hx;refine ⟨[.str "below",.str c.n,.str o.n],jP rfl (tI.trans (by rw [h1];rfl)) (cZ rfl ?_)⟩;have e':evE G (.idx (.w 7) (.bin .mod (.bin .fdiv (.w 1) (.c (.int 64))) (.blt .len (.w 7)))) (aC [.val TB,.val (.int k),.val (.int d),.val CT,.val c.t,.val (.int (k%8)),.no,.val (.lst ((alike cs c).map .str)),.no])=some (.str o.n):=by simp [evE,aC,Sl.get,bO,bB,cH,bZ,hp,aO,e]
   rw [evE,aF,aF,aF,tJ,e'];rfl
  .have pre2:aG G (teC.drop 2) [.val TB,.val (.int k),.val (.int d),.val CT,.val c.t,.val (.int (k%8)),.no,.val (.lst ((alike cs c).map .str)),.no]=aG G (teC.drop 3) [.val TB,.val (.int k),.val (.int d),.val CT,.val c.t,.val (.int (k%8)),.no,.val (.lst ((alike cs c).map .str)),.no]:=eJ rfl (tI.trans (by rw [show (k%8==1)=false by simpa using h1]));rw [pre2];generalize T.lst ((alike cs c).map T.str)=AL;obtain ⟨i,hi,ei⟩:=YJ (k/64);obtain ⟨x,hx,ex⟩:=YK (k/64);cases ht:(c.k==("text":Str)) with
   | true =>refine ⟨[.str "is",.str c.n,.str x],(bJ (t:=.tup [.str "",.str "a",.str "b",.str "ab",.str "x9",.str "zzzzzz"]) (τ':=[.val TB,.val (.int k),.val (.int d),.val CT,.val c.t,.val (.int (k%8)),.no,.val AL,.val (.tup [.str "",.str "a",.str "b",.str "ab",.str "x9",.str "zzzzzz"])]) rfl (by simp [evE,aF,aC,Sl.get,Col.t,aO,cS,bH,eqC,dpP,eqT,ht,bO]) rfl).trans (cZ rfl ?_)⟩;rw [evE,aF,aF,aF,tJ];simp [evE,aF,aC,Sl.get,bB,cH,bZ,aO,ex]
   | false =>refine ⟨[.str "is",.str c.n,.int i],(bJ (t:=.tup [.int 0,.int 1,.int 2,.int 3,.int (-5),.int 999]) (τ':=[.val TB,.val (.int k),.val (.int d),.val CT,.val c.t,.val (.int (k%8)),.no,.val AL,.val (.tup [.int 0,.int 1,.int 2,.int 3,.int (-5),.int 999])]) rfl (by simp [evE,aF,aC,Sl.get,Col.t,aO,eE,cS,bH,eqC,dpP,eqT,ht,bO]) rfl).trans (cZ rfl ?_)⟩;rw [evE,aF,aF,aF,tJ];simp [evE,aF,aC,Sl.get,bB,cH,bZ,aO,ei]
theorem GI {TB CT ct:T} {D:Int} {l:Nat} (i1:aO TB (.int 1)=some CT) (l1:bO .len CT=some (.int (l:Int))) (hp:0<l) (i2:aO CT (.int (k/8%(l:Int)))=some ct) :
  aG G iP.body [.val TB,.val (.int k),.val (.int D),.no,.no,.no,.no,.no,.no]=aG G teB [.val TB,.val (.int k),.val (.int D),.val CT,.val ct,.val (.int (k%8)),.no,.no,.no] :=
 (bJ (t:=CT) (τ':=[.val TB,.val (.int k),.val (.int D),.val CT,.no,.no,.no,.no,.no]) rfl (by simp [evE,aC,Sl.get,i1]) rfl).trans ((bJ (t:=ct) (τ':=[.val TB,.val (.int k),.val (.int D),.val CT,.val ct,.no,.no,.no,.no]) rfl (by simp [evE,aC,Sl.get,l1,bB,cH,bZ,hp,i2]) rfl).trans (bJ (t:=.int (k%8)) rfl (by simp [evE,aC,Sl.get,bB,cH]) rfl))
theorem yB {D:Int} {s4:Sl}:evE G (.land (.cmp .gt (.w 2) (.c (.int 1))) (.cmp .gt (.w 5) (.c (.int 4)))) (aC [s0,.val (.int k),.val (.int D),s3,s4,.val (.int (k%8)),s6,s7,s8])=some (.bl (decide (1<D)&&decide (4<k%8))):=by cases h1:decide (1<D)<;>simp [evE,aC,Sl.get,bH,h1]
theorem YN {P:Pr} (hd:P.fn "_law_drawn"=some hU) (ht:P.fn "_law_test"=some iP) (hc:oB cs) (nm key rules:T) :
  ∀ (d:Nat) (n:Nat) (k:Int),∃ t:List T,run P (n+d+2) "_law_test" [dE nm cs key rules,.int k,.int ((d+1:Nat):Int)]=some (.tup t):=by
 have i1:aO (dE nm cs key rules) (.int 1)=some (.tup (cs.map Col.t)):=by simp [dE,aO,cS]
 have l1:bO .len (.tup (cs.map Col.t))=some (.int (cs.length:Int)):=by simp [bO]
 have hp:0<cs.length:=by cases cs with | nil=>exact absurd rfl hc.1 | cons _ _=>simp
 have i2:∀ k:Int,∃ c∈cs,aO (.tup (cs.map Col.t)) (.int (k/8%(cs.length:Int)))=some c.t:=fun k=>by obtain ⟨c,hm,ec⟩:=iY (enc:=Col.t) hc.1 (k/8);exact ⟨c,hm,ec⟩
 intro d
 induction d with
 | zero =>intro n k;rw [cF ht rfl];show ∃ t:List T,aZ (aG (glo P (run P (n+1))) iP.body [.val (dE nm cs key rules),.val (.int k),.val (.int 1),.no,.no,.no,.no,.no,.no])=some (.tup t);obtain ⟨c,hm,ec⟩:=i2 k;obtain ⟨t,e⟩:=GH (G:=glo P (run P (n+1))) hc hm (dE nm cs key rules) k 1;refine ⟨t,?_⟩;rw [GI i1 l1 hp ec];exact aV aZ ((eJ rfl (yB.trans rfl)).trans e)
 | succ d ih =>
  intro n k;rw [show n+(d+1)+2=(n+d+2)+1 by lia,cF ht rfl];obtain ⟨c,hm,ec⟩:=i2 k;have e1:(glo P (run P (n+d+2))).call "_law_drawn" [.int k,.int 1]=_:=lL hd (n+d+1) k 1;have e2:(glo P (run P (n+d+2))).call "_law_drawn" [.int k,.int 2]=_:=lL hd (n+d+1) k 2;obtain ⟨t1,r1⟩:=ih n (cM k 1/4);obtain ⟨t2,r2⟩:=ih n (cM k 2/4);have hd1:((d+1+1:Nat):Int)-1=((d+1:Nat):Int):=by lia
  rw [<- hd1] at r1 r2;clear hd1 ih;generalize hD:((d+1+1:Nat):Int)=D at *;have hD1:decide (1<D)=true:=dY (by lia);have r1:(glo P (run P (n+d+2))).call "_law_test" [dE nm cs key rules,.int (cM k 1/4),.int (D-1)]=some (.tup t1):=r1;have r2:(glo P (run P (n+d+2))).call "_law_test" [dE nm cs key rules,.int (cM k 2/4),.int (D-1)]=some (.tup t2):=r2;show ∃ t:List T,aZ (aG (glo P (run P (n+d+2))) iP.body [.val (dE nm cs key rules),.val (.int k),.val (.int D),.no,.no,.no,.no,.no,.no])=some (.tup t);rw [GI i1 l1 hp ec];obtain ⟨t,e⟩:=GH (G:=glo P (run P (n+d+2))) hc hm (dE nm cs key rules) k D;generalize glo P (run P (n+d+2))=G at *;generalize dE nm cs key rules=TB at *;generalize T.tup (cs.map Col.t)=CT at *;generalize c.t=ct at *;by_cases h4:4<k%8
  .have h4':decide (4<k%8)=true:=dY h4;have e6:evE G (.comp (.call "_law_test" [.w 1,.bin .fdiv (.call "_law_drawn" [.w 2,.w 0]) (.c (.int 4)),.bin .sub (.w 3) (.c (.int 1))]) 1 .plain [.tup [.c (.int 1),.c (.int 2)]] none) (aC [.val TB,.val (.int k),.val (.int D),.val CT,.val ct,.val (.int (k%8)),.no,.no,.no])=some (.lst [.tup t1,.tup t2]):=by simp [evE,aF,evO,aC,Sl.get,bB,pB,bZ,items,cA,eM,bnd,SZ,e1,e2,r1,r2]
   have pre:∀ u:T,evE G (.idx (.lst [.tup [.c (.str "not"),.idx (.w 6) (.c (.int 0))],.tup [.c (.str "and"),.idx (.w 6) (.c (.int 0)),.idx (.w 6) (.c (.int 1))],.tup [.c (.str "or"),.idx (.w 6) (.c (.int 0)),.idx (.w 6) (.c (.int 1))]]) (.bin .sub (.w 5) (.c (.int 5)))) (aC [.val TB,.val (.int k),.val (.int D),.val CT,.val ct,.val (.int (k%8)),.val (.lst [.tup t1,.tup t2]),.no,.no])=some u->aG G teB [.val TB,.val (.int k),.val (.int D),.val CT,.val ct,.val (.int (k%8)),.no,.no,.no]=some (.rt u):=fun u hu =>jP rfl (yB.trans (by rw [hD1,h4'];rfl)) ((bJ rfl e6 rfl).trans (cZ rfl hu));have hk:k%8=5\/k%8=6\/k%8=7:=by lia
   have ev:evE G (.idx (.lst [.tup [.c (.str "not"),.idx (.w 6) (.c (.int 0))],.tup [.c (.str "and"),.idx (.w 6) (.c (.int 0)),.idx (.w 6) (.c (.int 1))],.tup [.c (.str "or"),.idx (.w 6) (.c (.int 0)),.idx (.w 6) (.c (.int 1))]]) (.bin .sub (.w 5) (.c (.int 5)))) (aC [.val TB,.val (.int k),.val (.int D),.val CT,.val ct,.val (.int (k%8)),.val (.lst [.tup t1,.tup t2]),.no,.no])=cJ [.tup [.str "not",.tup t1],.tup [.str "and",.tup t1,.tup t2],.tup [.str "or",.tup t1,.tup t2]] (k%8-5):=by simp [evE,aF,aC,Sl.get,aO,eE,cS,bB,pB]
   rcases hk with hk | hk | hk
   .exact ⟨[.str "not",.tup t1],aV aZ (pre _ (ev.trans (by rw [hk];exact eE _ _)))⟩
   .exact ⟨[.str "and",.tup t1,.tup t2],aV aZ (pre _ (ev.trans (by rw [hk];exact cS _ _ _)))⟩
   .exact ⟨[.str "or",.tup t1,.tup t2],aV aZ (pre _ (ev.trans (by rw [hk];exact gH _ _ _ _)))⟩
  .refine ⟨t,aV aZ ((eJ rfl (yB.trans (by rw [hD1,eG h4];rfl))).trans e)⟩
end
section
variable {cs:List Col}
def bC (xs:List Str):T:=.tup (xs.map .str)
def CSh (cs:List Col) (xs:List Str):Prop:=∀ x∈xs,∃ c∈cs,c.n=x
theorem GJ {x:Str}:∀ (xs:List Str),(xs.map T.str).any (fun z=>eqT z (.str x))=xs.any fun y=>y==x
 | []=>rfl
 | y::ys=>by rw [aT,iQ,iQ,GJ ys,eqT]
theorem yC (y x:Str):dpP (.str y) (.str x)=0:=rfl
theorem YO (x:Str) (xs:List Str):dpI (.str x) (xs.map .str)=true:=by unfold dpI;rw [oO];intro z hz;obtain ⟨y,_,rfl⟩:=omm hz;rw [yC];rfl
theorem GK (x:Str) (xs:List Str):inC (.str x) (.tup (xs.map .str))=some (xs.any fun y=>y==x):=by simp only [inC,YO,if_true,GJ]
noncomputable def gA (cs:List Col) (kd:Str) (row:List Str):List (List Str):=cs.filterMap fun o=>if (o.k==kd)&&!(row.any fun y=>y==o.n) then some (row++[o.n]) else none
theorem YQ (cs:List Col) (kd:Str) (row:List Str):(cs.filterMap fun o=>if (o.k==kd)&&!(row.any fun y=>y==o.n) then some (bC (row++[o.n])) else none)=(gA cs kd row).map bC:=by unfold gA;rw [List.map_filterMap];congr;funext o;split<;>rfl
theorem YR (cs:List Col) (kd:Str) (row:List Str):(gA cs kd row).length<=cs.length:=List.length_filterMap_le _ _
theorem YS (hc:oB cs) {kd:Str} {row r:List Str} (hr:CSh cs row) (h:r∈gA cs kd row):CSh cs r/\r.length=row.length+1:=by
 unfold gA at h;obtain ⟨o,ho,e⟩:=jE.mp h;split at e
 .cases e;refine ⟨fun x hx=>?_,by simp⟩;rcases oma hx with q | q
  .exact hr x q
  .rw [omg q];exact ⟨o,ho,rfl⟩
 .cases e
def Rows (cs:List Col) (j:Nat) (ps:List (List Str)):Prop:=ps.length<=4 ^ j/\∀ p∈ps,CSh cs p/\p.length=j
theorem YT {G:Glo} (hc:oB cs) (nm key rules kt s2:T) (kd:Str) (j:Nat) (hj:j<=1) (ps:List (List Str)) (hp:Rows cs j ps) (s3:Sl) :
  ∃ (qs:List (List Str)) (s5:Sl),cB (fun x τ=>(bI [5] x τ).bind fun τ'=>aG G [.asg 4 (.bin .add (.w 4) (.comp (.bin .add (.w 6) (.tup [.idx (.w 0) (.c (.int 0))])) 1 .plain [.idx (.w 0) (.c (.int 1))] (some (.land (.cmp .eq (.idx (.w 0) (.c (.int 1))) (.w 4)) (.cmp .notin (.idx (.w 0) (.c (.int 0))) (.w 6))))))] τ')
   (ps.map bC) [.val (dE nm cs key rules),.val kt,.val s2,.val (.str kd),.own [],s3] =
   some (.nx [.val (dE nm cs key rules),.val kt,.val s2,.val (.str kd),.own (qs.map bC),s5])/\Rows cs (j+1) qs:=by
 have hl4:=hc.2;have hl:cs.length<=16777216:=by lia
 have h4j:4 ^ j<=4:=by rcases (by lia:j=0\/j=1) with rfl | rfl<;>decide
 have hpl:ps.length<=4:=dS hp.1 h4j;obtain ⟨τ',e,qs,s5,rfl,h1,h2⟩:=gQ (enc:=bC) (f:=fun x τ=>(bI [5] x τ).bind fun τ'=>aG G [.asg 4 (.bin .add (.w 4) (.comp (.bin .add (.w 6) (.tup [.idx (.w 0) (.c (.int 0))])) 1 .plain [.idx (.w 0) (.c (.int 1))] (some (.land (.cmp .eq (.idx (.w 0) (.c (.int 1))) (.w 4)) (.cmp .notin (.idx (.w 0) (.c (.int 0))) (.w 6))))))] τ')
  (fun done τ=>∃ qs s5,τ=[.val (dE nm cs key rules),.val kt,.val s2,.val (.str kd),.own (qs.map bC),s5]/\qs.length<=4*done.length/\∀ q∈qs,CSh cs q/\q.length=j+1)
  ps [.val (dE nm cs key rules),.val kt,.val s2,.val (.str kd),.own [],s3] ⟨[],s3,rfl,by simp,fun q hq=>by cases hq⟩ (by
   rintro done row rest hsp τ ⟨qs,s5,rfl,h1,h2⟩;have hrow:row∈ps:=by rw [hsp];simp
   have hdl:done.length<=ps.length:=by rw [hsp];simp
   have hrs:=(hp.2 row hrow).1;have hml:=YR cs kd row;have hz:qs.length+(gA cs kd row).length<=16777216:=by lia
   have hrl:row.length+1<=16777216:=by rw [(hp.2 row hrow).2];lia
   refine ⟨[.val (dE nm cs key rules),.val kt,.val s2,.val (.str kd),.own ((qs++gA cs kd row).map bC),.val (bC row)],?_,qs++gA cs kd row,_,rfl,?_,?_⟩
   .simp [aG,evS,evE,aF,evO,aC,aQ,aM,bA,jL,Sl.get,Sl.frz,bB,cX,dM,fresh,bH,aO,items,cA,bI,bnd,SZ,dE,cS,hl];rw [iA (enc:=Col.t) (fun o=>if (o.k==kd)&&!(row.any fun y=>y==o.n) then some (bC (row++[o.n])) else none) (fun o _=>by
     cases hk:(o.k==kd) with
     | false=>simp [Col.t,eE,cS,eqC,dpP,eqT,hk]
     | true =>have hin:=GK o.n row;cases ha:(row.any fun y=>y==o.n)<;>rw [ha] at hin<;>simp [Col.t,eE,cS,eqC,dpP,eqT,hk,bC,hin,hrl]),YQ]
    simp [hz]
   .simp only [List.length_append,List.length_cons,List.length_nil];lia
   .intro q hq;rcases oma hq with z | z
    .exact h2 q z
    .have:=YS hc hrs z;exact ⟨this.1,by rw [this.2,(hp.2 row hrow).2]⟩)
 refine ⟨qs,s5,e,?_,h2⟩;have:=hp.1;rw [Nat.pow_succ];lia
end
section
theorem YU {P:Pr} (h:P.fn "_law_pairs"=some lK) (n:Nat) {cs:List Col} (hc:oB cs) (nm key rules:T) (ks:List Str) (hk:ks.length<=2) :
  ∃ ps,run P (n+1) "_law_pairs" [dE nm cs key rules,.lst (ks.map .str)]=some (.lst (ps.map bC))/\Rows cs ks.length ps:=by
 rw [cF h rfl];unfold lK;dsimp only;rw [bG (τ':=[.val (dE nm cs key rules),.val (.lst (ks.map .str)),.own ([[]].map bC),.no,.no,.no]) (by simp [evS,evE,aF,bX,aQ,aM,bA,dM,fresh,bC])];obtain ⟨τ',e,ps,s2,s3,s4,s5,rfl,h1,h2⟩:=gQ (enc:=T.str) (f:=fun x τ=>(bI [3] x τ).bind fun τ'=>aG (glo P (run P n)) [.asg 4 (.lst []),
  .loop [5] .plain [.w 2] [.asg 4 (.bin .add (.w 4) (.comp (.bin .add (.w 6) (.tup [.idx (.w 0) (.c (.int 0))])) 1 .plain [.idx (.w 0) (.c (.int 1))] (some (.land (.cmp .eq (.idx (.w 0) (.c (.int 1))) (.w 4)) (.cmp .notin (.idx (.w 0) (.c (.int 0))) (.w 6))))))],
  .asg 2 (.w 4)] τ')
  (fun done τ=>∃ ps s2 s3 s4 s5,τ=[.val (dE nm cs key rules),.val (.lst (ks.map .str)),s2,s3,s4,s5]/\(s2=.own (ps.map bC)\/s2=.val (.lst (ps.map bC)))/\Rows cs done.length ps)
  ks [.val (dE nm cs key rules),.val (.lst (ks.map .str)),.own ([[]].map bC),.no,.no,.no] ⟨[[]],_,_,_,_,rfl,.inl rfl,by simp,fun p hp=>by rw [omg hp];exact ⟨fun x hx=>(by cases hx),rfl⟩⟩ (by
   rintro done kd rest hsp τ ⟨ps,s2,s3,s4,s5,rfl,h1,h2⟩;have hdl:done.length<=1:=by rw [hsp] at hk;simp at hk;lia
   have hfz:Sl.frz s2=.val (.lst (ps.map bC)):=by rcases h1 with rfl | rfl<;>rfl
   obtain ⟨qs,s5',el,hq⟩:=YT (G:=glo P (run P n)) hc nm key rules (.lst (ks.map .str)) (.lst (ps.map bC)) kd done.length hdl ps h2 s5;refine ⟨[.val (dE nm cs key rules),.val (.lst (ks.map .str)),.val (.lst (qs.map bC)),.val (.str kd),.val (.lst (qs.map bC)),s5'],?_,qs,_,_,_,_,rfl,.inr rfl,by rw [eU];exact hq⟩;simp only [bI,bD,oS,oU];rw [bG (τ':=[.val (dE nm cs key rules),.val (.lst (ks.map .str)),s2,.val (.str kd),.own [],s5]) (by simp [evS,evE,aF,aQ,aM,bA,dM,fresh])];rw [bG (s:=.loop _ _ _ _) (τ':=[.val (dE nm cs key rules),.val (.lst (ks.map .str)),.val (.lst (ps.map bC)),.val (.str kd),.own (qs.map bC),s5']) (by rw [evS];simp only [bA,aM,List.append_nil,aQ,aF,evE,aC,List.modify_succ_cons,List.modify_zero_cons,hfz,cQ,Sl.get,cV];simp only [dA,cU,dB,bD,items];exact el)];simp [aG,evS,evE,aC,aQ,aM,Sl.get,Sl.frz,dM,fresh])
 rw [bG (s:=.loop _ _ _ _) (τ':=[.val (dE nm cs key rules),.val (.lst (ks.map .str)),s2,s3,s4,s5]) (by rw [evS];simp only [bA,aM,List.append_nil,aQ,aF,evE,aC,List.modify_succ_cons,List.modify_zero_cons,cQ,Sl.get,Sl.frz,cV];simp only [dA,cU,dB,bD,items];exact e)];refine ⟨ps,?_,h2⟩;rcases h1 with rfl | rfl<;>simp [aG,evS,evE,aC,aQ,aM,Sl.get,Sl.frz,aZ]
end
section
structure Bt where
 nm:Str
 cs:List Col
 key:List Str
 rs:List T
def Bt.t (b:Bt):T:=gG b.nm b.cs b.key b.rs
structure Bt.ok (b:Bt):Prop where
 cs:oB b.cs
 k1:b.key.length<=2
 inn:∀ x∈b.key,∃ c∈b.cs,c.n=x
 kn:b.key≠[]
 nd:(b.cs.map (·.n)).Nodup
 kg:∀ x∈b.key,∃ c∈b.cs,c.n=x/\c.g=false
inductive Rl where
 | ref (cs:List Str) (t w:Str) | iZ (cs:List Str) | chk (t:List T)
noncomputable def Rl.raw:Rl->T
 | .ref cs t w=>.tup [.str "refers",bC cs,.str t,.str w]
 | .iZ cs=>.tup [.str "unlike",.lst (cs.map .str)]
 | .chk t=>.tup [.str "check",.tup t]
noncomputable def Rl.t:Rl->T
 | .ref cs t w=>.tup [.str "refers",bC cs,.str t,.str w]
 | .iZ cs=>.tup [.str "unlike",bC cs]
 | .chk t=>.tup [.str "check",.tup t]
def Rl.ok:Rl->Prop
 | .ref cs _ _=>True/\cs.length<=4/\True
 | _=>True
def Rl.fits (ns:List Str) (cs:List Col):Rl->Prop
 | .ref ks t _=>(∀ x∈ks,∃ c∈cs,c.n=x)/\t∈ns
 | .iZ ks=>∀ x∈ks,∃ c∈cs,c.n=x
 | .chk _=>True
noncomputable def jQ (cs:List Col) (x:Str):List Str:=cs.filterMap fun c=>if c.n==x then some c.k else none
theorem YV (cs:List Col) (x:Str):(cs.filterMap fun c=>if c.n==x then some (T.str c.k) else none)=(jQ cs x).map T.str:=by unfold jQ;rw [List.map_filterMap];congr;funext o;split<;>rfl
theorem YW {cs:List Col} {x:Str} (h:∃ c∈cs,c.n=x):∃ y r,jQ cs x=y::r:=by
 obtain ⟨c,hc,rfl⟩:=h;have:c.k∈jQ cs c.n:=jE.mpr ⟨c,hc,by simp⟩;cases q:jQ cs c.n with
 | nil=>rw [q] at this;cases this
 | cons y r=>exact ⟨y,r,rfl⟩
noncomputable def yD:List Str:=["along", "stop", "late", "gap", "along", "gap"]
theorem YX (k:Int):∃ x∈yD,cJ [.str "along",.str "stop",.str "late",.str "gap",.str "along",.str "gap"] (k%6)=some (.str x):=by obtain ⟨c,hc,e⟩:=iY (enc:=T.str) (cs:=yD) (by simp [yD]) k;exact ⟨c,hc,e⟩
noncomputable def oC (cs:List Col) (p:List Str):List Col:=cs.filterMap fun c=>if (p.any fun y=>y==c.n)&&!c.g then some c else none
theorem YY (cs:List Col) (p:List Str):(cs.filterMap fun c=>if (p.any fun y=>y==c.n)&&!c.g then some c.t else none)=(oC cs p).map Col.t:=by unfold oC;rw [List.map_filterMap];congr;funext o;split<;>rfl
theorem YZ {α:Type} (f:α->T) (l:List α):dX (l.map f) []=l.isEmpty:=by cases l<;>rfl
theorem ZA (cs:List Col):(cs.filterMap fun c=>some (T.str c.n))=(cs.map (·.n)).map T.str:=by
 induction cs with
 | nil=>rfl
 | cons c cs ih=>simp [ih]
theorem GL (xs:List T) (j:Nat):cut xs none (some (j:Int))=xs.take j:=by
 unfold cut gM;simp only [show ¬ ((j:Int)<0) by lia,if_false,Int.toNat_natCast,Nat.sub_zero,List.drop_zero];by_cases h:j<=xs.length
 .rw [Nat.min_eq_left h]
 .rw [Nat.min_eq_right (by lia),List.take_of_length_le (by lia),List.take_of_length_le (by lia)]
theorem pR {G:Glo} {c:E} {a b ss:List S} {τ τ':List Sl} (h0:aQ (aM c) τ=τ) (h1:evE G c (aC τ)=some (.bl true)) (h2:aG G a τ=some (.nx τ')):aG G (.ite c a b::ss) τ=aG G ss τ':=bG (by rw [evS,h0,h1];exact h2)
section
variable {G:Glo} {BL bt gt KL PL NL ST pt:T} {k:Int} {s6 s7 s8 s9 s10:Sl}
noncomputable def ruD:List S:=jO.body.drop 3
noncomputable def ruE:List S:=jO.body.drop 4
theorem ZB:evE G (.cmp .lt (.bin .mod (.w 2) (.c (.int 8))) (.c (.int 5))) (aC [.val BL,.val bt,.val (.int k),.val gt,.val KL,.val PL,s6,s7,s8,s9,s10])=some (.bl (decide (k%8<5))):=rfl
theorem GM:evE G (.cmp .eq (.bin .mod (.w 2) (.c (.int 8))) (.c (.int 5))) (aC [.val BL,.val bt,.val (.int k),.val gt,.val KL,.val PL,s6,s7,s8,s9,s10])=some (.bl (k%8==5)):=rfl
theorem ZC {w w' gn:Str} {cl:Nat} (hc:evE G (.land (.cmp .lt (.bin .mod (.w 2) (.c (.int 8))) (.c (.int 5))) (.cmp .ne (.w 5) (.lst []))) (aC [.val BL,.val bt,.val (.int k),.val gt,.val KL,.val PL,.no,.no,.no,.no,.no])=some (.bl true))
  (l5:bO .len PL=some (.int (cl:Int))) (hcl:0<cl) (i5:aO PL (.int (k/64%(cl:Int)))=some pt) (iw:cJ [.str "along",.str "stop",.str "late",.str "gap",.str "along",.str "gap"] (k/1024%6)=some (.str w))
  (e8:evE G (.comp (.w 0) 1 .plain [.idx (.w 1) (.c (.int 1))] (some (.land (.cmp .isin (.idx (.w 0) (.c (.int 0))) (.w 7)) (.lnot (.tru (.idx (.w 0) (.c (.int 2))))))))  (aC [.val BL,.val bt,.val (.int k),.val gt,.val KL,.val PL,.val pt,.val (.str w),.no,.no,.no])=some ST)
  (v:Bool) (hne:neC ST (.lst [])=some (.bl v)) (hw:w'=if v&&(w=="gap") then ("late":Str) else w) (ig:aO gt (.int 0)=some (.str gn)) :
  aG G ruD [.val BL,.val bt,.val (.int k),.val gt,.val KL,.val PL,.no,.no,.no,.no,.no]=some (.rt (.tup [.str "refers",pt,.str gn,.str w'])):=by
 refine jP rfl hc ?_;refine (bJ (t:=pt) (τ':=[.val BL,.val bt,.val (.int k),.val gt,.val KL,.val PL,.val pt,.no,.no,.no,.no]) rfl (by simp [evE,aC,Sl.get,l5,bB,cH,bZ,hcl,i5]) rfl).trans ?_;refine (bJ (t:=.str w) (τ':=[.val BL,.val bt,.val (.int k),.val gt,.val KL,.val PL,.val pt,.val (.str w),.no,.no,.no]) rfl (by simp [evE,aF,aC,Sl.get,bB,cH,bZ,aO,iw]) rfl).trans ?_;refine (bJ (t:=ST) (τ':=[.val BL,.val bt,.val (.int k),.val gt,.val KL,.val PL,.val pt,.val (.str w),.val ST,.no,.no]) rfl e8 rfl).trans ?_;have hcd:evE G (.land (.cmp .ne (.w 8) (.lst [])) (.cmp .eq (.w 7) (.c (.str "gap")))) (aC [.val BL,.val bt,.val (.int k),.val gt,.val KL,.val PL,.val pt,.val (.str w),.val ST,.no,.no])=some (.bl (v&&(w=="gap"))):=by cases v<;>simp [evE,aF,aC,Sl.get,bH,hne,eqC,dpP,eqT]
 cases q:(v&&(w==("gap":Str))) with
 | true =>rw [q] at hw hcd;subst hw;exact (pR (τ':=[.val BL,.val bt,.val (.int k),.val gt,.val KL,.val PL,.val pt,.val (.str "late"),.val ST,.no,.no]) rfl hcd (bJ (t:=.str "late") rfl rfl rfl)).trans (cZ rfl (by simp [evE,aF,aC,Sl.get,ig]))
 | false =>rw [q] at hw hcd;subst hw;exact (eJ rfl hcd).trans (cZ rfl (by simp [evE,aF,aC,Sl.get,ig]))
end
theorem ZD {P:Pr} (hd:P.fn "_law_drawn"=some hU) (ht:P.fn "_law_test"=some iP) (hp:P.fn "_law_pairs"=some lK) (h:P.fn "_law_rule"=some jO) (n:Nat)
  {bs:List Bt} (hb:∀ b∈bs,b.ok) {b:Bt} (hm:b∈bs) (k:Int):∃ r:Rl,run P (n+6) "_law_rule" [.lst (bs.map Bt.t),b.t,.int k]=some r.raw/\r.ok/\r.fits (bs.map (·.nm)) b.cs:=by
 rw [cF h rfl];show ∃ r:Rl,aZ (aG (glo P (run P (n+5))) jO.body [.val (.lst (bs.map Bt.t)),.val b.t,.val (.int k),.no,.no,.no,.no,.no,.no,.no,.no])=_/\_;have hne:bs≠[]:=by intro e;rw [e] at hm;cases hm
 obtain ⟨g,hg,eg⟩:=iY (enc:=Bt.t) hne (k/8);have hbo:=hb b hm;have hgo:=hb g hg;have hbl:0<bs.length:=by cases bs with | nil=>exact absurd rfl hne | cons _ _=>simp
 have hgl:g.cs.length<=16777216:=by have:=hgo.cs.2;lia
 have hbcl:b.cs.length<=16777216:=by have:=hbo.cs.2;lia
 have hkl:g.key.length<=16777216:=by have:=hgo.k1;lia
 have hb0:0<b.cs.length:=by have:=hbo.cs.1;cases q:b.cs with | nil=>exact absurd q this | cons _ _=>simp
 obtain ⟨ps,ep,hps⟩:=YU hp (n+4) hbo.cs (.str b.nm) (.tup (b.key.map .str)) (.tup b.rs) (g.key.map fun x=>(jQ g.cs x).headD "") (by rw [bE];exact hgo.k1);have ep:(glo P (run P (n+5))).call "_law_pairs" [b.t,.lst ((g.key.map fun x=>(jQ g.cs x).headD "").map .str)]=some (.lst (ps.map bC)):=ep;have tests:∀ d:Nat,d<=2->∃ t:List T,(glo P (run P (n+5))).call "_law_test" [b.t,.int (k/64),.int ((d+1:Nat):Int)]=some (.tup t):=fun d hd2=>by obtain ⟨t,e⟩:=YN hd ht hbo.cs (.str b.nm) (.tup (b.key.map .str)) (.tup b.rs) d (n+3-d) (k/64);rw [show n+3-d+d+2=n+5 by lia] at e;exact ⟨t,e⟩
 generalize glo P (run P (n+5))=G at *;have lB:bO .len (.lst (bs.map Bt.t))=some (.int (bs.length:Int)):=by simp [bO]
 have iB:aO (.lst (bs.map Bt.t)) (.int (k/8%(bs.length:Int)))=some g.t:=eg;have ib1:aO b.t (.int 1)=some (.tup (b.cs.map Col.t)):=by simp [Bt.t,gG,aO,cS]
 have ig0:aO g.t (.int 0)=some (.str g.nm):=by simp [Bt.t,gG,aO,eE]
 have ig1:aO g.t (.int 1)=some (.tup (g.cs.map Col.t)):=by simp [Bt.t,gG,aO,cS]
 have ig2:aO g.t (.int 2)=some (.tup (g.key.map .str)):=by simp [Bt.t,gG,aO,gH]
 generalize T.lst (bs.map Bt.t)=BL at *;generalize b.t=bt at *;generalize g.t=gt at *;have e4:evE G (.comp (.idx (.comp (.idx (.w 0) (.c (.int 1))) 1 .plain [.idx (.w 4) (.c (.int 1))] (some (.cmp .eq (.idx (.w 0) (.c (.int 0))) (.w 1)))) (.c (.int 0))) 1 .plain [.idx (.w 3) (.c (.int 2))] none) (aC [.val BL,.val bt,.val (.int k),.val gt,.no,.no,.no,.no,.no,.no,.no])=some (.lst ((g.key.map fun x=>(jQ g.cs x).headD "").map .str)):=by
  simp [evE,aF,evO,aC,Sl.get,items,cA,bnd,SZ,bH,ig1,ig2,hkl];rw [iA (enc:=T.str) (fun x=>some (T.str ((jQ g.cs x).headD ""))) (fun x hx=>by
   obtain ⟨y,r,ey⟩:=YW (hgo.inn x hx);simp [hgl];rw [iA (enc:=Col.t) (fun c=>if c.n==x then some (T.str c.k) else none) (fun c _=>by cases hk:(c.n==x)<;>simp [Col.t,aO,eE,cS,eqC,dpP,eqT,hk]),YV,ey];simp [aO,eE])]
  simp [List.filterMap_eq_map']
 generalize T.lst ((g.key.map fun x=>(jQ g.cs x).headD "").map T.str)=KL at *;have pre:∀ PL:T,G.call "_law_pairs" [bt,KL]=some PL->aG G jO.body [.val BL,.val bt,.val (.int k),.no,.no,.no,.no,.no,.no,.no,.no]=aG G ruD [.val BL,.val bt,.val (.int k),.val gt,.val KL,.val PL,.no,.no,.no,.no,.no]:=fun PL hPL =>
  (bJ (t:=gt) (τ':=[.val BL,.val bt,.val (.int k),.val gt,.no,.no,.no,.no,.no,.no,.no]) rfl (by simp [evE,aC,Sl.get,lB,bB,cH,bZ,hbl,iB]) rfl).trans
   ((bJ (t:=KL) (τ':=[.val BL,.val bt,.val (.int k),.val gt,.val KL,.no,.no,.no,.no,.no,.no]) rfl e4 rfl).trans (bJ (t:=PL) rfl (by simp [evE,aF,aC,Sl.get,hPL]) rfl))
 rw [pre _ ep];have hcd:evE G (.land (.cmp .lt (.bin .mod (.w 2) (.c (.int 8))) (.c (.int 5))) (.cmp .ne (.w 5) (.lst []))) (aC [.val BL,.val bt,.val (.int k),.val gt,.val KL,.val (.lst (ps.map bC)),.no,.no,.no,.no,.no])=some (.bl (decide (k%8<5)&&!ps.isEmpty)):=by
  rw [evE,ZB];cases decide (k%8<5) with
  | false=>rfl
  | true=>cases ps<;>simp [evE,aF,aC,Sl.get,bH,neC,dpP,cI,eqT,dX]
 cases hw:(decide (k%8<5)&&!ps.isEmpty) with
 | true =>
  rw [hw] at hcd;rw [bS] at hw;have hpn:ps≠[]:=by intro e;rw [e] at hw;simp at hw
  obtain ⟨p,hp',epi⟩:=iY (enc:=bC) hpn (k/64);have hpl:0<ps.length:=by cases q:ps with | nil=>exact absurd q hpn | cons _ _=>simp
  obtain ⟨w,hwm,ew⟩:=YX (k/1024);have hpo:=hps.2 p hp';have e8:evE G (.comp (.w 0) 1 .plain [.idx (.w 1) (.c (.int 1))] (some (.land (.cmp .isin (.idx (.w 0) (.c (.int 0))) (.w 7)) (.lnot (.tru (.idx (.w 0) (.c (.int 2))))))))  (aC [.val BL,.val bt,.val (.int k),.val gt,.val KL,.val (.lst (ps.map bC)),.val (bC p),.val (.str w),.no,.no,.no])=some (.lst ((oC b.cs p).map Col.t)):=by
   simp [evE,aF,evO,aC,Sl.get,items,cA,bnd,SZ,bH,ib1,hbcl];rw [iA (enc:=Col.t) (fun c=>if (p.any fun y=>y==c.n)&&!c.g then some c.t else none) (fun c _=>by have hin:=GK c.n p;cases ha:(p.any fun y=>y==c.n)<;>rw [ha] at hin<;>cases hgg:c.g<;>simp [Col.t,aO,eE,gH,bC,hin,hgg,gZ]),YY]
  have hne2:neC (.lst ((oC b.cs p).map Col.t)) (.lst [])=some (.bl (!(oC b.cs p).isEmpty)):=by unfold neC;rw [if_pos (by simp [dpP,cI]),eqT,YZ]
  have key:=ZC (G:=G) (w:=w) hcd (by simp [bO]) hpl epi ew e8 _ hne2 rfl ig0;refine ⟨.ref p g.nm (if (!(oC b.cs p).isEmpty)&&(w=="gap") then ("late":Str) else w),aV aZ key,⟨trivial,?_,trivial⟩,hpo.1,fY.mpr ⟨g,hg,rfl⟩⟩;rw [hpo.2,bE];have:=hgo.k1;lia
 | false =>
  rw [hw] at hcd;generalize T.lst (ps.map bC)=PL at *;have e9:evE G (.comp (.idx (.w 0) (.c (.int 0))) 1 .plain [.idx (.w 1) (.c (.int 1))] none) (aC [.val BL,.val bt,.val (.int k),.val gt,.val KL,.val PL,.no,.no,.no,.no,.no])=some (.lst ((b.cs.map (·.n)).map .str)):=by simp [evE,aF,evO,aC,Sl.get,items,cA,bnd,SZ,ib1,hbcl];rw [iA (enc:=Col.t) (fun c=>some (T.str c.n)) (fun c _=>by simp [Col.t,aO,eE]),ZA];simp
  have pre2:aG G ruD [.val BL,.val bt,.val (.int k),.val gt,.val KL,.val PL,.no,.no,.no,.no,.no]=aG G (ruE.drop 1) [.val BL,.val bt,.val (.int k),.val gt,.val KL,.val PL,.no,.no,.no,.val (.lst ((b.cs.map (·.n)).map .str)),.no] :=
   (eJ rfl hcd).trans (bJ rfl e9 rfl)
  rw [pre2];by_cases h5:k%8=5
  .obtain ⟨j,hj⟩:∃ j:Nat,k/64%(b.cs.length:Int)=(j:Int):=⟨(k/64%(b.cs.length:Int)).toNat,by have:=kM (k/64) (show (b.cs.length:Int)≠0 by lia);lia⟩;have hx1:k/64%(b.cs.length:Int)<(b.cs.length:Int):=kL _ (by lia);obtain ⟨m,hm2⟩:∃ m:Nat,1+k/1024%2=(m:Int):=⟨(1+k/1024%2).toNat,by lia⟩;have hjl:j<=((b.cs.map (·.n)).map T.str).length:=by simp;lia
   have hz:b.cs.length-j+min j b.cs.length<=16777216:=by lia
   have e10:evE G (.tup [.c (.str "unlike"),.sli (.bin .add (.sli (.w 9) (some (.w 10)) none) (.sli (.w 9) none (some (.w 10)))) none (some (.bin .add (.c (.int 1)) (.bin .mod (.bin .fdiv (.w 2) (.c (.int 1024))) (.c (.int 2)))))]) (aC [.val BL,.val bt,.val (.int k),.val gt,.val KL,.val PL,.no,.no,.no,.val (.lst ((b.cs.map (·.n)).map .str)),.val (.int (j:Int))])=some (Rl.iZ ((fA (b.cs.map (·.n)) j).take m)).raw:=by have q1:=xX _ _ hjl;have q2:=xY _ _ hjl;simp only [List.map_map] at q1 q2;simp [evE,aF,evO,aC,Sl.get,bB,cX,cH,bZ,asI,gN,hm2,q1,q2,SZ,hz,GL,Rl.raw,fA]
   refine ⟨.iZ ((fA (b.cs.map (·.n)) j).take m),congrArg aZ (jP rfl (GM.trans (by rw [h5];rfl)) ((bJ (t:=.int (j:Int)) (τ':=[.val BL,.val bt,.val (.int k),.val gt,.val KL,.val PL,.no,.no,.no,.val (.lst ((b.cs.map (·.n)).map .str)),.val (.int (j:Int))]) rfl (by simp [evE,aC,Sl.get,bO,bB,cH,bZ,hb0,hj]) rfl).trans (cZ rfl e10))),trivial,fun x hx=>?_⟩;have hx':=uG hx;unfold fA at hx';have hx2:x∈b.cs.map (·.n):=by
    rcases oma hx' with z | z
    .exact List.mem_of_mem_drop z
    .exact uG z
   exact omm hx2
  .obtain ⟨d,hd2,hdz⟩:∃ d:Nat,d<=2/\1+k/1024%3=((d+1:Nat):Int):=⟨(k/1024%3).toNat,by lia,by lia⟩;obtain ⟨t,e⟩:=tests d hd2;exact ⟨.chk t,congrArg aZ ((eJ rfl (GM.trans (by rw [show (k%8==5)=false by simpa using h5]))).trans (cZ rfl (by simp only [Int.natCast_add,Int.cast_ofNat_Int] at e hdz;simp [evE,aF,aC,Sl.get,bB,cX,cH,bZ,hdz,e,Rl.raw]))),trivial,trivial⟩
end
section
variable {cs:List Col}
structure Tb where
 nm:Str
 cs:List Col
 key:List Str
 rs:List Rl
def Tb.t (b:Tb):T:=gG b.nm b.cs b.key (b.rs.map Rl.t)
structure Tb.ok (b:Tb):Prop where
 cl:b.cs.length<=4
 k1:b.key.length<=2
 rl:b.rs.length<=4
 rs:∀ r∈b.rs,r.ok
 kn:b.key≠[]
 nd:(b.cs.map (·.n)).Nodup
 inn:∀ x∈b.key,∃ c∈b.cs,c.n=x
 kg:∀ x∈b.key,∃ c∈b.cs,c.n=x/\c.g=false
theorem GN {α:Type} {l:List α} {b:Nat} {x:α}:x∈fA l b↔x∈l:=by
 unfold fA;rw [uJ];constructor
 .rintro (h | h)
  .exact List.mem_of_mem_drop h
  .exact uG h
 .intro h;rw [<- List.take_append_drop b l,uJ] at h;exact h.symm
theorem tK {α:Type} (l:List α) (b:Nat):(fA l b).length=l.length:=by unfold fA;simp only [List.length_append,List.length_drop,List.length_take];lia
theorem ZE {x:Str} (h:x∈fM cs):∃ c∈cs,c.n=x:=by
 unfold fM at h;obtain ⟨c,hc,e⟩:=jE.mp h;split at e
 .cases e
 .cases e;exact ⟨c,hc,rfl⟩
theorem ZF (k:Int):∃ c∈bR k,c.n="id":=⟨⟨"id",fW k,false⟩,by unfold bR;simp,rfl⟩
def mkB (nm:Str) (k:Int):Bt:=⟨nm,fA (bR k) (k/64%((bR k).length:Int)).toNat,iX k (bR k),[]⟩
theorem ZG (k:Int):∀ x∈iX k (bR k),∃ c∈bR k,c.n=x:=by
 intro x hx;have hid:=ZF k;unfold iX at hx;split at hx
 .rename_i h;have hg:∃ c∈bR k,c.n=(fM (bR k)).getD 1 "id":=by refine ZE ?_;rw [fR,bV h.2];exact iD _
  split at hx<;>simp only [List.mem_cons,List.not_mem_nil,or_false] at hx<;>rcases hx with rfl | rfl<;>assumption
 .rw [omg hx];exact hid
theorem ZH {x:Str} (h:x∈fM cs):∃ c∈cs,c.n=x/\c.g=false:=by
 unfold fM at h;obtain ⟨c,hc,e⟩:=jE.mp h;cases hg:c.g with
 | true=>rw [hg] at e;cases e
 | false=>rw [hg] at e;exact ⟨c,hc,cP e,hg⟩
theorem ZI (k:Int):∀ x∈iX k (bR k),∃ c∈bR k,c.n=x/\c.g=false:=by
 intro x hx;have hid:∃ c∈bR k,c.n="id"/\c.g=false:=⟨⟨"id",fW k,false⟩,by unfold bR;simp,rfl,rfl⟩;unfold iX at hx;split at hx
 .rename_i h;have hg:∃ c∈bR k,c.n=(fM (bR k)).getD 1 "id"/\c.g=false:=by refine ZH ?_;rw [fR,bV h.2];exact iD _
  split at hx<;>simp only [List.mem_cons,List.not_mem_nil,or_false] at hx<;>rcases hx with rfl | rfl<;>assumption
 .rw [omg hx];exact hid
theorem ZJ (k:Int) (cs:List Col):(iX k cs).length<=2:=by unfold iX;split<;>(try split)<;>simp
theorem ZK (k:Int):((bR k).map (·.n)).Nodup:=by
 have e1:(("id":Str)=="n")=false/\(("id":Str)=="t")=false/\(("id":Str)=="u")=false/\(("n":Str)=="t")=false/\(("n":Str)=="u")=false/\(("t":Str)=="u")=false:=by decide +kernel
 obtain ⟨a1,a2,a3,a4,a5,a6⟩:=e1;have b1:=ne_of_beq_false a1;have b2:=ne_of_beq_false a2;have b3:=ne_of_beq_false a3;have b4:=ne_of_beq_false a4;have b5:=ne_of_beq_false a5;have b6:=ne_of_beq_false a6;unfold bR lM;split<;>split<;>split<;>simp [b1,b2,b3,b4,b5,b6]
theorem ZL (nm:Str) (k:Int):(mkB nm k).ok where
 kg:=fun x hx=>by obtain ⟨c,hc,e⟩:=ZI k x hx;exact ⟨c,GN.mpr hc,e⟩
 cs:=by have h:=GD k;refine ⟨fun e=>?_,by show (fA _ _).length<=4;rw [tK];exact h.2⟩;have e':(fA (bR k) (k/64%((bR k).length:Int)).toNat).length=([]:List Col).length:=aV List.length e;rw [tK] at e';simp at e';rw [e'] at h;simp at h
 k1:=ZJ k _
 inn:=fun x hx=>by obtain ⟨c,hc,e⟩:=ZG k x hx;exact ⟨c,GN.mpr hc,e⟩
 kn:=by show iX k (bR k)≠[];unfold iX;split<;>(try split)<;>simp
 nd:=by show ((fA (bR k) _).map (·.n)).Nodup;have h:=ZK k;unfold fA;rw [iG];rw [<- List.take_append_drop (k/64%((bR k).length:Int)).toNat (bR k),iG] at h;exact (List.perm_append_comm.nodup_iff).mp h
theorem oE {α:Type} (enc:α->T):∀ (l:List α) (i:Nat),eX (l.map enc) i=(l.zipIdx i).map fun p=>.tup [.int (p.2:Int),enc p.1]
 | [],_=>rfl
 | a::l,i=>by rw [aT,eX,oE enc l (i+1),List.zipIdx_cons,aT]
theorem yE:∀ (l:List T) (i:Nat),(eX l i).length=l.length
 | [],_=>rfl
 | a::l,i=>by rw [eX,eV,eV,yE l (i+1)]
theorem ZM {G:Glo} (r:Rl) (e:Env):evE G (.bin .add (.tup [.idx (.w 0) (.c (.int 0)),.blt .toTuple (.idx (.w 0) (.c (.int 1)))]) (.sli (.w 0) (some (.c (.int 2))) none)) (some r.raw::e)=some r.t:=by
 cases r with
 | ref cs t w=>simp [evE,aF,evO,bB,cX,aO,bO,asI,gN,SZ,Rl.raw,Rl.t,eE,cS,cut,gM,bC]
 | iZ cs=>simp [evE,aF,evO,bB,cX,aO,bO,asI,gN,SZ,Rl.raw,Rl.t,eE,cS,cut,gM,bC]
 | chk t=>simp [evE,aF,evO,bB,cX,aO,bO,asI,gN,SZ,Rl.raw,Rl.t,eE,cS,cut,gM]
theorem ZN {P:Pr} (hd:P.fn "_law_drawn"=some hU) (ht:P.fn "_law_test"=some iP) (hp:P.fn "_law_pairs"=some lK) (hr:P.fn "_law_rule"=some jO) (n:Nat)
  {bs:List Bt} (hb:∀ b∈bs,b.ok) {b:Bt} (hm:b∈bs) (k d c:Int) (s1 s2 s3 s5:T) (m:Nat) (hm3:m<=3) (s9 s10:Sl) :
  ∃ (rs:List Rl) (s9':Sl),cB (fun x τ=>(bI [9] x τ).bind fun τ'=>aG (glo P (run P (n+6))) [.app 8 (.call "_law_rule" [.w 4,.w 6,.bin .fdiv (.call "_law_drawn" [.w 7,.w 9]) (.c (.int 4))])] τ')
   ((List.range m).map fun (i:Nat)=>T.int (i:Int)) [.val (.int k),.val s1,.val s2,.val s3,.val (.lst (bs.map Bt.t)),.val s5,.val b.t,.val (.int d),.own [],s9,s10] =
   some (.nx [.val (.int k),.val s1,.val s2,.val s3,.val (.lst (bs.map Bt.t)),.val s5,.val b.t,.val (.int d),.own (rs.map Rl.raw),s9',s10])/\rs.length=m/\∀ r∈rs,r.ok/\r.fits (bs.map (·.nm)) b.cs:=by
 obtain ⟨τ',e,rs,s9',rfl,h1,h2⟩:=gQ (enc:=fun (i:Nat)=>T.int (i:Int)) (f:=fun x τ=>(bI [9] x τ).bind fun τ'=>aG (glo P (run P (n+6))) [.app 8 (.call "_law_rule" [.w 4,.w 6,.bin .fdiv (.call "_law_drawn" [.w 7,.w 9]) (.c (.int 4))])] τ')
  (fun done τ=>∃ rs s9',τ=[.val (.int k),.val s1,.val s2,.val s3,.val (.lst (bs.map Bt.t)),.val s5,.val b.t,.val (.int d),.own (rs.map Rl.raw),s9',s10]/\rs.length=done.length/\∀ r∈rs,r.ok/\r.fits (bs.map (·.nm)) b.cs)
  (List.range m) [.val (.int k),.val s1,.val s2,.val s3,.val (.lst (bs.map Bt.t)),.val s5,.val b.t,.val (.int d),.own [],s9,s10] ⟨[],s9,rfl,rfl,fun r h=>by cases h⟩ (by
   rintro done i rest hsp τ ⟨rs,s9',rfl,h1,h2⟩;obtain ⟨r,er,hro⟩:=ZD hd ht hp hr n hb hm (cM d i/4);have ed:=lL hd (n+5) d i;have hdl:done.length<=3:=by have:=aV List.length hsp;simp at this;lia
   have hz:rs.length<16777216:=by lia
   refine ⟨[.val (.int k),.val s1,.val s2,.val s3,.val (.lst (bs.map Bt.t)),.val s5,.val b.t,.val (.int d),.own ((rs++[r]).map Rl.raw),.val (.int i),s10],?_,rs++[r],_,rfl,by simp [h1],fun q hq=>?_⟩
   .simp [aG,evS,evE,aF,aC,aQ,aM,bA,Sl.get,Sl.frz,bB,bZ,bI,glo,SZ,ed,er,hz]
   .rcases oma hq with z | z
    .exact h2 q z
    .rw [omg z];exact hro)
 exact ⟨rs,s9',e,by rw [h1];simp,h2⟩
end
section
noncomputable def names4:List Str:=["item", "user", "box", "log"]
noncomputable def tL:List Int:=[2,1,3,4,2,3]
noncomputable def tM:List Int:=[1,2,0,1,3]
theorem ZO:∀ c∈tL,1<=c/\c<=4:=by decide
theorem ZP:∀ c∈tM,0<=c/\c<=3:=by decide
theorem ZQ (k:Int):∃ i∈tL,cJ [.int 2,.int 1,.int 3,.int 4,.int 2,.int 3] (k%6)=some (.int i):=by obtain ⟨c,hc,e⟩:=iY (enc:=T.int) (cs:=tL) (by simp [tL]) k;exact ⟨c,hc,e⟩
theorem ZR (k:Int):∃ i∈tM,cJ [.int 1,.int 2,.int 0,.int 1,.int 3] (k%5)=some (.int i):=by obtain ⟨c,hc,e⟩:=iY (enc:=T.int) (cs:=tM) (by simp [tM]) k;exact ⟨c,hc,e⟩
theorem tO {α β:Type} (f:α->β) (l:List α):(l.filterMap fun a=>some (f a))=l.map f:=by
 induction l with
 | nil=>rfl
 | cons a l ih=>simp [ih]
theorem tP (G:Glo) (elt:E) (n:Nat) (k:Ik) (src:List E) (cond:Option E) (r:Env):evE G (.comp elt n k src cond) r=(aF G src r).bind fun xs=>(cA k xs).bind fun qc =>
   (eM (fun x=>(bnd n x r).bind fun r'=>(evO G cond r').bind fun c=>match c with
    | none=>(evE G elt r').map some
    | some (.bl true)=>(evE G elt r').map some
    | some (.bl false)=>some none
    | some _=>none) qc).map .lst:=by rw [evE];try rfl
theorem ZS (G:Glo) (i:Nat) (r:Env):evE G (.w i) r=(r[i]?).join:=by rw [evE]
theorem gR (G:Glo) (f:Bn) (a:E) (r:Env):evE G (.blt f a) r=(evE G a r).bind fun x=>bO f x:=by rw [evE]
theorem ZT (q:Nat) (h:q<=3):items .range [.int (q:Int)]=some ((List.range q).map fun (i:Nat)=>T.int (i:Int)):=by simp only [items,kA,Int.toNat_natCast];rw [if_pos (by lia)]
theorem fN {G:Glo} {is:List Nat} {k:Ik} {src:List E} {body:List S} {τ τ0:List Sl} {xs qc:List T} {o:Out} (h0:aQ (bA src) τ=τ0) (h1:aF G src (aC τ0)=some xs) (h2:items k xs=some qc)
  (h3:cB (fun x τ=>(bI is x τ).bind fun τ'=>aG G body τ') qc τ0=some o):evS G (.loop is k src body) τ=some o:=by
 rw [evS,h0,h1,bK,h2,bK];exact h3
noncomputable def yF:List S:=[.asg 7 (.bin .fdiv (.call "_law_drawn" [.w 0,.bin .add (.c (.int 20)) (.w 3)]) (.c (.int 4))),
  .asg 8 (.lst []),
  .loop [9] .range [.idx (.tup [.c (.int 1),.c (.int 2),.c (.int 0),.c (.int 1),.c (.int 3)]) (.bin .mod (.w 7) (.c (.int 5)))] [.app 8 (.call "_law_rule" [.w 4,.w 6,.bin .fdiv (.call "_law_drawn" [.w 7,.w 9]) (.c (.int 4))])],
  .asg 10 (.blt .toTuple (.comp (.bin .add (.tup [.idx (.w 0) (.c (.int 0)),.blt .toTuple (.idx (.w 0) (.c (.int 1)))]) (.sli (.w 0) (some (.c (.int 2))) none)) 1 .plain [.w 8] none)),
  .asg 5 (.bin .add (.w 5) (.tup [.bin .add (.sli (.w 6) none (some (.c (.int 3)))) (.tup [.w 10])]))]
set_option maxRecDepth 1000000 in
theorem ZU {P:Pr} (hd:P.fn "_law_drawn"=some hU) (ht:P.fn "_law_test"=some iP) (hp:P.fn "_law_pairs"=some lK) (hr:P.fn "_law_rule"=some jO) (n:Nat)
  {bs:List Bt} (hbo:∀ b∈bs,b.ok) {b:Bt} (hbm:b∈bs) (k:Int) (s1:T) (s2:Int) (i:Nat) (S:List Tb) (hS:S.length<=4) (s7 s8 s9 s10:Sl) :
  ∃ (rs:List Rl) (s9':Sl),aG (glo P (run P (n+6))) yF [.val (.int k),.val s1,.val (.int s2),.val (.int (i:Int)),.val (.lst (bs.map Bt.t)),.val (.tup (S.map Tb.t)),.val b.t,s7,s8,s9,s10] =
   some (.nx [.val (.int k),.val s1,.val (.int s2),.val (.int (i:Int)),.val (.lst (bs.map Bt.t)),.val (.tup ((S++[(⟨b.nm,b.cs,b.key,rs⟩:Tb)]).map Tb.t)),.val b.t,.val (.int (cM k (20+i)/4)),.val (.lst (rs.map Rl.raw)),s9',.val (.tup (rs.map Rl.t))])/\rs.length<=3/\∀ r∈rs,r.ok/\r.fits (bs.map (·.nm)) b.cs:=by
 have e1:=lL hd (n+5) k (20+i);obtain ⟨c,hc,ecn⟩:=ZR (cM k (20+i)/4);have hcm:=ZP c hc;obtain ⟨q,rfl⟩:∃ q:Nat,c=(q:Int):=⟨c.toNat,by lia⟩;have hq3:q<=3:=by lia
 obtain ⟨rs,s9',el,hrl,hro⟩:=ZN hd ht hp hr n hbo hbm k (cM k (20+i)/4) 0 s1 (.int s2) (.int (i:Int)) (.tup (S.map Tb.t)) q hq3 s9 s10;have hz1:rs.length<=16777216:=by lia
 have hz2:S.length+1<=16777216:=by lia
 refine ⟨rs,s9',?_,by lia,hro⟩;unfold yF;rw [bG (τ':=[.val (.int k),.val s1,.val (.int s2),.val (.int (i:Int)),.val (.lst (bs.map Bt.t)),.val (.tup (S.map Tb.t)),.val b.t,.val (.int (cM k (20+i)/4)),s8,s9,s10]) (by simp [evS,evE,aF,aC,aQ,aM,bA,Sl.get,Sl.frz,bB,cX,bZ,dM,fresh,glo,SZ,e1])];rw [bG (τ':=[.val (.int k),.val s1,.val (.int s2),.val (.int (i:Int)),.val (.lst (bs.map Bt.t)),.val (.tup (S.map Tb.t)),.val b.t,.val (.int (cM k (20+i)/4)),.own [],s9,s10]) (by simp [evS,evE,aF,aQ,aM,bA,dM,fresh])];rw [bG (s:=.loop _ _ _ _) (τ':=[.val (.int k),.val s1,.val (.int s2),.val (.int (i:Int)),.val (.lst (bs.map Bt.t)),.val (.tup (S.map Tb.t)),.val b.t,.val (.int (cM k (20+i)/4)),.own (rs.map Rl.raw),s9',s10]) (by refine fN (qc:=(List.range q).map fun (i:Nat)=>T.int (i:Int)) (xs:=[.int (q:Int)]) (τ0:=[.val (.int k),.val s1,.val (.int s2),.val (.int (i:Int)),.val (.lst (bs.map Bt.t)),.val (.tup (S.map Tb.t)),.val b.t,.val (.int (cM k (20+i)/4)),.own [],s9,s10]) (by simp [bA,aM,aQ,Sl.frz]) ?_ (ZT q hq3) el;simp [evE,aF,aC,Sl.get,bB,cH,aO,ecn])];rw [bG (τ':=[.val (.int k),.val s1,.val (.int s2),.val (.int (i:Int)),.val (.lst (bs.map Bt.t)),.val (.tup (S.map Tb.t)),.val b.t,.val (.int (cM k (20+i)/4)),.val (.lst (rs.map Rl.raw)),s9',.val (.tup (rs.map Rl.t))]) (by
  simp only [evS,aC,aQ,aM,bA,jL,List.append_nil,List.nil_append,List.cons_append,List.filterMap_cons,List.filterMap_nil,Nat.reduceLeDiff,if_false,List.modify_succ_cons,List.modify_zero_cons,Sl.frz,cQ,cV,Sl.get];rw [gR,tP];simp only [aF,ZS,dA,cU,dB,bD,cA,items,List.length_map,SZ,hz1,if_true];rw [iA (enc:=Rl.raw) (fun r=>some r.t) (fun r _=>by simp only [bnd,if_true,bD,evO];rw [ZM];rfl),tO];simp [dM,fresh,bO])]
 simp [aG,evS,evE,aF,evO,aC,aQ,aM,bA,jL,Sl.get,Sl.frz,bB,cX,dM,fresh,asI,gN,SZ,Bt.t,gG,cut,gM,hz2,Tb.t]
theorem ZV {P:Pr} (hd:P.fn "_law_drawn"=some hU) (ht:P.fn "_law_test"=some iP) (hp:P.fn "_law_pairs"=some lK) (hr:P.fn "_law_rule"=some jO)
  (hb:P.fn "_law_bare"=some kH) (h:P.fn "_law_schema"=some tG) (n:Nat) (k:Int) :
  ∃ S:List Tb,run P (n+7) "_law_schema" [.int k]=some (.tup (S.map Tb.t))/\S.length<=4/\(∀ b∈S,b.ok)/\0<S.length/\(S.map (·.nm)).Nodup/\∀ b∈S,b.rs.length<=3/\∀ r∈b.rs,r.fits (S.map (·.nm)) b.cs:=by
 rw [cF h rfl];obtain ⟨c,hc,ec⟩:=ZQ (k/4);have hc':=ZO c hc;obtain ⟨m,rfl⟩:∃ m:Nat,c=(m:Int):=⟨c.toNat,by lia⟩;have hk0:0<=k%4:=kM _ (by decide);have hk1:k%4<4:=kL _ (by decide);obtain ⟨j,hj⟩:∃ j:Nat,k%4=(j:Int):=⟨(k%4).toNat,by lia⟩;have hjl:j<=(names4.map T.str).length:=by simp [names4];lia
 generalize hN:(fA names4 j).take m=N;have hNl:N.length<=4:=by rw [<- hN,List.length_take,tK];simp [names4];lia
 have hNp:0<N.length:=by rw [<- hN,List.length_take,tK];simp [names4];lia
 unfold tG;dsimp only;rw [bG (τ':=[.val (.int k),.own (names4.map .str),.no,.no,.no,.no,.no,.no,.no,.no,.no]) (by simp [evS,evE,aF,bX,aQ,aM,bA,dM,fresh,names4])];rw [bG (τ':=[.val (.int k),.own (names4.map .str),.val (.int (j:Int)),.no,.no,.no,.no,.no,.no,.no,.no]) (by simp [evS,evE,aC,aQ,aM,Sl.get,Sl.frz,bB,cH,dM,fresh,hj])];rw [bG (τ':=[.val (.int k),.val (.lst (N.map .str)),.val (.int (j:Int)),.no,.no,.no,.no,.no,.no,.no,.no]) (by
  have hz:(names4.map T.str).length-j+min j (names4.map T.str).length<=16777216:=by simp [names4];lia
  have hz':names4.length-j+min j names4.length<=16777216:=by simpa using hz
  simp only [evS,evE,aF,evO,aC,aQ,aM,bA,jL,List.append_nil,List.nil_append,List.cons_append,List.modify_succ_cons,List.modify_zero_cons,Sl.frz,cQ,cV,Sl.get,dA,cU,dB,bD,fU,asI,gN,xX _ _ hjl,xY _ _ hjl];simp [bB,cX,cH,bZ,dM,fresh,aO,SZ,hz',ec,GL,fA,<- hN])]
 generalize hB:(N.zipIdx 0).map (fun p=>mkB p.1 (cM k p.2/4))=bs;have hbl:bs.length=N.length:=by rw [<- hB];simp
 have hbo:∀ b∈bs,b.ok:=fun b hb'=>by rw [<- hB] at hb';obtain ⟨p,hp',rfl⟩:=omm hb';exact ZL _ _
 rw [bG (τ':=[.val (.int k),.val (.lst (N.map .str)),.val (.int (j:Int)),.no,.val (.lst (bs.map Bt.t)),.no,.no,.no,.no,.no,.no]) (by
  have hz:N.length<=16777216:=by lia
  simp only [evS,evE,aF,evO,aC,aQ,aM,bA,jL,List.append_nil,List.nil_append,List.cons_append,List.filterMap_cons,List.filterMap_nil,Nat.reduceLeDiff,if_true,if_false,Nat.reduceSub,List.modify_succ_cons,List.modify_zero_cons,Sl.frz,cQ,cV,Sl.get,dA,cU,dB,bD,cA,items,yE,List.length_map,SZ,hz];rw [oE T.str N 0,iA (enc:=fun (p:Str × Nat)=>T.tup [.int (p.2:Int),.str p.1]) (fun p=>some (mkB p.1 (cM k p.2/4)).t) (fun p _=>by have e1:=lL hd (n+5) k p.2;have e2:=YI hd hb (n+4) p.1 (cM k p.2/4);simp [bnd,bB,bZ,glo,e1,e2,mkB,Bt.t]),tO];simp [dM,fresh,<- hB])]
 rw [bG (τ':=[.val (.int k),.val (.lst (N.map .str)),.val (.int (j:Int)),.no,.val (.lst (bs.map Bt.t)),.val (.tup []),.no,.no,.no,.no,.no]) (by simp [evS,evE,aF,aQ,aM,bA,dM,fresh])];obtain ⟨τ',e,S,s3,s6,s7,s8,s9,s10,rfl,h1,h2,h3,h4⟩:=gQ (enc:=fun (p:Bt × Nat)=>T.tup [.int (p.2:Int),p.1.t]) (f:=fun x τ=>(bI [3,6] x τ).bind fun τ'=>aG (glo P (run P (n+6))) yF τ')
  (fun done τ=>∃ (S:List Tb),∃ s3 s6 s7 s8 s9 s10,τ=[.val (.int k),.val (.lst (N.map .str)),.val (.int (j:Int)),s3,.val (.lst (bs.map Bt.t)),.val (.tup (S.map Tb.t)),s6,s7,s8,s9,s10]/\S.length=done.length/\(∀ b∈S,b.ok)/\S.map (·.nm)=done.map (·.1.nm)/\∀ b∈S,b.rs.length<=3/\∀ r∈b.rs,r.fits (bs.map (·.nm)) b.cs)
  (bs.zipIdx 0) [.val (.int k),.val (.lst (N.map .str)),.val (.int (j:Int)),.no,.val (.lst (bs.map Bt.t)),.val (.tup []),.no,.no,.no,.no,.no] ⟨[],_,_,_,_,_,_,rfl,rfl,(fun b hb'=>by cases hb'),rfl,fun b hb'=>by cases hb'⟩ (by
   rintro done ⟨b,i⟩ rest hsp τ ⟨S,s3,s6,s7,s8,s9,s10,rfl,h1,h2,h3,h4⟩;have hbm:b∈bs:=by
    have:(b,i)∈bs.zipIdx 0:=by rw [hsp];simp
    have:=List.mem_zipIdx' this;rw [this.2];exact iD _
   have hdl:done.length<=4:=by have:=aV List.length hsp;simp at this;lia
   obtain ⟨rs,s9',est,hrl,hro⟩:=ZU hd ht hp hr n hbo hbm k (.lst (N.map .str)) (j:Int) i S (by lia) s7 s8 s9 s10;refine ⟨[.val (.int k),.val (.lst (N.map .str)),.val (.int (j:Int)),.val (.int (i:Int)),.val (.lst (bs.map Bt.t)),.val (.tup ((S++[(⟨b.nm,b.cs,b.key,rs⟩:Tb)]).map Tb.t)),.val b.t,.val (.int (cM k (20+i)/4)),.val (.lst (rs.map Rl.raw)),s9',.val (.tup (rs.map Rl.t))],?_,S++[(⟨b.nm,b.cs,b.key,rs⟩:Tb)],_,_,_,_,_,_,rfl,by simp [h1],fun x hx=>?_,by simp [h3],fun x hx=>?_⟩
   .simp only [bI,setAll,bD,oS,oU];exact est
   .rcases oma hx with z | z
    .exact h2 x z
    .rw [omg z];have bo:=hbo b hbm;exact ⟨bo.cs.2,bo.k1,by show rs.length<=4;lia,fun r hr=>(hro r hr).1,bo.kn,bo.nd,bo.inn,bo.kg⟩
   .rcases oma hx with z | z
    .exact h4 x z
    .rw [omg z];exact ⟨by show rs.length<=3;lia,fun r hr=>(hro r hr).2⟩)
 rw [bG (s:=.loop _ _ _ _) (τ':=[.val (.int k),.val (.lst (N.map .str)),.val (.int (j:Int)),s3,.val (.lst (bs.map Bt.t)),.val (.tup (S.map Tb.t)),s6,s7,s8,s9,s10]) (by rw [evS];simp only [bA,aM,List.append_nil,aQ,aF,evE,aC,List.modify_succ_cons,List.modify_zero_cons,cQ,Sl.get,Sl.frz,cV];simp only [dA,cU,dB,bD,items,oE];exact e)];refine ⟨S,by simp [aG,evS,evE,aC,aQ,aM,Sl.get,Sl.frz,aZ],by rw [h1];simp;lia,h2,by rw [h1];simp;lia,?_,?_⟩
 .have e1:(bs.zipIdx 0).map (·.1.nm)=N:=by
   have z:(bs.zipIdx 0).map (·.1.nm)=((bs.zipIdx 0).map Prod.fst).map (·.nm):=by rw [eP];rfl
   rw [z,List.zipIdx_map_fst,<- hB,eP];have y:(N.zipIdx 0).map ((·.nm)∘fun p=>mkB p.1 (cM k p.2/4))=(N.zipIdx 0).map Prod.fst:=rfl;rw [y,List.zipIdx_map_fst]
  rw [h3,e1,<- hN];have all:∀ j:Fin 4,∀ m:Fin 5,((fA names4 j.val).take m.val).Nodup:=by decide +kernel
  exact all ⟨j,by lia⟩ ⟨m,by lia⟩
 .have e2:S.map (·.nm)=bs.map (·.nm):=by
   have z:(bs.zipIdx 0).map (·.1.nm)=((bs.zipIdx 0).map Prod.fst).map (·.nm):=by rw [eP];rfl
   rw [h3,z,List.zipIdx_map_fst]
  rw [e2];exact h4
end
section
variable {ps:List (Col × T)}
def Wok (c:Col) (w:T):Prop:=w=.non\/((c.k==("text":Str))=true/\∃ x,w=.str x)\/((c.k==("text":Str))=false/\∃ i,w=.int i)
noncomputable def rowS:List Str:=["a", "b", "", "ab", "a", "x9"]
noncomputable def rowI:List Int:=[0,1,2,3,1,2,4,-5]
theorem GO (k:Int):∃ x,cJ [.str "a",.str "b",.str "",.str "ab",.str "a",.str "x9"] (k%6)=some (.str x):=by obtain ⟨c,_,e⟩:=iY (enc:=T.str) (cs:=rowS) (by simp [rowS]) k;exact ⟨c,e⟩
theorem GP (k:Int):∃ x,cJ [.int 0,.int 1,.int 2,.int 3,.int 1,.int 2,.int 4,.int (-5)] (k%8)=some (.int x):=by obtain ⟨c,_,e⟩:=iY (enc:=T.int) (cs:=rowI) (by simp [rowI]) k;exact ⟨c,e⟩
theorem ZW {P:Pr} (h:P.fn "_law_worth"=some hW) (n:Nat) (c:Col) (k:Int):∃ w,run P (n+1) "_law_worth" [c.t,.int k]=some w/\Wok c w:=by
 rw [cF h rfl];obtain ⟨x,ex⟩:=GO (k/4);obtain ⟨i,ei⟩:=GP (k/4);cases hg:c.g with
 | true =>
  cases h4:(k%4==0) with
  | true=>exact ⟨.non,by simp [hW,aG,evS,evE,aF,bX,aC,aQ,aM,bA,Sl.get,Sl.frz,bB,cH,bZ,aZ,bH,aO,gZ,glo,Col.t,gH,hg,h4,eqC,dpP,eqT],.inl rfl⟩
  | false =>
   cases ht:(c.k==("text":Str)) with
   | true=>exact ⟨.str x,by simp [hW,aG,evS,evE,aF,bX,aC,aQ,aM,bA,Sl.get,Sl.frz,bB,cH,bZ,aZ,bH,aO,gZ,glo,Col.t,cS,gH,hg,h4,eqC,dpP,eqT,ht,ex],.inr (.inl ⟨ht,x,rfl⟩)⟩
   | false=>exact ⟨.int i,by simp [hW,aG,evS,evE,aF,bX,aC,aQ,aM,bA,Sl.get,Sl.frz,bB,cH,bZ,aZ,bH,aO,gZ,glo,Col.t,cS,gH,hg,h4,eqC,dpP,eqT,ht,ei],.inr (.inr ⟨ht,i,rfl⟩)⟩
 | false =>
  cases ht:(c.k==("text":Str)) with
  | true=>exact ⟨.str x,by simp [hW,aG,evS,evE,aF,bX,aC,aQ,aM,bA,Sl.get,Sl.frz,bB,cH,bZ,aZ,bH,aO,gZ,glo,Col.t,cS,gH,hg,eqC,dpP,eqT,ht,ex],.inr (.inl ⟨ht,x,rfl⟩)⟩
  | false=>exact ⟨.int i,by simp [hW,aG,evS,evE,aF,bX,aC,aQ,aM,bA,Sl.get,Sl.frz,bB,cH,bZ,aZ,bH,aO,gZ,glo,Col.t,cS,gH,hg,eqC,dpP,eqT,ht,ei],.inr (.inr ⟨ht,i,rfl⟩)⟩
theorem mR (G:Glo) (elt:E) (n:Nat) (k:Ik) (src:List E) (r:Env):evE G (.comp elt n k src none) r=(aF G src r).bind fun xs=>(cA k xs).bind fun qc =>
   (eM (fun x=>(bnd n x r).bind fun r'=>(evE G elt r').map some) qc).map .lst:=by
 rw [tP];simp only [evO,bD]
def nmT (p:Col × T):T:=.str p.1.n
theorem GQ:∀ {ps:List (Col × T)} {p:Col × T},p∈ps->(ps.map (·.1.n)).Nodup->∃ i:Nat,jZ (.str p.1.n) (ps.map nmT)=some i/\(ps.map (·.2))[i]?=some p.2
 | [],_,h,_=>by cases h
 | q::ps,p,h,hn=>by
  rw [aT,gI] at hn;by_cases hq:q.1.n=p.1.n
  .have:q=p:=by
    rcases omc h with e | hp
    .exact e.symm
    .exact absurd (fY.mpr ⟨p,hp,hq.symm⟩) hn.1
   subst this;refine ⟨0,?_,rfl⟩;simp [jZ,nmT,eqT]
  .rcases omc h with e | hp
   .exact absurd (by rw [e]) hq
   .obtain ⟨i,e1,e2⟩:=GQ hp hn.2;refine ⟨i+1,?_,by simpa using e2⟩;have hb:(q.1.n==p.1.n)=false:=by simpa using hq
    simp [jZ,nmT,eqT,hb];simpa [nmT] using e1
theorem ZX:∀ ps:List (Col × T),(ps.map nmT).all flat=true
 | []=>rfl
 | p::ps=>by simp [nmT,flat]
theorem yG {p:Col × T} (h:p∈ps) (hn:(ps.map (·.1.n)).Nodup):∃ i:Int,iK .index (.lst (ps.map nmT)) (.str p.1.n)=some (.int i)/\cJ (ps.map (·.2)) i=some p.2:=by obtain ⟨i,e1,e2⟩:=GQ h hn;refine ⟨(i:Int),?_,hY e2⟩;simp only [iK];rw [if_pos (by rw [ZX];rfl),e1];rfl
theorem mS {α:Type} {enc:α->T} {f:T->Option (Option T)} (g:α->T) {l:List α} (h:∀ a∈l,f (enc a)=some (some (g a))):eM f (l.map enc)=some (l.map g):=by rw [iA (fun a=>some (g a)) h,tO]
def jR (nm:T) (ps:List (Col × T)) (key rules:T):T:=dE nm (ps.map (·.1)) key rules
theorem GR {P:Pr} (h:P.fn "_law_names"=some lJ) (n:Nat) (ps:List (Col × T)) (hl:ps.length<=4) (nm key rules:T):run P (n+1) "_law_names" [jR nm ps key rules]=some (.lst (ps.map nmT)):=by
 rw [cF h rfl];have hl':ps.length<=16777216:=by lia
 have e:=mS (enc:=fun p:Col × T=>p.1.t) (f:=fun x=>(aO x (.int 0)).map some) nmT (l:=ps) (fun p _=>by simp [Col.t,aO,eE,nmT]);simp [lJ,aG,evS,evE,aF,evO,bX,aC,aQ,aM,bA,jL,Sl.get,Sl.frz,aZ,aO,items,cA,bnd,glo,SZ,jR,dE,cS,hl',Function.comp_def] at e ⊢;simp [e]
theorem ZY {P:Pr} (h:P.fn "worths_of"=some kG) (n:Nat) (hl:ps.length<=4) (hn:(ps.map (·.1.n)).Nodup) (nm key rules:T) {qs:List (Col × T)} (hq:∀ q∈qs,q∈ps) (hql:qs.length<=4) :
  run P (n+1) "worths_of" [jR nm ps key rules,.tup (ps.map (·.2)),.tup (qs.map nmT)]=some (.tup (qs.map (·.2))):=by
 rw [cF h rfl];have hl':ps.length<=16777216:=by lia
 have hl2:qs.length<=16777216:=by lia
 have e:=mS (enc:=fun p:Col × T=>p.1.t) (f:=fun x=>(aO x (.int 0)).map some) nmT (l:=ps) (fun p _=>by simp [Col.t,aO,eE,nmT]);have e2:=mS (enc:=nmT) (f:=fun x=>((iK .index (.lst (ps.map nmT)) x).bind fun y=>aO (.tup (ps.map (·.2))) y).map some) (fun q=>q.2) (l:=qs) (fun q hq'=>by obtain ⟨i,e1,e2⟩:=yG (hq q hq') hn;simp only [nmT,e1,bD,aO,e2,fU]);unfold kG;dsimp only;rw [bG (τ':=[.val (jR nm ps key rules),.val (.tup (ps.map (·.2))),.val (.tup (qs.map nmT)),.val (.lst (ps.map nmT))]) (by simp [evS,evE,aF,evO,bX,aC,aQ,aM,bA,jL,Sl.get,Sl.frz,dM,fresh,aO,items,cA,bnd,SZ,jR,dE,cS,hl',Function.comp_def] at e ⊢;simp [e])];have ee:evE (glo P (run P n)) (.blt .toTuple (.comp (.idx (.w 2) (.mth .index (.w 4) (.w 0))) 1 .plain [.w 2] none)) (aC [Sl.val (jR nm ps key rules),.val (.tup (ps.map (·.2))),.val (.tup (qs.map nmT)),.val (.lst (ps.map nmT))])=some (.tup (qs.map (·.2))):=by rw [gR,mR];simp only [aF,evE,aC,cQ,cV,Sl.get,dA,cU,dB,bD,cA,items,List.length_map,bnd,if_true];rw [if_pos (show qs.length<=SZ from hl2)];simp only [bD];rw [e2];rfl
 rw [kI (t:=.tup (qs.map (·.2))) (by rw [evS];rw [show aQ (aM (.blt .toTuple (.comp (.idx (.w 2) (.mth .index (.w 4) (.w 0))) 1 .plain [.w 2] none))) [Sl.val (jR nm ps key rules),.val (.tup (ps.map (·.2))),.val (.tup (qs.map nmT)),.val (.lst (ps.map nmT))]=[Sl.val (jR nm ps key rules),.val (.tup (ps.map (·.2))),.val (.tup (qs.map nmT)),.val (.lst (ps.map nmT))] from rfl,ee];rfl)];rfl
end
section
noncomputable def val (ps:List (Col × T)) (x:Str):T:=match ps.find? (fun p=>p.1.n==x) with | some p=>p.2 | none=>.non
theorem pS:∀ {ps:List (Col × T)} {p:Col × T},p∈ps->(ps.map (·.1.n)).Nodup->val ps p.1.n=p.2
 | [],_,h,_=>by cases h
 | q::ps,p,h,hn=>by
  rw [aT,gI] at hn;by_cases hq:q.1.n=p.1.n
  .have:q=p:=by
    rcases omc h with e | hp
    .exact e.symm
    .exact absurd (fY.mpr ⟨p,hp,hq.symm⟩) hn.1
   subst this;simp [val]
  .rcases omc h with e | hp
   .exact absurd (by rw [e]) hq
   .have e:=pS hp hn.2;have hb:(q.1.n==p.1.n)=false:=by simpa using hq
    unfold val at e ⊢;rw [uK,hb];exact e
theorem eqs (a b:Str):eqC (.str a) (.str b)=some (.bl (a==b)):=rfl
theorem Wok.flat {c:Col} {w:T} (h:Wok c w):Ev.flat w=true:=by rcases h with rfl | ⟨_,x,rfl⟩ | ⟨_,x,rfl⟩<;>rfl
section
variable {G:Glo} {X tt R:T} {w:Str}
end
end
end Ev.K04
section
section
end
end
namespace Ev.K04
open PySem
section
def yH (acc:List Kt) (k:Kt):Bool:=acc.any fun x=>decide (x=k)
def xI (acc:List Kt) (k:Kt):List Kt:=if yH acc k=true then acc else acc++[k]
def iZ (l:List Kt):List Kt:=l.foldl xI []
theorem any_map (f:Kt->T) (l:List Kt) (k:Kt):((l.map fun x=>(x,f x)).any fun kv=>decide (kv.1=k))=yH l k:=by unfold yH;rw [List.any_map];rfl
end
section
variable {c:Col} {b:Tb} {ps:List (Col × T)}
noncomputable def yI:List S:=[.loop [2] .plain [.w 0] [.ite (.cmp .eq (.idx (.w 2) (.c (.int 0))) (.w 1)) [.ret (.w 2)] []],
  .ret (.c .non)]
noncomputable def tQ:Fd:=⟨2,3,yI⟩
noncomputable def yJ:List S:=[.loop [3,4] .zip [.w 0,.w 1] [.ite (.cmp .eq (.idx (.w 3) (.c (.int 0))) (.w 2)) [.ret (.w 4)] []],
  .ret (.tup [])]
noncomputable def tR:Fd:=⟨3,5,yJ⟩
noncomputable def lin:List S:=[.asg 7 (.call "_law_row" [.w 4,.bin .fdiv (.call "_law_drawn" [.w 1,.bin .add (.bin .mul (.c (.int 10)) (.w 3)) (.w 6)]) (.c (.int 4))]),
  .dput 5 (.call "_law_key" [.w 4,.w 7]) (.w 7)]
noncomputable def yK:Fd:=⟨2,8,[.asg 2 (.tup []),
  .loop [3,4] .enum [.w 0] [.dnew 5,
  .loop [6] .range [.bin .mod (.bin .fdiv (.w 1) (.idx (.tup [.c (.int 1),.c (.int 5),.c (.int 25),.c (.int 125)]) (.w 3))) (.c (.int 5))] lin,
  .asg 2 (.bin .add (.w 2) (.tup [.blt .toTuple (.comp (.idx (.w 6) (.w 0)) 1 .plain [.blt .sorted (.w 5)] none)]))],
  .ret (.w 2)]⟩
structure RowOk (b:Tb) (ps:List (Col × T)):Prop where
 cs:ps.map (·.1)=b.cs
 wk:∀ p∈ps,Wok p.1 p.2
 ng:∀ p∈ps,p.1.g=false->p.2≠.non
def aI (ps:List (Col × T)):T:=.tup (ps.map (·.2))
def kk (t:T):Kt:=(nE t).getD (.inl 0)
def aP (b:Tb) (ps:List (Col × T)):List Kt:=b.key.map fun x=>kk (val ps x)
theorem GS {w:T} (h:Wok c w):nE w=some (kk w)/\kT (kk w)=w:=by rcases h with rfl | ⟨_,x,rfl⟩ | ⟨_,i,rfl⟩<;>exact ⟨rfl,rfl⟩
theorem ZZ {w u:T} (h1:Wok c w) (h2:Wok c u) (n1:w≠.non) (n2:u≠.non):vG (kk w) (kk u)=true:=by
 rcases h1 with rfl | ⟨e1,x,rfl⟩ | ⟨e1,i,rfl⟩
 .exact absurd rfl n1
 .rcases h2 with rfl | ⟨e2,y,rfl⟩ | ⟨e2,j,rfl⟩
  .exact absurd rfl n2
  .rfl
  .rw [e1] at e2;cases e2
 .rcases h2 with rfl | ⟨e2,y,rfl⟩ | ⟨e2,j,rfl⟩
  .exact absurd rfl n2
  .rw [e1] at e2;cases e2
  .rfl
theorem A0 {P:Pr} (h:P.fn "_law_worth"=some hW) (n:Nat) (c:Col) (k:Int) (hg:c.g=false):∃ w,run P (n+1) "_law_worth" [c.t,.int k]=some w/\w≠.non:=by
 rw [cF h rfl];obtain ⟨x,ex⟩:=GO (k/4);obtain ⟨i,ei⟩:=GP (k/4);cases ht:(c.k==("text":Str)) with
 | true=>exact ⟨.str x,by simp [hW,aG,evS,evE,aF,bX,aC,aQ,aM,bA,Sl.get,Sl.frz,bB,cH,bZ,aZ,bH,aO,gZ,glo,Col.t,cS,gH,hg,eqC,dpP,eqT,ht,ex],by simp⟩
 | false=>exact ⟨.int i,by simp [hW,aG,evS,evE,aF,bX,aC,aQ,aM,bA,Sl.get,Sl.frz,bB,cH,bZ,aZ,bH,aO,gZ,glo,Col.t,cS,gH,hg,eqC,dpP,eqT,ht,ei],by simp⟩
theorem GT {α:Type} {enc:α->T} {Q:α->T->Prop} {f:T->Option (Option T)}:∀ (l:List α),(∀ a∈l,∃ w,f (enc a)=some (some w)/\Q a w)->∃ ps:List (α × T),ps.map (·.1)=l/\eM f (l.map enc)=some (ps.map (·.2))/\∀ p∈ps,Q p.1 p.2
 | [],_=>⟨[],rfl,rfl,fun p h=>by cases h⟩
 | a::l,h=>by
  obtain ⟨w,e,hw⟩:=h a dW;obtain ⟨ps,e1,e2,h2⟩:=GT (Q:=Q) l fun c hc=>h c (cK _ hc);refine ⟨(a,w)::ps,by simp [e1],?_,fun p hp=>?_⟩
  .simp only [cQ,eM,e,e2,bD]
  .rcases omc hp with rfl | hp
   .exact hw
   .exact h2 p hp
theorem GU {Q:Col->T->Prop} {f:T->Option (Option T)}:∀ (cs:List Col) (i:Nat),(∀ c∈cs,∀ j:Nat,∃ w,f (.tup [.int (j:Int),c.t])=some (some w)/\Q c w) ->
  ∃ ps:List (Col × T),ps.map (·.1)=cs/\eM f (eX (cs.map Col.t) i)=some (ps.map (·.2))/\∀ p∈ps,Q p.1 p.2
 | [],_,_=>⟨[],rfl,rfl,fun p h=>by cases h⟩
 | c::cs,i,h=>by
  obtain ⟨w,e,hw⟩:=h c dW i;obtain ⟨ps,e1,e2,h2⟩:=GU cs (i+1) fun c hc=>h c (cK _ hc);refine ⟨(c,w)::ps,by simp [e1],?_,fun p hp=>?_⟩
  .simp only [cQ,eX,eM,e,e2,bD]
  .rcases omc hp with rfl | hp
   .exact hw
   .exact h2 p hp
theorem GV {P:Pr} (hd:P.fn "_law_drawn"=some hU) (hw:P.fn "_law_worth"=some hW) (h:P.fn "_law_row"=some tH) (n:Nat) (hb:b.ok) (k:Int) :
  ∃ ps,run P (n+2) "_law_row" [b.t,.int k]=some (aI ps)/\RowOk b ps:=by
 rw [cF h rfl];have hl:b.cs.length<=16777216:=by have:=hb.cl;lia
 obtain ⟨ps,e1,e2,h2⟩:=GU (Q:=fun c w=>Wok c w/\(c.g=false->w≠.non)) (f:=fun x=>(bnd 2 x (aC [Sl.val b.t,Sl.val (.int k)])).bind fun r'=>(evE (glo P (run P (n+1))) (.call "_law_worth" [.w 1,.bin .fdiv (.call "_law_drawn" [.w 3,.w 0]) (.c (.int 4))]) r').map some) b.cs 0 (fun c _ j=>by
  have e1:=lL hd n k (j:Int);obtain ⟨w,e2,hw'⟩:=ZW hw n c (cM k (j:Int)/4);refine ⟨w,?_,hw',fun hg=>?_⟩
  .simp [bnd,evE,aF,aC,Sl.get,glo,e1,e2,bB,bZ]
  .obtain ⟨u,e3,hu⟩:=A0 hw n c (cM k (j:Int)/4) hg;rw [e2] at e3;cases e3;exact hu)
 refine ⟨ps,?_,e1,fun p hp=>(h2 p hp).1,fun p hp=>(h2 p hp).2⟩;show aZ (aG (glo P (run P (n+1))) xU [Sl.val b.t,Sl.val (.int k)])=_;unfold xU;rw [cZ (t:=aI ps) rfl (by
  rw [gR,mR];have s1:aF (glo P (run P (n+1))) [.idx (.w 0) (.c (.int 1))] (aC [Sl.val b.t,Sl.val (.int k)])=some [.tup (b.cs.map Col.t)]:=by simp [aF,evE,aC,Sl.get,aO,Tb.t,gG,cS]
  have s2:cA .enum [.tup (b.cs.map Col.t)]=some (eX (b.cs.map Col.t) 0):=by simp [cA,items,yE,hl]
  rw [s1,bK,s2,bK,e2];rfl)]
 rfl
theorem yL {ps:List (Col × T)}:∀ {ks:List Str},(∀ k∈ks,∃ p∈ps,p.1.n=k)->∃ qs:List (Col × T),qs.map nmT=ks.map .str/\qs.map (·.1.n)=ks/\(∀ q∈qs,q∈ps)/\qs.length=ks.length
 | [],_=>⟨[],rfl,rfl,fun q h=>absurd h (by simp),rfl⟩
 | k::ks,h=>by
  obtain ⟨p,hp,e⟩:=h k dW;obtain ⟨qs,e1,e0,e2,e3⟩:=yL fun k hk=>h k (cK _ hk);refine ⟨p::qs,by simp [nmT,e,e1],by simp [e,e0],fun q hq=>?_,by simp [e3]⟩;rcases omc hq with rfl | hq
  .exact hp
  .exact e2 q hq
theorem RowOk.col (h:RowOk b ps) (hc:c∈b.cs):∃ p∈ps,p.1=c:=by rw [<- h.cs] at hc;obtain ⟨p,hp,e⟩:=omm hc;exact ⟨p,hp,e⟩
theorem RowOk.nd {b:Tb} {ps:List (Col × T)} (h:RowOk b ps) (hb:b.ok):(ps.map (·.1.n)).Nodup:=by have:=hb.nd;rw [<- h.cs,eP] at this;exact this
theorem RowOk.len (h:RowOk b ps) (hb:b.ok):ps.length<=4:=by have:=aV List.length h.cs;rw [bE] at this;rw [this];exact hb.cl
theorem RowOk.tab (h:RowOk b ps):b.t=jR (.str b.nm) ps (.tup (b.key.map .str)) (.tup (b.rs.map Rl.t)):=by rw [jR,h.cs];rfl
theorem yM {P:Pr} (hn:P.fn "_law_names"=some lJ) (h:P.fn "_law_key"=some mQ) (n:Nat) (hb:b.ok) (hp:RowOk b ps):run P (n+2) "_law_key" [b.t,aI ps]=some (tkT (aP b ps)):=by
 have hl:=hp.len hb;have hnd:=hp.nd hb;obtain ⟨qs,q1,q0,q2,q3⟩:=yL (ps:=ps) (ks:=b.key) fun x hx=>by obtain ⟨c,hc,e⟩:=hb.inn x hx;obtain ⟨p,hp',rfl⟩:=hp.col hc;exact ⟨p,hp',e⟩
 have hz:qs.length<=16777216:=by have:=hb.k1;lia
 rw [cF h rfl];show aZ (aG (glo P (run P (n+1))) mQ.body [.val b.t,.val (aI ps)])=_;have i2:aO b.t (.int 2)=some (.tup (qs.map nmT)):=by rw [q1,Tb.t,gG,aO,gH]
 have cn:(glo P (run P (n+1))).call "_law_names" [b.t]=some (.lst (ps.map nmT)):=by rw [hp.tab];exact GR hn n ps hl _ _ _
 have ek:aP b ps=qs.map fun q=>kk q.2:=by unfold aP;rw [<- q0,eP];exact oM fun q hq=>by show kk (val ps q.1.n)=kk q.2;rw [pS (q2 q hq) hnd]
 have et:tkT (aP b ps)=.tup (qs.map (·.2)):=by unfold tkT;rw [ek,eP];exact aV T.tup (oM fun q hq=>(GS (hp.wk q (q2 q hq))).2)
 rw [et];generalize b.t=X at *;unfold mQ;dsimp only;rw [cZ (t:=.tup (qs.map (·.2))) rfl (by
  rw [gR,mR];have s1:aF (glo P (run P (n+1))) [.idx (.w 0) (.c (.int 2))] (aC [Sl.val X,Sl.val (aI ps)])=some [.tup (qs.map nmT)]:=by simp [aF,evE,aC,Sl.get,i2]
  have s2:cA .plain [.tup (qs.map nmT)]=some (qs.map nmT):=by simp [cA,items,hz]
  rw [s1,bK,s2,bK,mS (fun q=>q.2) fun q hq'=>by obtain ⟨i,e1,e2⟩:=yG (q2 q hq') hnd;simp only [bnd,if_true,bD,evE,aF,aC,Sl.get,cQ,cV,dA,cU,dB,cn];rw [show nmT q=.str q.1.n from rfl,e1];simp only [bD,aI,aO,e2,fU]];rfl)]
 rfl
theorem yN (hb:b.ok) {qs:List (Col × T)} (hp:RowOk b ps) (hq:RowOk b qs):Ev.alike (aP b ps) (aP b qs)=true:=by
 have:∀ ks:List Str,(∀ x∈ks,∃ c∈b.cs,c.n=x/\c.g=false)->Ev.alike (ks.map fun x=>kk (val ps x)) (ks.map fun x=>kk (val qs x))=true:=by
  intro ks
  induction ks with
  | nil=>intro _;rfl
  | cons x ks ih =>
   intro h;obtain ⟨c,hc,e,hg⟩:=h x dW;obtain ⟨p,hp1,hp2⟩:=hp.col hc;obtain ⟨q,hq1,hq2⟩:=hq.col hc;have v1:val ps x=p.2:=by rw [<- e,<- hp2];exact pS hp1 (hp.nd hb)
   have v2:val qs x=q.2:=by rw [<- e,<- hq2];exact pS hq1 (hq.nd hb)
   rw [aT,aT,Ev.alike,bS,v1,v2];have w1:=hp.wk p hp1;have w2:=hq.wk q hq1;rw [hp2] at w1;rw [hq2] at w2;exact ⟨ZZ w1 w2 (hp.ng p hp1 (by rw [hp2];exact hg)) (hq.ng q hq1 (by rw [hq2];exact hg)),ih fun y hy=>h y (cK _ hy)⟩
 exact this b.key hb.kg
theorem DU (hb:b.ok) (ps:List (Col × T)):aP b ps≠[]:=by unfold aP;intro e;exact hb.kn (List.map_eq_nil_iff.mp e)
theorem pU:∀ ks:List Kt,gX (ks.map kT)=some ks
 | []=>rfl
 | k::ks=>by rw [aT,gX,pU ks];rcases k with _ | _ | _<;>rfl
end
section
theorem yO (a b:Kt):eqT (kT a) (kT b)=decide (a=b):=by
 rcases a with i | _ | x<;>rcases b with j | _ | y<;>simp only [kT,eqT]
 all_goals first | (simp;done) | (by_cases e:i=j<;>simp [e]) | (by_cases e:x=y<;>simp [e])
theorem GW:∀ a b:List Kt,dX (a.map kT) (b.map kT)=decide (a=b)
 | [],[]=>by rw [List.map_nil,dX];rfl
 | [],_::_=>by rw [List.map_cons,List.map_nil,dX]<;>simp
 | _::_,[]=>by rw [List.map_cons,List.map_nil,dX]<;>simp
 | x::a,y::b=>by rw [aT,aT,dX,yO,GW a b];by_cases e:x=y<;>by_cases f:a=b<;>simp [e,f]
theorem pV (a b:List Kt):eqT (tkT a) (tkT b)=decide (a=b):=by rw [tkT,tkT,eqT,GW]
theorem A1 (a b:Kt):dpP (kT a) (kT b)=0:=by rcases a with _ | _ | _<;>rcases b with _ | _ | _<;>rfl
theorem GX:∀ a b:List Kt,cI (a.map kT) (b.map kT)=0
 | [],_=>by rw [List.map_nil,cI];simp
 | _::_,[]=>by rw [List.map_nil,cI];simp
 | x::a,y::b=>by rw [aT,aT,cI,A1,GX a b];rfl
theorem oF (a b:List Kt):dpP (tkT a) (tkT b)=1:=by rw [tkT,tkT,dpP,GX]
theorem tS:∀ {a b:List Kt},Ev.alike a b=true->dR (a.map kT) (b.map kT)=some (bM a b)
 | [],[],_=>rfl
 | [],_::_,h=>by cases h
 | _::_,[],h=>by cases h
 | x::a,y::b,h=>by
  rw [Ev.alike,bS] at h;rw [aT,aT,dR];show (if eqT (kT x) (kT y)=true then dR (a.map kT) (b.map kT) else ltD (kT x) (kT y))=_;rw [yO,bM];by_cases e:x=y
  .rw [if_pos (dY e),if_pos e];exact tS h.2
  .rw [if_neg (by simpa using e),if_neg e];rcases x with i | _ | x<;>rcases y with j | _ | y<;>first | rfl | (exact absurd h.1 dH)
theorem yP:∀ {a b c:List Kt},bM a b=true->bM b c=true->bM a c=true
 | [],_,_,h,_=>by cases h
 | _::_,[],_,h,_=>by cases h
 | _::_,_::_,[],_,h=>by cases h
 | x::a,y::b,z::c,h1,h2=>by
  rw [bM] at h1 h2 ⊢;by_cases e:x=y
  .rw [if_pos e] at h1;by_cases f:y=z
   .rw [if_pos f] at h2;rw [if_pos (e.trans f)];exact yP h1 h2
   .rw [if_neg f] at h2;rw [if_neg (fun g=>f (e.symm.trans g)),e];exact h2
  .rw [if_neg e] at h1;by_cases f:y=z
   .rw [if_neg (fun g=>e (g.trans f.symm)),<- f];exact h1
   .rw [if_neg f] at h2;have h3:=CZ h1 h2;rw [if_neg fun g=>by rw [g,CY] at h3;cases h3];exact h3
theorem oG {a b:List Kt} (h:Ev.alike a b=true):cD (tkT a) (tkT b)=bM a b:=by unfold cD;rw [show ltD (tkT a) (tkT b)=some (bM a b) from tS h];cases bM a b<;>rfl
theorem GY:∀ {l:List (List Kt)},(∀ x∈l,∀ y∈l,Ev.alike x y=true)->dZ (l.map tkT)=(eW l).map tkT
 | [],_=>rfl
 | k::r,h=>by
  have ins:∀ {m:List (List Kt)},(∀ y∈m,Ev.alike k y=true)->kU (tkT k) (m.map tkT)=(iJ k m).map tkT:=fun {m}=>by
   induction m with
   | nil=>intro _;rfl
   | cons y m ih =>
    intro hm;rw [aT,kU,iJ,oG (hm y (.head _))];split
    .rfl
    .rw [aT,ih fun z hz=>hm z (.tail _ hz)]
  rw [aT,dZ,GY fun x hx y hy=>h x (.tail _ hx) y (.tail _ hy),eW];exact ins fun y hy=>h k (.head _) y (.tail _ (nS.mp hy))
theorem A2 {l:List (List Kt)} (hl:l.length<=60) (nd:l.Nodup) (ne:∀ x∈l,x≠[]) (al:∀ x∈l,∀ y∈l,Ev.alike x y=true):OkN (l.map tkT):=by
 refine ⟨by rw [bE];exact hl,fun x hx y hy=>?_,fun x hx y hy=>?_,?_,?_,fun x hx y hy z hz=>?_⟩
 .obtain ⟨x,_,rfl⟩:=omm hx;obtain ⟨y,_,rfl⟩:=omm hy;rw [oF];decide
 .obtain ⟨x,mx,rfl⟩:=omm hx;obtain ⟨y,my,rfl⟩:=omm hy;exact ⟨_,tS (al x mx y my)⟩
 .cases l with
  | nil=>exact ⟨0,fun x hx=>nomatch hx⟩
  | cons k r =>
   cases k with
   | nil=>exact absurd rfl (ne _ (.head _))
   | cons k0 kr =>
    refine ⟨match k0 with | .inl _=>0 | _=>1,fun x hx=>?_⟩;obtain ⟨x,mx,rfl⟩:=omm hx;have q:=al _ (.head _) x mx;cases x with
    | nil=>cases q
    | cons a s =>rw [Ev.alike,bS] at q;refine ⟨kT a,s.map kT,rfl,?_⟩;rcases k0 with _ | _ | _<;>rcases a with _ | _ | _<;>first | rfl | (exact absurd q.1 dH)
 .refine List.pairwise_map.mpr (List.Pairwise.imp_of_mem (fun {x y} hx hy hn=>?_) nd);rw [oG (al x hx y hy),oG (al y hy x hx)];exact rO (al x hx y hy) hn
 .obtain ⟨x,mx,rfl⟩:=omm hx;obtain ⟨y,my,rfl⟩:=omm hy;obtain ⟨z,mz,rfl⟩:=omm hz;rw [oG (al x mx y my),oG (al y my z mz),oG (al x mx z mz)];exact yP
end
section
variable {qb:List (List Kt × T)} {k:List Kt} {v:T} {b:Tb}
def slD:List (List Kt × T)->Sl
 | []=>.dk []
 | p::r=>.dt (p::r)
def dD:List (List Kt × T)->T
 | []=>.dk [] []
 | p::r=>.dt ((p::r).map (·.1)) ((p::r).map (·.2))
theorem A3 (l:List (List Kt × T)):Sl.frz (slD l)=.val (dD l):=by cases l<;>rfl
theorem A4:∃ p r,dQ qb k v=p::r:=by
 unfold dQ;cases qb with
 | nil=>exact ⟨_,_,rfl⟩
 | cons a l=>split<;>exact ⟨_,_,rfl⟩
theorem A5 (qb:List (List Kt × T)) (k:List Kt) (v:T) (h:qb.length<=5):kX (some (slD qb)) (tkT k) v=some (slD (dQ qb k v)):=by
 have hk:tkO (tkT k)=some k:=pU k;have hz:qb.length<SZ:=by show qb.length<16777216;lia
 cases qb with
 | nil =>show (tkO (tkT k)).map (fun q=>Sl.dt [(q,v)])=some (slD (dQ [] k v));rw [hk];rfl
 | cons a l =>show ((tkO (tkT k)).bind fun q=>if (a::l).length<SZ then some (.dt (dQ (a::l) q v)) else none)=some (slD (dQ (a::l) k v));rw [hk,bK,if_pos hz];obtain ⟨p,r,e⟩:=A4 (qb:=a::l) (k:=k) (v:=v);rw [e];rfl
theorem A6 {p:List Kt × T} (h:p∈dQ qb k v):p∈qb\/p=(k,v):=by
 unfold dQ at h;split at h
 .obtain ⟨q,hq,rfl⟩:=omm h;by_cases e:q.1=k
  .rw [if_pos e,e];exact .inr rfl
  .rw [if_neg e];exact .inl hq
 .rcases oma h with h | h
  .exact .inl h
  .exact .inr (omg h)
theorem A7 (h:(qb.map (·.1)).Nodup):((dQ qb k v).map (·.1)).Nodup:=by
 unfold dQ;split
 .rw [eP];have:(qb.map ((·.1)∘fun kv=>if kv.1=k then (kv.1,v) else kv))=qb.map (·.1):=oM fun q _=>by show (if q.1=k then (q.1,v) else q).1=q.1;split<;>rfl
  rw [this];exact h
 .rename_i hn;rw [iG];refine List.nodup_append.mpr ⟨h,by simp,fun a ha c hc e=>?_⟩;have hc:c=k:=omg hc;subst hc;subst e;obtain ⟨q,hq,rfl⟩:=omm ha;exact hn (List.any_eq_true.mpr ⟨q,hq,by simp⟩)
theorem A8:(dQ qb k v).length<=qb.length+1:=by
 unfold dQ;split
 .rw [bE];lia
 .rw [List.length_append];simp
theorem GZ:∀ {qb:List (List Kt × T)} {k:List Kt},k∈qb.map (·.1)->∃ v,gY (qb.map (·.1)) (qb.map (·.2)) k=some v/\(k,v)∈qb
 | p::qb,k,h=>by
  rw [aT,aT,gY];by_cases e:p.1=k
  .rw [if_pos e,<- e];exact ⟨p.2,rfl,dW⟩
  .rw [if_neg e];obtain ⟨v,h1,h2⟩:=GZ (qb:=qb) ((omc h).resolve_left fun z=>e z.symm);exact ⟨v,h1,cK _ h2⟩
structure Book (b:Tb) (qb:List (List Kt × T)):Prop where
 nd:(qb.map (·.1)).Nodup
 rw:∀ p∈qb,∃ ps,RowOk b ps/\p=(aP b ps,aI ps)
theorem Book.srt (hb:b.ok) (h:Book b qb) (h5:qb.length<=5):bO .sorted (dD qb)=some (.lst ((eW (qb.map (·.1))).map tkT)):=by
 cases qb with
 | nil=>rfl
 | cons p r =>
  have al:∀ x∈(p::r).map (·.1),∀ y∈(p::r).map (·.1),Ev.alike x y=true:=fun x hx y hy=>by obtain ⟨q,hq,rfl⟩:=omm hx;obtain ⟨ps,h1,rfl⟩:=h.rw q hq;obtain ⟨q',hq',rfl⟩:=omm hy;obtain ⟨ps',h2,rfl⟩:=h.rw q' hq';exact yN hb h1 h2
  show jK (((p::r).map (·.1)).map tkT)=_;unfold jK;rw [if_pos (A2 (by rw [bE];lia) h.nd (fun x hx=>by obtain ⟨q,hq,rfl⟩:=omm hx;obtain ⟨ps,h1,rfl⟩:=h.rw q hq;exact DU hb ps) al),GY al]
theorem Book.get (h:Book b qb) (hk:k∈eW (qb.map (·.1))):∃ w,aO (dD qb) (tkT k)=some w/\∃ ps,RowOk b ps/\w=aI ps/\aP b ps=k:=by
 have hk:=nS.mp hk;obtain ⟨v,h1,h2⟩:=GZ hk;obtain ⟨ps,h3,e⟩:=h.rw _ h2;injection e with e1 e2;refine ⟨v,?_,ps,h3,e2,e1.symm⟩;cases qb with
 | nil=>cases hk
 | cons p r =>show (gX (k.map kT)).bind _=_;rw [pU];exact h1
noncomputable def d4:List Int:=[1,5,25,125]
theorem A9 {i:Nat} (h:i<4):∃ d:Int,cJ [.int 1,.int 5,.int 25,.int 125] (i:Int)=some (.int d)/\0<d/\d<1073741824:=by
 match i,h with
 | 0,_=>exact ⟨1,hY rfl,by decide,by decide⟩
 | 1,_=>exact ⟨5,hY rfl,by decide,by decide⟩
 | 2,_=>exact ⟨25,hY rfl,by decide,by decide⟩
 | 3,_=>exact ⟨125,hY rfl,by decide,by decide⟩
noncomputable def lex:E:=.bin .add (.w 2) (.tup [.blt .toTuple (.comp (.idx (.w 6) (.w 0)) 1 .plain [.blt .sorted (.w 5)] none)])
noncomputable def tT:List S:=[.dnew 5,.loop [6] .range [.bin .mod (.bin .fdiv (.w 1) (.idx (.tup [.c (.int 1),.c (.int 5),.c (.int 25),.c (.int 125)]) (.w 3))) (.c (.int 5))] lin,.asg 2 lex]
theorem B0 (G:Glo) (o:Bo) (a b:E) (r:Env):evE G (.bin o a b) r=(evE G a r).bind fun x=>(evE G b r).bind fun y=>bB o x y:=by rw [evE]
theorem B1:lW 10=true:=by decide
section
variable {P:Pr} (hd:P.fn "_law_drawn"=some hU) (hw:P.fn "_law_worth"=some hW) (hr:P.fn "_law_row"=some tH) (hn:P.fn "_law_names"=some lJ) (hk:P.fn "_law_key"=some mQ)
include hd hw hr hn hk
theorem B2 (n:Nat) (hb:b.ok) (S Z:T) (N:Int) (i j:Nat) (hB:Book b qb) (h5:qb.length<=4) (s7:Sl) :
  ∃ kvs' s7',aG (glo P (run P (n+2))) lin [.val S,.val (.int N),.val Z,.val (.int (i:Int)),.val b.t,slD qb,.val (.int (j:Int)),s7]=some (.nx [.val S,.val (.int N),.val Z,.val (.int (i:Int)),.val b.t,slD kvs',.val (.int (j:Int)),s7'])/\Book b kvs'/\kvs'.length<=qb.length+1:=by
 obtain ⟨ps,e1,hp⟩:=GV hd hw hr n hb (cM N (10*i+j)/4);have e2:=lL hd (n+1) N (10*i+j);have e3:=yM hn hk n hb hp;refine ⟨dQ qb (aP b ps) (aI ps),.val (aI ps),?_,⟨A7 hB.nd,fun p h=>?_⟩,A8⟩
 .unfold lin;rw [bJ (t:=aI ps) (τ':=[.val S,.val (.int N),.val Z,.val (.int (i:Int)),.val b.t,slD qb,.val (.int (j:Int)),.val (aI ps)]) rfl (by simp [evE,aF,aC,Sl.get,glo,bB,cX,kS,B1,bZ,e2,e1]) rfl];have e4:evS (glo P (run P (n+2))) (.dput 5 (.call "_law_key" [.w 4,.w 7]) (.w 7)) [.val S,.val (.int N),.val Z,.val (.int (i:Int)),.val b.t,slD qb,.val (.int (j:Int)),.val (aI ps)]=some (.nx [.val S,.val (.int N),.val Z,.val (.int (i:Int)),.val b.t,slD (dQ qb (aP b ps) (aI ps)),.val (.int (j:Int)),.val (aI ps)]):=by
   have hf:aQ (aM (.w 7)++aM (.call "_law_key" [.w 4,.w 7])) [Sl.val S,.val (.int N),.val Z,.val (.int (i:Int)),.val b.t,slD qb,.val (.int (j:Int)),.val (aI ps)]=[Sl.val S,.val (.int N),.val Z,.val (.int (i:Int)),.val b.t,slD qb,.val (.int (j:Int)),.val (aI ps)]:=rfl;have v1:evE (glo P (run P (n+2))) (.w 7) (aC [Sl.val S,.val (.int N),.val Z,.val (.int (i:Int)),.val b.t,slD qb,.val (.int (j:Int)),.val (aI ps)])=some (aI ps):=by simp [evE,aC,Sl.get]
   have v2:evE (glo P (run P (n+2))) (.call "_law_key" [.w 4,.w 7]) (aC [Sl.val S,.val (.int N),.val Z,.val (.int (i:Int)),.val b.t,slD qb,.val (.int (j:Int)),.val (aI ps)])=some (tkT (aP b ps)):=by simp [evE,aF,aC,Sl.get,glo,e3]
   rw [evS,hf,v1,bK,v2,bK];show ((kX (some (slD qb)) (tkT (aP b ps)) (aI ps)).map _)=_;rw [A5 qb _ _ (by lia)];rfl
  rw [bG e4,aG]
 .rcases A6 h with h | h
  .exact hB.rw p h
  .exact ⟨ps,hp,h⟩
theorem B3 (n:Nat) (hb:b.ok) (S:T) (N:Int) (i:Nat) (hi:i<4) (Z:List T) (hZ:Z.length<=4) (s5 s6 s7:Sl) :
  ∃ (R:List (List (Col × T))) (s5' s6' s7':Sl),aG (glo P (run P (n+2))) tT [.val S,.val (.int N),.val (.tup Z),.val (.int (i:Int)),.val b.t,s5,s6,s7]=some (.nx [.val S,.val (.int N),.val (.tup (Z++[.tup (R.map aI)])),.val (.int (i:Int)),.val b.t,s5',s6',s7'])/\R.length<=4/\(∀ ps∈R,RowOk b ps)/\(R.map (aP b)).Pairwise (fun x y=>bM x y=true):=by
 obtain ⟨d,ed,d0,d1⟩:=A9 hi;obtain ⟨m,em,m4⟩:∃ m:Nat,N/d%5=(m:Int)/\m<=4:=⟨(N/d%5).toNat,by lia,by lia⟩;obtain ⟨τ',el,qb,s6',s7',rfl,hB,hl⟩:=gQ (enc:=fun j:Nat=>T.int (j:Int)) (f:=fun x τ=>(bI [6] x τ).bind fun τ'=>aG (glo P (run P (n+2))) lin τ')
  (fun done τ=>∃ qb s6 s7,τ=[.val S,.val (.int N),.val (.tup Z),.val (.int (i:Int)),.val b.t,slD qb,s6,s7]/\Book b qb/\qb.length<=done.length)
  (List.range m) [.val S,.val (.int N),.val (.tup Z),.val (.int (i:Int)),.val b.t,slD [],s6,s7] ⟨[],s6,s7,rfl,⟨qF,fun p h=>by cases h⟩,aW _⟩ (by
   rintro l1 j l2 hsp τ ⟨qb,s6,s7,rfl,hB,hl⟩;have hl4:qb.length<=4:=by have:=aV List.length hsp;simp at this;lia
   obtain ⟨kvs',s7',e,hB',hl'⟩:=B2 hd hw hr hn hk n hb S (.tup Z) N i j hB hl4 s7;refine ⟨[.val S,.val (.int N),.val (.tup Z),.val (.int (i:Int)),.val b.t,slD kvs',.val (.int (j:Int)),s7'],?_,kvs',.val (.int (j:Int)),s7',rfl,hB',by simp;lia⟩;simp only [bI,bD,oS,oU];exact e)
 have hl4:qb.length<=4:=by simp at hl;lia
 obtain ⟨pr,p1,p2,p3⟩:=GT (enc:=tkT) (Q:=fun k w=>∃ ps,RowOk b ps/\w=aI ps/\aP b ps=k) (f:=fun x=>(aO (dD qb) x).map some) (eW (qb.map (·.1))) fun k hk'=>by obtain ⟨w,w1,w2⟩:=hB.get hk';exact ⟨w,by rw [w1];rfl,w2⟩
 obtain ⟨R,r1,r2,r3⟩:∃ R:List (List (Col × T)),pr.map (·.2)=R.map aI/\(∀ ps∈R,RowOk b ps)/\R.map (aP b)=pr.map (·.1):=by
  clear p1 p2
  induction pr with
  | nil=>exact ⟨[],rfl,(fun ps h=>by cases h),rfl⟩
  | cons p pr ih =>
   obtain ⟨ps,h1,h2,h3⟩:=p3 p dW;obtain ⟨R,r1,r2,r3⟩:=ih fun q hq=>p3 q (cK _ hq);refine ⟨ps::R,by rw [aT,aT,r1,h2],fun q hq=>?_,by rw [aT,aT,r3,h3]⟩;rcases omc hq with rfl | hq
   .exact h1
   .exact r2 q hq
 have hRl:R.length<=4:=by have e1:=aV List.length r1;have e2:=aV List.length p1;rw [bE,bE] at e1;rw [bE,wM,bE] at e2;lia
 refine ⟨R,.val (dD qb),s6',s7',?_,hRl,r2,by rw [r3,p1];refine DD hB.nd fun x hx y hy=>?_;obtain ⟨q,hq,rfl⟩:=omm hx;obtain ⟨q',hq',rfl⟩:=omm hy;obtain ⟨ps,h1,rfl⟩:=hB.rw q hq;obtain ⟨ps',h2,rfl⟩:=hB.rw q' hq';exact yN hb h1 h2⟩;unfold tT;rw [bG (s:=.dnew 5) (τ':=[.val S,.val (.int N),.val (.tup Z),.val (.int (i:Int)),.val b.t,slD [],s6,s7]) (by rw [evS];rfl)];rw [bG (fN (xs:=[.int (m:Int)]) (qc:=(List.range m).map fun (j:Nat)=>T.int (j:Int)) (τ0:=[.val S,.val (.int N),.val (.tup Z),.val (.int (i:Int)),.val b.t,slD [],s6,s7]) rfl (by
  simp [aF,evE,aC,Sl.get,aO,ed,bB,bZ,cH,d0,d1,em]) (by
  simp only [items,kA,Int.toNat_natCast];rw [if_pos (by lia)]) el)]
 have hsz:(eW (qb.map (·.1))).length<=16777216:=by rw [wM,bE];lia
 have hz:Z.length+1<=16777216:=by lia
 rw [GE (i:=2) (e:=lex) (τ0:=[.val S,.val (.int N),.val (.tup Z),.val (.int (i:Int)),.val b.t,.val (dD qb),s6',s7']) (t:=.tup (Z++[.tup (R.map aI)])) (τ':=[.val S,.val (.int N),.val (.tup (Z++[.tup (R.map aI)])),.val (.int (i:Int)),.val b.t,.val (dD qb),s6',s7']) (by
   show [Sl.val S,.val (.int N),.val (.tup Z),.val (.int (i:Int)),.val b.t,Sl.frz (Sl.frz (slD qb)),s6',s7']=_;rw [A3];rfl) (by
   have ec:evE (glo P (run P (n+2))) (.comp (.idx (.w 6) (.w 0)) 1 .plain [.blt .sorted (.w 5)] none) (aC [Sl.val S,.val (.int N),.val (.tup Z),.val (.int (i:Int)),.val b.t,.val (dD qb),s6',s7'])=some (.lst (R.map aI)):=by
    rw [mR];have s1:aF (glo P (run P (n+2))) [.blt .sorted (.w 5)] (aC [Sl.val S,.val (.int N),.val (.tup Z),.val (.int (i:Int)),.val b.t,.val (dD qb),s6',s7'])=some [.lst ((eW (qb.map (·.1))).map tkT)]:=by simp [aF,evE,aC,Sl.get,hB.srt hb (by lia)]
    have s2:cA .plain [.lst ((eW (qb.map (·.1))).map tkT)]=some ((eW (qb.map (·.1))).map tkT):=by simp [cA,items,hsz]
    have ef:(fun x=>(bnd 1 x (aC [Sl.val S,.val (.int N),.val (.tup Z),.val (.int (i:Int)),.val b.t,.val (dD qb),s6',s7'])).bind fun r'=>(evE (glo P (run P (n+2))) (.idx (.w 6) (.w 0)) r').map some)=fun x=>(aO (dD qb) x).map some:=by funext x;simp [bnd,evE,aC,Sl.get]
    rw [s1,bK,s2,bK,ef,p2,r1];rfl
   unfold lex;rw [B0];rw [show evE (glo P (run P (n+2))) (.tup [.blt .toTuple (.comp (.idx (.w 6) (.w 0)) 1 .plain [.blt .sorted (.w 5)] none)]) (aC [Sl.val S,.val (.int N),.val (.tup Z),.val (.int (i:Int)),.val b.t,.val (dD qb),s6',s7'])=some (.tup [.tup (R.map aI)]) by rw [evE,aF,gR,ec];rfl];simp [evE,aC,Sl.get,bB,cX,hz]) rfl,aG]
theorem B4 (hl:P.fn "_law_loose"=some yK) (n:Nat) {S:List Tb} (hS:∀ b∈S,b.ok) (h4:S.length<=4) (N:Int) :
  ∃ Z:List (Tb × List (List (Col × T))),run P (n+3) "_law_loose" [.tup (S.map Tb.t),.int N]=some (.tup (Z.map fun z=>.tup (z.2.map aI)))/\Z.map (·.1)=S/\∀ z∈Z,z.2.length<=4/\(∀ ps∈z.2,RowOk z.1 ps)/\(z.2.map (aP z.1)).Pairwise (fun x y=>bM x y=true):=by
 rw [cF hl rfl];show ∃ Z:List (Tb × List (List (Col × T))),aZ (aG (glo P (run P (n+2))) [.asg 2 (.tup []),.loop [3,4] .enum [.w 0] tT,.ret (.w 2)] [.val (.tup (S.map Tb.t)),.val (.int N),.no,.no,.no,.no,.no,.no])=_/\_;rw [bJ (t:=.tup []) (τ':=[.val (.tup (S.map Tb.t)),.val (.int N),.val (.tup []),.no,.no,.no,.no,.no]) rfl (by simp [evE,aF]) rfl];obtain ⟨τ',el,Z,s3,s4,s5,s6,s7,rfl,h1,h2⟩:=gQ (enc:=fun (p:Tb × Nat)=>T.tup [.int (p.2:Int),p.1.t]) (f:=fun x τ=>(bI [3,4] x τ).bind fun τ'=>aG (glo P (run P (n+2))) tT τ')
  (fun done τ=>∃ (Z:List (Tb × List (List (Col × T)))),∃ s3 s4 s5 s6 s7,τ=[.val (.tup (S.map Tb.t)),.val (.int N),.val (.tup (Z.map fun z=>.tup (z.2.map aI))),s3,s4,s5,s6,s7]/\Z.map (·.1)=done.map (·.1)/\∀ z∈Z,z.2.length<=4/\(∀ ps∈z.2,RowOk z.1 ps)/\(z.2.map (aP z.1)).Pairwise (fun x y=>bM x y=true))
  (S.zipIdx 0) [.val (.tup (S.map Tb.t)),.val (.int N),.val (.tup []),.no,.no,.no,.no,.no] ⟨[],.no,.no,.no,.no,.no,rfl,rfl,fun z h=>by cases h⟩ (by
   rintro done ⟨b,i⟩ rest hsp τ ⟨Z,s3,s4,s5,s6,s7,rfl,h1,h2⟩;have hm:(b,i)∈S.zipIdx 0:=by rw [hsp];simp
   have hb:b∈S:=by have:=List.mem_zipIdx' hm;rw [this.2];exact iD _
   have hi:i<4:=by have:=(List.mem_zipIdx' hm).1;lia
   have hzl:Z.length<=4:=by have e1:=aV List.length h1;have e2:=aV List.length hsp;simp at e1 e2;lia
   obtain ⟨R,s5',s6',s7',e,r1,r2,r3⟩:=B3 hd hw hr hn hk n (hS b hb) (.tup (S.map Tb.t)) N i hi (Z.map fun z=>.tup (z.2.map aI)) (by rw [bE];exact hzl) s5 s6 s7;refine ⟨[.val (.tup (S.map Tb.t)),.val (.int N),.val (.tup ((Z++[(b,R)]).map fun z=>.tup (z.2.map aI))),.val (.int (i:Int)),.val b.t,s5',s6',s7'],?_,Z++[(b,R)],_,_,_,_,_,rfl,by simp [h1],fun z hz=>?_⟩
   .simp only [bI,setAll,bD,oS,oU];rw [e,iG];rfl
   .rcases oma hz with z' | z'
    .exact h2 z z'
    .rw [omg z'];exact ⟨r1,r2,r3⟩)
 refine ⟨Z,?_,by rw [h1,List.zipIdx_map_fst],h2⟩;rw [bG (fN (xs:=[.tup (S.map Tb.t)]) (qc:=(S.zipIdx 0).map fun (p:Tb × Nat)=>T.tup [.int (p.2:Int),p.1.t]) (τ0:=[.val (.tup (S.map Tb.t)),.val (.int N),.val (.tup []),.no,.no,.no,.no,.no]) rfl (by simp [aF,evE,aC,Sl.get]) (by simp only [items,oE]) el)];rw [cZ (t:=.tup (Z.map fun z=>.tup (z.2.map aI))) rfl (by simp [evE,aC,Sl.get])];rfl
end
end
section
abbrev Zt:=Tb × List (List (Col × T))
def aE (Z:List Zt):T:=.tup (Z.map fun z=>z.1.t)
def rwT (z:Zt):T:=.tup (z.2.map aI)
def stT (Z:List Zt):T:=.tup (Z.map rwT)
theorem yQ:∀ Z:List Zt,eY (Z.map fun z=>z.1.t) (Z.map rwT)=Z.map fun z=>.tup [z.1.t,rwT z]
 | []=>rfl
 | z::Z=>by rw [aT,aT,aT,eY,yQ Z]
theorem t0 (b:Tb):aO b.t (.int 0)=some (.str b.nm):=by rw [Tb.t,gG,aO,eE]
theorem t1 (b:Tb):aO b.t (.int 1)=some (.tup (b.cs.map Col.t)):=by rw [Tb.t,gG,aO,cS]
theorem yR {α:Type} {enc:α->T} {nm:α->Str} {f:T->List Sl->Option Out} {I:List Sl->Prop} {r:α->T} (x:Str) (hit:∀ a τ,I τ->nm a=x->f (enc a) τ=some (.rt (r a))) (miss:∀ a τ,I τ->nm a≠x->∃ τ',f (enc a) τ=some (.nx τ')/\I τ') :
  ∀ {l:List α} {a:α},a∈l->(l.map nm).Nodup->nm a=x->∀ τ,I τ->cB f (l.map enc) τ=some (.rt (r a))
 | b::l,a,ha,nd,e,τ,h=>by
  rw [aT] at nd;obtain ⟨n1,n2⟩:=gI.mp nd;rw [aT,cB];by_cases hb:nm b=x
  .rcases omc ha with rfl | ha
   .rw [hit _ τ h hb];rfl
   .exact absurd (fY.mpr ⟨a,ha,e.trans hb.symm⟩) n1
  .rcases omc ha with rfl | ha
   .exact absurd e hb
   .obtain ⟨τ',h1,h2⟩:=miss b τ h hb;rw [h1];exact yR x hit miss ha n2 e τ' h2
theorem tU {P:Pr} (h:P.fn "table_of"=some tQ) (n:Nat) {Z:List Zt} {z:Zt} (hz:z∈Z) (nd:(Z.map (·.1.nm)).Nodup):run P (n+1) "table_of" [aE Z,.str z.1.nm]=some z.1.t:=by
 rw [cF h rfl];show aZ (aG (glo P (run P n)) yI [.val (aE Z),.val (.str z.1.nm),.no])=_;unfold yI;have el:=yR (enc:=fun z:Zt=>z.1.t) (nm:=fun z:Zt=>z.1.nm) (r:=fun z:Zt=>z.1.t) (I:=fun τ=>∃ s2,τ=[Sl.val (aE Z),.val (.str z.1.nm),s2])
  (f:=fun x τ=>(bI [2] x τ).bind fun τ'=>aG (glo P (run P n)) [.ite (.cmp .eq (.idx (.w 2) (.c (.int 0))) (.w 1)) [.ret (.w 2)] []] τ') z.1.nm
  (fun a τ ⟨s2,hτ⟩ e=>by subst hτ;show aG (glo P (run P n)) [.ite (.cmp .eq (.idx (.w 2) (.c (.int 0))) (.w 1)) [.ret (.w 2)] []] [.val (aE Z),.val (.str z.1.nm),.val a.1.t]=_;exact jP rfl (by simp [evE,aC,Sl.get,t0,bH,eqs,e]) (cZ rfl (by simp [evE,aC,Sl.get])))
  (fun a τ ⟨s2,hτ⟩ e=>by subst hτ;refine ⟨[.val (aE Z),.val (.str z.1.nm),.val a.1.t],?_,_,rfl⟩;show aG (glo P (run P n)) [.ite (.cmp .eq (.idx (.w 2) (.c (.int 0))) (.w 1)) [.ret (.w 2)] []] [.val (aE Z),.val (.str z.1.nm),.val a.1.t]=_;rw [eJ rfl (by simp [evE,aC,Sl.get,t0,bH,eqs,e]),aG])
  hz nd rfl [Sl.val (aE Z),.val (.str z.1.nm),.no] ⟨_,rfl⟩
 rw [kI (fN (xs:=[aE Z]) (qc:=Z.map fun z=>z.1.t) (τ0:=[Sl.val (aE Z),.val (.str z.1.nm),.no]) rfl (by simp [aF,evE,aC,Sl.get]) rfl el)];rfl
theorem tV {P:Pr} (h:P.fn "rows_of"=some tR) (n:Nat) {Z:List Zt} {z:Zt} (hz:z∈Z) (nd:(Z.map (·.1.nm)).Nodup):run P (n+1) "rows_of" [aE Z,stT Z,.str z.1.nm]=some (rwT z):=by
 rw [cF h rfl];show aZ (aG (glo P (run P n)) yJ [.val (aE Z),.val (stT Z),.val (.str z.1.nm),.no,.no])=_;unfold yJ;have el:=yR (enc:=fun z:Zt=>T.tup [z.1.t,rwT z]) (nm:=fun z:Zt=>z.1.nm) (r:=rwT) (I:=fun τ=>∃ s3 s4,τ=[Sl.val (aE Z),.val (stT Z),.val (.str z.1.nm),s3,s4])
  (f:=fun x τ=>(bI [3,4] x τ).bind fun τ'=>aG (glo P (run P n)) [.ite (.cmp .eq (.idx (.w 3) (.c (.int 0))) (.w 2)) [.ret (.w 4)] []] τ') z.1.nm
  (fun a τ ⟨s3,s4,hτ⟩ e=>by subst hτ;show aG (glo P (run P n)) [.ite (.cmp .eq (.idx (.w 3) (.c (.int 0))) (.w 2)) [.ret (.w 4)] []] [.val (aE Z),.val (stT Z),.val (.str z.1.nm),.val a.1.t,.val (rwT a)]=_;exact jP rfl (by simp [evE,aC,Sl.get,t0,bH,eqs,e]) (cZ rfl (by simp [evE,aC,Sl.get])))
  (fun a τ ⟨s3,s4,hτ⟩ e=>by subst hτ;refine ⟨[.val (aE Z),.val (stT Z),.val (.str z.1.nm),.val a.1.t,.val (rwT a)],?_,_,_,rfl⟩;show aG (glo P (run P n)) [.ite (.cmp .eq (.idx (.w 3) (.c (.int 0))) (.w 2)) [.ret (.w 4)] []] [.val (aE Z),.val (stT Z),.val (.str z.1.nm),.val a.1.t,.val (rwT a)]=_;rw [eJ rfl (by simp [evE,aC,Sl.get,t0,bH,eqs,e]),aG])
  hz nd rfl [Sl.val (aE Z),.val (stT Z),.val (.str z.1.nm),.no,.no] ⟨_,_,rfl⟩
 rw [kI (fN (xs:=[aE Z,stT Z]) (qc:=Z.map fun z=>T.tup [z.1.t,rwT z]) (τ0:=[Sl.val (aE Z),.val (stT Z),.val (.str z.1.nm),.no,.no]) rfl (by simp [aF,evE,aC,Sl.get]) (by show some (eY (Z.map fun z=>z.1.t) (Z.map rwT))=_;rw [yQ]) el)];rfl
theorem HA (G:Glo) (a b:E) (r:Env):evE G (.idx a b) r=(evE G a r).bind fun x=>(evE G b r).bind fun y=>aO x y:=by rw [evE]
theorem B5 (G:Glo) (m:Mt) (a b:E) (r:Env):evE G (.mth m a b) r=(evE G a r).bind fun x=>(evE G b r).bind fun y=>iK m x y:=by rw [evE]
theorem HB {z:Zt}:∀ {Z:List Zt},z∈Z->(Z.map (·.1.nm)).Nodup->∃ i:Nat,jZ (.str z.1.nm) (Z.map fun z=>T.str z.1.nm)=some i/\(Z.map rwT)[i]?=some (rwT z)
 | y::Z,h,nd=>by
  rw [aT] at nd;obtain ⟨n1,n2⟩:=gI.mp nd;rw [aT,jZ];by_cases e:y.1.nm=z.1.nm
  .rcases omc h with rfl | h
   .exact ⟨0,by simp [eqT],rfl⟩
   .exact absurd (fY.mpr ⟨z,h,e.symm⟩) n1
  .rcases omc h with rfl | h
   .exact absurd rfl e
   .obtain ⟨i,h1,h2⟩:=HB h n2;refine ⟨i+1,?_,by simpa using h2⟩;rw [h1];simp [eqT,e]
theorem B6 {P:Pr} (h:P.fn "_law_rows"=some tE) (n:Nat) {Z:List Zt} (h4:Z.length<=4) {z:Zt} (hz:z∈Z) (nd:(Z.map (·.1.nm)).Nodup):run P (n+1) "_law_rows" [aE Z,stT Z,.str z.1.nm]=some (rwT z):=by
 rw [cF h rfl];obtain ⟨i,h1,h2⟩:=HB hz nd;have hz':Z.length<=16777216:=by lia
 show aZ (aG (glo P (run P n)) xS [.val (aE Z),.val (stT Z),.val (.str z.1.nm)])=_;unfold xS;have ec:evE (glo P (run P n)) (.comp (.idx (.w 0) (.c (.int 0))) 1 .plain [.w 0] none) (aC [Sl.val (aE Z),.val (stT Z),.val (.str z.1.nm)])=some (.lst (Z.map fun z=>T.str z.1.nm)):=by
  rw [mR];have s1:aF (glo P (run P n)) [.w 0] (aC [Sl.val (aE Z),.val (stT Z),.val (.str z.1.nm)])=some [aE Z]:=by simp [aF,evE,aC,Sl.get]
  have s2:cA .plain [aE Z]=some (Z.map fun z=>z.1.t):=by simp [cA,items,aE,hz']
  rw [s1,bK,s2,bK,mS (fun z:Zt=>T.str z.1.nm) fun a _=>by simp [bnd,evE,aC,Sl.get,t0]];rfl
 have hf:((Z.map fun z=>T.str z.1.nm).all flat)=true:=by rw [oO];intro t ht;obtain ⟨a,_,rfl⟩:=omm ht;rfl
 have em:iK .index (.lst (Z.map fun z=>T.str z.1.nm)) (.str z.1.nm)=some (.int (i:Int)):=by simp only [iK];rw [if_pos (by rw [hf];rfl),h1];rfl
 rw [cZ (t:=rwT z) rfl (by rw [HA,B5,ec];simp only [evE,aC,cQ,cV,Sl.get,dA,cU,dB,bD,em];show cJ (Z.map rwT) (i:Int)=_;exact hY h2)];rfl
end
section
variable {n:Nat}
theorem HC:∀ {l:List T},(∀ w∈l,eqT w w=true)->dX l l=true
 | [],_=>by rw [dX]
 | w::l,h=>by rw [dX,h w dW,HC fun u hu=>h u (cK _ hu)];rfl
theorem HD {n:Nat}:∀ {l:List T},(∀ w∈l,dpP w w<=n)->cI l l<=n
 | [],_=>by rw [cI]<;>first | exact Nat.zero_le _ | simp
 | w::l,h=>by rw [cI];exact Nat.max_le.mpr ⟨h w dW,HD fun u hu=>h u (cK _ hu)⟩
def Slf (n:Nat) (t:T):Prop:=eqT t t=true/\dpP t t<=n
theorem oH {t:T} (h:flat t=true):Slf 0 t:=by cases t<;>first | exact ⟨by simp [eqT],Nat.le_refl _⟩ | cases h
theorem mT {l:List T} (h:∀ w∈l,Slf n w):Slf (n+1) (.tup l) :=
 ⟨by rw [eqT];exact HC fun w hw=>(h w hw).1,by rw [dpP];exact Nat.succ_le_succ (HD fun w hw=>(h w hw).2)⟩
theorem tW {m:Nat} {t:T} (h:Slf n t) (hm:n<=m):Slf m t:=⟨h.1,dS h.2 hm⟩
theorem HE {t:T} (h:Slf n t) (hn:n<=30):neC t t=some (.bl false):=by unfold neC;rw [if_pos (dS h.2 hn),h.1];rfl
theorem HF {b:Tb} {ps:List (Col × T)} (h:RowOk b ps):Slf 1 (aI ps):=mT fun w hw=>by obtain ⟨p,hp,rfl⟩:=omm hw;exact oH (h.wk p hp).flat
theorem B7 (k:List Kt):Slf 1 (tkT k):=mT fun w hw=>by obtain ⟨x,_,rfl⟩:=omm hw;exact oH (by rcases x with _ | _ | _<;>rfl)
end
section
structure Tr where
 nm:Str
 j:Nat
 k:List Kt
def trT (x:Tr):T:=.tup [.str x.nm,.int (x.j:Int),tkT x.k]
def code (x:Tr):List Kt:=.inr (some x.nm)::.inl (x.j:Int)::x.k
theorem HG {a b:Str} (h:a≠b):(Sum.inr (some a):Kt)≠.inr (some b):=fun z=>h (cP (Sum.inr.inj z))
theorem j_ne {a b:Nat} (h:a≠b):(Sum.inl (a:Int):Kt)≠.inl (b:Int):=fun z=>h (by have:=Sum.inl.inj z;lia)
theorem yS (x y:Tr):bM (code x) (code y)=if x.nm=y.nm then (if x.j=y.j then bM x.k y.k else kLt (.inl (x.j:Int)) (.inl (y.j:Int))) else kLt (.inr (some x.nm)) (.inr (some y.nm)):=by
 show (if (Sum.inr (some x.nm):Kt)=.inr (some y.nm) then (if (Sum.inl (x.j:Int):Kt)=.inl (y.j:Int) then bM x.k y.k else kLt (.inl (x.j:Int)) (.inl (y.j:Int))) else kLt (.inr (some x.nm)) (.inr (some y.nm)))=_;by_cases e:x.nm=y.nm
 .rw [if_pos (by rw [e]),if_pos e];by_cases f:x.j=y.j
  .rw [if_pos (by rw [f]),if_pos f]
  .rw [if_neg (j_ne f),if_neg f]
 .rw [if_neg (HG e),if_neg e]
theorem HH {x y:Tr} (h:x.nm=y.nm->Ev.alike x.k y.k=true):ltD (trT x) (trT y)=some (bM (code x) (code y)):=by
 show dR [.str x.nm,.int (x.j:Int),tkT x.k] [.str y.nm,.int (y.j:Int),tkT y.k]=_;rw [yS,dR];show (if (x.nm==y.nm)=true then dR [.int (x.j:Int),tkT x.k] [.int (y.j:Int),tkT y.k] else ltD (.str x.nm) (.str y.nm))=_;by_cases e:x.nm=y.nm
 .rw [if_pos (lQ.mpr e),if_pos e,dR];show (if ((x.j:Int)==(y.j:Int))=true then dR [tkT x.k] [tkT y.k] else ltD (.int (x.j:Int)) (.int (y.j:Int)))=_;by_cases f:x.j=y.j
  .rw [if_pos (by rw [f];exact lO _),if_pos f,dR];show (if eqT (tkT x.k) (tkT y.k)=true then dR [] [] else dR (x.k.map kT) (y.k.map kT))=_;rw [pV,tS (h e)];by_cases g:x.k=y.k
   .rw [if_pos (dY g),g,rN];rfl
   .rw [if_neg (by simpa using g)]
  .have f':¬ (x.j:Int)=(y.j:Int):=by lia
   rw [if_neg (by simpa using f'),if_neg f];rfl
 .rw [if_neg (by simpa using e),if_neg e];rfl
theorem B8 {x y:Tr} (h:x.nm=y.nm->Ev.alike x.k y.k=true) (hn:x≠y):bM (code y) (code x)=!bM (code x) (code y):=by
 rw [yS,yS];by_cases e:x.nm=y.nm
 .rw [if_pos e.symm,if_pos e];by_cases f:x.j=y.j
  .rw [if_pos f.symm,if_pos f];refine rO (h e) fun g=>hn ?_;obtain ⟨a,b,c⟩:=x;obtain ⟨a',b',c'⟩:=y;cases e;cases f;cases g;rfl
  .rw [if_neg (fun z=>f z.symm),if_neg f];exact wJ rfl (j_ne f)
 .rw [if_neg (fun z=>e z.symm),if_neg e];exact wJ rfl (HG e)
structure TrOk (l:List Tr):Prop where
 len:l.length<=60
 nd:l.Nodup
 al:∀ x∈l,∀ y∈l,x.nm=y.nm->Ev.alike x.k y.k=true
theorem TrOk.cd {l:List Tr} (h:TrOk l) {x y:Tr} (hx:x∈l) (hy:y∈l):cD (trT x) (trT y)=bM (code x) (code y):=by unfold cD;rw [HH (h.al x hx y hy)];cases bM (code x) (code y)<;>rfl
theorem TrOk.tot {l:List Tr} (h:TrOk l):(l.map trT).Pairwise fun x y=>cD y x=!cD x y:=by refine List.pairwise_map.mpr (List.Pairwise.imp_of_mem (fun {x y} hx hy hn=>?_) h.nd);rw [h.cd hx hy,h.cd hy hx];exact B8 (h.al x hx y hy) hn
theorem TrOk.tr {l:List Tr} (h:TrOk l):∀ x∈l.map trT,∀ y∈l.map trT,∀ z∈l.map trT,cD x y=true->cD y z=true->cD x z=true:=fun x hx y hy z hz=>by obtain ⟨x',mx,rfl⟩:=omm hx;obtain ⟨y',my,rfl⟩:=omm hy;obtain ⟨z',mz,rfl⟩:=omm hz;rw [h.cd mx my,h.cd my mz,h.cd mx mz];exact yP
theorem TrOk.okN {l:List Tr} (h:TrOk l):OkN (l.map trT):=by
 refine ⟨by rw [bE];exact h.len,fun x hx y hy=>?_,fun x hx y hy=>?_,⟨1,fun x hx=>?_⟩,h.tot,h.tr⟩
 .obtain ⟨x',mx,rfl⟩:=omm hx;obtain ⟨y',my,rfl⟩:=omm hy;show cI [.str x'.nm,.int (x'.j:Int),tkT x'.k] [.str y'.nm,.int (y'.j:Int),tkT y'.k]+1<=20;rw [cI,cI,cI,oF,cI]<;>first | (simp [dpP];done) | simp
 .obtain ⟨x',mx,rfl⟩:=omm hx;obtain ⟨y',my,rfl⟩:=omm hy;exact ⟨_,HH (h.al x' mx y' my)⟩
 .obtain ⟨x',mx,rfl⟩:=omm hx;exact ⟨_,_,rfl,rfl⟩
theorem TrOk.sorted {l:List Tr} (h:TrOk l):bO .sorted (.lst (l.map trT))=some (.lst (dZ (l.map trT))):=by show jK _=_;unfold jK;rw [if_pos h.okN]
end
end Ev.K04
section
end
namespace Ev.K04
open PySem
section
variable {b:Tb} {qa:List Str} {P:Pr}
noncomputable def yT:List S:=[.ret (.call "worths_of" [.w 0,.w 1,.idx (.w 0) (.c (.int 2))])]
noncomputable def pW:Fd:=⟨2,2,yT⟩
noncomputable def pX:Fd:=⟨3,4,[.asg 3 (.call "table_of" [.w 0,.w 2]),
  .ret (.blt .dict (.comp (.tup [.call "key_of" [.w 4,.w 0],.w 0]) 1 .plain [.call "rows_of" [.w 0,.w 1,.w 2]] none))]⟩
noncomputable def oI:Fd:=⟨3,4,[.asg 3 (.call "worths_of" [.w 0,.w 2,.idx (.w 1) (.c (.int 1))]),
  .ite (.cmp .isin (.c .non) (.w 3)) [.ret (.c .non)] [],
  .ret (.w 3)]⟩
noncomputable def rbB:List S:=[.asg 5 (.call "key_referred_to" [.w 0,.w 1,.w 4]),
  .ite (.cmp .notN (.w 5) (.c .non)) [.app 3 (.tup [.tup [.idx (.w 0) (.c (.int 0)),.call "key_of" [.w 0,.w 4]],.w 1,.tup [.idx (.w 1) (.c (.int 2)),.w 5]])] []]
noncomputable def yU:List S:=[.asg 3 (.lst []),
  .loop [4] .plain [.w 2] rbB,
  .ret (.w 3)]
noncomputable def yV:Fd:=⟨3,6,yU⟩
abbrev Row:=List (Col × T)
def wK (qa:List Str) (ps:Row):List Kt:=qa.map fun x=>kk (val ps x)
def dN (k:List Kt):Bool:=k.any fun x=>decide (x=.inr none)
def kyT (b:Tb) (ps:Row):T:=tkT (aP b ps)
def woT (qa:List Str) (ps:Row):T:=if dN (wK qa ps)=true then .non else tkT (wK qa ps)
theorem HI (k:List Kt):inC .non (tkT k)=some (dN k):=by
 have h1:dpI .non (k.map kT)=true:=by unfold dpI;rw [List.all_map];exact oO.mpr fun x _=>by rcases x with _ | _ | _<;>rfl
 have h2:((k.map kT).any fun z=>eqT z .non)=dN k:=by rw [List.any_map,dN];congr;funext x;exact yO x (.inr none)
 show (if dpI .non (k.map kT)=true then some ((k.map kT).any fun z=>eqT z .non) else none)=_;rw [if_pos h1,h2]
theorem HJ (hb:b.ok) {ps:Row} (hp:RowOk b ps) (hc:∀ x∈qa,∃ c∈b.cs,c.n=x):∃ qs:Row,qs.map nmT=qa.map .str/\(∀ q∈qs,q∈ps)/\qs.length=qa.length/\T.tup (qs.map (·.2))=tkT (wK qa ps):=by
 have hnd:=hp.nd hb;obtain ⟨qs,q1,q0,q2,q3⟩:=yL (ps:=ps) (ks:=qa) fun x hx=>by obtain ⟨c,hc,e⟩:=hc x hx;obtain ⟨p,hp',rfl⟩:=hp.col hc;exact ⟨p,hp',e⟩
 refine ⟨qs,q1,q2,q3,?_⟩;have ek:wK qa ps=qs.map fun q=>kk q.2:=by unfold wK;rw [<- q0,eP];exact oM fun q hq=>by show kk (val ps q.1.n)=kk q.2;rw [pS (q2 q hq) hnd]
 unfold tkT;rw [ek,eP];exact aV T.tup (oM fun q hq=>((GS (hp.wk q (q2 q hq))).2).symm)
theorem HK (h:P.fn "worths_of"=some kG) (n:Nat) (hb:b.ok) {ps:Row} (hp:RowOk b ps) (hc:∀ x∈qa,∃ c∈b.cs,c.n=x) (h4:qa.length<=4):run P (n+1) "worths_of" [b.t,aI ps,bC qa]=some (tkT (wK qa ps)):=by obtain ⟨qs,q1,q2,q3,q4⟩:=HJ hb hp hc;rw [hp.tab,bC,<- q1,<- q4];exact ZY h n (hp.len hb) (hp.nd hb) _ _ _ q2 (by lia)
theorem t2 (b:Tb):aO b.t (.int 2)=some (bC b.key):=by rw [Tb.t,gG,aO,gH];rfl
theorem t3 (b:Tb):aO b.t (.int 3)=some (.tup (b.rs.map Rl.t)):=by rw [Tb.t,gG,aO,YF]
theorem tX (hw:P.fn "worths_of"=some kG) (h:P.fn "key_of"=some pW) (n:Nat) (hb:b.ok) {ps:Row} (hp:RowOk b ps):run P (n+2) "key_of" [b.t,aI ps]=some (kyT b ps):=by rw [cF h rfl];have e:(glo P (run P (n+1))).call "worths_of" [b.t,aI ps,bC b.key]=some (kyT b ps):=HK hw n hb hp hb.inn (by have:=hb.k1;lia);show aZ (aG (glo P (run P (n+1))) yT [.val b.t,.val (aI ps)])=_;unfold yT;generalize glo P (run P (n+1))=G at *;rw [cZ (t:=kyT b ps) rfl (by simp only [evE,aF,aC,Sl.get,cQ,cV,dA,cU,dB,bD,t2,e])];rfl
theorem HL (hw:P.fn "worths_of"=some kG) (h:P.fn "key_referred_to"=some oI) (n:Nat) (hb:b.ok) {ps:Row} (hp:RowOk b ps) (hc:∀ x∈qa,∃ c∈b.cs,c.n=x) (h4:qa.length<=4) {r:T} (hr:aO r (.int 1)=some (bC qa)) :
  run P (n+2) "key_referred_to" [b.t,r,aI ps]=some (woT qa ps):=by
 rw [cF h rfl];have e:(glo P (run P (n+1))).call "worths_of" [b.t,aI ps,bC qa]=some (tkT (wK qa ps)):=HK hw n hb hp hc h4;show aZ (aG (glo P (run P (n+1))) oI.body [.val b.t,.val r,.val (aI ps),.no])=_;generalize glo P (run P (n+1))=G at *;unfold oI;dsimp only;rw [bJ (t:=tkT (wK qa ps)) (τ':=[.val b.t,.val r,.val (aI ps),.val (tkT (wK qa ps))]) rfl (by simp only [evE,aF,aC,Sl.get,cQ,cV,dA,cU,dB,bD,hr,e]) rfl];have ec:evE G (.cmp .isin (.c .non) (.w 3)) (aC [.val b.t,.val r,.val (aI ps),.val (tkT (wK qa ps))])=some (.bl (dN (wK qa ps))):=by simp only [evE,aC,Sl.get,cQ,cV,dA,cU,dB,bD,bH,HI,fU]
 unfold woT;cases hN:dN (wK qa ps) with
 | true=>rw [hN] at ec;rw [jP rfl ec (cZ (t:=.non) rfl (by rw [evE])),if_pos rfl];rfl
 | false=>rw [hN] at ec;rw [eJ rfl ec,cZ (t:=tkT (wK qa ps)) rfl (by simp only [evE,aC,Sl.get,cQ,cV,dA,cU,dB]),if_neg (by simp)];rfl
theorem HM {α β:Type} (c:α->Bool) (f:α->β):∀ l:List α,(l.filterMap fun a=>if c a=true then some (f a) else none)=(l.filter c).map f
 | []=>rfl
 | a::l=>by rw [jF,jT,HM c f l];cases c a<;>rfl
theorem yW {G:Glo} {elt cond:E} {src:List E} {r:Env} {n:Nat} {α:Type} {enc:α->T} {R:List α} (c:α->Bool) (f:α->T) {xs:List T} (h1:aF G src r=some xs) (h2:cA .plain xs=some (R.map enc))
  (hb:∀ a∈R,∃ r',bnd n (enc a) r=some r'/\evE G cond r'=some (.bl (c a))/\(c a=true->evE G elt r'=some (f a))):evE G (.comp elt n .plain src (some cond)) r=some (.lst ((R.filter c).map f)):=by
 rw [tP,h1,bK,h2,bK,iA (enc:=enc) (fun a=>if c a=true then some (f a) else none) fun a ha=>by
  obtain ⟨r',e1,e2,e3⟩:=hb a ha;rw [e1,bK,evO,e2,Option.map_some,bK];cases hc:c a with
  | true=>rw [if_pos rfl];simp only [e3 hc,fU]
  | false=>rfl]
 rw [HM];rfl
theorem yX (R:List Row) (h4:R.length<=4):cA .plain [.tup (R.map aI)]=some (R.map aI):=by
 have hz:R.length<=16777216:=by lia
 simp [cA,items,hz]
def cG (b:Tb) (r:T) (g:Str) (qa:List Str) (ps:Row):T:=.tup [.tup [.str b.nm,kyT b ps],r,.tup [.str g,tkT (wK qa ps)]]
def ful (qa:List Str) (R:List Row):List Row:=R.filter fun ps=>!dN (wK qa ps)
theorem B9 (qa:List Str) (ps:Row):bH .notN (woT qa ps) .non=some (.bl (!dN (wK qa ps))):=by unfold woT;cases dN (wK qa ps)<;>rfl
theorem C9 (hw:P.fn "worths_of"=some kG) (hk:P.fn "key_of"=some pW) (hkr:P.fn "key_referred_to"=some oI) (h:P.fn "references_by"=some yV) (n:Nat) (hb:b.ok) {R:List Row} (h4R:R.length<=4) (hR:∀ ps∈R,RowOk b ps) (hc:∀ x∈qa,∃ c∈b.cs,c.n=x) (h4:qa.length<=4) {r:T} {g:Str} (hr:aO r (.int 1)=some (bC qa)) (hr2:aO r (.int 2)=some (.str g)) :
  run P (n+3) "references_by" [b.t,r,.tup (R.map aI)]=some (.lst ((ful qa R).map (cG b r g qa))):=by
 rw [cF h rfl];have ek:∀ ps∈R,(glo P (run P (n+2))).call "key_of" [b.t,aI ps]=some (kyT b ps):=fun ps hp=>tX hw hk n hb (hR ps hp);have er:∀ ps∈R,(glo P (run P (n+2))).call "key_referred_to" [b.t,r,aI ps]=some (woT qa ps):=fun ps hp=>HL hw hkr n hb (hR ps hp) hc h4 hr;show aZ (aG (glo P (run P (n+2))) yU [.val b.t,.val r,.val (.tup (R.map aI)),.no,.no,.no])=_;unfold yU;generalize glo P (run P (n+2))=G at *;rw [bJ (t:=.lst []) (τ':=[.val b.t,.val r,.val (.tup (R.map aI)),.own [],.no,.no]) rfl (by rw [evE];rfl) rfl];obtain ⟨τ',el,s4,s5,rfl⟩:=gQ (enc:=aI) (f:=fun x τ=>(bI [4] x τ).bind fun τ'=>aG G rbB τ')
  (fun done τ=>∃ s4 s5,τ=[.val b.t,.val r,.val (.tup (R.map aI)),.own ((ful qa done).map (cG b r g qa)),s4,s5])
  R [.val b.t,.val r,.val (.tup (R.map aI)),.own [],.no,.no] ⟨_,_,rfl⟩ (by
   rintro l1 ps l2 hsp τ ⟨s4,s5,rfl⟩;have hm:ps∈R:=by rw [hsp];simp
   refine ⟨[.val b.t,.val r,.val (.tup (R.map aI)),.own ((ful qa (l1++[ps])).map (cG b r g qa)),.val (aI ps),.val (woT qa ps)],?_,_,_,rfl⟩;simp only [bI,bD,oS,oU];unfold rbB;rw [bJ (t:=woT qa ps) (τ':=[.val b.t,.val r,.val (.tup (R.map aI)),.own ((ful qa l1).map (cG b r g qa)),.val (aI ps),.val (woT qa ps)]) rfl (by simp only [evE,aF,aC,Sl.get,cQ,cV,dA,cU,dB,bD,er ps hm]) rfl];have ec:evE G (.cmp .notN (.w 5) (.c .non)) (aC [.val b.t,.val r,.val (.tup (R.map aI)),.own ((ful qa l1).map (cG b r g qa)),.val (aI ps),.val (woT qa ps)])=some (.bl (!dN (wK qa ps))):=by simp only [evE,aC,Sl.get,cQ,cV,dA,cU,dB,bD,B9]
   have ef:ful qa (l1++[ps])=ful qa l1++if dN (wK qa ps)=true then [] else [ps]:=by unfold ful;rw [List.filter_append,jT];cases dN (wK qa ps)<;>rfl
   rw [ef];cases hN:dN (wK qa ps) with
   | true =>rw [hN] at ec;rw [eJ rfl ec,aG,if_pos rfl,dP]
   | false =>
    rw [hN] at ec;have hl:((ful qa l1).map (cG b r g qa)).length<SZ:=by have h1:=aV List.length hsp;have h2:(ful qa l1).length<=l1.length:=uI _ _;simp at h1;rw [bE];show _<16777216;lia
    have ew:woT qa ps=tkT (wK qa ps):=by unfold woT;rw [hN];rfl
    rw [if_neg (by simp),List.map_append];rw [pR (τ':=[.val b.t,.val r,.val (.tup (R.map aI)),.own ((ful qa l1).map (cG b r g qa)++[cG b r g qa ps]),.val (aI ps),.val (woT qa ps)]) rfl ec (by
     rw [bG (τ':=[.val b.t,.val r,.val (.tup (R.map aI)),.own ((ful qa l1).map (cG b r g qa)++[cG b r g qa ps]),.val (aI ps),.val (woT qa ps)]) (by
      rw [evS];have e1:evE G (.tup [.tup [.idx (.w 0) (.c (.int 0)),.call "key_of" [.w 0,.w 4]],.w 1,.tup [.idx (.w 1) (.c (.int 2)),.w 5]]) (aC [.val b.t,.val r,.val (.tup (R.map aI)),.own ((ful qa l1).map (cG b r g qa)),.val (aI ps),.val (woT qa ps)])=some (cG b r g qa ps):=by simp only [evE,aF,aC,Sl.get,cQ,cV,dA,cU,dB,bD,t0,hr2,ek ps hm,List.length_cons,List.length_nil,Nat.zero_add,Nat.reduceAdd,Nat.reduceLeDiff,if_true,fU,ew,cG]
      rw [show aQ (aM (.tup [.tup [.idx (.w 0) (.c (.int 0)),.call "key_of" [.w 0,.w 4]],.w 1,.tup [.idx (.w 1) (.c (.int 2)),.w 5]])) [.val b.t,.val r,.val (.tup (R.map aI)),.own ((ful qa l1).map (cG b r g qa)),.val (aI ps),.val (woT qa ps)]=[.val b.t,.val r,.val (.tup (R.map aI)),.own ((ful qa l1).map (cG b r g qa)),.val (aI ps),.val (woT qa ps)] from rfl,e1,bK];show (if ((ful qa l1).map (cG b r g qa)).length<SZ then _ else none)=_;rw [if_pos hl];rfl),aG]),aG]
    rfl)
 rw [bG (fN (xs:=[.tup (R.map aI)]) (qc:=R.map aI) (τ0:=[.val b.t,.val r,.val (.tup (R.map aI)),.own [],.no,.no]) rfl (by simp only [evE,aF,aC,Sl.get,cQ,cV,dA,cU,dB,bD]) rfl el)];rw [kI (t:=.lst ((ful qa R).map (cG b r g qa))) (by rw [evS,show aQ (aM (.w 3)) [.val b.t,.val r,.val (.tup (R.map aI)),.own ((ful qa R).map (cG b r g qa)),s4,s5]=[.val b.t,.val r,.val (.tup (R.map aI)),.val (.lst ((ful qa R).map (cG b r g qa))),s4,s5] from rfl];simp only [evE,aC,Sl.get,cQ,cV,dA,cU,dB,fU])];rfl
theorem HN (b:Tb):∀ R:List Row,kW (R.map fun ps=>.tup [kyT b ps,aI ps])=some (R.map fun ps=>(aP b ps,aI ps))
 | []=>rfl
 | ps::R=>by rw [aT,kW,HN b R];show ((gX ((aP b ps).map kT)).map fun k=>(k,aI ps)).bind _=_;rw [pU];rfl
def jS (b:Tb) (R:List Row):T:=.dt ((hG (R.map fun ps=>(aP b ps,aI ps))).map (·.1)) ((hG (R.map fun ps=>(aP b ps,aI ps))).map (·.2))
def gks (b:Tb) (R:List Row) (k:List Kt):Bool:=R.any fun ps=>decide (aP b ps=k)
theorem D0 (hw:P.fn "worths_of"=some kG) (hk:P.fn "key_of"=some pW) (htb:P.fn "table_of"=some tQ) (hro:P.fn "rows_of"=some tR) (h:P.fn "rows_by_key"=some pX) (n:Nat) {Z:List Zt} {z:Zt} (hz:z∈Z) (nd:(Z.map (·.1.nm)).Nodup) (hb:z.1.ok) (h4:z.2.length<=4) (hR:∀ ps∈z.2,RowOk z.1 ps) :
  run P (n+3) "rows_by_key" [aE Z,stT Z,.str z.1.nm]=some (jS z.1 z.2):=by
 rw [cF h rfl];have e1:(glo P (run P (n+2))).call "table_of" [aE Z,.str z.1.nm]=some z.1.t:=tU htb (n+1) hz nd;have e2:(glo P (run P (n+2))).call "rows_of" [aE Z,stT Z,.str z.1.nm]=some (rwT z):=tV hro (n+1) hz nd;have e3:∀ ps∈z.2,(glo P (run P (n+2))).call "key_of" [z.1.t,aI ps]=some (kyT z.1 ps):=fun ps hp=>tX hw hk n hb (hR ps hp);show aZ (aG (glo P (run P (n+2))) pX.body [.val (aE Z),.val (stT Z),.val (.str z.1.nm),.no])=_;generalize glo P (run P (n+2))=G at *;unfold pX;dsimp only;rw [bJ (t:=z.1.t) (τ':=[.val (aE Z),.val (stT Z),.val (.str z.1.nm),.val z.1.t]) rfl (by simp only [evE,aF,aC,Sl.get,cQ,cV,dA,cU,dB,bD,e1]) rfl];rw [cZ (t:=jS z.1 z.2) rfl (by
  rw [gR,mR];have s1:aF G [.call "rows_of" [.w 0,.w 1,.w 2]] (aC [.val (aE Z),.val (stT Z),.val (.str z.1.nm),.val z.1.t])=some [.tup (z.2.map aI)]:=by simp only [evE,aF,aC,Sl.get,cQ,cV,dA,cU,dB,bD,e2];rfl
  rw [s1,bK,yX z.2 h4,bK,mS (fun ps=>.tup [kyT z.1 ps,aI ps]) fun ps hp=>by simp only [bnd,if_true,bD,evE,aF,aC,Sl.get,cQ,cV,dA,cU,dB,e3 ps hp,List.length_cons,List.length_nil,Nat.zero_add,Nat.reduceAdd,Nat.reduceLeDiff,fU]];show (kW _).bind _=_;rw [HN,bK,if_pos (by rw [bE];lia)];rfl)]
 rfl
end
section
structure Prg (P:Pr):Prop where
 hwo:P.fn "worths_of"=some kG
 htb:P.fn "table_of"=some tQ
 hro:P.fn "rows_of"=some tR
 hk:P.fn "key_of"=some pW
 hkr:P.fn "key_referred_to"=some oI
 hbk:P.fn "rows_by_key"=some pX
 hrb:P.fn "references_by"=some yV
structure Sto (Z:List Zt):Prop where
 l4:Z.length<=4
 nd:(Z.map (·.1.nm)).Nodup
 ok:∀ z∈Z,z.1.ok/\z.2.length<=4/\∀ ps∈z.2,RowOk z.1 ps
 fit:∀ z∈Z,∀ r∈z.1.rs,r.fits (Z.map (·.1.nm)) z.1.cs
 lr:(Z.map fun z=>z.1.rs.length).sum<=13
 pw:∀ z∈Z,(z.2.map (aP z.1)).Pairwise (fun x y=>bM x y=true)
end
section
theorem D3 {P:Pr} (hn:P.fn "_law_names"=some lJ) (h:P.fn "_law_worths"=some pP) (n:Nat) {b:Tb} (hb:b.ok) {ps:Row} (hp:RowOk b ps) {qa:List Str} (hc:∀ x∈qa,∃ c∈b.cs,c.n=x) (h4:qa.length<=4):run P (n+2) "_law_worths" [b.t,aI ps,bC qa]=some (woT qa ps):=by
 obtain ⟨qs,q1,q2,q3,q4⟩:=HJ hb hp hc;have hnd:=hp.nd hb;have hz:qs.length<=16777216:=by lia
 rw [cF h rfl];have cn:(glo P (run P (n+1))).call "_law_names" [b.t]=some (.lst (ps.map nmT)):=by rw [hp.tab];exact GR hn n ps (hp.len hb) _ _ _
 show aZ (aG (glo P (run P (n+1))) pP.body [.val b.t,.val (aI ps),.val (bC qa),.no])=_;generalize glo P (run P (n+1))=G at *;generalize b.t=X at *;unfold pP;dsimp only;rw [bJ (t:=tkT (wK qa ps)) (τ':=[.val X,.val (aI ps),.val (bC qa),.val (tkT (wK qa ps))]) rfl (by
  rw [gR,mR];have s1:aF G [.w 2] (aC [Sl.val X,.val (aI ps),.val (bC qa),.no])=some [.tup (qs.map nmT)]:=by simp only [evE,aF,aC,Sl.get,cQ,cV,dA,cU,dB,bD,bC,q1]
  have s2:cA .plain [.tup (qs.map nmT)]=some (qs.map nmT):=by simp [cA,items,hz]
  rw [s1,bK,s2,bK,mS (fun q=>q.2) fun q hq'=>by obtain ⟨i,e1,e2⟩:=yG (q2 q hq') hnd;simp only [bnd,if_true,bD,evE,aF,aC,Sl.get,cQ,cV,dA,cU,dB,cn];rw [show nmT q=.str q.1.n from rfl,e1];simp only [bD,aI,aO,e2,fU]];show some (T.tup (qs.map (·.2)))=_;rw [q4]) rfl]
 rw [cZ (t:=woT qa ps) rfl (by
  simp only [evE,aF,aC,Sl.get,cQ,cV,dA,cU,dB,bD,bH,HI,fU,bO,List.length_cons,List.length_nil,Nat.zero_add,Nat.reduceAdd,Nat.reduceLeDiff,if_true];unfold woT;cases dN (wK qa ps) with
  | true=>rw [if_pos rfl,if_pos rfl,aO,cS]
  | false=>rw [if_neg (by simp),if_neg (by simp),aO,eE])]
 rfl
theorem HP {g:Zt}:∀ {Z:List Zt},g∈Z->(Z.map (·.1.nm)).Nodup->(Z.filter fun z=>z.1.nm==g.1.nm)=[g]
 | y::Z,h,nd=>by
  rw [aT] at nd;obtain ⟨n1,n2⟩:=gI.mp nd;rw [jT];by_cases e:y.1.nm=g.1.nm
  .rcases omc h with rfl | h
   .rw [if_pos (lQ.mpr rfl),List.filter_eq_nil_iff.mpr fun z hz q=>n1 (fY.mpr ⟨z,hz,dO q⟩)]
   .exact absurd (fY.mpr ⟨g,h,e.symm⟩) n1
  .rw [if_neg (by simpa using e)];rcases omc h with rfl | h
   .exact absurd rfl e
   .exact HP h n2
theorem D4 {P:Pr} (h:P.fn "_law_table"=some tD) (n:Nat) {Z:List Zt} (H:Sto Z) {g:Zt} (hg:g∈Z):run P (n+1) "_law_table" [aE Z,.str g.1.nm]=some g.1.t:=by
 rw [cF h rfl];show aZ (aG (glo P (run P n)) xR [.val (aE Z),.val (.str g.1.nm)])=_;unfold xR;generalize glo P (run P n)=G;have ec:=yW (G:=G) (elt:=.w 0) (cond:=.cmp .eq (.idx (.w 0) (.c (.int 0))) (.w 2)) (src:=[.w 0]) (r:=aC [.val (aE Z),.val (.str g.1.nm)]) (n:=1) (enc:=fun z:Zt=>z.1.t) (R:=Z) (fun z=>z.1.nm==g.1.nm) (fun z=>z.1.t) (xs:=[aE Z]) (by
  simp only [evE,aF,aC,Sl.get,cQ,cV,cU,dB,bD]) (by
  have hz:Z.length<=16777216:=by have:=H.l4;lia
  simp [cA,items,aE,hz]) fun z _=>⟨some z.1.t::aC [.val (aE Z),.val (.str g.1.nm)],rfl,by
   simp only [evE,aC,Sl.get,cQ,cV,dA,cU,dB,bD,t0,bH,eqs],fun _=>by
   simp only [evE,cU,dB]⟩
 rw [HP hg H.nd] at ec;rw [cZ (t:=g.1.t) rfl (by rw [HA,ec,evE,bK,bK];show cJ [g.1.t] 0=_;rw [eE])];rfl
end
section
theorem HQ:∀ {Z:List Zt} {z y:Zt},z∈Z->y∈Z->(Z.map (·.1.nm)).Nodup->z.1.nm=y.1.nm->z=y
 | a::Z,z,y,hz,hy,nd,e=>by
  rw [aT,gI] at nd;rcases omc hz with h1 | hz
  .rcases omc hy with h2 | hy
   .exact h1.trans h2.symm
   .exact absurd (fY.mpr ⟨y,hy,by rw [<- e,h1]⟩) nd.1
  .rcases omc hy with h2 | hy
   .exact absurd (fY.mpr ⟨z,hz,by rw [e,h2]⟩) nd.1
   .exact HQ hz hy nd.2 e
def trO (z:Zt) (j:Nat) (ps:Row):Tr:=⟨z.1.nm,j,aP z.1 ps⟩
theorem tY {α β:Type} {f:α->List β} {n:Nat}:∀ {l:List α},(∀ a∈l,(f a).length<=n)->(l.flatMap f).length<=n*l.length
 | [],_=>by simp
 | a::l,h=>by have h1:=h a dW;have h2:=tY (l:=l) fun b hb=>h b (cK _ hb);rw [kK,eU,eV,Nat.mul_add,Nat.mul_one];lia
theorem HR {α:Type} {l:List α} {p:α × Nat} (h:p∈l.zipIdx 0):p.1∈l:=by have:=List.mem_zipIdx' h;rw [this.2];exact iD _
theorem sum3:∀ {l:List Zt},l.length<=4->(∀ z∈l,z.1.rs.length<=3)->(l.map fun z=>z.1.rs.length).sum<=3*l.length
 | [],_,_=>by simp
 | z::l,h4,h=>by rw [eV] at h4;have h1:=h z dW;have h2:=sum3 (l:=l) (by lia) fun y hy=>h y (cK _ hy);rw [aT,uH,eV];lia
theorem D5 {Z:List Zt} (h4:Z.length<=4) (nd:(Z.map (·.1.nm)).Nodup) (hSo:∀ b∈Z.map (·.1),b.ok) (hSf:∀ b∈Z.map (·.1),b.rs.length<=3/\∀ r∈b.rs,r.fits ((Z.map (·.1)).map (·.nm)) b.cs) (hZ:∀ z∈Z,z.2.length<=4/\(∀ ps∈z.2,RowOk z.1 ps)/\(z.2.map (aP z.1)).Pairwise (fun x y=>bM x y=true)):Sto Z:=by
 refine ⟨h4,nd,fun z hz=>⟨hSo z.1 (fY.mpr ⟨z,hz,rfl⟩),(hZ z hz).1,(hZ z hz).2.1⟩,fun z hz r hr=>?_,?_,fun z hz=>(hZ z hz).2.2⟩
 .have:=(hSf z.1 (fY.mpr ⟨z,hz,rfl⟩)).2 r hr;rw [eP] at this;exact this
 .have:=sum3 h4 fun z hz=>(hSf z.1 (fY.mpr ⟨z,hz,rfl⟩)).1;lia
theorem D6 {G:Glo} {c:E} {a:List S} {ss:List S} {τ τ0:List Sl} (h0:aQ (aM c) τ=τ0) (h1:evE G c (aC τ0)=some (.bl false)):aG G (.ite c a []::ss) τ=aG G ss τ0:=bG (by rw [evS,h0,h1];rfl)
theorem D7 (x:Tr):Slf 2 (trT x):=mT fun w hw=>by
 rcases omc hw with rfl | hw
 .exact tW (oH rfl) (by lia)
 .rcases omc hw with rfl | hw
  .exact tW (oH rfl) (by lia)
  .rw [omg hw];exact B7 _
theorem D8 (l:List Tr):Slf 3 (.tup (dZ (l.map trT))):=mT fun w hw=>by obtain ⟨x,_,rfl⟩:=omm ((nU _).mem_iff.mp hw);exact D7 x
end
section
noncomputable def roB:List S:=[.ite (.tru (.call "is_same_key" [.call "key_of" [.w 4,.w 5],.w 3])) [.ret (.w 5)] []]
noncomputable def lN:Fd:=⟨4,6,[.asg 4 (.call "table_of" [.w 0,.w 2]),
  .loop [5] .plain [.call "rows_of" [.w 0,.w 1,.w 2]] roB,
  .fail]⟩
noncomputable def jA:Fd:=⟨2,2,[.ret (.land (.cmp .eq (.w 0) (.w 1)) (.lnot (.blt .any (.comp (.isi (.w 0) .tbool) 1 .plain [.w 1] none))))]⟩
noncomputable def tZ:Fd:=⟨4,7,[.asg 4 (.call "table_of" [.w 0,.w 2]),
  .asg 5 (.idx (.idx (.w 4) (.c (.int 3))) (.w 3)),
  .asg 6 (.call "rows_by_key" [.w 0,.w 1,.idx (.w 5) (.c (.int 2))]),
  .ret (.blt .toTuple (.comp (.tup [.w 0,.dg1 (.w 7) (.call "key_referred_to" [.w 5,.w 6,.w 0])]) 1 .plain [.call "rows_of" [.w 0,.w 1,.w 2]] none))]⟩
noncomputable def rfI:List S:=[.ite (.cmp .eq (.idx (.w 8) (.c (.int 0))) (.c (.str "refers"))) [.asg 9 (.call "references_by" [.w 5,.w 8,.w 6]),
  .ext 4 (.comp (.tup [.idx (.w 8) (.c (.int 0)),.w 10,.idx (.w 0) (.c (.int 1))]) 3 .plain [.w 9] (some (.cmp .eq (.w 2) (.tup [.w 5,.w 6]))))] []]
noncomputable def pY:Fd:=⟨4,10,[.exp (.call "row_of" [.w 0,.w 1,.w 2,.w 3]),
  .asg 4 (.lst []),
  .loop [5,6] .zip [.w 0,.w 1] [.loop [7,8] .enum [.idx (.w 5) (.c (.int 3))] rfI],
  .ret (.blt .toTuple (.blt .sorted (.w 4)))]⟩
noncomputable def lgB:List S:=[.ite (.cmp .eq (.call "_law_key" [.w 4,.w 5]) (.w 3)) [.ret (.w 5)] []]
noncomputable def uA:Fd:=⟨4,6,[.asg 4 (.call "_law_table" [.w 0,.idx (.w 2) (.c (.int 2))]),
  .loop [5] .plain [.call "_law_rows" [.w 0,.w 1,.idx (.w 2) (.c (.int 2))]] lgB,
  .ret (.c .non)]⟩
noncomputable def loR:List S:=[.asg 7 (.call "_law_worths" [.w 12,.w 6,.idx (.w 4) (.c (.int 1))]),
  .app 5 (.tup [.w 6,.call "_law_goal" [.w 10,.w 11,.w 4,.w 7]]),
  .app 1 (.tup [.tup [.idx (.w 12) (.c (.int 0)),.w 3,.call "_law_key" [.w 12,.w 6]],.tup [.idx (.w 4) (.c (.int 2)),.w 7]])]
noncomputable def oJ:Fd:=⟨1,13,[.asg 10 (.call "_law_schema" [.call "_law_mixed" [.w 0,.c (.int 0)]]),
  .asg 11 (.call "_law_loose" [.w 10,.call "_law_mixed" [.w 0,.c (.int 1)]]),
  .asg 1 (.lst []),
  .loop [12,2] .zip [.w 10,.w 11] [.loop [3,4] .enum [.idx (.w 12) (.c (.int 3))] [.ite (.cmp .eq (.idx (.w 4) (.c (.int 0))) (.c (.str "refers"))) [.asg 5 (.lst []),
  .loop [6] .plain [.w 2] loR,
  .ite (.cmp .ne (.call "matched" [.w 10,.w 11,.idx (.w 12) (.c (.int 0)),.w 3]) (.blt .toTuple (.w 5))) [.ret (.c (.bl false))] []] []]],
  .loop [12,2] .zip [.w 10,.w 11] [.asg 8 (.comp (.call "_law_key" [.w 13,.w 0]) 1 .plain [.w 2] none),
  .loop [9] .plain [.bin .add (.w 8) (.lst [.call "_law_key" [.w 12,.call "_law_row" [.w 12,.call "_law_mixed" [.w 0,.c (.int 2)]]]])] [.asg 5 (.tup [.c (.str "told"),.blt .toTuple (.blt .sorted (.comp (.w 0) 2 .plain [.w 1] (some (.cmp .eq (.w 1) (.tup [.idx (.w 14) (.c (.int 0)),.w 11])))))]),
  .ite (.cmp .notin (.w 9) (.w 8)) [.asg 5 (.tup [.c (.str "refused"),.c (.int 1),.c (.int 0)])] [],
  .tif "referring" [.w 10,.w 11,.idx (.w 12) (.c (.int 0)),.w 9] (.w 5) [.ret (.c (.bl false))]]],
  .ret (.c (.bl true))]⟩
noncomputable def oK:Rxd:=⟨4,6,[.nrm (.asg 4 (.call "table_of" [.w 0,.w 2])),.nrm (.loop [5] .plain [.call "rows_of" [.w 0,.w 1,.w 2]] [.ite (.tru (.call "is_same_key" [.call "key_of" [.w 4,.w 5],.w 3])) [.ret (.w 5)] []]),.fail "NoRow"]⟩
noncomputable def uB:Rxd:=⟨4,10,[.exq "row_of" [.w 0,.w 1,.w 2,.w 3],.nrm (.asg 4 (.lst [])),.nrm (.loop [5,6] .zip [.w 0,.w 1] [.loop [7,8] .enum [.idx (.w 5) (.c (.int 3))] [.ite (.cmp .eq (.idx (.w 8) (.c (.int 0))) (.c (.str "refers"))) [.asg 9 (.call "references_by" [.w 5,.w 8,.w 6]),
  .ext 4 (.comp (.tup [.idx (.w 8) (.c (.int 0)),.w 10,.idx (.w 0) (.c (.int 1))]) 3 .plain [.w 9] (some (.cmp .eq (.w 2) (.tup [.w 5,.w 6]))))] []]]),.nrm (.ret (.blt .toTuple (.blt .sorted (.w 4))))]⟩
theorem aU {α β:Type} {f:α->Option β} {x:Option α} {a:α} (h:x=some a):x.bind f=f a:=by rw [h];rfl
theorem cN (G:Glo) (f:Str) (es:List E) (r:Env):evE G (.call f es) r=(aF G es r).bind fun xs=>G.call f xs:=by rw [evE]
noncomputable def fnd (g:Zt) (k:List Kt):Option Row:=g.2.find? fun qs=>decide (aP g.1 qs=k)
def oT:Option Row->T
 | some qs=>aI qs
 | none=>.non
def mtR (g:Zt) (qa:List Str) (ps:Row):Option Row:=if dN (wK qa ps)=true then none else fnd g (wK qa ps)
theorem D9 {Z:List Zt} (H:Sto Z) {z:Zt} (hz:z∈Z):(z.2.map (aP z.1)).Nodup:=List.Pairwise.imp (fun {a b} h e=>by rw [e,rN] at h;cases h) (H.pw z hz)
theorem HS:∀ (l acc:List (List Kt × T)),((acc++l).map (·.1)).Nodup->l.foldl (fun acc p=>dQ acc p.1 p.2) acc=acc++l
 | [],acc,_=>by rw [dP];rfl
 | p::l,acc,nd=>by
  have hn:¬ (acc.any fun kv=>decide (kv.1=p.1))=true:=fun z=>by obtain ⟨kv,hkv,e⟩:=List.any_eq_true.mp z;rw [iG,aT,List.nodup_append] at nd;exact nd.2.2 kv.1 (fY.mpr ⟨kv,hkv,rfl⟩) p.1 (.head _) (jH e)
  rw [List.foldl_cons,dQ,if_neg hn,HS l (acc++[(p.1,p.2)]) (by rw [jW];exact nd),jW];rfl
theorem HU (k:List Kt) (b:Tb):∀ R:List Row,(gY (R.map fun ps=>aP b ps) (R.map aI) k).getD .non=oT (R.find? fun qs=>decide (aP b qs=k))
 | []=>rfl
 | ps::R=>by
  rw [aT,aT,gY,uK];by_cases e:aP b ps=k
  .rw [if_pos e,dY e];rfl
  .rw [if_neg e,eG e];exact HU k b R
theorem E1 {Z:List Zt} (H:Sto Z) {g:Zt} (hg:g∈Z) (qa:List Str) (ps:Row):qU (jS g.1 g.2) (woT qa ps)=some (oT (mtR g qa ps)):=by
 have hd:hG (g.2.map fun ps=>(aP g.1 ps,aI ps))=g.2.map fun ps=>(aP g.1 ps,aI ps):=HS _ [] (by rw [List.nil_append,eP];exact D9 H hg);unfold jS woT mtR;rw [hd,eP,eP];split
 .rfl
 .show (gX ((wK qa ps).map kT)).map _=_;rw [pU];show some _=some _;rw [fnd,<- HU];rfl
theorem yY {G:Glo} {elt:E} {src:List E} {r:Env} {n:Nat} {α:Type} {enc:α->T} {R:List α} (f:α->T) {xs:List T} (h1:aF G src r=some xs) (h2:cA .plain xs=some (R.map enc))
  (hb:∀ a∈R,∃ r',bnd n (enc a) r=some r'/\evE G elt r'=some (f a)):evE G (.comp elt n .plain src none) r=some (.lst (R.map f)):=by
 rw [tP,h1,bK,h2,bK,iA (enc:=enc) (fun a=>some (f a)) fun a ha=>by obtain ⟨r',e1,e2⟩:=hb a ha;rw [e1,bK,evO,bK,e2];rfl];rw [tO];rfl
theorem E2 {P:Pr} (p:Prg P) (h:P.fn "matched"=some tZ) (n:Nat) {Z:List Zt} (H:Sto Z) {z g:Zt} (hz:z∈Z) (hg:g∈Z) {qa:List Str} {w:Str} (hc:∀ x∈qa,∃ c∈z.1.cs,c.n=x) (h4:qa.length<=4) {j:Nat} (hj:z.1.rs[j]?=some (.ref qa g.1.nm w)) :
  run P (n+4) "matched" [aE Z,stT Z,.str z.1.nm,.int (j:Int)]=some (.tup (z.2.map fun ps=>.tup [aI ps,oT (mtR g qa ps)])):=by
 rw [cF h rfl];obtain ⟨hb,hl,hR⟩:=H.ok z hz;obtain ⟨hgb,hgl,hgR⟩:=H.ok g hg;have i1:aO (Rl.ref qa g.1.nm w).t (.int 1)=some (bC qa):=by rw [Rl.t,aO,cS]
 have i2:aO (Rl.ref qa g.1.nm w).t (.int 2)=some (.str g.1.nm):=by rw [Rl.t,aO,gH]
 have i3:aO (.tup (z.1.rs.map Rl.t)) (.int (j:Int))=some (Rl.ref qa g.1.nm w).t:=hY (by rw [iE,hj];rfl);have e1:(glo P (run P (n+3))).call "rows_by_key" [aE Z,stT Z,.str g.1.nm]=some (jS g.1 g.2):=D0 p.hwo p.hk p.htb p.hro p.hbk n hg H.nd hgb hgl hgR;have e2:(glo P (run P (n+3))).call "rows_of" [aE Z,stT Z,.str z.1.nm]=some (rwT z):=tV p.hro (n+2) hz H.nd;have e3:(glo P (run P (n+3))).call "table_of" [aE Z,.str z.1.nm]=some z.1.t:=tU p.htb (n+2) hz H.nd;have e4:∀ ps∈z.2,(glo P (run P (n+3))).call "key_referred_to" [z.1.t,(Rl.ref qa g.1.nm w).t,aI ps]=some (woT qa ps):=fun ps hp=>HL p.hwo p.hkr (n+1) hb (hR ps hp) hc h4 i1;have h0:aG (glo P (run P (n+3))) tZ.body [.val (aE Z),.val (stT Z),.val (.str z.1.nm),.val (.int (j:Int)),.no,.no,.no]=some (.rt (.tup (z.2.map fun ps=>.tup [aI ps,oT (mtR g qa ps)]))):=by
  generalize glo P (run P (n+3))=G at *;refine (bJ (t:=z.1.t) (τ':=[.val (aE Z),.val (stT Z),.val (.str z.1.nm),.val (.int (j:Int)),.val z.1.t,.no,.no]) rfl ?_ rfl).trans ?_
  .rw [cN];exact (aU (a:=[aE Z,T.str z.1.nm]) rfl).trans e3
  refine (bJ (t:=(Rl.ref qa g.1.nm w).t) (τ':=[.val (aE Z),.val (stT Z),.val (.str z.1.nm),.val (.int (j:Int)),.val z.1.t,.val (Rl.ref qa g.1.nm w).t,.no]) rfl ?_ rfl).trans ?_
  .rw [evE];exact (aU (a:=T.tup (z.1.rs.map Rl.t)) rfl).trans i3
  refine (bJ (t:=jS g.1 g.2) (τ':=[.val (aE Z),.val (stT Z),.val (.str z.1.nm),.val (.int (j:Int)),.val z.1.t,.val (Rl.ref qa g.1.nm w).t,.val (jS g.1 g.2)]) rfl ?_ rfl).trans ?_
  .rw [cN];exact (aU (a:=[aE Z,stT Z,T.str g.1.nm]) rfl).trans e1
  refine cZ rfl ?_;rw [gR];refine (aU (a:=T.lst (z.2.map fun ps=>.tup [aI ps,oT (mtR g qa ps)])) ?_).trans rfl;refine yY (enc:=aI) (fun ps=>.tup [aI ps,oT (mtR g qa ps)]) (xs:=[rwT z]) ?_ (yX z.2 hl) fun ps hp=>⟨[some (aI ps),some (aE Z),some (stT Z),some (.str z.1.nm),some (.int (j:Int)),some z.1.t,some (Rl.ref qa g.1.nm w).t,some (jS g.1 g.2)],rfl,?_⟩
  .rw [aF,cN];exact (aU (a:=rwT z) ((aU (a:=[aE Z,stT Z,T.str z.1.nm]) rfl).trans e2)).trans rfl
  .have hd:evE G (.dg1 (.w 7) (.call "key_referred_to" [.w 5,.w 6,.w 0])) [some (aI ps),some (aE Z),some (stT Z),some (.str z.1.nm),some (.int (j:Int)),some z.1.t,some (Rl.ref qa g.1.nm w).t,some (jS g.1 g.2)]=some (oT (mtR g qa ps)):=by rw [evE];refine (aU (a:=jS g.1 g.2) rfl).trans ?_;rw [cN];exact (aU (a:=woT qa ps) ((aU (a:=[z.1.t,(Rl.ref qa g.1.nm w).t,aI ps]) rfl).trans (e4 ps hp))).trans (E1 H hg qa ps)
   rw [evE,if_pos (by decide)];rw [aF,aF,aF,hd];rfl
 exact (aV aZ h0).trans rfl
theorem HV {P:Pr} (h:P.fn "is_same_key"=some jA) (n:Nat) {a b:List Kt} (h4:b.length<=4):run P (n+1) "is_same_key" [tkT a,tkT b]=some (.bl (decide (a=b))):=by
 rw [cF h rfl];have hc:evE (glo P (run P n)) (.comp (.isi (.w 0) .tbool) 1 .plain [.w 1] none) [some (tkT a),some (tkT b)]=some (.lst (b.map fun _=>.bl false)) :=
  yY (enc:=kT) (fun _=>.bl false) (xs:=[tkT b]) rfl (by show (if (b.map kT).length<=SZ then some (b.map kT) else none)=_;rw [if_pos (by rw [bE];unfold SZ;lia)]) fun k _=>⟨_,rfl,by rcases k with _ | _ | _<;>rfl⟩
 have hb:∀ l:List Kt,nG (l.map fun _=>T.bl false)=some (l.map fun _=>false):=fun l=>by
  induction l with
  | nil=>rfl
  | cons x r ih=>rw [aT,nG,ih];rfl
 have hany:∀ l:List Kt,(l.map fun _=>false).any id=false:=fun l=>by
  induction l with
  | nil=>rfl
  | cons x r ih=>rw [aT,iQ,ih];rfl
 have h0:aG (glo P (run P n)) jA.body [.val (tkT a),.val (tkT b)]=some (.rt (.bl (decide (a=b)))):=by
  refine cZ rfl ?_;rw [evE];have he:evE (glo P (run P n)) (.cmp .eq (.w 0) (.w 1)) (aC [.val (tkT a),.val (tkT b)])=some (.bl (decide (a=b))):=by rw [evE];show eqC (tkT a) (tkT b)=_;unfold eqC;rw [oF,if_pos (by decide),pV]
  refine (aU he).trans ?_;cases decide (a=b) with
  | false=>rfl
  | true =>show evE _ (.lnot (.blt .any (.comp (.isi (.w 0) .tbool) 1 .plain [.w 1] none))) _=_;rw [evE,gR];refine (aU (a:=T.bl false) ((aU hc).trans ?_)).trans rfl;show (nG (b.map fun _=>T.bl false)).map _=_;rw [hb];show some (T.bl ((b.map fun _=>false).any id))=_;rw [hany]
 exact (aV aZ h0).trans rfl
theorem E3 {P:Pr} (p:Prg P) (hs:P.fn "is_same_key"=some jA) (h:P.fn "row_of"=some lN) (n:Nat) {Z:List Zt} (H:Sto Z) {z:Zt} (hz:z∈Z) {ps:Row} (hp:ps∈z.2) :
  ∃ t,run P (n+3) "row_of" [aE Z,stT Z,.str z.1.nm,kyT z.1 ps]=some t:=by
 rw [cF h rfl];obtain ⟨hb,hl,hR⟩:=H.ok z hz;have e2:(glo P (run P (n+2))).call "rows_of" [aE Z,stT Z,.str z.1.nm]=some (rwT z):=tV p.hro (n+1) hz H.nd;have e3:(glo P (run P (n+2))).call "table_of" [aE Z,.str z.1.nm]=some z.1.t:=tU p.htb (n+1) hz H.nd;have e4:∀ qs∈z.2,(glo P (run P (n+2))).call "key_of" [z.1.t,aI qs]=some (kyT z.1 qs):=fun qs hq=>tX p.hwo p.hk n hb (hR qs hq);have e5:∀ qs∈z.2,(glo P (run P (n+2))).call "is_same_key" [kyT z.1 qs,kyT z.1 ps]=some (.bl (decide (aP z.1 qs=aP z.1 ps))):=fun qs _=>HV hs (n+1) (by unfold aP;rw [bE];have:=hb.k1;lia);have lp:∀ R:List Row,(∀ qs∈R,qs∈z.2)->ps∈R->∀ s5,∃ t,cB (fun x τ=>(bI [5] x τ).bind fun τ'=>aG (glo P (run P (n+2))) roB τ') (R.map aI) [.val (aE Z),.val (stT Z),.val (.str z.1.nm),.val (kyT z.1 ps),.val z.1.t,s5]=some (.rt t):=fun R=>by
  generalize glo P (run P (n+2))=G at *
  induction R with
  | nil=>intro _ hm;cases hm
  | cons qs R ih =>
   intro hs hm s5;have hq:=hs qs (.head _);have hc:evE G (.tru (.call "is_same_key" [.call "key_of" [.w 4,.w 5],.w 3])) (aC [.val (aE Z),.val (stT Z),.val (.str z.1.nm),.val (kyT z.1 ps),.val z.1.t,.val (aI qs)])=some (.bl (decide (aP z.1 qs=aP z.1 ps))):=by rw [evE,cN];refine (aU (a:=T.bl (decide (aP z.1 qs=aP z.1 ps))) ((aU (a:=[kyT z.1 qs,kyT z.1 ps]) ?_).trans (e5 qs hq))).trans rfl;rw [aF,cN];exact (aU (a:=kyT z.1 qs) ((aU (a:=[z.1.t,aI qs]) rfl).trans (e4 qs hq))).trans rfl
   rw [aT,cB];by_cases e:aP z.1 qs=aP z.1 ps
   .rw [dY e] at hc;exact ⟨aI qs,aU (a:=Out.rt (aI qs)) (jP rfl hc (cZ rfl rfl))⟩
   .rw [eG e] at hc;have hm':ps∈R:=(omc hm).resolve_left fun w=>e (by rw [w]);obtain ⟨t,ht⟩:=ih (fun q hq=>hs q (.tail _ hq)) hm' (.val (aI qs));exact ⟨t,(aU (a:=Out.nx [.val (aE Z),.val (stT Z),.val (.str z.1.nm),.val (kyT z.1 ps),.val z.1.t,.val (aI qs)]) (eJ rfl hc)).trans ht⟩
 obtain ⟨t,ht⟩:=lp z.2 (fun q hq=>hq) hp .no;refine ⟨t,?_⟩;have h0:aG (glo P (run P (n+2))) lN.body [.val (aE Z),.val (stT Z),.val (.str z.1.nm),.val (kyT z.1 ps),.no,.no]=some (.rt t):=by
  refine (bJ (t:=z.1.t) (τ':=[.val (aE Z),.val (stT Z),.val (.str z.1.nm),.val (kyT z.1 ps),.val z.1.t,.no]) rfl ?_ rfl).trans ?_
  .rw [cN];exact (aU (a:=[aE Z,T.str z.1.nm]) rfl).trans e3
  refine kI (fN (τ0:=[.val (aE Z),.val (stT Z),.val (.str z.1.nm),.val (kyT z.1 ps),.val z.1.t,.no]) (xs:=[rwT z]) (qc:=z.2.map aI) rfl ?_ rfl ht);rw [aF,cN];exact (aU (a:=rwT z) ((aU (a:=[aE Z,stT Z,T.str z.1.nm]) rfl).trans e2)).trans rfl
 exact (aV aZ h0).trans rfl
end
section
abbrev Sel:=Zt->Rl × Nat->List Row
def fX (sel:Sel) (z:Zt) (p:Rl × Nat):List Tr:=(sel z p).map (trO z p.2)
def gS (sel:Sel) (z:Zt):List Tr:=(z.1.rs.zipIdx 0).flatMap (fX sel z)
def fB (Z:List Zt) (sel:Sel):List Tr:=Z.flatMap (gS sel)
section
variable {Z:List Zt} (H:Sto Z) {sel:Sel} (hs:∀ z∈Z,∀ p,(sel z p).Sublist z.2)
include H hs
theorem yZ {z:Zt} (hz:z∈Z) (p:Rl × Nat):(fX sel z p).length<=4:=by rw [fX,bE];exact dS (hs z hz p).length_le (H.ok z hz).2.1
theorem E4 {z:Zt} (hz:z∈Z):(gS sel z).length<=4*z.1.rs.length:=by have h1:=tY (f:=fX sel z) (n:=4) (l:=z.1.rs.zipIdx 0) fun p _=>yZ H hs hz p;rw [List.length_zipIdx] at h1;exact h1
theorem uC:∀ {l:List Zt},(∀ z∈l,z∈Z)->(l.flatMap (gS sel)).length<=4*(l.map fun z=>z.1.rs.length).sum
 | [],_=>by simp
 | z::l,h=>by have h1:=E4 H hs (h z dW);have h2:=uC (l:=l) fun y hy=>h y (cK _ hy);rw [kK,eU,aT,uH];lia
theorem HW {l1 l2:List Zt} {z:Zt} (e:Z=l1++z::l2):(l1.flatMap (gS sel)).length<=52:=by
 have h1:=uC H hs (l:=l1) fun y hy=>by rw [e];simp [hy]
 have h2:=H.lr;rw [e,iG,List.sum_append,aT,uH] at h2;lia
theorem zA {z:Zt} (hz:z∈Z) {p:Rl × Nat} {x:Tr} (hx:x∈fX sel z p):x.nm=z.1.nm/\x.j=p.2/\∃ ps∈z.2,x.k=aP z.1 ps:=by obtain ⟨ps,h1,rfl⟩:=omm hx;exact ⟨rfl,rfl,ps,(hs z hz p).subset h1,rfl⟩
theorem uD {z:Zt} (hz:z∈Z) {x:Tr} (hx:x∈gS sel z):x.nm=z.1.nm/\∃ ps∈z.2,x.k=aP z.1 ps:=by obtain ⟨p,hp,hx⟩:=uL.mp hx;obtain ⟨h1,_,h2⟩:=zA H hs hz hx;exact ⟨h1,h2⟩
theorem HX:TrOk (fB Z sel):=by
 refine ⟨?_,?_,fun x hx y hy e=>?_⟩
 .have h1:=uC H hs (l:=Z) fun z hz=>hz;have h2:=H.lr;unfold fB;lia
 .refine List.pairwise_flatMap.mpr ⟨fun z hz=>List.pairwise_flatMap.mpr ⟨fun p hp=>?_,?_⟩,?_⟩
  .refine List.pairwise_map.mpr ?_;have h1:(sel z p).Pairwise fun a b=>bM (aP z.1 a) (aP z.1 b)=true:=(List.pairwise_map.mp (H.pw z hz)).sublist (hs z hz p);refine List.Pairwise.imp ?_ h1;intro a b hab e;have ek:aP z.1 a=aP z.1 b:=aV Tr.k e;rw [ek,rN] at hab;cases hab
  .have h1:(z.1.rs.zipIdx 0).Pairwise fun a b=>a.2≠b.2:=by have:=List.nodup_range' (s:=0) (n:=z.1.rs.length);rw [<- List.zipIdx_map_snd] at this;exact List.pairwise_map.mp this
   refine List.Pairwise.imp_of_mem (fun {a b} ha hb hab x hx y hy e=>hab ?_) h1;rw [<- (zA H hs hz hx).2.1,<- (zA H hs hz hy).2.1,e]
  .refine List.Pairwise.imp_of_mem (fun {a b} ha hb hab x hx y hy e=>hab ?_) (List.pairwise_map.mp H.nd);rw [<- (uD H hs ha hx).1,<- (uD H hs hb hy).1,e]
 .obtain ⟨z,hz,hx⟩:=uL.mp hx;obtain ⟨y',hy',hy⟩:=uL.mp hy;obtain ⟨n1,ps,hp,k1⟩:=uD H hs hz hx;obtain ⟨n2,qs,hq,k2⟩:=uD H hs hy' hy;have ez:z=y':=HQ hz hy' H.nd (by rw [<- n1,<- n2,e]);subst ez;rw [k1,k2];obtain ⟨hb,_,hR⟩:=H.ok z hz;exact yN hb (hR ps hp) (hR qs hq)
end
noncomputable def rsl (z:Zt) (ps:Row):Sel:=fun y p=>match p.1 with
 | .ref qa g _=>(ful qa y.2).filter fun qs=>g==z.1.nm&&decide (wK qa qs=aP z.1 ps)
 | _=>[]
theorem HY (z:Zt) (ps:Row) (y:Zt) (p:Rl × Nat):(rsl z ps y p).Sublist y.2:=by
 obtain ⟨r,j⟩:=p;cases r with
 | ref qa g w=>exact List.filter_sublist.trans List.filter_sublist
 | _=>exact List.nil_sublist _
noncomputable def zB:List S:=[.loop [7,8] .enum [.idx (.w 5) (.c (.int 3))] rfI]
theorem HZ:pY.body=[.exp (.call "row_of" [.w 0,.w 1,.w 2,.w 3]),.asg 4 (.lst []),.loop [5,6] .zip [.w 0,.w 1] zB,.ret (.blt .toTuple (.blt .sorted (.w 4)))]:=rfl
theorem IA (g nm:Str) (a b:List Kt):eqC (.tup [.str g,tkT a]) (.tup [.str nm,tkT b])=some (.bl (g==nm&&decide (a=b))):=by
 have h1:dpP (.tup [.str g,tkT a]) (.tup [.str nm,tkT b])<=30:=by show max (dpP (.str g) (.str nm)) (max (dpP (tkT a) (tkT b)) 0)+1<=30;rw [oF,yC];decide
 have h2:eqT (.tup [.str g,tkT a]) (.tup [.str nm,tkT b])=(g==nm&&(eqT (tkT a) (tkT b)&&true)):=rfl;unfold eqC;rw [if_pos h1,h2,pV,Bool.and_true]
theorem E5 {G:Glo} {St Sr:T} {z y:Zt} {ps:Row} {p:Rl × Nat} {X:List T} (hX:X.length<=100) (hl:y.2.length<=4) (s9:Sl) (hc:∀ qa g w,p.1=.ref qa g w->G.call "references_by" [y.1.t,p.1.t,rwT y]=some (.lst ((ful qa y.2).map (cG y.1 p.1.t g qa)))) :
  ∃ s9',aG G rfI [.val St,.val Sr,.val (.str z.1.nm),.val (kyT z.1 ps),.own X,.val y.1.t,.val (rwT y),.val (.int (p.2:Int)),.val p.1.t,s9]=some (.nx [.val St,.val Sr,.val (.str z.1.nm),.val (kyT z.1 ps),.own (X++(fX (rsl z ps) y p).map trT),.val y.1.t,.val (rwT y),.val (.int (p.2:Int)),.val p.1.t,s9']):=by
 obtain ⟨r,j⟩:=p;cases r with
 | iZ ks=>exact ⟨s9,(eJ (a:=[.asg 9 (.call "references_by" [.w 5,.w 8,.w 6]),.ext 4 (.comp (.tup [.idx (.w 8) (.c (.int 0)),.w 10,.idx (.w 0) (.c (.int 1))]) 3 .plain [.w 9] (some (.cmp .eq (.w 2) (.tup [.w 5,.w 6]))))]) (ss:=[]) rfl rfl).trans (by rw [show fX (rsl z ps) y (.iZ ks,j)=[] from rfl,List.map_nil,dP];rfl)⟩
 | chk t=>exact ⟨s9,(eJ (a:=[.asg 9 (.call "references_by" [.w 5,.w 8,.w 6]),.ext 4 (.comp (.tup [.idx (.w 8) (.c (.int 0)),.w 10,.idx (.w 0) (.c (.int 1))]) 3 .plain [.w 9] (some (.cmp .eq (.w 2) (.tup [.w 5,.w 6]))))]) (ss:=[]) rfl rfl).trans (by rw [show fX (rsl z ps) y (.chk t,j)=[] from rfl,List.map_nil,dP];rfl)⟩
 | ref qa g w =>
  have hc:=hc qa g w rfl;have hfl:(ful qa y.2).length<=4:=dS (uI _ _) hl;refine ⟨.val (.lst ((ful qa y.2).map (cG y.1 (Rl.ref qa g w).t g qa))),(pR rfl rfl (?_:aG G _ _=some (.nx _))).trans rfl⟩;refine (bJ (t:=.lst ((ful qa y.2).map (cG y.1 (Rl.ref qa g w).t g qa))) (τ':=[.val St,.val Sr,.val (.str z.1.nm),.val (kyT z.1 ps),.own X,.val y.1.t,.val (rwT y),.val (.int (j:Int)),.val (Rl.ref qa g w).t,.val (.lst ((ful qa y.2).map (cG y.1 (Rl.ref qa g w).t g qa)))]) rfl ?_ rfl).trans ?_
  .rw [cN];exact (aU (a:=[y.1.t,(Rl.ref qa g w).t,rwT y]) rfl).trans hc
  have hcm:evE G (.comp (.tup [.idx (.w 8) (.c (.int 0)),.w 10,.idx (.w 0) (.c (.int 1))]) 3 .plain [.w 9] (some (.cmp .eq (.w 2) (.tup [.w 5,.w 6])))) [some St,some Sr,some (.str z.1.nm),some (kyT z.1 ps),none,some y.1.t,some (rwT y),some (.int (j:Int)),some (Rl.ref qa g w).t,some (.lst ((ful qa y.2).map (cG y.1 (Rl.ref qa g w).t g qa)))] =
    some (.lst (((ful qa y.2).filter fun qs=>g==z.1.nm&&decide (wK qa qs=aP z.1 ps)).map fun qs=>trT (trO y j qs))):=by
   refine yW (enc:=cG y.1 (Rl.ref qa g w).t g qa) (fun qs=>g==z.1.nm&&decide (wK qa qs=aP z.1 ps)) (fun qs=>trT (trO y j qs)) (xs:=[.lst ((ful qa y.2).map (cG y.1 (Rl.ref qa g w).t g qa))]) rfl (by show (if ((ful qa y.2).map (cG y.1 (Rl.ref qa g w).t g qa)).length<=SZ then some ((ful qa y.2).map (cG y.1 (Rl.ref qa g w).t g qa)) else none)=_;rw [if_pos (by rw [bE];unfold SZ;lia)]) fun qs _=>⟨_,rfl,?_,fun _=>rfl⟩;rw [evE];exact (aU (a:=T.tup [.str g,tkT (wK qa qs)]) rfl).trans ((aU (a:=T.tup [.str z.1.nm,tkT (aP z.1 ps)]) rfl).trans (IA g z.1.nm (wK qa qs) (aP z.1 ps)))
  refine (bG (ss:=[]) (τ':=[.val St,.val Sr,.val (.str z.1.nm),.val (kyT z.1 ps),.own (X++(fX (rsl z ps) y (.ref qa g w,j)).map trT),.val y.1.t,.val (rwT y),.val (.int (j:Int)),.val (Rl.ref qa g w).t,.val (.lst ((ful qa y.2).map (cG y.1 (Rl.ref qa g w).t g qa)))]) ?_).trans rfl;rw [evS];refine (aU hcm).trans ?_;have hlen:(((ful qa y.2).filter fun qs=>g==z.1.nm&&decide (wK qa qs=aP z.1 ps)).map fun qs=>trT (trO y j qs)).length<=4:=by rw [bE];exact dS (uI _ _) hfl
  show (if X.length+(((ful qa y.2).filter fun qs=>g==z.1.nm&&decide (wK qa qs=aP z.1 ps)).map fun qs=>trT (trO y j qs)).length<=SZ then some (Out.nx [.val St,.val Sr,.val (.str z.1.nm),.val (kyT z.1 ps),.own (X++(((ful qa y.2).filter fun qs=>g==z.1.nm&&decide (wK qa qs=aP z.1 ps)).map fun qs=>trT (trO y j qs))),.val y.1.t,.val (rwT y),.val (.int (j:Int)),.val (Rl.ref qa g w).t,.val (.lst ((ful qa y.2).map (cG y.1 (Rl.ref qa g w).t g qa)))]) else none)=_;rw [if_pos (by unfold SZ;lia)];show _=some (Out.nx [.val St,.val Sr,.val (.str z.1.nm),.val (kyT z.1 ps),.own (X++((((ful qa y.2).filter fun qs=>g==z.1.nm&&decide (wK qa qs=aP z.1 ps)).map (trO y j)).map trT)),.val y.1.t,.val (rwT y),.val (.int (j:Int)),.val (Rl.ref qa g w).t,.val (.lst ((ful qa y.2).map (cG y.1 (Rl.ref qa g w).t g qa)))]);rw [eP];rfl
theorem E6 {P:Pr} (p:Prg P) (hsk:P.fn "is_same_key"=some jA) (hro:P.fn "row_of"=some lN) (h:P.fn "referring"=some pY) (n:Nat) {Z:List Zt} (H:Sto Z) {z:Zt} (hz:z∈Z) {ps:Row} (hp:ps∈z.2) :
  run P (n+4) "referring" [aE Z,stT Z,.str z.1.nm,kyT z.1 ps]=some (.tup (dZ ((fB Z (rsl z ps)).map trT))):=by
 rw [cF h rfl,HZ];obtain ⟨t,ht⟩:=E3 p hsk hro n H hz hp;have hs:∀ y∈Z,∀ q,(rsl z ps y q).Sublist y.2:=fun y _ q=>HY z ps y q;have ht:(glo P (run P (n+3))).call "row_of" [aE Z,stT Z,.str z.1.nm,kyT z.1 ps]=some t:=ht;have hrb:∀ y∈Z,∀ r∈y.1.rs,∀ qa g w,r=.ref qa g w->(glo P (run P (n+3))).call "references_by" [y.1.t,r.t,rwT y]=some (.lst ((ful qa y.2).map (cG y.1 r.t g qa))):=fun y hy r hr qa g w e=>by subst e;obtain ⟨hb,hl,hR⟩:=H.ok y hy;exact C9 p.hwo p.hk p.hkr p.hrb n hb hl hR (H.fit y hy _ hr).1 (hb.rs _ hr).2.1 (by rw [Rl.t,aO,cS]) (by rw [Rl.t,aO,gH])
 have h0:aG (glo P (run P (n+3))) [.exp (.call "row_of" [.w 0,.w 1,.w 2,.w 3]),.asg 4 (.lst []),.loop [5,6] .zip [.w 0,.w 1] zB,.ret (.blt .toTuple (.blt .sorted (.w 4)))] [.val (aE Z),.val (stT Z),.val (.str z.1.nm),.val (kyT z.1 ps),.no,.no,.no,.no,.no,.no]=some (.rt (.tup (dZ ((fB Z (rsl z ps)).map trT)))):=by
  generalize glo P (run P (n+3))=G at *;refine (bG (τ':=[.val (aE Z),.val (stT Z),.val (.str z.1.nm),.val (kyT z.1 ps),.no,.no,.no,.no,.no,.no]) ?_).trans ?_
  .rw [evS];refine (aU (a:=t) ?_).trans rfl;rw [cN];exact (aU (a:=[aE Z,stT Z,T.str z.1.nm,kyT z.1 ps]) rfl).trans ht
  refine (bJ (t:=.lst []) (τ':=[.val (aE Z),.val (stT Z),.val (.str z.1.nm),.val (kyT z.1 ps),.own [],.no,.no,.no,.no,.no]) rfl rfl rfl).trans ?_;obtain ⟨τ',el,s5,s6,s7,s8,s9,rfl⟩:=gQ (enc:=fun y:Zt=>T.tup [y.1.t,rwT y]) (f:=fun x τ=>(bI [5,6] x τ).bind fun τ'=>aG G zB τ')
   (fun done τ=>∃ (s5 s6 s7 s8 s9:Sl),τ=[.val (aE Z),.val (stT Z),.val (.str z.1.nm),.val (kyT z.1 ps),.own ((done.flatMap (gS (rsl z ps))).map trT),s5,s6,s7,s8,s9])
   Z [.val (aE Z),.val (stT Z),.val (.str z.1.nm),.val (kyT z.1 ps),.own [],.no,.no,.no,.no,.no] ⟨_,_,_,_,_,rfl⟩ (by
    rintro l1 y l2 hsp τ ⟨s5,s6,s7,s8,s9,rfl⟩;have hy:y∈Z:=by rw [hsp];simp
    have hXl:=HW H hs hsp;obtain ⟨τ',el,s7',s8',s9',rfl⟩:=gQ (enc:=fun (q:Rl × Nat)=>T.tup [.int (q.2:Int),q.1.t]) (f:=fun x τ=>(bI [7,8] x τ).bind fun τ'=>aG G rfI τ')
     (fun done τ=>∃ (s7 s8 s9:Sl),τ=[.val (aE Z),.val (stT Z),.val (.str z.1.nm),.val (kyT z.1 ps),.own ((l1.flatMap (gS (rsl z ps))).map trT++(done.flatMap (fX (rsl z ps) y)).map trT),.val y.1.t,.val (rwT y),s7,s8,s9])
     (y.1.rs.zipIdx 0) [.val (aE Z),.val (stT Z),.val (.str z.1.nm),.val (kyT z.1 ps),.own ((l1.flatMap (gS (rsl z ps))).map trT),.val y.1.t,.val (rwT y),s7,s8,s9] ⟨_,_,_,by rw [List.flatMap_nil,List.map_nil,dP]⟩ (by
      rintro m1 q m2 hsp2 τ ⟨s7,s8,s9,rfl⟩;have hq:q∈y.1.rs.zipIdx 0:=by rw [hsp2];simp
      have hr:=HR hq;have hYl:((l1.flatMap (gS (rsl z ps))).map trT++(m1.flatMap (fX (rsl z ps) y)).map trT).length<=100:=by rw [eU,bE,bE];have h1:=tY (f:=fX (rsl z ps) y) (n:=4) (l:=m1) fun q _=>yZ H hs hy q;have h2:=aV List.length hsp2;have h3:=(H.ok y hy).1.rl;simp at h2;lia
      obtain ⟨s9',e⟩:=E5 (St:=aE Z) (Sr:=stT Z) (z:=z) (ps:=ps) (p:=q) hYl (H.ok y hy).2.1 s9 (hrb y hy q.1 hr);refine ⟨_,e,.val (.int (q.2:Int)),.val q.1.t,s9',?_⟩;rw [List.flatMap_append,iG,kK,List.flatMap_nil,dP,jW])
    refine ⟨[.val (aE Z),.val (stT Z),.val (.str z.1.nm),.val (kyT z.1 ps),.own ((l1.flatMap (gS (rsl z ps))).map trT++((y.1.rs.zipIdx 0).flatMap (fX (rsl z ps) y)).map trT),.val y.1.t,.val (rwT y),s7',s8',s9'],?_,.val y.1.t,.val (rwT y),s7',s8',s9',?_⟩
    .exact (bG (ss:=[]) (fN (xs:=[.tup (y.1.rs.map Rl.t)]) (qc:=(y.1.rs.zipIdx 0).map fun (q:Rl × Nat)=>T.tup [.int (q.2:Int),q.1.t]) (τ0:=[.val (aE Z),.val (stT Z),.val (.str z.1.nm),.val (kyT z.1 ps),.own ((l1.flatMap (gS (rsl z ps))).map trT),.val y.1.t,.val (rwT y),s7,s8,s9]) rfl rfl (by simp only [items,oE]) el)).trans rfl
    .rw [List.flatMap_append,iG,kK,List.flatMap_nil,dP];rfl)
  refine (bG (fN (xs:=[aE Z,stT Z]) (qc:=Z.map fun y=>T.tup [y.1.t,rwT y]) (τ0:=[.val (aE Z),.val (stT Z),.val (.str z.1.nm),.val (kyT z.1 ps),.own [],.no,.no,.no,.no,.no]) rfl rfl (by show some (eY (Z.map fun z=>z.1.t) (Z.map rwT))=_;rw [yQ]) el)).trans ?_;refine kI ?_;rw [evS];refine (aV (Option.map Out.rt) (?_:evE G (.blt .toTuple (.blt .sorted (.w 4))) [some (aE Z),some (stT Z),some (.str z.1.nm),some (kyT z.1 ps),some (.lst ((fB Z (rsl z ps)).map trT)),s5.get,s6.get,s7.get,s8.get,s9.get]=some (.tup (dZ ((fB Z (rsl z ps)).map trT))))).trans rfl;rw [gR,gR];exact (aU (a:=T.lst (dZ ((fB Z (rsl z ps)).map trT))) ((aU (a:=T.lst ((fB Z (rsl z ps)).map trT)) rfl).trans (HX H hs).sorted)).trans rfl
 exact (aV aZ h0).trans rfl
end
section
variable {P:Pr}
theorem E7:uA.body=[.asg 4 (.call "_law_table" [.w 0,.idx (.w 2) (.c (.int 2))]),.loop [5] .plain [.call "_law_rows" [.w 0,.w 1,.idx (.w 2) (.c (.int 2))]] lgB,.ret (.c .non)]:=rfl
def isW (qa:List Str) (ps:Row) (k:List Kt):Bool:=!dN (wK qa ps)&&decide (k=wK qa ps)
theorem E8 (k:List Kt) (qa:List Str) (ps:Row):eqC (tkT k) (woT qa ps)=some (.bl (isW qa ps k)):=by
 unfold woT eqC isW;by_cases h:dN (wK qa ps)=true
 .rw [if_pos h,h];rfl
 .rw [if_neg h,oF,if_pos (by decide),pV,show dN (wK qa ps)=false by simpa using h];rfl
theorem IB (g:Zt) (qa:List Str) (ps:Row):mtR g qa ps=g.2.find? fun qs=>isW qa ps (aP g.1 qs):=by
 unfold mtR fnd isW;by_cases h:dN (wK qa ps)=true
 .rw [if_pos h,h];symm;rw [List.find?_eq_none];intro x _;simp
 .rw [if_neg h,show dN (wK qa ps)=false by simpa using h];simp only [Bool.not_false,Bool.true_and]
theorem IC {G:Glo} {SC ST RT:T} {g:Zt} {qa:List Str} {ps:Row}:∀ (R:List Row),(∀ qs∈R,G.call "_law_key" [g.1.t,aI qs]=some (kyT g.1 qs))->∀ s5,
  (∃ r,(R.find? fun qs=>isW qa ps (aP g.1 qs))=some r/\cB (fun x τ=>(bI [5] x τ).bind fun τ'=>aG G lgB τ') (R.map aI) [.val SC,.val ST,.val RT,.val (woT qa ps),.val g.1.t,s5]=some (.rt (aI r))) \/
  ((R.find? fun qs=>isW qa ps (aP g.1 qs))=none/\∃ s5',cB (fun x τ=>(bI [5] x τ).bind fun τ'=>aG G lgB τ') (R.map aI) [.val SC,.val ST,.val RT,.val (woT qa ps),.val g.1.t,s5]=some (.nx [.val SC,.val ST,.val RT,.val (woT qa ps),.val g.1.t,s5']))
 | [],_,s5=>.inr ⟨rfl,s5,rfl⟩
 | qs::R,hk,s5=>by
  have hc:evE G (.cmp .eq (.call "_law_key" [.w 4,.w 5]) (.w 3)) (aC [.val SC,.val ST,.val RT,.val (woT qa ps),.val g.1.t,.val (aI qs)])=some (.bl (isW qa ps (aP g.1 qs))):=by rw [evE,cN];refine (aU (a:=kyT g.1 qs) ((aU (a:=[g.1.t,aI qs]) rfl).trans (hk qs (.head _)))).trans ?_;exact (aU (a:=woT qa ps) rfl).trans (E8 _ qa ps)
  rw [uK,aT,cB];cases e:isW qa ps (aP g.1 qs) with
  | true =>rw [e] at hc;exact .inl ⟨qs,rfl,aU (a:=Out.rt (aI qs)) (jP rfl hc (cZ rfl rfl))⟩
  | false =>
   rw [e] at hc;have h1:((bI [5] (aI qs) [.val SC,.val ST,.val RT,.val (woT qa ps),.val g.1.t,s5]).bind fun τ'=>aG G lgB τ')=some (.nx [.val SC,.val ST,.val RT,.val (woT qa ps),.val g.1.t,.val (aI qs)]):=(eJ (ss:=[]) rfl hc).trans rfl;have e2:=aU (f:=fun o=>match o with | .nx τ'=>cB (fun x τ=>(bI [5] x τ).bind fun τ'=>aG G lgB τ') (R.map aI) τ' | .rt t=>some (.rt t)) h1;rcases IC R (fun q h=>hk q (.tail _ h)) (.val (aI qs)) with ⟨r,h2,h3⟩ | ⟨h2,s',h3⟩
   .exact .inl ⟨r,h2,e2.trans h3⟩
   .exact .inr ⟨h2,s',e2.trans h3⟩
theorem E9 (hnm:P.fn "_law_names"=some lJ) (hky:P.fn "_law_key"=some mQ) (htb:P.fn "_law_table"=some tD) (hrs:P.fn "_law_rows"=some tE) (h:P.fn "_law_goal"=some uA) (n:Nat) {Z:List Zt} (H:Sto Z) {g:Zt} (hg:g∈Z) (qa:List Str) (w:Str) (ps:Row) :
  run P (n+3) "_law_goal" [aE Z,stT Z,(Rl.ref qa g.1.nm w).t,woT qa ps]=some (oT (mtR g qa ps)):=by
 rw [cF h rfl,E7,IB];have e1:(glo P (run P (n+2))).call "_law_table" [aE Z,.str g.1.nm]=some g.1.t:=D4 htb (n+1) H hg;have e2:(glo P (run P (n+2))).call "_law_rows" [aE Z,stT Z,.str g.1.nm]=some (rwT g):=B6 hrs (n+1) H.l4 hg H.nd;have e3:∀ qs∈g.2,(glo P (run P (n+2))).call "_law_key" [g.1.t,aI qs]=some (kyT g.1 qs):=fun qs hq=>yM hnm hky n (H.ok g hg).1 ((H.ok g hg).2.2 qs hq);show aZ (aG (glo P (run P (n+2))) _ [.val (aE Z),.val (stT Z),.val (Rl.ref qa g.1.nm w).t,.val (woT qa ps),.no,.no])=_;generalize glo P (run P (n+2))=G at *;refine (aV aZ (bJ (t:=g.1.t) (τ':=[.val (aE Z),.val (stT Z),.val (Rl.ref qa g.1.nm w).t,.val (woT qa ps),.val g.1.t,.no]) rfl ?_ rfl)).trans ?_
 .rw [cN];exact (aU (a:=[aE Z,T.str g.1.nm]) rfl).trans e1
 have hsrc:aF G [.call "_law_rows" [.w 0,.w 1,.idx (.w 2) (.c (.int 2))]] (aC [.val (aE Z),.val (stT Z),.val (Rl.ref qa g.1.nm w).t,.val (woT qa ps),.val g.1.t,.no])=some [rwT g]:=by rw [aF,cN];exact (aU (a:=rwT g) ((aU (a:=[aE Z,stT Z,T.str g.1.nm]) rfl).trans e2)).trans rfl
 rcases IC (SC:=aE Z) (ST:=stT Z) (RT:=(Rl.ref qa g.1.nm w).t) (qa:=qa) (ps:=ps) g.2 e3 .no with ⟨r,h2,h3⟩ | ⟨h2,s',h3⟩
 .rw [h2];exact (aV aZ (kI (fN (τ0:=[.val (aE Z),.val (stT Z),.val (Rl.ref qa g.1.nm w).t,.val (woT qa ps),.val g.1.t,.no]) rfl hsrc rfl h3))).trans rfl
 .rw [h2];exact (aV aZ ((bG (fN (τ0:=[.val (aE Z),.val (stT Z),.val (Rl.ref qa g.1.nm w).t,.val (woT qa ps),.val g.1.t,.no]) rfl hsrc rfl h3)).trans (cZ rfl rfl))).trans rfl
theorem F4:lN.body=.asg 4 (.call "table_of" [.w 0,.w 2])::.loop [5] .plain [.call "rows_of" [.w 0,.w 1,.w 2]] roB::[.fail]:=rfl
theorem F6:oK.body=[.nrm (.asg 4 (.call "table_of" [.w 0,.w 2])),.nrm (.loop [5] .plain [.call "rows_of" [.w 0,.w 1,.w 2]] roB),.fail "NoRow"]:=rfl
structure CalR (G:Glo) (Z:List Zt) (z:Zt) (k:List Kt):Prop where
 ro:G.call "rows_of" [aE Z,stT Z,.str z.1.nm]=some (rwT z)
 tb:G.call "table_of" [aE Z,.str z.1.nm]=some z.1.t
 ky:∀ qs∈z.2,G.call "key_of" [z.1.t,aI qs]=some (kyT z.1 qs)
 sk:∀ qs∈z.2,G.call "is_same_key" [kyT z.1 qs,tkT k]=some (.bl (decide (aP z.1 qs=k)))
theorem calR (p:Prg P) (hs:P.fn "is_same_key"=some jA) (n:Nat) {Z:List Zt} (H:Sto Z) {z:Zt} (hz:z∈Z) {k:List Kt} (h4:k.length<=4) {e:Str->List T->Option (Str × Int)}:CalR ⟨run P (n+2),e⟩ Z z k :=
 ⟨tV p.hro (n+1) hz H.nd,tU p.htb (n+1) hz H.nd,fun qs hq=>tX p.hwo p.hk n (H.ok z hz).1 ((H.ok z hz).2.2 qs hq),fun qs _=>HV hs (n+1) h4⟩
section
variable {G:Glo} {Z:List Zt} {z:Zt} {k:List Kt}
theorem ID (C:CalR G Z z k):∀ R:List Row,(∀ qs∈R,qs∈z.2/\aP z.1 qs≠k)->∀ s5,∃ s5',cB (fun x τ=>(bI [5] x τ).bind fun τ'=>aG G roB τ') (R.map aI) [.val (aE Z),.val (stT Z),.val (.str z.1.nm),.val (tkT k),.val z.1.t,s5]=some (.nx [.val (aE Z),.val (stT Z),.val (.str z.1.nm),.val (tkT k),.val z.1.t,s5'])
 | [],_,s5=>⟨s5,rfl⟩
 | qs::R,h,s5=>by
  obtain ⟨hq,e⟩:=h qs (.head _);have hc:evE G (.tru (.call "is_same_key" [.call "key_of" [.w 4,.w 5],.w 3])) (aC [.val (aE Z),.val (stT Z),.val (.str z.1.nm),.val (tkT k),.val z.1.t,.val (aI qs)])=some (.bl false):=by rw [evE,cN];refine (aU (a:=T.bl false) ((aU (a:=[kyT z.1 qs,tkT k]) ?_).trans ((C.sk qs hq).trans (by rw [eG e])))).trans rfl;rw [aF,cN];exact (aU (a:=kyT z.1 qs) ((aU (a:=[z.1.t,aI qs]) rfl).trans (C.ky qs hq))).trans rfl
  obtain ⟨s',h3⟩:=ID C R (fun q hq=>h q (.tail _ hq)) (.val (aI qs));rw [aT,cB];have h1:((bI [5] (aI qs) [.val (aE Z),.val (stT Z),.val (.str z.1.nm),.val (tkT k),.val z.1.t,s5]).bind fun τ'=>aG G roB τ')=some (.nx [.val (aE Z),.val (stT Z),.val (.str z.1.nm),.val (tkT k),.val z.1.t,.val (aI qs)]):=(eJ (ss:=[]) rfl hc).trans rfl;exact ⟨s',(aU h1).trans h3⟩
theorem IE (C:CalR G Z z k) (hn:∀ qs∈z.2,aP z.1 qs≠k):∃ s5,evS G (.asg 4 (.call "table_of" [.w 0,.w 2])) [.val (aE Z),.val (stT Z),.val (.str z.1.nm),.val (tkT k),.no,.no]=some (.nx [.val (aE Z),.val (stT Z),.val (.str z.1.nm),.val (tkT k),.val z.1.t,.no]) /\
  evS G (.loop [5] .plain [.call "rows_of" [.w 0,.w 1,.w 2]] roB) [.val (aE Z),.val (stT Z),.val (.str z.1.nm),.val (tkT k),.val z.1.t,.no]=some (.nx [.val (aE Z),.val (stT Z),.val (.str z.1.nm),.val (tkT k),.val z.1.t,s5]):=by
 obtain ⟨s5,h3⟩:=ID C z.2 (fun q hq=>⟨hq,hn q hq⟩) .no;refine ⟨s5,?_,fN (τ0:=[.val (aE Z),.val (stT Z),.val (.str z.1.nm),.val (tkT k),.val z.1.t,.no]) (xs:=[rwT z]) (qc:=z.2.map aI) rfl ?_ rfl h3⟩
 .rw [evS];refine (aU (a:=z.1.t) ?_).trans rfl;rw [cN];exact (aU (a:=[aE Z,T.str z.1.nm]) rfl).trans C.tb
 .rw [aF,cN];exact (aU (a:=rwT z) ((aU (a:=[aE Z,stT Z,T.str z.1.nm]) rfl).trans C.ro)).trans rfl
end
theorem F9 (p:Prg P) (hs:P.fn "is_same_key"=some jA) (h:P.fn "row_of"=some lN) (n:Nat) {Z:List Zt} (H:Sto Z) {z:Zt} (hz:z∈Z) {k:List Kt} (h4:k.length<=4) (hn:∀ qs∈z.2,aP z.1 qs≠k) :
  run P (n+3) "row_of" [aE Z,stT Z,.str z.1.nm,tkT k]=none:=by
 rw [cF h rfl,F4];obtain ⟨s5,h1,h2⟩:=IE (calR p hs n H hz h4 (e:=fun _ _=>none)) hn;exact aV aZ ((bG h1).trans ((bG h2).trans rfl))
theorem ro_x {Tx:Str->Option Rxd} (p:Prg P) (hs:P.fn "is_same_key"=some jA) (h:Tx "row_of"=some oK) (n:Nat) {Z:List Zt} (H:Sto Z) {z:Zt} (hz:z∈Z) {k:List Kt} (h4:k.length<=4) (hn:∀ qs∈z.2,aP z.1 qs≠k) :
  iL P Tx (n+3) "row_of" [aE Z,stT Z,.str z.1.nm,tkT k]=some (("NoRow":Str),(0:Int)):=by
 rw [iL,h,bK,if_pos (show [aE Z,stT Z,T.str z.1.nm,tkT k].length=oK.np from rfl),F6];obtain ⟨s5,h1,h2⟩:=IE (calR p hs n H hz h4 (e:=iL P Tx (n+2))) hn;show eT _ _ [.val (aE Z),.val (stT Z),.val (.str z.1.nm),.val (tkT k),.no,.no]=_;rw [eT];refine (aU h1).trans ?_;show eT _ _ _=_;rw [eT];exact (aU h2).trans rfl
theorem G0 (p:Prg P) (hs:P.fn "is_same_key"=some jA) (hro:P.fn "row_of"=some lN) (h:P.fn "referring"=some pY) (n:Nat) {Z:List Zt} (H:Sto Z) {z:Zt} (hz:z∈Z) {k:List Kt} (h4:k.length<=4) (hn:∀ qs∈z.2,aP z.1 qs≠k) :
  run P (n+4) "referring" [aE Z,stT Z,.str z.1.nm,tkT k]=none:=by
 rw [cF h rfl,HZ];have e:=F9 p hs hro n H hz h4 hn;show aZ (aG _ _ [.val (aE Z),.val (stT Z),.val (.str z.1.nm),.val (tkT k),.no,.no,.no,.no,.no,.no])=_;rw [aG,evS];have e1:evE (glo P (run P (n+3))) (.call "row_of" [.w 0,.w 1,.w 2,.w 3]) [some (aE Z),some (stT Z),some (.str z.1.nm),some (tkT k),none,none,none,none,none,none]=none:=by rw [cN];exact (aU (a:=[aE Z,stT Z,T.str z.1.nm,tkT k]) rfl).trans e
 have e2:evE (glo P (run P (n+3))) (.call "row_of" [.w 0,.w 1,.w 2,.w 3]) (aC (aQ (aM (.call "row_of" [.w 0,.w 1,.w 2,.w 3])) [.val (aE Z),.val (stT Z),.val (.str z.1.nm),.val (tkT k),.no,.no,.no,.no,.no,.no]))=none:=e1;rw [e2];rfl
theorem rf_x {Tx:Str->Option Rxd} (p:Prg P) (hs:P.fn "is_same_key"=some jA) (hro:Tx "row_of"=some oK) (h:Tx "referring"=some uB) (n:Nat) {Z:List Zt} (H:Sto Z) {z:Zt} (hz:z∈Z) {k:List Kt} (h4:k.length<=4) (hn:∀ qs∈z.2,aP z.1 qs≠k) :
  iL P Tx (n+4) "referring" [aE Z,stT Z,.str z.1.nm,tkT k]=some (("NoRow":Str),(0:Int)):=by
 rw [iL,h,bK,if_pos (show [aE Z,stT Z,T.str z.1.nm,tkT k].length=uB.np from rfl)];have e:=ro_x p hs hro n H hz h4 hn;show eT _ (.exq "row_of" [.w 0,.w 1,.w 2,.w 3]::_) [.val (aE Z),.val (stT Z),.val (.str z.1.nm),.val (tkT k),.no,.no,.no,.no,.no,.no]=_;rw [eT];refine (aU (a:=[aE Z,stT Z,T.str z.1.nm,tkT k]) rfl).trans ?_;show (match iL P Tx (n+3) "row_of" [aE Z,stT Z,.str z.1.nm,tkT k] with | some x=>some x | none=>_)=_;rw [e]
end
section
variable {G:Glo}
theorem IF {i:Nat} {e:E} {ss:List S} {τ τ':List Sl} {t:T} {ts:List T} (h0:aQ (aM e) τ=τ) (h1:evE G e (aC τ)=some t) (h2:τ[i]?=some (.own ts)) (hl:ts.length<=100) (h3:τ.set i (.own (ts++[t]))=τ'):aG G (.app i e::ss) τ=aG G ss τ':=bG (by rw [evS,h0,h1,bK,h2];show (if ts.length<SZ then some (Out.nx (τ.set i (.own (ts++[t])))) else none)=_;rw [if_pos (by unfold SZ;lia),h3])
structure Lk where
 tr:Tr
 g:Str
 qa:List Str
 qs:Row
def lkE (x:Lk):T:=.tup [trT x.tr,.tup [.str x.g,woT x.qa x.qs]]
noncomputable def lkR (y:Zt) (p:Rl × Nat):List Lk:=match p.1 with
 | .ref qa g _=>y.2.map fun qs=>⟨trO y p.2 qs,g,qa,qs⟩
 | _=>[]
def lkZ (y:Zt):List Lk:=(y.1.rs.zipIdx 0).flatMap (lkR y)
def lkL (Z:List Zt):List Lk:=Z.flatMap lkZ
def asl:Sel:=fun y p=>match p.1 with
 | .ref _ _ _=>y.2
 | _=>[]
theorem zC (y:Zt) (p:Rl × Nat):(asl y p).Sublist y.2:=by
 obtain ⟨r,j⟩:=p;cases r with
 | ref qa g w=>exact List.Sublist.refl _
 | _=>exact List.nil_sublist _
theorem pZ {α β γ:Type} {f:α->List β} {g:α->List γ} (h:∀ a,(f a).length=(g a).length):∀ l:List α,(l.flatMap f).length=(l.flatMap g).length
 | []=>rfl
 | a::l=>by rw [kK,kK,eU,eU,h a,pZ h l]
theorem zD (y:Zt) (p:Rl × Nat):(lkR y p).length=(fX asl y p).length:=by
 obtain ⟨r,j⟩:=p;cases r with
 | ref qa g w=>show (y.2.map _).length=(y.2.map _).length;rw [bE,bE]
 | _=>rfl
theorem G1 {Z:List Zt} (H:Sto Z) {y:Zt} (hy:y∈Z) (p:Rl × Nat):(lkR y p).length<=4:=by rw [zD];exact yZ H (fun y _ p=>zC y p) hy p
theorem G2 {Z l1 l2:List Zt} {z:Zt} (H:Sto Z) (e:Z=l1++z::l2):(l1.flatMap lkZ).length<=52:=by rw [pZ (f:=lkZ) (g:=gS asl) (fun y=>pZ (f:=lkR y) (g:=fX asl y) (zD y) (y.1.rs.zipIdx 0)) l1];exact HW H (fun y _ p=>zC y p) e
noncomputable def loC:E:=.cmp .ne (.call "matched" [.w 10,.w 11,.idx (.w 12) (.c (.int 0)),.w 3]) (.blt .toTuple (.w 5))
noncomputable def loP:List S:=[.ite (.cmp .eq (.idx (.w 4) (.c (.int 0))) (.c (.str "refers"))) [.asg 5 (.lst []),.loop [6] .plain [.w 2] loR,.ite loC [.ret (.c (.bl false))] []] []]
noncomputable def loT:List S:=[.loop [3,4] .enum [.idx (.w 12) (.c (.int 3))] loP]
structure Cal (G:Glo) (Z:List Zt):Prop where
 lk:∀ z∈Z,∀ qs,RowOk z.1 qs->G.call "_law_key" [z.1.t,aI qs]=some (kyT z.1 qs)
 lw:∀ z∈Z,∀ qs∈z.2,∀ qa g w,Rl.ref qa g w∈z.1.rs->G.call "_law_worths" [z.1.t,aI qs,bC qa]=some (woT qa qs)
 lg:∀ g∈Z,∀ qa w ps,G.call "_law_goal" [aE Z,stT Z,(Rl.ref qa g.1.nm w).t,woT qa ps]=some (oT (mtR g qa ps))
 mt:∀ z∈Z,∀ g∈Z,∀ qa w (j:Nat),z.1.rs[j]?=some (.ref qa g.1.nm w)->G.call "matched" [aE Z,stT Z,.str z.1.nm,.int (j:Int)]=some (.tup (z.2.map fun ps=>.tup [aI ps,oT (mtR g qa ps)]))
 rf:∀ z∈Z,∀ ps∈z.2,G.call "referring" [aE Z,stT Z,.str z.1.nm,kyT z.1 ps]=some (.tup (dZ ((fB Z (rsl z ps)).map trT)))
 rn:∀ z∈Z,∀ k:List Kt,k.length<=4->(∀ qs∈z.2,aP z.1 qs≠k)->G.call "referring" [aE Z,stT Z,.str z.1.nm,tkT k]=none/\G.exc "referring" [aE Z,stT Z,.str z.1.nm,tkT k]=some (("NoRow":Str),(0:Int))
theorem G3 {Z:List Zt} (H:Sto Z) (C:Cal G Z) {N R2:T} {y g:Zt} (hy:y∈Z) (hg:g∈Z) {qa:List Str} {w:Str} (hr:Rl.ref qa g.1.nm w∈y.1.rs) {j:Nat} {qs:Row} (hq:qs∈y.2) {X D:List T} (hX:X.length<=100) (hD:D.length<=100) (s7 s8 s9:Sl) :
  aG G loR [.val N,.own X,.val R2,.val (.int (j:Int)),.val (Rl.ref qa g.1.nm w).t,.own D,.val (aI qs),s7,s8,s9,.val (aE Z),.val (stT Z),.val y.1.t] =
   some (.nx [.val N,.own (X++[lkE ⟨trO y j qs,g.1.nm,qa,qs⟩]),.val R2,.val (.int (j:Int)),.val (Rl.ref qa g.1.nm w).t,.own (D++[.tup [aI qs,oT (mtR g qa qs)]]),.val (aI qs),.val (woT qa qs),s8,s9,.val (aE Z),.val (stT Z),.val y.1.t]):=by
 refine (bJ (t:=woT qa qs) (τ':=[.val N,.own X,.val R2,.val (.int (j:Int)),.val (Rl.ref qa g.1.nm w).t,.own D,.val (aI qs),.val (woT qa qs),s8,s9,.val (aE Z),.val (stT Z),.val y.1.t]) rfl ?_ rfl).trans ?_
 .rw [cN];exact (aU (a:=[y.1.t,aI qs,bC qa]) rfl).trans (C.lw y hy qs hq qa _ w hr)
 refine (IF (t:=.tup [aI qs,oT (mtR g qa qs)]) (τ':=[.val N,.own X,.val R2,.val (.int (j:Int)),.val (Rl.ref qa g.1.nm w).t,.own (D++[.tup [aI qs,oT (mtR g qa qs)]]),.val (aI qs),.val (woT qa qs),s8,s9,.val (aE Z),.val (stT Z),.val y.1.t]) rfl ?_ rfl hD rfl).trans ?_
 .rw [evE,if_pos (by decide),aF,aF,cN];refine Eq.trans (b:=(((G.call "_law_goal" [aE Z,stT Z,(Rl.ref qa g.1.nm w).t,woT qa qs]).bind fun x=>some [x]).bind fun xs=>some (aI qs::xs)).map T.tup) rfl ?_;rw [C.lg g hg];rfl
 refine (IF (ss:=[]) (t:=lkE ⟨trO y j qs,g.1.nm,qa,qs⟩) (τ':=[.val N,.own (X++[lkE ⟨trO y j qs,g.1.nm,qa,qs⟩]),.val R2,.val (.int (j:Int)),.val (Rl.ref qa g.1.nm w).t,.own (D++[.tup [aI qs,oT (mtR g qa qs)]]),.val (aI qs),.val (woT qa qs),s8,s9,.val (aE Z),.val (stT Z),.val y.1.t]) rfl ?_ rfl hX rfl).trans rfl;rw [evE,if_pos (by decide),aF];have h1:evE G (.tup [.idx (.w 12) (.c (.int 0)),.w 3,.call "_law_key" [.w 12,.w 6]]) (aC [.val N,.own X,.val R2,.val (.int (j:Int)),.val (Rl.ref qa g.1.nm w).t,.own (D++[.tup [aI qs,oT (mtR g qa qs)]]),.val (aI qs),.val (woT qa qs),s8,s9,.val (aE Z),.val (stT Z),.val y.1.t])=some (trT (trO y j qs)):=by rw [evE,if_pos (by decide),aF,aF,aF,cN];refine Eq.trans (b:=(((G.call "_law_key" [y.1.t,aI qs]).bind fun x=>some [x]).bind fun xs=>some (T.int (j:Int)::xs)).bind (fun xs=>some (T.str y.1.nm::xs)) |>.map T.tup) rfl ?_;rw [C.lk y hy qs ((H.ok y hy).2.2 qs hq)];rfl
 refine (aV (Option.map T.tup) (aU h1)).trans rfl
theorem G4 {Z:List Zt} (H:Sto Z) {y g:Zt} (hy:y∈Z) (hg:g∈Z) (qa:List Str):Slf 3 (.tup (y.2.map fun ps=>.tup [aI ps,oT (mtR g qa ps)])):=mT fun w hw=>by
 obtain ⟨qs,hq,rfl⟩:=omm hw;refine mT fun w hw=>?_;rcases omc hw with rfl | hw
 .exact HF ((H.ok y hy).2.2 qs hq)
 .rw [omg hw];cases e:mtR g qa qs with
  | none=>exact tW (oH rfl) (by lia)
  | some r =>rw [IB] at e;exact HF ((H.ok g hg).2.2 r (List.mem_of_find?_eq_some e))
theorem G5 {Z:List Zt} (H:Sto Z) (C:Cal G Z) {N:T} {y:Zt} (hy:y∈Z) {p:Rl × Nat} (hp:p∈y.1.rs.zipIdx 0) {X:List T} (hX:X.length<=80) (s5 s6 s7 s8 s9:Sl) :
  ∃ s5' s6' s7',aG G loP [.val N,.own X,.val (rwT y),.val (.int (p.2:Int)),.val p.1.t,s5,s6,s7,s8,s9,.val (aE Z),.val (stT Z),.val y.1.t] =
   some (.nx [.val N,.own (X++(lkR y p).map lkE),.val (rwT y),.val (.int (p.2:Int)),.val p.1.t,s5',s6',s7',s8,s9,.val (aE Z),.val (stT Z),.val y.1.t]):=by
 obtain ⟨r,j⟩:=p;have hix:y.1.rs[j]?=some r:=by have:=List.mem_zipIdx' hp;rw [show r=y.1.rs[j] from this.2];exact bV _
 have hr:r∈y.1.rs:=HR hp;cases r with
 | iZ ks=>exact ⟨s5,s6,s7,(eJ (ss:=[]) rfl rfl).trans (by rw [show lkR y (.iZ ks,j)=[] from rfl,List.map_nil,dP];rfl)⟩
 | chk t=>exact ⟨s5,s6,s7,(eJ (ss:=[]) rfl rfl).trans (by rw [show lkR y (.chk t,j)=[] from rfl,List.map_nil,dP];rfl)⟩
 | ref qa g w =>
  obtain ⟨gz,hg,eg⟩:=omm (H.fit y hy _ hr).2;subst eg;have hl:=(H.ok y hy).2.1;obtain ⟨τ',el,s6',s7',rfl⟩:=gQ (enc:=aI) (f:=fun x τ=>(bI [6] x τ).bind fun τ'=>aG G loR τ')
   (fun done τ=>∃ (s6 s7:Sl),τ=[.val N,.own (X++(done.map fun qs=>(⟨trO y j qs,gz.1.nm,qa,qs⟩:Lk)).map lkE),.val (rwT y),.val (.int (j:Int)),.val (Rl.ref qa gz.1.nm w).t,.own (done.map fun ps=>.tup [aI ps,oT (mtR gz qa ps)]),s6,s7,s8,s9,.val (aE Z),.val (stT Z),.val y.1.t])
   y.2 [.val N,.own X,.val (rwT y),.val (.int (j:Int)),.val (Rl.ref qa gz.1.nm w).t,.own [],s6,s7,s8,s9,.val (aE Z),.val (stT Z),.val y.1.t] ⟨_,_,by rw [List.map_nil,List.map_nil,dP];rfl⟩ (by
    rintro l1 qs l2 hsp τ ⟨s6,s7,rfl⟩;have hq:qs∈y.2:=by rw [hsp];simp
    have h2:=aV List.length hsp;simp at h2;have hYl:(X++(l1.map fun qs=>(⟨trO y j qs,gz.1.nm,qa,qs⟩:Lk)).map lkE).length<=100:=by rw [eU,bE,bE];lia
    have e:=G3 H C (N:=N) (R2:=rwT y) hy hg hr (j:=j) hq hYl (D:=l1.map fun ps=>.tup [aI ps,oT (mtR gz qa ps)]) (by rw [bE];lia) s7 s8 s9;refine ⟨_,e,.val (aI qs),.val (woT qa qs),?_⟩;simp only [List.map_append,cQ,cV,List.append_assoc])
  refine ⟨.val (.lst (y.2.map fun ps=>.tup [aI ps,oT (mtR gz qa ps)])),s6',s7',?_⟩;refine (pR (ss:=[]) rfl rfl (?_:aG G _ _=some (.nx _))).trans rfl;refine (bJ (t:=.lst []) (τ':=[.val N,.own X,.val (rwT y),.val (.int (j:Int)),.val (Rl.ref qa gz.1.nm w).t,.own [],s6,s7,s8,s9,.val (aE Z),.val (stT Z),.val y.1.t]) rfl rfl rfl).trans ?_;refine (bG (fN (τ0:=[.val N,.own X,.val (rwT y),.val (.int (j:Int)),.val (Rl.ref qa gz.1.nm w).t,.own [],s6,s7,s8,s9,.val (aE Z),.val (stT Z),.val y.1.t]) (xs:=[rwT y]) (qc:=y.2.map aI) rfl rfl rfl el)).trans ?_;refine (D6 (ss:=[]) (τ0:=[.val N,.own (X++(lkR y (.ref qa gz.1.nm w,j)).map lkE),.val (rwT y),.val (.int (j:Int)),.val (Rl.ref qa gz.1.nm w).t,.val (.lst (y.2.map fun ps=>.tup [aI ps,oT (mtR gz qa ps)])),s6',s7',s8,s9,.val (aE Z),.val (stT Z),.val y.1.t]) rfl ?_).trans rfl;unfold loC;rw [evE,cN];refine (aU (a:=T.tup (y.2.map fun ps=>.tup [aI ps,oT (mtR gz qa ps)])) ((aU (a:=[aE Z,stT Z,T.str y.1.nm,T.int (j:Int)]) rfl).trans (C.mt y hy gz hg qa w j hix))).trans ?_;rw [gR];exact (aU (a:=T.tup (y.2.map fun ps=>.tup [aI ps,oT (mtR gz qa ps)])) ((aU (a:=T.lst (y.2.map fun ps=>.tup [aI ps,oT (mtR gz qa ps)])) rfl).trans rfl)).trans (HE (G4 H hy hg qa) (by decide))
theorem G6 {Z:List Zt} (H:Sto Z) (C:Cal G Z) (N:T):∃ s2 s3 s4 s5 s6 s7 s12,cB (fun x τ=>(bI [12,2] x τ).bind fun τ'=>aG G loT τ') (Z.map fun z=>T.tup [z.1.t,rwT z]) [.val N,.own [],.no,.no,.no,.no,.no,.no,.no,.no,.val (aE Z),.val (stT Z),.no] =
  some (.nx [.val N,.own ((lkL Z).map lkE),s2,s3,s4,s5,s6,s7,.no,.no,.val (aE Z),.val (stT Z),s12]):=by
 obtain ⟨τ',el,s2,s3,s4,s5,s6,s7,s12,rfl⟩:=gQ (enc:=fun z:Zt=>T.tup [z.1.t,rwT z]) (f:=fun x τ=>(bI [12,2] x τ).bind fun τ'=>aG G loT τ')
  (fun done τ=>∃ (s2 s3 s4 s5 s6 s7 s12:Sl),τ=[.val N,.own ((done.flatMap lkZ).map lkE),s2,s3,s4,s5,s6,s7,.no,.no,.val (aE Z),.val (stT Z),s12])
  Z [.val N,.own [],.no,.no,.no,.no,.no,.no,.no,.no,.val (aE Z),.val (stT Z),.no] ⟨_,_,_,_,_,_,_,rfl⟩ (by
   rintro l1 y l2 hsp τ ⟨s2,s3,s4,s5,s6,s7,s12,rfl⟩;have hy:y∈Z:=by rw [hsp];simp
   have hXl:=G2 H hsp;obtain ⟨τ',el,s3',s4',s5',s6',s7',rfl⟩:=gQ (enc:=fun (q:Rl × Nat)=>T.tup [.int (q.2:Int),q.1.t]) (f:=fun x τ=>(bI [3,4] x τ).bind fun τ'=>aG G loP τ')
    (fun done τ=>∃ (s3 s4 s5 s6 s7:Sl),τ=[.val N,.own ((l1.flatMap lkZ).map lkE++(done.flatMap (lkR y)).map lkE),.val (rwT y),s3,s4,s5,s6,s7,.no,.no,.val (aE Z),.val (stT Z),.val y.1.t])
    (y.1.rs.zipIdx 0) [.val N,.own ((l1.flatMap lkZ).map lkE),.val (rwT y),s3,s4,s5,s6,s7,.no,.no,.val (aE Z),.val (stT Z),.val y.1.t] ⟨_,_,_,_,_,by rw [List.flatMap_nil,List.map_nil,dP]⟩ (by
     rintro m1 q m2 hsp2 τ ⟨s3,s4,s5,s6,s7,rfl⟩;have hq:q∈y.1.rs.zipIdx 0:=by rw [hsp2];simp
     have hYl:((l1.flatMap lkZ).map lkE++(m1.flatMap (lkR y)).map lkE).length<=80:=by rw [eU,bE,bE];have h1:=tY (f:=lkR y) (n:=4) (l:=m1) fun q _=>G1 H hy q;have h2:=aV List.length hsp2;have h3:=(H.ok y hy).1.rl;simp at h2;lia
     obtain ⟨s5',s6',s7',e⟩:=G5 H C (N:=N) hy hq hYl s5 s6 s7 .no .no;refine ⟨_,e,.val (.int (q.2:Int)),.val q.1.t,s5',s6',s7',?_⟩;rw [List.flatMap_append,iG,kK,List.flatMap_nil,dP,jW])
   refine ⟨[.val N,.own ((l1.flatMap lkZ).map lkE++((y.1.rs.zipIdx 0).flatMap (lkR y)).map lkE),.val (rwT y),s3',s4',s5',s6',s7',.no,.no,.val (aE Z),.val (stT Z),.val y.1.t],?_,.val (rwT y),s3',s4',s5',s6',s7',.val y.1.t,?_⟩
   .exact (bG (ss:=[]) (fN (xs:=[.tup (y.1.rs.map Rl.t)]) (qc:=(y.1.rs.zipIdx 0).map fun (q:Rl × Nat)=>T.tup [.int (q.2:Int),q.1.t]) (τ0:=[.val N,.own ((l1.flatMap lkZ).map lkE),.val (rwT y),s3,s4,s5,s6,s7,.no,.no,.val (aE Z),.val (stT Z),.val y.1.t]) rfl rfl (by simp only [items,oE]) el)).trans rfl
   .rw [List.flatMap_append,iG,kK,List.flatMap_nil,dP];rfl)
 exact ⟨s2,s3,s4,s5,s6,s7,s12,el⟩
end
section
variable {G:Glo}
theorem G7 {i:Nat} {e:E} {ss:List S} {τ τ0 τ':List Sl} {t:T} (h0:aQ (aM e) τ=τ0) (h1:evE G e (aC τ0)=some t) (h2:τ0.set i (dM e t)=τ'):aG G (.asg i e::ss) τ=aG G ss τ':=bG (by rw [evS,h0,h1,<- h2];rfl)
theorem IG {f:Str} {es:List E} {e:E} {a ss:List S} {τ:List Sl} {ts:List T} {t u:T} (h0:aQ (bA es++aM e) τ=τ) (h1:aF G es (aC τ)=some ts) (h2:jM G f ts=some t) (h3:evE G e (aC τ)=some u) (h4:neC t u=some (.bl false)):aG G (.tif f es e a::ss) τ=aG G ss τ:=bG (by rw [evS,h0,h1,bK,h2,bK,h3,bK];exact (aU (x:=bH .ne t u) h4).trans rfl)
def isL (nm:Str) (k:List Kt) (x:Lk):Bool:=x.g==nm&&(!dN (wK x.qa x.qs)&&decide (wK x.qa x.qs=k))
theorem G8 (nm:Str) (k:List Kt) (x:Lk):eqC (.tup [.str x.g,woT x.qa x.qs]) (.tup [.str nm,tkT k])=some (.bl (isL nm k x)):=by
 unfold woT isL;by_cases h:dN (wK x.qa x.qs)=true
 .rw [if_pos h,h];have h1:dpP (.tup [.str x.g,.non]) (.tup [.str nm,tkT k])<=30:=by show max (dpP (.str x.g) (.str nm)) (max (dpP .non (tkT k)) 0)+1<=30;rw [yC,show dpP .non (tkT k)=0 from rfl];decide
  have h2:eqT (.tup [.str x.g,.non]) (.tup [.str nm,tkT k])=(x.g==nm&&(eqT .non (tkT k)&&true)):=rfl;unfold eqC;rw [if_pos h1,h2];rfl
 .rw [if_neg h,IA,show dN (wK x.qa x.qs)=false by simpa using h];rfl
theorem G9 (Z:List Zt) (z:Zt) (ps:Row):((lkL Z).filter (isL z.1.nm (aP z.1 ps))).map (·.tr)=fB Z (rsl z ps):=by
 unfold lkL fB lkZ gS;rw [List.filter_flatMap,List.map_flatMap];congr 1;funext y;rw [List.filter_flatMap,List.map_flatMap];congr 1;funext p;obtain ⟨r,j⟩:=p;cases r with
 | ref qa g w =>
  show ((y.2.map fun qs=>(⟨trO y j qs,g,qa,qs⟩:Lk)).filter (isL z.1.nm (aP z.1 ps))).map (·.tr)=(((ful qa y.2).filter fun qs=>g==z.1.nm&&decide (wK qa qs=aP z.1 ps)).map (trO y j));unfold ful;rw [List.filter_map,eP,List.filter_filter];have e:(isL z.1.nm (aP z.1 ps)∘fun qs=>(⟨trO y j qs,g,qa,qs⟩:Lk))=fun qs=>(g==z.1.nm&&decide (wK qa qs=aP z.1 ps))&&!dN (wK qa qs):=by funext qs;show (g==z.1.nm&&(!dN (wK qa qs)&&decide (wK qa qs=aP z.1 ps)))=_;cases (g==z.1.nm)<;>cases dN (wK qa qs)<;>cases decide (wK qa qs=aP z.1 ps)<;>rfl
  rw [e];rfl
 | _=>rfl
theorem J1 (b:Tb) (R:List Row) (k:List Kt):inC (tkT k) (.lst (R.map (kyT b)))=some (gks b R k):=by
 have h1:dpI (tkT k) (R.map (kyT b))=true:=by unfold dpI;rw [oO];intro x hx;obtain ⟨qs,_,rfl⟩:=omm hx;rw [kyT,oF];decide
 show (if dpI (tkT k) (R.map (kyT b))=true then some ((R.map (kyT b)).any fun z=>eqT z (tkT k)) else none)=_;rw [if_pos h1,List.any_map];congr 1;unfold gks;congr 1;funext qs;show eqT (kyT b qs) (tkT k)=_;rw [kyT,pV]
noncomputable def kyC:E:=.comp (.w 0) 2 .plain [.w 1] (some (.cmp .eq (.w 1) (.tup [.idx (.w 14) (.c (.int 0)),.w 11])))
noncomputable def kyB:List S:=[.asg 5 (.tup [.c (.str "told"),.blt .toTuple (.blt .sorted kyC)]),
  .ite (.cmp .notin (.w 9) (.w 8)) [.asg 5 (.tup [.c (.str "refused"),.c (.int 1),.c (.int 0)])] [],
  .tif "referring" [.w 10,.w 11,.idx (.w 12) (.c (.int 0)),.w 9] (.w 5) [.ret (.c (.bl false))]]
noncomputable def kyS:E:=.bin .add (.w 8) (.lst [.call "_law_key" [.w 12,.call "_law_row" [.w 12,.call "_law_mixed" [.w 0,.c (.int 2)]]]])
noncomputable def uE:List S:=[.asg 8 (.comp (.call "_law_key" [.w 13,.w 0]) 1 .plain [.w 2] none),.loop [9] .plain [kyS] kyB]
theorem J2 {Z:List Zt} (H:Sto Z) (C:Cal G Z) {N R2:T} {z:Zt} (hz:z∈Z) {ps:Row} (hp:RowOk z.1 ps) (s1 s3 s4 s5 s6 s7:Sl) (h1:s1.frz=.val (.lst ((lkL Z).map lkE))) :
  ∃ s5',aG G kyB [.val N,s1,.val R2,s3,s4,s5,s6,s7,.val (.lst (z.2.map (kyT z.1))),.val (kyT z.1 ps),.val (aE Z),.val (stT Z),.val z.1.t] =
   some (.nx [.val N,.val (.lst ((lkL Z).map lkE)),.val R2,s3,s4,s5',s6,s7,.val (.lst (z.2.map (kyT z.1))),.val (kyT z.1 ps),.val (aE Z),.val (stT Z),.val z.1.t]):=by
 have hs:∀ y∈Z,∀ q,(rsl z ps y q).Sublist y.2:=fun y _ q=>HY z ps y q;have hlen:(lkL Z).length<=100:=by have h4:=H.lr;have e:(lkL Z).length=(fB Z asl).length:=pZ (f:=lkZ) (g:=gS asl) (fun y=>pZ (f:=lkR y) (g:=fX asl y) (zD y) (y.1.rs.zipIdx 0)) Z;have:=uC H (sel:=asl) (fun y _ p=>zC y p) (l:=Z) fun y hy=>hy;rw [e];unfold fB;lia
 have hk4:(aP z.1 ps).length<=4:=by unfold aP;rw [bE];have:=(H.ok z hz).1.k1;lia
 have hc:evE G kyC [some N,some (.lst ((lkL Z).map lkE)),some R2,s3.get,s4.get,s5.get,s6.get,s7.get,some (.lst (z.2.map (kyT z.1))),some (kyT z.1 ps),some (aE Z),some (stT Z),some z.1.t]=some (.lst ((fB Z (rsl z ps)).map trT)):=by
  rw [<- G9,eP];refine yW (enc:=lkE) (isL z.1.nm (aP z.1 ps)) (fun x=>trT x.tr) (xs:=[.lst ((lkL Z).map lkE)]) rfl ?_ fun x _=>⟨some (trT x.tr)::some (.tup [.str x.g,woT x.qa x.qs])::[some N,some (.lst ((lkL Z).map lkE)),some R2,s3.get,s4.get,s5.get,s6.get,s7.get,some (.lst (z.2.map (kyT z.1))),some (kyT z.1 ps),some (aE Z),some (stT Z),some z.1.t],rfl,?_,fun _=>rfl⟩
  .show (if ((lkL Z).map lkE).length<=SZ then some ((lkL Z).map lkE) else none)=_;rw [if_pos (by rw [bE];unfold SZ;lia)]
  .rw [evE];exact (aU (a:=T.tup [.str x.g,woT x.qa x.qs]) rfl).trans ((aU (a:=T.tup [.str z.1.nm,tkT (aP z.1 ps)]) rfl).trans (G8 _ _ x))
 refine Exists.imp (fun s5' h=>(G7 (t:=.tup [.str "told",.tup (dZ ((fB Z (rsl z ps)).map trT))]) (τ0:=[.val N,.val (.lst ((lkL Z).map lkE)),.val R2,s3,s4,s5,s6,s7,.val (.lst (z.2.map (kyT z.1))),.val (kyT z.1 ps),.val (aE Z),.val (stT Z),.val z.1.t]) (by rw [<- h1];rfl) ?_ rfl).trans h) ?_
 .rw [evE,if_pos (by decide),aF,aF,gR,gR];refine Eq.trans (b:=((((evE G kyC [some N,some (.lst ((lkL Z).map lkE)),some R2,s3.get,s4.get,s5.get,s6.get,s7.get,some (.lst (z.2.map (kyT z.1))),some (kyT z.1 ps),some (aE Z),some (stT Z),some z.1.t]).bind fun x=>bO .sorted x).bind fun x=>bO .toTuple x).bind fun x=>some [x]).bind (fun xs=>some (T.str "told"::xs)) |>.map T.tup) rfl ?_;rw [hc,bK,(HX H hs).sorted];rfl
 have hni:evE G (.cmp .notin (.w 9) (.w 8)) (aC [.val N,.val (.lst ((lkL Z).map lkE)),.val R2,s3,s4,.val (.tup [.str "told",.tup (dZ ((fB Z (rsl z ps)).map trT))]),s6,s7,.val (.lst (z.2.map (kyT z.1))),.val (kyT z.1 ps),.val (aE Z),.val (stT Z),.val z.1.t])=some (.bl (!gks z.1 z.2 (aP z.1 ps))):=by rw [evE];refine (aU (a:=kyT z.1 ps) rfl).trans ((aU (a:=T.lst (z.2.map (kyT z.1))) rfl).trans ?_);show (inC (tkT (aP z.1 ps)) (.lst (z.2.map (kyT z.1)))).map (fun b=>T.bl (!b))=_;rw [J1];rfl
 cases hg:gks z.1 z.2 (aP z.1 ps) with
 | true =>
  rw [hg] at hni;unfold gks at hg;obtain ⟨qs,hq,e⟩:=List.any_eq_true.mp hg;have e:aP z.1 qs=aP z.1 ps:=by simpa using e
  have er:rsl z qs=rsl z ps:=by unfold rsl;rw [e]
  have et:jM G "referring" [aE Z,stT Z,.str z.1.nm,kyT z.1 ps]=some (.tup [.str "told",.tup (dZ ((fB Z (rsl z ps)).map trT))]):=by have:=C.rf z hz qs hq;rw [er,kyT,e] at this;unfold jM kyT;rw [this]
  refine ⟨.val (.tup [.str "told",.tup (dZ ((fB Z (rsl z ps)).map trT))]),?_⟩;refine (eJ rfl hni).trans ((IG (ss:=[]) rfl (ts:=[aE Z,stT Z,.str z.1.nm,kyT z.1 ps]) rfl et rfl (HE (n:=4) (mT fun w hw=>?_) (by decide))).trans rfl);rcases omc hw with rfl | hw
  .exact tW (oH rfl) (by lia)
  .rw [omg hw];exact D8 _
 | false =>
  rw [hg] at hni;have hn:∀ qs∈z.2,aP z.1 qs≠aP z.1 ps:=fun qs hq e=>by unfold gks at hg;rw [List.any_eq_false] at hg;exact hg qs hq (by simpa using e)
  obtain ⟨r1,r2⟩:=C.rn z hz _ hk4 hn;have et:jM G "referring" [aE Z,stT Z,.str z.1.nm,kyT z.1 ps]=some (.tup [.str "refused",.int 1,.int 0]):=by unfold jM kyT;rw [r1];show ((G.exc "referring" [aE Z,stT Z,.str z.1.nm,tkT (aP z.1 ps)]).bind _)=_;rw [r2];rfl
  refine ⟨.val (.tup [.str "refused",.int 1,.int 0]),?_⟩;refine (pR rfl hni ((bJ (ss:=[]) (t:=.tup [.str "refused",.int 1,.int 0]) (τ':=[.val N,.val (.lst ((lkL Z).map lkE)),.val R2,s3,s4,.val (.tup [.str "refused",.int 1,.int 0]),s6,s7,.val (.lst (z.2.map (kyT z.1))),.val (kyT z.1 ps),.val (aE Z),.val (stT Z),.val z.1.t]) rfl rfl rfl).trans rfl)).trans ?_;exact (IG (ss:=[]) rfl (ts:=[aE Z,stT Z,.str z.1.nm,kyT z.1 ps]) rfl et rfl rfl).trans rfl
theorem J3 {Z:List Zt} (H:Sto Z) (C:Cal G Z) {N:T} {c:Int} (em:G.call "_law_mixed" [N,.int 2]=some (.int c)) (hw:∀ z∈Z,∃ ps,RowOk z.1 ps/\G.call "_law_row" [z.1.t,.int c]=some (aI ps)) (s1 s2 s3 s4 s5 s6 s7 s12:Sl) (h1:s1.frz=.val (.lst ((lkL Z).map lkE))) :
  ∃ τ',cB (fun x τ=>(bI [12,2] x τ).bind fun τ'=>aG G uE τ') (Z.map fun z=>T.tup [z.1.t,rwT z]) [.val N,s1,s2,s3,s4,s5,s6,s7,.no,.no,.val (aE Z),.val (stT Z),s12]=some (.nx τ'):=by
 obtain ⟨τ',el,_⟩:=gQ (enc:=fun z:Zt=>T.tup [z.1.t,rwT z]) (f:=fun x τ=>(bI [12,2] x τ).bind fun τ'=>aG G uE τ')
  (fun done τ=>∃ (s1 s2 s5 s8 s9 s12:Sl),s1.frz=.val (.lst ((lkL Z).map lkE))/\τ=[.val N,s1,s2,s3,s4,s5,s6,s7,s8,s9,.val (aE Z),.val (stT Z),s12])
  Z [.val N,s1,s2,s3,s4,s5,s6,s7,.no,.no,.val (aE Z),.val (stT Z),s12] ⟨_,_,_,_,_,_,h1,rfl⟩ (by
   rintro l1 z l2 hsp τ ⟨s1,s2,s5,s8,s9,s12,h1,rfl⟩;have hz:z∈Z:=by rw [hsp];simp
   obtain ⟨hb,hl,hR⟩:=H.ok z hz;obtain ⟨ps,hp,er⟩:=hw z hz;have hks:evE G (.comp (.call "_law_key" [.w 13,.w 0]) 1 .plain [.w 2] none) (aC [.val N,s1,.val (rwT z),s3,s4,s5,s6,s7,s8,s9,.val (aE Z),.val (stT Z),.val z.1.t])=some (.lst (z.2.map (kyT z.1))) :=
    yY (enc:=aI) (kyT z.1) (xs:=[rwT z]) rfl (yX z.2 hl) fun qs hq=>⟨_,rfl,by rw [cN];exact (aU (a:=[z.1.t,aI qs]) rfl).trans (C.lk z hz qs (hR qs hq))⟩
   have hsr:aF G [kyS] (aC [.val N,s1,.val (rwT z),s3,s4,s5,s6,s7,.val (.lst (z.2.map (kyT z.1))),s9,.val (aE Z),.val (stT Z),.val z.1.t])=some [.lst ((z.2++[ps]).map (kyT z.1))]:=by
    rw [aF,kyS,evE];have h2:evE G (.lst [.call "_law_key" [.w 12,.call "_law_row" [.w 12,.call "_law_mixed" [.w 0,.c (.int 2)]]]]) (aC [.val N,s1,.val (rwT z),s3,s4,s5,s6,s7,.val (.lst (z.2.map (kyT z.1))),s9,.val (aE Z),.val (stT Z),.val z.1.t])=some (.lst [kyT z.1 ps]):=by
     generalize hV:aC [.val N,s1,.val (rwT z),s3,s4,s5,s6,s7,.val (.lst (z.2.map (kyT z.1))),s9,.val (aE Z),.val (stT Z),.val z.1.t]=V;have v0:evE G (.w 0) V=some N:=by rw [<- hV];rfl
     have v12:evE G (.w 12) V=some z.1.t:=by rw [<- hV];rfl
     have e1:evE G (.call "_law_mixed" [.w 0,.c (.int 2)]) V=some (.int c):=by rw [cN];exact (aU (a:=[N,.int 2]) (by rw [aF,v0];rfl)).trans em
     have e2:evE G (.call "_law_row" [.w 12,.call "_law_mixed" [.w 0,.c (.int 2)]]) V=some (aI ps):=by rw [cN];exact (aU (a:=[z.1.t,.int c]) (by rw [aF,v12,aF,e1];rfl)).trans er
     have e3:evE G (.call "_law_key" [.w 12,.call "_law_row" [.w 12,.call "_law_mixed" [.w 0,.c (.int 2)]]]) V=some (kyT z.1 ps):=by rw [cN];exact (aU (a:=[z.1.t,aI ps]) (by rw [aF,v12,aF,e2];rfl)).trans (C.lk z hz ps hp)
     rw [evE,if_pos (by decide),aF,e3];rfl
    refine (aU (a:=T.lst ((z.2++[ps]).map (kyT z.1))) ((aU (a:=T.lst (z.2.map (kyT z.1))) rfl).trans ((aU h2).trans ?_))).trans rfl;show (if (z.2.map (kyT z.1)).length+[kyT z.1 ps].length<=SZ then some (T.lst (z.2.map (kyT z.1)++[kyT z.1 ps])) else none)=_;rw [if_pos (by rw [List.length_map];unfold SZ;simp;lia),List.map_append];rfl
   have hall:∀ qs∈z.2++[ps],RowOk z.1 qs:=fun qs hq=>by
    rcases oma hq with h | h
    .exact hR qs h
    .rw [omg h];exact hp
   obtain ⟨τ',el,s1',s5',s9',h1',rfl⟩:=gQ (enc:=kyT z.1) (f:=fun x τ=>(bI [9] x τ).bind fun τ'=>aG G kyB τ')
    (fun done τ=>∃ (s1 s5 s9:Sl),s1.frz=.val (.lst ((lkL Z).map lkE))/\τ=[.val N,s1,.val (rwT z),s3,s4,s5,s6,s7,.val (.lst (z.2.map (kyT z.1))),s9,.val (aE Z),.val (stT Z),.val z.1.t])
    (z.2++[ps]) [.val N,s1,.val (rwT z),s3,s4,s5,s6,s7,.val (.lst (z.2.map (kyT z.1))),s9,.val (aE Z),.val (stT Z),.val z.1.t] ⟨_,_,_,h1,rfl⟩ (by rintro m1 qs m2 hsp2 τ ⟨s1,s5,s9,h1,rfl⟩;have hq:RowOk z.1 qs:=hall qs (by rw [hsp2];simp);obtain ⟨s5',e⟩:=J2 H C (N:=N) (R2:=rwT z) hz hq s1 s3 s4 s5 s6 s7 h1;exact ⟨_,e,_,s5',.val (kyT z.1 qs),rfl,rfl⟩)
   refine ⟨_,?_,s1',.val (rwT z),s5',.val (.lst (z.2.map (kyT z.1))),s9',.val z.1.t,h1',rfl⟩;refine Eq.trans (b:=aG G uE [.val N,s1,.val (rwT z),s3,s4,s5,s6,s7,s8,s9,.val (aE Z),.val (stT Z),.val z.1.t]) rfl ?_;refine (bJ (t:=.lst (z.2.map (kyT z.1))) (τ':=[.val N,s1,.val (rwT z),s3,s4,s5,s6,s7,.val (.lst (z.2.map (kyT z.1))),s9,.val (aE Z),.val (stT Z),.val z.1.t]) rfl hks rfl).trans ?_;exact (bG (ss:=[]) (fN (τ0:=[.val N,s1,.val (rwT z),s3,s4,s5,s6,s7,.val (.lst (z.2.map (kyT z.1))),s9,.val (aE Z),.val (stT Z),.val z.1.t]) rfl hsr rfl el)).trans rfl)
 exact ⟨τ',el⟩
end
section
theorem IH:∀ Z:List Zt,eY (Z.map fun z=>z.1.t) (Z.map rwT)=Z.map fun y=>T.tup [y.1.t,rwT y]
 | []=>rfl
 | z::Z=>by rw [aT,aT,aT,<- IH Z];rfl
theorem J4:oJ.body=[.asg 10 (.call "_law_schema" [.call "_law_mixed" [.w 0,.c (.int 0)]]),
  .asg 11 (.call "_law_loose" [.w 10,.call "_law_mixed" [.w 0,.c (.int 1)]]),
  .asg 1 (.lst []),.loop [12,2] .zip [.w 10,.w 11] loT,.loop [12,2] .zip [.w 10,.w 11] uE,.ret (.c (.bl true))]:=rfl
theorem J5 {G:Glo} {Z:List Zt} (H:Sto Z) (C:Cal G Z) {N:T} {a b c:Int} (em0:G.call "_law_mixed" [N,.int 0]=some (.int a)) (em1:G.call "_law_mixed" [N,.int 1]=some (.int b)) (em2:G.call "_law_mixed" [N,.int 2]=some (.int c))
  (es:G.call "_law_schema" [.int a]=some (aE Z)) (ez:G.call "_law_loose" [aE Z,.int b]=some (stT Z)) (hw:∀ z∈Z,∃ ps,RowOk z.1 ps/\G.call "_law_row" [z.1.t,.int c]=some (aI ps)) :
  aG G oJ.body [.val N,.no,.no,.no,.no,.no,.no,.no,.no,.no,.no,.no,.no]=some (.rt (.bl true)):=by
 rw [J4];refine (bJ (t:=aE Z) (τ':=[.val N,.no,.no,.no,.no,.no,.no,.no,.no,.no,.val (aE Z),.no,.no]) rfl ?_ rfl).trans ?_
 .rw [cN,aF,cN];exact (aU (a:=[T.int a]) ((aU (a:=T.int a) ((aU (a:=[N,T.int 0]) rfl).trans em0)).trans rfl)).trans es
 refine (bJ (t:=stT Z) (τ':=[.val N,.no,.no,.no,.no,.no,.no,.no,.no,.no,.val (aE Z),.val (stT Z),.no]) rfl ?_ rfl).trans ?_
 .rw [cN,aF,aF,cN];exact (aU (a:=[aE Z,T.int b]) ((aU (a:=aE Z) rfl).trans ((aU (a:=[T.int b]) ((aU (a:=T.int b) ((aU (a:=[N,T.int 1]) rfl).trans em1)).trans rfl)).trans rfl))).trans ez
 refine (bJ (t:=.lst []) (τ':=[.val N,.own [],.no,.no,.no,.no,.no,.no,.no,.no,.val (aE Z),.val (stT Z),.no]) rfl rfl rfl).trans ?_;have hit:items .zip [aE Z,stT Z]=some (Z.map fun y=>T.tup [y.1.t,rwT y]):=by show some (eY (Z.map fun z=>z.1.t) (Z.map rwT))=_;rw [IH]
 obtain ⟨s2,s3,s4,s5,s6,s7,s12,e1⟩:=G6 H C N;refine (bG (fN (xs:=[aE Z,stT Z]) (qc:=Z.map fun y=>T.tup [y.1.t,rwT y]) (τ0:=[.val N,.own [],.no,.no,.no,.no,.no,.no,.no,.no,.val (aE Z),.val (stT Z),.no]) rfl rfl hit e1)).trans ?_;obtain ⟨τ',e2⟩:=J3 H C em2 hw (.own ((lkL Z).map lkE)) s2 s3 s4 s5 s6 s7 s12 rfl;refine (bG (fN (xs:=[aE Z,stT Z]) (qc:=Z.map fun y=>T.tup [y.1.t,rwT y]) (τ0:=[.val N,.own ((lkL Z).map lkE),s2,s3,s4,s5,s6,s7,.no,.no,.val (aE Z),.val (stT Z),s12]) rfl rfl hit e2)).trans ?_;exact cZ rfl rfl
theorem J6 {P:Pr} {Tx:Str->Option Rxd} (hc:P.fn "_law_cell_at"=some oA) (hm:P.fn "_law_mixed"=some sZ) (hd:P.fn "_law_drawn"=some hU) (ht:P.fn "_law_test"=some iP) (hp:P.fn "_law_pairs"=some lK) (hr:P.fn "_law_rule"=some jO)
  (hb:P.fn "_law_bare"=some kH) (hs:P.fn "_law_schema"=some tG) (hw:P.fn "_law_worth"=some hW) (hrw:P.fn "_law_row"=some tH) (hlo:P.fn "_law_loose"=some yK) (hnm:P.fn "_law_names"=some lJ) (hky:P.fn "_law_key"=some mQ) (htb:P.fn "_law_table"=some tD) (hrs:P.fn "_law_rows"=some tE) (hgo:P.fn "_law_goal"=some uA) (hwo:P.fn "_law_worths"=some pP) (p:Prg P)
  (hsk:P.fn "is_same_key"=some jA) (hro:P.fn "row_of"=some lN) (hmt:P.fn "matched"=some tZ) (hrf:P.fn "referring"=some pY) (xro:Tx "row_of"=some oK) (xrf:Tx "referring"=some uB) (ns:List Int) :
  Ex.runL P Tx oJ 20 [.lst (ns.map .int)]=some (.bl true):=by
 obtain ⟨S,es,hSl,hSo,hSp,hSn,hSf⟩:=ZV hd ht hp hr hb hs 13 (iW (gF ns 0) 0);have em0:(gO P Tx 20).call "_law_mixed" [.lst (ns.map .int),.int 0]=some (.int (iW (gF ns 0) 0)):=xW hc hm 18 ns 0;have em1:(gO P Tx 20).call "_law_mixed" [.lst (ns.map .int),.int 1]=some (.int (iW (gF ns 1) 1)):=xW hc hm 18 ns 1;have em2:(gO P Tx 20).call "_law_mixed" [.lst (ns.map .int),.int 2]=some (.int (iW (gF ns 2) 2)):=xW hc hm 18 ns 2;obtain ⟨Z,ez,hZS,hZ⟩:=B4 hd hw hrw hnm hky hlo 17 hSo hSl (iW (gF ns 1) 1);subst hZS;have eS:T.tup ((Z.map (·.1)).map Tb.t)=aE Z:=by rw [eP];rfl
 have es':(gO P Tx 20).call "_law_schema" [.int (iW (gF ns 0) 0)]=some (aE Z):=by rw [<- eS];exact es
 have ez':(gO P Tx 20).call "_law_loose" [aE Z,.int (iW (gF ns 1) 1)]=some (stT Z):=by rw [<- eS];exact ez
 have H:Sto Z:=by exact D5 (by simpa using hSl) (by rw [List.map_map] at hSn;exact hSn) hSo hSf hZ
 have hwr:∀ z∈Z,∃ ps,RowOk z.1 ps/\(gO P Tx 20).call "_law_row" [z.1.t,.int (iW (gF ns 2) 2)]=some (aI ps):=fun z hz=>by obtain ⟨ps,e,h⟩:=GV hd hw hrw 18 (H.ok z hz).1 (iW (gF ns 2) 2);exact ⟨ps,h,e⟩
 have C:Cal (gO P Tx 20) Z:=⟨fun z hz qs hq=>yM hnm hky 18 (H.ok z hz).1 hq,
  fun z hz qs hq qa g w hr=>D3 hnm hwo 18 (H.ok z hz).1 ((H.ok z hz).2.2 qs hq) (H.fit z hz _ hr).1 ((H.ok z hz).1.rs _ hr).2.1,
  fun g hg qa w ps=>E9 hnm hky htb hrs hgo 17 H hg qa w ps,
  fun z hz g hg qa w j hj=>E2 p hmt 16 H hz hg (H.fit z hz _ (iR hj)).1 ((H.ok z hz).1.rs _ (iR hj)).2.1 hj,
  fun z hz ps hq=>E6 p hsk hro hrf 16 H hz hq,
  fun z hz k h4 hn=>⟨G0 p hsk hro hrf 16 H hz h4 hn,rf_x p hsk xro xrf 16 H hz h4 hn⟩⟩
 have h0:=J5 H C em0 em1 em2 es' ez' hwr;unfold Ex.runL;rw [if_pos (show [T.lst (ns.map .int)].length=oJ.np from rfl)];exact (aV aZ h0).trans rfl
end
end Ev.K04
section
section
namespace Ev
open PySem Spec PyProof.Rows L2 K04 Ex
abbrev pT:=PySem.Challenge.pw_dealtables_k52_references
noncomputable def topP (p:Program) (i:Nat):Stmt:=p.main.body.getD i (.Pass ⟨0,0,0,0⟩)
abbrev top:=topP pT
def clD:Stmt->Stmt
 | .ClassDef _ _ _ b _ _ _ _ _ _ _=>b.getD 0 (.Pass ⟨0,0,0,0⟩)
 | s=>s
noncomputable def tab:Tab:=("table_of",tQ,top 12,["schema", "name"])::("worths_of",kG,top 13,["table", "row", "names"])::("key_of",pW,top 15,["table", "row"])::("rows_of",tR,top 16,["schema", "store", "name"])::("rows_by_key",pX,top 17,["schema", "store", "name"])::("row_of",lN,top 18,["schema", "store", "name", "key"])::("is_same_key",jA,top 19,["key", "thing"])::("key_referred_to",oI,top 20,["table", "rule", "row"])::("references_by",yV,top 21,["table", "rule", "rows"])::("matched",tZ,top 23,["schema", "store", "name", "number"])::("referring",pY,top 24,["schema", "store", "name", "key"])::("_law_cell_at",oA,top 26,["_law_script", "_law_k"])::("_law_mixed",sZ,top 27,["_law_script", "_law_k"])::("_law_drawn",hU,top 28,["_law_number", "_law_k"])::("_law_names",lJ,top 29,["_law_table_here"])::("_law_table",tD,top 30,["_law_schema_here", "_law_name"])::("_law_key",mQ,top 31,["_law_table_here", "_law_row_here"])::("_law_worths",pP,top 32,["_law_table_here", "_law_row_here", "_law_columns"])::("_law_rows",tE,top 33,["_law_schema_here", "_law_store", "_law_name"])::("_law_test",iP,top 34,["_law_table_here", "_law_number", "_law_deep"])::("_law_bare",kH,top 35,["_law_name", "_law_number"])::("_law_pairs",lK,top 36,["_law_table_here", "_law_kinds"])::("_law_rule",jO,top 37,["_law_bare_here", "_law_table_here", "_law_number"])::("_law_schema",tG,top 38,["_law_number"])::("_law_worth",hW,top 39,["_law_column", "_law_number"])::("_law_row",tH,top 40,["_law_table_here", "_law_number"])::("_law_loose",yK,top 41,["_law_schema_here", "_law_number"])::("_law_goal",uA,top 43,["_law_schema_here", "_law_store", "_law_rule_here", "_law_worths_here"])::[]
noncomputable def tax:Tax:=("row_of",oK,top 18,["schema", "store", "name", "key"])::("referring",uB,top 24,["schema", "store", "name", "key"])::[]
abbrev sL:=top 44
abbrev sT:=top 42
abbrev sI:=clD (top 1)
theorem IJ:(tab.all fun p=>xK p.2.1 p.2.2.1 p.2.2.2&&!glB (aK p.2.2.1) cE)=true:=by kernel_rfl
theorem J7:(tab.map fun p=>gP 60 ⟨aK p.2.2.1,bU (aK p.2.2.1)⟩ (cW p.2.2.1))=tab.map fun p=>some p.2.1.body:=by kernel_rfl
theorem tab_st:∀ p∈tab,St p.1 p.2.1 p.2.2.1 p.2.2.2:=fun p hp=>FQ ((Bool.and_eq_true_iff.mp (oml IJ p hp)).1) (List.map_inj_left.mp J7 p hp)
theorem tab_nt:∀ p∈tab,glB (aK p.2.2.1) cE=false:=fun p hp=>by simpa using (Bool.and_eq_true_iff.mp (oml IJ p hp)).2
theorem law_st:St "law" oJ sL [("_law_script":Str)]:=FQ (by kernel_rfl) (by kernel_rfl)
theorem J8:(tax.map fun p=>(cL (trR 60 ⟨aK p.2.2.1,bU (aK p.2.2.1)⟩) (cW p.2.2.1),(bU (aK p.2.2.1)).length,p.2.2.2.length,clsN.all fun x=>!glB (aK p.2.2.1) x||x=="NoRow"))=tax.map fun p=>(some p.2.1.body,p.2.1.ns,p.2.1.np,true):=by kernel_rfl
theorem tax_st:∀ p∈tax,StX p.2.1 p.2.2.1 p.2.2.2/\∃ D',(p.1,D',p.2.2.1,p.2.2.2)∈tab:=fun p hp=>by
 have e:=List.map_inj_left.mp J8 p hp;have e4:(clsN.all fun x=>!glB (aK p.2.2.1) x||x=="NoRow")=true:=aV (fun z=>z.2.2.2) e;refine ⟨⟨aV (fun z=>z.2.2.1) e,aV (fun z=>z.2.1) e,aV (fun z=>z.1) e,fun x hx hg=>?_⟩,?_⟩
 .have:=oml e4 x (List.contains_iff_mem.mp hx);rw [hg] at this;simpa using this
 .rcases omc hp with rfl | hp
  .exact ⟨_,(.tail _ (.tail _ (.tail _ (.tail _ (.tail _ (.head _))))))⟩
  .cases omg hp;exact ⟨_,(.tail _ (.tail _ (.tail _ (.tail _ (.tail _ (.tail _ (.tail _ (.tail _ (.tail _ (.tail _ (.head _)))))))))))⟩
theorem J9:cW sT=[.Try [.Assign [.Name "_law_found" ⟨189,8,189,18⟩] (.Tuple [.Constant (.str "told") 0 ⟨189,22,189,28⟩,.Call (.Name "_law_deed" ⟨189,30,189,39⟩) [] [] ⟨189,30,189,41⟩] 0 ⟨189,21,189,42⟩) ⟨189,8,189,42⟩] [.ExceptHandler (some (.Name "DealError" ⟨190,11,190,20⟩)) (some "e") [.Assign [.Name "_law_kinds" ⟨191,8,191,18⟩] (.List [.Call (.Name "isinstance" ⟨191,22,191,32⟩) [.Name "e" ⟨191,33,191,34⟩,.Name "NoText" ⟨191,36,191,42⟩] [] ⟨191,22,191,43⟩,.Call (.Name "isinstance" ⟨191,45,191,55⟩) [.Name "e" ⟨191,56,191,57⟩,.Name "NoRow" ⟨191,59,191,64⟩] [] ⟨191,45,191,65⟩,.Call (.Name "isinstance" ⟨191,67,191,77⟩) [.Name "e" ⟨191,78,191,79⟩,.Name "Twice" ⟨191,81,191,86⟩] [] ⟨191,67,191,87⟩,.Call (.Name "isinstance" ⟨191,89,191,99⟩) [.Name "e" ⟨191,100,191,101⟩,.Name "BadCheck" ⟨191,103,191,111⟩] [] ⟨191,89,191,112⟩] ⟨191,21,191,113⟩) ⟨191,8,191,113⟩,.Assign [.Name "_law_kinds" ⟨192,8,192,18⟩] (.BinOp (.Name "_law_kinds" ⟨192,21,192,31⟩) .Add (.List [.Call (.Name "isinstance" ⟨192,35,192,45⟩) [.Name "e" ⟨192,46,192,47⟩,.Name "NoRef" ⟨192,49,192,54⟩] [] ⟨192,35,192,55⟩,.Call (.Name "isinstance" ⟨192,57,192,67⟩) [.Name "e" ⟨192,68,192,69⟩,.Name "Held" ⟨192,71,192,75⟩] [] ⟨192,57,192,76⟩,.Call (.Name "isinstance" ⟨192,78,192,88⟩) [.Name "e" ⟨192,89,192,90⟩,.Name "NoMark" ⟨192,92,192,98⟩] [] ⟨192,78,192,99⟩,.Call (.Name "isinstance" ⟨192,101,192,111⟩) [.Name "e" ⟨192,112,192,113⟩,.Name "BadLog" ⟨192,115,192,121⟩] [] ⟨192,101,192,122⟩] ⟨192,34,192,123⟩) ⟨192,21,192,123⟩) ⟨192,8,192,123⟩,.Expr (.Call (.Attribute (.Name "_law_kinds" ⟨193,8,193,18⟩) "append" ⟨193,8,193,25⟩) [.Call (.Name "isinstance" ⟨193,26,193,36⟩) [.Name "e" ⟨193,37,193,38⟩,.Name "Clash" ⟨193,40,193,45⟩] [] ⟨193,26,193,46⟩] [] ⟨193,8,193,47⟩) ⟨193,8,193,47⟩,.Assign [.Name "_law_found" ⟨194,8,194,18⟩] (.Tuple [.Constant (.str "refused") 0 ⟨194,22,194,31⟩,.UnaryOp .USub (.Constant (.int 1) 0 ⟨194,34,194,35⟩) ⟨194,33,194,35⟩,.Constant (.int 0) 0 ⟨194,37,194,38⟩] 0 ⟨194,21,194,39⟩) ⟨194,8,194,39⟩,.If (.BoolOp .And [.Call (.Name "isinstance" ⟨195,11,195,21⟩) [.Name "e" ⟨195,22,195,23⟩,.Name "ValueError" ⟨195,25,195,35⟩] [] ⟨195,11,195,36⟩,.Compare (.Call (.Attribute (.Name "_law_kinds" ⟨195,41,195,51⟩) "count" ⟨195,41,195,57⟩) [.Constant (.bool true) 0 ⟨195,58,195,62⟩] [] ⟨195,41,195,63⟩) [.Eq] [.Constant (.int 1) 0 ⟨195,67,195,68⟩] ⟨195,41,195,68⟩,.UnaryOp .Not (.Call (.Name "isinstance" ⟨195,78,195,88⟩) [.Attribute (.Name "e" ⟨195,89,195,90⟩) "at" ⟨195,89,195,93⟩,.Name "bool" ⟨195,95,195,99⟩] [] ⟨195,78,195,100⟩) ⟨195,74,195,100⟩] ⟨195,11,195,101⟩) [.Assign [.Name "_law_found" ⟨196,12,196,22⟩] (.Tuple [.Constant (.str "refused") 0 ⟨196,26,196,35⟩,.Call (.Attribute (.Name "_law_kinds" ⟨196,37,196,47⟩) "index" ⟨196,37,196,53⟩) [.Constant (.bool true) 0 ⟨196,54,196,58⟩] [] ⟨196,37,196,59⟩,.Attribute (.Name "e" ⟨196,61,196,62⟩) "at" ⟨196,61,196,65⟩] 0 ⟨196,25,196,66⟩) ⟨196,12,196,66⟩] [] ⟨195,8,196,66⟩] ⟨190,4,196,66⟩] [] [] ⟨188,4,196,66⟩,.Return (some (.Name "_law_found" ⟨197,11,197,21⟩)) ⟨197,4,197,21⟩]:=by kernel_rfl
theorem K0:(bU (aK sT)=toldN)/\((aK sT).kind,(aK sT).isCoroutine,(aK sT).isGenerator,(toldN.all fun x=>(aK sT).names.lookup x==some .local),((("DealError":Str)::toldC)++(["isinstance", "ValueError", "bool"]:List Str)).all (fun x=>(aK sT).names.lookup x==some .globalImplicit),(aK sT).names.all fun y=>!(y.2==.free))=(.function,false,false,true,true,true):=⟨by kernel_rfl,by kernel_rfl⟩
theorem told_st:ToldS sT:=by
 obtain ⟨c0,c⟩:=K0;have e4:(toldN.all fun x=>(aK sT).names.lookup x==some .local)=true:=aV (fun z=>z.2.2.2.1) c;have e5:((("DealError":Str)::toldC)++(["isinstance", "ValueError", "bool"]:List Str)).all (fun x=>(aK sT).names.lookup x==some .globalImplicit)=true:=aV (fun z=>z.2.2.2.2.1) c;have e6:((aK sT).names.all fun y=>!(y.2==.free))=true:=aV (fun z=>z.2.2.2.2.2) c;have lo:∀ x∈toldN,(aK sT).names.lookup x=some .local:=fun x hx=>by simpa using oml e4 x hx
 refine ⟨⟨congrArg (fun z=>z.1) c,congrArg (fun z=>z.2.1) c,congrArg (fun z=>z.2.2.1) c,by decide,rfl,fun y hy=>.inl (lo y (by cases omg hy;decide)),fun y hy=>by simpa using oml e6 y hy⟩,lo,fun x hx=>by simpa using oml e5 x hx,?_⟩;rw [J9];exact XZ (WD rfl rfl rfl)
theorem told_bi (kV doc pm:Value) (an:Option Addr) (cdv ct:Value) (us:List Value) (hl:us.length=1):bindArgs (W.fnOf cE cE (eR sT) (cW sT) (aK sT) .none kV doc pm an cdv ct) ⟨us,[]⟩=pure ((["_law_deed"]:List Str).zip us) :=
 xH (fd:=W.fnOf cE cE (eR sT) (cW sT) (aK sT) .none kV doc pm an cdv ct) (as:=[⟨"_law_deed",none,⟨187,14,187,23⟩⟩]) (show eR sT=_ by kernel_rfl) rfl (by decide) hl
theorem K1:cW sI=[.Expr (.Call (.Attribute (.Name "ValueError" ⟨5,8,5,18⟩) "__init__" ⟨5,8,5,27⟩) [.Name "self" ⟨5,28,5,32⟩,.Name "words" ⟨5,34,5,39⟩] [] ⟨5,8,5,40⟩) ⟨5,8,5,40⟩,.Assign [.Attribute (.Name "self" ⟨6,8,6,12⟩) "at" ⟨6,8,6,15⟩] (.Name "at" ⟨6,18,6,20⟩) ⟨6,8,6,20⟩]/\eR sI=⟨[],[⟨"self",none,⟨4,17,4,21⟩⟩,⟨"words",none,⟨4,23,4,28⟩⟩,⟨"at",none,⟨4,33,4,35⟩⟩],none,[],[],none,[.Constant (.str "") 0 ⟨4,29,4,31⟩,.Constant (.int 0) 0 ⟨4,36,4,37⟩]⟩:=⟨by kernel_rfl,by kernel_rfl⟩
theorem uF:((aK sI).kind,(aK sI).isCoroutine,(aK sI).isGenerator,(aK sI).names)=(.function,false,false,[(("self":Str),.local),(("words":Str),.local),(("at":Str),.local),(("ValueError":Str),.globalImplicit)]):=by kernel_rfl
theorem ini_st:IniS sI:=by
 obtain ⟨b1,b2⟩:=K1;have e1:(aK sI).names=_:=aV (fun z=>z.2.2.2) uF;have S:FnScope ["self", "words", "at"] ["self", "words", "at"] (aK sI):=⟨aV (fun z=>z.1) uF,aV (fun z=>z.2.1) uF,aV (fun z=>z.2.2.1) uF,by decide,rfl,by rw [e1];decide,by rw [e1];decide⟩;have v:∀ {x:Str} {k:NameKind},List.lookup x [(("self":Str),NameKind.local),(("words":Str),NameKind.local),(("at":Str),NameKind.local),(("ValueError":Str),NameKind.globalImplicit)]=some k->(aK sI).names.lookup x=some k:=fun h=>by rw [e1];exact h
 refine ⟨fun P w K mg base f dV kV doc pm cdv ct oc an od osl nv hc lk=>?_,fun a kV doc pm an cdv ct u1 u2 t1 t2=>?_⟩
 .rw [b1] at lk ⊢;exact MR lk hc S (v (by decide)) (v (by decide)) (v (by decide)) (v (by decide)) nv fun _=>⟨_,rfl⟩
 .rw [b2];exact ⟨_,rfl,rfl⟩
theorem law_pure:∀ ns:List Int,ns.length<=63->runL tab.pr tax.fn oJ 20 [.lst (ns.map .int)]=some (.bl true):=fun ns _=>K04.J6 rfl rfl rfl rfl rfl rfl rfl rfl rfl rfl rfl rfl rfl rfl rfl rfl rfl ⟨rfl,rfl,rfl,rfl,rfl,rfl,rfl⟩ rfl rfl rfl rfl rfl rfl ns
end Ev
end
section
namespace Ev
open PySem PySem.Spec PySem.W PyProof.Rows L2 Ex
noncomputable def qPp (p:Program):Program:=PySem.W.view p [1,2,3,4,5,6,7,8,9,10,12,13,15,16,17,18,19,20,21,23,24,26,27,28,29,30,31,32,33,34,35,36,37,38,39,40,41,42,43,44]
abbrev qT:=qPp pT
noncomputable def lsT:List Str:=[("DealError":Str),("Clash":Str)]
noncomputable def x1P (p:Program) (s:Shared):Bool:=xlAt (qPp p) [] s&&recOk [] s
abbrev xT:=x1P pT
noncomputable def stP (p:Program):List (Str × Stmt):=([("table_of",12),("worths_of",13),("key_of",15),("rows_of",16),("rows_by_key",17),("row_of",18),("is_same_key",19),("key_referred_to",20),("references_by",21),("matched",23),("referring",24),("_law_cell_at",26),("_law_mixed",27),("_law_drawn",28),("_law_names",29),("_law_table",30),("_law_key",31),("_law_worths",32),("_law_rows",33),("_law_test",34),("_law_bare",35),("_law_pairs",36),("_law_rule",37),("_law_schema",38),("_law_worth",39),("_law_row",40),("_law_loose",41),("_law_goal",43),("law",44),(cE,42)]:List (Str × Nat)).map fun x=>(x.1,topP p x.2)
abbrev sts:=stP pT
noncomputable def hkT:Hook:=FY sts sI
noncomputable def hdL (p:Program) (w:World):=(openEnds treeTable p w 6270).map fun s=>(openSeen (qPp p) lsT (importedModules p.main.body) (x1P p) true s,xQ ((stP p).map (·.1)) bnX s.heap)
noncomputable def hdR (p:Program) (w:World):=some (openGood (qPp p) lsT,some (lI (stP p) bnX,true,true,mP (clD (topP p 1))))
lay_quick Ev.hdL Ev.hdR
theorem K3:∀ w,PySem.W.Fast.tw16613198539260469538 pT w=PySem.W.Fast.tw4742246816059606431 pT w:=fun w=>by kernel_rfl
theorem hd_left':LeftO PySem.Challenge.pw_dealtables_k52_references qT lsT xT hkT.obs hkT.val 6270:=by exact fun w=>((congrFun (congrFun PySem.W.Fast.te16613198539260469538 pT) w).trans (K3 w)).trans (congrFun (congrFun PySem.W.Fast.te4742246816059606431 pT) w).symm
theorem nm_law:("law":Str)=⟨#[108,97,119]⟩:=by decide +kernel
noncomputable def dL:DefRec:=⟨⟨#[108,97,119]⟩,eR (top 44),cW (top 44),aK (top 44),(match top 44 with | .FunctionDef _ _ _ _ _ _ _ _ _ p=>p | _=>⟨0,0,0,0⟩)⟩
theorem hd_def:defOf qT ("law":Str)=some (dL,[]):=by rw [nm_law];kernel_rfl
theorem hd_the:Program.theDef PySem.Challenge.pw_dealtables_k52_references ("law":Str)=some (dL.params,dL.body,dL.scope):=by rw [nm_law];kernel_rfl
end Ev
open PySem PySem.W PyProof.Rows
set_option maxRecDepth 100000 in
set_option maxHeartbeats 0 in
theorem PySem.Challenge.cw_dealtables_k52_references_holds : PySem.Challenge.rw_dealtables_k52_references.Holds := by
 w_on;refine PySem.W.holds_law (by kernel_rfl) fun said=>?_
 refine PySem.W.holds_open (q:=Ev.qT) (loose:=Ev.lsT) (Xt:=Ev.xT) (XP:=XL Ev.qT []) (Yf:=Ev.hkT.obs) (Ya:=Ev.hkT.val) (YP:=Ev.hkT.says) (N:=6270) Ev.hd_left' Ev.hkT.of Ev.hkT.keeps (fun s e=>xl_of s (Bool.and_eq_true_iff.mp e).1) XL.keeps Ev.hd_def Ev.hd_the rfl (fun s e=>recFacts_of (Bool.and_eq_true_iff.mp e).2) rfl (by assumption) (by decide +kernel) ⟨rfl,rfl,rfl,rfl,rfl,by decide +kernel⟩ ?hw ?hc
 case hw=>w_witness2
 case hc=>exact Ev.walk_seeX (l:=PySem.Challenge.rw_dealtables_k52_references) (n:=63) (k:=20) (x:="_law_script") (tab:=Ev.tab) (tax:=Ev.tax) rfl (by decide) rfl ⟨rfl,by decide,by decide⟩ Ev.nm_law.symm Ev.tab_st Ev.tab_nt Ev.tax_st Ev.told_st Ev.told_bi Ev.ini_st Ev.law_st Ev.law_pure
end
end
