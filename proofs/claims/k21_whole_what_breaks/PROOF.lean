import PyProof.Rows.All
import Wide.All
import OpenK.AllK
import Wide.FinOn
import Lean
import PyProof.EqAt
import PyProof.EqKinds
import PyProof.TupleCall
import PySem.Syntax
import PySem.Builtin.Str.Common
import PySem.Eval
import PyProof.CompFree
import PyProof.Cells
import PyProof.NeKinds
import PyProof.FString5
import PyProof.Draws
import PyProof.EnumMake
import PyProof.TupleIter
import PyProof.EnumFor
import PyProof.ZipIter
import KE.KItemsList
import KE.KSortTup
import KE.KDictSum
import PyProof.Rows.SetFrom
import PyProof.Rows.SetListFold
import PyProof.IsiH_list
import PyProof.AttrMiss
import KE.KDictOf
import PyProof.DictValues
import PySem.Challenge.RW_dealtables_k21_whole_what_breaks
set_option Elab.async false
set_option linter.all false
set_option maxRecDepth 100000
set_option maxHeartbeats 8000000
set_option genSizeOf false
set_option bootstrap.genMatcherCode false
noncomputable section
open PySem Spec PyProof.Rows
abbrev Pq:=List (Addr × Obj)
abbrev Vq:=Value->Shared->Prop
def cO:=@List.mem_map
def oX:=@List.mem_cons
def cV:=@eq_of_beq
def lH:=@List.size_toArray
def iC:=@List.getElem?_set_self
def gH:=@List.getElem_mem
def gI:=@List.flatMap_cons
def cK:=@List.nodup_cons
def iZ:=@List.map_congr_left
def jN:=@beq_self_eq_true
def iM:=@List.filter_cons
def iD:=@List.length_set
def nS:=@Array.getElem?_eq_getElem
def kF:=@Heap.SameBut.update
def eM:=@wpAny_field
def eT:=@sizeLine_eq
def oY:=@List.mem_of_mem_take
def gJ:=@List.any_cons
def nU:=@wpAny_pyIter_tuple
def iN:=@List.mem_filter
def mK:=@Int.emod_lt_of_pos
def lI:=@List.all_eq_true
def fR:=@wpAny_holding
def sY:=@beq_eq_false_iff_ne
def oZ:=@List.getElem?_append_right
def pA:=@List.getElem?_append_left
def sZ:=@List.sum_cons
def mL:=@Int.emod_nonneg
def mM:=@wpAny_dictEntries
def nV:=@Heap.get?_update_ne
def qH:=@wpAny_typeNameOfWhole_valiter
def qI:=@wpAny_typeNameOfWhole_keyiter
def jA:=@wpAny_seqItems
def lJ:=@wpAny_fieldsOf
def gK:=@List.nodup_nil
def jB:=@List.pairwise_cons
def mN:=@wpAny_setField_rec
def nW:=@Obj.data_mapFields
def kG:=@List.mem_filterMap
def nX:=@List.length_filter_le
def nY:=@List.getElem?_eq_none
def fA:=@Option.bind_eq_some_iff
def qJ:=@List.mem_append
def nZ:=@List.mem_singleton
def jC:=@List.mem_flatMap
def mO:=@beq_iff_eq
def aA:=@wpAny_bind
def bQ:=@Option.bind_some
def aS:=@List.map_cons
def aU:=@Heap.get?_push_of_some
def aI:=@wpAny_pure
def bW:=@List.getElem?_eq_getElem
def bA:=@List.length_map
def bU:=@Bool.and_eq_true
def cR:=@List.size_toArray
def aV:=@Nat.le_refl
def eN:=@List.getD_eq_getElem?_getD
def aX:=@Heap.lt_size
def cL:=@List.mem_cons_of_mem
def cW:=@List.mem_cons_self
def cX:=@Heap.get?_push_size
def dW:=@List.length_append
def dI:=@Bool.false_ne_true
def bX:=@decide_eq_true
def aW:=@congrArg
def dE:=@Option.some.inj
def eO:=@List.append_nil
def cG:=@Nat.le_trans
def dJ:=@decide_eq_false
def cH:=@List.map_map
def eJ:=@Nat.lt_of_lt_of_le
def fS:=@List.length_cons
def fL:=@List.getElem?_map
def eP:=@List.map_append
def cY:=@Nat.ne_of_lt
def gM:=@Array.length_toList
def fT:=@List.mem_of_getElem?
def fY:=@List.mem_append_right
def fZ:=@List.getElem?_set_ne
def jD:=@List.filterMap_cons
def fF:=@wpAny_call_entry
def iO:=@wpAny_callSpecial?_slot
def pB:=@Bool.false_eq_true
def eK:=@Nat.zero_le
def iP:=@wpAny_newObj_type
def iE:=@List.lookup_cons
def qK:=@List.getElem?_append_left
def iF:=@of_decide_eq_true
def gA:=@Heap.size_push
def gB:=@Nat.lt_irrefl
def xZ:=@Int.toNat_natCast
def yA:=@List.getElem?_append_right
def kH:=@List.append_assoc
def qL:=@decide_eq_true_eq
def mP:=@Nat.succ_le_succ
def tB:=@List.length_take
def pC:=@Array.getElem?_toList
def lL:=@wpAny_attempt
def jO:=@wpAny_mono
theorem bE {α:Type _} {a:α} {l:List α}:(a::l)[0]?=some a:=rfl
theorem bJ {α:Type _} {a:α} {l:List α} {i:Nat}:(a::l)[i+1]?=l[i]?:=rfl
theorem aT {α β:Type _} {a:α} {f:α->Option β}:(some a).bind f=f a:=rfl
theorem bF {α:Type _} {a:Option α}:(some a).join=a:=rfl
theorem bG {α β:Type _} {a:α} {l:List α} {f:α->β}:(a::l).map f=f a::l.map f:=rfl
theorem bH {α β:Type _} {f:α->β}:[].map f=[]:=rfl
theorem fB {α β:Type _} {a:α} {f:α->β}:(some a).map f=some (f a):=rfl
theorem jP {α:Type _} {a b:α} {l:List α} {n:Nat}:(a::l).set (n+1) b=a::l.set n b:=rfl
theorem jQ {α:Type _} {a b:α} {l:List α}:(a::l).set 0 b=b::l:=rfl
end
theorem obs {α β:Type} {o:Option α} {f:α->Option β} {b:β}:o.bind f=some b->∃ a,o=some a/\f a=some b:=fA.mp
theorem oms {α β:Type} {o:Option α} {f:α->β} {b:β}:o.map f=some b->∃ a,o=some a/\f a=b:=Option.map_eq_some_iff.mp
theorem omc {α:Type} {a b:α} {l:List α}:a∈b::l->a=b\/a∈l:=oX.mp
theorem oma {α:Type} {a:α} {s t:List α}:a∈s++t->a∈s\/a∈t:=qJ.mp
theorem omm {α β:Type} {f:α->β} {l:List α} {b:β}:b∈l.map f->∃ a,a∈l/\f a=b:=cO.mp
theorem omg {α:Type} {a b:α}:a∈[b]->a=b:=nZ.mp
theorem oml {α:Type} {p:α->Bool} {l:List α}:l.all p=true->∀ x,x∈l->p x=true:=lI.mp
theorem ome {α:Type} {l:List α} {i:Nat} {a:α}:l[i]?=some a->∃ h:i<l.length,l[i]=a:=List.getElem?_eq_some_iff.mp
section
namespace L2
open PySem Spec PyProof.Rows
section
abbrev Key:=Sum Int (Option Str)
def eE:Value->Bool
 | .none=>true
 | _=>false
theorem HG {v:Value} (h:eE v=true):v=Value.none:=by cases v<;>first | rfl | cases h
def oA:Key->Value->Bool
 | .inl k,v=>Value.isInt k v
 | .inr (some x),v=>Value.isStrOf x v
 | .inr none,v=>eE v
def keyH (w:World):Key->Int
 | .inl k=>hashInt k
 | .inr (some x)=>hashStr w x
 | .inr none=>4238894112
theorem kI:∀ {k:Key} {v:Value},oA k v=true->(∃ i t,k=Sum.inl i/\v=Value.int i t)\/(∃ x t,k=Sum.inr (some x)/\v=Value.str x t)\/(k=Sum.inr none/\v=Value.none)
 | .inl i,v,h=>by obtain ⟨t,e⟩:=Value.isInt_shape (k:=i) (v:=v) h;exact .inl ⟨i,t,rfl,e⟩
 | .inr (some x),v,h=>by obtain ⟨t,e⟩:=Value.isStrOf_shape (x:=x) (v:=v) h;exact .inr (.inl ⟨x,t,rfl,e⟩)
 | .inr none,v,h=>.inr (.inr ⟨rfl,HG h⟩)
theorem HH (i:Int) (t:Tok):oA (.inl i) (.int i t)=true:=by simp [oA,Value.isInt]
theorem HI (x:Str) (t:Tok):oA (.inr (some x)) (.str x t)=true:=by simp [oA,Value.isStrOf]
theorem HJ (a b:Int):decide ((Sum.inl a:Key)=Sum.inl b)=(a==b):=by
 by_cases e:a=b
 .subst e;simp
 .have h:¬ (Sum.inl a:Key)=Sum.inl b:=fun q=>e (Sum.inl.inj q);rw [dJ h];exact (sY.mpr e).symm
theorem HK (a b:Str):decide ((Sum.inr (some a):Key)=Sum.inr (some b))=decide (a=b):=by
 by_cases e:a=b
 .subst e;simp
 .have h:¬ (Sum.inr (some a):Key)=Sum.inr (some b):=fun q=>e (dE (Sum.inr.inj q));rw [dJ h,dJ e]
theorem yB (a:Int) (b:Option Str):decide ((Sum.inl a:Key)=Sum.inr b)=false:=dJ (fun q=>nomatch q)
theorem yC (a:Option Str) (b:Int):decide ((Sum.inr a:Key)=Sum.inl b)=false:=dJ (fun q=>nomatch q)
theorem HL (a:Str):decide ((Sum.inr (some a):Key)=Sum.inr none)=false:=dJ (fun q=>nomatch (Sum.inr.inj q))
theorem HM (a:Str):decide ((Sum.inr none:Key)=Sum.inr (some a))=false:=dJ (fun q=>nomatch (Sum.inr.inj q))
theorem HN:decide ((Sum.inr none:Key)=Sum.inr none)=true:=bX rfl
theorem HP {prog:Program} {w:World} {A:Around} {E:Vq} {s:Shared} {Q:Int->Shared->Prop} (h:Q 4238894112 { s with toks:=s.toks+1 }):wpAny (model prog w) A (PySem.pyHash .none) Q E s :=
 PySem.W.pyHash_slot (T:="NoneType") rfl PySem.F.slot_NoneType_hash PySem.F.entry_NoneType_hash (PySem.F.args_NoneType_hash_1 _) (beq_builtin_none _) (.inl rfl) (aA (aI (aA (wpAny_mkInt (aI ⟨_,_,rfl,h⟩)))))
def eQ (prog:Program) (w:World):PySem.KeyKind prog w Key where
 is:=oA
 hash:=keyH w
 inj:=fun v a b ha hb=>by rcases kI ha with ⟨i,t,rfl,rfl⟩ | ⟨x,t,rfl,rfl⟩ | ⟨rfl,rfl⟩<;>rcases kI hb with ⟨j,u,rfl,e⟩ | ⟨y,u,rfl,e⟩ | ⟨rfl,e⟩<;>first | (cases e;rfl) | cases e
 byValue:=fun k v h=>by rcases kI h with ⟨i,t,rfl,rfl⟩ | ⟨x,t,rfl,rfl⟩ | ⟨rfl,rfl⟩<;>rfl
 pyHash:=fun hv h=>by
  rcases kI hv with ⟨i,t,rfl,rfl⟩ | ⟨x,t,rfl,rfl⟩ | ⟨rfl,rfl⟩
  .exact wpAny_pyHash_int h
  .exact wpAny_pyHash_str h
  .exact HP h
 eqBool:=fun hu hv h=>by
  rcases kI hu with ⟨i,t,rfl,rfl⟩ | ⟨x,t,rfl,rfl⟩ | ⟨rfl,rfl⟩
  .rcases kI hv with ⟨j,u,rfl,rfl⟩ | ⟨y,u,rfl,rfl⟩ | ⟨rfl,rfl⟩
   .rw [HJ] at h;exact wpAny_eqBool_int h
   .rw [yB] at h;exact SeqAt.EqAt.int_str i t y u _ _ _ _ h
   .rw [yB] at h;exact SeqAt.EqAt.int_none i t _ _ _ _ h
  .rcases kI hv with ⟨j,u,rfl,rfl⟩ | ⟨y,u,rfl,rfl⟩ | ⟨rfl,rfl⟩
   .rw [yC] at h;exact SeqAt.EqAt.str_int x t j u _ _ _ _ h
   .rw [HK] at h;exact wpAny_eqBool_str h
   .rw [HL] at h;exact SeqAt.EqAt.str_none x t _ _ _ _ h
  .rcases kI hv with ⟨j,u,rfl,rfl⟩ | ⟨y,u,rfl,rfl⟩ | ⟨rfl,rfl⟩
   .rw [yC] at h;exact SeqAt.EqAt.none_int j u _ _ _ _ h
   .rw [HM] at h;exact SeqAt.EqAt.none_str y u _ _ _ _ h
   .rw [HN] at h;exact SeqAt.EqAt.same .none _ _ _ _ h
 «strs»:=fun k x t v h=>by
  rcases kI h with ⟨i,u,rfl,e⟩ | ⟨y,u,rfl,e⟩ | ⟨rfl,e⟩
  .exact nomatch e
  .injection e with e1 _;subst e1;cases v<;>rfl
  .exact nomatch e
theorem HQ (prog:Program) (w:World) (i:Int) (t:Tok):(eQ prog w).is (.inl i) (.int i t)=true:=HH i t
theorem HR (prog:Program) (w:World) (x:Str) (t:Tok):(eQ prog w).is (.inr (some x)) (.str x t)=true:=HI x t
end
section
variable {b:Addr}
inductive V where
 | non | bl (b:Bool) | int (i:Int) | str (x:Str) | byt (b:Array UInt8) | flt (b:UInt64) | ref (a:Addr) | ty (n:String)
 deriving DecidableEq
def aC:V->Value->Prop
 | .non,u=>u=Value.none
 | .bl b,u=>u=Value.bool b
 | .int i,u=>∃ t,u=Value.int i t
 | .str x,u=>∃ t,u=Value.str x t
 | .byt b,u=>∃ t,u=Value.bytes b t
 | .flt b,u=>∃ t,u=Value.float b t
 | .ref a,u=>u=Value.ref a
 | .ty n,u=>u=Value.type n
abbrev aH:List V->List Value->Prop:=Paired aC
theorem aH.length {xs:List V} {us:List Value} (r:aH xs us):xs.length=us.length:=Paired.length r
theorem aH.get:∀ {xs:List V} {us:List Value} {i:Nat} {x:V},aH xs us->xs[i]?=some x->∃ u,us[i]?=some u/\aC x u
 | _,_,_,_,.nil,e=>by simp at e
 | _,_,0,_,.cons r _,e=>by simp at e;subst e;exact ⟨_,rfl,r⟩
 | _,_,i+1,x,.cons _ t,e=>by obtain ⟨u,h1,h2⟩:=aH.get (i:=i) (x:=x) t (by simpa using e);exact ⟨u,by simpa using h1,h2⟩
theorem aH.append:∀ {xs ys:List V} {us ws:List Value},aH xs us->aH ys ws->aH (xs++ys) (us++ws)
 | _,_,_,_,.nil,s=>s
 | _,_,_,_,.cons r t,s=>.cons r (aH.append t s)
theorem aH.take:∀ {xs:List V} {us:List Value} (n:Nat),aH xs us->aH (xs.take n) (us.take n)
 | _,_,0,_=>.nil
 | _,_,_+1,.nil=>.nil
 | _,_,n+1,.cons r t=>.cons r (aH.take n t)
theorem aH.drop:∀ {xs:List V} {us:List Value} (n:Nat),aH xs us->aH (xs.drop n) (us.drop n)
 | _,_,0,r=>r
 | _,_,_+1,.nil=>.nil
 | _,_,n+1,.cons _ t=>aH.drop n t
def eC:Option V->Option Value->Prop
 | some v,some u=>aC v u
 | none,none=>True
 | _,_=>False
def KV {κ:Type}:List (κ × V)->List (κ × Value)->Prop:=Paired fun (p:κ × V) (q:κ × Value)=>p.1=q.1/\aC p.2 q.2
def kV:Key->V
 | .inl i=>.int i
 | .inr (some x)=>.str x
 | .inr none=>.non
abbrev Kq:=List (List Key × V)
inductive HO where
  | lst (xs:List V)
  | tup (xs:List V)
  | dK (qb:List (Key × V)) | dT (qb:Kq)
  | set (S:Int->Bool) (n:Nat)
  | ins (C dx:Addr) (fs:List (Str × V))
  | own (x:Addr)
  | xd (fs:List (Str × V))
  | met (f x:Addr)
  | rng (lo hi:Int)
  | frz (o:Obj) (u:HO)
  | tbl (ps:Array Value)
  | ext (φ:Heap->Prop)
abbrev Hp:=Addr->Option HO
def aP (H:Hp) (a:Addr) (o:HO):Hp:=fun b=>if b=a then some o else H b
theorem cC {H:Hp} {a:Addr} {o:HO}:aP H a o a=some o:=by unfold aP;rw [if_pos rfl]
theorem aR {H:Hp} {a:Addr} {o:HO} (h:b≠a):aP H a o b=H b:=by unfold aP;rw [if_neg h]
theorem kJ {H:Hp} {a:Addr} {o u:HO} (h:H a=some o) (h':H b=some u) (d:o≠u):a≠b:=by intro e;subst e;rw [h] at h';exact d (dE h')
theorem cS {H:Hp} {a:Addr} {o:HO} (h:H a=some o) (h':H b=none):a≠b:=by intro e;subst e;rw [h] at h';cases h'
section
variable (P:Program) (w:World)
def aN (H:Hp) (h:Heap) (a:Addr):HO->Prop
 | .lst xs=>xs.length<=sizeLine/\∃ (qc:List Value) (n:Nat),aH xs qc/\h.get? a=some { cls:=.type "list",data:=.seq qc.toArray n }
 | .tup xs=>xs.length<=sizeLine/\∃ qc:List Value,aH xs qc/\IsTup h a qc.toArray
 | .dK qb=>qb.length<=sizeLine/\(a==sysModules)=false/\∃ vs,KV qb vs/\h.DictOf (eQ P w) a vs
 | .dT qb=>qb.length<=sizeLine/\(a==sysModules)=false/\∃ xs:List (List Key × Addr × Value),
   Paired (fun (p:List Key × V) (q:List Key × Addr × Value)=>p.1=q.1/\H q.2.1=some (.tup (p.1.map kV))/\aC p.2 q.2.2) qb xs /\
   ∃ o es ep,h.get? a=some o/\o.ExactDict/\o.data=.dict es ep/\es.toList=xs.map (entryOfKey (tupleKind (eQ P w)))/\(xs.map (·.1)).Nodup
 | .set S n=>h.SetOf (intKind P w) a S n
 | .ins C dx fs=>H dx=some (.own a)/\fs.length<=1000/\dx≠a/\h.get? a=some (W.instObj C dx) /\
   ∃ mA,h.Ns1 dx mA/\(∀ f,eC (fs.lookup f) (mA f))/\PySem.Within mA (fs.map (·.1))
 | .own _=>∃ o,h.get? a=some o
 | .xd fs=>∃ mA,h.Ns1 a mA/\∀ f,eC (fs.lookup f) (mA f)
 | .rng lo hi=>∃ t u v,h.get? a=some { cls:=.type "range",data:=.fields #[.int lo t,.int hi u,.int 1 v] }
 | .frz o u=>h.get? a=some o/\aN H h a u
 | .tbl ps=>h.get? a=some { cls:=.none,data:=.fields ps }
 | .met f x=>h.get? a=some (W.methodObj (.ref f) (.ref x))
 | .ext φ=>φ h/\(∃ o,h.get? a=some o)/\∀ h1 h2:Heap,φ h1->(∀ o,h1.get? a=some o->h2.get? a=some o)->φ h2
def HOk (H:Hp) (h:Heap):Prop:=∀ a o,H a=some o->aN P w H h a o
end
section
variable {P:Program} {w:World} {H H':Hp} {h h':Heap} {a:Addr} {o:HO}
theorem aN.lt (x:aN P w H h a o):a<h.objs.size:=by
 cases o with
 | lst xs=>obtain ⟨_,_,_,_,e⟩:=x;exact aX e
 | tup xs=>obtain ⟨_,_,_,p⟩:=x;exact p.lt
 | dK qb=>obtain ⟨_,_,_,_,o,_,_,e,_⟩:=x;exact aX e
 | dT qb=>obtain ⟨_,_,_,_,o,_,_,e,_⟩:=x;exact aX e
 | set S n=>obtain ⟨o,_,_,_,e,_⟩:=x;exact aX e
 | ins C dx fs=>obtain ⟨_,_,_,e,_⟩:=x;exact aX e
 | own y=>obtain ⟨_,e⟩:=x;exact aX e
 | xd fs=>obtain ⟨_,⟨_,_,_,e,_⟩,_⟩:=x;exact aX e
 | rng lo hi=>obtain ⟨_,_,_,e⟩:=x;exact aX e
 | frz ob u=>obtain ⟨e,_⟩:=x;exact aX e
 | tbl ps=>exact aX (show h.get? a=some _ from x)
 | met f y=>exact aX (show h.get? a=some _ from x)
 | ext φ=>obtain ⟨_,⟨_,e⟩,_⟩:=x;exact aX e
theorem Paired.mapP {α β:Type} {F G:α->β->Prop}:∀ {l₁:List α} {l₂:List β},Paired F l₁ l₂->(∀ a b,F a b->G a b)->Paired G l₁ l₂
 | _,_,.nil,_=>.nil
 | _,_,.cons r t,f=>.cons (f _ _ r) (Paired.mapP t f)
theorem aN.stay (x:aN P w H h a o) (k:∀ b u,(b=a\/H b=some (.own a))->h.get? b=some u->h'.get? b=some u)
  (ho:∀ b,H b=some (.own a)->H' b=some (.own a)) (ht:∀ b xs,H b=some (.tup xs)->H' b=some (.tup xs)):aN P w H' h' a o:=by
 induction o with
 | lst xs=>obtain ⟨z,qc,n,r,e⟩:=x;exact ⟨z,qc,n,r,k _ _ (.inl rfl) e⟩
 | tup xs=>obtain ⟨z,qc,r,ob,e,c⟩:=x;exact ⟨z,qc,r,ob,k _ _ (.inl rfl) e,c⟩
 | dK qb=>obtain ⟨z,y,vs,r,ob,es,ep,e,c⟩:=x;exact ⟨z,y,vs,r,ob,es,ep,k _ _ (.inl rfl) e,c⟩
 | dT qb =>obtain ⟨z,y,xs,r,ob,es,ep,e,c⟩:=x;exact ⟨z,y,xs,Paired.mapP r fun p q z=>⟨z.1,ht _ _ z.2.1,z.2.2⟩,ob,es,ep,k _ _ (.inl rfl) e,c⟩
 | set S n=>obtain ⟨ob,es,ep,t,e,c⟩:=x;exact ⟨ob,es,ep,t,k _ _ (.inl rfl) e,c⟩
 | ins C dx fs =>obtain ⟨d,z,ne,e,mA,⟨od,es,ep,e2,c⟩,r⟩:=x;exact ⟨ho _ d,z,ne,k _ _ (.inl rfl) e,mA,⟨od,es,ep,k _ _ (.inr d) e2,c⟩,r⟩
 | own y=>obtain ⟨ob,e⟩:=x;exact ⟨ob,k _ _ (.inl rfl) e⟩
 | xd fs=>obtain ⟨mA,⟨od,es,ep,e,c⟩,r⟩:=x;exact ⟨mA,⟨od,es,ep,k _ _ (.inl rfl) e,c⟩,r⟩
 | rng lo hi=>obtain ⟨t,u,v,e⟩:=x;exact ⟨t,u,v,k _ _ (.inl rfl) e⟩
 | frz ob u ih=>obtain ⟨e,q⟩:=x;exact ⟨k _ _ (.inl rfl) e,ih q⟩
 | tbl ps =>have e:h.get? a=some { cls:=.none,data:=.fields ps }:=x;show h'.get? a=some { cls:=.none,data:=.fields ps };exact k a _ (.inl rfl) e
 | met f y =>have e:h.get? a=some (W.methodObj (.ref f) (.ref y)):=x;show h'.get? a=some (W.methodObj (.ref f) (.ref y));exact k a _ (.inl rfl) e
 | ext φ=>obtain ⟨p,⟨o,e⟩,st⟩:=x;exact ⟨st _ _ p fun o q=>k _ _ (.inl rfl) q,⟨o,k _ _ (.inl rfl) e⟩,st⟩
theorem HOk.lt (x:HOk P w H h) (e:H a=some o):a<h.objs.size:=(x a o e).lt
theorem HOk.fresh (x:HOk P w H h) (e:h.objs.size<=a):H a=none:=by
 cases q:H a with
 | none=>rfl
 | some u=>exact absurd (eJ (x.lt q) e) (gB _)
theorem HOk.kept (x:HOk P w H h) (k:∀ b u,h.get? b=some u->h'.get? b=some u):HOk P w H h':=fun a o e =>(x a o e).stay (fun b u _ q=>k b u q) (fun _ q=>q) fun _ _ q=>q
theorem HOk.laid (x:HOk P w H h) (k:∀ b u,h.get? b=some u->h'.get? b=some u) (hp:h.objs.size<=a) (new:aN P w (aP H a o) h' a o):HOk P w (aP H a o) h':=fun b u e=>by
 have hn:=x.fresh hp;by_cases hb:b=a
 .subst hb;rw [cC] at e;cases e;exact new
 .rw [aR hb] at e;exact (x b u e).stay (fun c v _ q=>k c v q) (fun c q=>by rw [aR (cS q hn)];exact q) fun c xs q=>by rw [aR (cS q hn)];exact q
end
def Rd (H:Hp) (a:Addr) (u:HO):Prop:=H a=some u\/∃ o,H a=some (.frz o u)
theorem Rd.ok {P:Program} {w:World} {H:Hp} {h:Heap} {a:Addr} {u:HO} (r:Rd H a u) (x:HOk P w H h):aN P w H h a u:=by
 rcases r with r | ⟨o,r⟩
 .exact x a u r
 .obtain ⟨_,q⟩:=x a _ r;exact q
def Mut:Option HO->Prop
 | some (.lst _)=>True
 | some (.dK _)=>True
 | some (.dT _)=>True
 | some (.set _ _)=>True
 | some (.ins _ _ _)=>True
 | some (.ext _)=>True
 | _=>False
section
variable {P:Program} {w:World} {H:Hp} {h h':Heap} {x e:Addr} {o':HO}
theorem HOk.write (ok:HOk P w H h) (mu:Mut (H x)) (he:e=x\/H e=some (.own x)) (k:∀ b u,b≠e->h.get? b=some u->h'.get? b=some u) (heo:∃ u,h'.get? e=some u)
  (new:aN P w (aP H x o') h' x o'):HOk P w (aP H x o') h':=fun b u q=>by
 have nown:∀ c y,H c=some (.own y)->c≠x:=fun c y r z=>by subst z;rw [r] at mu;exact mu
 have ntup:∀ c xs,H c=some (.tup xs)->c≠x:=fun c xs r z=>by subst z;rw [r] at mu;exact mu
 by_cases hb:b=x
 .subst hb;rw [cC] at q;cases q;exact new
 .rw [aR hb] at q;by_cases hbe:b=e
  .have q':H b=some (.own x):=by
    rcases he with z | z
    .exact absurd (hbe.trans z) hb
    .rw [hbe];exact z
   rw [q] at q';cases q';obtain ⟨v,hv⟩:=heo;exact ⟨v,by rw [hbe];exact hv⟩
  .refine (ok b u q).stay (fun c v hc r=>k c v ?_ r) (fun c r=>by rw [aR (nown c b r)];exact r) fun c xs r=>by rw [aR (ntup c xs r)];exact r
   rcases hc with rfl | hc
   .exact hbe
   .rintro rfl;rcases he with z | z
    .exact nown c b hc z
    .rw [hc] at z;cases z;exact hb rfl
end
structure Un (fs ex:List Addr) (H H':Hp) (h h':Heap):Prop where
 keep:∀ b o,h.get? b=some o->H b=none->b∉fs->b∉ex->h'.get? b=some o
 slot:∀ b o,h.get? b=some o->H b=none->b∈fs->b∉ex->∃ sl,h'.get? b=some { o with slots:=sl }
 free:∀ b o,h.get? b=some o->H b=none->b∉ex->H' b=none
 there:∀ b o,h.get? b=some o->b∉ex->∃ o',h'.get? b=some o'
 tups:∀ b xs,H b=some (.tup xs)->H' b=some (.tup xs)
 frzs:∀ b o u,H b=some (.frz o u)->H' b=some (.frz o u)
 tbls:∀ b ps,H b=some (.tbl ps)->∃ gN,H' b=some (.tbl (ps++gN))
section
variable {fs fs' ex ex':List Addr} {H H1 H2:Hp} {h h1 h2 h':Heap} {a x e:Addr} {o:HO}
theorem Un.any (u:Un fs ex H H1 h h1) {ob:Obj} (q:h.get? b=some ob) (n:H b=none) (hx:b∉ex):∃ sl,h1.get? b=some { ob with slots:=sl }:=by
 by_cases hb:b∈fs
 .exact u.slot b ob q n hb hx
 .exact ⟨ob.slots,u.keep b ob q n hb hx⟩
theorem Un.kept (k:∀ b u,h.get? b=some u->h'.get? b=some u):Un fs ex H H h h' :=
 ⟨fun b ob q _ _ _=>k b ob q,fun b ob q _ _ _=>⟨ob.slots,k b ob q⟩,fun _ _ _ n _=>n,fun b ob q _=>⟨ob,k b ob q⟩,fun _ _ q=>q,fun _ _ _ q=>q,fun _ ps q=>⟨#[],by rw [q];simp⟩⟩
theorem Un.refl:Un fs ex H H h h:=Un.kept fun _ _ q=>q
theorem Un.laid (k:∀ b u,h.get? b=some u->h'.get? b=some u) (hp:h.objs.size<=a) (hn:H a=none):Un fs ex H (aP H a o) h h' where
 keep:=fun b u q _ _ _=>k b u q
 slot:=fun b u q _ _ _=>⟨u.slots,k b u q⟩
 free:=fun b u q n _=>by rw [aR (cY (eJ (aX q) hp))];exact n
 there:=fun b u q _=>⟨u,k b u q⟩
 tups:=fun b xs q=>by rw [aR (cS q hn)];exact q
 frzs:=fun b u xs q=>by rw [aR (cS q hn)];exact q
 tbls:=fun b ps q=>⟨#[],by rw [aR (cS q hn),q];simp⟩
theorem Un.write (mu:Mut (H x)) (he:e=x\/H e=some (.own x)) (k:∀ b u,b≠e->h.get? b=some u->h'.get? b=some u) (heo:∃ u,h'.get? e=some u):Un fs ex H (aP H x o) h h':=by
 have hx:∀ b,H b=none->b≠x:=fun b n z=>by subst z;rw [n] at mu;exact mu
 have hb:∀ b,H b=none->b≠e:=fun b n z=>by
  subst z;rcases he with r | r
  .exact hx b n r
  .rw [n] at r;cases r
 have hm:∀ b u,H b=some u->¬ Mut (some u)->b≠x:=fun b u q nm z=>by subst z;rw [q] at mu;exact nm mu
 refine ⟨fun b u q n _ _=>k b u (hb b n) q,fun b u q n _ _=>⟨u.slots,k b u (hb b n) q⟩,fun b u q n _=>by rw [aR (hx b n)];exact n,fun b u q _=>?_,
  fun b xs q=>by rw [aR (hm b _ q fun z=>z)];exact q,fun b u xs q=>by rw [aR (hm b _ q fun z=>z)];exact q,fun b ps q=>⟨#[],by rw [aR (hm b _ q fun z=>z),q];simp⟩⟩
 by_cases hbe:b=e
 .subst hbe;exact heo
 .exact ⟨u,k b u hbe q⟩
end
def trk (h:Heap) (H:Hp):List Addr:=(List.range h.objs.size).filter fun a=>(H a).isSome
def kK (h:Heap) (H:Hp):Heap:=PySem.W.hideAll h (trk h H)
theorem HS (h:Heap) (H:Hp):(kK h H).objs.size=h.objs.size:=PySem.W.hideAll_size _ _
theorem HU {h:Heap} {H:Hp} {o:Obj} (e:h.get? b=some o) (n:H b=none):(kK h H).get? b=some o :=
 PySem.W.hideAll_get _ e fun hm=>by have q:(H b).isSome=true:=(iN.mp hm).2;rw [n] at q;simp at q
theorem HV {h:Heap} {H:Hp} {o:Obj} (e:(kK h H).get? b=some o):h.get? b=some o/\H b=none:=by
 have e':h.get? b=some o:=PySem.W.of_hideAll (trk h H) e;refine ⟨e',?_⟩;cases q:H b with
 | none=>rfl
 | some x =>have hm:b∈trk h H:=iN.mpr ⟨List.mem_range.mpr (Heap.lt_size e'),by simp [q]⟩;have z:(kK h H).get? b=none:=PySem.W.hideAll_none (trk h H) hm;rw [z] at e;cases e
end
section
variable {t' i:Nat} {ch:List Addr} {x:Str} {A:Around} {E:Vq}
structure Mod (K:W.Frag) (mg:Str->Option Value) (base:Heap):Prop where
 kin:K.In base
 glob:base.Ns mainGlobals mg
 blt:∃ mb,base.Ns builtinsNs mb/\∀ x:Str,x≠"__name__"->mb x=bootBuiltins x
 nolimit:base.NoLimit
structure Cx where
 prog:Program
 w:World
 K:W.Frag
 mg:Str->Option Value
 base:Heap
 A:Around
 N:List Str
 s₀:Shared
 H₀:Hp
 env:Env
 outer:List Env
 stack:List Env
 ex:List Addr
 fn:Str->Bool
 calm:Bool
 pn:Pq
 xe:Value->Shared->Prop
def frs (l:List Env):List Addr:=l.filterMap (·.frame)
abbrev Cx.fs (X:Cx):List Addr:=frs X.outer
def Vis (sc:Scope) (x:Str):Prop:=sc.names.lookup x=some .local\/sc.names.lookup x=some .cell\/sc.names.lookup x=some .free
def Loc (sc:Scope) (x:Str):Prop:=sc.names.lookup x=some .local\/sc.names.lookup x=some .cell
def Look (env:Env) (h:Heap) (m:Str->Option Value) (x:Str) (u:Value):Prop :=
 (env.kindOf x=some .local/\m x=some u)\/((env.kindOf x=some .cell\/env.kindOf x=some .free)/\∃ c,env.cells.lookup x=some c/\h.IsCell c (some u))
structure Cx.Ok (X:Cx):Prop where
 mod:Mod X.K X.mg X.base
 kind:X.env.scope.kind=.function
 glob:X.env.globals=mainGlobals
 blt:X.env.builtins=builtinsNs
 above:X.s₀.heap.objs.size<=X.env.locals
 inj:∀ x y c,X.env.cells.lookup x=some c->X.env.cells.lookup y=some c->x=y
 has:∀ x,(X.env.kindOf x=some .cell\/X.env.kindOf x=some .free)->∃ c,X.env.cells.lookup x=some c
 cab:∀ x c,X.fn x=true->X.env.cells.lookup x=some c->X.s₀.heap.objs.size<=c
 hd:X.calm=true->X.A.handled=none
 frames:X.A.frames=some X.stack
 stk:X.stack=X.outer\/(X.stack=X.env::X.outer/\X.env.frame=some X.env.locals)
 exf:∀ b∈X.ex,b≠X.env.locals/\∀ x c,X.env.cells.lookup x=some c->c≠b
 bs:∀ b o,X.base.get? b=some o->X.s₀.heap.get? b=some o/\X.H₀ b=none
 bsz:X.base.objs.size<=X.s₀.heap.objs.size
 noex:∀ b o,X.base.get? b=some o->b∉X.ex
 exfs:∀ b∈X.ex,b∉X.fs
 funs:X.s₀.heap.FunFrames X.base X.outer
 frf:∀ b∈X.fs,X.H₀ b=none
structure Inv (X:Cx) (pj:Pq) (O:List (Option V)) (H:Hp) (s:Shared):Prop where
 ok:X.Ok
 os:s.os=X.s₀.os
 bare:AllBare s.gens
 base:Un X.fs X.ex X.H₀ H X.s₀.heap s.heap
 loc:∃ m,s.heap.Ns X.env.locals m/\∀ (i:Nat) (x:Str) (v:V),X.N[i]?=some x->O[i]?=some (some v)->Vis X.env.scope x->∃ u,aC v u/\Look X.env s.heap m x u
 cell:∀ x c,X.env.cells.lookup x=some c->∃ v,s.heap.IsCell c v
 free:H X.env.locals=none
 freeC:∀ x c,X.env.cells.lookup x=some c->H c=none
 pin:∀ p∈X.pn++pj,s.heap.get? p.1=some p.2/\H p.1=none/\p.1≠X.env.locals/\p.1∉X.fs/\∀ v,p.2.data≠.cell v
 hok:HOk X.prog X.w H s.heap
 len:O.length=X.N.length
section
variable {X:Cx} {pj:Pq} {O:List (Option V)} {H H':Hp} {s:Shared} {h':Heap}
theorem Cx.Ok.nofr (ok:X.Ok) {b:Addr} {o:Obj} (e:X.base.get? b=some o):b∉X.fs:=fun hb=>by have:=(ok.funs.mem hb).1;rw [e] at this;cases this
theorem Inv.bs (I:Inv X pj O H s):∀ b o,X.base.get? b=some o->s.heap.get? b=some o/\H b=none:=fun b o e =>⟨I.base.keep b o (I.ok.bs b o e).1 (I.ok.bs b o e).2 (I.ok.nofr e) (I.ok.noex b o e),I.base.free b o (I.ok.bs b o e).1 (I.ok.bs b o e).2 (I.ok.noex b o e)⟩
theorem Inv.bk (I:Inv X pj O H s):∀ b o,X.base.get? b=some o->s.heap.get? b=some o:=fun b o e=>(I.bs b o e).1
theorem Inv.mod (I:Inv X pj O H s):Mod X.K X.mg X.base:=I.ok.mod
theorem Inv.kIn (I:Inv X pj O H s):X.K.In s.heap:=I.ok.mod.kin.keeps I.bk
theorem Inv.lt (I:Inv X pj O H s):X.env.locals<s.heap.objs.size:=let ⟨_,hn,_⟩:=I.loc;hn.lt
theorem Inv.sz (I:Inv X pj O H s):X.s₀.heap.objs.size<=s.heap.objs.size:=cG I.ok.above (Nat.le_of_lt I.lt)
theorem Inv.nofs (I:Inv X pj O H s) {a:Addr} (h:s.heap.objs.size<=a):a∉X.fs:=fun hb=>by obtain ⟨_,o,ho,_⟩:=I.ok.funs.mem hb;exact absurd (eJ (aX ho) (cG I.sz h)) (gB _)
theorem Inv.cne (I:Inv X pj O H s):∀ x c,X.env.cells.lookup x=some c->c≠X.env.locals:=fun x c e z=>by obtain ⟨v,o,ho,hd⟩:=I.cell x c e;obtain ⟨m,⟨o',es,ep,ho',hd',_⟩,_⟩:=I.loc;rw [z,ho'] at ho;cases ho;rw [hd'] at hd;cases hd
theorem Inv.funs (I:Inv X pj O H s):s.heap.FunFrames X.base X.outer:=by
 have all:∀ (l:List Env),(∀ b∈frs l,b∈X.fs)->X.s₀.heap.FunFrames X.base l->s.heap.FunFrames X.base l:=by
  intro l
  induction l with
  | nil=>intro _ _;trivial
  | cons env r ih =>intro hs hl;obtain ⟨hk,⟨L,o,hf,hn,ho,hd⟩,hr⟩:=hl;have hL:L∈X.fs:=hs L (by unfold frs;rw [jD,hf];exact cW);obtain ⟨sl,e⟩:=I.base.slot L o ho (I.ok.frf L hL) hL fun z=>I.ok.exfs L z hL;exact ⟨hk,⟨L,_,hf,hn,e,hd⟩,ih (fun b hb=>hs b (by unfold frs;rw [jD,hf];exact cL _ hb)) hr⟩
 exact all X.outer (fun _ hb=>hb) I.ok.funs
theorem Inv.stack (I:Inv X pj O H s):s.heap.FunFrames X.base X.stack:=by
 rcases I.ok.stk with e | ⟨e,hf⟩
 .rw [e];exact I.funs
 .rw [e];obtain ⟨m,hn,_⟩:=I.loc;refine .cons (by rw [I.ok.kind];decide) hf hn ?_ I.funs;exact Heap.get?_none_of_le (cG I.ok.bsz I.ok.above)
theorem Inv.stkSub (I:Inv X pj O H s):∀ b∈frs X.stack,b∈X.env.locals::X.fs:=fun b hb=>by
 rcases I.ok.stk with e | ⟨e,hf⟩
 .rw [e] at hb;exact cL _ hb
 .rw [e] at hb;unfold frs at hb;rw [jD,hf] at hb;exact hb
theorem Inv.stkFree (I:Inv X pj O H s):∀ b∈frs X.stack,H b=none:=fun b hb=>by
 rcases omc (I.stkSub b hb) with e | hb
 .rw [e];exact I.free
 .obtain ⟨_,o,ho,_⟩:=I.ok.funs.mem hb;exact I.base.free b o ho (I.ok.frf b hb) fun z=>I.ok.exfs b z hb
theorem Inv.step {g':Array GenState} {d':Drawn} (I:Inv X pj O H s)
  (hch:∀ b∈ch,(b∈X.ex\/X.s₀.heap.objs.size<=b)/\b≠X.env.locals/\(∀ x c,X.env.cells.lookup x=some c->c≠b)/\∀ p∈X.pn++pj,p.1≠b)
  (keep:∀ b o,b≠X.env.locals->b∉X.fs->b∉ch->s.heap.get? b=some o->H b=none->h'.get? b=some o)
  (slot:∀ b o,b≠X.env.locals->b∈X.fs->b∉ch->s.heap.get? b=some o->H b=none->∃ sl,h'.get? b=some { o with slots:=sl }) (free:∀ b o,b∉ch->s.heap.get? b=some o->H b=none->H' b=none)
  (there:∀ b o,b∉ch->s.heap.get? b=some o->∃ o',h'.get? b=some o')
  (tups:∀ b xs,H b=some (.tup xs)->H' b=some (.tup xs)) (frzs:∀ b o u,H b=some (.frz o u)->H' b=some (.frz o u)) (tbls:∀ b ps,H b=some (.tbl ps)->∃ gN,H' b=some (.tbl (ps++gN)))
  (ns:∀ m,s.heap.Ns X.env.locals m->h'.Ns X.env.locals m) (hok:HOk X.prog X.w H' h') (hg:AllBare g') :
  Inv X pj O H' { s with heap:=h',gens:=g',drawn:=d',toks:=t' }:=by
 have neL:∀ b o,X.s₀.heap.get? b=some o->b≠X.env.locals:=fun b o e=>cY (eJ (aX e) I.ok.above);have neC:∀ b o,X.s₀.heap.get? b=some o->b∉X.ex->b∉ch:=fun b o e hx hb=>by
  rcases (hch b hb).1 with z | z
  .exact hx z
  .exact absurd (eJ (aX e) z) (gB _)
 have cellK:∀ x c,X.env.cells.lookup x=some c->∀ v,s.heap.IsCell c v->h'.IsCell c v:=fun x c e v ⟨o,ho,hd⟩=>by
  have nch:c∉ch:=fun z=>(hch c z).2.2.1 x c e rfl;by_cases hc:c∈X.fs
  .obtain ⟨sl,q⟩:=slot c o (I.cne x c e) hc nch ho (I.freeC x c e);exact ⟨_,q,hd⟩
  .exact ⟨o,keep c o (I.cne x c e) hc nch ho (I.freeC x c e),hd⟩
 refine ⟨I.ok,I.os,hg,⟨fun b o e n hb hx=>?_,fun b o e n hb hx=>?_,fun b o e n hx=>?_,fun b o e hx=>?_,fun b xs e=>tups b xs (I.base.tups b xs e),fun b o xs e=>frzs b o xs (I.base.frzs b o xs e),fun b ps e=>?_⟩,?_,fun x c e=>?_,?_,fun x c e=>?_,fun p hp=>?_,hok,I.len⟩
 .exact keep b o (neL b o e) hb (neC b o e hx) (I.base.keep b o e n hb hx) (I.base.free b o e n hx)
 .obtain ⟨sl,e1⟩:=I.base.slot b o e n hb hx;obtain ⟨sl',e2⟩:=slot b _ (neL b o e) hb (neC b o e hx) e1 (I.base.free b o e n hx);exact ⟨sl',e2⟩
 .obtain ⟨o',e1⟩:=I.base.there b o e hx;exact free b o' (neC b o e hx) e1 (I.base.free b o e n hx)
 .obtain ⟨o',e1⟩:=I.base.there b o e hx;exact there b o' (neC b o e hx) e1
 .obtain ⟨m1,e1⟩:=I.base.tbls b ps e;obtain ⟨m2,e2⟩:=tbls b _ e1;exact ⟨m1++m2,by rw [e2,Array.append_assoc]⟩
 .obtain ⟨m,hn,hl⟩:=I.loc;refine ⟨m,ns m hn,fun i x v e1 e2 e3=>?_⟩;obtain ⟨u,r,l⟩:=hl i x v e1 e2 e3;refine ⟨u,r,?_⟩;rcases l with l | ⟨k,c,e,z⟩
  .exact .inl l
  .exact .inr ⟨k,c,e,cellK x c e _ z⟩
 .obtain ⟨v,z⟩:=I.cell x c e;exact ⟨v,cellK x c e v z⟩
 .obtain ⟨m,⟨o,_,_,ho,_⟩,_⟩:=I.loc;exact free _ o (fun z=>(hch _ z).2.1 rfl) ho I.free
 .obtain ⟨v,o,ho,hd⟩:=I.cell x c e;exact free c o (fun z=>(hch c z).2.2.1 x c e rfl) ho (I.freeC x c e)
 .obtain ⟨e,n,ne,nf,d⟩:=I.pin p hp;have nch:p.1∉ch:=fun z=>(hch p.1 z).2.2.2 p hp rfl;exact ⟨keep p.1 p.2 ne nf nch e n,free p.1 p.2 nch e n,ne,nf,d⟩
theorem Inv.un (I:Inv X pj O H s) (u:Un X.fs [] H H' s.heap h') (hok:HOk X.prog X.w H' h'):Inv X pj O H' { s with heap:=h',toks:=t' }:=by
 obtain ⟨m,⟨o,es,ep,ho,r⟩,_⟩:=id I.loc;obtain ⟨sl,hL⟩:=u.any ho I.free (by simp);exact I.step (g':=s.gens) (d':=s.drawn) (ch:=[]) (fun _ z=>nomatch z) (fun b o _ hb _ e n=>u.keep b o e n hb (by simp)) (fun b o _ hb _ e n=>u.slot b o e n hb (by simp)) (fun b o _ e n=>u.free b o e n (by simp)) (fun b o _ e=>u.there b o e (by simp)) u.tups u.frzs u.tbls (fun m' hm=>by obtain ⟨o',es',ep',ho',r'⟩:=hm;rw [ho] at ho';cases ho';exact ⟨_,es',ep',hL,r'⟩) hok I.bare
theorem Inv.call {g':Array GenState} {d':Drawn} (I:Inv X pj O H s) (u:Un (frs X.stack) ch H H' s.heap h') (hok:HOk X.prog X.w H' h') (hg:AllBare g')
  (hch:∀ b∈ch,(b∈X.ex\/X.s₀.heap.objs.size<=b)/\b≠X.env.locals/\(∀ x c,X.env.cells.lookup x=some c->c≠b)/\∀ p∈X.pn++pj,p.1≠b) :
  Inv X pj O H' { s with heap:=h',gens:=g',drawn:=d',toks:=t' }:=by
 obtain ⟨m,⟨o,es,ep,ho,r⟩,_⟩:=id I.loc;obtain ⟨sl,hL⟩:=u.any ho I.free fun z=>(hch _ z).2.1 rfl;exact I.step (ch:=ch) hch (fun b o hL hb hc e n=>u.keep b o e n (fun z=>(omc (I.stkSub b z)).elim hL hb) hc) (fun b o _ _ hc e n=>u.any e n hc) (fun b o hc e n=>u.free b o e n hc) (fun b o hc e=>u.there b o e hc) u.tups u.frzs u.tbls (fun m' hm=>by obtain ⟨o',es',ep',ho',r'⟩:=hm;rw [ho] at ho';cases ho';exact ⟨_,es',ep',hL,r'⟩) hok hg
theorem Inv.turned {it:Addr} (I:Inv X pj O H s) (k:∀ b o,b≠it->s.heap.get? b=some o->h'.get? b=some o) (hn:H it=none) (hL:it≠X.env.locals)
  (h1:it∈X.ex\/X.s₀.heap.objs.size<=it) (h2:∀ x c,X.env.cells.lookup x=some c->c≠it) (h3:∀ p∈X.pn++pj,p.1≠it):Inv X pj O H { s with heap:=h',toks:=t' }:=by
 have nit:∀ b u,H b=some u->b≠it:=fun b u e z=>by rw [z,hn] at e;cases e
 refine I.step (g':=s.gens) (d':=s.drawn) (ch:=[it]) (fun b hb=>?_) (fun b o _ _ hc e _=>k b o (fun z=>hc (by simp [z])) e) (fun b o _ _ hc e _=>⟨o.slots,k b o (fun z=>hc (by simp [z])) e⟩) (fun _ _ _ _ n=>n)
  (fun b o hc e=>⟨o,k b o (fun z=>hc (by simp [z])) e⟩) (fun _ _ e=>e) (fun _ _ _ e=>e) (fun b ps e=>⟨#[],by rw [e];simp⟩) (fun m hm=>?_) (fun b u e=>?_) I.bare
 .have e:b=it:=by simpa using hb
  subst e;exact ⟨h1,hL,h2,h3⟩
 .obtain ⟨o,es,ep,ho,r⟩:=hm;exact ⟨o,es,ep,k _ o (Ne.symm hL) ho,r⟩
 .refine (I.hok b u e).stay (fun c v hc q=>k c v ?_ q) (fun _ q=>q) fun _ _ q=>q;rcases hc with z | z
  .rw [z];exact nit b u e
  .exact nit c _ z
theorem Inv.tok (I:Inv X pj O H s) (t:Nat):Inv X pj O H { s with toks:=t }:=I.un (h':=s.heap) (t':=t) Un.refl I.hok
theorem Inv.kept {t':Nat} (I:Inv X pj O H s) (k:∀ b u,s.heap.get? b=some u->h'.get? b=some u):Inv X pj O H { s with heap:=h',toks:=t' }:=I.un (Un.kept k) (I.hok.kept k)
theorem Inv.laid {a:Addr} {o:HO} {t':Nat} (I:Inv X pj O H s) (k:∀ b u,s.heap.get? b=some u->h'.get? b=some u) (hp:s.heap.objs.size<=a) (new:aN X.prog X.w (aP H a o) h' a o) :
  Inv X pj O (aP H a o) { s with heap:=h',toks:=t' }:=I.un (Un.laid k hp (I.hok.fresh hp)) (I.hok.laid k hp new)
theorem Inv.write {x e:Addr} {o:HO} {t':Nat} (I:Inv X pj O H s) (mu:Mut (H x)) (he:e=x\/H e=some (.own x)) (k:∀ b u,b≠e->s.heap.get? b=some u->h'.get? b=some u) (heo:∃ u,h'.get? e=some u)
  (new:aN X.prog X.w (aP H x o) h' x o):Inv X pj O (aP H x o) { s with heap:=h',toks:=t' }:=I.un (Un.write mu he k heo) (I.hok.write mu he k heo new)
theorem Inv.pins_of {pins':Pq} (I:Inv X pj O H s) (h:∀ p∈pins',s.heap.get? p.1=some p.2/\H p.1=none/\p.1≠X.env.locals/\p.1∉X.fs/\∀ v,p.2.data≠.cell v):Inv X pins' O H s :=
 ⟨I.ok,I.os,I.bare,I.base,I.loc,I.cell,I.free,I.freeC,fun p hp=>(oma hp).elim (fun z=>I.pin p (List.mem_append_left _ z)) (h p),I.hok,I.len⟩
theorem yD {N:List Str} (hN:N.Nodup) {j:Nat} (a:N[i]?=some x) (b:N[j]?=some x):i=j:=by obtain ⟨h1,e1⟩:=ome a;obtain ⟨h2,e2⟩:=ome b;exact (List.getElem_inj hN).mp (e1.trans e2.symm)
theorem yE {M:Model} {v:V} {u:Value} {Q:Unit->Shared->Prop} (I:Inv X pj O H s) (hN:X.N.Nodup) (hi:X.N[i]?=some x) (hx:Loc X.env.scope x) (r:aC v u)
  (h:∀ s',Inv X pj (O.set i (some v)) H s'->(∃ a,Heap.SameBut a s.heap s'.heap/\(a=X.env.locals\/X.env.cells.lookup x=some a))->Q () s') (hf:X.fn x=true\/X.env.scope.names.lookup x=some .local:=by first | exact .inl rfl | exact .inr rfl | assumption):wpAny M A (storeName X.env x u) Q E s:=by
 obtain ⟨m,hn,hl⟩:=id I.loc;have hcls:(X.env.scope.kind==.class||(X.env.scope.kind==.module&&X.env.locals != X.env.globals))=false:=by rw [I.ok.kind];rfl
 have hiO:i<O.length:=by rw [I.len];exact (ome hi).1
 have cne:=I.cne;have tracked:∀ {a:Addr} {h':Heap},(∃ o,s.heap.get? a=some o/\H a=none)->Heap.SameBut a s.heap h'->HOk X.prog X.w H h':=fun {a h'} ha hs b ob e=>by
  obtain ⟨_,_,hfree⟩:=ha;refine (I.hok b ob e).stay (fun c w' hc q=>(hs.2 c ?_).trans q) (fun _ q=>q) fun _ _ q=>q;rintro rfl;rcases hc with rfl | hc
  .rw [hfree] at e;cases e
  .rw [hfree] at hc;cases hc
 rcases hx with hk | hk
 .refine wpAny_storeName_local hk hn (fun h' hn' hs=>?_) hcls;obtain ⟨oL,_,_,hoL,_⟩:=id hn;refine h _ ⟨I.ok,I.os,I.bare,⟨fun b o e n hb hx=>?_,fun b o e n hb hx=>?_,I.base.free,fun b o e hx=>?_,I.base.tups,I.base.frzs,I.base.tbls⟩,⟨_,hn',fun j y v' e1 e2 e3=>?_⟩,fun y c e=>?_,I.free,I.freeC,fun p hp=>?_,tracked ⟨oL,hoL,I.free⟩ hs,by simpa using I.len⟩ ⟨_,hs,.inl rfl⟩
  .exact (hs.2 b (cY (eJ (aX e) I.ok.above))).trans (I.base.keep b o e n hb hx)
  .obtain ⟨sl,e1⟩:=I.base.slot b o e n hb hx;exact ⟨sl,(hs.2 b (cY (eJ (aX e) I.ok.above))).trans e1⟩
  .obtain ⟨o',e1⟩:=I.base.there b o e hx;exact ⟨o',(hs.2 b (cY (eJ (aX e) I.ok.above))).trans e1⟩
  .by_cases hj:j=i
   .subst hj;rw [hi] at e1;cases e1;rw [iC hiO] at e2;cases e2;exact ⟨u,r,.inl ⟨hk,by simp⟩⟩
   .rw [fZ (Ne.symm hj)] at e2;obtain ⟨u',r',q⟩:=hl j y v' e1 e2 e3;refine ⟨u',r',?_⟩;rcases q with ⟨k,e⟩ | ⟨k,c,e,z⟩
    .refine .inl ⟨k,?_⟩;have:y≠x:=fun e=>hj (yD hN e1 (e▸hi));simp [this,e]
    .exact .inr ⟨k,c,e,z.sameBut hs (cne y c e)⟩
  .obtain ⟨w',z⟩:=I.cell y c e;exact ⟨w',z.sameBut hs (cne y c e)⟩
  .obtain ⟨e,n,ne,nf,d⟩:=I.pin p hp;exact ⟨(hs.2 p.1 ne).trans e,n,ne,nf,d⟩
 .have hfn:X.fn x=true:=by
   rcases hf with z | z
   .exact z
   .rw [z] at hk;cases hk
  obtain ⟨c,hc⟩:=I.ok.has x (.inl hk);obtain ⟨w',z⟩:=I.cell x c hc;refine wpAny_storeName_cell I.ok.kind hk hc z (fun h' hc' hs=>?_);obtain ⟨oc,hoc,hocd⟩:=id z;refine h { s with heap:=h' } ⟨I.ok,I.os,I.bare,⟨fun b o e n hb hx=>?_,fun b o e n hb hx=>?_,I.base.free,fun b o e hx=>?_,I.base.tups,I.base.frzs,I.base.tbls⟩,⟨m,hn.sameBut hs (Ne.symm (cne x c hc)),fun j y v' e1 e2 e3=>?_⟩,fun y c' e=>?_,I.free,I.freeC,fun p hp=>?_,tracked ⟨oc,hoc,I.freeC x c hc⟩ hs,by simpa using I.len⟩ ⟨c,hs,.inr hc⟩
  .exact (hs.2 b (cY (eJ (aX e) (I.ok.cab x c hfn hc)))).trans (I.base.keep b o e n hb hx)
  .obtain ⟨sl,e1⟩:=I.base.slot b o e n hb hx;exact ⟨sl,(hs.2 b (cY (eJ (aX e) (I.ok.cab x c hfn hc)))).trans e1⟩
  .obtain ⟨o',e1⟩:=I.base.there b o e hx;exact ⟨o',(hs.2 b (cY (eJ (aX e) (I.ok.cab x c hfn hc)))).trans e1⟩
  .by_cases hj:j=i
   .subst hj;rw [hi] at e1;cases e1;rw [iC hiO] at e2;cases e2;exact ⟨u,r,.inr ⟨.inl hk,c,hc,hc'⟩⟩
   .rw [fZ (Ne.symm hj)] at e2;obtain ⟨u',r',q⟩:=hl j y v' e1 e2 e3;refine ⟨u',r',?_⟩;rcases q with q | ⟨k,c',e,z'⟩
    .exact .inl q
    .refine .inr ⟨k,c',e,z'.sameBut hs ?_⟩;rintro rfl;exact hj (yD hN e1 (I.ok.inj _ _ _ e hc▸hi))
  .by_cases hcc:c'=c
   .subst hcc;exact ⟨_,hc'⟩
   .obtain ⟨w2,z2⟩:=I.cell y c' e;exact ⟨w2,z2.sameBut hs hcc⟩
  .obtain ⟨e,n,ne,nf,d⟩:=I.pin p hp;refine ⟨(hs.2 p.1 ?_).trans e,n,ne,nf,d⟩;intro q;rw [q,hoc] at e;have q':oc=p.2:=dE e;exact d w' (by rw [<- q'];exact hocd)
theorem yF {M:Model} {v:V} {u:Value} {Q:Unit->Shared->Prop} (I:Inv X pj O H s) (hN:X.N.Nodup) (hi:X.N[i]?=some x) (hx:Loc X.env.scope x) (r:aC v u)
  (h:∀ s',Inv X pj (O.set i (some v)) H s'->Q () s') (hf:X.fn x=true\/X.env.scope.names.lookup x=some .local:=by first | exact .inl rfl | exact .inr rfl | assumption):wpAny M A (storeName X.env x u) Q E s :=
 yE I hN hi hx r (fun s' I' _=>h s' I') hf
theorem Inv.call' {s':Shared} (I:Inv X pj O H s) (ho:s'.os=s.os) (u:Un (frs X.stack) ch H H' s.heap s'.heap) (hok:HOk X.prog X.w H' s'.heap) (hg:AllBare s'.gens)
  (hch:∀ b∈ch,(b∈X.ex\/X.s₀.heap.objs.size<=b)/\b≠X.env.locals/\(∀ x c,X.env.cells.lookup x=some c->c≠b)/\∀ p∈X.pn++pj,p.1≠b):Inv X pj O H' s':=by
 obtain ⟨h',g',d',t',o'⟩:=s';have e:o'=s.os:=ho;subst e;exact I.call (g':=g') (t':=t') (d':=d') u hok hg hch
end
abbrev XK:=Value->Option Addr->Hp->Prop
abbrev St:=List (Option V)
abbrev VK:=V->Hp->Prop
abbrev TE:=St->Hp->VK->Prop
abbrev TT:=St->Hp->(Bool->Hp->Prop)->Prop
abbrev TA:=St->Hp->(List V->Hp->Prop)->Prop
structure Ends where
 nx:St->Hp->Prop
 rt:VK
 bk:St->Hp->Prop:=fun _ _=>False
 ct:St->Hp->Prop:=fun _ _=>False
abbrev TS:=Ends->St->Hp->Prop
def EP (X:Cx) (pj:Pq) (O:St) (Q:VK) (u:Value) (s':Shared):Prop:=∃ v H',Inv X pj O H' s'/\aC v u/\Q v H'
def TP (X:Cx) (pj:Pq) (O:St) (Q:Bool->Hp->Prop) (b:Bool) (s':Shared):Prop:=∃ H',Inv X pj O H' s'/\Q b H'
def AP (X:Cx) (pj:Pq) (O:St) (Q:List V->Hp->Prop) (us:List Value) (s':Shared):Prop:=∃ vs H',Inv X pj O H' s'/\aH vs us/\Q vs H'
def SP (X:Cx) (pj:Pq) (D:Ends) (f:Flow) (s':Shared):Prop :=
 match f with
 | .next=>∃ O' H',Inv X pj O' H' s'/\D.nx O' H'
 | .brk=>∃ O' H',Inv X pj O' H' s'/\D.bk O' H'
 | .cont=>∃ O' H',Inv X pj O' H' s'/\D.ct O' H'
 | .ret u=>∃ v O' H',Inv X pj O' H' s'/\aC v u/\D.rt v H'
def PE (X:Cx) (e:Expr) (t:TE):Prop :=
 ∀ (pj:Pq) (s:Shared) (O:St) (H:Hp) (Q:VK),Inv X pj O H s->t O H Q->wpAny (model X.prog X.w) X.A (eval e X.env) (EP X pj O Q) X.xe s
def PT (X:Cx) (e:Expr) (t:TT):Prop :=
 ∀ (pj:Pq) (s:Shared) (O:St) (H:Hp) (Q:Bool->Hp->Prop),Inv X pj O H s->t O H Q->wpAny (model X.prog X.w) X.A (isTrue e X.env (eval e X.env)) (TP X pj O Q) X.xe s
def PW (X:Cx) (e:Expr) (t:TT):Prop :=
 ∀ (whole:Sem Value) (pj:Pq) (s:Shared) (O:St) (H:Hp) (Q:Bool->Hp->Prop),Inv X pj O H s->t O H Q->wpAny (model X.prog X.w) X.A (isTrue e X.env whole) (TP X pj O Q) X.xe s
theorem PW.pt {X:Cx} {e:Expr} {t:TT} (h:PW X e t):PT X e t:=h _
def PA (X:Cx) (es:List Expr) (t:TA):Prop :=
 ∀ (pos:Pos) (pj:Pq) (s:Shared) (O:St) (H:Hp) (Q:List V->Hp->Prop),Inv X pj O H s->t O H Q->wpAny (model X.prog X.w) X.A (spliced (backTo pos (starEach es X.env))) (AP X pj O Q) X.xe s
def PS (X:Cx) (st:Stmt) (t:TS):Prop :=
 ∀ (pj:Pq) (s:Shared) (O:St) (H:Hp) (D:Ends),Inv X pj O H s->t D O H->wpAny (model X.prog X.w) X.A (exec st X.env) (SP X pj D) X.xe s
def PSs (X:Cx) (st:List Stmt) (t:TS):Prop :=
 ∀ (pj:Pq) (s:Shared) (O:St) (H:Hp) (D:Ends),Inv X pj O H s->t D O H->wpAny (model X.prog X.w) X.A (execs st X.env) (SP X pj D) X.xe s
theorem thn {α:Type} {t:Sem α} {Q Q':α->Shared->Prop} {M:Model} {s:Shared} (h:wpAny M A t Q E s) (hQ:∀ a s,Q a s->Q' a s):wpAny M A t Q' E s:=jO h hQ fun _ _ x=>x
end
section
variable {pj:Pq} {s:Shared} {x:Str} {E Q:Vq}
section
variable {X:Cx}
theorem bin {a b:Expr} {ta tb:TE} (ha:PE X a ta) (hb:PE X b tb) {O:St} {H:Hp} {R:V->V->Hp->Prop} (I:Inv X pj O H s) (h:ta O H fun x H1=>tb O H1 fun y H2=>R x y H2)
  {α:Type} {Q:α->Shared->Prop} {f:Value->Value->Sem α}
  (hf:∀ v u s2 x y H2,Inv X pj O H2 s2->aC x v->aC y u->R x y H2->wpAny (model X.prog X.w) X.A (f v u) Q X.xe s2) :
  wpAny (model X.prog X.w) X.A (eval a X.env) (fun v s₁=>wpAny (model X.prog X.w) X.A (eval b X.env) (fun u s₂=>wpAny (model X.prog X.w) X.A (f v u) Q X.xe s₂) X.xe s₁) X.xe s:=by
 refine thn (ha pj s O H _ I h) fun v s1 ⟨x,H1,I1,r1,q1⟩=>?_;refine thn (hb pj s1 O H1 _ I1 q1) fun u s2 ⟨y,H2,I2,r2,q2⟩=>?_;exact hf v u s2 x y H2 I2 r1 r2 q2
def tVar (i:Nat):TE:=fun O H Q=>∃ v,O[i]?=some (some v)/\Q v H
def tC (v:V):TE:=fun _ H Q=>Q v H
theorem lO {i:Nat} {pos:Pos} (hN:X.N[i]?=some x) (hv:Vis X.env.scope x) (hd:(x==("__debug__":Str))=false:=by decide) (hcd:(x==("__classdict__":Str))=false:=by decide):PE X (.Name x pos) (tVar i):=by
 intro pj s O H Q I h;obtain ⟨v,e,h⟩:=h;obtain ⟨m,hn,hl⟩:=I.loc;obtain ⟨u,r,l⟩:=hl i x v hN e hv;have fin:EP X pj O Q u s:=⟨v,H,I,r,h⟩;rcases l with ⟨hk,hm⟩ | ⟨hk,c,hc,hcell⟩
 .exact wpAny_Name (wpAny_loadName_local I.ok.kind hk hn hm fin) hd
 .rcases hk with hk | hk
  .exact wpAny_Name (wpAny_loadName_cell I.ok.kind hk hc hcell fin) hd
  .exact wpAny_Name (wpAny_loadName_free I.ok.kind hk hc hcell fin hcd) hd
theorem tD {i j pos}:PE X (.Constant (.int i) j pos) (tC (.int i)):=fun _ _ _ H _ I h=>wpAny_Constant_int ⟨.int i,H,I.tok _,⟨_,rfl⟩,h⟩
theorem HW {b j pos}:PE X (.Constant (.bool b) j pos) (tC (.bl b)):=fun _ _ _ H _ I h=>Constant_bool ⟨.bl b,H,I,rfl,h⟩
theorem HX {j pos}:PE X (.Constant .none j pos) (tC .non):=fun _ _ _ H _ I h=>Constant_none ⟨.non,H,I,rfl,h⟩
theorem HY {x j pos}:PE X (.Constant (.str x) j pos) (tC (.str x)):=fun _ _ _ H _ I h=>Calls.Constant_str ⟨.str x,H,I.tok _,⟨_,rfl⟩,h⟩
def Gl (X:Cx) (x:Str):Prop:=X.env.kindOf x=some .globalImplicit
theorem HZ {O:St} {H:Hp} {u:Value} {pos:Pos} (I:Inv X pj O H s) (hg:Gl X x) (hm:X.mg x=some u) (h:Q u s)
  (hd:(x==("__debug__":Str))=false:=by decide):wpAny (model X.prog X.w) X.A (eval (.Name x pos) X.env) Q E s :=
 Calls.Name_function_global I.ok.kind hg (Calls.loadGlobal_global (by rw [I.ok.glob];exact I.mod.glob.keeps I.bk) hm h) hd
theorem mQ {O:St} {H:Hp} {u:Value} {pos:Pos} (I:Inv X pj O H s) (hg:Gl X x) (hm:X.mg x=none) (hv:bootBuiltins x=some u) (h:Q u s)
  (hn:x≠"__name__":=by decide) (hd:(x==("__debug__":Str))=false:=by decide):wpAny (model X.prog X.w) X.A (eval (.Name x pos) X.env) Q E s:=by
 obtain ⟨mb,h1,h2⟩:=I.mod.blt;exact Calls.Name_function_global I.ok.kind hg (Calls.loadGlobal_builtin (by rw [I.ok.glob];exact I.mod.glob.keeps I.bk) hm (by rw [I.ok.blt];exact h1.keeps I.bk) ((h2 x hn).trans hv) h) hd
def t2I (ta tb:TE) (k:Int->Int->Hp->Prop):St->Hp->Prop:=fun O H=>ta O H fun x H1=>tb O H1 fun y H2=>∃ i j,x=.int i/\y=.int j/\k i j H2
def tAdd (ta tb:TE):TE:=fun O H Q=>t2I ta tb (fun i j H2=>Q (.int (i+j)) H2) O H
variable {a b:Expr} {ta tb:TE} {pos:Pos}
theorem IA (ha:PE X a ta) (hb:PE X b tb):PE X (.BinOp a .Add b pos) (tAdd ta tb):=by intro pj s O H Q I h;refine wpAny_BinOp (bin ha hb I h fun v u s2 x y H2 I2 rx ry q=>?_);obtain ⟨i,j,rfl,rfl,q⟩:=q;obtain ⟨t,rfl⟩:=rx;obtain ⟨t',rfl⟩:=ry;exact add_int ⟨.int _,H2,I2.tok _,⟨_,rfl⟩,q⟩
variable {tA tB':TT} {rest:List Expr}
def tAnd (t u:TT):TT:=fun O H Q=>t O H fun c H1=>if c=true then u O H1 Q else Q false H1
def tOr (t u:TT):TT:=fun O H Q=>t O H fun c H1=>if c=true then Q true H1 else u O H1 Q
def tNot (t:TT):TT:=fun O H Q=>t O H fun c H1=>Q (!c) H1
theorem IB (ha:PT X a tA):PW X (.BoolOp .And [a] pos) tA:=by
 intro wh pj s O H Q I h;refine isTrue_and (thn (ha pj s O H Q I h) fun c s1 e=>?_);cases c with
 | true=>exact isTrue_and_nil e
 | false=>exact e
theorem IC (ha:PT X a tA):PW X (.BoolOp .Or [a] pos) tA:=by
 intro wh pj s O H Q I h;refine isTrue_or (thn (ha pj s O H Q I h) fun c s1 e=>?_);cases c with
 | false=>exact isTrue_or_nil e
 | true=>exact e
theorem ID (ha:PT X a tA) (hb:PW X (.BoolOp .And (b::rest) pos) tB'):PW X (.BoolOp .And (a::b::rest) pos) (tAnd tA tB'):=by
 intro wh pj s O H Q I h;refine isTrue_and (thn (ha pj s O H _ I h) fun c s1 ⟨H1,I1,q1⟩=>?_);cases c with
 | true=>exact hb wh pj s1 O H1 Q I1 q1
 | false=>exact ⟨H1,I1,q1⟩
theorem IE (ha:PT X a tA) (hb:PW X (.BoolOp .Or (b::rest) pos) tB'):PW X (.BoolOp .Or (a::b::rest) pos) (tOr tA tB'):=by
 intro wh pj s O H Q I h;refine isTrue_or (thn (ha pj s O H _ I h) fun c s1 ⟨H1,I1,q1⟩=>?_);cases c with
 | true=>exact ⟨H1,I1,q1⟩
 | false=>exact hb wh pj s1 O H1 Q I1 q1
theorem IF (ha:PT X a tA):PT X (.UnaryOp .Not a pos) (tNot tA):=by intro pj s O H Q I h;exact isTrue_not (ha pj s O H (fun c H1=>Q (!c) H1) I h)
def IG (ta tb:TE):TE:=fun O H Q=>ta O H fun x H1=>∃ c,x=.bl c/\if c=true then tb O H1 Q else Q (.bl false) H1
def tOrV (ta tb:TE):TE:=fun O H Q=>ta O H fun x H1=>∃ c,x=.bl c/\if c=true then Q (.bl true) H1 else tb O H1 Q
def IH (ta:TE):TE:=fun O H Q=>ta O H fun x H1=>∃ c,x=.bl c/\Q (.bl (!c)) H1
theorem II {op} {t:TE} (h:PE X a t):PE X (.BoolOp op [a] pos) t:=fun pj s O H Q I hw=>BoolOp_one (h pj s O H Q I hw)
theorem IJ (ha:PE X a ta) (hb:PE X (.BoolOp .And (b::rest) pos) tb):PE X (.BoolOp .And (a::b::rest) pos) (IG ta tb):=by
 intro pj s O H Q I h;refine BoolOp_and (thn (ha pj s O H _ I h) fun v s1 ⟨x,H1,I1,r1,q1⟩=>?_);obtain ⟨c,rfl,q1⟩:=q1;cases r1;refine wpAny_truthy_bool ?_;cases c with
 | true=>exact hb pj s1 O H1 Q I1 q1
 | false=>exact ⟨.bl false,H1,I1,rfl,q1⟩
theorem IK (ha:PE X a ta) (hb:PE X (.BoolOp .Or (b::rest) pos) tb):PE X (.BoolOp .Or (a::b::rest) pos) (tOrV ta tb):=by
 intro pj s O H Q I h;refine BoolOp_or (thn (ha pj s O H _ I h) fun v s1 ⟨x,H1,I1,r1,q1⟩=>?_);obtain ⟨c,rfl,q1⟩:=q1;cases r1;refine wpAny_truthy_bool ?_;cases c with
 | false=>exact hb pj s1 O H1 Q I1 q1
 | true=>exact ⟨.bl true,H1,I1,rfl,q1⟩
theorem IL (ha:PE X a ta):PE X (.UnaryOp .Not a pos) (IH ta):=by intro pj s O H Q I h;refine UnaryOp_ (thn (ha pj s O H _ I h) fun v s1 ⟨x,H1,I1,r1,q1⟩=>?_);obtain ⟨c,rfl,q1⟩:=q1;cases r1;exact not_of (wpAny_truthy_bool ⟨.bl (!c),H1,I1,rfl,q1⟩)
end
end
section
variable {K:W.Frag} {es:List Expr} {tg:Expr} {P:Program} {w:World}
def SqL (K:W.Frag) (H:Hp) (a:Addr) (xs:List V):Prop :=
 Rd H a (.lst xs) \/
  ∃ (o:Obj) (qc:Array Value) (n:Nat),K.lookup a=some o/\o.cls=.type "list"/\o.dict=none/\o.data=.seq qc n/\qc.size<=sizeLine/\aH xs qc.toList
def SqT (K:W.Frag) (H:Hp) (a:Addr) (xs:List V):Prop :=
 Rd H a (.tup xs) \/
  ∃ (o:Obj) (qc:Array Value) (n:Nat),K.lookup a=some o/\o.cls=.type "tuple"/\o.data=.seq qc n/\qc.size<=sizeLine/\aH xs qc.toList
def absV:Value->Option V
 | .none=>some .non
 | .bool b=>some (.bl b)
 | .int i _=>some (.int i)
 | .str x _=>some (.str x)
 | .bytes b _=>some (.byt b)
 | .float b _=>some (.flt b)
 | .ref a=>some (.ref a)
 | .type n=>some (.ty n)
 | _=>none
theorem aC.abs {x:V} {u:Value} (r:aC x u):absV u=some x:=by
 cases x with
 | non=>cases r;rfl
 | bl _=>cases r;rfl
 | int _=>obtain ⟨t,rfl⟩:=r;rfl
 | str _=>obtain ⟨t,rfl⟩:=r;rfl
 | byt _=>obtain ⟨t,rfl⟩:=r;rfl
 | flt _=>obtain ⟨t,rfl⟩:=r;rfl
 | ref _=>cases r;rfl
 | ty _=>cases r;rfl
theorem aC.inj {x y:V} {u:Value} (r:aC x u) (q:aC y u):x=y:=dE (r.abs.symm.trans q.abs)
theorem aH.inj:∀ {xs ys:List V} {us:List Value},aH xs us->aH ys us->xs=ys
 | _,_,_,.nil,.nil=>rfl
 | _,_,_,.cons r t,.cons r' t'=>by rw [r.inj r',aH.inj t t']
section
variable {X:Cx} {pj:Pq} {O:St} {H:Hp} {s:Shared} {a:Addr} {xs ys:List V}
theorem SqL.of (h:H a=some (.lst xs)):SqL K H a xs:=.inl (.inl h)
theorem SqT.of (h:H a=some (.tup xs)):SqT K H a xs:=.inl (.inl h)
theorem Inv.list (I:Inv X pj O H s) (h:SqL X.K H a xs):∃ qc:List Value,aH xs qc/\PlainL s.heap a qc.toArray/\xs.length<=sizeLine:=by
 rcases h with h | ⟨o,qc,n,hk,hc,hd,hs,hz,r⟩
 .obtain ⟨z,qc,n,r,e⟩:=h.ok I.hok;exact ⟨qc,r,⟨_,n,e,rfl,rfl,rfl⟩,z⟩
 .refine ⟨qc.toList,r,⟨o,n,I.kIn a o hk,hc,hd,by simpa using hs⟩,?_⟩;have e:=r.length;simp only [Array.length_toList] at e;lia
theorem Inv.tuple (I:Inv X pj O H s) (h:SqT X.K H a xs):∃ qc:List Value,aH xs qc/\IsTup s.heap a qc.toArray/\xs.length<=sizeLine:=by
 rcases h with h | ⟨o,qc,n,hk,hc,hs,hz,r⟩
 .obtain ⟨z,qc,r,p⟩:=h.ok I.hok;exact ⟨qc,r,p,z⟩
 .refine ⟨qc.toList,r,⟨o,I.kIn a o hk,hc,n,by simpa using hs⟩,?_⟩;have e:=r.length;simp only [Array.length_toList] at e;lia
theorem Inv.list_inj (I:Inv X pj O H s) (h:SqL X.K H a xs) (h':SqL X.K H a ys):xs=ys:=by
 obtain ⟨qc,r,⟨o,n,e,_,_,d⟩,_⟩:=I.list h;obtain ⟨its',r',⟨o',n',e',_,_,d'⟩,_⟩:=I.list h';rw [e] at e';cases e';rw [d] at d';injection d' with d1 _;have:qc=its':=by simpa using congrArg Array.toList d1
 subst this;exact r.inj r'
theorem Inv.tuple_inj (I:Inv X pj O H s) (h:SqT X.K H a xs) (h':SqT X.K H a ys):xs=ys:=by
 obtain ⟨qc,r,⟨o,e,_,n,d⟩,_⟩:=I.tuple h;obtain ⟨its',r',⟨o',e',_,n',d'⟩,_⟩:=I.tuple h';rw [e] at e';cases e';rw [d] at d';injection d' with d1 _;have:qc=its':=by simpa using congrArg Array.toList d1
 subst this;exact r.inj r'
end
abbrev Cx.wish (X:Cx) (E:Vq):Cx:={ X with xe:=E }
abbrev Cx.nox (X:Cx):Cx:=X.wish fun _ _=>False
theorem Cx.Ok.wish {X:Cx} (ok:X.Ok) (E:Vq):(X.wish E).Ok :=
 ⟨ok.mod,ok.kind,ok.glob,ok.blt,ok.above,ok.inj,ok.has,ok.cab,ok.hd,ok.frames,ok.stk,ok.exf,ok.bs,ok.bsz,ok.noex,ok.exfs,ok.funs,ok.frf⟩
theorem Cx.Ok.unwish {X:Cx} {E:Vq} (ok:(X.wish E).Ok):X.Ok :=
 ⟨ok.mod,ok.kind,ok.glob,ok.blt,ok.above,ok.inj,ok.has,ok.cab,ok.hd,ok.frames,ok.stk,ok.exf,ok.bs,ok.bsz,ok.noex,ok.exfs,ok.funs,ok.frf⟩
section
variable {X:Cx} {pj:Pq} {O:St} {H:Hp} {s:Shared} {E:Vq}
theorem Inv.wish (I:Inv X pj O H s) (E:Vq):Inv (X.wish E) pj O H s:=⟨I.ok.wish E,I.os,I.bare,I.base,I.loc,I.cell,I.free,I.freeC,I.pin,I.hok,I.len⟩
theorem Inv.unwish (I:Inv (X.wish E) pj O H s):Inv X pj O H s:=⟨I.ok.unwish,I.os,I.bare,I.base,I.loc,I.cell,I.free,I.freeC,I.pin,I.hok,I.len⟩
theorem SP.unwish {D:Ends} {f:Flow} {s':Shared} (h:SP (X.wish E) pj D f s'):SP X pj D f s':=by
 cases f with
 | next=>obtain ⟨O',H',I,q⟩:=h;exact ⟨O',H',I.unwish,q⟩
 | brk=>obtain ⟨O',H',I,q⟩:=h;exact ⟨O',H',I.unwish,q⟩
 | cont=>obtain ⟨O',H',I,q⟩:=h;exact ⟨O',H',I.unwish,q⟩
 | ret u=>obtain ⟨v,O',H',I,r,q⟩:=h;exact ⟨v,O',H',I.unwish,r,q⟩
theorem PSs.nox {st:List Stmt} {t:TS} (h:PSs X.nox st t):PSs X st t:=fun pj s O H D I hw =>jO (h pj s O H D (I.wish _) hw) (fun _ _ q=>q.unwish) fun _ _ z=>False.elim z
end
section
variable {X:Cx} {st:Stmt} {rest:List Stmt} {t u:TS} {e:Expr} {te:TE} {pos:Pos}
def IM:TS:=fun D O H=>D.nx O H
def tSeq (t u:TS):TS:=fun D O H=>t { D with nx:=u D } O H
theorem IN:PSs X [] IM:=fun _ _ O H _ I h=>wpAny_execs_nil ⟨O,H,I,h⟩
theorem IP (h1:PS X st t) (h2:PSs X rest u):PSs X (st::rest) (tSeq t u):=by
 intro pj s O H D I h;refine wpAny_execs_cons (thn (h1 pj s O H { D with nx:=u D } I h) fun f s1 q=>?_);cases f with
 | next =>obtain ⟨O',H',I',q⟩:=q;exact h2 pj s1 O' H' D I' q
 | ret v=>exact q
 | brk=>exact q
 | cont=>exact q
theorem Inv.quiet {pj:Pq} {O:St} {H:Hp} {s:Shared} (I:Inv X pj O H s):interactive X.env=false:=by simp [interactive,I.ok.kind]
def IQ (te:TE):TS:=fun D O H=>te O H fun _ H1=>D.nx O H1
theorem tE (he:PE X e te) (hs:swapsWith e none pos.line X.env=pure false:=by rfl):PS X (.Expr e pos) (IQ te):=by intro pj s O H D I h;exact wpAny_Expr_any (thn (he pj s O H _ I h) fun v s1 ⟨x,H1,I1,r1,q1⟩=>⟨O,H1,I1,q1⟩) I.quiet hs
def tRet (te:TE):TS:=fun D O H=>te O H D.rt
theorem IS (he:PE X e te):PS X (.Return (some e) pos) (tRet te):=by intro pj s O H D I h;exact wpAny_Return_some (thn (he pj s O H _ I h) fun v s1 ⟨x,H1,I1,r1,q1⟩=>⟨x,O,H1,I1,r1,q1⟩)
def tIfS (c:TT) (t u:TS):TS:=fun D O H=>c O H fun b H1=>if b=true then t D O H1 else u D O H1
theorem IT {c:Expr} {a b:List Stmt} {tc:TT} (hc:PT X c tc) (ha:PSs X a t) (hb:PSs X b u):PS X (.If c a b pos) (tIfS tc t u):=by
 intro pj s O H D I h;refine wpAny_If (thn (hc pj s O H _ I h) fun d s1 ⟨H1,I1,q1⟩=>?_);cases d with
 | true=>exact ha pj s1 O H1 D I1 q1
 | false=>exact hb pj s1 O H1 D I1 q1
end
abbrev TG:=V->St->Hp->(St->Hp->Prop)->Prop
abbrev TGs:=List V->St->Hp->(St->Hp->Prop)->Prop
def PG (X:Cx) (target:Expr) (t:TG):Prop :=
 ∀ (pj:Pq) (s:Shared) (O:St) (H:Hp) (v:V) (u:Value) (Q:St->Hp->Prop),Inv X pj O H s->aC v u->t v O H Q ->
  wpAny (model X.prog X.w) X.A (assign target X.env u) (fun _ s'=>∃ O' H',Inv X pj O' H' s'/\Q O' H') X.xe s
def PGs (X:Cx) (ts:List Expr) (t:TGs):Prop :=
 ∀ (pj:Pq) (s:Shared) (O:St) (H:Hp) (vs:List V) (us:List Value) (Q:St->Hp->Prop),Inv X pj O H s->aH vs us->t vs O H Q ->
  wpAny (model X.prog X.w) X.A (assignInOrder ((assignEach ts X.env).map (·.2)) us) (fun _ s'=>∃ O' H',Inv X pj O' H' s'/\Q O' H') X.xe s
section
variable {X:Cx} {pos:Pos}
def tF (i:Nat):TG:=fun v O H Q=>Q (O.set i (some v)) H
theorem yG {i:Nat} {x:Str} (hN:X.N.Nodup) (hi:X.N[i]?=some x) (hx:Loc X.env.scope x) (hf:X.fn x=true\/X.env.scope.names.lookup x=some .local:=by first | exact .inl rfl | exact .inr rfl | assumption):PG X (.Name x pos) (tF i):=by intro pj s O H v u Q I r h;exact wpAny_assign_Name (yF I hN hi hx r (fun s' I'=>⟨_,H,I',h⟩) hf)
def gNil:TGs:=fun vs O H Q=>vs=[]/\Q O H
def yH (t:TG) (u:TGs):TGs:=fun vs O H Q=>∃ v r,vs=v::r/\t v O H fun O' H'=>u r O' H' Q
theorem IU:PGs X [] gNil:=by intro pj s O H vs us Q I r h;obtain ⟨e,h⟩:=h;subst e;cases r;exact assignInOrder_nil ⟨O,H,I,h⟩
theorem IV {e:Expr} {t:TG} {u:TGs} (h1:PG X e t) (h2:PGs X es u)
  (hs:(assignEach (e::es) X.env).map (·.2)=assign e X.env::(assignEach es X.env).map (·.2):=by rfl):PGs X (e::es) (yH t u):=by
 intro pj s O H vs us Q I r h;obtain ⟨v,vr,e1,h⟩:=h;subst e1;cases r with
 | cons r rr =>rw [hs];refine assignInOrder_cons (thn (h1 pj s O H _ _ _ I r h) fun _ s1 ⟨O1,H1,I1,q1⟩=>?_);exact h2 pj s1 O1 H1 _ _ Q I1 rr q1
def gTup (K:W.Frag) (n:Nat) (t:TGs):TG:=fun v O H Q=>∃ a xs,v=.ref a/\SqT K H a xs/\xs.length=n/\t xs O H Q
theorem IW {k:Nat} {t:TGs} {n:Nat} (hc:X.calm=true) (h:PGs X es t)
  (hn:(assignEach es X.env).length=n:=by rfl) (hst:(assignEach es X.env).findIdx? (·.1)=none:=by rfl):PG X (.Tuple es k pos) (gTup X.K n t):=by
 intro pj s O H v u Q I r hw;obtain ⟨a,xs,e1,hq,hl,hw⟩:=hw;subst e1;cases r;obtain ⟨qc,rv,ht,hz⟩:=I.tuple hq;refine assign_Tuple_tuple (I.ok.hd hc) ht (by simp [hn,<- hl,rv.length]) hst fun h' hx=>?_;have I1:Inv X pj O H { s with heap:=h' }:=I.kept (t':=s.toks) fun b o e=>hx b o (cY (aX e)) e;exact h pj _ O H xs _ Q I1 (by simpa using rv) hw
def tAsg (te:TE) (g:TG):TS:=fun D O H=>te O H fun x H1=>g x O H1 D.nx
theorem qM {i:Nat} {x:Str} {e:Expr} {te:TE} {pos':Pos} (hN:X.N.Nodup) (hi:X.N[i]?=some x) (hx:Loc X.env.scope x) (he:PE X e te) (hs:swapsWith e (some (.Name x pos')) pos.line X.env=pure false:=by rfl) (hf:X.fn x=true\/X.env.scope.names.lookup x=some .local:=by first | exact .inl rfl | exact .inr rfl | assumption) :
  PS X (.Assign [.Name x pos'] e pos) (tAsg te (tF i)):=by
 intro pj s O H D I h;refine wpAny_Assign_Name (thn (he pj s O H _ I h) fun v s1 ⟨y,H1,I1,r1,q1⟩=>?_) hs;exact yF I1 hN hi hx r1 (fun s2 I2=>⟨_,H1,I2,q1⟩) hf
end
section
variable {X:Cx} {pos:Pos}
end
structure It where
 go:Nat->Hp->Prop
 yld:Nat->Hp->V->Hp->Prop
 stop:Nat->Hp->Prop
def fD (X:Cx) (pj:Pq) (H:Hp) (b:Addr):Prop :=
 H b=none/\b≠X.env.locals/\b∉X.fs/\(b∈X.ex\/X.s₀.heap.objs.size<=b)/\(∀ x c,X.env.cells.lookup x=some c->c≠b)/\∀ p∈X.pn++pj,p.1≠b
theorem Inv.fpOk {X:Cx} {pj:Pq} {O:St} {H H':Hp} {s:Shared} {b:Addr} (I:Inv X pj O H s) (hb:s.heap.objs.size<=b) (hn:H' b=none):fD X pj H' b:=by
 refine ⟨hn,Nat.ne_of_gt (eJ I.lt hb),I.nofs hb,.inr (cG I.sz hb),fun x c e z=>?_,fun p hp z=>?_⟩
 .obtain ⟨v,q⟩:=I.cell x c e;exact absurd (eJ q.lt (by rw [z];exact hb)) (gB _)
 .exact absurd (eJ (aX (I.pin p hp).1) (by rw [z];exact hb)) (gB _)
structure Turn (P:Program) (w:World) (K:W.Frag) (tg:Expr) (J:It) (fp:List Addr) (it:Addr) (tn:Nat->Heap->Prop):Prop where
 mem:it∈fp
 obj:∀ i h,tn i h->∀ b∈fp,∃ o,h.get? b=some o/\∀ v,o.data≠.cell v
 keep:∀ i h h',tn i h->(∀ b∈fp,∀ o,h.get? b=some o->h'.get? b=some o)->tn i h'
 item:∀ (X:Cx),X.prog=P->X.w=w->X.K=K->X.calm=true->∀ (i:Nat) (pj:Pq) (s:Shared) (O:St) (H:Hp) (E:Vq),Inv X pj O H s->(∀ b∈fp,fD X pj H b)->tn i s.heap->J.go i H ->
  wpAny (model P w) X.A (pyNext (.ref it)) (fun r s1=>∃ u,r=some u /\
   wpAny (model P w) X.A (letOwnedTupleGo tg (.ref it) u) (fun _ s2=>∃ x H',Inv X pj O H' s2/\aC x u/\J.yld i H x H'/\tn (i+1) s2.heap/\∀ b∈fp,H' b=none) E s1) E s
 done:∀ (X:Cx),X.prog=P->X.w=w->X.K=K->X.calm=true->∀ (i:Nat) (pj:Pq) (s:Shared) (O:St) (H:Hp) (E:Vq),Inv X pj O H s->(∀ b∈fp,fD X pj H b)->tn i s.heap->J.stop i H ->
  wpAny (model P w) X.A (pyNext (.ref it)) (fun r s1=>r=none/\Inv X pj O H s1) E s
 self:∀ (A:Around) (i:Nat) (s:Shared) (Q:Vq) (E:Vq),tn i s.heap->Q (.ref it) s->wpAny (model P w) A (pyIter (.ref it)) Q E s
abbrev TI:=St->Hp->(It->Hp->Prop)->Prop
def PIE (X:Cx) (pj:Pq) (O:St) (tg:Expr) (R:It->Hp->Prop) (itv:Value) (s2:Shared):Prop :=
 ∃ (it:Addr) (fp:List Addr) (tn:Nat->Heap->Prop) (J:It) (H':Hp),itv=.ref it/\Inv X pj O H' s2/\Turn X.prog X.w X.K tg J fp it tn/\tn 0 s2.heap/\(∀ b∈fp,fD X pj H' b)/\R J H'
def PI (X:Cx) (tg iter:Expr) (wi:TI):Prop :=
 ∀ (pj:Pq) (s:Shared) (O:St) (H:Hp) (R:It->Hp->Prop),Inv X pj O H s->wi O H R ->
  wpAny (model X.prog X.w) X.A (eval iter X.env) (fun v s1=>wpAny (model X.prog X.w) X.A (pyIter v) (PIE X pj O tg R) X.xe s1) X.xe s
theorem pD {M:Model} {A:Around} {E:Vq} {s:Shared} {it:Addr} {u:Value} {o:Obj} {n:String} {vs:Array Value} {Q:Unit->Shared->Prop} (ho:s.heap.get? it=some o) (hc:o.cls=.type n) (hd:o.data=.fields vs)
  (hn:["enumerate", "zip", "dict_itemiterator", "dict_reverseitemiterator", "odict_iterator", "itertools.zip_longest", "itertools.pairwise"].contains n=false) (hQ:Q () s):wpAny M A (letOwnedTupleGo tg (.ref it) u) Q E s:=by
 unfold letOwnedTupleGo;cases tg<;>first
  | exact aI hQ
  | (cases u<;>first
    | exact aI hQ
    | (refine aA (wpAny_load ho ?_)
       rw [hc,hd];show wpAny M A (if (["enumerate", "zip", "dict_itemiterator", "dict_reverseitemiterator", "odict_iterator", "itertools.zip_longest", "itertools.pairwise"].contains n&&vs[0]?==some (rawInt _))=true then _ else _) Q E s;rw [if_neg (by intro h;rw [hn,Bool.false_and] at h;cases h)];exact aI hQ))
def Itl (K:W.Frag) (a:Addr):It :=
 ⟨fun i H=>∃ xs x,SqL K H a xs/\xs[i]?=some x,fun i H x H'=>H'=H/\∀ xs,SqL K H a xs->xs[i]?=some x,fun i H=>∃ xs,SqL K H a xs/\xs.length<=i⟩
def Itt (K:W.Frag) (a:Addr):It :=
 ⟨fun i H=>∃ xs x,SqT K H a xs/\xs[i]?=some x,fun i H x H'=>H'=H/\∀ xs,SqT K H a xs->xs[i]?=some x,fun i H=>∃ xs,SqT K H a xs/\xs.length<=i⟩
def Itr (lo:Int) (n:Nat):It:=⟨fun i _=>i<n,fun i H x H'=>H'=H/\x=.int (lo+i),fun i _=>n<=i⟩
theorem IX (a it:Addr):Turn P w K tg (Itl K a) [it] it (fun i h=>h.IsListIter it a i) where
 mem:=by simp
 obj:=fun i h st b hb=>by
  have e:b=it:=by simpa using hb
  subst e;obtain ⟨o,e,c,d⟩:=st;exact ⟨o,e,fun v z=>by rw [d] at z;cases z⟩
 keep:=fun i h h' st k=>st.at fun o e=>k it (by simp) o e
 item:=by intro X hP hw hK hc i pj s O H E I hf st hg;subst hP hw hK;obtain ⟨xs,x,hq,hx⟩:=hg;obtain ⟨qc,rv,p,hz⟩:=I.list hq;obtain ⟨u,hu,ru⟩:=rv.get hx;obtain ⟨f0,f1,f2,f3,f4,f5⟩:=hf it (by simp);refine wpAny_pyNext_list_item st p.isList (x:=u) (by simpa using hu) fun h' st' sb=>?_;have I1:Inv X pj O H { s with heap:=h' }:=I.turned (t':=s.toks) (fun b o hb e=>(sb.2 b hb).trans e) f0 f1 f3 f4 f5;obtain ⟨o,e,c,d⟩:=id st';exact ⟨u,rfl,pD (s:={ s with heap:=h' }) e c d (by decide) ⟨x,H,I1,ru,⟨rfl,fun ys hy=>by rw [I.list_inj hy hq];exact hx⟩,st',fun b hb=>(hf b hb).1⟩⟩
 done:=by intro X hP hw hK hc i pj s O H E I hf st hg;subst hP hw hK;obtain ⟨xs,hq,hx⟩:=hg;obtain ⟨qc,rv,p,hz⟩:=I.list hq;obtain ⟨f0,f1,f2,f3,f4,f5⟩:=hf it (by simp);have hl:=rv.length;exact wpAny_pyNext_list_end (I.ok.hd hc) st p.isList (by simp;lia) fun h' eb=>⟨rfl,I.turned (t':=s.toks) (fun b o hb e=>eb b o hb e) f0 f1 f3 f4 f5⟩
 self:=fun _ _ _ _ _ st h=>wpAny_pyIter_listiter st h
theorem IY (a it:Addr):Turn P w K tg (Itt K a) [it] it (fun i h=>h.IsTupleIter it a i) where
 mem:=by simp
 obj:=fun i h st b hb=>by
  have e:b=it:=by simpa using hb
  subst e;obtain ⟨o,e,c,d⟩:=st;exact ⟨o,e,fun v z=>by rw [d] at z;cases z⟩
 keep:=fun i h h' st k=>st.at fun o e=>k it (by simp) o e
 item:=by intro X hP hw hK hc i pj s O H E I hf st hg;subst hP hw hK;obtain ⟨xs,x,hq,hx⟩:=hg;obtain ⟨qc,rv,p,hz⟩:=I.tuple hq;obtain ⟨u,hu,ru⟩:=rv.get hx;obtain ⟨f0,f1,f2,f3,f4,f5⟩:=hf it (by simp);refine wpAny_pyNext_tuple_item st (show s.heap.IsTuple a qc.toArray from p) (x:=u) (by simpa using hu) fun h' st' sb=>?_;have I1:Inv X pj O H { s with heap:=h' }:=I.turned (t':=s.toks) (fun b o hb e=>(sb.2 b hb).trans e) f0 f1 f3 f4 f5;obtain ⟨o,e,c,d⟩:=id st';exact ⟨u,rfl,pD (s:={ s with heap:=h' }) e c d (by decide) ⟨x,H,I1,ru,⟨rfl,fun ys hy=>by rw [I.tuple_inj hy hq];exact hx⟩,st',fun b hb=>(hf b hb).1⟩⟩
 done:=by intro X hP hw hK hc i pj s O H E I hf st hg;subst hP hw hK;obtain ⟨xs,hq,hx⟩:=hg;obtain ⟨qc,rv,p,hz⟩:=I.tuple hq;obtain ⟨f0,f1,f2,f3,f4,f5⟩:=hf it (by simp);have hl:=rv.length;exact wpAny_pyNext_tuple_end (I.ok.hd hc) st (show s.heap.IsTuple a qc.toArray from p) (by simp;lia) fun h' eb=>⟨rfl,I.turned (t':=s.toks) (fun b o hb e=>eb b o hb e) f0 f1 f3 f4 f5⟩
 self:=fun _ _ _ _ _ st h=>wpAny_pyIter_tupleiter st h
theorem IZ (it:Addr) (lo:Int) (n:Nat):Turn P w K tg (Itr lo n) [it] it (fun i h=>IsRangeIter h it (lo+(i:Nat)*1) ((n:Int)-(i:Nat)) 1) where
 mem:=by simp
 obj:=fun i h st b hb=>by
  have e:b=it:=by simpa using hb
  subst e;exact ⟨_,st,fun v z=>by have z':Data.fields _=Data.cell v:=z;cases z'⟩
 keep:=fun i h h' st k=>k it (by simp) _ st
 item:=by intro X hP hw hK hc i pj s O H E I hf st hg;subst hP hw hK;obtain ⟨f0,f1,f2,f3,f4,f5⟩:=hf it (by simp);have W:=Walks.range (prog:=X.prog) (w:=X.w) (I.ok.hd hc) it lo 1 n;refine W.item i s _ _ hg st fun v h' tk hv st' kk=>?_;obtain ⟨t,rfl⟩:=hv;have I1:Inv X pj O H { s with heap:=h',toks:=tk }:=I.turned (fun b o hb e=>kk b o (by simpa using hb) e) f0 f1 f3 f4 f5;refine ⟨_,rfl,pD (s:={ s with heap:=h',toks:=tk }) (n:="range_iterator") st' rfl rfl (by decide) ⟨.int (lo+i),H,I1,⟨t,?_⟩,⟨rfl,rfl⟩,st',fun b hb=>(hf b hb).1⟩⟩;rw [Int.mul_one]
 done:=by intro X hP hw hK hc i pj s O H E I hf st hg;subst hP hw hK;obtain ⟨f0,f1,f2,f3,f4,f5⟩:=hf it (by simp);exact wpAny_pyNext_range_end (I.ok.hd hc) st (by have:n<=i:=hg;lia) fun h' eb=>⟨rfl,I.turned (t':=s.toks) (fun b o hb e=>eb b o hb e) f0 f1 f3 f4 f5⟩
 self:=fun _ _ _ _ _ st h=>wpAny_pyIter_rangeiter st h
end
section
variable {pj:Pq} {s:Shared} {fp:List Addr}
section
variable {X:Cx} {tg:Expr}
theorem JA {O:St} {H:Hp} {R:It->Hp->Prop} {E:Vq} {lo hi:Int} {t u v:Tok} {tk:Nat} (I:Inv X pj O H s) (h1 : -(2 ^ 62)<=lo) (h2:lo<2 ^ 62) (h3 : -(2 ^ 62)<=hi) (h4:hi<2 ^ 62)
  (q:R (Itr lo (hi-lo).toNat) H):wpAny (model X.prog X.w) X.A (pyIter (.ref s.heap.objs.size)) (PIE X pj O tg R) E { s with heap:=s.heap.push { cls:=.type "range",data:=.fields #[.int lo t,.int hi u,.int 1 v] },toks:=tk }:=by
 refine wpAny_pyIter_range (IsRange.new ..) (small_one h1 h2 h3 h4) ?_;have I1:Inv X pj O H { s with heap:=s.heap.push { cls:=.type "range",data:=.fields #[.int lo t,.int hi u,.int 1 v] },toks:=tk }:=I.kept fun b o e=>aU _ e;refine ⟨(s.heap.push { cls:=.type "range",data:=.fields #[.int lo t,.int hi u,.int 1 v] }).objs.size,[(s.heap.push { cls:=.type "range",data:=.fields #[.int lo t,.int hi u,.int 1 v] }).objs.size],_,_,H,rfl,
  I1.kept (t':=tk) fun b o e=>aU _ e,IZ _ lo (hi-lo).toNat,?_,fun b hb=>?_,q⟩
 .have e1:lo+((0:Nat):Int)*1=lo:=by simp
  have e2:(((hi-lo).toNat:Nat):Int)-((0:Nat):Int)=Builtin.Range.rangeSize lo hi 1:=by rw [rangeSize_one];split<;>lia
  show IsRangeIter _ _ (lo+((0:Nat):Int)*1) ((((hi-lo).toNat:Nat):Int)-((0:Nat):Int)) 1;rw [e1,e2];exact cX _ rfl
 .have e:b=(s.heap.push { cls:=.type "range",data:=.fields #[.int lo t,.int hi u,.int 1 v] }).objs.size:=by simpa using hb
  subst e;exact I1.fpOk (aV _) (I1.hok.fresh (aV _))
def JB (ta:TA):TI:=fun O H R=>ta O H fun vs H1=>∃ j:Int,vs=[.int j] /\ -(2 ^ 62)<=j/\j<2 ^ 62/\R (Itr 0 j.toNat) H1
theorem JC {a:Expr} {ta:TA} {p pos:Pos} (hg:Gl X "range") (hm:X.mg "range"=none) (ha:PA X [a] ta) (hs:starEach [a] X.env=[(false,eval a X.env)]:=by rfl):PI X tg (.Call (.Name "range" p) [a] [] pos) (JB ta):=by
 intro pj s O H R I h;refine Call_ (mQ I hg hm boot_range (PyProof.Rows.callWith_type1 (thn (ha pos pj s O H _ I h) fun us s1 ⟨vs,H1,I1,r1,q1⟩=>?_) hs rfl));obtain ⟨j,e,q1,q2,q⟩:=q1;subst e;cases r1 with
 | cons r rr =>cases rr;obtain ⟨t,rfl⟩:=r;exact call_range_1 (JA I1 (by lia) (by lia) q1 q2 (by simpa using q))
def tFor (wi:TI) (g:TG) (tb:TS):TS:=fun D O H=>wi O H fun J H1=>∃ W:Nat->Nat->St->Hp->Prop,(∃ m,W 0 m O H1)/\∀ i m O H,W i m O H ->
 (J.stop i H/\D.nx O H)\/(J.go i H/\∃ N:St->Hp->Prop,(∀ O' H',N O' H'->∃ m',m'<m/\W (i+1) m' O' H')/\∀ x H',J.yld i H x H'->g x O H' fun O2 H2=>tb { D with nx:=N,ct:=N,bk:=D.nx } O2 H2)
def pE (fp:List Addr) (h:Heap):Pq:=fp.filterMap fun b=>(h.get? b).map fun o=>(b,o)
theorem qN {h:Heap} {b:Addr} {o:Obj} (hb:b∈fp) (e:h.get? b=some o):(b,o)∈pE fp h:=kG.mpr ⟨b,hb,by rw [e];rfl⟩
theorem JD {h:Heap} {p:Addr × Obj} (hp:p∈pE fp h):p.1∈fp/\h.get? p.1=some p.2:=by
 obtain ⟨b,hb,e⟩:=kG.mp hp;cases q:h.get? b with
 | none=>rw [q] at e;cases e
 | some o =>rw [q] at e;have e':(b,o)=p:=dE e;subst e';exact ⟨hb,q⟩
theorem Inv.pinned {O:St} {H:Hp} (I:Inv X pj O H s) (hf:∀ b∈fp,fD X pj H b) (ho:∀ b∈fp,∃ o,s.heap.get? b=some o/\∀ v,o.data≠.cell v):Inv X (pj++pE fp s.heap) O H s :=
 I.pins_of fun p hp=>(oma hp).elim (fun z=>I.pin p (fY _ z)) fun z=>by obtain ⟨hb,e⟩:=JD z;obtain ⟨f0,f1,f2,_⟩:=hf p.1 hb;obtain ⟨o,e',d⟩:=ho p.1 hb;rw [e] at e';cases e';exact ⟨e,f0,f1,f2,d⟩
theorem Inv.unpinned {pl:Pq} {O:St} {H:Hp} (I:Inv X (pj++pl) O H s):Inv X pj O H s:=I.pins_of fun p hp=>I.pin p (fY _ (List.mem_append_left _ hp))
theorem tG {iter:Expr} {body:List Stmt} {wi:TI} {g:TG} {tb:TS} {pos:Pos} (hp:PassesOwn (model X.prog X.w) X.A X.env X.xe) (hc:X.calm=true) (hi:PI X tg iter wi) (hg:PG X tg g) (hb:PSs X body tb)
  (hs:∀ x,foldedSetIterable iter X.env x=pure x:=by intro _;rfl):PS X (.For tg iter body [] pos) (tFor wi g tb):=by
 intro pj s O H D I h;refine wpAny_For (thn (hi pj s O H _ I h) fun v s1 h1=>thn h1 fun itv s2 h2=>?_) hs;obtain ⟨it,fp,tn,J,H2,e,I2,T,st2,f2,W,⟨m0,w0⟩,turn⟩:=h2;subst e;have stat:∀ {H':Hp},(∀ b∈fp,H' b=none)->∀ b∈fp,fD X pj H' b:=fun hn b hb=>⟨hn b hb,(f2 b hb).2⟩;refine codeAny_forLoop_any (fun n s'=>∃ i O' H',Inv X pj O' H' s'/\tn i s'.heap/\(∀ b∈fp,H' b=none)/\W i n O' H') ?_ m0 ⟨0,O,H2,I2,st2,fun b hb=>(f2 b hb).1,w0⟩;rintro n s3 ⟨i,O3,H3,I3,st3,fr3,w3⟩;rcases turn i n O3 H3 w3 with ⟨stop,qn⟩ | ⟨go,N,hN,step⟩
 .refine wpAny_passesOwn hp (thn (T.done X rfl rfl rfl hc i pj s3 O3 H3 X.xe I3 (stat fr3) st3 stop) fun r s4 ⟨hr,I4⟩=>?_);subst hr;exact wpAny_execs_nil ⟨O3,H3,I4,qn⟩
 .refine wpAny_passesOwn hp (thn (T.item X rfl rfl rfl hc i pj s3 O3 H3 X.xe I3 (stat fr3) st3 go) fun r s4 ⟨u,hr,h4⟩=>?_);subst hr;refine wpAny_passesOwn hp (thn h4 fun _ s5 ⟨x,H5,I5,r5,y5,st5,fr5⟩=>?_);have I5':=I5.pinned (stat fr5) (T.obj _ _ st5);refine wpAny_passesOwn hp (thn (hg _ s5 O3 H5 x u _ I5' r5 (step x H5 y5)) fun _ s6 ⟨O6,H6,I6,q6⟩=>?_);refine wpAny_passesOwn hp (thn (hb _ s6 O6 H6 _ I6 q6) fun f s7 q7=>?_);have again:∀ {O7:St} {H7:Hp},Inv X (pj++pE fp s5.heap) O7 H7 s7->N O7 H7->∃ m,m<n/\∃ i O' H',Inv X pj O' H' s7/\tn i s7.heap/\(∀ b∈fp,H' b=none)/\W i m O' H':=fun {O7 H7} I7 n7=>by obtain ⟨m',hm,w7⟩:=hN O7 H7 n7;refine ⟨m',hm,i+1,O7,H7,I7.unpinned,T.keep _ _ _ st5 fun b hb o e=>(I7.pin (b,o) (fY _ (fY _ (qN hb e)))).1,fun b hb=>?_,w7⟩;obtain ⟨o,e,d⟩:=T.obj _ _ st5 b hb;exact (I7.pin (b,o) (fY _ (fY _ (qN hb e)))).2.1
  cases f with
  | next=>obtain ⟨O7,H7,I7,n7⟩:=q7;exact again I7 n7
  | cont=>obtain ⟨O7,H7,I7,n7⟩:=q7;exact again I7 n7
  | brk=>obtain ⟨O7,H7,I7,q7⟩:=q7;exact ⟨O7,H7,I7.unpinned,q7⟩
  | ret v=>obtain ⟨x7,O7,H7,I7,r7,q7⟩:=q7;exact ⟨x7,O7,H7,I7.unpinned,r7,q7⟩
end
end
section
variable {pj:Pq} {op:CmpOp} {g:Int->Int->Int} {us:List Value}
abbrev R2:=V->V->Hp->VK->Prop
def OpR (X:Cx) (f:Value->Value->Sem Value) (r:R2):Prop :=
 ∀ (pj:Pq) (s:Shared) (O:St) (H:Hp) (x y:V) (v u:Value) (Q:VK),Inv X pj O H s->aC x v->aC y u->r x y H Q ->
  wpAny (model X.prog X.w) X.A (f v u) (EP X pj O Q) X.xe s
def UnR (X:Cx) (f:Value->Sem Value) (r:V->Hp->VK->Prop):Prop :=
 ∀ (pj:Pq) (s:Shared) (O:St) (H:Hp) (x:V) (v:Value) (Q:VK),Inv X pj O H s->aC x v->r x H Q ->
  wpAny (model X.prog X.w) X.A (f v) (EP X pj O Q) X.xe s
def jR (X:Cx) (f:Value) (r:List V->Hp->VK->Prop):Prop :=
 ∀ (pj:Pq) (s:Shared) (O:St) (H:Hp) (xs:List V) (us:List Value) (Q:VK),Inv X pj O H s->aH xs us->r xs H Q ->
  wpAny (model X.prog X.w) X.A (call f us) (EP X pj O Q) X.xe s
def TruR (X:Cx) (r:V->Hp->(Bool->Hp->Prop)->Prop):Prop :=
 ∀ (pj:Pq) (s:Shared) (O:St) (H:Hp) (x:V) (v:Value) (Q:Bool->Hp->Prop),Inv X pj O H s->aC x v->r x H Q ->
  wpAny (model X.prog X.w) X.A (truthy v) (TP X pj O Q) X.xe s
def tOp (r:R2) (ta tb:TE):TE:=fun O H Q=>ta O H fun x H1=>tb O H1 fun y H2=>r x y H2 Q
def tUn (r:V->Hp->VK->Prop) (ta:TE):TE:=fun O H Q=>ta O H fun x H1=>r x H1 Q
def rI (C:Int->Int->Prop) (g:Int->Int->V):R2:=fun x y H Q=>∃ i j,x=.int i/\y=.int j/\C i j/\Q (g i j) H
def rI0 (g:Int->Int->V):R2:=fun x y H Q=>∃ i j,x=.int i/\y=.int j/\Q (g i j) H
def rU (g:Int->V):V->Hp->VK->Prop:=fun x H Q=>∃ i,x=.int i/\Q (g i) H
section
variable {X:Cx} {a b c:Expr} {ta tb tc:TE} {pos:Pos}
theorem bI (ha:PE X a ta) (hb:PE X b tb) {s:Shared} {O:St} {H:Hp} {R:V->V->Hp->Prop} (I:Inv X pj O H s)
  (h:ta O H fun x H1=>tb O H1 fun y H2=>R x y H2) {Q:Vq} {f:Value->Value->Sem Value}
  (hf:∀ v u s2 x y H2,Inv X pj O H2 s2->aC x v->aC y u->R x y H2->wpAny (model X.prog X.w) X.A (f v u) Q X.xe s2) :
  wpAny (model X.prog X.w) X.A (eval a X.env) (fun v s₁=>wpAny (model X.prog X.w) X.A (eval b X.env) (fun u s₂=>wpAny (model X.prog X.w) X.A (f v u) Q X.xe s₂) X.xe s₁) X.xe s:=by
 refine thn (ha pj s O H _ I h) fun v s1 ⟨x,H1,I1,r1,q1⟩=>?_;refine thn (hb pj s1 O H1 _ I1 q1) fun u s2 ⟨y,H2,I2,r2,q2⟩=>?_;exact hf v u s2 x y H2 I2 r1 r2 q2
theorem yI {op:Operator} {r:R2} (ho:OpR X (binaryOp op) r) (ha:PE X a ta) (hb:PE X b tb):PE X (.BinOp a op b pos) (tOp r ta tb):=by intro pj s O H Q I h;exact wpAny_BinOp (bI ha hb I h fun v u s2 x y H2 I2 rx ry q=>ho pj s2 O H2 x y v u Q I2 rx ry q)
theorem JE {op:UnaryOp} {r:V->Hp->VK->Prop} (ho:UnR X (unaryOp op) r) (ha:PE X a ta):PE X (.UnaryOp op a pos) (tUn r ta):=by intro pj s O H Q I h;exact UnaryOp_ (thn (ha pj s O H _ I h) fun v s1 ⟨x,H1,I1,r1,q1⟩=>ho pj s1 O H1 x v Q I1 r1 q1)
theorem opI {f:Value->Value->Sem Value} {C:Int->Int->Prop}
  (rule:∀ (i j:Int) (t u:Tok) (s:Shared) (Q:Vq) (E:Vq),C i j->Q (.int (g i j) s.toks) { s with toks:=s.toks+1 }->wpAny (model X.prog X.w) X.A (f (.int i t) (.int j u)) Q E s) :
  OpR X f (rI C fun i j=>.int (g i j)):=by
 intro pj s O H x y v u Q I rx ry h;obtain ⟨i,j,rfl,rfl,hc,q⟩:=h;obtain ⟨t,rfl⟩:=rx;obtain ⟨t',rfl⟩:=ry;exact rule i j t t' s _ _ hc ⟨.int (g i j),H,I.tok _,⟨_,rfl⟩,q⟩
theorem opI0 {f:Value->Value->Sem Value}
  (rule:∀ (i j:Int) (t u:Tok) (s:Shared) (Q:Vq) (E:Vq),Q (.int (g i j) s.toks) { s with toks:=s.toks+1 }->wpAny (model X.prog X.w) X.A (f (.int i t) (.int j u)) Q E s) :
  OpR X f (rI0 fun i j=>.int (g i j)):=by
 intro pj s O H x y v u Q I rx ry h;obtain ⟨i,j,rfl,rfl,q⟩:=h;obtain ⟨t,rfl⟩:=rx;obtain ⟨t',rfl⟩:=ry;exact rule i j t t' s _ _ ⟨.int (g i j),H,I.tok _,⟨_,rfl⟩,q⟩
theorem opB0 {f:Value->Value->Sem Value} {g:Int->Int->Bool}
  (rule:∀ (i j:Int) (t u:Tok) (s:Shared) (Q:Vq) (E:Vq),Q (.bool (g i j)) s->wpAny (model X.prog X.w) X.A (f (.int i t) (.int j u)) Q E s) :
  OpR X f (rI0 fun i j=>.bl (g i j)):=by
 intro pj s O H x y v u Q I rx ry h;obtain ⟨i,j,rfl,rfl,q⟩:=h;obtain ⟨t,rfl⟩:=rx;obtain ⟨t',rfl⟩:=ry;exact rule i j t t' s _ _ ⟨.bl (g i j),H,I,rfl,q⟩
def CDiv (i j:Int):Prop:=0<j/\j<1073741824
def CMul (i j:Int):Prop:=(-(2 ^ 64)<i/\i<2 ^ 64)\/(-(2 ^ 64)<j/\j<2 ^ 64)
theorem CMul.ok {i j:Int} (h:CMul i j):IntMulOk i j:=by
 rcases h with ⟨h1,h2⟩ | ⟨h1,h2⟩
 .exact .of_left (intBits_le_64 h1 h2)
 .exact .of_right (intBits_le_64 h1 h2)
theorem JF:OpR X (binaryOp .Add) (rI0 fun i j=>.int (i+j)):=opI0 fun _ _ _ _ _ _ _ q=>add_int q
theorem JG:OpR X (binaryOp .Sub) (rI0 fun i j=>.int (i-j)):=opI0 fun _ _ _ _ _ _ _ q=>sub_int q
theorem JH:OpR X (binaryOp .Mult) (rI CMul fun i j=>.int (i*j)):=opI fun _ _ _ _ _ _ _ hc q=>mul_int q hc.ok
theorem JI:OpR X (binaryOp .FloorDiv) (rI CDiv fun i j=>.int (i/j)):=opI fun i j _ _ _ _ _ hc q=>by have h1:(0:Int)<j:=hc.1;have h2:j<1073741824:=hc.2;exact floordiv_int (by lia) (by rw [Int.fdiv_eq_ediv_of_nonneg i (by lia)];exact q) (.inl (PyProof.noPylong_small (by lia)))
theorem JJ:OpR X (binaryOp .Mod) (rI (fun _ j=>0<j) fun i j=>.int (i%j)):=opI fun i j _ _ _ _ _ hc q=>by have h1:(0:Int)<j:=hc;exact mod_int' (by lia) (by rw [Int.fmod_eq_emod_of_nonneg i (by lia)];exact q)
theorem JK {f:Value->Sem Value} {g:Int->Int}
  (rule:∀ (i:Int) (t:Tok) (s:Shared) (Q:Vq) (E:Vq),Q (.int (g i) s.toks) { s with toks:=s.toks+1 }->wpAny (model X.prog X.w) X.A (f (.int i t)) Q E s) :
  UnR X f (rU fun i=>.int (g i)):=by
 intro pj s O H x v Q I rx h;obtain ⟨i,rfl,q⟩:=h;obtain ⟨t,rfl⟩:=rx;exact rule i t s _ _ ⟨.int (g i),H,I.tok _,⟨_,rfl⟩,q⟩
theorem JL:UnR X (unaryOp .USub) (rU fun i=>.int (-i)):=JK fun _ _ _ _ _ q=>neg_int q
end
section
variable {X:Cx} {a b c:Expr} {ta tb tc:TE} {pos:Pos}
theorem tH {O:St} {H:Hp} {s:Shared} {Q:VK} {k k':Bool} (I:Inv X pj O H s) (q:Q (.bl k) H) (e:k=k'):EP X pj O Q (.bool k') s:=by subst e;exact ⟨.bl k,H,I,rfl,q⟩
theorem JM:OpR X (compareOp .Lt) (rI0 fun i j=>.bl (decide (i<j))):=opB0 fun _ _ _ _ _ _ _ q=>lt_int q
theorem JN:OpR X (compareOp .Gt) (rI0 fun i j=>.bl (decide (j<i))):=opB0 fun _ _ _ _ _ _ _ q=>gt_int q
theorem JO:OpR X (compareOp .Lt) (fun x y H Q=>∃ i j,x=.str i/\y=.str j/\Q (.bl (decide (i.cps.toList<j.cps.toList))) H):=by intro pj s O H x y v u Q I rx ry h;obtain ⟨i,j,rfl,rfl,q⟩:=h;obtain ⟨t,rfl⟩:=rx;obtain ⟨t',rfl⟩:=ry;exact lt_str (tH I q rfl)
theorem JP:OpR X (compareOp .Is) (fun x y H Q=>y=.non/\Q (.bl (decide (x=.non))) H):=by
 intro pj s O H x y v u Q I rx ry h;obtain ⟨rfl,q⟩:=h;cases ry;refine is_none_gen (tH I q ?_);cases x<;>first
  | (cases rx;rfl)
  | (obtain ⟨t,rfl⟩:=rx;rfl)
theorem JQ:OpR X (compareOp .IsNot) (fun x y H Q=>y=.non/\Q (.bl (!decide (x=.non))) H):=by
 intro pj s O H x y v u Q I rx ry h;obtain ⟨rfl,q⟩:=h;cases ry;refine isnot_none_gen (tH I q ?_);cases x<;>first
  | (cases rx;rfl)
  | (obtain ⟨t,rfl⟩:=rx;rfl)
theorem mR (b:Expr) (h:op≠.In:=by decide) (h2:op≠.NotIn:=by decide):behindInMarks op b=false:=by
 have e1:(op==CmpOp.In)=false:=by cases op<;>first | rfl | exact absurd rfl h
 have e2:(op==CmpOp.NotIn)=false:=by cases op<;>first | rfl | exact absurd rfl h2
 cases b<;>simp [behindInMarks,e1,e2]
theorem JR {r:R2} (ho:OpR X (compareOp op) r) (ha:PE X a ta) (hb:PE X b tb) (hm:behindInMarks op b=false):PE X (.Compare a [op] [b] pos) (tOp r ta tb):=by intro pj s O H Q I h;exact wpAny_Compare1 (bI ha hb I h fun v u s2 x y H2 I2 rx ry q=>ho pj s2 O H2 x y v u Q I2 rx ry q) hm
def JS (t:TE):TT:=fun O H Q=>t O H fun x H'=>∃ k,x=.bl k/\Q k H'
theorem JT {r:R2} (ho:OpR X (compareOp op) r) (ha:PE X a ta) (hb:PE X b tb) (hm:behindInMarks op b=false):PT X (.Compare a [op] [b] pos) (JS (tOp r ta tb)):=by
 intro pj s O H Q I h;refine wpAny_isTrue_Compare1 (thn (ha pj s O H _ I h) fun v s1 ⟨x,H1,I1,r1,q1⟩=>thn (hb pj s1 O H1 _ I1 q1) fun u s2 ⟨y,H2,I2,r2,q2⟩ =>thn (ho pj s2 O H2 x y v u _ I2 r1 r2 q2) fun c s3 ⟨z,H3,I3,r3,k,e,q3⟩=>?_) hm;subst e;cases r3;exact wpAny_truthy_bool ⟨H3,I3,q3⟩
def tI (K:W.Frag) (x:V) (H:Hp) (k:Bool):Prop :=
 match x with
 | .non=>k=false
 | .bl b=>k=b
 | .int i=>k=(i != 0)
 | .str y=>y.length<=sizeLine/\k=((y.length:Int) != 0)
 | .byt y=>y.size<=sizeLine/\k=((y.size:Int) != 0)
 | .ref p=>(∃ xs,SqL K H p xs/\k=!xs.isEmpty)\/(∃ xs,SqT K H p xs/\k=!xs.isEmpty)\/∃ qb,H p=some (.dK qb)/\k=!qb.isEmpty
 | _=>False
theorem JU {κ:Type} {qb:List (κ × V)} {vs:List (κ × Value)} (r:KV qb vs):(!vs.isEmpty)=!qb.isEmpty:=by cases r<;>rfl
theorem yJ {xs:List V} {qc:List Value} (r:aH xs qc):(!qc.toArray.isEmpty)=!xs.isEmpty:=by cases r<;>simp
theorem qO:(sizeLine:Nat)<2 ^ 63:=by rw [eT];decide
theorem JV:TruR X (fun x H Q=>∃ k,tI X.K x H k/\Q k H):=by
 intro pj s O H x v Q I rx h;obtain ⟨k,e,q⟩:=h;have hl:=qO;have hs:sizeLine=16777216:=eT;cases x with
 | non =>cases rx;have e':k=false:=e;subst e';exact truthy_none ⟨H,I,q⟩
 | bl b =>cases rx;have e':k=b:=e;subst e';exact wpAny_truthy_bool ⟨H,I,q⟩
 | int i =>obtain ⟨t,rfl⟩:=rx;have e':k=(i != 0):=e;subst e';exact PySem.P.truthy_int ⟨H,I,q⟩
 | str y =>obtain ⟨t,rfl⟩:=rx;obtain ⟨hy,e'⟩:y.length<=sizeLine/\k=((y.length:Int) != 0):=e;subst e';exact PySem.P.truthy_str (by lia) ⟨H,I.tok _,q⟩
 | byt y =>obtain ⟨t,rfl⟩:=rx;obtain ⟨hy,e'⟩:y.size<=sizeLine/\k=((y.size:Int) != 0):=e;subst e';exact PySem.W.truthy_bytes (by lia) ⟨H,I.tok _,q⟩
 | ref p =>
  cases rx;have e':(∃ xs,SqL X.K H p xs/\k=!xs.isEmpty)\/(∃ xs,SqT X.K H p xs/\k=!xs.isEmpty)\/∃ qb,H p=some (.dK qb)/\k=!qb.isEmpty:=e;rcases e' with ⟨xs,hx,e'⟩ | ⟨xs,hx,e'⟩ | ⟨qb,hx,e'⟩
  .subst e';obtain ⟨qc,r,pl,hz⟩:=I.list hx;have hlen:=r.length;exact wpAny_truthy_list pl.isList (by simp only [List.size_toArray];lia) ⟨H,I.tok _,by rw [yJ r];exact q⟩
  .subst e';obtain ⟨qc,r,pl,hz⟩:=I.tuple hx;have hlen:=r.length;exact truthy_tuple pl (by simp only [List.size_toArray];lia) ⟨H,I.tok _,by rw [yJ r];exact q⟩
  .subst e';obtain ⟨hz,hS,vs,r,m⟩:qb.length<=sizeLine/\(p==sysModules)=false/\∃ vs,KV qb vs/\s.heap.DictOf (eQ X.prog X.w) p vs:=I.hok p _ hx;have hlen:qb.length=vs.length:=Paired.length r;exact wpAny_truthy_dict hS m (by lia) ⟨H,I.tok _,by rw [JU r];exact q⟩
 | _=>exact (show False from e).elim
theorem JW (ha:PE X a ta) (he:∀ whole,isTrue a X.env whole=(do let v <- whole;standAt a.pos;holding [v] (truthy v))) :
  PT X a (fun O H Q=>ta O H fun x H'=>∃ k,tI X.K x H' k/\Q k H'):=by
 intro pj s O H Q I h;exact isTrue_plain (thn (ha pj s O H _ I h) fun v s1 ⟨x,H1,I1,r1,q1⟩=>JV pj s1 O H1 x v Q I1 r1 q1) (he _)
theorem jS {x:V} (r:aH [x] us):∃ u,us=[u]/\aC x u:=by
 cases r with
 | cons r1 r2=>cases r2;exact ⟨_,rfl,r1⟩
theorem tJ {x y:V} (r:aH [x,y] us):∃ u w',us=[u,w']/\aC x u/\aC y w':=by
 cases r with
 | cons r1 r2 =>
  cases r2 with
  | cons r3 r4=>cases r4;exact ⟨_,_,rfl,r1,r3⟩
theorem yK:jR X (.type "int") (fun xs H Q=>(∃ i,xs=[.int i]/\Q (.int i) H)\/∃ k,xs=[.bl k]/\Q (.int (if k then 1 else 0)) H):=by
 intro pj s O H xs us Q I r h;rcases h with ⟨i,rfl,q⟩ | ⟨k,rfl,q⟩
 .obtain ⟨u,rfl,t,rfl⟩:=jS r;exact call_int_int ⟨.int i,H,I,⟨_,rfl⟩,q⟩
 .obtain ⟨u,rfl,r1⟩:=jS r;cases r1;exact call_int_bool ⟨.int (if k then 1 else 0),H,I.tok _,⟨_,rfl⟩,q⟩
end
end
section
section
variable {prog:Program} {w:World} {A:Around} {E:Vq} {s:Shared} {K:W.Frag} {x dx C f:Addr} {mA:Str->Option Value} {name:Str} {v:Value}
end
theorem eC.some_of {v:V} {o:Option Value} (r:eC (some v) o):∃ u,o=some u/\aC v u:=by
 cases o with
 | none=>exact (show False from r).elim
 | some u=>exact ⟨u,rfl,r⟩
section
variable {P:Program} {w:World} {H H':Hp} {h h':Heap} {a C dx:Addr} {fs fs':List (Str × V)}
end
section
variable {X:Cx} {pj:Pq} {O:St} {H:Hp} {s:Shared} {a C dx:Addr} {fs:List (Str × V)} {f:Str} {v:V} {A:Around} {E:Vq}
end
section
variable {X:Cx} {o e value:Expr} {f:Str} {pos pos' tpos:Pos} {ta tv:TE}
end
section
variable {X:Cx} {pj:Pq} {O:St} {H:Hp} {s:Shared} {A:Around} {E:Vq} {Q:Vq} {c:Value} {b:Bool}
end
end
section
variable {K:W.Frag} {us:List Value} {mg:Str->Option Value} {scope:Scope}
structure Room (k:Nat) (A:Around):Prop where
 hd:A.handled=none
 dp:A.depth+3*k+5<recursionLimit
 un:A.units+16*k+200<cLine
theorem Room.deeper {k:Nat} {A:Around} (r:Room (k+1) A) (env:Env):Room k (A.deeper env) :=
 ⟨r.hd,by have:=r.dp;show A.depth+1+3*k+5<_;lia,by have:=r.un;show A.units+3+16*k+200<_;lia⟩
theorem Room.depth {k:Nat} {A:Around} (r:Room k A):A.depth<recursionLimit:=by have:=r.dp;lia
def tNil:TA:=fun _ H Q=>Q [] H
def JX (ta:TE) (tr:TA):TA:=fun O H Q=>ta O H fun x H1=>tr O H1 fun xs H2=>Q (x::xs) H2
section
variable {X:Cx} {e:Expr} {es:List Expr} {te:TE} {t:TA} {pos:Pos}
theorem tK:PA X [] tNil:=fun _ _ _ _ H Q I h=>Calls.spliced_nil ⟨[],H,I,.nil,h⟩
theorem tL (ha:PE X e te) (hr:PA X es t) (hs:starEach (e::es) X.env=(false,eval e X.env)::starEach es X.env:=by rfl):PA X (e::es) (JX te t):=by intro pos pj s O H Q I h;rw [hs];show wpAny _ _ (spliced ((false,eval e X.env)::backTo pos (starEach es X.env))) _ _ s;refine Calls.spliced_cons (thn (ha pj s O H _ I h) fun u s1 ⟨x,H1,I1,r1,q1⟩=>?_);exact thn (hr pos pj s1 O H1 _ I1 q1) fun us s2 ⟨xs,H2,I2,r2,q2⟩=>⟨x::xs,H2,I2,.cons r1 r2,q2⟩
def tTup (t:TA):TE:=fun O H Q=>t O H fun xs H1=>xs.length<=sizeLine/\∀ p,H1 p=none->Q (.ref p) (aP H1 p (.tup xs))
def tLst (t:TA):TE:=fun O H Q=>t O H fun xs H1=>xs.length<=sizeLine/\∀ p,H1 p=none->Q (.ref p) (aP H1 p (.lst xs))
theorem JY {x1} (h:PA X es t):PE X (.Tuple es x1 pos) (tTup t):=by intro pj s O H Q I hq;refine wpAny_Tuple_spliced (thn (h pos pj s O H _ I hq) fun us s1 ⟨xs,H1,I1,r,z,q⟩=>⟨by rw [<- r.length];exact z,?_⟩);have hf:H1 s1.heap.objs.size=none:=I1.hok.fresh (aV _);refine ⟨.ref s1.heap.objs.size,aP H1 s1.heap.objs.size (.tup xs),I1.laid (t':=s1.toks) (fun b u e=>aU _ e) (aV _) ?_,rfl,q _ hf⟩;exact ⟨z,us,r,⟨_,cX _ rfl,rfl,_,rfl⟩⟩
theorem yL (h:PA X es t):PE X (.List es pos) (tLst t):=by intro pj s O H Q I hq;refine wpAny_List_spliced (thn (h pos pj s O H _ I hq) fun us s1 ⟨xs,H1,I1,r,z,q⟩=>⟨by rw [<- r.length];exact z,?_⟩);have hf:H1 s1.heap.objs.size=none:=I1.hok.fresh (aV _);refine ⟨.ref s1.heap.objs.size,aP H1 s1.heap.objs.size (.lst xs),I1.laid (t':=s1.toks) (fun b u e=>aU _ e) (aV _) ?_,rfl,q _ hf⟩;exact ⟨z,us,0,r,cX _ rfl⟩
end
abbrev Sp:=List V->Hp->VK->XK->Prop
abbrev CXT:=List Env->Hp->Shared->XK->Value->Shared->Prop
structure Env0 (P:Program) (w:World) (K:W.Frag) (mg:Str->Option Value) (base:Heap) (A:Around) (outer:List Env) (s:Shared) (H:Hp):Prop where
 frames:A.frames=some outer
 mod:Mod K mg base
 bs:∀ b o,base.get? b=some o->s.heap.get? b=some o/\H b=none
 bsz:base.objs.size<=s.heap.objs.size
 funs:s.heap.FunFrames base outer
 frf:∀ b∈frs outer,H b=none
 hok:HOk P w H s.heap
 bare:AllBare s.gens
def CE (outer:List Env) (P:Program) (w:World) (H:Hp) (s:Shared) (Q:VK) (u:Value) (s':Shared):Prop :=
 ∃ v H',s'.os=s.os/\AllBare s'.gens/\Un (frs outer) [] H H' s.heap s'.heap/\HOk P w H' s'.heap/\aC v u/\Q v H'
def CR (CX:CXT) (outer:List Env) (P:Program) (w:World) (H:Hp) (s:Shared) (Q:VK) (E:XK) (r:Result) (s':Shared):Prop :=
 match r with
 | .ok (.ret u)=>CE outer P w H s Q u s'
 | .ok _=>False
 | .error e=>CX outer H s E e s'
structure FnOk (P:Program) (w:World) (K:W.Frag) (mg:Str->Option Value) (base:Heap) (CX:CXT) (k:Nat) (f:Addr) (fd:FuncData) (ps:List Str) (sp:Sp):Prop where
 len:∀ vs H Q E,sp vs H Q E->vs.length=ps.length
 run:∀ (A:Around) (outer:List Env) (s:Shared) (H:Hp) (args:Args) (us:List Value) (vs:List V) (Q:VK) (E:XK),Room k A->Env0 P w K mg base A outer s H->BindsTo s fd args (ps.zip us)->aH vs us->sp vs H Q E ->
  codeAny (model P w) A (.call (.ref f) args) (CR CX outer P w H s Q E) s
section
variable {X:Cx} {pj:Pq} {O:St} {H:Hp} {s s':Shared}
theorem Inv.env0 (I:Inv X pj O H s):Env0 X.prog X.w X.K X.mg X.base X.A X.stack s H :=
 ⟨I.ok.frames,I.ok.mod,I.bs,cG I.ok.bsz I.sz,I.stack,I.stkFree,I.hok,I.bare⟩
theorem Inv.after {Q:VK} {u:Value} (I:Inv X pj O H s) (h:CE X.stack X.prog X.w H s Q u s'):EP X pj O Q u s':=by obtain ⟨v,H',os,bare,un,hok,r,q⟩:=h;obtain ⟨hh,g,d,t,os'⟩:=s';obtain rfl:os'=s.os:=os;exact ⟨v,H',I.call (h':=hh) (g':=g) (d':=d) (t':=t) (ch:=[]) un hok bare (fun b z=>absurd z (by simp)),r,q⟩
end
def JZ (sp:Sp) (dvs:List V) (E:XK) (t:TA):TE:=fun O H Q=>t O H fun vs H1=>sp (vs++dvs) H1 Q E
def Binds (K:W.Frag) (fd:FuncData) (ps:List Str) (ds:List Value):Prop :=
 ∀ (s:Shared) (us:List Value),K.In s.heap->(us++ds).length=ps.length->BindsTo s fd ⟨us,[]⟩ (ps.zip (us++ds))
theorem Binds.all {fd:FuncData} {ps:List Str} (h:∀ us:List Value,us.length=ps.length->bindArgs fd ⟨us,[]⟩=pure (ps.zip us)):Binds K fd ps []:=fun s us _ hl=>by rw [eO] at hl ⊢;exact .of_eq (h us hl)
def tM (CX:CXT) (X:Cx) (E:XK):Prop:=∀ (pj:Pq) (O:St) (H:Hp) (s:Shared) (e:Value) (s':Shared),Inv X pj O H s->CX X.stack H s E e s'->X.xe e s'
section
variable {X:Cx} {CX:CXT} {k:Nat} {f C:Addr} {fd:FuncData} {ps:List Str} {sp:Sp} {dvs:List V} {ds:List Value} {E:XK} {x m:Str} {p pos apos:Pos} {e o:Expr} {es:List Expr} {ta:TE} {t:TA}
theorem KA {pj:Pq} {O:St} {H:Hp} {s:Shared} {Q:VK} {vs:List V} (F:FnOk X.prog X.w X.K X.mg X.base CX k f fd ps sp) (hr:Room k X.A) (hb:Binds X.K fd ps ds) (hd:aH dvs ds) (hx:tM CX X E)
  (I:Inv X pj O H s) (r:aH vs us) (h:sp (vs++dvs) H Q E):wpAny (model X.prog X.w) X.A (call (.ref f) us) (EP X pj O Q) X.xe s:=by
 have r2:aH (vs++dvs) (us++ds):=r.append hd;have hl:(us++ds).length=ps.length:=by rw [<- r2.length];exact F.len _ _ _ _ h
 refine wpAny_call (codeAny_mono (F.run X.A X.stack s H ⟨us,[]⟩ (us++ds) (vs++dvs) Q E hr I.env0 (hb s us I.kIn hl) r2 h) fun r s' hq=>?_);cases r with
 | error e=>exact hx pj O H s e s' I hq
 | ok fl =>
  cases fl with
  | ret u=>exact I.after hq
  | next=>exact False.elim hq
  | brk=>exact False.elim hq
  | cont=>exact False.elim hq
theorem KB (F:FnOk X.prog X.w X.K X.mg X.base CX k f fd ps sp) (hr:Room k X.A) (hg:Gl X x) (hm:X.mg x=some (.ref f)) (hk:W.keepIn X.K (.ref f)=true) (hb:Binds X.K fd ps ds) (hd:aH dvs ds) (hx:tM CX X E)
  (ha:PA X (e::es) t) (hdb:(x==("__debug__":Str))=false:=by decide) (he:starEach (e::es) X.env=(false,eval e X.env)::starEach es X.env:=by rfl) (hpl:(backTo pos (starEach es X.env)).any (·.1)=false:=by rfl) :
  PE X (.Call (.Name x p) (e::es) [] pos) (JZ sp dvs E t):=by
 intro pj s O H Q I h;refine wpAny_Call_Name_kw (HZ I hg hm ?_ hdb);refine PySem.W.callWith_K (h₀:=X.base) I.ok.mod.kin hk (thn (ha pos pj s O H _ I h) fun us s1 ⟨vs,H1,I1,r,q⟩=>⟨I1.kIn,?_⟩) he hpl;exact KA F hr hb hd hx I1 r q
end
section
variable {X:Cx} {CX:CXT} {k:Nat} {f C:Addr} {fd:FuncData} {ps ks:List Str} {sp:Sp} {E:XK} {x m:Str} {p pos apos kpos:Pos} {e o:Expr} {es:List Expr} {kws:List Keyword} {te ta:TE} {t tk:TA} {nm:Option Str}
variable {g:List Value->List Value->List Value} {gV:List V->List V->List V}
end
structure FnScope (N P:List Str) (sc:Scope):Prop where
 kind:sc.kind=.function
 co:sc.isCoroutine=false
 gen:sc.isGenerator=false
 nd:N.Nodup
 pre:N.take P.length=P
 par:∀ x∈P,sc.names.lookup x=some .local\/sc.names.lookup x=some .cell
 nofree:∀ y∈sc.names,y.2≠.free
theorem yM {kindOf:Str->Option NameKind} {x:Str}:∀ {binds:List (Str × Value)} {m:Str->Option Value},(∀ v,(x,v)∉binds)->bindL kindOf binds m x=m x
 | [],_,_=>rfl
 | (n,v)::r,m,h=>by
  unfold bindL;rw [yM fun w hw=>h w (cL _ hw)];split
  .have:x≠n:=by rintro rfl;exact h v cW
   simp [this]
  .rfl
theorem yN {kindOf:Str->Option NameKind} {x:Str}:∀ {binds:List (Str × Value)} {m:Str->Option Value},(∀ v,(x,v)∉binds)->bindC kindOf binds m x=m x
 | [],_,_=>rfl
 | (n,v)::r,m,h=>by
  unfold bindC;rw [yN fun w hw=>h w (cL _ hw)];split
  .rfl
  .have:x≠n:=by rintro rfl;exact h v cW
   simp [this]
theorem yO {kindOf:Str->Option NameKind} {x:Str} {v:Value}:∀ {P:List Str} {vs:List Value} {i:Nat} {m:Str->Option Value},P.Nodup->P[i]?=some x->vs[i]?=some v->kindOf x=some .local ->
  bindL kindOf (P.zip vs) m x=some v
 | [],_,_,_,_,h,_,_=>by simp at h
 | _::_,[],_,_,_,_,h,_=>by simp at h
 | p::P,w::vs,0,m,nd,h1,h2,hk=>by simp at h1 h2;subst h1;subst h2;show bindL kindOf ((p,w)::P.zip vs) m p=_;unfold bindL;rw [yM fun v hv=>(cK.mp nd).1 (List.of_mem_zip hv).1,if_pos hk];simp
 | p::P,w::vs,i+1,m,nd,h1,h2,hk=>by show bindL kindOf ((p,w)::P.zip vs) m x=_;unfold bindL;exact yO (i:=i) (cK.mp nd).2 (by simpa using h1) (by simpa using h2) hk
theorem yP {kindOf:Str->Option NameKind} {x:Str} {v:Value}:∀ {P:List Str} {vs:List Value} {i:Nat} {m:Str->Option Value},P.Nodup->P[i]?=some x->vs[i]?=some v->kindOf x≠some .local ->
  bindC kindOf (P.zip vs) m x=some v
 | [],_,_,_,_,h,_,_=>by simp at h
 | _::_,[],_,_,_,_,h,_=>by simp at h
 | p::P,w::vs,0,m,nd,h1,h2,hk=>by simp at h1 h2;subst h1;subst h2;show bindC kindOf ((p,w)::P.zip vs) m p=_;unfold bindC;rw [yN fun v hv=>(cK.mp nd).1 (List.of_mem_zip hv).1,if_neg hk];simp
 | p::P,w::vs,i+1,m,nd,h1,h2,hk=>by show bindC kindOf ((p,w)::P.zip vs) m x=_;unfold bindC;exact yP (i:=i) (cK.mp nd).2 (by simpa using h1) (by simpa using h2) hk
def start (N:List Str) (vs:List V):St:=vs.map some++List.replicate (N.length-vs.length) none
def lP (CX:CXT) (P:Program) (w:World) (K:W.Frag) (mg:Str->Option Value) (base:Heap) (N:List Str) (qual:Str) (scope:Scope) (f:Addr) (cd:Value) (A:Around) (outer:List Env) (s:Shared) (H:Hp) (E:XK):Cx where
 prog:=P
 w:=w
 K:=K
 mg:=mg
 base:=base
 A:=A.deeper (envOfC qual scope s.heap.objs.size f cd)
 N:=N
 s₀:=s
 H₀:=H
 env:=envOfC qual scope s.heap.objs.size f cd
 outer:=outer
 stack:=envOfC qual scope s.heap.objs.size f cd::outer
 ex:=[]
 calm:=true
 fn:=fun _=>true
 pn:=[]
 xe:=fun e s'=>wpAny (model P w) (A.deeper (envOfC qual scope s.heap.objs.size f cd)) (leaving (envOfC qual scope s.heap.objs.size f cd) e) (fun _ s''=>CX outer H s E e s'') (fun e' s''=>CX outer H s E e' s'') s'
theorem yQ {sc:Scope} {n:Nat} {x:Str} (h:sc.names.lookup x=some .cell):∃ c,(cellsFrom n sc.names []).lookup x=some c:=by have q:=W.cellsFrom_some sc.names n [] (.inl h);exact Option.isSome_iff_exists.mp q
theorem KC {CX:CXT} {P:Program} {w:World} {base:Heap} {N ps:List Str} {qual:Str} {f:Addr} {cd:Value} {A:Around} {outer:List Env} {s s1:Shared} {H:Hp} {E:XK} {vs:List V}
  (S:FnScope N ps scope) (hd:A.handled=none) (e0:Env0 P w K mg base A outer s H) (hl:vs.length=ps.length) (r:aH vs us)
  (x:InCallC s s.heap.objs.size (bindL (envOfC qual scope s.heap.objs.size f cd).kindOf (ps.zip us) fun _=>none) (cellsFrom (s.heap.objs.size+1) scope.names []) (bindC (envOfC qual scope s.heap.objs.size f cd).kindOf (ps.zip us) fun _=>none) s1) :
  Inv (lP CX P w K mg base N qual scope f cd A outer s H E) [] (start N vs) H s1:=by
 have hpl:ps.length<=N.length:=by have:=aW List.length S.pre;rw [tB] at this;lia
 obtain ⟨h1,tk,rfl,hk⟩:=x.done;have noA:∀ b:Addr,b∉(lP CX P w K mg base N qual scope f cd A outer s H E).ex:=fun b z=>absurd (show b∈([]:List Addr) from z) (by simp);refine ⟨⟨e0.mod,S.kind,rfl,rfl,aV _,fun y z c h1 h2=>?_,fun y hy=>?_,fun y c _ h=>?_,fun _=>hd,Around.frames_deeper e0.frames,.inr ⟨rfl,rfl⟩,fun b z=>absurd z (noA b),e0.bs,e0.bsz,fun b _ _=>noA b,fun b z=>absurd z (noA b),e0.funs,e0.frf⟩,
  rfl,e0.bare,Un.kept hk,⟨_,x.toInCall.ns,fun i y v h1 h2 h3=>?_⟩,fun y c h=>⟨_,x.cell y c h⟩,e0.hok.fresh (Nat.le_refl _),fun y c h=>?_,fun p hp=>absurd (show p∈([]:Pq) from hp) (by simp),e0.hok.kept hk,?_⟩
 .exact name_of_addr x.apart (PySem.mem_of_lookup h1) (PySem.mem_of_lookup h2)
 .have hy:scope.names.lookup y=some .cell\/scope.names.lookup y=some .free:=hy;rcases hy with hy | hy
  .exact yQ hy
  .exact absurd rfl (S.nofree _ (PySem.mem_of_lookup hy))
 .exact Nat.le_of_lt (x.above y c (PySem.mem_of_lookup h))
 .have hi:i<vs.length:=by
   unfold start at h2;by_cases hi:i<vs.length
   .exact hi
   .rw [oZ (by simpa using hi)] at h2;rw [List.getElem?_replicate] at h2;split at h2<;>cases h2
  have ha:vs[i]?=some v:=by
   unfold start at h2;rw [pA (by simpa using hi),List.getElem?_map] at h2;cases e:vs[i]? with
   | none=>rw [e] at h2;cases h2
   | some a=>rw [e] at h2;cases h2;rfl
  obtain ⟨u,hu,rv⟩:=r.get ha;have hp:ps[i]?=some y:=by rw [<- S.pre,List.getElem?_take_of_lt (by lia)];exact h1
  have ndP:ps.Nodup:=by rw [<- S.pre];exact S.nd.sublist (List.take_sublist _ _)
  refine ⟨u,rv,?_⟩;rcases S.par y (fT hp) with k | k
  .exact .inl ⟨k,yO ndP hp hu k⟩
  .obtain ⟨c,e⟩:=yQ (n:=s.heap.objs.size+1) k;refine .inr ⟨.inl k,c,e,?_⟩;have q:=x.cell y c e;rw [yP ndP hp hu (by show scope.names.lookup y≠_;rw [k];decide)] at q;exact q
 .exact e0.hok.fresh (Nat.le_of_lt (x.above y c (PySem.mem_of_lookup h)))
 .unfold start;show _=N.length;rw [dW,bA,List.length_replicate];lia
theorem KD {CX:CXT} {P:Program} {w:World} {base:Heap} {k:Nat} {f:Addr} {name qual:Str} {params:Arguments} {body:List Stmt} {dV kV doc pm cdv ct oc:Value} {an od:Option Addr}
  {osl:Array (Option Value)} {N ps:List Str} {sp:Sp} (lk:K.lookup f=some ⟨oc,od,.func (W.fnOf name qual params body scope dV kV doc pm an cdv ct),osl⟩) (hcd:W.codeIn K cdv qual=true) (S:FnScope N ps scope)
  (len:∀ vs H Q E,sp vs H Q E->vs.length=ps.length)
  (hbody:∀ (A:Around) (outer:List Env) (s:Shared) (H:Hp) (vs:List V) (Q:VK) (E:XK),Room k (A.deeper (envOfC qual scope s.heap.objs.size f cdv))->sp vs H Q E ->
   ∃ t,PSs (lP CX P w K mg base N qual scope f cdv A outer s H E) body t/\t { nx:=fun _ H'=>Q .non H',rt:=Q } (start N vs) H) :
  FnOk P w K mg base CX (k+1) f (W.fnOf name qual params body scope dV kV doc pm an cdv ct) ps sp:=by
 refine ⟨len,fun A outer s H args us vs Q E hr e0 hb r hsp=>?_⟩;have hl:=len _ _ _ _ hsp;have KX:K.In s.heap:=e0.mod.kin.keeps fun b o e=>(e0.bs b o e).1;have lim:s.heap.NoLimit:=e0.mod.nolimit.keeps fun b o e=>(e0.bs b o e).1;have hkind:∀ y∈ps.zip us,scope.names.lookup y.1=some .local\/(scope.names.lookup y.1=some .cell/\((cellsFrom (s.heap.objs.size+1) scope.names []).lookup y.1).isSome=true):=fun ⟨n,v⟩ hy=>by
  rcases S.par n (List.of_mem_zip hy).1 with q | q
  .exact .inl q
  .exact .inr ⟨q,W.cellsFrom_some _ _ _ (.inl q)⟩
 refine codeAny_call_function hr.depth (KX _ _ lk) rfl S.co S.gen rfl (PySem.W.codeRec_of KX hcd) (hb _ _ _ _ ?_);refine wpAny_newFunctionEnv_cells S.kind hkind fun env he s1 x=>?_;subst he;refine ⟨lim.keeps x.toInCall.keep,codeAny_func ?_⟩;obtain ⟨t,ht,hq⟩:=hbody A outer s H vs Q E (hr.deeper _) hsp;have I:Inv (lP CX P w K mg base N qual scope f cdv A outer s H E) [] (start N vs) H s1:=KC S hr.hd e0 hl r x;refine jO (ht [] s1 (start N vs) H _ I hq) (fun fl s' hs=>?_) fun e s' hs=>hs;have fin:∀ {O':St} {H':Hp} {v:V} {u:Value},Inv (lP CX P w K mg base N qual scope f cdv A outer s H E) [] O' H' s'->aC v u->Q v H'->CE outer P w H s Q u s' :=
  fun {O' H' v u} J rv q=>⟨v,H',J.os,J.bare,J.base,J.hok,rv,q⟩
 cases fl with
 | ret u =>obtain ⟨v,O',H',J,rv,q⟩:=hs;exact fin J rv q
 | next =>obtain ⟨O',H',J,q⟩:=hs;exact fin (v:=V.non) (u:=Value.none) J rfl q
 | brk =>obtain ⟨_,_,_,q⟩:=hs;exact False.elim q
 | cont =>obtain ⟨_,_,_,q⟩:=hs;exact False.elim q
end
section
section
variable {X:Cx} {x:Str} {p pos:Pos} {e:Expr} {es:List Expr} {t:TA} {id T:String} {r:List V->Hp->VK->Prop}
def tCB (r:List V->Hp->VK->Prop) (t:TA):TE:=fun O H Q=>t O H fun vs H1=>r vs H1 Q
theorem KF (hc:jR X (.builtin id) r) (hg:Gl X x) (hm:X.mg x=none) (hv:bootBuiltins x=some (.builtin id)) (ha:PA X (e::es) t) (hn:x≠"__name__":=by decide) (hdb:(x==("__debug__":Str))=false:=by decide)
  (he:starEach (e::es) X.env=(false,eval e X.env)::starEach es X.env:=by rfl) (hpl:(backTo pos (starEach es X.env)).any (·.1)=false:=by rfl):PE X (.Call (.Name x p) (e::es) [] pos) (tCB r t):=by
 intro pj s O H Q I h;refine wpAny_Call_Name_kw (mQ I hg hm hv ?_ hn hdb);exact PyProof.Rows.callWith_builtin1 (thn (ha pos pj s O H _ I h) fun us s1 ⟨vs,H1,I1,r1,q1⟩=>hc pj s1 O H1 vs us Q I1 r1 q1) he hpl
theorem KG (hc:jR X (.type T) r) (hg:Gl X x) (hm:X.mg x=none) (hv:bootBuiltins x=some (.type T)) (ha:PA X (e::es) t) (hn:x≠"__name__":=by decide) (hdb:(x==("__debug__":Str))=false:=by decide)
  (he:starEach (e::es) X.env=(false,eval e X.env)::starEach es X.env:=by rfl) (hpl:(backTo pos (starEach es X.env)).any (·.1)=false:=by rfl):PE X (.Call (.Name x p) (e::es) [] pos) (tCB r t):=by
 intro pj s O H Q I h;refine wpAny_Call_Name_kw (mQ I hg hm hv ?_ hn hdb);exact PyProof.Rows.callWith_type1 (thn (ha pos pj s O H _ I h) fun us s1 ⟨vs,H1,I1,r1,q1⟩=>hc pj s1 O H1 vs us Q I1 r1 q1) he hpl
end
end
end L2
namespace HT
open PySem PyProof.Rows
variable {Q:Vq} {lo hi:Option Int}
section
open PySem.SeqAt
open PySem.AutoSeq1 (wpAny_loadPart')
open PySem.MeetsSeq PySem.MeetsSeq2 PySem.MeetsSeq3
end
section
variable {prog:Program} {w:World} {A:Around} {E:Vq} {s:Shared}
theorem cat_tup {t b:Addr} {vs ws:List Value} (ht:IsTup s.heap t vs.toArray) (hb:IsTup s.heap b ws.toArray) (hv:vs≠[])
  (h1:ws=[]->Q (.ref t) s) (h2:ws≠[]->Q (.ref s.heap.objs.size) { s with heap:=s.heap.push { cls:=.type "tuple",data:=.seq (vs++ws).toArray } })
  (hsz:vs.length+ws.length<=sizeLine):wpAny (model prog w) A (binaryOp .Add (.ref t) (.ref b)) Q E s:=by
 obtain ⟨⟨cls,dd,data,sl⟩,ho,hc,n,hd⟩:=id ht;obtain ⟨⟨cls2,dd2,data2,sl2⟩,ho2,hc2,n2,hd2⟩:=id hb;simp only at hc hd hc2 hd2;subst hc hd hc2 hd2;have e:vs.toArray++ws.toArray=(vs++ws).toArray:=by simp
 by_cases hw:ws=[]
 .exact concat_meets ⟨_,ho,rfl⟩ ⟨_,ho2,rfl⟩ noFill_tuple_add seq_tuple_add PySem.F.slot_tuple_add PySem.F.entry_tuple_add (PySem.F.args_tuple_add_2 _ _)
   (tuple_addW1 t b vs.toArray ws.toArray n n2 dd dd2 sl sl2 (by simpa using hv) (by simp [hw])) ⟨ho,ho2,h1 hw⟩
 .refine concat_meets ⟨_,ho,rfl⟩ ⟨_,ho2,rfl⟩ noFill_tuple_add seq_tuple_add PySem.F.slot_tuple_add PySem.F.entry_tuple_add (PySem.F.args_tuple_add_2 _ _)
   (tuple_addW2 t b vs.toArray ws.toArray n n2 dd dd2 sl sl2 (by simpa using hv) (by simpa using hw) (by rw [lH,lH];exact hsz)) ⟨ho,ho2,?_⟩
  rw [e];exact h2 hw
def sIx (n d:Nat):Option Int->Nat
 | none=>d
 | some v=>if v<0 then (v+(n:Int)).toNat else min v.toNat n
theorem KI (n d:Nat) (hd:d<=n) (o:Option Int):sIx n d o<=n:=by
 cases o with
 | none=>exact hd
 | some v =>
  show (if v<0 then (v+(n:Int)).toNat else min v.toNat n)<=n;by_cases hv:v<0
  .rw [if_pos hv];lia
  .rw [if_neg hv];exact Nat.min_le_right _ _
theorem yR (v:Int) (n d:Nat):(if v<0 then max (v+(n:Int)) 0 else min v (n:Int))=((sIx n d (some v):Nat):Int):=by
 show (if v<0 then max (v+(n:Int)) 0 else min v (n:Int))=(((if v<0 then (v+(n:Int)).toNat else min v.toNat n):Nat):Int);by_cases hv:v<0
 .simp only [if_pos hv];lia
 .simp only [if_neg hv];lia
theorem KJ (lo hi:Option Int) (n:Nat):Builtin.Slice.sliceAdjust lo hi 1 (n:Int)=(((sIx n 0 lo:Nat):Int),((sIx n n hi:Nat):Int)):=by
 have h1:¬ ((1:Int)<0):=by lia
 unfold Builtin.Slice.sliceAdjust;simp only [h1,if_false];refine Prod.ext ?_ ?_
 .cases lo with
  | none=>rfl
  | some v=>exact yR v n 0
 .cases hi with
  | none=>rfl
  | some v=>exact yR v n n
theorem KK (i j:Nat):Builtin.Slice.slicePlaces (i:Int) (j:Int) 1=j-i:=by
 unfold Builtin.Slice.slicePlaces;have h1:(1:Int)>0:=by lia
 simp only [h1,if_true,Int.ediv_one];split<;>lia
theorem yS {v:Value} {o:Option Int} {Q:Option Int->Shared->Prop} (p:IsPart v o) (h:Q o s):wpAny (model prog w) A (Builtin.Slice.slicePartIndex v) Q E s:=by
 cases p with
 | none=>exact slicePart_none h
 | int i t=>exact slicePart_int h
theorem sliceApplied_gen {sl:Addr} {vl vu:Value} {n:Nat} {Q:Int × Int × Nat->Shared->Prop} (hs:s.heap.IsSliceOf sl vl vu .none) (pl:IsPart vl lo) (pu:IsPart vu hi)
  (h:Q (((sIx n 0 lo:Nat):Int),1,sIx n n hi-sIx n 0 lo) s):wpAny (model prog w) A (Builtin.Slice.sliceApplied (.ref sl) (pure (n:Int))) Q E s:=by
 obtain ⟨os,hos,hcs,hds⟩:=id hs;unfold Builtin.Slice.sliceApplied Builtin.Slice.sliceFields;refine aA (aA (eM hos hds (x:=vl) rfl (aA (eM hos hds (x:=vu) rfl (aA (eM hos hds (x:=.none) rfl (aI ?_)))))));refine aA (slicePart_none ?_);show wpAny _ _ (if ((1:Int)==0)=true then _ else _) _ _ s;rw [if_neg (by decide)];refine aA (yS pl (aA (yS pu (aA (aI ?_)))));show wpAny _ _ (match Builtin.Slice.sliceAdjust lo hi 1 (n:Int) with | (lo,hi)=>pure (lo,(1:Int),Builtin.Slice.slicePlaces lo hi 1)) _ _ s;rw [KJ lo hi n];show wpAny _ _ (pure (((sIx n 0 lo:Nat):Int),(1:Int),Builtin.Slice.slicePlaces ((sIx n 0 lo:Nat):Int) ((sIx n n hi:Nat):Int) 1)) _ _ s;rw [KK];exact aI h
theorem KM (xs:Array Value) (i k:Nat):((List.range k).filterMap fun (m:Nat)=>xs[((i:Int)+(m:Int)*1).toNat]?).toArray=((xs.toList.drop i).take k).toArray:=by
 have e:(fun (m:Nat)=>xs[((i:Int)+(m:Int)*1).toNat]?)=fun m=>xs[i+m]?:=by
  funext m;have:((i:Int)+(m:Int)*1).toNat=i+m:=by lia
  rw [this]
 rw [e];have:=pick_run xs i k;rw [List.filterMap_map] at this;have e2:((fun x=>xs[x]?)∘fun x=>i+x)=fun m=>xs[i+m]?:=rfl;rw [e2] at this;rw [this]
theorem getItem_tuple_cut {t sl:Addr} {items:Array Value} {vl vu:Value} (ht:IsTup s.heap t items) (hs:s.heap.IsSliceOf sl vl vu .none) (pl:IsPart vl lo) (pu:IsPart vu hi)
  (hw:¬ (sIx items.size 0 lo=0/\sIx items.size items.size hi=items.size))
  (h:Q (.ref s.heap.objs.size) { s with heap:=s.heap.push { cls:=.type "tuple",data:=.seq ((items.toList.drop (sIx items.size 0 lo)).take (sIx items.size items.size hi-sIx items.size 0 lo)).toArray } })
  (hsz:items.size<=sizeLine):wpAny (model prog w) A (getItem (.ref t) (.ref sl)) Q E s:=by
 have htake:sizeOk (.seq ((items.toList.drop (sIx items.size 0 lo)).take (sIx items.size items.size hi-sIx items.size 0 lo)).toArray):=by show ((items.toList.drop (sIx items.size 0 lo)).take (sIx items.size items.size hi-sIx items.size 0 lo)).toArray.size<=sizeLine;rw [cR,tB,List.length_drop,gM];lia
 have hj:sIx items.size items.size hi<=items.size:=KI _ _ (aV _) hi;obtain ⟨os,hos,hcs,hds⟩:=id hs;have hTs:s.TypeIs (.ref sl) "slice":=⟨os,hos,hcs⟩;unfold getItem
 try with_reducible refine fR ?_
 first | refine aA (aI ?_) | skip
 refine aA (wpAny_sequenceKey ht.typeIs (by decide) ?_);refine aA (iO (name:=Str.ofString "__getitem__") ht.typeIs PyProof.Rows.slot_tuple_getitem
  (fF PyProof.Rows.slot_tuple_getitem ht.typeIs entry_tuple_getitem ?_ (args_tuple_getitem _ _)))
 show wpAny _ _ (Builtin.Tuple.tupleItemsOf (.ref t) >>= _) _ _ s;refine aA (tupleItemsOf_ ht ?_);refine aA (wpAny_typeOf hTs ?_);rw [if_pos (by decide)];refine aA (sliceApplied_gen hs pl pu ?_);have hno:¬ ((((sIx items.size 0 lo:Nat):Int)==0&&(1:Int)==1&&(sIx items.size items.size hi-sIx items.size 0 lo)==items.size)=true):=by intro q;rw [bU,bU] at q;have q1:((sIx items.size 0 lo:Nat):Int)=0:=cV q.1.1;have q2:sIx items.size items.size hi-sIx items.size 0 lo=items.size:=cV q.2;exact hw ⟨by lia,by lia⟩
 show wpAny _ _ (if (((sIx items.size 0 lo:Nat):Int)==0&&(1:Int)==1&&(sIx items.size items.size hi-sIx items.size 0 lo)==items.size)=true then _ else _) _ _ s;rw [if_neg hno,KM]
 first
  | exact aA (m:=Builtin.Tuple.tupleExact _) (iP (aI ⟨_,rfl,aI h⟩) htake)
  | exact aA (m:=Builtin.Tuple.tupleExact _) (iP (aA (aI (aI ⟨_,rfl,aI h⟩))) htake)
  | exact aA (aA (m:=Builtin.Tuple.tupleExact _) (iP (aI (aI ⟨_,rfl,aI h⟩)) htake))
  | exact aA (aA (m:=Builtin.Tuple.tupleExact _) (iP (aI ⟨_,rfl,aI h⟩) htake))
end
end HT
namespace L2
open PySem Spec PyProof.Rows
section
abbrev TO:=St->Hp->(Option Int->Hp->Prop)->Prop
def PO (X:Cx) (e:Option Expr) (t:TO):Prop :=
 ∀ (pj:Pq) (s:Shared) (O:St) (H:Hp) (Q:Option Int->Hp->Prop),Inv X pj O H s->t O H Q ->
  wpAny (model X.prog X.w) X.A (evalPart e X.env) (fun u s'=>∃ o H',Inv X pj O H' s'/\IsPart u o/\Q o H') X.xe s
def KN:TO:=fun _ H Q=>Q none H
def KO (t:TE):TO:=fun O H Q=>t O H fun x H1=>∃ i,x=.int i/\Q (some i) H1
section
variable {X:Cx} {e:Expr} {te:TE} {lo hi:Option Expr} {tl th:TO} {pos p2:Pos}
theorem KP:PO X none KN:=by intro pj s O H Q I h;rw [evalPart_none];exact aI ⟨none,H,I,.none,h⟩
theorem KQ (h:PE X e te):PO X (some e) (KO te):=by intro pj s O H Q I hw;rw [evalPart_some];refine thn (h pj s O H _ I hw) fun u s1 ⟨x,H1,I1,r1,q1⟩=>?_;obtain ⟨i,rfl,q⟩:=q1;obtain ⟨t,rfl⟩:=r1;exact ⟨some i,H1,I1,.int i t,q⟩
def SlR (X:Cx) (r:V->Option Int->Option Int->Hp->VK->Prop):Prop :=
 ∀ (pj:Pq) (s:Shared) (O:St) (H:Hp) (x:V) (v vl vu:Value) (lo hi:Option Int) (sl:Addr) (Q:VK),Inv X pj O H s->aC x v->s.heap.IsSliceOf sl vl vu .none->IsPart vl lo->IsPart vu hi->r x lo hi H Q ->
  ∃ T id,typeLookup (.type T) "__getitem__"=pure (some (.builtin id))/\s.TypeIs v T/\wpAny (model X.prog X.w) X.A (getItem v (.ref sl)) (EP X pj O Q) X.xe s
def tSl (r:V->Option Int->Option Int->Hp->VK->Prop) (te:TE) (tl th:TO):TE:=fun O H Q=>te O H fun x H1=>tl O H1 fun l H2=>th O H2 fun u H3=>r x l u H3 Q
theorem KR {r:V->Option Int->Option Int->Hp->VK->Prop} (hr:SlR X r) (he:PE X e te) (hl:PO X lo tl) (hu:PO X hi th):PE X (.Subscript e (.Slice lo hi none p2) pos) (tSl r te tl th):=by intro pj s O H Q I h;refine Subscript_ (thn (he pj s O H _ I h) fun v s1 ⟨x,H1,I1,r1,q1⟩=>?_);refine wpAny_Slice (thn (hl pj s1 O H1 _ I1 q1) fun vl s2 ⟨l,H2,I2,pl,q2⟩=>thn (hu pj s2 O H2 _ I2 q2) fun vu s3 ⟨u,H3,I3,pu,q3⟩=>?_);rw [evalPart_none];refine aI ?_;have I4:Inv X pj O H3 { s3 with heap:=s3.heap.push { cls:=.type "slice",data:=.fields #[vl,vu,.none] } }:=I3.kept (t':=s3.toks) fun b ob q=>aU _ q;obtain ⟨T,id,hT,ht,hg⟩:=hr pj { s3 with heap:=s3.heap.push { cls:=.type "slice",data:=.fields #[vl,vu,.none] } } O H3 x v vl vu l u s3.heap.objs.size Q I4 r1 (Heap.IsSliceOf.new ..) pl pu q3;show wpAny (model X.prog X.w) X.A (subscriptTail e (.Slice lo hi none p2) v (.ref s3.heap.objs.size)) (EP X pj O Q) X.xe { s3 with heap:=s3.heap.push { cls:=.type "slice",data:=.fields #[vl,vu,.none] } };exact tail_any (ops:=[.ref s3.heap.objs.size,v]) ht hT hg (by with_unfolding_all rfl)
def jT (xs:List V) (lo hi:Option Int):List V:=(xs.drop (HT.sIx xs.length 0 lo)).take (HT.sIx xs.length xs.length hi-HT.sIx xs.length 0 lo)
theorem yT (xs:List V) (lo hi:Option Int):(jT xs lo hi).length<=xs.length:=by unfold jT;rw [tB,List.length_drop];lia
def rSlT (K:W.Frag):V->Option Int->Option Int->Hp->VK->Prop:=fun x lo hi H Q=>∃ a xs,x=.ref a/\SqT K H a xs /\
 ¬ (HT.sIx xs.length 0 lo=0/\HT.sIx xs.length xs.length hi=xs.length)/\∀ p,H p=none->Q (.ref p) (aP H p (.tup (jT xs lo hi)))
theorem KS:SlR X (rSlT X.K):=by
 intro pj s O H x v vl vu lo hi sl Q I rx hs pl pu h;obtain ⟨a,xs,rfl,hx,hw,q⟩:=h;cases rx;obtain ⟨qc,r,ht,hz⟩:=I.tuple hx;have hlen:qc.toArray.size=xs.length:=by rw [cR];exact r.length.symm
 refine ⟨"tuple",_,PyProof.Rows.slot_tuple_getitem.lookup,ht.typeIs,?_⟩;refine HT.getItem_tuple_cut ht hs pl pu (by rw [hlen];exact hw) ?_ (by rw [hlen];exact hz);rw [hlen];refine ⟨.ref s.heap.objs.size,_,I.laid (t':=s.toks) (o:=.tup (jT xs lo hi)) (fun b ob q=>aU _ q) (aV _) ?_,rfl,q _ (I.hok.fresh (aV _))⟩;exact ⟨cG (yT xs lo hi) hz,_,(r.drop (HT.sIx xs.length 0 lo)).take (HT.sIx xs.length xs.length hi-HT.sIx xs.length 0 lo),IsTup.new _ _⟩
end
end
section
def ixN (n:Nat) (i:Int):Option Nat:=if 0<=i then (if i<n then some i.toNat else none) else if -(n:Int)<=i then some (i+n).toNat else none
def atI {α:Type} (xs:List α) (i:Int):Option α:=(ixN xs.length i).bind fun j=>xs[j]?
theorem KU {n:Nat} {i:Int} {j:Nat} (h:ixN n i=some j):seqIndex? i n=some j/\j<n /\ -(n:Int)<=i/\i<n:=by
 unfold ixN at h;by_cases h0:0<=i
 .rw [if_pos h0] at h;by_cases h1:i<n
  .rw [if_pos h1] at h;have e:i.toNat=j:=dE h;exact ⟨by rw [seqIndex_of h0 h1,e],by lia,by lia,h1⟩
  .rw [if_neg h1] at h;cases h
 .rw [if_neg h0] at h;by_cases h1 : -(n:Int)<=i
  .rw [if_pos h1] at h;have e:(i+n).toNat=j:=dE h;exact ⟨by rw [seqIndex_neg (by lia) h1,e],by lia,h1,by lia⟩
  .rw [if_neg h1] at h;cases h
theorem yU {α:Type} {xs:List α} {i:Int} {v:α} (h:atI xs i=some v):∃ j,seqIndex? i xs.length=some j/\xs[j]?=some v/\j<xs.length /\ -(xs.length:Int)<=i/\i<xs.length:=by
 unfold atI at h;cases e:ixN xs.length i with
 | none=>rw [e] at h;cases h
 | some j =>rw [e] at h;obtain ⟨h1,h2,h3,h4⟩:=KU e;exact ⟨j,h1,h,h2,h3,h4⟩
def tN (b:Expr):Prop:=∀ o i,subscripted b false o i=operate [o,i] (getItem o i)
def IxR (X:Cx) (r:R2):Prop :=
 ∀ (value slice:Expr) (pj:Pq) (s:Shared) (O:St) (H:Hp) (x y:V) (v u:Value) (Q:VK),Inv X pj O H s->aC x v->aC y u->r x y H Q ->
  subscripted slice false v u=operate [v,u] (getItem v u)->wpAny (model X.prog X.w) X.A (subscriptTail value slice v u) (EP X pj O Q) X.xe s
def MtR (X:Cx) (id:String) (r:V->List V->Hp->VK->Prop):Prop :=
 ∀ (pj:Pq) (s:Shared) (O:St) (H:Hp) (x:V) (xs:List V) (v:Value) (us:List Value) (Q:VK),Inv X pj O H s->aC x v->aH xs us->r x xs H Q ->
  wpAny (model X.prog X.w) X.A (call (.builtin id) (v::us)) (EP X pj O Q) X.xe s
section
variable {X:Cx} {a b:Expr} {ta tb:TE} {pos:Pos}
theorem KW {r:R2} (hr:IxR X r) (ha:PE X a ta) (hb:PE X b tb) (hs:tN b):PE X (.Subscript a b pos) (tOp r ta tb):=by intro pj s O H Q I h;exact Subscript_ (bI ha hb I h fun v u s2 x y H2 I2 rx ry q=>hr a b pj s2 O H2 x y v u Q I2 rx ry q (hs _ _))
def rIxL (K:W.Frag):R2:=fun x y H Q=>∃ p xs i v,x=.ref p/\y=.int i/\SqL K H p xs/\atI xs i=some v/\Q v H
def rIxT (K:W.Frag):R2:=fun x y H Q=>∃ p xs i v,x=.ref p/\y=.int i/\SqT K H p xs/\atI xs i=some v/\Q v H
theorem KY:IxR X (rIxL X.K):=by
 intro value slice pj s O H x y v u Q I rx ry h hs;obtain ⟨p,xs,i,z,rfl,rfl,hq,he,q⟩:=h;cases rx;obtain ⟨t,rfl⟩:=ry;obtain ⟨qc,r,pl,hz⟩:=I.list hq;obtain ⟨j,h1,h2,h3,h4,h5⟩:=yU he;obtain ⟨w,ew,rw'⟩:=r.get h2;have hl:=r.length;have hn:=qO;have fin:EP X pj O Q w s:=⟨z,H,I,rw',q⟩;by_cases h0:0<=i
 .have hj:i.toNat=j:=by rw [seqIndex_of h0 h5] at h1;exact dE h1
  exact item_listR pl.isList h0 (by lia) (by rw [hj];simpa using ew) fin hs
 .have hj:(i+(qc.toArray.size:Int)).toNat=j:=by rw [seqIndex_neg (by lia) h4] at h1;rw [cR,<- hl];exact dE h1
  exact subscriptTail_builtinR (x:=w) pl.isList.typeIs slot_list_getitem.lookup
   (wpAny_getItem_list_neg (Q:=fun r s'=>r=w/\EP X pj O Q r s') pl.isList (by lia) (by rw [lH]<;>lia) (by lia) (by rw [hj];simpa using ew) ⟨rfl,fin⟩) hs
theorem KZ:IxR X (rIxT X.K):=by
 intro value slice pj s O H x y v u Q I rx ry h hs;obtain ⟨p,xs,i,z,rfl,rfl,hq,he,q⟩:=h;cases rx;obtain ⟨t,rfl⟩:=ry;obtain ⟨qc,r,pl,hz⟩:=I.tuple hq;obtain ⟨j,h1,h2,h3,h4,h5⟩:=yU he;obtain ⟨w,ew,rw'⟩:=r.get h2;have hl:=r.length;have hn:=qO;have fin:EP X pj O Q w s:=⟨z,H,I,rw',q⟩;exact subscriptTail_builtinR (x:=w) pl.typeIs slot_tuple_getitem.lookup
  (getItem_tuple (j:=j) (Q:=fun r s'=>r=w/\EP X pj O Q r s') pl (by lia) (by lia) (by rw [lH,<- hl];exact h1) (by simpa using ew) ⟨rfl,fin⟩) hs
theorem LA (lo hi:Option Int) (n:Nat):(sliceBounds lo hi none n).1=((HT.sIx n 0 lo:Nat):Int)/\(sliceBounds lo hi none n).2.1=((HT.sIx n n hi:Nat):Int)/\(sliceBounds lo hi none n).2.2=1:=by
 refine ⟨?_,?_,rfl⟩
 .cases lo with
  | none=>simp [sliceBounds,HT.sIx]
  | some i =>
   simp only [sliceBounds,HT.sIx,Option.getD_none,show (1:Int)>0 by decide,if_true];by_cases h:i<0
   .simp only [h,if_true]<;>lia
   .simp only [h,if_false]<;>lia
 .cases hi with
  | none=>simp [sliceBounds,HT.sIx]
  | some i =>
   simp only [sliceBounds,HT.sIx,Option.getD_none,show (1:Int)>0 by decide,if_true];by_cases h:i<0
   .simp only [h,if_true]<;>lia
   .simp only [h,if_false]<;>lia
theorem LB (qc:List Value) (lo hi:Option Int):slicePick qc.toArray lo hi none=((qc.drop (HT.sIx qc.length 0 lo)).take (HT.sIx qc.length qc.length hi-HT.sIx qc.length 0 lo)).toArray:=by obtain ⟨h1,h2,h3⟩:=LA lo hi qc.toArray.size;unfold slicePick;rw [h1,h2,h3];simp only [sliceRange_one,pick_run,List.size_toArray]<;>rfl
def rSlL (K:W.Frag):V->Option Int->Option Int->Hp->VK->Prop:=fun x lo hi H Q=>∃ a xs,x=.ref a/\SqL K H a xs/\∀ p,H p=none->Q (.ref p) (aP H p (.lst (jT xs lo hi)))
theorem LC:SlR X (rSlL X.K):=by intro pj s O H x v vl vu lo hi sl Q I rx hs pl pu h;obtain ⟨a,xs,rfl,hx,q⟩:=h;cases rx;obtain ⟨qc,r,ht,hz⟩:=I.list hx;have hlen:=r.length;refine ⟨"list",_,slot_list_getitem.lookup,ht.isList.typeIs,?_⟩;refine wpAny_getItem_list_slice ht.isList hs pl pu .none (by simp) ?_ (by rw [lH]<;>lia);rw [LB,<- hlen];refine ⟨.ref s.heap.objs.size,_,I.laid (t':=s.toks) (o:=.lst (jT xs lo hi)) (fun b ob q=>aU _ q) (aV _) ?_,rfl,q _ (I.hok.fresh (aV _))⟩;exact ⟨cG (yT xs lo hi) hz,_,0,(r.drop (HT.sIx xs.length 0 lo)).take (HT.sIx xs.length xs.length hi-HT.sIx xs.length 0 lo),cX _ rfl⟩
def mS:V->Bool
 | .non=>true
 | .bl _=>true
 | .int _=>true
 | .str _=>true
 | _=>false
def eqV:V->V->Bool
 | .non,.non=>true
 | .bl a,.bl b=>a==b
 | .bl a,.int b=>(if a then 1 else 0)==b
 | .int a,.bl b=>a==(if b then 1 else 0)
 | .int a,.int b=>a==b
 | .str a,.str b=>a==b
 | _,_=>false
theorem LD {A:Around} {s:Shared} {y x:V} {u v:Value} (ry:aC y u) (rx:aC x v) (fy:mS y=true) (fx:mS x=true):SeqAt.EqAt A s u v (eqV y x):=by
 cases y with
 | non =>
  cases ry;cases x with
  | non=>cases rx;exact SeqAt.EqAt.same _
  | bl b=>cases rx;exact SeqAt.EqAt.none_bool b
  | int b=>obtain ⟨t,rfl⟩:=rx;exact SeqAt.EqAt.none_int b t
  | str b=>obtain ⟨t,rfl⟩:=rx;exact SeqAt.EqAt.none_str b t
  | _=>exact absurd (show false=true from fx) dI
 | bl a =>
  cases ry;cases x with
  | non=>cases rx;exact SeqAt.EqAt.bool_none a
  | bl b=>cases rx;exact SeqAt.EqAt.bool_bool a b
  | int b=>obtain ⟨t,rfl⟩:=rx;exact SeqAt.EqAt.bool_int a b t
  | str b=>obtain ⟨t,rfl⟩:=rx;exact SeqAt.EqAt.bool_str a b t
  | _=>exact absurd (show false=true from fx) dI
 | int a =>
  obtain ⟨t',rfl⟩:=ry;cases x with
  | non=>cases rx;exact SeqAt.EqAt.int_none a t'
  | bl b=>cases rx;exact SeqAt.EqAt.int_bool a t' b
  | int b=>obtain ⟨t,rfl⟩:=rx;exact SeqAt.EqAt.int_int a t' b t
  | str b=>obtain ⟨t,rfl⟩:=rx;exact SeqAt.EqAt.int_str a t' b t
  | _=>exact absurd (show false=true from fx) dI
 | str a =>
  obtain ⟨t',rfl⟩:=ry;cases x with
  | non=>cases rx;exact SeqAt.EqAt.str_none a t'
  | bl b=>cases rx;exact SeqAt.EqAt.str_bool a t' b
  | int b=>obtain ⟨t,rfl⟩:=rx;exact SeqAt.EqAt.str_int a t' b t
  | str b=>obtain ⟨t,rfl⟩:=rx;exact SeqAt.EqAt.str_str a t' b t
  | _=>exact absurd (show false=true from fx) dI
 | _=>exact absurd (show false=true from fy) dI
def eqU (x:V) (u:Value):Bool:=match u with
 | .none=>eqV .non x
 | .bool b=>eqV (.bl b) x
 | .int i _=>eqV (.int i) x
 | .str z _=>eqV (.str z) x
 | _=>false
theorem yV {x y:V} {u:Value} (r:aC y u) (f:mS y=true):eqU x u=eqV y x:=by
 cases y with
 | non=>cases r;rfl
 | bl b=>cases r;rfl
 | int i=>obtain ⟨t,rfl⟩:=r;rfl
 | str z=>obtain ⟨t,rfl⟩:=r;rfl
 | _=>exact absurd (show false=true from f) dI
theorem yW {A:Around} {s:Shared} {x:V} {v:Value} (rx:aC x v) (fx:mS x=true):∀ {xs:List V} {us:List Value},aH xs us->xs.all mS=true->∀ u∈us,SeqAt.EqAt A s u v (eqU x u)
 | _,_,.nil,_=>fun u hu=>by cases hu
 | y::xs,u::us,.cons r t,f=>fun u' hu=>by
  rw [List.all_cons,bU] at f;rcases omc hu with rfl | hu
  .rw [yV r f.1];exact LD r rx f.1 fx
  .exact yW rx fx t f.2 u' hu
theorem yX:jR X (.builtin "len") (fun xs H Q=>∃ p ys,xs=[.ref p]/\(SqL X.K H p ys\/SqT X.K H p ys)/\Q (.int ys.length) H):=by
 intro pj s O H xs us Q I r h;obtain ⟨p,ys,rfl,hq,q⟩:=h;obtain ⟨u,rfl,rx⟩:=jS r;cases rx;have hn:=qO;rcases hq with hq | hq
 .obtain ⟨qc,r',pl,hz⟩:=I.list hq;have hlen:=r'.length;exact Calls.call_len_list pl.isList (by simp only [List.size_toArray]<;>lia) ⟨.int ys.length,H,I.tok _,⟨s.toks+1,by rw [lH,hlen]⟩,q⟩
 .obtain ⟨qc,r',pl,hz⟩:=I.tuple hq;have hlen:=r'.length;exact len_tuple pl (by simp only [List.size_toArray]<;>lia) ⟨.int ys.length,H,I.tok _,⟨s.toks+1,by rw [lH,hlen]⟩,q⟩
theorem yY:jR X (.type "tuple") (fun xs H Q=>∃ p ys,xs=[.ref p]/\((SqL X.K H p ys/\∀ l,H l=none->Q (.ref l) (aP H l (.tup ys)))\/(SqT X.K H p ys/\Q (.ref p) H))):=by
 intro pj s O H xs us Q I r h;obtain ⟨p,ys,rfl,h⟩:=h;obtain ⟨u,rfl,rx⟩:=jS r;cases rx;rcases h with ⟨hq,q⟩ | ⟨hq,q⟩
 .obtain ⟨qc,r',pl,hz⟩:=I.list hq;have hlen:=r'.length;refine call_tuple_list pl.isList (fun h' kp=>?_) (by simp only [List.size_toArray]<;>lia);have I1:Inv X pj O H { s with heap:=h' }:=I.kept (t':=s.toks) kp;have I2:Inv X pj O (aP H h'.objs.size (.tup ys)) { s with heap:=h'.push { cls:=.type "tuple",data:=.seq qc.toArray } } :=
   I1.laid (t':=s.toks) (fun b o e=>aU _ e) (aV _) (show aN X.prog X.w _ _ _ (.tup ys) from ⟨hz,qc,r',IsTup.new _ _⟩)
  exact ⟨.ref h'.objs.size,_,I2,rfl,q _ (I1.hok.fresh (aV _))⟩
 .obtain ⟨qc,r',pl,hz⟩:=I.tuple hq;exact call_tuple_same pl ⟨.ref p,H,I,rfl,q⟩
def tyV (K:W.Frag) (T:String) (x:V) (H:Hp):Prop:=match x with
 | .str _=>T="str"
 | .int _=>T="int"
 | .ref p=>(T="list"/\∃ xs,SqL K H p xs)\/(T="tuple"/\∃ o,K.lookup p=some o/\o.cls=.type "tuple"/\o.dict=none) \/
   (T="dict"/\((∃ qb,H p=some (.dK qb))\/∃ qb,H p=some (.dT qb)))\/(T="set"/\∃ S n,H p=some (.set S n))
 | _=>False
theorem LE {pj:Pq} {O:St} {H:Hp} {s:Shared} {T:String} {x:V} {v:Value} (I:Inv X pj O H s) (r:aC x v) (ty:tyV X.K T x H) :
  s.TypeIs v T/\∀ a,v=.ref a->∃ ob,s.heap.get? a=some ob/\ob.dict=none:=by
 cases x with
 | str z =>obtain ⟨t,rfl⟩:=r;cases (show T="str" from ty);exact ⟨typeIs_str s z t,fun _ e=>nomatch e⟩
 | int i =>obtain ⟨t,rfl⟩:=r;cases (show T="int" from ty);exact ⟨typeIs_int s i t,fun _ e=>nomatch e⟩
 | ref p =>
  cases r;rcases ty with ⟨rfl,xs,hq⟩ | ⟨rfl,o,hk,hc,hd⟩ | ⟨rfl,hk⟩ | ⟨rfl,S,n,hk⟩
  .obtain ⟨qc,_,pl,_⟩:=I.list hq;refine ⟨pl.isList.typeIs,fun a e=>?_⟩;cases e;obtain ⟨o,n,e,c,hd,_⟩:=pl;exact ⟨o,e,hd⟩
  .refine ⟨⟨o,I.kIn p o hk,hc⟩,fun a e=>?_⟩;cases e;exact ⟨o,I.kIn _ o hk,hd⟩
  .have z:∃ o,s.heap.get? p=some o/\o.ExactDict:=by
    rcases hk with ⟨qb,hk⟩ | ⟨qb,hk⟩
    .obtain ⟨_,_,_,_,o,_,_,e,ex,_⟩:=I.hok p _ hk;exact ⟨o,e,ex⟩
    .obtain ⟨_,_,_,_,o,_,_,e,ex,_⟩:=I.hok p _ hk;exact ⟨o,e,ex⟩
   obtain ⟨o,e,ex⟩:=z;refine ⟨⟨o,e,ex.1⟩,fun a e2=>?_⟩;cases e2;exact ⟨o,e,ex.2.1⟩
  .obtain ⟨o,_,_,_,e,ex,_⟩:=I.hok p _ hk;refine ⟨⟨o,e,ex.1⟩,fun a e2=>?_⟩;cases e2;exact ⟨o,e,ex.2.1⟩
 | _=>exact False.elim ty
def tBM (K:W.Frag) (T:String) (r:V->List V->Hp->VK->Prop) (to:TE) (t:TA):TE:=fun O H Q=>to O H fun x H1=>tyV K T x H1/\t O H1 fun xs H2=>r x xs H2 Q
variable {o e:Expr} {es:List Expr} {to:TE} {t:TA} {name:Str} {apos cpos:Pos} {T id:String} {r:V->List V->Hp->VK->Prop}
theorem oB (pa:PlainAttrs T) (slot:Slot T name id) (hty:typeOf (.builtin id)=pure (.type "method_descriptor")) (hm:MtR X id r) (ho:PE X o to) (ha:PA X (e::es) t)
  (hbase:attributeBase o name X.env (eval o X.env)=eval o X.env:=by rfl)
  (hfew:((backTo cpos (starEach (e::es) X.env)).all (fun x=>!x.1)&&(backToKw cpos (keywordEach [] X.env)).all (fun x=>x.1.isSome)
   && decide ((e::es).length+([]:List Keyword).length+(if ([]:List Keyword).isEmpty then 0 else 1)<30))=true:=by rfl)
  (hline:(apos.endLine==cpos.line)=true:=by rfl) (hs:starEach (e::es) X.env=(false,eval e X.env)::starEach es X.env:=by rfl) (hplain:(backTo cpos (starEach es X.env)).any (·.1)=false:=by rfl) :
  PE X (.Call (.Attribute o name apos) (e::es) [] cpos) (tBM X.K T r to t):=by
 intro pj s O H Q I h;refine wpAny_Call_method_late hbase hfew hline rfl (thn (ho pj s O H _ I h) fun v s1 ⟨x,H1,I1,r1,ty,q1⟩=>?_);obtain ⟨h1,h2⟩:=LE I1 r1 ty;refine ⟨T,id,pa,slot,hty,h1,h2,?_⟩;have hA:=ha cpos pj s1 O H1 _ I1 q1;rw [hs] at hA ⊢;refine Calls.callWith_builtin (by show (false||(backTo cpos (starEach es X.env)).any (·.1))=false;rw [hplain]<;>rfl) (Calls.evalArgs_plain ?_);exact thn hA fun us s2 ⟨vs,H2,I2,r2,q2⟩=>hm pj s2 O H2 x vs v us Q I2 r1 r2 q2
end
end
section
variable {qc:List Value}
def MtM (X:Cx) (id:String) (r:V->List V->Hp->VK->Prop):Prop :=
 ∀ (pj:Pq) (s:Shared) (O:St) (H:Hp) (x:V) (xs:List V) (v:Value) (us:List Value) (Q:VK),Inv X pj O H s->aC x v->aH xs us->r x xs H Q ->
  wpAny (model X.prog X.w) X.A (call (.builtin id) (v::us)) (EP X pj O Q) X.xe s
theorem aH.one:∀ {x:V} {us:List Value},aH [x] us->∃ u,us=[u]/\aC x u
 | _,_,.cons r .nil=>⟨_,rfl,r⟩
theorem aH.two:∀ {x y:V} {us:List Value},aH [x,y] us->∃ u v,us=[u,v]/\aC x u/\aC y v
 | _,_,_,.cons r (.cons q .nil)=>⟨_,_,rfl,r,q⟩
section
variable {X:Cx} {pj:Pq} {O:St} {H:Hp} {s:Shared} {l b:Addr} {xs ys zs:List V}
theorem Inv.lset {its':List Value} {n:Nat} {f:Array Value->Array Value} {t':Nat} (I:Inv X pj O H s) (hH:H l=some (.lst xs))
  (e:s.heap.get? l=some { cls:=.type "list",data:=.seq qc.toArray n }) (hf:f qc.toArray=its'.toArray) (hv:aH ys its') (hz:ys.length<=sizeLine) :
  Inv X pj O (aP H l (.lst ys)) { s with heap:=s.heap.update l (Obj.mapSeq f),toks:=t' }:=by
 have q:=PySem.IsL.update e f;rw [hf] at q;refine I.write (x:=l) (e:=l) (by rw [hH];exact trivial) (.inl rfl) (fun b' u hb hu=>(Heap.get?_update_other s.heap (Obj.mapSeq f) (Ne.symm hb)).trans hu) ⟨_,q⟩ ?_;exact ⟨hz,its',_,hv,q⟩
theorem Inv.lnew {t':Nat} (I:Inv X pj O H s) (hv:aH ys qc) (hz:ys.length<=sizeLine) :
  Inv X pj O (aP H s.heap.objs.size (.lst ys)) { s with heap:=s.heap.push { cls:=.type "list",data:=.seq qc.toArray },toks:=t' } :=
 I.laid (fun _ _ q=>aU _ q) (aV _) ⟨hz,qc,0,hv,cX _ rfl⟩
theorem Inv.fresh (I:Inv X pj O H s):H s.heap.objs.size=none:=I.hok.fresh (aV _)
theorem Inv.lstM (I:Inv X pj O H s) (hH:H l=some (.lst xs)):xs.length<=sizeLine/\∃ (qc:List Value) (n:Nat),aH xs qc/\xs.length=qc.length/\s.heap.get? l=some { cls:=.type "list",data:=.seq qc.toArray n }:=by obtain ⟨z,qc,n,r,e⟩:=I.hok l _ hH;exact ⟨z,qc,n,r,r.length,e⟩
theorem LF {n:Nat} (h:n<=sizeLine):Builtin.List.listTooLong n=false:=by unfold Builtin.List.listTooLong;exact dJ (by lia)
end
section
variable {X:Cx}
def yZ:V->List V->Hp->VK->Prop:=fun x vs H Q=>∃ l xs y,x=.ref l/\vs=[y]/\H l=some (.lst xs)/\xs.length<sizeLine/\Q .non (aP H l (.lst (xs++[y])))
theorem tO:MtM X "list.append" yZ:=by intro pj s O H x vs v us Q I rx rv h;obtain ⟨l,xs,y,rfl,rfl,hH,hz,q⟩:=h;cases rx;obtain ⟨u,rfl,ru⟩:=rv.one;obtain ⟨z,qc,n,r,hl,e⟩:=I.lstM hH;refine call_meets F.slot_list_append ⟨_,e,rfl⟩ F.entry_list_append (F.args_list_append_2 _ _) (PySem.list_append l qc.toArray n u (by rw [cR];lia)) ⟨e,?_⟩;refine ⟨.non,_,I.lset (its':=qc++[u]) hH e (by simp) (r.append (.cons ru .nil)) ?_,rfl,q⟩;rw [dW,List.length_singleton];lia
end
section
variable {prog:Program} {w:World} {A:Around} {E:Vq} {s:Shared}
set_option maxRecDepth 100000 in
end
section
variable {X:Cx}
end
end
end L2
namespace Att
open PySem PySem.W PySem.Calls PyProof.Rows
theorem LG {P:Params} {h:Heap}:∀ (ns:List Int) (vs:List Value),WellAll P h vs (ns.map WData.int)->IntsAre vs ns:=by
 intro ns
 induction ns with
 | nil =>intro vs w;rw [List.map_nil] at w;cases w;exact .nil
 | cons n ns ih =>
  intro vs w;rw [aS] at w;cases w with
  | cons a b =>cases a;exact .cons _ _ (ih _ b)
theorem LH {l:OpenLaw} {n:Nat} (hn:l.most=some n) {P:Params} {h:Heap} {args:List WData} {vals:List Value}
  (hpre:l.row.toRowW.claim.pre args=true) (hwl:WellAll P h vals args) :
  ∃ a vs ns,vals=[Value.ref a]/\args=[WData.list (ns.map WData.int)]/\h.get? a=some { cls:=.type "list",data:=.seq vs.toArray }/\IntsAre vs ns/\ns.length<=n:=by
 have hsh:WShape.hasAll [] args [.list .int]=true:=(pre_splitW hpre).1;have hc:l.pre.holds [] { args:=args }=true:=(pre_splitW hpre).2;obtain ⟨d,r,rfl,h1,h2⟩:=hasAllW_cons hsh;obtain rfl:=hasAllW_nil h2;obtain ⟨xs,rfl,h3⟩:=hasW_list h1;obtain ⟨ns,rfl⟩:=items_int h3;have hlen:ns.length<=n:=by
  unfold OpenLaw.pre at hc;have h4:(WTm.not (.lt (.lit (.int (n:Int))) (.len (.arg 0)))).holds [] { args:=[.list (ns.map .int)] }=true:=by have h4:=(holds_andW hc).1;rw [hn] at h4;exact h4
  have h5:=condW_of h4 (w_not (w_lt w_lit (w_len_list (w_arg rfl))));rw [bA] at h5;refine Nat.le_of_not_lt fun q=>?_;have q':(n:Int)<((ns.length:Nat):Int):=by lia
  first
   | (rw [bX q'] at h5;exact absurd h5 (by decide))
   | (simp at h5;lia)
 cases hwl with
 | cons w1 w2 =>
  cases w2;cases w1 with
  | list ho hall=>exact ⟨_,_,ns,rfl,rfl,ho,LG ns _ hall,hlen⟩
theorem LI (l:OpenLaw) (args:List WData):l.row.toRowW.claim.post args (.bool true) args=true :=
 postW_of (r:=l.row.toRowW) (X:=(true==true))
  (show WShape.has [] (.bool true) .bool=true by first | rfl | decide | simp [WShape.has,WShape.arms,WShape.armsAll])
  (show (WTm.eq .res (.lit (.bool true))).value [] { args:=args,res:=some (.bool true),after:=args }=some (.bool (true==true)) from w_eq_bool (w_res rfl) w_lit) rfl
theorem attach_call {l:OpenLaw} {n:Nat} {q:Program} {loose:List Str} {XP:(Str->Option Value)->Heap->Prop} {YP:World->Heap->Prop} {d:DefRec}
  (hn:l.most=some n) (hdf:d.params.defaults=[])
  (call:∀ (w:World) (s₀ s₁:Shared) (mg mb:Str->Option Value) (fa:Addr) (o:Obj) (pm cd doc:Value) (a:Addr) (vs:List Value) (ns:List Int),
   Ground q loose [] XP w s₀ mg mb s₁.heap->YP w s₁.heap ->
   s₁.heap.get? fa=some o->o.data=.func (docDef d.name d.params d.body d.scope pm cd doc)->s₁.heap.CodeRec cd d.name->mg d.name=some (.ref fa) ->
   s₁.heap.get? a=some { cls:=.type "list",data:=.seq vs.toArray }->IntsAre vs ns->ns.length<=n->s₁.gens=#[] ->
   codeAny (model l.prog w) callerA (.call (.ref fa) ⟨[.ref a],[]⟩) (fun r s'=>r=.ok (.ret (.bool true))/\OldK s₁.heap s'.heap/\s'.os=s₁.os/\AllBare s'.gens) s₁) :
  WalkO q loose XP YP l.row.toRowW d [] (fun f vs=>PySem.call f vs):=by
 intro w s₀ s₁ mg mb G Y fa o pm cd doc dV kV ho hd hcd hD hmg hg args vals as hpre hlay hrd hwl hlo;obtain rfl:dV=.none:=Dflts.none hD hdf;obtain rfl:kV=.none:=Dflts.noKw hD;obtain ⟨a,vs,ns,rfl,rfl,hobj,hints,hlen⟩:=LH hn hpre hwl;refine enter_call (codeAny_mono (call w s₀ s₁ mg mb fa o pm cd doc a vs ns G Y ho (fd_plain hd) hcd hmg hobj hints hlen hg) fun r s' hq=>?_);obtain ⟨rfl,h2,h3,h4⟩:=hq;exact ⟨.inl ⟨.bool true,.bool true,[],rfl,fun _=>rfl,.bool true,LI l _,fun _=>⟨List.Pairwise.nil,fun _ hm=>(nomatch hm)⟩⟩,h2,h3,h4⟩
section
variable {prog:Program} {w:World} {A:Around} {E:Vq} {s:Shared} {K:Frag}
end
end Att
namespace L2
open PySem Spec PyProof.Rows
section
theorem zA:∀ {vs:List Value} {ns:List Int},IntsAre vs ns->aH (ns.map V.int) vs
 | _,_,.nil=>.nil
 | _,_,.cons n t h=>.cons ⟨t,rfl⟩ (zA h)
def Only (H:Hp):Prop:=∀ b,H b=none\/∃ o xs,H b=some (.frz o (.lst xs))
end
section
end
section
variable {x qual:Str} {st:Stmt} {f:Addr} {fd:FuncData} {ps:List Str}
def kL (s:Stmt):Arguments:=match s with
 | .FunctionDef _ a _ _ _ _ _ _ _ _=>a
 | _=>{ posonlyargs:=[],args:=[],vararg:=none,kwonlyargs:=[],kw_defaults:=[],kwarg:=none,defaults:=[] }
def iG (s:Stmt):List Stmt:=match s with
 | .FunctionDef _ _ b _ _ _ _ _ _ _=>b
 | _=>[]
def bK (s:Stmt):Scope:=match s with
 | .FunctionDef _ _ _ _ _ _ sc _ _ _=>sc
 | _=>{ kind:=.function,names:=[],isGenerator:=false,isCoroutine:=false }
abbrev CX0:CXT:=fun _ _ _ _ _ _=>False
abbrev E0:XK:=fun _ _ _=>False
theorem LJ {X:Cx}:tM CX0 X E0:=fun _ _ _ _ _ _ _ h=>h.elim
structure Fun (K:W.Frag) (x qual:Str) (st:Stmt) (f:Addr) (fd:FuncData):Prop where
 ex:∃ (oc:Value) (od:Option Addr) (kV doc pm:Value) (an:Option Addr) (cdv ct:Value) (osl:Array (Option Value)),
  fd=W.fnOf x qual (kL st) (iG st) (bK st) .none kV doc pm an cdv ct/\K.lookup f=some ⟨oc,od,.func fd,osl⟩/\W.codeIn K cdv qual=true
 kp:W.keepIn K (.ref f)=true
section
variable {P:Program} {w:World} {K:W.Frag} {mg:Str->Option Value} {base:Heap}
theorem Fun.ok {N:List Str} {k:Nat} {sp:Sp} (F:Fun K x qual st f fd) (S:FnScope N ps (bK st)) (len:∀ vs H Q E,sp vs H Q E->vs.length=ps.length)
  (hbody:∀ (cdv:Value) (A:Around) (outer:List Env) (s:Shared) (H:Hp) (vs:List V) (Q:VK) (E:XK),Room k (A.deeper (envOfC qual (bK st) s.heap.objs.size f cdv))->sp vs H Q E ->
   ∃ t,PSs (lP CX0 P w K mg base N qual (bK st) f cdv A outer s H E).nox (iG st) t/\t { nx:=fun _ H'=>Q .non H',rt:=Q } (start N vs) H):FnOk P w K mg base CX0 (k+1) f fd ps sp:=by
 obtain ⟨oc,od,kV,doc,pm,an,cdv,ct,osl,rfl,lk,hcd⟩:=F.ex;refine KD lk hcd S len fun A outer s H vs Q E hr hsp=>?_;obtain ⟨t,h,q⟩:=hbody cdv A outer s H vs Q E hr hsp;exact ⟨t,h.nox,q⟩
theorem Fun.binds (F:Fun K x qual st f fd)
  (h:∀ (kV doc pm:Value) (an:Option Addr) (cdv ct:Value) (us:List Value),us.length=ps.length->bindArgs (W.fnOf x qual (kL st) (iG st) (bK st) .none kV doc pm an cdv ct) ⟨us,[]⟩=pure (ps.zip us)):Binds K fd ps []:=by
 obtain ⟨oc,od,kV,doc,pm,an,cdv,ct,osl,rfl,lk,hcd⟩:=F.ex;exact .all (h kV doc pm an cdv ct)
theorem LK {oc:Value} {od an:Option Addr} {osl:Array (Option Value)} {kV doc pm cdv ct:Value} (l:K.lookup f=some ⟨oc,od,.func (W.fnOf x qual (kL st) (iG st) (bK st) .none kV doc pm an cdv ct),osl⟩)
  (c:W.codeIn K cdv qual=true) (k:W.keepIn K (.ref f)=true):Fun K x qual st f (W.fnOf x qual (kL st) (iG st) (bK st) .none kV doc pm an cdv ct):=⟨⟨oc,od,kV,doc,pm,an,cdv,ct,osl,rfl,l,c⟩,k⟩
end
theorem zB {n:Nat} (h:n<=1000):n<sizeLine:=Nat.lt_of_le_of_lt h (by decide)
section
variable {X:Cx}
end
theorem qP {A B:Prop} (h:B):if false=true then A else B:=by rw [if_neg dI];exact h
theorem qQ {A B:Prop} (h:A):if true=true then A else B:=by rw [if_pos rfl];exact h
def Same (H H':Hp):Prop:=∀ b o,H b=some o->H' b=some o
theorem Same.refl (H:Hp):Same H H:=fun _ _ h=>h
theorem Same.trans {H H1 H2:Hp} (a:Same H H1) (b:Same H1 H2):Same H H2:=fun c o h=>b c o (a c o h)
theorem Same.free {H H':Hp} (e:Same H H') {l:Addr} (h:H' l=Option.none):H l=Option.none:=by
 cases q:H l with
 | none=>rfl
 | some o =>rw [e l o q] at h;cases h
theorem Same.seq {K:W.Frag} {H H':Hp} {a:Addr} {xs:List V} (e:Same H H') (h:SqL K H a xs):SqL K H' a xs:=by
 rcases h with (h | ⟨o,h⟩) | h
 .exact .inl (.inl (e _ _ h))
 .exact .inl (.inr ⟨o,e _ _ h⟩)
 .exact .inr h
end
end L2
end
namespace Ev
open PySem
section
abbrev Kt:=Sum Int (Option Str)
inductive T where
 | non | bl (b:Bool) | int (i:Int) | str (x:Str) | tup (xs:List T) | lst (xs:List T)
 | dk (ks:List Kt) (vs:List T) | dt (ks:List (List Kt)) (vs:List T)
 deriving Inhabited
inductive Bo where
 | add | sub | mul | fdiv | mod
 deriving DecidableEq
inductive Co where
 | eq | ne | lt | gt | isin | notin | isN | notN | notF
 deriving DecidableEq
inductive Ik where
 | plain | range | enum | zip
 deriving DecidableEq
noncomputable def Ik.pair:Ik->Bool
 | .enum=>true
 | .zip=>true
 | _=>false
inductive Bn where
 | len | toInt | toTuple | sorted | dict
 deriving DecidableEq
inductive Mt where
 | index
 deriving DecidableEq
inductive E where
 | var (i:Nat) | cst (t:T)
 | bin (o:Bo) (a b:E) | cmp (o:Co) (a b:E)
 | land (a b:E) | lor (a b:E) | lnot (a:E) | neg (a:E) | tru (a:E)
 | tup (es:List E) | lst (es:List E)
 | idx (a b:E) | sli (a:E) (lo hi:Option E)
 | call (f:Str) (es:List E) | blt (f:Bn) (a:E) | mth (m:Mt) (a b:E)
 | comp (elt:E) (n:Nat) (k:Ik) (src:List E) (cond:Option E)
 | dgt (a k d:E) | zl (a b:E)
 deriving Inhabited
inductive S where
 | asg (i:Nat) (e:E)
 | app (i:Nat) (e:E)
 | ext (i:Nat) (e:E)
 | dnew (i:Nat)
 | dput (i:Nat) (k v:E)
 | dinc (i:Nat) (k k':E)
 | dapp (i:Nat) (k v:E)
 | vloop (is:List Nat) (i:Nat) (body:List S)
 | kloop (is:List Nat) (i:Nat) (body:List S)
 | ret (e:E)
 | ite (c:E) (a b:List S)
 | loop (is:List Nat) (k:Ik) (src:List E) (body:List S)
 deriving Inhabited
abbrev SZ:Nat:=16777216
abbrev Env:=List (Option T)
structure Glo where
 call:Str->List T->Option T
noncomputable def kM:T->Option Kt
 | .int i=>some (.inl i)
 | .str x=>some (.inr (some x))
 | .non=>some (.inr none)
 | _=>none
noncomputable def gO:List T->Option (List Kt)
 | []=>some []
 | x::r=>(kM x).bind fun k=>(gO r).bind fun ks=>some (k::ks)
noncomputable def tkO:T->Option (List Kt)
 | .tup xs=>gO xs
 | _=>none
noncomputable def mT:List T->Option (List (List Kt))
 | []=>some []
 | x::r=>(tkO x).bind fun k=>(mT r).bind fun ks=>some (k::ks)
noncomputable def kT:Kt->T
 | .inl i=>.int i
 | .inr (some x)=>.str x
 | .inr none=>.non
noncomputable def tkT (k:List Kt):T:=.tup (k.map kT)
section
variable {κ β:Type} [DecidableEq κ]
noncomputable def fG:List κ->List β->κ->Option β
 | k::ks,v::vs,q=>if k=q then some v else fG ks vs q
 | _,_,_=>none
noncomputable def eF:List (κ × β)->κ->Option β
 | [],_=>none
 | p::r,k=>if p.1=k then some p.2 else eF r k
noncomputable def bV (qb:List (κ × β)) (k:κ) (v:β):List (κ × β) :=
 if (qb.any fun kv=>decide (kv.1=k))=true then qb.map (fun kv=>if kv.1=k then (kv.1,v) else kv) else qb++[(k,v)]
end
noncomputable def kLt:Kt->Kt->Bool
 | .inl a,.inl b=>decide (a<b)
 | .inr (some a),.inr (some b)=>decide (a.cps.toList<b.cps.toList)
 | _,_=>false
noncomputable def lQ:Kt->Kt->Bool
 | .inl _,.inl _=>true
 | .inr (some _),.inr (some _)=>true
 | _,_=>false
noncomputable def bL:List Kt->List Kt->Bool
 | x::xs,y::ys=>if x=y then bL xs ys else kLt x y
 | _,_=>false
noncomputable def alike:List Kt->List Kt->Bool
 | [],[]=>true
 | x::xs,y::ys=>lQ x y&&alike xs ys
 | _,_=>false
noncomputable def jU (k:List Kt):List (List Kt)->List (List Kt)
 | []=>[k]
 | x::r=>if bL k x then k::x::r else x::jU k r
noncomputable def dF:List (List Kt)->List (List Kt)
 | []=>[]
 | k::r=>jU k (dF r)
noncomputable def pF (l:List (List Kt)):Option (List (List Kt)):=if l.length<=60/\l.Nodup/\(l.all fun x=>(!x.isEmpty)&&l.all fun y=>alike x y)=true then some (dF l) else none
noncomputable def kN (l:List (List Kt)):Option T:=(pF l).map fun r=>.lst (r.map tkT)
noncomputable def mU (i:Int):Bool:=decide (-18446744073709551616<i)&&decide (i<18446744073709551616)
noncomputable def dN:T->T->Option T
 | .int a,y=>(match y with
  | .int b=>some (.int (a+b))
  | _=>none)
 | .lst a,y=>(match y with
  | .lst b=>if a.length+b.length<=SZ then some (.lst (a++b)) else none
  | _=>none)
 | .tup a,y=>(match y with
  | .tup b=>if a.length+b.length<=SZ then some (.tup (a++b)) else none
  | _=>none)
 | _,_=>none
noncomputable def pG:T->T->Option T
 | .int a,.int b=>some (.int (a-b))
 | _,_=>none
noncomputable def lS:T->T->Option T
 | .int a,.int b=>if mU a||mU b then some (.int (a*b)) else none
 | _,_=>none
noncomputable def cT:T->T->Option T
 | .int a,.int b=>if 0<b/\b<1073741824 then some (.int (a/b)) else none
 | _,_=>none
noncomputable def cZ:T->T->Option T
 | .int a,.int b=>if 0<b then some (.int (a%b)) else none
 | _,_=>none
noncomputable def bI:Bo->T->T->Option T
 | .add=>dN | .sub=>pG | .mul=>lS | .fdiv=>cT | .mod=>cZ
mutual
noncomputable def eqT:T->T->Bool
 | .non,y=>(match y with
  | .non=>true
  | _=>false)
 | .bl a,y=>(match y with
  | .bl b=>a==b
  | .int b=>(if a then 1 else 0)==b
  | _=>false)
 | .int a,y=>(match y with
  | .bl b=>a==(if b then 1 else 0)
  | .int b=>a==b
  | _=>false)
 | .str a,y=>(match y with
  | .str b=>a==b
  | _=>false)
 | .tup a,y=>(match y with
  | .tup b=>eW a b
  | _=>false)
 | .lst a,y=>(match y with
  | .lst b=>eW a b
  | _=>false)
 | _,_=>false
noncomputable def eW:List T->List T->Bool
 | [],[]=>true
 | x::xs,y::ys=>eqT x y&&eW xs ys
 | _,_=>false
end
mutual
noncomputable def dpP:T->T->Nat
 | .tup a,y=>(match y with
  | .tup b=>dO a b+1
  | .dk _ _=>20000
  | .dt _ _=>20000
  | _=>0)
 | .lst a,y=>(match y with
  | .lst b=>dO a b+1
  | .dk _ _=>20000
  | .dt _ _=>20000
  | _=>0)
 | .dk _ _,_=>20000
 | .dt _ _,_=>20000
 | _,y=>(match y with
  | .dk _ _=>20000
  | .dt _ _=>20000
  | _=>0)
noncomputable def dO:List T->List T->Nat
 | x::xs,y::ys=>max (dpP x y) (dO xs ys)
 | _,_=>0
end
noncomputable def flat:T->Bool
 | .tup _=>false
 | .lst _=>false
 | .dk _ _=>false
 | .dt _ _=>false
 | _=>true
noncomputable def eqC (x y:T):Option T:=if dpP x y<=30 then some (.bl (eqT x y)) else none
noncomputable def neC (x y:T):Option T:=if dpP x y<=30 then some (.bl (!eqT x y)) else none
noncomputable def ltC:T->T->Option T
 | .int a,.int b=>some (.bl (decide (a<b)))
 | .str a,.str b=>some (.bl (decide (a.cps.toList<b.cps.toList)))
 | _,_=>none
noncomputable def dpI (x:T) (xs:List T):Bool:=xs.all fun z=>decide (dpP z x<=30)
noncomputable def inC (x y:T):Option Bool :=
 match y with
 | .tup xs=>if dpI x xs then some (xs.any fun z=>eqT z x) else none
 | .lst xs=>if dpI x xs then some (xs.any fun z=>eqT z x) else none
 | .dt ks _=>(match x with
  | .tup xs=>(gO xs).map fun k=>ks.any fun q=>decide (q=k)
  | _=>none)
 | _=>none
noncomputable def bB:Co->T->T->Option T
 | .eq,x,y=>eqC x y
 | .ne,x,y=>neC x y
 | .lt,x,y=>ltC x y
 | .gt,x,y=>(match x,y with
  | .int a,.int b=>some (.bl (decide (b<a)))
  | _,_=>none)
 | .isin,x,y=>(inC x y).map .bl
 | .notin,x,y=>(inC x y).map fun b=>.bl (!b)
 | .isN,x,y=>(match x,y with
  | .non,.non=>some (.bl true)
  | _,.non=>some (.bl false)
  | _,_=>none)
 | .notN,x,y=>(match x,y with
  | .non,.non=>some (.bl false)
  | _,.non=>some (.bl true)
  | _,_=>none)
 | .notF,x,y=>(match x,y with
  | .bl b,.bl false=>some (.bl b)
  | .non,.bl false=>some (.bl true)
  | _,_=>none)
noncomputable def ixI (n:Nat) (i:Int):Option Nat:=if 0<=i then (if i<n then some i.toNat else none) else if -(n:Int)<=i then some (i+n).toNat else none
noncomputable def dA (xs:List T) (i:Int):Option T:=(ixI xs.length i).bind fun j=>xs[j]?
noncomputable def aK:T->T->Option T
 | .tup xs,.int i=>dA xs i
 | .lst xs,.int i=>dA xs i
 | .dt ks vs,.tup xs=>(gO xs).bind fun k=>fG ks vs k
 | _,_=>none
noncomputable def gP (n d:Nat):Option Int->Nat
 | none=>d
 | some v=>if v<0 then (v+(n:Int)).toNat else min v.toNat n
noncomputable def cut (xs:List T) (lo hi:Option Int):List T:=(xs.drop (gP xs.length 0 lo)).take (gP xs.length xs.length hi-gP xs.length 0 lo)
noncomputable def gQ:T->Option Int->Option Int->Option T
 | .tup xs,lo,hi=>some (.tup (cut xs lo hi))
 | .lst xs,lo,hi=>some (.lst (cut xs lo hi))
 | _,_,_=>none
noncomputable def gR:T->Option Bool
 | .non=>some false
 | .bl b=>some b
 | .int i=>some (i != 0)
 | .tup xs=>some (!xs.isEmpty)
 | .lst xs=>some (!xs.isEmpty)
 | _=>none
mutual
noncomputable def ltD:T->T->Option Bool
 | .int a,y=>(match y with
  | .int b=>some (decide (a<b))
  | _=>none)
 | .str a,y=>(match y with
  | .str b=>some (decide (a.cps.toList<b.cps.toList))
  | _=>none)
 | .tup a,y=>(match y with
  | .tup b=>dY a b
  | _=>none)
 | _,_=>none
noncomputable def dY:List T->List T->Option Bool
 | [],y=>some (!y.isEmpty)
 | x::xs,y=>(match y with
  | []=>some false
  | b::ys=>if eqT x b=true then dY xs ys else ltD x b)
end
noncomputable def cD (x y:T):Bool:=ltD x y==some true
noncomputable def kdN:T->Option Nat
 | .int _=>some 0
 | .str _=>some 1
 | .tup _=>some 2
 | _=>none
structure OkN (l:List T):Prop where
 len:l.length<=60
 dp:∀ x∈l,∀ y∈l,dpP x y<=20
 lt:∀ x∈l,∀ y∈l,∃ b,ltD x y=some b
 kd:∃ n,∀ x∈l,∃ a r,x=.tup (a::r)/\kdN a=some n
 tot:l.Pairwise fun x y=>cD y x=!cD x y
 tr:∀ x∈l,∀ y∈l,∀ z∈l,cD x y=true->cD y z=true->cD x z=true
noncomputable def oC (x:T):List T->List T
 | []=>[x]
 | y::r=>if cD x y=true then x::y::r else y::oC x r
noncomputable def fU:List T->List T
 | []=>[]
 | x::r=>oC x (fU r)
open Classical in
noncomputable def lT (l:List T):Option T:=if OkN l then some (.lst (fU l)) else none
noncomputable def qR:T->Option (List Kt × T)
 | .tup [.tup ks,v]=>(gO ks).map fun k=>(k,v)
 | _=>none
noncomputable def lU:List T->Option (List (List Kt × T))
 | []=>some []
 | x::r=>(qR x).bind fun p=>(lU r).bind fun ps=>some (p::ps)
noncomputable def dM {κ:Type} [DecidableEq κ] (l:List (κ × T)):List (κ × T):=l.foldl (fun acc p=>bV acc p.1 p.2) []
noncomputable def tP:T->Option (Kt × T)
 | .tup [k,v]=>(kM k).map fun q=>(q,v)
 | _=>none
noncomputable def mV:List T->Option (List (Kt × T))
 | []=>some []
 | x::r=>(tP x).bind fun p=>(mV r).bind fun ps=>some (p::ps)
noncomputable def bO:Bn->T->Option T
 | .len,x=>(match x with
  | .tup xs=>some (.int xs.length)
  | .lst xs=>some (.int xs.length)
  | _=>none)
 | .toInt,x=>(match x with
  | .int i=>some (.int i)
  | .bl b=>some (.int (if b then 1 else 0))
  | _=>none)
 | .toTuple,x=>(match x with
  | .tup xs=>some (.tup xs)
  | .lst xs=>some (.tup xs)
  | _=>none)
 | .sorted,x=>(match x with
  | .dt ks _=>kN ks
  | .dk [] _=>some (.lst [])
  | .lst xs=>(match (mT xs).bind kN with
   | some r=>some r
   | none=>lT xs)
  | _=>none)
 | .dict,x=>(match x with
  | .lst xs=>(match lU xs with
   | some l=>if l.length<=1000 then some (.dt ((dM l).map (·.1)) ((dM l).map (·.2))) else none
   | none=>(mV xs).bind fun l=>if l.length<=1000 then some (.dk ((dM l).map (·.1)) ((dM l).map (·.2))) else none)
  | _=>none)
noncomputable def kO (x:T):List T->Option Nat
 | []=>none
 | y::r=>if eqT y x then some 0 else (kO x r).map (·+1)
noncomputable def jE:Mt->T->T->Option T
 | .index,.lst xs,y=>if flat y&&xs.all flat then (kO y xs).map fun (i:Nat)=>T.int (i:Int) else none
 | _,_,_=>none
noncomputable def fH:List T->Nat->List T
 | [],_=>[]
 | x::r,i=>.tup [.int i,x]::fH r (i+1)
noncomputable def dS:List T->List T->List T
 | x::xs,y::ys=>.tup [x,y]::dS xs ys
 | _,_=>[]
noncomputable def lV (x y:T):Option T:=match x with
 | .tup xs=>(match y with
  | .tup ys=>if xs.length<=1000 then some (.lst (dS xs ys)) else none
  | _=>none)
 | _=>none
noncomputable def tQ (x y z:T):Option T:=match x with
 | .dk ks vs=>(match y with
  | .str k=>some ((fG ks vs (.inr (some k))).getD z)
  | _=>none)
 | _=>none
noncomputable def kP (n:Nat):List T:=(List.range n).map fun (i:Nat)=>T.int (i:Int)
noncomputable def zC (x:Str):Bool:=x.cps.all (·<128)
noncomputable def items:Ik->List T->Option (List T)
 | .plain,l=>(match l with
  | [.tup xs]=>some xs
  | [.lst xs]=>some xs
  | _=>none)
 | .range,l=>(match l with
  | [.int n]=>if -4611686018427387904<=n/\n<4611686018427387904 then some (kP n.toNat) else none
  | _=>none)
 | .enum,l=>(match l with
  | [.tup xs]=>some (fH xs 0)
  | [.lst xs]=>some (fH xs 0)
  | _=>none)
 | .zip,l=>(match l with
  | [x,y]=>(match x with
   | .tup xs=>(match y with
    | .tup ys=>some (dS xs ys)
    | _=>none)
   | _=>none)
  | _=>none)
noncomputable def cI (k:Ik) (xs:List T):Option (List T):=(items k xs).bind fun qc=>if qc.length<=SZ then some qc else none
noncomputable def bnd (n:Nat) (x:T) (ρ:Env):Option Env :=
 if n=1 then some (some x::ρ) else
  match x with
  | .tup xs=>if xs.length=n then some (xs.map some++ρ) else none
  | _=>none
noncomputable def dP (f:T->Option (Option T)):List T->Option (List T)
 | []=>some []
 | x::xs=>(f x).bind fun r=>(dP f xs).bind fun rs=>match r with
  | none=>some rs
  | some y=>some (y::rs)
noncomputable def asI:Option T->Option (Option Int)
 | none=>some none
 | some (.int i)=>some (some i)
 | some _=>none
mutual
noncomputable def evE (G:Glo):E->Env->Option T
 | .var i,ρ=>(ρ[i]?).join
 | .cst t,_=>some t
 | .bin o a b,ρ=>(evE G a ρ).bind fun x=>(evE G b ρ).bind fun y=>bI o x y
 | .cmp o a b,ρ=>(evE G a ρ).bind fun x=>(evE G b ρ).bind fun y=>bB o x y
 | .land a b,ρ=>(evE G a ρ).bind fun x=>match x with
  | .bl true=>evE G b ρ
  | .bl false=>some (.bl false)
  | _=>none
 | .lor a b,ρ=>(evE G a ρ).bind fun x=>match x with
  | .bl true=>some (.bl true)
  | .bl false=>evE G b ρ
  | _=>none
 | .lnot a,ρ=>(evE G a ρ).bind fun x=>match x with
  | .bl b=>some (.bl (!b))
  | _=>none
 | .neg a,ρ=>(evE G a ρ).bind fun x=>match x with
  | .int i=>some (.int (-i))
  | _=>none
 | .tru a,ρ=>(evE G a ρ).bind fun x=>(gR x).map .bl
 | .tup es,ρ=>if es.length<=1000 then (aG G es ρ).map .tup else none
 | .lst es,ρ=>if es.length<=1000 then (aG G es ρ).map .lst else none
 | .idx a b,ρ=>(evE G a ρ).bind fun x=>(evE G b ρ).bind fun y=>aK x y
 | .sli a lo hi,ρ=>(evE G a ρ).bind fun x=>(evO G lo ρ).bind fun l=>(evO G hi ρ).bind fun h=>(asI l).bind fun l'=>(asI h).bind fun h'=>gQ x l' h'
 | .call f es,ρ=>(aG G es ρ).bind fun xs=>G.call f xs
 | .blt f a,ρ=>(evE G a ρ).bind fun x=>bO f x
 | .mth m a b,ρ=>(evE G a ρ).bind fun x=>(evE G b ρ).bind fun y=>jE m x y
 | .comp elt n k src cond,ρ=>(aG G src ρ).bind fun xs=>(cI k xs).bind fun qc =>
   (dP (fun x=>(bnd n x ρ).bind fun ρ'=>(evO G cond ρ').bind fun c=>match c with
    | none=>(evE G elt ρ').map some
    | some (.bl true)=>(evE G elt ρ').map some
    | some (.bl false)=>some none
    | some _=>none) qc).map .lst
 | .dgt a k d,ρ=>(evE G a ρ).bind fun x=>(evE G k ρ).bind fun y=>(evE G d ρ).bind fun z=>tQ x y z
 | .zl a b,ρ=>(evE G a ρ).bind fun x=>(evE G b ρ).bind fun y=>lV x y
noncomputable def aG (G:Glo):List E->Env->Option (List T)
 | [],_=>some []
 | e::es,ρ=>(evE G e ρ).bind fun x=>(aG G es ρ).bind fun xs=>some (x::xs)
noncomputable def evO (G:Glo):Option E->Env->Option (Option T)
 | none,_=>some none
 | some e,ρ=>(evE G e ρ).map some
end
abbrev Qq:=List (List Kt × List T)
inductive Sl where
 | no | val (t:T) | own (ts:List T) | dk (qb:List (Kt × T)) | dt (qb:List (List Kt × T))
 | dl (qb:Qq)
 deriving Inhabited
noncomputable def Sl.isDl:Sl->Bool
 | .dl _=>true
 | _=>false
noncomputable def Sl.get:Sl->Option T
 | .val t=>some t
 | _=>none
noncomputable def Sl.frz:Sl->Sl
 | .own ts=>.val (.lst ts)
 | .dk qb=>.val (.dk (qb.map (·.1)) (qb.map (·.2)))
 | .dt qb=>.val (.dt (qb.map (·.1)) (qb.map (·.2)))
 | s=>s
inductive Out where
 | nx (U:List Sl) | rt (t:T)
 deriving Inhabited
noncomputable def aB (U:List Sl):Env:=U.map Sl.get
noncomputable def aQ:List Nat->List Sl->List Sl
 | [],U=>U
 | i::r,U=>aQ r (U.modify i Sl.frz)
mutual
noncomputable def aJ:E->List Nat
 | .var i=>[i]
 | .cst _=>[]
 | .bin _ a b=>aJ a++aJ b
 | .cmp _ a b=>aJ a++aJ b
 | .land a b=>aJ a++aJ b
 | .lor a b=>aJ a++aJ b
 | .lnot a=>aJ a
 | .neg a=>aJ a
 | .tru a=>aJ a
 | .tup es=>cJ es
 | .lst es=>cJ es
 | .idx a b=>aJ a++aJ b
 | .sli a lo hi=>aJ a++(jV lo++jV hi)
 | .call _ es=>cJ es
 | .blt _ a=>aJ a
 | .mth _ a b=>aJ a++aJ b
 | .comp elt n _ src cond=>cJ src++((aJ elt++jV cond).filterMap fun i=>if n<=i then some (i-n) else none)
 | .dgt a k d=>aJ a++(aJ k++aJ d)
 | .zl a b=>aJ a++aJ b
noncomputable def cJ:List E->List Nat
 | []=>[]
 | e::es=>aJ e++cJ es
noncomputable def jV:Option E->List Nat
 | none=>[]
 | some e=>aJ e
end
noncomputable def fresh:E->Bool
 | .lst _=>true
 | .bin .add _ _=>true
 | _=>false
noncomputable def dZ (e:E) (t:T):Sl:=match fresh e,t with
 | true,.lst ts=>.own ts
 | _,t=>.val t
noncomputable def setAll:List Nat->List T->List Sl->Option (List Sl)
 | [],[],U=>some U
 | i::is,x::xs,U=>setAll is xs (U.set i (.val x))
 | _,_,_=>none
noncomputable def bD (is:List Nat) (x:T) (U:List Sl):Option (List Sl) :=
 match is,x with
 | [i],x=>some (U.set i (.val x))
 | is,.tup xs=>setAll is xs U
 | _,_=>none
noncomputable def cP (f:T->List Sl->Option Out):List T->List Sl->Option Out
 | [],U=>some (.nx U)
 | x::xs,U=>(f x U).bind fun o=>match o with
  | .nx U'=>cP f xs U'
  | .rt t=>some (.rt t)
noncomputable def kQ (s:Option Sl) (k v:T):Option Sl :=
 match s with
 | some (.dk qb)=>(match kM k,qb with
  | some q,_=>if qb.length<SZ then some (.dk (bV qb q v)) else none
  | none,[]=>(tkO k).map fun q=>.dt [(q,v)]
  | none,_=>none)
 | some (.dt qb)=>(tkO k).bind fun q=>if qb.length<SZ then some (.dt (bV qb q v)) else none
 | _=>none
noncomputable def incS (s:Option Sl) (k:T):Option T :=
 match s with
 | some (.dk _)=>(tkO k).map fun _=>.int 1
 | some (.dt qb)=>(tkO k).bind fun q=>(match (eF qb q).getD (.int 0) with
  | .int n=>some (.int (n+1))
  | _=>none)
 | _=>none
noncomputable def sdP (qb:Qq) (q:List Kt):Qq:=if (qb.any fun p=>decide (p.1=q))=true then qb else qb++[(q,[])]
noncomputable def apP (qb:Qq) (q:List Kt) (y:T):Qq:=qb.map fun p=>if p.1=q then (p.1,p.2++[y]) else p
noncomputable def sdS (U:List Sl) (i:Nat) (q:List Kt):Option (Qq) :=
 match U[i]? with
 | some (.dk qb)=>if (qb.isEmpty&&!U.any Sl.isDl)=true then some [(q,[])] else none
 | some (.dl qb)=>if qb.length<SZ then some (sdP qb q) else none
 | _=>none
noncomputable def zD:Option Sl->Option (List (List Kt × T))
 | some (.dt qb)=>some qb
 | some (.dk qb)=>if qb.isEmpty=true then some [] else none
 | _=>none
mutual
noncomputable def evS (G:Glo):S->List Sl->Option Out
 | .asg i e,U=>(evE G e (aB (aQ (aJ e) U))).bind fun t=>some (.nx ((aQ (aJ e) U).set i (dZ e t)))
 | .app i e,U=>(evE G e (aB (aQ (aJ e) U))).bind fun t=>match (aQ (aJ e) U)[i]? with
  | some (.own ts)=>if ts.length<SZ then some (.nx ((aQ (aJ e) U).set i (.own (ts++[t])))) else none
  | _=>none
 | .ext i e,U=>(evE G e (aB (aQ (aJ e) U))).bind fun t=>match t,(aQ (aJ e) U)[i]? with
  | .lst us,some (.own ts)=>if ts.length+us.length<=SZ then some (.nx ((aQ (aJ e) U).set i (.own (ts++us)))) else none
  | _,_=>none
 | .dnew i,U=>some (.nx (U.set i (.dk [])))
 | .dput i k v,U=>(evE G v (aB (aQ (aJ v++aJ k) U))).bind fun y=>(evE G k (aB (aQ (aJ v++aJ k) U))).bind fun x =>(kQ (aQ (aJ v++aJ k) U)[i]? x y).map fun s=>.nx ((aQ (aJ v++aJ k) U).set i s)
 | .dinc i k k',U=>(evE G k' (aB (aQ (aJ k'++aJ k) U))).bind fun z=>(incS (aQ (aJ k'++aJ k) U)[i]? z).bind fun y=>(evE G k (aB (aQ (aJ k'++aJ k) U))).bind fun x =>
   if (tkO x).isSome then (kQ (aQ (aJ k'++aJ k) U)[i]? x y).map fun s=>.nx ((aQ (aJ k'++aJ k) U).set i s) else none
 | .dapp i k v,U=>(evE G k (aB (aQ (aJ k++aJ v) U))).bind fun x=>(tkO x).bind fun q=>(sdS (aQ (aJ k++aJ v) U) i q).bind fun qb=>(evE G v (aB (aQ (aJ k++aJ v) U))).bind fun y =>
   if (qb.all fun p=>decide (p.2.length<SZ))=true then some (.nx ((aQ (aJ k++aJ v) U).set i (.dl (apP qb q y)))) else none
 | .vloop is i body,U=>(match U[i]? with
  | some (.dl qb)=>cP (fun x U=>(bD is x U).bind fun U'=>aE G body U') (qb.map fun p=>T.lst p.2) (U.set i .no)
  | some (.dk qb)=>if (qb.isEmpty&&!U.any Sl.isDl)=true then some (.nx (U.set i .no)) else none
  | _=>none)
 | .kloop is i body,U=>if U.any Sl.isDl then none else (zD U[i]?).bind fun qb=>cP (fun x U=>(bD is x U).bind fun U'=>aE G body U') (qb.map fun p=>tkT p.1) (U.set i (.val (.dt (qb.map (·.1)) (qb.map (·.2)))))
 | .ret e,U=>(evE G e (aB (aQ (aJ e) U))).map .rt
 | .ite c a b,U=>(evE G c (aB (aQ (aJ c) U))).bind fun t=>match t with
  | .bl true=>aE G a (aQ (aJ c) U)
  | .bl false=>aE G b (aQ (aJ c) U)
  | _=>none
 | .loop is k src body,U=>(aG G src (aB (aQ (cJ src) U))).bind fun xs=>(items k xs).bind fun qc =>cP (fun x U=>(bD is x U).bind fun U'=>aE G body U') qc (aQ (cJ src) U)
noncomputable def aE (G:Glo):List S->List Sl->Option Out
 | [],U=>some (.nx U)
 | s::ss,U=>(evS G s U).bind fun o=>match o with
  | .nx U'=>aE G ss U'
  | o=>some o
end
structure Fd where
 np:Nat
 ns:Nat
 body:List S
 deriving Inhabited
noncomputable def cU (D:Fd) (ts:List T):List Sl:=ts.map .val++List.replicate (D.ns-ts.length) .no
noncomputable def aY:Option Out->Option T
 | some (.nx _)=>some .non
 | some (.rt t)=>some t
 | _=>none
structure Pr where
 fn:Str->Option Fd
noncomputable def glo (P:Pr) (run:Str->List T->Option T):Glo:=⟨run⟩
noncomputable def run (P:Pr):Nat->Str->List T->Option T
 | 0,_,_=>none
 | n+1,f,ts=>(P.fn f).bind fun D=>if ts.length=D.np then aY (aE (glo P (run P n)) D.body (cU D ts)) else none
end
section
noncomputable def bY:List Str->Str->Option Nat
 | [],_=>none
 | y::r,x=>if y==x then some 0 else (bY r x).map (·+1)
structure Tc where
 sc:Scope
 nm:List Str
noncomputable def dG (sc:Scope) (x:Str):Bool:=match sc.names.lookup x with
 | some .local=>true
 | some .cell=>true
 | some .free=>true
 | _=>false
noncomputable def glB (sc:Scope) (x:Str):Bool:=sc.names.lookup x==some .globalImplicit
noncomputable def bZ (x:Str):Bool:=!(x==("__debug__":Str))&&!(x==("__classdict__":Str))&&!(x==("__name__":Str))&&(!(x==(".0":Str))&&(!(x==(".put":Str))&&!(x==(".lam":Str))))
noncomputable def tR (x:Str):Option Bn :=
 if x==("len":Str) then some .len else if x==("int":Str) then some .toInt else if x==("tuple":Str) then some .toTuple else if x==("sorted":Str) then some .sorted else none
noncomputable def qS (x:Str):Option Bn:=if x==("dict":Str) then some .dict else tR x
noncomputable def tS (x:Str):Option Mt:=if x==("index":Str) then some .index else none
noncomputable def bnames:List Str:=["len", "int", "str", "list", "tuple", "bool", "isinstance", "range", "enumerate", "zip", "all", "any", "set", "sorted", "min", "max", "sum", "dict"]
noncomputable def tT:Operator->Option Bo
 | .Add=>some .add | .Sub=>some .sub | .Mult=>some .mul | .FloorDiv=>some .fdiv | .Mod=>some .mod
 | _=>none
noncomputable def LL:Expr->Bool
 | .Constant (.bool false) _ _=>true
 | _=>false
noncomputable def zE:Expr->Bool
 | .Constant .none _ _=>true
 | _=>false
noncomputable def mW:CmpOp->Expr->Option Co
 | .Eq,_=>some .eq | .NotEq,_=>some .ne | .Lt,_=>some .lt | .LtE,_=>none | .Gt,_=>some .gt | .GtE,_=>none
 | .In,e=>if behindInMarks .In e then none else some .isin
 | .NotIn,e=>if behindInMarks .NotIn e then none else some .notin
 | .Is,e=>if zE e then some .isN else none
 | .IsNot,e=>if zE e then some .notN else if LL e then some .notF else none
noncomputable def iQ:Expr->Option (List Str)
 | .Name x _=>some [x]
 | .Tuple es _ _=>es.mapM fun e=>match e with
  | .Name x _=>some x
  | _=>none
 | _=>none
noncomputable def pH:Expr->Bool
 | .Slice ..=>true
 | .Starred ..=>true
 | _=>false
noncomputable def mX:List Str->Bool
 | []=>true
 | x::r=>!r.contains x&&mX r
noncomputable def pI (out sc:Scope) (xs:List Str):Bool :=
 sc.kind==.function&&mX xs&&(xs.all fun x=>bZ x&&(sc.names.lookup x==some .local||sc.names.lookup x==some .cell)) &&
 (sc.names.all fun p=>match p.2 with
  | .free=>(sc.names.lookup p.1==some .free)&&(out.names.lookup p.1==some .cell||out.names.lookup p.1==some .free)
  | .local=>(sc.names.lookup p.1==some .local)&&(xs.contains p.1||p.1==(".0":Str))
  | .cell=>(sc.names.lookup p.1==some .cell)&&xs.contains p.1
  | _=>true)
noncomputable def eA:Expr->Bool
 | .Tuple ..=>true
 | _=>false
noncomputable def jF {α β:Type} (f:α->Option β):List α->Option (List β)
 | []=>some []
 | x::r=>(f x).bind fun y=>(jF f r).bind fun ys=>some (y::ys)
noncomputable def tU {α β:Type} (f:α->Option β):Option α->Option (Option β)
 | none=>some none
 | some x=>(f x).map some
noncomputable def tV (f:Str):Expr->Option (Expr × Expr)
 | .Call (.Name g _) [x,y] [] _=>if f==("list":Str)&&g==("zip":Str) then some (x,y) else none
 | _=>none
inductive Md where
 | val | tst
 deriving DecidableEq
mutual
noncomputable def tr:Nat->Tc->Md->Expr->Option E
 | 0,_,_,_=>none
 | n+1,c,.tst,e=>trT n c e
 | n+1,c,.val,e=>trV n c e
noncomputable def trT:Nat->Tc->Expr->Option E
 | 0,_,_=>none
 | n+1,c,.BoolOp .And [a] _=>trT n c a
 | n+1,c,.BoolOp .And (a::b::r) pos=>(trT n c a).bind fun x=>(trT n c (.BoolOp .And (b::r) pos)).bind fun y=>some (.land x y)
 | n+1,c,.BoolOp .Or [a] _=>trT n c a
 | n+1,c,.BoolOp .Or (a::b::r) pos=>(trT n c a).bind fun x=>(trT n c (.BoolOp .Or (b::r) pos)).bind fun y=>some (.lor x y)
 | n+1,c,.UnaryOp .Not a _=>(trT n c a).bind fun x=>some (.lnot x)
 | n+1,c,.Compare a [op] [b] _=>(mW op b).bind fun o=>(trV n c a).bind fun x=>(trV n c b).bind fun y=>some (.cmp o x y)
 | n+1,c,.Name x pos=>(trV n c (.Name x pos)).bind fun x=>some (.tru x)
 | n+1,c,.Call f es ks pos=>(trV n c (.Call f es ks pos)).bind fun x=>some (.tru x)
 | n+1,c,.Subscript a b pos=>(trV n c (.Subscript a b pos)).bind fun x=>some (.tru x)
 | _,_,_=>none
noncomputable def trV:Nat->Tc->Expr->Option E
 | 0,_,_=>none
 | _+1,_,.Constant .none _ _=>some (.cst .non)
 | _+1,_,.Constant (.bool b) _ _=>some (.cst (.bl b))
 | _+1,_,.Constant (.int i) _ _=>some (.cst (.int i))
 | _+1,_,.Constant (.str x) _ _=>some (.cst (.str x))
 | _+1,c,.Name x _=>if bZ x then (if dG c.sc x then (bY c.nm x).map .var else none) else none
 | n+1,c,.BinOp a op b _=>(tT op).bind fun o=>(trV n c a).bind fun x=>(trV n c b).bind fun y=>some (.bin o x y)
 | n+1,c,.UnaryOp .Not a _=>(trV n c a).bind fun x=>some (.lnot x)
 | n+1,c,.UnaryOp .USub a _=>(trV n c a).bind fun x=>some (.neg x)
 | n+1,c,.BoolOp _ [a] _=>trV n c a
 | n+1,c,.BoolOp .And (a::b::r) pos=>(trV n c a).bind fun x=>(trV n c (.BoolOp .And (b::r) pos)).bind fun y=>some (.land x y)
 | n+1,c,.BoolOp .Or (a::b::r) pos=>(trV n c a).bind fun x=>(trV n c (.BoolOp .Or (b::r) pos)).bind fun y=>some (.lor x y)
 | n+1,c,.Compare a [op] [b] _=>(mW op b).bind fun o=>(trV n c a).bind fun x=>(trV n c b).bind fun y=>some (.cmp o x y)
 | n+1,c,.Tuple es _ _=>(jF (trV n c) es).bind fun xs=>some (.tup xs)
 | n+1,c,.List es _=>(jF (trV n c) es).bind fun xs=>some (.lst xs)
 | n+1,c,.Subscript a (.Slice lo hi none _) _=>(trV n c a).bind fun x=>(tU (trV n c) lo).bind fun l=>(tU (trV n c) hi).bind fun h=>some (.sli x l h)
 | n+1,c,.Subscript a b _=>if pH b then none else (trV n c a).bind fun x=>(trV n c b).bind fun y=>some (.idx x y)
 | n+1,c,.Call (.Name f _) [a] [] _=>if glB c.sc f&&bZ f then (match qS f with
  | some k=>(trV n c a).bind fun x=>some (.blt k x)
  | none=>if bnames.contains f then (match tV f a with
    | some p=>if glB c.sc ("zip":Str) then (trV n c p.1).bind fun x=>(trV n c p.2).bind fun y=>some (.zl x y) else none
    | none=>none) else (trV n c a).bind fun x=>some (.call f [x])) else none
 | n+1,c,.Call (.Name f _) (e::es) [] _=>if glB c.sc f&&bZ f&&!bnames.contains f then (jF (trV n c) (e::es)).bind fun xs=>some (.call f xs) else none
 | n+1,c,.Call (.Attribute o m apos) [a] [] cpos=>if apos.endLine==cpos.line then (tS m).bind fun k=>(trV n c o).bind fun x=>(trV n c a).bind fun y=>some (.mth k x y) else none
 | n+1,c,.Call (.Attribute o m apos) [a,b] [] cpos=>if apos.endLine==cpos.line&&m==("get":Str) then (trV n c o).bind fun x=>(trV n c a).bind fun y=>(trV n c b).bind fun z=>some (.dgt x y z) else none
 | n+1,c,.ListComp elt [⟨tg,iter,ifs,0⟩] scope _=>(iQ tg).bind fun xs=>(trI n c iter).bind fun ki=>if pI c.sc scope xs&&(!ki.1.pair||eA tg)&&(!eA tg||decide (2<=xs.length)) then
   (match ifs with
   | []=>(trV n ⟨scope,xs++c.nm⟩ elt).bind fun x=>some (.comp x xs.length ki.1 ki.2 none)
   | [t]=>(trV n ⟨scope,xs++c.nm⟩ elt).bind fun x=>(trT n ⟨scope,xs++c.nm⟩ t).bind fun y=>some (.comp x xs.length ki.1 ki.2 (some y))
   | _=>none) else none
 | _,_,_=>none
noncomputable def trI:Nat->Tc->Expr->Option (Ik × List E)
 | 0,_,_=>none
 | n+1,c,.Call (.Name f p) [a] [] pos=>if f==("range":Str)&&glB c.sc f then (trV n c a).bind fun x=>some (.range,[x])
   else if f==("enumerate":Str)&&glB c.sc f then (trV n c a).bind fun x=>some (.enum,[x])
   else (trV n c (.Call (.Name f p) [a] [] pos)).bind fun x=>some (.plain,[x])
 | n+1,c,.Call (.Name f p) [a,b] [] pos=>if f==("zip":Str)&&glB c.sc f then (trV n c a).bind fun x=>(trV n c b).bind fun y=>some (.zip,[x,y])
   else (trV n c (.Call (.Name f p) [a,b] [] pos)).bind fun x=>some (.plain,[x])
 | n+1,c,e=>(trV n c e).bind fun x=>some (.plain,[x])
end
noncomputable def qU:Expr->Bool
 | .List ..=>true
 | .BinOp ..=>true
 | _=>false
noncomputable def tW:Expr->Bool
 | .ListComp ..=>true
 | _=>false
noncomputable def qV (x:Str):Expr->Option Expr
 | .BinOp (.Call (.Attribute (.Name y _) m apos) [k,.Constant (.int 0) _ _] [] cpos) .Add (.Constant (.int 1) _ _) _=>if y==x&&m==("get":Str)&&apos.endLine==cpos.line then some k else none
 | _=>none
noncomputable def qW:Expr->Bool
 | .Dict [] [] _=>true
 | _=>false
noncomputable def tX:Expr->Option (Str × Str × Pos × Pos × List Expr × Pos)
 | .Call f es ks cpos=>(match f with
  | .Attribute o m apos=>(match o with
   | .Name y p=>(match ks with
    | []=>some (y,m,p,apos,es,cpos)
    | _=>none)
   | _=>none)
  | _=>none)
 | _=>none
noncomputable def emL:Expr->Bool
 | .List l _=>l.isEmpty
 | _=>false
noncomputable def sdC (e:Expr):Option (Str × Expr):=(tX e).bind fun x=>match x.2.2.2.2.1 with
 | [k,l]=>if emL l&&(x.2.1==("setdefault":Str)&&x.2.2.2.1.endLine==x.2.2.2.2.2.line) then some (x.1,k) else none
 | _=>none
noncomputable def valC (e:Expr):Option Str:=(tX e).bind fun x=>match x.2.2.2.2.1 with
 | []=>if x.2.1==("values":Str)&&x.2.2.2.1.endLine==x.2.2.2.2.2.line then some x.1 else none
 | _=>none
noncomputable def zF:Expr->Option Str
 | .Name y _=>if y==("_law_sorts":Str) then some y else none
 | _=>none
mutual
noncomputable def trS:Nat->Tc->Stmt->Option S
 | 0,_,_=>none
 | n+1,c,.Assign [.Subscript (.Name x _) k _] v _=>if dG c.sc x&&bZ x&&!pH k then (bY c.nm x).bind fun i=>(trV n c k).bind fun y=>(match qV x v with
   | some k'=>(trV n c k').bind fun y'=>some (.dinc i y y')
   | none=>if tW v then none else (trV n c v).bind fun z=>some (.dput i y z)) else none
 | n+1,c,.Assign [.Name x _] e _=>if bZ x&&(c.sc.names.lookup x==some .local||c.sc.names.lookup x==some .cell) then (bY c.nm x).bind fun i=>if qW e then some (.dnew i) else ((trV n c e).bind fun y=>if fresh y&&!qU e then none else some (.asg i y)) else none
 | n+1,c,.Expr (.Call (.Attribute (.Name x _) m apos) [a] [] cpos) _=>if apos.endLine==cpos.line&&dG c.sc x&&bZ x then (bY c.nm x).bind fun i=>(trV n c a).bind fun y =>(if m==("append":Str) then some (.app i y) else if m==("extend":Str) then some (.ext i y) else none) else none
 | n+1,c,.Expr (.Call (.Attribute o m apos) [a] [] cpos) _=>if apos.endLine==cpos.line&&m==("append":Str) then (sdC o).bind fun p=>if dG c.sc p.1&&bZ p.1 then (bY c.nm p.1).bind fun i=>(trV n c p.2).bind fun x=>(trV n c a).bind fun y=>some (.dapp i x y) else none else none
 | n+1,c,.Return (some e) _=>(trV n c e).bind fun y=>some (.ret y)
 | n+1,c,.If t a b _=>(trT n c t).bind fun z=>(jG n c a).bind fun x=>(jG n c b).bind fun y=>some (.ite z x y)
 | n+1,c,.For tg iter body [] _=>(iQ tg).bind fun xs=>(jF (bY c.nm) xs).bind fun is=>(match valC iter with
   | some y=>(bY c.nm y).bind fun i=>(jG n c body).bind fun b=>if !eA tg&&(dG c.sc y&&bZ y)&&mX xs&&(xs.all fun x=>bZ x&&(c.sc.names.lookup x==some .local||c.sc.names.lookup x==some .cell)) then some (.vloop is i b) else none
   | none=>(match zF iter with
    | some y=>(bY c.nm y).bind fun i=>(jG n c body).bind fun b=>if decide (2<=xs.length)&&(dG c.sc y&&bZ y)&&mX xs&&(xs.all fun x=>bZ x&&(c.sc.names.lookup x==some .local||c.sc.names.lookup x==some .cell)) then some (.kloop is i b) else none
    | none=>(trI n c iter).bind fun ki=>(jG n c body).bind fun b=>if (!ki.1.pair||eA tg)&&(!eA tg||decide (2<=xs.length))&&mX xs&&(xs.all fun x=>bZ x&&(c.sc.names.lookup x==some .local||c.sc.names.lookup x==some .cell)) then some (.loop is ki.1 ki.2 b) else none))
 | _,_,_=>none
noncomputable def jG:Nat->Tc->List Stmt->Option (List S)
 | 0,_,_=>none
 | _+1,_,[]=>some []
 | n+1,c,s::ss=>(trS n c s).bind fun x=>(jG n c ss).bind fun xs=>some (x::xs)
end
noncomputable def fV (sc:Scope):List Str:=(sc.names.filter fun p=>p.2==.local||p.2==.cell).map (·.1)
end
end Ev
namespace L2
open PySem
variable {scope:Scope} {env:Env}
def gS (env:Env):List (Str × NameKind)->List (Str × Addr)->List (Str × Addr)
 | [],acc=>acc
 | (n,k)::r,acc=>if k==.free then gS env r ((n,(env.cells.lookup n).getD 0)::acc) else gS env r acc
theorem tY {env:Env} (f:Str × NameKind->List (Str × Addr)->Sem (ForInStep (List (Str × Addr))))
  (hf:∀ n k cs,f (n,k) cs=if k==.free then (do let a <- cellOf env n;pure (ForInStep.yield ((n,a)::cs))) else pure (.yield cs)) :
  ∀ (names:List (Str × NameKind)) (acc:List (Str × Addr)),(∀ y∈names,y.2=.free->∃ c,env.cells.lookup y.1=some c)->(forIn names acc f:Sem _)=pure (gS env names acc)
 | [],acc,_=>rfl
 | (n,k)::r,acc,h=>by
  rw [List.forIn_cons,hf];unfold gS;by_cases hk:(k==.free)=true
  .rw [if_pos hk,if_pos hk];obtain ⟨c,hc⟩:=h (n,k) List.mem_cons_self (by simpa using hk);have e:cellOf env n=pure c:=by unfold cellOf;rw [hc]
   rw [e,hc];simp only [pure_bind,Option.getD_some];exact tY f hf r _ fun y hy=>h y (cL _ hy)
  .rw [if_neg hk,if_neg hk];simp only [pure_bind];exact tY f hf r _ fun y hy=>h y (cL _ hy)
theorem zG (h:∀ y∈scope.names,y.2=.free->∃ c,env.cells.lookup y.1=some c):closureFor scope env=pure (gS env scope.names []):=by simp only [closureFor];rw [tY (env:=env) _ (fun n k cs=>by by_cases hk:(k==NameKind.free)=true<;>simp [hk]) scope.names [] h];simp only [pure_bind]
theorem qX {env:Env}:∀ (names:List (Str × NameKind)) (acc:List (Str × Addr)),(∀ x c,acc.lookup x=some c->env.cells.lookup x=some c)->(∀ y∈names,y.2=.free->∃ c,env.cells.lookup y.1=some c) ->
  ∀ x c,(gS env names acc).lookup x=some c->env.cells.lookup x=some c
 | [],acc,h,_,x,c,e=>h x c e
 | (n,k)::r,acc,h,hn,x,c,e=>by
  unfold gS at e;have hr:∀ y∈r,y.2=.free->∃ c,env.cells.lookup y.1=some c:=fun y hy=>hn y (cL _ hy);by_cases hk:(k==.free)=true
  .rw [if_pos hk] at e;obtain ⟨c',hc'⟩:=hn (n,k) List.mem_cons_self (by simpa using hk);refine qX r _ (fun x c e=>?_) hr x c e;rw [iE] at e;cases hb:x==n with
   | true =>rw [hb] at e;have e':some ((env.cells.lookup n).getD 0)=some c:=e;rw [hc'] at e';cases e';rw [mO.mp hb];exact hc'
   | false=>rw [hb] at e;exact h x c e
  .rw [if_neg hk] at e;exact qX r acc h hr x c e
theorem qY {env:Env} {x:Str}:∀ (names:List (Str × NameKind)) (acc:List (Str × Addr)),((x,NameKind.free)∈names\/(acc.lookup x).isSome=true)->((gS env names acc).lookup x).isSome=true
 | [],acc,h=>h.elim (fun z=>nomatch z) id
 | (n,k)::r,acc,h=>by
  unfold gS;have up:∀ a:Addr,(acc.lookup x).isSome=true->(List.lookup x ((n,a)::acc)).isSome=true:=fun a z=>by
   rw [iE];cases x==n with
   | true=>rfl
   | false=>exact z
  by_cases hk:(k==.free)=true
  .rw [if_pos hk];refine qY r _ ?_;rcases h with h | h
   .rcases omc h with e | e
    .cases e;right;rw [iE,jN];rfl
    .exact .inl e
   .exact .inr (up _ h)
  .rw [if_neg hk];refine qY r _ ?_;rcases h with h | h
   .rcases omc h with e | e
    .cases e;exact absurd rfl hk
    .exact .inl e
   .exact .inr h
theorem LM {x:Str} {names:List (Str × NameKind)} (hn:∀ y∈names,y.2=.free->∃ c,env.cells.lookup y.1=some c) (h:(x,NameKind.free)∈names):(gS env names []).lookup x=env.cells.lookup x:=by obtain ⟨c,hc⟩:=Option.isSome_iff_exists.mp (qY (env:=env) names [] (.inl h));rw [hc,qX names [] (fun _ _ e=>by cases e) hn x c hc]
theorem oD:∀ (names:List (Str × NameKind)) (n:Nat) (acc:List (Str × Addr)),cellsFrom n names acc=cellsFrom n names []++acc
 | [],n,acc=>rfl
 | (x,k)::r,n,acc=>by
  unfold cellsFrom;by_cases hk:(k==.cell)=true
  .rw [if_pos hk,if_pos hk,oD r (n+1) ((x,n)::acc),oD r (n+1) [(x,n)],kH];rfl
  .rw [if_neg hk,if_neg hk];exact oD r n acc
theorem qZ {x:Str} {c:Addr}:∀ (names:List (Str × NameKind)) (n:Nat),(x,c)∈cellsFrom n names []->n<=c/\(x,NameKind.cell)∈names
 | [],n,h=>by cases h
 | (y,k)::r,n,h=>by
  unfold cellsFrom at h;by_cases hk:(k==.cell)=true
  .rw [if_pos hk,oD] at h;have ek:k=.cell:=by simpa using hk
   rcases oma h with h | h
   .obtain ⟨h1,h2⟩:=qZ r (n+1) h;exact ⟨by lia,cL _ h2⟩
   .have e:(x,c)=(y,n):=by simpa using h
    cases e;exact ⟨aV _,by rw [ek];exact cW⟩
  .rw [if_neg hk] at h;obtain ⟨h1,h2⟩:=qZ r n h;exact ⟨h1,cL _ h2⟩
theorem rA {x:Str}:∀ (names:List (Str × NameKind)) (n:Nat) (acc:List (Str × Addr)),((x,NameKind.cell)∈names\/(acc.lookup x).isSome=true)->((cellsFrom n names acc).lookup x).isSome=true
 | [],_,acc,h=>h.elim (fun z=>nomatch z) id
 | (y,k)::r,n,acc,h=>by
  unfold cellsFrom;by_cases hk:(k==.cell)=true
  .rw [if_pos hk];refine rA r _ _ ?_;rcases h with h | h
   .rcases omc h with e | e
    .cases e;right;rw [iE,jN];rfl
    .exact .inl e
   .right;rw [iE];cases x==y with
    | true=>rfl
    | false=>exact h
  .rw [if_neg hk];refine rA r _ _ ?_;rcases h with h | h
   .rcases omc h with e | e
    .cases e;exact absurd rfl hk
    .exact .inl e
   .exact .inr h
theorem LN {x:Str} {c:Addr} {names:List (Str × NameKind)} {n:Nat} {acc:List (Str × Addr)} (h:(cellsFrom n names acc).lookup x=some c) :
  (x,c)∈cellsFrom n names []\/((cellsFrom n names []).lookup x=none/\acc.lookup x=some c):=by
 rw [oD,List.lookup_append] at h;cases e:(cellsFrom n names []).lookup x with
 | none=>rw [e] at h;exact .inr ⟨rfl,by simpa using h⟩
 | some d =>
  rw [e] at h;have h':some d=some c:=by simpa using h
  cases h';exact .inl (mem_of_lookup e)
section
variable {M:Model} {A:Around} {E:Vq} {s:Shared}
theorem LO {globals:Addr} {cl:List (Str × Addr)} {qual:Str} {Q:Env->Shared->Prop}
  (hQ:Q { scope:=scope,locals:=s.heap.objs.size,globals:=globals,cells:=cellsFrom (s.heap.objs.size+1) scope.names cl,qual:=qual,func:=none,code:=env.code,frame:=env.frame,builtins:=env.builtins }
   { s with heap:=pushCells (s.heap.push { cls:=.type "dict",data:=.dict #[] }) scope.names }) :
  wpAny M A (newFunctionEnv scope globals cl [] qual none .none (some env)) Q E s:=by
 simp only [newFunctionEnv,Option.isSome_some,if_true];refine aA (wpAny_alloc ?_);refine wpAny_bind (wpAny_layCells _ (fun name kind cells=>by cases hkc:kind==NameKind.cell<;>simp []) _ _ _ _ ?_);rw [show ({ s with heap:=s.heap.push { cls:=.type "dict",data:=.dict #[] } }:Shared).heap.objs.size=s.heap.objs.size+1 from gA ..];simp only [List.forIn_nil,pure_bind];exact aI hQ
end
end L2
namespace Ev
open PySem Spec PyProof.Rows L2
section
open AutoSeq1 (wpAny_loadPart')
section
variable {X:Cx}
end
section
variable {prog:Program} {w:World} {A:Around} {E:Vq} {s:Shared}
theorem zH {α β:Type} {f g:α->Option β}:∀ {l:List α},(∀ a∈l,f a=g a)->l.filterMap f=l.filterMap g
 | [],_=>rfl
 | a::l,h=>by rw [jD,jD,h a cW,zH fun b hb=>h b (cL _ hb)]
theorem LP {t sl:Addr} {zs:Array Value} {vl vu:Value} {lo hi:Option Int} {Q:Vq} (ht:IsTup s.heap t zs) (hs:s.heap.IsSliceOf sl vl vu .none) (pl:IsPart vl lo) (pu:IsPart vu hi)
  (hw:HT.sIx zs.size 0 lo=0/\HT.sIx zs.size zs.size hi=zs.size) (h:Q (.ref t) s):wpAny (model prog w) A (getItem (.ref t) (.ref sl)) Q E s:=by
 obtain ⟨os,hos,hcs,hds⟩:=id hs;have hT:s.TypeIs (.ref sl) "slice":=⟨os,hos,hcs⟩;unfold getItem
 try with_reducible refine fR ?_
 first | refine aA (aI ?_) | skip
 refine aA (wpAny_sequenceKey ht.typeIs (by decide) ?_);refine aA (iO (name:=Str.ofString "__getitem__") ht.typeIs PyProof.Rows.slot_tuple_getitem (fF PyProof.Rows.slot_tuple_getitem ht.typeIs PyProof.Rows.entry_tuple_getitem ?_ (PyProof.Rows.args_tuple_getitem _ _)));show wpAny _ _ (Builtin.Tuple.tupleItemsOf (.ref t) >>= _) _ _ s;refine aA (tupleItemsOf_ ht ?_);refine aA (wpAny_typeOf hT ?_);rw [if_pos (by decide)];refine aA (HT.sliceApplied_gen hs pl pu ?_);have hyes:(((HT.sIx zs.size 0 lo:Nat):Int)==0&&(1:Int)==1&&(HT.sIx zs.size zs.size hi-HT.sIx zs.size 0 lo)==zs.size)=true:=by rw [hw.1,hw.2];simp
 show wpAny _ _ (if (((HT.sIx zs.size 0 lo:Nat):Int)==0&&(1:Int)==1&&(HT.sIx zs.size zs.size hi-HT.sIx zs.size 0 lo)==zs.size)=true then _ else _) _ _ s;rw [if_pos hyes];refine aA (show wpAny _ _ (Builtin.Tuple.tupleIsExact (.ref t)) _ _ s from ?_);unfold Builtin.Tuple.tupleIsExact;refine aA (wpAny_typeOf ht.typeIs (aI ?_));simp only [beq_self_eq_true,if_true];exact aA (wpAny_rule (aI ⟨_,rfl,aI h⟩))
end
section
variable {X:Cx} {c:Tc} {a:Expr} {pos p2:Pos}
theorem LQ:SlR X (fun x lo hi H Q=>∃ a xs,x=.ref a/\SqT X.K H a xs/\(HT.sIx xs.length 0 lo=0/\HT.sIx xs.length xs.length hi=xs.length)/\Q (.ref a) H):=by
 intro pj s O H x v vl vu lo hi sl Q I rx hs pl pu h;obtain ⟨a,xs,rfl,hx,hw,q⟩:=h;cases rx;obtain ⟨qc,r,ht,hz⟩:=I.tuple hx;have hlen:qc.toArray.size=xs.length:=by rw [cR];exact r.length.symm
 exact ⟨"tuple",_,PyProof.Rows.slot_tuple_getitem.lookup,ht.typeIs,LP ht hs pl pu (by rw [hlen];exact hw) ⟨.ref a,H,I,rfl,q⟩⟩
end
end
section
variable {K:W.Frag} {H F F' H' H1:Hp} {xs:List V} {o:HO} {p:Addr} {e:Expr} {f g:Env->Option T} {h:T->T->Option T}
def Ls (K:W.Frag) (H:Hp) (a:Addr) (xs:List V):Prop :=
 Rd H a (.lst xs)\/∃ (qc:Array Value) (n:Nat),K.lookup a=some { cls:=.type "list",data:=.seq qc n }/\qc.size<=sizeLine/\aH xs qc.toList
theorem Ls.of {a:Addr} (h:H a=some (.lst xs)):Ls K H a xs:=.inl (.inl h)
theorem Ls.sq {a:Addr} (h:Ls K H a xs):SqL K H a xs:=by
 rcases h with h | ⟨qc,n,h1,h2,h3⟩
 .exact .inl h
 .exact .inr ⟨_,qc,n,h1,rfl,rfl,rfl,h2,h3⟩
theorem Ls.ok {X:Cx} {pj:Pq} {O:L2.St} {H:Hp} {s:Shared} {a:Addr} {xs:List V} (h:Ls X.K H a xs) (I:Inv X pj O H s) :
  xs.length<=sizeLine/\∃ (qc:List Value) (n:Nat),aH xs qc/\s.heap.get? a=some { cls:=.type "list",data:=.seq qc.toArray n }:=by
 rcases h with h | ⟨qc,n,h1,h2,h3⟩
 .obtain ⟨z,qc,n,r,e⟩:=h.ok I.hok;exact ⟨z,qc,n,r,e⟩
 .exact ⟨by rw [h3.length,gM];exact h2,qc.toList,n,h3,by rw [Array.toArray_toList];exact I.kIn a _ h1⟩
abbrev Tq (_K:W.Frag) (F:Hp) (a:Addr) (xs:List V):Prop:=F a=some (.tup xs)
mutual
def Rep (K:W.Frag) (F:Hp):T->V->Prop
 | .non,v=>v=.non
 | .bl b,v=>v=.bl b
 | .int i,v=>v=.int i
 | .str x,v=>v=.str x
 | .tup ts,v=>∃ a vs,v=.ref a/\Tq K F a vs/\aF K F ts vs
 | .lst ts,v=>∃ a vs,v=.ref a/\Ls K F a vs/\aF K F ts vs
 | .dk ks ts,v=>∃ a ws,v=.ref a/\F a=some (.dK ws)/\ws.map (·.1)=ks/\aF K F ts (ws.map (·.2))
 | .dt ks ts,v=>∃ a ws,v=.ref a/\Rd F a (.dT ws)/\ws.map (·.1)=ks/\aF K F ts (ws.map (·.2))
def aF (K:W.Frag) (F:Hp):List T->List V->Prop
 | [],vs=>vs=[]
 | t::ts,vs=>∃ v r,vs=v::r/\Rep K F t v/\aF K F ts r
end
theorem jW {a:Addr} (e:Same F F') (h:Rd F a o):Rd F' a o:=by
 rcases h with h | ⟨b,h⟩
 .exact .inl (e _ _ h)
 .exact .inr ⟨b,e _ _ h⟩
theorem Ls.same {a:Addr} (e:Same F F') (h:Ls K F a xs):Ls K F' a xs:=by
 rcases h with h | h
 .exact .inl (jW e h)
 .exact .inr h
theorem dQ {a:Addr} (e:Same F F') (h:Tq K F a xs):SqT K F' a xs:=SqT.of (e _ _ h)
mutual
theorem Rep.mono {K:W.Frag} {F F':Hp} (e:Same F F'):∀ {t:T} {v:V},Rep K F t v->Rep K F' t v
 | .non,_,h=>h
 | .bl _,_,h=>h
 | .int _,_,h=>h
 | .str _,_,h=>h
 | .tup _,_,h=>by obtain ⟨a,vs,h1,h2,h3⟩:=h;exact ⟨a,vs,h1,e _ _ h2,aF.mono e h3⟩
 | .lst _,_,h=>by obtain ⟨a,vs,h1,h2,h3⟩:=h;exact ⟨a,vs,h1,Ls.same e h2,aF.mono e h3⟩
 | .dk _ _,_,h=>by obtain ⟨a,ws,h1,h2,h3,h4⟩:=h;exact ⟨a,ws,h1,e _ _ h2,h3,aF.mono e h4⟩
 | .dt _ _,_,h=>by obtain ⟨a,ws,h1,h2,h3,h4⟩:=h;exact ⟨a,ws,h1,jW e h2,h3,aF.mono e h4⟩
theorem aF.mono {K:W.Frag} {F F':Hp} (e:Same F F'):∀ {ts:List T} {vs:List V},aF K F ts vs->aF K F' ts vs
 | [],_,h=>h
 | _::_,_,h=>by obtain ⟨v,r,h1,h2,h3⟩:=h;exact ⟨v,r,h1,Rep.mono e h2,aF.mono e h3⟩
end
theorem aF.length {K:W.Frag} {F:Hp}:∀ {ts:List T} {vs:List V},aF K F ts vs->vs.length=ts.length
 | [],_,h=>by cases h;rfl
 | _::_,_,h=>by obtain ⟨v,r,rfl,_,h3⟩:=h;simp [aF.length h3]
theorem aF.cons {t:T} {v:V} {ts:List T} {vs:List V} (h:Rep K F t v) (r:aF K F ts vs):aF K F (t::ts) (v::vs):=⟨v,vs,rfl,h,r⟩
theorem aF.app {K:W.Frag} {F:Hp}:∀ {ts us:List T} {vs ws:List V},aF K F ts vs->aF K F us ws->aF K F (ts++us) (vs++ws)
 | [],_,_,_,h,r=>by cases h;exact r
 | _::_,_,_,_,h,r=>by obtain ⟨v,q,rfl,h2,h3⟩:=h;exact ⟨v,_,rfl,h2,aF.app h3 r⟩
theorem aF.drop {K:W.Frag} {F:Hp}:∀ (n:Nat) {ts:List T} {vs:List V},aF K F ts vs->aF K F (ts.drop n) (vs.drop n)
 | 0,_,_,h=>h
 | _+1,[],_,h=>by cases h;exact rfl
 | n+1,_::_,_,h=>by obtain ⟨v,q,rfl,h2,h3⟩:=h;exact aF.drop n h3
theorem aF.take {K:W.Frag} {F:Hp}:∀ (n:Nat) {ts:List T} {vs:List V},aF K F ts vs->aF K F (ts.take n) (vs.take n)
 | 0,_,_,_=>rfl
 | _+1,[],_,h=>by cases h;exact rfl
 | n+1,_::_,_,h=>by obtain ⟨v,q,rfl,h2,h3⟩:=h;exact ⟨v,_,rfl,h2,aF.take n h3⟩
theorem aF.get {K:W.Frag} {F:Hp}:∀ {ts:List T} {vs:List V} {i:Nat} {t:T},aF K F ts vs->ts[i]?=some t->∃ v,vs[i]?=some v/\Rep K F t v
 | [],_,_,_,_,e=>by simp at e
 | _::_,_,0,_,h,e=>by obtain ⟨v,q,rfl,h2,h3⟩:=h;simp at e;subst e;exact ⟨v,rfl,h2⟩
 | _::_,_,i+1,t,h,e=>by obtain ⟨v,q,rfl,h2,h3⟩:=h;obtain ⟨w,h4,h5⟩:=aF.get (i:=i) (t:=t) h3 (by simpa using e);exact ⟨w,by simpa using h4,h5⟩
def pJ:HO->Bool
 | .tbl _=>true
 | _=>false
def lamQ:Str:="_law_spoilt.<locals>.<lambda>"
def CdAt (H:Hp) (cv:Value):Prop:=∃ a oc vs t,cv=.ref a/\H a=some (.frz oc (.own 0))/\oc.data=.fields vs/\vs[1]?=some (.str lamQ t)
def iL (H:Hp) (b:Addr):Prop:=∃ ps:Array Value,H b=some (.tbl ps)/\TriplesOk ps.toList/\∀ pos cv,codeAmong pos ps.toList=some cv->CdAt H cv
theorem CdAt.up {cv:Value} (h:CdAt H cv) (k:∀ a o u,H a=some (.frz o u)->H' a=some (.frz o u)):CdAt H' cv:=by obtain ⟨a,oc,vs,t,h1,h2,h3,h4⟩:=h;exact ⟨a,oc,vs,t,h1,k _ _ _ h2,h3,h4⟩
theorem iL.up {H H':Hp} {b:Addr} (h:iL H b) (k:∀ a o u,H a=some (.frz o u)->H' a=some (.frz o u)) (kt:∀ a ps,H a=some (.tbl ps)->H' a=some (.tbl ps)):iL H' b:=by obtain ⟨ps,h1,h2,h3⟩:=h;exact ⟨ps,kt _ _ h1,h2,fun pos cv e=>(h3 pos cv e).up k⟩
structure SameT (H H':Hp):Prop where
 st:∀ b u,H b=some u->pJ u=false->H' b=some u
 fr:∀ b,H' b=none->H b=none
 tb:∀ b,iL H b->iL H' b
 tt:∀ b ps,H b=some (.tbl ps)->∃ qs,H' b=some (.tbl qs)
theorem rB (e:Same H H'):SameT H H':=⟨fun b u h _=>e b u h,fun _ h=>e.free h,fun _ h=>h.up (fun a o u q=>e a _ q) fun a ps q=>e a _ q,fun b ps h=>⟨ps,e b _ h⟩⟩
theorem SameT.refl (H:Hp):SameT H H:=rB (Same.refl H)
theorem SameT.free (e:SameT H H') {l:Addr} (h:H' l=none):H l=none:=e.fr l h
theorem SameT.trans {H2:Hp} (a:SameT H H1) (b:SameT H1 H2):SameT H H2:=⟨fun c u h q=>b.st c u (a.st c u h q) q,fun c h=>a.fr c (b.fr c h),fun c h=>b.tb c (a.tb c h),fun c ps h=>let ⟨qs,g⟩:=a.tt c ps h;b.tt c qs g⟩
theorem SameT.aP {H H1:Hp} {a:Addr} {o o1:HO} (e:SameT H H1) (h0:H a=none) (h1:H1 a=some o1) (k1:pJ o1=false) (k2:∀ p u,o1≠.frz p u):SameT H (aP H1 a o):=by
 refine ⟨fun b u h q=>?_,fun b h=>?_,fun b h=>?_,fun b ps h=>?_⟩
 .rw [aR (cS h h0)];exact e.st b u h q
 .by_cases hb:b=a
  .subst hb;exact h0
  .rw [aR hb] at h;exact e.fr b h
 .refine (e.tb b h).up (fun c p u q=>?_) fun c ps q=>?_
  .rw [aR (kJ q h1 fun z=>k2 _ _ z.symm)];exact q
  .rw [aR (kJ q h1 (by intro z;subst z;cases k1))];exact q
 .obtain ⟨qs,g⟩:=e.tt b ps h;exact ⟨qs,by rw [aR (cS h h0)];exact g⟩
def LR:Option Obj->Option Addr
 | some ⟨_,_,.func fd,_⟩=>(match fd.code with | .ref c=>some c | _=>none)
 | _=>none
def LS (i:Nat):Option Obj->Option Addr
 | some ⟨_,_,.fields vs,_⟩=>(match vs.getD i .none with | .ref c=>some c | _=>none)
 | _=>none
def LT:Option (Option Value)->Option Addr
 | some (some (.ref f))=>some f
 | _=>none
def zI (K:W.Frag):Option Addr:=(LT (W.nsIn K mainGlobals "_law_spoilt")).bind fun f=>(LR (K.lookup f)).bind fun c=>LS 11 (K.lookup c)
structure Step (F H F' H':Hp):Prop where
 hh:SameT H H'
 ff:Same F F'
 fh:Same F' H'
 nw:∀ a,F' a≠none->F a≠none\/H a=none\/∃ xs,H a=some (.tup xs)
theorem Step.refl {F H:Hp} (h:Same F H):Step F H F H:=⟨SameT.refl H,Same.refl F,h,fun _ z=>.inl z⟩
def Tbk (K:W.Frag) (F H:Hp):Prop:=∀ p,zI K=some p->F p=none/\iL H p
theorem Tbk.up (h:Tbk K F H) (S:Step F H F' H'):Tbk K F' H':=fun p q=>by
 obtain ⟨h1,h2⟩:=h p q;refine ⟨?_,S.hh.tb p h2⟩;cases e:F' p with
 | none=>rfl
 | some v =>
  rcases S.nw p (by rw [e];simp) with z | z | ⟨xs,z⟩
  .exact absurd h1 z
  .obtain ⟨ps,h3,_⟩:=h2;rw [h3] at z;cases z
  .obtain ⟨ps,h3,_⟩:=h2;rw [h3] at z;cases z
theorem Step.trans {F H F1 H1 F2 H2:Hp} (a:Step F H F1 H1) (b:Step F1 H1 F2 H2):Step F H F2 H2 :=
 ⟨a.hh.trans b.hh,a.ff.trans b.ff,b.fh,fun x z=>by
  rcases b.nw x z with q | q | ⟨xs,q⟩
  .exact a.nw x q
  .exact .inr (.inl (a.hh.free q))
  .cases h:H x with
   | none=>exact .inr (.inl rfl)
   | some o =>
    by_cases ht:pJ o=true
    .cases o with
     | tbl ps=>obtain ⟨qs,g⟩:=a.hh.tt x ps h;rw [q] at g;cases g
     | _=>cases ht
    .have h':=a.hh.st x o h (by simpa using ht);rw [q] at h';cases h';exact .inr (.inr ⟨xs,rfl⟩)⟩
theorem zJ (h:Same F H):Same (aP F p o) (aP H p o):=fun b u e=>by
 by_cases hb:b=p
 .subst hb;rw [cC] at e ⊢;exact e
 .rw [aR hb] at e ⊢;exact h b u e
theorem gU (h:H p=none):Same H (aP H p o):=fun b u e=>by rw [aR (cS e h)];exact e
theorem Step.new {F1:Hp} (a:Step F H F1 H1) (h:H1 p=none):Step F H (aP F1 p o) (aP H1 p o) :=
 ⟨a.hh.trans (rB (gU h)),a.ff.trans (gU (a.fh.free h)),zJ a.fh,fun x z=>by
  by_cases hx:x=p
  .subst hx;exact .inr (.inl (a.hh.free h))
  .rw [aR hx] at z;exact a.nw x z⟩
theorem Step.newH {F1:Hp} (a:Step F H F1 H1) (h:H1 p=none):Step F H F1 (aP H1 p o) :=
 ⟨a.hh.trans (rB (gU h)),a.ff,a.fh.trans (gU h),a.nw⟩
structure EnvE (X:Cx) (c:Tc) (r:Env) (F:Hp) (O:L2.St) (H:Hp):Prop where
 fh:Same F H
 tb:Tbk X.K F H
 get:∀ (x:Str) (i:Nat) (t:T),bZ x=true->bY c.nm x=some i->dG c.sc x=true->r[i]?=some (some t)->∃ (j:Nat) (v:V),X.N[j]?=some x/\O[j]?=some (some v)/\Rep X.K F t v
theorem EnvE.step {X:Cx} {c:Tc} {r:Env} {O:L2.St} (e:EnvE X c r F O H) (s:Step F H F' H'):EnvE X c r F' O H' :=
 ⟨s.fh,e.tb.up s,fun x i t pn a b d=>let ⟨j,v,h1,h2,h3⟩:=e.get x i t pn a b d;⟨j,v,h1,h2,h3.mono s.ff⟩⟩
def spT (K:W.Frag) (g:List T->Option T):Sp:=fun vs H Q _=>∃ F ts t,Same F H/\Tbk K F H/\aF K F ts vs/\g ts=some t/\∀ v F' H',Step F H F' H'->Rep K F' t v->Q v H'
def tZ (f:Str):Bool:=!(f==(".put":Str))&&!(f==(".lam":Str))
structure Gd (X:Cx) (c:Tc) (G:Glo) (k:Nat):Prop where
 room:Room k X.A
 calm:X.calm=true
 nob:∀ x∈bnames,X.mg x=none
 call:∀ f ts t,tZ f=true->G.call f ts=some t->∃ (a:Addr) (fd:FuncData) (ps:List Str),FnOk X.prog X.w X.K X.mg X.base CX0 k a fd ps (spT X.K (G.call f))/\X.mg f=some (.ref a)/\W.keepIn X.K (.ref a)=true/\Binds X.K fd ps []
 vis:∀ x,dG c.sc x=true->Vis X.env.scope x
 gl:∀ x,glB c.sc x=true->Gl X x
 cap:∀ x,(c.sc.names.lookup x=some .cell\/c.sc.names.lookup x=some .free)->(X.env.kindOf x=some .cell\/X.env.kindOf x=some .free)
 nd:X.N.Nodup
def spE (X:Cx) (c:Tc) (f:Env->Option T):TE:=fun O H Q=>∃ r F t,EnvE X c r F O H/\f r=some t/\∀ v F' H',Step F H F' H'->Rep X.K F' t v->Q v H'
def spB (X:Cx) (c:Tc) (f:Env->Option T):TT:=fun O H Q=>∃ r F b,EnvE X c r F O H/\f r=some (.bl b)/\∀ F' H',Step F H F' H'->Q b H'
def spL (X:Cx) (c:Tc) (f:Env->Option (List T)):TA:=fun O H Q=>∃ r F ts,EnvE X c r F O H/\f r=some ts/\∀ vs F' H',Step F H F' H'->aF X.K F' ts vs->Q vs H'
abbrev Oke (X:Cx) (c:Tc) (e:Expr) (f:Env->Option T):Prop:=PE X e (spE X c f)
abbrev Okt (X:Cx) (c:Tc) (e:Expr) (f:Env->Option T):Prop:=PT X e (spB X c f)
theorem fM {X:Cx} {t t':TE} (h:PE X e t) (m:∀ O H Q,t' O H Q->t O H Q):PE X e t':=fun pj s O H Q I q=>h pj s O H Q I (m O H Q q)
theorem uA {X:Cx} {t t':TT} (h:PT X e t) (m:∀ O H Q,t' O H Q->t O H Q):PT X e t':=fun pj s O H Q I q=>h pj s O H Q I (m O H Q q)
theorem zK {X:Cx} {t t':TT} (h:PW X e t) (m:∀ O H Q,t' O H Q->t O H Q):PW X e t':=fun wh pj s O H Q I q=>h wh pj s O H Q I (m O H Q q)
theorem oE {X:Cx} {e:Stmt} {t t':TS} (h:PS X e t) (m:∀ D O H,t' D O H->t D O H):PS X e t':=fun pj s O H D I q=>h pj s O H D I (m D O H q)
theorem zL {X:Cx} {e:List Stmt} {t t':TS} (h:PSs X e t) (m:∀ D O H,t' D O H->t D O H):PSs X e t':=fun pj s O H D I q=>h pj s O H D I (m D O H q)
def OpS (X:Cx) (f:Value->Value->Sem Value) (g:T->T->Option T):Prop :=
 OpR X f (fun x y H Q=>∃ F t1 t2 t,Same F H/\Rep X.K F t1 x/\Rep X.K F t2 y/\g t1 t2=some t/\∀ v F' H',Step F H F' H'->Rep X.K F' t v->Q v H')
section
variable {X:Cx} {c:Tc} {a b:Expr} {pos:Pos}
theorem LU {op:Operator} (ho:OpS X (binaryOp op) h) (ha:Oke X c a f) (hb:Oke X c b g):Oke X c (.BinOp a op b pos) (fun r=>(f r).bind fun x=>(g r).bind fun y=>h x y):=by refine fM (yI ho ha hb) fun O H Q q=>?_;obtain ⟨r,F,t,e,ht,q⟩:=q;obtain ⟨t1,e1,ht⟩:=obs ht;obtain ⟨t2,e2,ht⟩:=obs ht;refine ⟨r,F,t1,e,e1,fun v1 F1 H1 s1 r1=>⟨r,F1,t2,e.step s1,e2,fun v2 F2 H2 s2 r2=>?_⟩⟩;exact ⟨F2,t1,t2,t,s2.fh,r1.mono s2.ff,r2,ht,fun v F' H' s3 r3=>q v F' H' (s1.trans (s2.trans s3)) r3⟩
theorem LV {op:CmpOp} (ho:OpS X (compareOp op) h) (ha:Oke X c a f) (hb:Oke X c b g) (hm:behindInMarks op b=false):Oke X c (.Compare a [op] [b] pos) (fun r=>(f r).bind fun x=>(g r).bind fun y=>h x y):=by refine fM (JR ho ha hb hm) fun O H Q q=>?_;obtain ⟨r,F,t,e,ht,q⟩:=q;obtain ⟨t1,e1,ht⟩:=obs ht;obtain ⟨t2,e2,ht⟩:=obs ht;refine ⟨r,F,t1,e,e1,fun v1 F1 H1 s1 r1=>⟨r,F1,t2,e.step s1,e2,fun v2 F2 H2 s2 r2=>?_⟩⟩;exact ⟨F2,t1,t2,t,s2.fh,r1.mono s2.ff,r2,ht,fun v F' H' s3 r3=>q v F' H' (s1.trans (s2.trans s3)) r3⟩
theorem LW {op:CmpOp} (ho:OpS X (compareOp op) h) (ha:Oke X c a f) (hb:Oke X c b g) (hm:behindInMarks op b=false):Okt X c (.Compare a [op] [b] pos) (fun r=>(f r).bind fun x=>(g r).bind fun y=>h x y):=by refine uA (JT ho ha hb hm) fun O H Q q=>?_;obtain ⟨r,F,k,e,ht,q⟩:=q;obtain ⟨t1,e1,ht⟩:=obs ht;obtain ⟨t2,e2,ht⟩:=obs ht;refine ⟨r,F,t1,e,e1,fun v1 F1 H1 s1 r1=>⟨r,F1,t2,e.step s1,e2,fun v2 F2 H2 s2 r2=>?_⟩⟩;exact ⟨F2,t1,t2,_,s2.fh,r1.mono s2.ff,r2,ht,fun v F' H' s3 r3=>⟨k,r3,q F' H' (s1.trans (s2.trans s3))⟩⟩
end
theorem jX:SZ=sizeLine:=eT.symm
section
variable {X:Cx}
theorem zM:OpR X (binaryOp .Add) (fun x y H Q=>∃ l b xs zs,x=.ref l/\y=.ref b/\Ls X.K H l xs/\Ls X.K H b zs/\xs.length+zs.length<=sizeLine/\∀ p,H p=none->Q (.ref p) (aP H p (.lst (xs++zs)))):=by
 intro pj s O H x y v u Q I rx ry h;obtain ⟨l,b,xs,zs,rfl,rfl,hH,hB,hz,q⟩:=h;cases rx;cases ry;obtain ⟨z,qc,n,r,e⟩:=hH.ok I;obtain ⟨z2,its2,n2,r2,e2⟩:=hB.ok I;have hl:=r.length;have hl2:=r2.length;refine PySem.P.add_list e e2 ?_ (by rw [cR,cR];lia);have ea:qc.toArray++its2.toArray=(qc++its2).toArray:=by simp
 rw [ea];exact ⟨.ref _,_,I.lnew (t':=s.toks) (r.append r2) (by rw [dW];lia),rfl,q _ I.fresh⟩
theorem LX:OpR X (binaryOp .Add) (fun x y H Q=>∃ a b xs ys,x=.ref a/\y=.ref b/\SqT X.K H a xs/\SqT X.K H b ys/\xs.length+ys.length<=sizeLine /\
  (xs=[]->Q (.ref b) H)/\(xs≠[]->ys=[]->Q (.ref a) H)/\(xs≠[]->ys≠[]->∀ p,H p=none->Q (.ref p) (aP H p (.tup (xs++ys))))):=by
 intro pj s O H x y v u Q I rx ry h;obtain ⟨a,b,xs,ys,rfl,rfl,ha,hb,hz,q0,q1,q2⟩:=h;cases rx;cases ry;obtain ⟨qc,r,ht,_⟩:=I.tuple ha;obtain ⟨its2,r2,ht2,_⟩:=I.tuple hb;have hl:=r.length;have hl2:=r2.length;by_cases hx:xs=[]
 .subst hx;have hi:qc=[]:=by
   cases qc with
   | nil=>rfl
   | cons _ _=>simp at hl
  subst hi;obtain ⟨⟨cls,dd,data,sl⟩,ho,hc,n,hd⟩:=id ht;obtain ⟨⟨cls2,dd2,data2,sl2⟩,ho2,hc2,n2,hd2⟩:=id ht2;simp only at hc hd hc2 hd2;subst hc hd hc2 hd2;exact concat_meets ⟨_,ho,rfl⟩ ⟨_,ho2,rfl⟩ noFill_tuple_add seq_tuple_add PySem.F.slot_tuple_add PySem.F.entry_tuple_add (PySem.F.args_tuple_add_2 _ _)
   (tuple_addW0 a b _ _ n n2 dd dd2 sl sl2 (by simp)) ⟨ho,ho2,⟨.ref b,H,I.tok _,rfl,q0 rfl⟩⟩
 .refine HT.cat_tup ht ht2 (by intro z;subst z;exact hx (by cases xs with | nil=>rfl | cons _ _=>simp at hl)) (fun hw=>?_) (fun hw=>?_) (by lia)
  .have hy:ys=[]:=by subst hw;cases ys with | nil=>rfl | cons _ _=>simp at hl2
   exact ⟨.ref a,H,I,rfl,q1 hx hy⟩
  .have hy:ys≠[]:=by intro z;subst z;exact hw (by cases its2 with | nil=>rfl | cons _ _=>simp at hl2)
   exact ⟨.ref _,_,I.laid (t':=s.toks) (fun b o e=>aU _ e) (aV _) (show aN X.prog X.w _ _ _ (.tup (xs++ys)) from ⟨by rw [dW];lia,qc++its2,r.append r2,IsTup.new _ _⟩),rfl,q2 hx hy _ I.fresh⟩
theorem LY:OpS X (binaryOp .Add) dN:=by
 intro pj s O H x y v u Q I rx ry h;obtain ⟨F,t1,t2,t,fh,r1,r2,ht,q⟩:=h;cases t1 with
 | int i =>
  cases t2 with
  | int j =>cases r1;cases r2;cases ht;exact JF pj s O H _ _ v u Q I rx ry ⟨_,_,rfl,rfl,q _ F H (Step.refl fh) rfl⟩
  | _=>simp [dN] at ht
 | lst i =>
  cases t2 with
  | lst j =>
   obtain ⟨l,xs,rfl,h1,h2⟩:=r1;obtain ⟨l',ys,rfl,h3,h4⟩:=r2;simp only [dN] at ht;split at ht
   .rename_i hz;cases ht;refine zM pj s O H _ _ v u Q I rx ry ⟨_,_,_,_,rfl,rfl,Ls.same fh h1,Ls.same fh h3,by rw [h2.length,h4.length,<- jX];exact hz,fun p hp=>?_⟩;have st:=(Step.refl fh).new (o:=.lst (xs++ys)) hp;exact q _ _ _ st ⟨p,_,rfl,Ls.of cC,(h2.app h4).mono st.ff⟩
   .cases ht
  | _=>simp [dN] at ht
 | tup i =>
  cases t2 with
  | tup j =>
   obtain ⟨l,xs,rfl,h1,h2⟩:=r1;obtain ⟨l',ys,rfl,h3,h4⟩:=r2;simp only [dN] at ht;split at ht
   .rename_i hz;cases ht;refine LX pj s O H _ _ v u Q I rx ry ⟨_,_,_,_,rfl,rfl,dQ fh h1,dQ fh h3,by rw [h2.length,h4.length,<- jX];exact hz,fun z=>?_,fun _ z=>?_,fun _ _ p hp=>?_⟩
    .subst z;refine q _ F H (Step.refl fh) ⟨l',ys,rfl,h3,?_⟩;have e:=h2.length;cases i with
     | nil=>exact h4
     | cons _ _=>simp at e
    .subst z;refine q _ F H (Step.refl fh) ⟨l,xs,rfl,h1,?_⟩;have e:=h4.length;cases j with
     | nil=>rw [eO];exact h2
     | cons _ _=>simp at e
    .have st:=(Step.refl fh).new (o:=.tup (xs++ys)) hp;exact q _ _ _ st ⟨p,_,rfl,cC,(h2.app h4).mono st.ff⟩
   .cases ht
  | _=>simp [dN] at ht
 | _=>cases t2<;>simp [dN] at ht
theorem LZ:OpS X (binaryOp .Sub) pG:=by intro pj s O H x y v u Q I rx ry h;obtain ⟨F,t1,t2,t,fh,r1,r2,ht,q⟩:=h;cases t1<;>cases t2<;>simp only [pG] at ht<;>cases ht;cases r1;cases r2;exact JG pj s O H _ _ v u Q I rx ry ⟨_,_,rfl,rfl,q _ F H (Step.refl fh) rfl⟩
theorem MA:OpS X (binaryOp .Mult) lS:=by
 intro pj s O H x y v u Q I rx ry h;obtain ⟨F,t1,t2,t,fh,r1,r2,ht,q⟩:=h;cases t1 with
 | int i =>
  cases t2 with
  | int j =>
   cases r1;cases r2;simp only [lS] at ht;split at ht
   .rename_i hz;cases ht;refine JH pj s O H _ _ v u Q I rx ry ⟨_,_,rfl,rfl,?_,q _ F H (Step.refl fh) rfl⟩;rw [Bool.or_eq_true] at hz;have e64:(2:Int) ^ 64=18446744073709551616:=by decide
    rcases hz with hz | hz<;>simp only [mU,Bool.and_eq_true,decide_eq_true_eq] at hz
    .exact .inl (by rw [e64];exact hz)
    .exact .inr (by rw [e64];exact hz)
   .cases ht
  | _=>simp [lS] at ht
 | _=>cases t2<;>simp [lS] at ht
theorem MB:OpS X (binaryOp .FloorDiv) cT:=by
 intro pj s O H x y v u Q I rx ry h;obtain ⟨F,t1,t2,t,fh,r1,r2,ht,q⟩:=h;cases t1<;>cases t2<;>simp only [cT] at ht<;>try cases ht
 split at ht
 .rename_i hz;cases ht;cases r1;cases r2;exact JI pj s O H _ _ v u Q I rx ry ⟨_,_,rfl,rfl,hz,q _ F H (Step.refl fh) rfl⟩
 .cases ht
theorem MC:OpS X (binaryOp .Mod) cZ:=by
 intro pj s O H x y v u Q I rx ry h;obtain ⟨F,t1,t2,t,fh,r1,r2,ht,q⟩:=h;cases t1<;>cases t2<;>simp only [cZ] at ht<;>try cases ht
 split at ht
 .rename_i hz;cases ht;cases r1;cases r2;exact JJ pj s O H _ _ v u Q I rx ry ⟨_,_,rfl,rfl,hz,q _ F H (Step.refl fh) rfl⟩
 .cases ht
end
end
end Ev
section
section
namespace L2
open PySem Spec PyProof.Rows
section
variable {xs:List (List Key × Addr × Value)} {b:Addr} {H':Hp} {Q:Vq}
section
variable {κ:Type} [DecidableEq κ]
def cM (qb:List (κ × V)) (k:κ):Option V:=(qb.find? fun kv=>decide (kv.1=k)).map (·.2)
def eG (qb:List (κ × V)) (k:κ) (v:V):List (κ × V) :=
 if (qb.any fun kv=>decide (kv.1=k))=true then qb.map (fun kv=>if kv.1=k then (kv.1,v) else kv) else qb++[(k,v)]
theorem iR {p:κ × V} {r:List (κ × V)} {k:κ} (e:p.1=k):cM (p::r) k=some p.2:=by simp [cM,e]
theorem iS {p:κ × V} {r:List (κ × V)} {k:κ} (e:¬ p.1=k):cM (p::r) k=cM r k:=by simp [cM,e]
theorem mY (k:κ):∀ qb:List (κ × V),(qb.any fun kv=>decide (kv.1=k))=(cM qb k).isSome
 | []=>rfl
 | p::r=>by
  rw [gJ];by_cases e:p.1=k
  .simp only [iR e,decide_eq_true e,Bool.true_or,Option.isSome_some]
  .rw [iS e,dJ e,Bool.false_or];exact mY k r
theorem zN (k j:κ) (y:V):∀ qb:List (κ × V),cM qb k=none->cM (qb++[(k,y)]) j=if j=k then some y else cM qb j
 | [],_=>by
  by_cases e:k=j
  .rw [if_pos e.symm];exact iR (p:=(k,y)) e
  .rw [if_neg (fun z=>e z.symm)];exact iS (p:=(k,y)) e
 | p::r,hn=>by
  rw [List.cons_append];have hk:¬ p.1=k:=fun z=>by rw [iR z] at hn;cases hn
  rw [iS hk] at hn;have ih:=zN k j y r hn;by_cases e:p.1=j
  .rw [iR e,iR e,if_neg (fun z=>hk (e.trans z))]
  .rw [iS e,iS e,ih]
theorem pK (qb:List (κ × V)) (k:κ) (v:V):(eG qb k v).length<=qb.length+1:=by
 unfold eG;split
 .rw [bA];lia
 .rw [dW,fS,List.length_nil];lia
theorem eC.isSome_eq {o:Option V} {u:Option Value} (r:eC o u):o.isSome=u.isSome:=by
 cases o with
 | none=>cases u with
  | none=>rfl
  | some _=>exact (show False from r).elim
 | some _=>cases u with
  | none=>exact (show False from r).elim
  | some _=>rfl
theorem eC.getD {o:Option V} {u:Option Value} {d:V} {d':Value} (r:eC o u) (rd:aC d d'):aC (o.getD d) (u.getD d'):=by
 cases o with
 | none=>cases u with
  | none=>exact rd
  | some _=>exact (show False from r).elim
 | some _=>cases u with
  | none=>exact (show False from r).elim
  | some _=>exact r
theorem KV.val {qb:List (κ × V)} {vs:List (κ × Value)} (r:KV qb vs) (k:κ):eC (cM qb k) (valueAt vs k):=by
 unfold KV at r
 induction r with
 | nil=>exact True.intro
 | @cons p q ps qs h t ih =>
  obtain ⟨h1,h2⟩:=h;by_cases e:p.1=k
  .have e':q.1=k:=h1.symm.trans e;have b:valueAt (q::qs) k=some q.2:=by simp [valueAt,e']
   rw [iR e,b];exact h2
  .have e':¬ q.1=k:=fun z=>e (h1.trans z);have b:valueAt (q::qs) k=valueAt qs k:=by simp [valueAt,e']
   rw [iS e,b];exact ih
theorem KV.any {qb:List (κ × V)} {vs:List (κ × Value)} (r:KV qb vs) (k:κ):(qb.any fun kv=>decide (kv.1=k))=vs.any fun kv=>decide (kv.1=k):=by
 unfold KV at r
 induction r with
 | nil=>rfl
 | cons h t ih=>rw [gJ,gJ,ih,h.1]
theorem KV.repl {qb:List (κ × V)} {vs:List (κ × Value)} (r:KV qb vs) (k:κ) {y:V} {u:Value} (ry:aC y u) :
  KV (qb.map fun kv=>if kv.1=k then (kv.1,y) else kv) (vs.map fun kv=>if kv.1=k then (kv.1,u) else kv):=by
 unfold KV at r ⊢
 induction r with
 | nil=>exact .nil
 | @cons p q ps qs h t ih =>
  rw [aS,aS];refine .cons ?_ ih;obtain ⟨h1,h2⟩:=h;by_cases e:p.1=k
  .rw [if_pos e,if_pos (h1.symm.trans e)];exact ⟨h1,ry⟩
  .rw [if_neg e,if_neg (fun z=>e (h1.trans z))];exact ⟨h1,h2⟩
theorem KV.put {qb:List (κ × V)} {vs:List (κ × Value)} (r:KV qb vs) (k:κ) {y:V} {u:Value} (ry:aC y u):KV (eG qb k y) (stored vs k u):=by
 unfold eG stored;rw [r.any k];by_cases e:(vs.any fun kv=>decide (kv.1=k))=true
 .rw [if_pos e,if_pos e];exact r.repl k ry
 .rw [if_neg e,if_neg e];exact Paired.snoc r ⟨rfl,ry⟩
theorem KV.length {qb:List (κ × V)} {vs:List (κ × Value)} (r:KV qb vs):qb.length=vs.length:=Paired.length r
end
theorem mZ {P:Program} {w:World} {k:Key} {u:Value} (r:aC (kV k) u):(eQ P w).is k u=true:=by
 rcases k with i | _ | x
 .obtain ⟨t,e⟩:=(show ∃ t,u=Value.int i t from r);subst e;exact HQ P w i t
 .cases (show u=Value.none from r);rfl
 .obtain ⟨t,e⟩:=(show ∃ t,u=Value.str x t from r);subst e;exact HR P w x t
theorem zO {P:Program} {w:World}:∀ {ks:List Key} {us:List Value},aH (ks.map kV) us->ItemsAre (eQ P w) ks us
 | [],_,r=>by rw [List.map_nil] at r;cases r;exact .nil
 | k::ks,_,r=>by
  rw [aS] at r;cases r with
  | cons h t=>exact .cons (mZ h) (zO t)
abbrev KT (H:Hp):Kq->List (List Key × Addr × Value)->Prop:=Paired fun p q=>p.1=q.1/\H q.2.1=some (.tup (p.1.map kV))/\aC p.2 q.2.2
theorem KT.val {H:Hp} {qb:Kq} (r:KT H qb xs) (k:List Key):eC (cM qb k) ((atKey xs k).map (·.2)):=by
 induction r with
 | nil=>exact True.intro
 | @cons p q ps qs h t ih =>
  obtain ⟨h1,_,h2⟩:=h;by_cases e:p.1=k
  .have e':q.1=k:=h1.symm.trans e;have b:atKey (q::qs) k=some q.2:=by simp [atKey,e']
   rw [iR e,b];exact h2
  .have e':¬ q.1=k:=fun z=>e (h1.trans z);have b:atKey (q::qs) k=atKey qs k:=by simp [atKey,e']
   rw [iS e,b];exact ih
theorem KT.repl {H:Hp} {qb:Kq} (r:KT H qb xs) (k:List Key) {y:V} {u:Value} (ry:aC y u) :
  KT H (qb.map fun kv=>if kv.1=k then (kv.1,y) else kv) (xs.map (putAt k u)):=by
 induction r with
 | nil=>exact .nil
 | @cons p q ps qs h t ih =>
  rw [aS,aS];refine .cons ?_ ih;obtain ⟨h1,h2,h3⟩:=h;unfold putAt;by_cases e:p.1=k
  .rw [if_pos e,if_pos (h1.symm.trans e)];exact ⟨h1,h2,ry⟩
  .rw [if_neg e,if_neg (fun z=>e (h1.trans z))];exact ⟨h1,h2,h3⟩
theorem KT.put {H:Hp} {qb:Kq} (r:KT H qb xs) (k:List Key) {y:V} {u:Value} (hb:H b=some (.tup (k.map kV))) (ry:aC y u) :
  KT H (eG qb k y) (storedH xs k b u):=by
 have e:(qb.any fun kv=>decide (kv.1=k))=(atKey xs k).isSome:=by rw [mY,(r.val k).isSome_eq,Option.isSome_map]
 unfold eG storedH;rw [e];by_cases q:(atKey xs k).isSome=true
 .rw [if_pos q,if_pos q];exact r.repl k ry
 .rw [if_neg q,if_neg q];exact Paired.snoc r ⟨rfl,hb,ry⟩
theorem KT.keeps {H:Hp} {qb:Kq} (r:KT H qb xs) (ht:∀ b ys,H b=some (.tup ys)->H' b=some (.tup ys)):KT H' qb xs :=
 Paired.mapP r fun _ _ z=>⟨z.1,ht _ _ z.2.1,z.2.2⟩
section
variable {P:Program} {w:World} {H:Hp} {h:Heap} {a:Addr}
theorem zP {u:HO} (ok:HOk P w H h) (e:Rd H a u):aN P w H h a u:=e.ok ok
theorem nA {qb:List (Key × V)} (ok:HOk P w H h) (e:Rd H a (.dK qb)):qb.length<=sizeLine/\(a==sysModules)=false/\∃ vs,KV qb vs/\h.DictOf (eQ P w) a vs :=
 show aN P w H h a (.dK qb) from zP ok e
theorem rC {qb:List (Key × V)} (ok:HOk P w H h) (e:H a=some (.dK qb)):qb.length<=sizeLine/\(a==sysModules)=false/\∃ vs,KV qb vs/\h.DictOf (eQ P w) a vs:=nA ok (.inl e)
theorem lW {ks:List Key} (ok:HOk P w H h) (e:H a=some (.tup (ks.map kV))):(tupleKind (eQ P w)).is h ks a:=by obtain ⟨_,qc,r,o,h1,h2,n,h3⟩:=(show aN P w H h a (.tup (ks.map kV)) from ok a _ e);exact ⟨o,qc.toArray,n,h1,h2,h3,by simpa using zO r⟩
theorem kR {qb:Kq} (ok:HOk P w H h) (e:Rd H a (.dT qb)):qb.length<=sizeLine/\(a==sysModules)=false /\
  ∃ xs,KT H qb xs/\h.DictOfH (tupleKind (eQ P w)) a xs:=by
 obtain ⟨z,y,xs,r,o,es,ep,h1,h2,h3,h4,h5⟩:=(show aN P w H h a (.dT qb) from zP ok e);refine ⟨z,y,xs,r,o,es,ep,h1,h2,h3,h4,fun x hx=>?_,h5⟩;have all:∀ {l:Kq} {m:List (List Key × Addr × Value)},KT H l m->∀ x∈m,(tupleKind (eQ P w)).is h x.1 x.2.1:=by
  intro l m q
  induction q with
  | nil=>intro x hx;exact nomatch hx
  | @cons p q ps qs hq t ih =>
   intro x hx;rcases omc hx with e | hx
   .subst e;exact lW ok (by rw [<- hq.1];exact hq.2.1)
   .exact ih x hx
 exact all r x hx
theorem zQ {qb:Kq} (ok:HOk P w H h) (e:H a=some (.dT qb)):qb.length<=sizeLine/\(a==sysModules)=false /\
  ∃ xs,KT H qb xs/\h.DictOfH (tupleKind (eQ P w)) a xs:=kR ok (.inl e)
end
def cB (H:Hp) (a:Addr) (y:V) (r:Option V):Prop :=
 (∃ qb k,Rd H a (.dK qb)/\y=kV k/\r=cM qb k)\/∃ qb k b,Rd H a (.dT qb)/\y=.ref b/\H b=some (.tup (k.map kV))/\r=cM qb k
def fQ (H:Hp) (a:Addr) (y v:V) (H':Hp):Prop :=
 (∃ qb k,H a=some (.dK qb)/\y=kV k/\qb.length<sizeLine/\H'=aP H a (.dK (eG qb k v))) \/
 ∃ qb k b,H a=some (.dT qb)/\y=.ref b/\H b=some (.tup (k.map kV))/\qb.length<sizeLine/\H'=aP H a (.dT (eG qb k v))
theorem cB.k {H:Hp} {a:Addr} {qb:List (Key × V)} {k:Key} (e:H a=some (.dK qb)):cB H a (kV k) (cM qb k):=.inl ⟨qb,k,.inl e,rfl,rfl⟩
theorem cB.tr {H:Hp} {a:Addr} {qb:Kq} {k:List Key} (e:Rd H a (.dT qb)) (eb:H b=some (.tup (k.map kV))):cB H a (.ref b) (cM qb k):=.inr ⟨qb,k,b,e,rfl,eb,rfl⟩
theorem cB.t {H:Hp} {a:Addr} {qb:Kq} {k:List Key} (e:H a=some (.dT qb)) (eb:H b=some (.tup (k.map kV))):cB H a (.ref b) (cM qb k):=.inr ⟨qb,k,b,.inl e,rfl,eb,rfl⟩
theorem fQ.k {H:Hp} {a:Addr} {qb:List (Key × V)} {k:Key} {v:V} (e:H a=some (.dK qb)) (hl:qb.length<sizeLine):fQ H a (kV k) v (aP H a (.dK (eG qb k v))):=.inl ⟨qb,k,e,rfl,hl,rfl⟩
theorem fQ.t {H:Hp} {a:Addr} {qb:Kq} {k:List Key} {v:V} (e:H a=some (.dT qb)) (eb:H b=some (.tup (k.map kV))) (hl:qb.length<sizeLine) :
  fQ H a (.ref b) v (aP H a (.dT (eG qb k v))):=.inr ⟨qb,k,b,e,rfl,eb,hl,rfl⟩
section
variable {X:Cx} {pj:Pq} {O:St} {H:Hp} {s:Shared} {a:Addr} {y v:V} {u r:Value} {o:Option V} {A:Around} {E:Vq}
theorem Inv.big (I:Inv X pj O H s):sysModules<s.heap.objs.size:=by have h:mainGlobals<s.heap.objs.size:=(I.mod.glob.keeps I.bk).lt;exact Nat.lt_trans (by decide) h
theorem MD (hu:A.units+1<cLine) (I:Inv X pj O H s) (g:cB H a y (some v)) (ry:aC y u) (h:∀ w' s',Inv X pj O H s'->aC v w'->Q w' s') :
  wpAny (model X.prog X.w) A (getItem (.ref a) u) Q E s:=by
 rcases g with ⟨qb,k,e,ey,l⟩ | ⟨qb,k,b,e,ey,eb,l⟩
 .subst ey;obtain ⟨z,hd,vs,rel,dd⟩:=nA I.hok e;obtain ⟨w',hw,rw'⟩:=eC.some_of (v:=v) (o:=valueAt vs k) (by rw [l];exact rel.val k);exact wpAny_getItem_of (mZ ry) dd.mapOf hw (h w' _ (I.tok _) rw')
 .subst ey;cases (show u=Value.ref b from ry);obtain ⟨z,hd,xs,rel,dd⟩:=kR I.hok e;obtain ⟨w',hw,rw'⟩:=eC.some_of (v:=v) (o:=(atKey xs k).map (·.2)) (by rw [l];exact rel.val k);obtain ⟨p,hp,hp2⟩:=oms hw;refine wpAny_getItem_heap (tupleKind_room_in1 hu) (lW I.hok eb) dd hp ?_;rw [hp2];exact h w' _ (I.tok _) rw'
theorem d_in (hu:A.units+1<cLine) (I:Inv X pj O H s) (g:cB H a y o) (ry:aC y u) (h:∀ s',Inv X pj O H s'->Q (.bool o.isSome) s') :
  wpAny (model X.prog X.w) A (compareOp .In u (.ref a)) Q E s:=by
 rcases g with ⟨qb,k,e,ey,l⟩ | ⟨qb,k,b,e,ey,eb,l⟩
 .subst ey;obtain ⟨z,hd,vs,rel,dd⟩:=nA I.hok e;refine wpAny_in_of (mZ ry) hd dd.mapOf ?_;rw [<- (rel.val k).isSome_eq,<- l];exact h _ (I.tok _)
 .subst ey;cases (show u=Value.ref b from ry);obtain ⟨z,hd,xs,rel,dd⟩:=kR I.hok e;refine wpAny_in_heap (tupleKind_room_in1 hu) (lW I.hok eb) hd dd ?_;have q:=(rel.val k).isSome_eq;rw [Option.isSome_map] at q;rw [<- q,<- l];exact h _ (I.tok _)
theorem ME (hu:A.units+1<cLine) (I:Inv X pj O H s) (g:cB H a y o) (ry:aC y u) (h:∀ s',Inv X pj O H s'->Q (.bool (!o.isSome)) s') :
  wpAny (model X.prog X.w) A (compareOp .NotIn u (.ref a)) Q E s:=by
 rcases g with ⟨qb,k,e,ey,l⟩ | ⟨qb,k,b,e,ey,eb,l⟩
 .subst ey;obtain ⟨z,hd,vs,rel,dd⟩:=nA I.hok e;refine wpAny_notIn_of (mZ ry) hd dd.mapOf ?_;rw [<- (rel.val k).isSome_eq,<- l];exact h _ (I.tok _)
 .subst ey;cases (show u=Value.ref b from ry);obtain ⟨z,hd,xs,rel,dd⟩:=kR I.hok e;refine wpAny_notIn_heap (tupleKind_room_in1 hu) (lW I.hok eb) hd dd ?_;have q:=(rel.val k).isSome_eq;rw [Option.isSome_map] at q;rw [<- q,<- l];exact h _ (I.tok _)
theorem oF {h':Heap} {t':Nat} {ob:HO} (I:Inv X pj O H s) (mu:Mut (H a)) (hs:Heap.SameBut a s.heap h') (he:∃ q,h'.get? a=some q) (new:aN X.prog X.w (aP H a ob) h' a ob) :
  Inv X pj O (aP H a ob) { s with heap:=h',toks:=t' } :=
 I.write (x:=a) (e:=a) mu (.inl rfl) (fun b q hb z=>(hs.2 b hb).trans z) he new
theorem MF {P:Program} {w:World} {h':Heap} {qb:List (Key × V)} {vs:List (Key × Value)} (z:qb.length<=sizeLine) (hd:(a==sysModules)=false) (rel:KV qb vs) (dd:h'.DictOf (eQ P w) a vs) :
  aN P w H' h' a (.dK qb):=⟨z,hd,vs,rel,dd⟩
theorem MG {Q:Unit->Shared->Prop} (hu:A.units+1<cLine) (I:Inv X pj O H s) (g:fQ H a y v H') (ry:aC y u) (rv:aC v r) (h:∀ s',Inv X pj O H' s'->Q () s') :
  wpAny (model X.prog X.w) A (setItem (.ref a) u r) Q E s:=by
 rcases g with ⟨qb,k,e,ey,l,eH⟩ | ⟨qb,k,b,e,ey,eb,l,eH⟩
 .subst ey eH;obtain ⟨z,hd,vs,rel,dd⟩:=rC I.hok e;have hz:vs.length<=sizeLine:=by rw [<- rel.length];exact z
  have hl:(eG qb k v).length<=sizeLine:=by have:=pK qb k v;lia
  refine wpAny_setItem_pairs (hsz:=hz) (mZ ry) dd fun h' dd' hs=>h _ ?_;have he:∃ q,h'.get? a=some q:=let ⟨q,_,_,hq,_⟩:=dd';⟨q,hq⟩
  exact oF I (by rw [e];exact True.intro) hs he (MF hl hd (rel.put k rv) dd')
 .subst ey eH;cases (show u=Value.ref b from ry);obtain ⟨z,hd,xs,rel,dd⟩:=zQ I.hok e;have hz:xs.length<=sizeLine:=by rw [<- Paired.length rel];exact z
  have hl:(eG qb k v).length<=sizeLine:=by have:=pK qb k v;lia
  refine wpAny_setItem_heap (hsz:=hz) (tupleKind_room_in1 hu) (lW I.hok eb) dd fun h' dd' hs=>h _ ?_;obtain ⟨q,es,ep,hq,h2,h3,h4,_,h5⟩:=dd';refine oF I (by rw [e];exact True.intro) hs ⟨q,hq⟩ ⟨hl,hd,_,(rel.put k eb rv).keeps fun c ys ec=>?_,q,es,ep,hq,h2,h3,h4,h5⟩;rw [aR (kJ ec e (fun z=>nomatch z))];exact ec
end
section
variable {X:Cx} {pj:Pq} {O:St} {H:Hp} {s:Shared} {a:Addr} {qb:List (Key × V)} {k:Key} {u:Value} {A:Around} {E:Vq}
end
theorem MH {X:Cx} {pj:Pq} {O:St} {H:Hp} {s:Shared} {a:Addr} {y:V} {o:Option V} (I:Inv X pj O H s) (g:cB H a y o):s.TypeIs (.ref a) "dict":=by
 rcases g with ⟨qb,k,e,_,_⟩ | ⟨qb,k,b,e,_,_,_⟩
 .obtain ⟨_,_,vs,_,dd⟩:=nA I.hok e;exact dd.typeIs
 .obtain ⟨_,_,xs,_,dd⟩:=kR I.hok e;exact dd.typeIs
def MI (td ty tv:TE):TS:=fun D O H=>tv O H fun v H1=>td O H1 fun x H2=>ty O H2 fun y H3=>∃ a H4,x=.ref a/\fQ H3 a y v H4/\D.nx O H4
section
variable {X:Cx} {o i e value:Expr} {pos pos' tpos:Pos} {td ty tv:TE}
theorem MJ (hu:X.A.units+1<cLine) (ho:PE X o td) (hi:PE X i ty) (hv:PE X value tv) (hs:swapsWith value (some (.Subscript o i pos')) pos.line X.env=pure false) :
  PS X (.Assign [.Subscript o i pos'] value pos) (MI td ty tv):=by
 intro pj s O H D I h;refine wpAny_Assign_Subscript (thn (hv pj s O H _ I h) fun r s1 ⟨v,H1,I1,rv,q1⟩=>thn (ho pj s1 O H1 _ I1 q1) fun u s2 ⟨x,H2,I2,rx,q2⟩=>thn (hi pj s2 O H2 _ I2 q2) fun iv s3 ⟨y,H3,I3,ry,a,H4,ex,g,q3⟩=>?_) hs;subst ex;obtain rfl:u=Value.ref a:=rx;exact MG hu I3 g ry rv fun s4 I4=>⟨O,H4,I4,q3⟩
end
theorem MK {P:Program} {w:World} {H:Hp} (h:Heap) (hb:sysModules<h.objs.size):aN P w H (h.push { cls:=.type "dict",data:=.dict #[] }) h.objs.size (.dK []) :=
 ⟨eK _,sY.mpr (Ne.symm (cY hb)),[],.nil,Heap.DictOf.new h⟩
def ML:TE:=fun _ H Q=>∀ p,H p=none->Q (.ref p) (aP H p (.dK []))
section
variable {X:Cx} {pos:Pos}
theorem MM:PE X (.Dict [] [] pos) ML:=fun pj s O H Q I h =>wpAny_Dict_empty ⟨.ref s.heap.objs.size,_,I.laid (a:=s.heap.objs.size) (o:=.dK []) (t':=s.toks) (fun _ _ q=>aU _ q) (aV _) (MK s.heap I.big),rfl,h _ (I.hok.fresh (aV _))⟩
end
structure M2 (X:Cx) (o:Expr) (m:Str) (apos:Pos) (e f:Expr) (cpos:Pos):Prop where
 base:attributeBase o m X.env (eval o X.env)=eval o X.env
 few:((backTo cpos (starEach [e,f] X.env)).all (fun x=>!x.1)&&(backToKw cpos (keywordEach [] X.env)).all (fun x=>x.1.isSome)
  && decide (([e,f]:List Expr).length+([]:List Keyword).length+(if ([]:List Keyword).isEmpty then 0 else 1)<30))=true
 line:(apos.endLine==cpos.line)=true
 trees:backTo cpos (starEach [e,f] X.env)=[(false,eval e X.env),(false,eval f X.env)]
def IsD (H:Hp) (a:Addr):Prop:=(∃ qb,Rd H a (.dK qb))\/∃ qb,Rd H a (.dT qb)
theorem zR {X:Cx} {pj:Pq} {O:St} {H:Hp} {s:Shared} {a:Addr} (I:Inv X pj O H s) (d:IsD H a) :
  s.TypeIs (.ref a) "dict"/\(∀ b,Value.ref a=.ref b->∃ ob,s.heap.get? b=some ob/\ob.dict=none)/\(a==sysModules)=false:=by
 rcases d with ⟨qb,e⟩ | ⟨qb,e⟩
 .obtain ⟨_,hd,vs,_,dd⟩:=nA I.hok e;refine ⟨dd.typeIs,fun b q=>?_,hd⟩;cases q;obtain ⟨ob,_,_,h1,h2,_⟩:=dd;exact ⟨ob,h1,h2.2.1⟩
 .obtain ⟨_,hd,xs,_,dd⟩:=kR I.hok e;refine ⟨dd.typeIs,fun b q=>?_,hd⟩;cases q;obtain ⟨ob,_,_,h1,h2,_⟩:=dd;exact ⟨ob,h1,h2.2.1⟩
section
variable {X:Cx} {pj:Pq} {O:St} {H:Hp} {s:Shared} {a:Addr} {y d:V} {u r:Value} {o:Option V} {A:Around} {E:Vq}
theorem zS (hu:A.units+1<cLine) (I:Inv X pj O H s) (g:cB H a y o) (ry:aC y u) (rd:aC d r) (h:∀ w' s',Inv X pj O H s'->aC (o.getD d) w'->Q w' s') :
  wpAny (model X.prog X.w) A (call (.builtin "dict.get") [.ref a,u,r]) Q E s:=by
 rcases g with ⟨qb,k,e,ey,l⟩ | ⟨qb,k,b,e,ey,eb,l⟩
 .subst ey;obtain ⟨z,hd,vs,rel,dd⟩:=nA I.hok e;refine call_meetsIn PySem.F.slot_dict_get dd.typeIs PySem.F.entry_dict_get (PySem.F.args_dict_get_3 _ _ _) (meets_dict_get_default (eQ X.prog X.w) a (mZ ry) hd r) ⟨_,dd.mapOf,h _ _ (I.tok _) ?_⟩;rw [l];exact (rel.val k).getD rd
 .subst ey;cases (show u=Value.ref b from ry);obtain ⟨z,hd,xs,rel,dd⟩:=kR I.hok e;refine call_meetsIn PySem.F.slot_dict_get dd.typeIs PySem.F.entry_dict_get (PySem.F.args_dict_get_3 _ _ _) (meetsH_dict_get_default (tupleKind (eQ X.prog X.w)) a b hd r) ⟨tupleKind_room_in1 hu,k,xs,lW I.hok eb,dd,h _ _ (I.tok _) ?_⟩;rw [l];exact (rel.val k).getD rd
end
def MN (td ty tx:TE):TE:=fun O H Q=>td O H fun x H1=>∃ a,x=.ref a/\IsD H1 a/\ty O H1 fun y H2=>tx O H2 fun z H3=>∃ o,cB H3 a y o/\Q (o.getD z) H3
section
variable {X:Cx} {o e f:Expr} {apos cpos:Pos} {td ty tx:TE}
theorem MO (hu:X.A.units+1<cLine) (ho:PE X o td) (he:PE X e ty) (hf:PE X f tx) (m:M2 X o "get" apos e f cpos):PE X (.Call (.Attribute o "get" apos) [e,f] [] cpos) (MN td ty tx):=by
 intro pj s O H Q I h;refine wpAny_Call_method m.base m.few m.line PySem.F.plainAttrs_dict PySem.F.slot_dict_get PySem.F.type_dict_get (thn (ho pj s O H _ I h) fun u s1 ⟨x,H1,I1,rx,a,ex,d,q1⟩=>?_);subst ex;obtain rfl:u=Value.ref a:=rx;obtain ⟨t1,t2,_⟩:=zR I1 d;refine ⟨t1,t2,?_⟩;rw [m.trees];refine Calls.callWith_builtin rfl (Calls.evalArgs_plain (Calls.spliced_cons (thn (he pj s1 O H1 _ I1 q1) fun iv s2 ⟨y,H2,I2,ry,q2⟩ =>Calls.spliced_cons (thn (hf pj s2 O H2 _ I2 q2) fun fv s3 ⟨z,H3,I3,rz,ov,g,q3⟩=>Calls.spliced_nil ?_))));exact zS hu I3 g ry rz fun w' s4 I4 rw'=>⟨_,H3,I4,rw',q3⟩
end
section
variable {X:Cx} {pj:Pq} {O:St} {H:Hp} {s:Shared} {a:Addr} {qb:List (Key × V)} {A:Around} {E:Vq}
end
section
variable {X:Cx} {pj:Pq} {O:St} {H:Hp} {s:Shared} {a:Addr} {y:V} {u:Value} {A:Around} {E:Vq}
end
end
section
section
variable {κ:Type} [DecidableEq κ]
theorem MP {qb:List (κ × V)} {k:κ} (h:cM qb k=none):¬ k∈qb.map (·.1):=by intro m;obtain ⟨p,hp,e⟩:=omm m;have q:(qb.any fun kv=>decide (kv.1=k))=true:=List.any_eq_true.mpr ⟨p,hp,bX e⟩;rw [mY,h] at q;exact absurd q (by simp)
end
end
end L2
end
end
namespace Ev
open PySem Spec PyProof.Rows L2
section
variable {t1 t2:T} {n:Nat} {a:Addr} {ws:Kq} {vs:List V} {ts us:List T} {v u:Value} {x y:V} {A:Around} {qc jts:List Value}
mutual
theorem rD:∀ t:T,dpP t t<20000->eqT t t=true
 | .non,_=>by rw [eqT]
 | .bl b,_=>by rw [eqT];simp
 | .int i,_=>by rw [eqT];simp
 | .str x,_=>by rw [eqT];simp
 | .tup a,h=>by rw [eqT];rw [dpP] at h;exact uB a (by lia)
 | .lst a,h=>by rw [eqT];rw [dpP] at h;exact uB a (by lia)
 | .dk _ _,h=>by rw [dpP] at h;lia
 | .dt _ _,h=>by rw [dpP] at h;lia
theorem uB:∀ ts:List T,dO ts ts<20000->eW ts ts=true
 | [],_=>by rw [eW]
 | t::ts,h=>by rw [dO] at h;rw [eW,rD t (by lia),uB ts (by lia)];rfl
end
theorem zT:∀ {xs ys:List T} {j:Nat} {x y:T},xs[j]?=some x->ys[j]?=some y->dpP x y<=dO xs ys
 | [],_,_,_,_,h,_=>by simp at h
 | _::_,[],_,_,_,_,h=>by simp at h
 | a::xs,b::ys,0,x,y,h1,h2=>by simp at h1 h2;subst h1 h2;rw [dO];exact Nat.le_max_left _ _
 | a::xs,b::ys,j+1,x,y,h1,h2=>by rw [dO];exact Nat.le_trans (zT (j:=j) (by simpa using h1) (by simpa using h2)) (Nat.le_max_right _ _)
theorem pL:∀ xs ys:List T,eW xs ys=((List.range (min xs.length ys.length)).all (fun j=>eqT (xs.getD j .non) (ys.getD j .non))&&xs.length==ys.length)
 | [],[]=>by rw [eW];rfl
 | [],b::ys=>by simp [eW]
 | a::xs,[]=>by simp [eW]
 | a::xs,b::ys=>by
  rw [eW,pL xs ys,fS,fS,show min (xs.length+1) (ys.length+1)=min xs.length ys.length+1 by lia,List.range_succ_eq_map,List.all_cons,List.all_map];have e:(xs.length+1==ys.length+1)=(xs.length==ys.length):=by
   by_cases h:xs.length=ys.length
   .simp [h]
   .simp []
  rw [e,Bool.and_assoc];rfl
def isD:T->Bool
 | .dk _ _=>true
 | .dt _ _=>true
 | _=>false
theorem rE (hd:dpP t1 t2<=n) (hn:n<20000):isD t1=false/\isD t2=false:=by cases t1<;>cases t2<;>first | exact ⟨rfl,rfl⟩ | (exfalso;simp [dpP] at hd;lia)
def fN:T->T->Bool
 | .tup _,.tup _=>true
 | .lst _,.lst _=>true
 | .dk _ _,_=>true
 | .dt _ _,_=>true
 | _,.dk _ _=>true
 | _,.dt _ _=>true
 | _,_=>false
section
variable {X:Cx} {pj:Pq} {O:L2.St} {H F:Hp} {s:Shared}
theorem zU (I:Inv X pj O H s) (h:(∃ ws,H a=some (.dK ws))\/∃ ws,Rd H a (.dT ws)):∃ o,s.heap.get? a=some o/\o.cls=.type "dict":=by
 rcases h with ⟨ws,h⟩ | ⟨ws,h⟩
 .obtain ⟨_,_,vs,_,o,es,ep,h1,h2,_⟩:=rC I.hok h;exact ⟨o,h1,h2.1⟩
 .obtain ⟨_,_,xs,_,o,es,ep,h1,h2,_⟩:=kR I.hok h;exact ⟨o,h1,h2.1⟩
theorem MQ {F:Hp} {zs:Kq} (h1:Rd F a (.dT ws)) (h2:Rd F a (.dT zs)):ws=zs:=by rcases h1 with h1 | ⟨_,h1⟩<;>rcases h2 with h2 | ⟨_,h2⟩<;>(rw [h1] at h2;cases h2;try rfl)
theorem zV {F:Hp} {zs:List (Key × V)} (h1:Rd F a (.dT ws)) (h2:F a=some (.dK zs)):False:=by rcases h1 with h1 | ⟨_,h1⟩<;>(rw [h1] at h2;cases h2)
theorem rF (I:Inv X pj O H s) (h:(∃ ws,H a=some (.dK ws))\/∃ ws,Rd H a (.dT ws)) (p:SqT X.K H a vs):False:=by obtain ⟨o,h1,h2⟩:=zU I h;obtain ⟨qc,_,⟨o',e,c,_⟩,_⟩:=I.tuple p;rw [h1] at e;cases e;rw [h2] at c;exact absurd c (by decide +kernel)
theorem rG (I:Inv X pj O H s) (h:(∃ ws,H a=some (.dK ws))\/∃ ws,Rd H a (.dT ws)) (p:Ls X.K H a vs):False:=by obtain ⟨o,h1,h2⟩:=zU I h;obtain ⟨qc,_,p',_⟩:=I.list p.sq;obtain ⟨o',e,c,_⟩:=p'.isList;rw [h1] at e;cases e;rw [h2] at c;exact absurd c (by decide +kernel)
theorem iH (I:Inv X pj O H s) (fh:Same F H) {v:V} (r:Rep X.K F (.tup ts) v) (ru:aC v u):∃ a vs qc,v=.ref a/\u=.ref a/\Tq X.K F a vs/\aF X.K F ts vs/\aH vs qc/\s.heap.IsTuple a qc.toArray:=by obtain ⟨a,vs,rfl,h1,h2⟩:=r;cases ru;obtain ⟨qc,rv,p,_⟩:=I.tuple (dQ fh h1);exact ⟨a,vs,qc,rfl,rfl,h1,h2,rv,p⟩
theorem oG (I:Inv X pj O H s) (fh:Same F H) {v:V} (r:Rep X.K F (.lst ts) v) (ru:aC v u):∃ a vs qc,v=.ref a/\u=.ref a/\Ls X.K F a vs/\aF X.K F ts vs/\aH vs qc/\s.heap.IsList a qc.toArray:=by obtain ⟨a,vs,rfl,h1,h2⟩:=r;cases ru;obtain ⟨qc,rv,p,_⟩:=I.list (Ls.same fh h1).sq;exact ⟨a,vs,qc,rfl,rfl,h1,h2,rv,p.isList⟩
theorem zW {xs ys:Array Value} (h1:s.heap.IsTuple a xs) (h2:s.heap.IsList a ys):False:=by obtain ⟨o,e,c,_⟩:=h1;obtain ⟨o',e',c',_⟩:=h2;rw [e] at e';cases e';rw [c] at c';exact absurd c' (by decide +kernel)
theorem MR (h1:aC x u) (h2:aC y u):x=y:=by
 cases x with
 | non=>cases h1;cases y<;>first | rfl | (obtain ⟨_,e⟩:=h2;cases e;done) | (cases h2;done)
 | bl _=>cases h1;cases y<;>first | (obtain ⟨_,e⟩:=h2;cases e;done) | (cases h2;done) | (cases h2;rfl)
 | ref _=>cases h1;cases y<;>first | (obtain ⟨_,e⟩:=h2;cases e;done) | (cases h2;done) | (cases h2;rfl)
 | ty _=>cases h1;cases y<;>first | (obtain ⟨_,e⟩:=h2;cases e;done) | (cases h2;done) | (cases h2;rfl)
 | _=>obtain ⟨_,rfl⟩:=h1;cases y<;>first | (obtain ⟨_,e⟩:=h2;cases e;done) | (cases h2;done) | (obtain ⟨_,e⟩:=h2;cases e;rfl)
mutual
theorem rH (I:Inv X pj O H s) (fh:Same F H):∀ {t1 t2:T} {v:V},Rep X.K F t1 v->Rep X.K F t2 v->t1=t2
 | .non,t2,v,r1,r2=>by cases r1;cases t2<;>first | rfl | (obtain ⟨_,_,e,_⟩:=r2;cases e) | cases r2
 | .bl b,t2,v,r1,r2=>by cases r1;cases t2<;>first | (cases r2;rfl) | (obtain ⟨_,_,e,_⟩:=r2;cases e) | cases r2
 | .int b,t2,v,r1,r2=>by cases r1;cases t2<;>first | (cases r2;rfl) | (obtain ⟨_,_,e,_⟩:=r2;cases e) | cases r2
 | .str b,t2,v,r1,r2=>by cases r1;cases t2<;>first | (cases r2;rfl) | (obtain ⟨_,_,e,_⟩:=r2;cases e) | cases r2
 | .tup ts,t2,v,r1,r2=>by
  obtain ⟨a,vs,rfl,h1,h2⟩:=r1;cases t2 with
  | tup us =>obtain ⟨b,ws,e,h3,h4⟩:=r2;cases e;have:=I.tuple_inj (dQ fh h1) (dQ fh h3);subst this;rw [pM I fh h2 h4]
  | lst us =>obtain ⟨b,ws,e,h3,h4⟩:=r2;cases e;obtain ⟨qc,_,p,_⟩:=I.tuple (dQ fh h1);obtain ⟨jts,_,p',_⟩:=I.list (Ls.same fh h3).sq;exact absurd (zW (s:=s) p p'.isList) id
  | dk _ _ =>obtain ⟨b,ws,e,h3,h4⟩:=r2;cases e;exact (rF I (.inl ⟨_,fh _ _ h3⟩) (dQ fh h1)).elim
  | dt _ _ =>obtain ⟨b,ws,e,h3,h4⟩:=r2;cases e;exact (rF I (.inr ⟨_,jW fh h3⟩) (dQ fh h1)).elim
  | _=>cases r2
 | .lst ts,t2,v,r1,r2=>by
  obtain ⟨a,vs,rfl,h1,h2⟩:=r1;cases t2 with
  | lst us =>obtain ⟨b,ws,e,h3,h4⟩:=r2;cases e;have:=I.list_inj (Ls.same fh h1).sq (Ls.same fh h3).sq;subst this;rw [pM I fh h2 h4]
  | tup us =>obtain ⟨b,ws,e,h3,h4⟩:=r2;cases e;obtain ⟨qc,_,p,_⟩:=I.tuple (dQ fh h3);obtain ⟨jts,_,p',_⟩:=I.list (Ls.same fh h1).sq;exact absurd (zW (s:=s) p p'.isList) id
  | dk _ _ =>obtain ⟨b,ws,e,h3,h4⟩:=r2;cases e;exact (rG I (.inl ⟨_,fh _ _ h3⟩) (Ls.same fh h1)).elim
  | dt _ _ =>obtain ⟨b,ws,e,h3,h4⟩:=r2;cases e;exact (rG I (.inr ⟨_,jW fh h3⟩) (Ls.same fh h1)).elim
  | _=>cases r2
 | .dk ks ts,t2,v,r1,r2=>by
  obtain ⟨a,ws,rfl,h1,h2,h2'⟩:=r1;cases t2 with
  | dk _ _ =>obtain ⟨b,zs,e,h3,h4,h4'⟩:=r2;cases e;rw [h1] at h3;cases h3;subst h2 h4;rw [pM I fh h2' h4']
  | dt _ _ =>obtain ⟨b,zs,e,h3,_⟩:=r2;cases e;exact (zV h3 h1).elim
  | tup _ =>obtain ⟨b,zs,e,h3,_⟩:=r2;cases e;exact (rF I (.inl ⟨_,fh _ _ h1⟩) (dQ fh h3)).elim
  | lst _ =>obtain ⟨b,zs,e,h3,_⟩:=r2;cases e;exact (rG I (.inl ⟨_,fh _ _ h1⟩) (Ls.same fh h3)).elim
  | _=>cases r2
 | .dt ks ts,t2,v,r1,r2=>by
  obtain ⟨a,ws,rfl,h1,h2,h2'⟩:=r1;cases t2 with
  | dt _ _ =>obtain ⟨b,zs,e,h3,h4,h4'⟩:=r2;cases e;cases MQ h1 h3;subst h2 h4;rw [pM I fh h2' h4']
  | dk _ _ =>obtain ⟨b,zs,e,h3,_⟩:=r2;cases e;exact (zV h1 h3).elim
  | tup _ =>obtain ⟨b,zs,e,h3,_⟩:=r2;cases e;exact (rF I (.inr ⟨_,jW fh h1⟩) (dQ fh h3)).elim
  | lst _ =>obtain ⟨b,zs,e,h3,_⟩:=r2;cases e;exact (rG I (.inr ⟨_,jW fh h1⟩) (Ls.same fh h3)).elim
  | _=>cases r2
theorem pM (I:Inv X pj O H s) (fh:Same F H):∀ {ts us:List T} {vs:List V},aF X.K F ts vs->aF X.K F us vs->ts=us
 | [],us,vs,r1,r2=>by
  cases r1;cases us with
  | nil=>rfl
  | cons _ _=>obtain ⟨_,_,e,_⟩:=r2;cases e
 | t::ts,us,vs,r1,r2=>by
  obtain ⟨v,r,rfl,h1,h2⟩:=r1;cases us with
  | nil=>cases r2
  | cons u us =>obtain ⟨_,_,e,h3,h4⟩:=r2;cases e;rw [rH I fh h1 h3,pM I fh h2 h4]
end
theorem rJ (ih:∀ (t1 t2:T) (x y:V) (v u:Value),dpP t1 t2<=n->Rep X.K F t1 x->Rep X.K F t2 y->aC x v->aC y u->SeqAt.EqAt A s v u (eqT t1 t2)) {ws:List V} (hd:dO ts us<=n)
  (r1:aF X.K F ts vs) (r2:aF X.K F us ws) (v1:aH vs qc) (v2:aH ws jts):∀ j (h1:j<qc.toArray.size) (h2:j<jts.toArray.size),SeqAt.EqAt A s qc.toArray[j] jts.toArray[j] (eqT (ts.getD j .non) (us.getD j .non)):=by
 intro j h1 h2;have l1:qc.length=ts.length:=by rw [<- v1.length,r1.length]
 have l2:jts.length=us.length:=by rw [<- v2.length,r2.length]
 have h1':j<ts.length:=by rw [cR] at h1;lia
 have h2':j<us.length:=by rw [cR] at h2;lia
 have e1:ts[j]?=some ts[j]:=bW h1';have e2:us[j]?=some us[j]:=bW h2';obtain ⟨x,hx,rx⟩:=r1.get e1;obtain ⟨y,hy,ry⟩:=r2.get e2;obtain ⟨v,hv,rv⟩:=v1.get hx;obtain ⟨u,hu,ru⟩:=v2.get hy;have g1:qc.toArray[j]=v:=by
  have:qc[j]?=some qc.toArray[j]:=by simp
  rw [hv] at this;exact (dE this).symm
 have g2:jts.toArray[j]=u:=by
  have:jts[j]?=some jts.toArray[j]:=by simp
  rw [hu] at this;exact (dE this).symm
 rw [g1,g2,eN,eN,e1,e2];exact ih _ _ x y v u (cG (zT e1 e2) hd) rx ry rv ru
theorem rK {ws:List V} (r1:aF X.K F ts vs) (r2:aF X.K F us ws) (v1:aH vs qc) (v2:aH ws jts):qc.toArray.size=ts.length/\jts.toArray.size=us.length:=by rw [cR,cR,<- v1.length,<- v2.length,r1.length,r2.length];exact ⟨rfl,rfl⟩
theorem zX (h:ts.length=us.length):eW ts us=(List.range ts.length).all fun j=>eqT (ts.getD j .non) (us.getD j .non):=by rw [pL,h];simp
theorem zY (h:ts.length≠us.length):eW ts us=false:=by rw [pL,show (ts.length==us.length)=false by simpa using h,Bool.and_false]
theorem kind {P:T->Value->Prop} (I:Inv X pj O H s) (fh:Same F H) {t:T} (r:Rep X.K F t x) (rx:aC x v) (h0:P .non .none) (h1:∀ b,P (.bl b) (.bool b)) (h2:∀ i k,P (.int i) (.int i k)) (h3:∀ i k,P (.str i) (.str i k))
  (h4:∀ ts a qc,s.heap.IsTuple a qc->P (.tup ts) (.ref a)) (h5:∀ ts a qc,s.heap.IsList a qc->P (.lst ts) (.ref a)) (h6:isD t=true->P t v):P t v:=by
 cases t with
 | non=>cases r;cases rx;exact h0
 | bl b=>cases r;cases rx;exact h1 b
 | int i=>cases r;obtain ⟨k,rfl⟩:=rx;exact h2 i k
 | str i=>cases r;obtain ⟨k,rfl⟩:=rx;exact h3 i k
 | tup ts=>obtain ⟨a,_,qc,_,rfl,_,_,_,p⟩:=iH I fh r rx;exact h4 ts a _ p
 | lst ts=>obtain ⟨a,_,qc,_,rfl,_,_,_,p⟩:=oG I fh r rx;exact h5 ts a _ p
 | dk _ _=>exact h6 rfl
 | dt _ _=>exact h6 rfl
theorem MS (h:isD t2=true):fN t1 t2=true:=by cases t2<;>first | (cases h;done) | (cases t1<;>rfl)
theorem MT (h:isD t1=true):fN t1 t2=true:=by cases t1<;>first | (cases h;done) | rfl
theorem mix {Q:Value->Value->Bool->Prop} {g:Bool->Bool}
  (mnn:Q .none .none (g true))
  (mnb:∀ (b:Bool),Q .none (.bool b) (g false))
  (mni:∀ (b:Int) (b':Tok),Q .none (.int b b') (g false))
  (mns:∀ (b:Str) (b':Tok),Q .none (.str b b') (g false))
  (mnt:∀ {b:Addr} {b':Array Value},s.heap.IsTuple b b'->A.units<cLine->Q .none (.ref b) (g false))
  (mnl:∀ {b:Addr} {b':Array Value},s.heap.IsList b b'->A.units<cLine->Q .none (.ref b) (g false))
  (mbn:∀ (a:Bool),Q (.bool a) .none (g false))
  (mbb:∀ (a:Bool) (b:Bool),Q (.bool a) (.bool b) (g (a==b)))
  (mbi:∀ (a:Bool) (b:Int) (b':Tok),Q (.bool a) (.int b b') (g ((if a then 1 else 0)==b)))
  (mbs:∀ (a:Bool) (b:Str) (b':Tok),Q (.bool a) (.str b b') (g false))
  (mbt:∀ {b:Addr} {b':Array Value} (a:Bool),s.heap.IsTuple b b'->A.units<cLine->Q (.bool a) (.ref b) (g false))
  (mbl:∀ {b:Addr} {b':Array Value} (a:Bool),s.heap.IsList b b'->A.units<cLine->Q (.bool a) (.ref b) (g false))
  (min:∀ (a:Int) (a':Tok),Q (.int a a') .none (g false))
  (mib:∀ (a:Int) (a':Tok) (b:Bool),Q (.int a a') (.bool b) (g (a==(if b then 1 else 0))))
  (mii:∀ (a:Int) (a':Tok) (b:Int) (b':Tok),Q (.int a a') (.int b b') (g (a==b)))
  (mis:∀ (a:Int) (a':Tok) (b:Str) (b':Tok),Q (.int a a') (.str b b') (g false))
  (mit:∀ {b:Addr} {b':Array Value} (a:Int) (a':Tok),s.heap.IsTuple b b'->A.units<cLine->Q (.int a a') (.ref b) (g false))
  (mil:∀ {b:Addr} {b':Array Value} (a:Int) (a':Tok),s.heap.IsList b b'->A.units<cLine->Q (.int a a') (.ref b) (g false))
  (msn:∀ (a:Str) (a':Tok),Q (.str a a') .none (g false))
  (msb:∀ (a:Str) (a':Tok) (b:Bool),Q (.str a a') (.bool b) (g false))
  (msi:∀ (a:Str) (a':Tok) (b:Int) (b':Tok),Q (.str a a') (.int b b') (g false))
  (mss:∀ (a:Str) (a':Tok) (b:Str) (b':Tok),Q (.str a a') (.str b b') (g (a==b)))
  (mst:∀ {b:Addr} {b':Array Value} (a:Str) (a':Tok),s.heap.IsTuple b b'->A.units<cLine->Q (.str a a') (.ref b) (g false))
  (msl:∀ {b:Addr} {b':Array Value} (a:Str) (a':Tok),s.heap.IsList b b'->A.units<cLine->Q (.str a a') (.ref b) (g false))
  (mtn:∀ {a:Addr} {a':Array Value},s.heap.IsTuple a a'->A.units<cLine->Q (.ref a) .none (g false))
  (mtb:∀ {a:Addr} {a':Array Value} (b:Bool),s.heap.IsTuple a a'->A.units<cLine->Q (.ref a) (.bool b) (g false))
  (mti:∀ {a:Addr} {a':Array Value} (b:Int) (b':Tok),s.heap.IsTuple a a'->A.units<cLine->Q (.ref a) (.int b b') (g false))
  (mts:∀ {a:Addr} {a':Array Value} (b:Str) (b':Tok),s.heap.IsTuple a a'->A.units<cLine->Q (.ref a) (.str b b') (g false))
  (mtl:∀ {a:Addr} {a':Array Value} {b:Addr} {b':Array Value},s.heap.IsTuple a a'->s.heap.IsList b b'->A.units<cLine->Q (.ref a) (.ref b) (g false))
  (mln:∀ {a:Addr} {a':Array Value},s.heap.IsList a a'->A.units<cLine->Q (.ref a) .none (g false))
  (mlb:∀ {a:Addr} {a':Array Value} (b:Bool),s.heap.IsList a a'->A.units<cLine->Q (.ref a) (.bool b) (g false))
  (mli:∀ {a:Addr} {a':Array Value} (b:Int) (b':Tok),s.heap.IsList a a'->A.units<cLine->Q (.ref a) (.int b b') (g false))
  (mls:∀ {a:Addr} {a':Array Value} (b:Str) (b':Tok),s.heap.IsList a a'->A.units<cLine->Q (.ref a) (.str b b') (g false))
  (mlt:∀ {a:Addr} {a':Array Value} {b:Addr} {b':Array Value},s.heap.IsList a a'->s.heap.IsTuple b b'->A.units<cLine->Q (.ref a) (.ref b) (g false))
  (I:Inv X pj O H s) (fh:Same F H) {t1 t2:T} {x y:V} {v u:Value} (hu:A.units<cLine) (hne:fN t1 t2≠true) (r1:Rep X.K F t1 x) (r2:Rep X.K F t2 y) (rx:aC x v) (ry:aC y u):Q v u (g (eqT t1 t2)):=by
 revert hne;have two:∀ {t v},(fN t .non≠true->Q v .none (g (eqT t .non)))->(∀ b,fN t (.bl b)≠true->Q v (.bool b) (g (eqT t (.bl b))))->(∀ i k,fN t (.int i)≠true->Q v (.int i k) (g (eqT t (.int i))))->(∀ i k,fN t (.str i)≠true->Q v (.str i k) (g (eqT t (.str i)))) ->
   (∀ ts a qc,s.heap.IsTuple a qc->fN t (.tup ts)≠true->Q v (.ref a) (g (eqT t (.tup ts))))->(∀ ts a qc,s.heap.IsList a qc->fN t (.lst ts)≠true->Q v (.ref a) (g (eqT t (.lst ts))))->fN t t2≠true->Q v u (g (eqT t t2)) :=
  fun {t v} h0 h1 h2 h3 h4 h5=>kind (P:=fun w u=>fN t w≠true->Q v u (g (eqT t w))) I fh r2 ry h0 h1 h2 h3 h4 h5 fun e z=>absurd (MS e) z
 refine kind (P:=fun t v=>fN t t2≠true->Q v u (g (eqT t t2))) I fh r1 rx ?_ ?_ ?_ ?_ ?_ ?_ fun e z=>absurd (MT e) z
 .exact two (fun _=>mnn) (fun b' _=>mnb b') (fun i' k' _=>mni i' k') (fun i' k' _=>mns i' k') (fun _ _ _ p' _=>mnt p' hu) (fun _ _ _ p' _=>mnl p' hu)
 .intro b;exact two (fun _=>mbn b) (fun b' _=>mbb b b') (fun i' k' _=>mbi b i' k') (fun i' k' _=>mbs b i' k') (fun _ _ _ p' _=>mbt b p' hu) (fun _ _ _ p' _=>mbl b p' hu)
 .intro i k;exact two (fun _=>min i k) (fun b' _=>mib i k b') (fun i' k' _=>mii i k i' k') (fun i' k' _=>mis i k i' k') (fun _ _ _ p' _=>mit i k p' hu) (fun _ _ _ p' _=>mil i k p' hu)
 .intro i k;exact two (fun _=>msn i k) (fun b' _=>msb i k b') (fun i' k' _=>msi i k i' k') (fun i' k' _=>mss i k i' k') (fun _ _ _ p' _=>mst i k p' hu) (fun _ _ _ p' _=>msl i k p' hu)
 .intro _ _ _ p;exact two (fun _=>mtn p hu) (fun b' _=>mtb b' p hu) (fun i' k' _=>mti i' k' p hu) (fun i' k' _=>mts i' k' p hu) (fun _ _ _ _ z=>absurd rfl z) (fun _ _ _ p' _=>mtl p p' hu)
 .intro _ _ _ p;exact two (fun _=>mln p hu) (fun b' _=>mlb b' p hu) (fun i' k' _=>mli i' k' p hu) (fun i' k' _=>mls i' k' p hu) (fun _ _ _ p' _=>mlt p p' hu) (fun _ _ _ _ z=>absurd rfl z)
open SeqAt.EqAt in
theorem zZ (I:Inv X pj O H s) (fh:Same F H) (hu:A.units<cLine) (hne:fN t1 t2≠true) (r1:Rep X.K F t1 x) (r2:Rep X.K F t2 y) (rx:aC x v) (ry:aC y u):SeqAt.EqAt A s v u (eqT t1 t2) :=
 mix (g:=id) (Q:=SeqAt.EqAt A s) (same .none) none_bool none_int none_str none_tuple none_list bool_none bool_bool bool_int bool_str bool_tuple bool_list int_none int_bool int_int int_str int_tuple int_list str_none str_bool str_int str_str str_tuple str_list tuple_none tuple_bool tuple_int tuple_str tuple_list list_none list_bool list_int list_str list_tuple I fh hu hne r1 r2 rx ry
open SeqAt.RcAt in
theorem MU (I:Inv X pj O H s) (fh:Same F H) (hu:A.units<cLine) (hne:fN t1 t2≠true) (r1:Rep X.K F t1 x) (r2:Rep X.K F t2 y) (rx:aC x v) (ry:aC y u):SeqAt.RcAt A s v u (eqT t1 t2) :=
 mix (g:=id) (Q:=SeqAt.RcAt A s) none_none none_bool none_int none_str none_tuple none_list bool_none bool_bool bool_int bool_str bool_tuple bool_list int_none int_bool int_int int_str int_tuple int_list str_none str_bool str_int str_str str_tuple str_list tuple_none tuple_bool tuple_int tuple_str tuple_list list_none list_bool list_int list_str list_tuple I fh hu hne r1 r2 rx ry
open SeqAt.RcNeAt in
theorem MV (I:Inv X pj O H s) (fh:Same F H) (hu:A.units<cLine) (hne:fN t1 t2≠true) (r1:Rep X.K F t1 x) (r2:Rep X.K F t2 y) (rx:aC x v) (ry:aC y u):SeqAt.RcNeAt A s v u (!eqT t1 t2) :=
 mix (g:=not) (Q:=SeqAt.RcNeAt A s) none_none none_bool none_int none_str none_tuple none_list bool_none bool_bool bool_int bool_str bool_tuple bool_list int_none int_bool int_int int_str int_tuple int_list str_none str_bool str_int str_str str_tuple str_list tuple_none tuple_bool tuple_int tuple_str tuple_list list_none list_bool list_int list_str list_tuple I fh hu hne r1 r2 rx ry
theorem rL (I:Inv X pj O H s) (fh:Same F H):∀ (n:Nat) (A:Around) (t1 t2:T) (x y:V) (v u:Value),A.units+n<cLine->dpP t1 t2<=n->Rep X.K F t1 x->Rep X.K F t2 y->aC x v->aC y u->SeqAt.EqAt A s v u (eqT t1 t2):=by
 intro n
 induction n with
 | zero =>intro A t1 t2 x y v u hA hd r1 r2 rx ry;refine zZ I fh hA ?_ r1 r2 rx ry;intro h;have nd:=rE hd (by lia);cases t1<;>cases t2<;>first | (cases h;done) | (cases nd.1;done) | (cases nd.2;done) | (rw [dpP] at hd;lia)
 | succ n ih =>
  intro A t1 t2 x y v u hA hd r1 r2 rx ry;have hu:A.units<cLine:=by lia
  have ih':=fun (t1 t2:T) (x y:V) (v u:Value) h=>ih A.in1 t1 t2 x y v u (show A.units+1+n<cLine by lia) h;have nd:=rE hd (by have:cLine=9900:=rfl;lia);by_cases hb:fN t1 t2=true
  .cases t1 with
   | tup ts =>
    cases t2 with
    | tup us =>
     rw [dpP] at hd;by_cases hs:v=u
     .subst hs;have e:x=y:=by obtain ⟨_,_,rfl,_⟩:=r1;obtain ⟨_,_,rfl,_⟩:=r2;cases rx;cases ry;rfl
      subst e;have e:=rH I fh r1 r2;cases e;rw [rD _ (by rw [dpP];have:cLine=9900:=rfl;lia)];exact .same v
     .obtain ⟨l1,vs1,its1,rfl,rfl,_,q1,w1,p1⟩:=iH I fh r1 rx;obtain ⟨l2,vs2,its2,rfl,rfl,_,q2,w2,p2⟩:=iH I fh r2 ry;have h:=SeqAt.RcAt.tuples p1 p2 hu (rJ (fun t1 t2 x y v u h a b c d=>ih' t1 t2 x y v u h a b c d) (Nat.le_of_succ_le_succ hd) q1 q2 w1 w2);obtain ⟨z1,z2⟩:=rK q1 q2 w1 w2;rw [z1,z2,<- pL] at h;rw [eqT];exact .of_refs (fun e=>hs (by rw [e])) h
    | dk _ _=>cases nd.2
    | dt _ _=>cases nd.2
    | _=>cases hb
   | lst ts =>
    cases t2 with
    | lst us =>
     rw [dpP] at hd;by_cases hs:v=u
     .subst hs;have e:x=y:=by obtain ⟨_,_,rfl,_⟩:=r1;obtain ⟨_,_,rfl,_⟩:=r2;cases rx;cases ry;rfl
      subst e;have e:=rH I fh r1 r2;cases e;rw [rD _ (by rw [dpP];have:cLine=9900:=rfl;lia)];exact .same v
     .obtain ⟨l1,vs1,its1,rfl,rfl,_,q1,w1,p1⟩:=oG I fh r1 rx;obtain ⟨l2,vs2,its2,rfl,rfl,_,q2,w2,p2⟩:=oG I fh r2 ry;obtain ⟨z1,z2⟩:=rK q1 q2 w1 w2;rw [eqT];refine .of_refs (fun e=>hs (by rw [e])) ?_;by_cases hl:ts.length=us.length
      .have h:=SeqAt.RcAt.lists p1 p2 (by rw [z1,z2,hl]) hu (rJ (fun t1 t2 x y v u h a b c d=>ih' t1 t2 x y v u h a b c d) (Nat.le_of_succ_le_succ hd) q1 q2 w1 w2);rw [z1] at h;rw [zX hl];exact h
      .rw [zY hl];exact SeqAt.RcAt.lists_lengths p1 p2 (by rw [z1,z2];simpa using hl) hu
    | dk _ _=>cases nd.2
    | dt _ _=>cases nd.2
    | _=>cases hb
   | dk _ _=>cases nd.1
   | dt _ _=>cases nd.1
   | _=>cases t2<;>first | (cases hb;done) | (cases nd.2;done)
  .exact zZ I fh hu hb r1 r2 rx ry
theorem AA (I:Inv X pj O H s) (fh:Same F H) (hA:A.units+n<cLine) (hd:dpP t1 t2<=n) (r1:Rep X.K F t1 x) (r2:Rep X.K F t2 y) (rx:aC x v) (ry:aC y u):SeqAt.RcAt A s v u (eqT t1 t2)/\SeqAt.RcNeAt A s v u (!eqT t1 t2):=by
 have hu:A.units<cLine:=by lia
 have nd:=rE hd (by have:cLine=9900:=rfl;lia);by_cases hb:fN t1 t2=true
 .cases n with
  | zero =>exfalso;have nd:=rE hd (by lia);cases t1<;>cases t2<;>first | (cases hb;done) | (cases nd.1;done) | (cases nd.2;done) | (rw [dpP] at hd;lia)
  | succ n =>
   have ih':=fun (t1 t2:T) (x y:V) (v u:Value) h=>rL I fh n A.in1 t1 t2 x y v u (show A.units+1+n<cLine by lia) h;cases t1 with
   | tup ts =>
    cases t2 with
    | tup us =>rw [dpP] at hd;obtain ⟨l1,vs1,its1,rfl,rfl,_,q1,w1,p1⟩:=iH I fh r1 rx;obtain ⟨l2,vs2,its2,rfl,rfl,_,q2,w2,p2⟩:=iH I fh r2 ry;have pa:=rJ (fun t1 t2 x y v u h a b c d=>ih' t1 t2 x y v u h a b c d) (Nat.le_of_succ_le_succ hd) q1 q2 w1 w2;have h:=SeqAt.RcAt.tuples p1 p2 hu pa;have g:=SeqAt.RcNeAt.tuples p1 p2 hu pa;obtain ⟨z1,z2⟩:=rK q1 q2 w1 w2;rw [z1,z2,<- pL] at h g;rw [eqT];exact ⟨h,g⟩
    | dk _ _=>cases nd.2
    | dt _ _=>cases nd.2
    | _=>cases hb
   | lst ts =>
    cases t2 with
    | lst us =>
     rw [dpP] at hd;obtain ⟨l1,vs1,its1,rfl,rfl,_,q1,w1,p1⟩:=oG I fh r1 rx;obtain ⟨l2,vs2,its2,rfl,rfl,_,q2,w2,p2⟩:=oG I fh r2 ry;obtain ⟨z1,z2⟩:=rK q1 q2 w1 w2;rw [eqT];by_cases hl:ts.length=us.length
     .have pa:=rJ (fun t1 t2 x y v u h a b c d=>ih' t1 t2 x y v u h a b c d) (Nat.le_of_succ_le_succ hd) q1 q2 w1 w2;have h:=SeqAt.RcAt.lists p1 p2 (by rw [z1,z2,hl]) hu pa;have g:=SeqAt.RcNeAt.lists p1 p2 (by rw [z1,z2,hl]) hu pa;rw [z1] at h g;rw [zX hl];exact ⟨h,g⟩
     .rw [zY hl];exact ⟨SeqAt.RcAt.lists_lengths p1 p2 (by rw [z1,z2];simpa using hl) hu,SeqAt.RcNeAt.lists_lengths p1 p2 (by rw [z1,z2];simpa using hl) hu⟩
    | dk _ _=>cases nd.2
    | dt _ _=>cases nd.2
    | _=>cases hb
   | dk _ _=>cases nd.1
   | dt _ _=>cases nd.1
   | _=>cases t2<;>first | (cases hb;done) | (cases nd.2;done)
 .exact ⟨MU I fh hu hb r1 r2 rx ry,MV I fh hu hb r1 r2 rx ry⟩
end
end
section
variable {pj:Pq} {O:L2.St} {H F:Hp} {s:Shared} {K:W.Frag} {t t1:T} {v:Value} {x:V}
section
variable {X:Cx}
theorem MW {a:Addr} {xs:List V} (I:Inv X pj O H s) (h:Ls X.K H a xs):∃ qc:List Value,aH xs qc/\s.heap.IsList a qc.toArray/\xs.length<=sizeLine:=by have q:SqL X.K H a xs:=h.sq;obtain ⟨qc,r,p,z⟩:=I.list q;exact ⟨qc,r,p.isList,z⟩
def vOf:T->V
 | .non=>.non
 | .bl b=>.bl b
 | .int i=>.int i
 | .str x=>.str x
 | _=>.non
theorem AB {v:V} (h:Rep K F t v) (f:flat t=true):v=vOf t:=by
 cases t with
 | tup _=>cases f
 | lst _=>cases f
 | dk _ _=>cases f
 | dt _ _=>cases f
 | _=>exact h
theorem uC (f:flat t=true):mS (vOf t)=true:=by cases t<;>first | rfl | cases f
theorem MX {u:T} (f:flat t=true) (g:flat u=true):eqV (vOf t) (vOf u)=eqT t u:=by cases t<;>cases u<;>first | (exact absurd f Bool.false_ne_true) | (exact absurd g Bool.false_ne_true) | rfl | simp [vOf,eqV,eqT]
theorem MY (hu:X.A.units+100<cLine):OpS X (compareOp .Eq) eqC:=by
 intro pj s O H x y v u Q I rx ry h;obtain ⟨F,t1,t2,t,fh,r1,r2,ht,q⟩:=h;simp only [eqC] at ht;split at ht
 .rename_i hd;cases ht;exact (AA I fh (n:=30) (by lia) hd r1 r2 rx ry).1 _ _ _ _ ⟨.bl _,H,I,rfl,q _ F H (Step.refl fh) rfl⟩
 .cases ht
theorem MZ (hu:X.A.units+100<cLine):OpS X (compareOp .NotEq) neC:=by
 intro pj s O H x y v u Q I rx ry h;obtain ⟨F,t1,t2,t,fh,r1,r2,ht,q⟩:=h;simp only [neC] at ht;split at ht
 .rename_i hd;cases ht;exact (AA I fh (n:=30) (by lia) hd r1 r2 rx ry).2 _ _ _ _ ⟨.bl _,H,I,rfl,q _ F H (Step.refl fh) rfl⟩
 .cases ht
theorem uD {v:V} {k:Kt} (r:Rep K F t v) (h:kM t=some k):v=kV k:=by cases t<;>first | (cases h;exact r) | cases h
theorem lX {K:W.Frag} {F:Hp}:∀ {ts:List T} {vs:List V} {ks:List Kt},aF K F ts vs->gO ts=some ks->vs=ks.map kV
 | [],_,_,r,h=>by cases r;cases h;rfl
 | t::ts,_,_,r,h=>by obtain ⟨v,vr,rfl,r1,r2⟩:=r;obtain ⟨k,h1,h⟩:=obs h;obtain ⟨ks,h2,h⟩:=obs h;cases h;rw [uD r1 h1,lX r2 h2];rfl
theorem NA (hu:X.A.units+100<cLine):OpS X (compareOp .Lt) ltC:=by
 intro pj s O H x y v u Q I rx ry h;obtain ⟨F,t1,t2,t,fh,r1,r2,ht,q⟩:=h;cases t1 with
 | int i =>
  cases t2 with
  | int j =>cases ht;cases r1;cases r2;exact JM pj s O H _ _ v u Q I rx ry ⟨_,_,rfl,rfl,q _ F H (Step.refl fh) rfl⟩
  | _=>cases ht
 | str i =>
  cases t2 with
  | str j =>cases ht;cases r1;cases r2;exact JO pj s O H _ _ v u Q I rx ry ⟨_,_,rfl,rfl,q _ F H (Step.refl fh) rfl⟩
  | _=>cases ht
 | _=>cases ht
theorem NB:OpS X (compareOp .Gt) (bB .gt):=by intro pj s O H x y v u Q I rx ry h;obtain ⟨F,t1,t2,t,fh,r1,r2,ht,q⟩:=h;cases t1<;>cases t2<;>simp only [bB] at ht<;>cases ht;cases r1;cases r2;exact JN pj s O H _ _ v u Q I rx ry ⟨_,_,rfl,rfl,q _ F H (Step.refl fh) rfl⟩
theorem AD {K:W.Frag} {F:Hp}:∀ {ts:List T} {vs:List V},aF K F ts vs->ts.all flat=true->vs=ts.map vOf
 | [],_,h,_=>h
 | t::ts,_,h,f=>by obtain ⟨v,r,rfl,h1,h2⟩:=h;rw [List.all_cons,bU] at f;rw [aS,AB h1 f.1,AD h2 f.2]
theorem NC {ts:List T} (g:ts.all flat=true):(ts.map vOf).all mS=true:=by
 induction ts with
 | nil=>rfl
 | cons t ts ih =>rw [List.all_cons,bU] at g;rw [aS,List.all_cons,uC g.1,ih g.2];rfl
theorem ND (I:Inv X pj O H s) (fh:Same F H) {A:Around} (hA:A.units+30<cLine) (r1:Rep X.K F t1 x) (rx:aC x v):∀ {ts:List T} {vs:List V} {us:List Value},dpI t1 ts=true->aF X.K F ts vs->aH vs us ->
  ∃ e:Value->Bool,(∀ w∈us,SeqAt.EqAt A s w v (e w))/\us.map e=ts.map fun z=>eqT z t1:=by
 classical
 intro ts vs us hd r rv;have one:∀ {ts:List T} {vs:List V} {us:List Value},dpI t1 ts=true->aF X.K F ts vs->aH vs us->∀ w∈us,∃ t∈ts,SeqAt.EqAt A s w v (eqT t t1)/\∃ y,Rep X.K F t y/\aC y w:=by
  intro ts
  induction ts with
  | nil=>intro vs us _ r rv w hw;cases r;cases rv;cases hw
  | cons t ts ih =>
   intro vs us hd r rv w hw;obtain ⟨y,vr,rfl,r2,r3⟩:=r;cases rv with
   | cons a b =>
    unfold dpI at hd;rw [List.all_cons,bU,qL] at hd;rcases omc hw with rfl | hw
    .exact ⟨t,cW,rL I fh 30 A _ _ _ _ _ _ hA hd.1 r2 r1 a rx,_,r2,a⟩
    .obtain ⟨t',h1,h2⟩:=ih hd.2 r3 b w hw;exact ⟨t',cL _ h1,h2⟩
 obtain ⟨e,he⟩:∃ e:Value->Bool,∀ w t y,Rep X.K F t y->aC y w->e w=eqT t t1:=by refine ⟨fun w=>if h:∃ t,(∃ y,Rep X.K F t y/\aC y w) then eqT (Classical.choose h) t1 else false,fun w t y h3 h4=>?_⟩;have h:∃ t,(∃ y,Rep X.K F t y/\aC y w):=⟨t,y,h3,h4⟩;obtain ⟨y',h5,h6⟩:=Classical.choose_spec h;have e:y=y':=MR h4 h6;subst e;simp only [dif_pos h];rw [<- rH I fh h3 h5]
 refine ⟨e,fun w hw=>?_,?_⟩
 .obtain ⟨t,_,h2,y,h3,h4⟩:=one hd r rv w hw;rw [he w t y h3 h4];exact h2
 .clear one
  induction ts generalizing vs us with
  | nil=>cases r;cases rv;rfl
  | cons t ts ih =>
   obtain ⟨y,vr,rfl,r2,r3⟩:=r;cases rv with
   | cons a b =>unfold dpI at hd;rw [List.all_cons,bU] at hd;rw [aS,aS,ih hd.2 r3 b,he _ t y r2 a]
theorem AE (I:Inv X pj O H s) (fh:Same F H) {A:Around} (hA:A.units+30<cLine) (r1:Rep X.K F t1 x) (rx:aC x v):∀ {ts:List T} {vs:List V} {us:List Value},dpI t1 ts=true->aF X.K F ts vs->aH vs us ->
  ∃ e:Value->Bool,(∀ w∈us,SeqAt.EqAt A s w v (e w))/\us.any e=ts.any fun z=>eqT z t1:=by
 intro ts vs us hd r rv;obtain ⟨e,e1,e2⟩:=ND I fh hA r1 rx hd r rv;refine ⟨e,e1,?_⟩;have:=aW (fun l:List Bool=>l.any id) e2;simpa [List.any_map,Function.comp_def] using this
theorem AF (hu:X.A.units+100<cLine) {t2:T} {y:V} {u:Value} {b:Bool} (I:Inv X pj O H s) (fh:Same F H) (r1:Rep X.K F t1 x) (r2:Rep X.K F t2 y) (rx:aC x v) (ry:aC y u) (h:inC t1 t2=some b) (hnd:∀ ks us,t2≠.dt ks us) {Q:Bool->Shared->Prop} (q:Q b s) {Q2:Vq} :
  ((∀ b,Q b s->Q2 (.bool b) s)->wpAny (model X.prog X.w) X.A (compareOp .In v u) Q2 X.xe s)/\((∀ b,Q b s->Q2 (.bool (!b)) s)->wpAny (model X.prog X.w) X.A (compareOp .NotIn v u) Q2 X.xe s):=by
 cases t2 with
 | tup ts =>
  simp only [inC] at h;split at h
  .rename_i hd;cases h;obtain ⟨a,vs,qc,rfl,rfl,_,q1,w1,p1⟩:=iH I fh r2 ry;obtain ⟨e,e1,e2⟩:=AE I fh (A:=X.A.in1) (show X.A.units+1+30<cLine by lia) r1 rx hd q1 w1;have e3:qc.toArray.any e=ts.any fun z=>eqT z t1:=by rw [<- e2];simp
   exact ⟨fun k=>SeqAt.in_tupleAt e p1 (fun w hw=>e1 w (by simpa using hw)) (by rw [e3];exact k _ q),fun k=>SeqAt.notIn_tupleAt e p1 (fun w hw=>e1 w (by simpa using hw)) (by rw [e3];exact k _ q)⟩
  .cases h
 | lst ts =>
  simp only [inC] at h;split at h
  .rename_i hd;cases h;obtain ⟨a,vs,qc,rfl,rfl,_,q1,w1,p1⟩:=oG I fh r2 ry;obtain ⟨e,e1,e2⟩:=AE I fh (A:=X.A.in1) (show X.A.units+1+30<cLine by lia) r1 rx hd q1 w1;have e3:qc.toArray.any e=ts.any fun z=>eqT z t1:=by rw [<- e2];simp
   exact ⟨fun k=>SeqAt.in_listAt e p1 (fun w hw=>e1 w (by simpa using hw)) (by rw [e3];exact k _ q),fun k=>SeqAt.notIn_listAt e p1 (fun w hw=>e1 w (by simpa using hw)) (by rw [e3];exact k _ q)⟩
  .cases h
 | dt ks us=>exact absurd rfl (hnd ks us)
 | _=>cases h
theorem AG {ks:List (List Kt)} {us:List T} {y:V} {u:Value} {b:Bool} (I:Inv X pj O H s) (fh:Same F H) (r1:Rep X.K F t1 x) (r2:Rep X.K F (.dt ks us) y) (rx:aC x v) (ry:aC y u) (h:inC t1 (.dt ks us)=some b):∃ a z o,u=.ref a/\cB H a z o/\aC z v/\o.isSome=b:=by
 cases t1 with
 | tup xs =>obtain ⟨k,hk,rfl⟩:=oms h;obtain ⟨a,ws,rfl,g1,g2,g3⟩:=r2;obtain ⟨c,vs,rfl,g4,g5⟩:=r1;cases rx;cases ry;subst g2;have eb:=lX g5 hk;subst eb;exact ⟨a,.ref c,cM ws k,rfl,cB.tr (jW fh g1) (fh _ _ g4),rfl,by rw [<- mY,List.any_map];rfl⟩
 | _=>cases h
theorem NE (hu:X.A.units+100<cLine):OpS X (compareOp .In) (bB .isin):=by
 intro pj s O H x y v u Q I rx ry h;obtain ⟨F,t1,t2,t,fh,r1,r2,ht,q⟩:=h;simp only [bB] at ht;obtain ⟨b,hb,rfl⟩:=oms ht;by_cases hq:∃ ks us,t2=.dt ks us
 .obtain ⟨ks,us,rfl⟩:=hq;obtain ⟨a,z,o,rfl,g,rz,e⟩:=AG I fh r1 r2 rx ry hb;exact d_in (by lia) I g rz fun s' I'=>⟨.bl o.isSome,H,I',rfl,by rw [e];exact q _ F H (Step.refl fh) rfl⟩
 exact (AF hu I fh r1 r2 rx ry hb (fun ks us e=>hq ⟨ks,us,e⟩) (Q:=fun b _=>Q (.bl b) H) (q _ F H (Step.refl fh) rfl)).1 fun b k=>⟨.bl b,H,I,rfl,k⟩
theorem NF (hu:X.A.units+100<cLine):OpS X (compareOp .NotIn) (bB .notin):=by
 intro pj s O H x y v u Q I rx ry h;obtain ⟨F,t1,t2,t,fh,r1,r2,ht,q⟩:=h;simp only [bB] at ht;obtain ⟨b,hb,rfl⟩:=oms ht;by_cases hq:∃ ks us,t2=.dt ks us
 .obtain ⟨ks,us,rfl⟩:=hq;obtain ⟨a,z,o,rfl,g,rz,e⟩:=AG I fh r1 r2 rx ry hb;exact ME (by lia) I g rz fun s' I'=>⟨.bl (!o.isSome),H,I',rfl,by rw [e];exact q _ F H (Step.refl fh) rfl⟩
 exact (AF hu I fh r1 r2 rx ry hb (fun ks us e=>hq ⟨ks,us,e⟩) (Q:=fun b _=>Q (.bl (!b)) H) (q _ F H (Step.refl fh) rfl)).2 fun b k=>⟨.bl (!b),H,I,rfl,k⟩
theorem NG:OpS X (compareOp .Is) (bB .isN):=by
 intro pj s O H x y v u Q I rx ry h;obtain ⟨F,t1,t2,t,fh,r1,r2,ht,q⟩:=h;have e2:t2=.non:=by cases t2<;>first | rfl | (cases t1<;>simp [bB] at ht)
 subst e2;cases r2;have e:t=.bl (decide (x=.non)):=by
  cases t1 with
  | non=>cases r1;cases ht;simp
  | bl _=>cases r1;cases ht;simp
  | int _=>cases r1;cases ht;simp
  | str _=>cases r1;cases ht;simp
  | tup _=>obtain ⟨a,vs,rfl,_⟩:=r1;cases ht;simp
  | lst _=>obtain ⟨a,vs,rfl,_⟩:=r1;cases ht;simp
  | dk _ _=>obtain ⟨a,vs,rfl,_⟩:=r1;cases ht;simp
  | dt _ _=>obtain ⟨a,vs,rfl,_⟩:=r1;cases ht;simp
 subst e;exact JP pj s O H _ _ v u Q I rx ry ⟨rfl,q _ F H (Step.refl fh) rfl⟩
theorem NH:OpS X (compareOp .IsNot) (bB .notN):=by
 intro pj s O H x y v u Q I rx ry h;obtain ⟨F,t1,t2,t,fh,r1,r2,ht,q⟩:=h;have e2:t2=.non:=by cases t2<;>first | rfl | (cases t1<;>simp [bB] at ht)
 subst e2;cases r2;have e:t=.bl (!decide (x=.non)):=by
  cases t1 with
  | non=>cases r1;cases ht;simp
  | bl _=>cases r1;cases ht;simp
  | int _=>cases r1;cases ht;simp
  | str _=>cases r1;cases ht;simp
  | tup _=>obtain ⟨a,vs,rfl,_⟩:=r1;cases ht;simp
  | lst _=>obtain ⟨a,vs,rfl,_⟩:=r1;cases ht;simp
  | dk _ _=>obtain ⟨a,vs,rfl,_⟩:=r1;cases ht;simp
  | dt _ _=>obtain ⟨a,vs,rfl,_⟩:=r1;cases ht;simp
 subst e;exact JQ pj s O H _ _ v u Q I rx ry ⟨rfl,q _ F H (Step.refl fh) rfl⟩
theorem NI:OpS X (compareOp .IsNot) (bB .notF):=by
 intro pj s O H x y v u Q I rx ry h;obtain ⟨F,t1,t2,t,fh,r1,r2,ht,q⟩:=h;have e2:t2=.bl false:=by
  cases t2 with
  | bl b=>cases b<;>first | rfl | (cases t1<;>simp [bB] at ht)
  | _=>cases t1<;>simp [bB] at ht
 subst e2;cases r2;cases ry;cases t1 with
 | bl b =>cases r1;cases rx;cases ht;refine isnot_bool ⟨.bl b,H,I,?_,q _ F H (Step.refl fh) rfl⟩;cases b<;>rfl
 | non =>cases r1;cases rx;cases ht;exact aI (a:=Value.bool (Value.none != Value.bool false)) ⟨.bl true,H,I,rfl,q _ F H (Step.refl fh) rfl⟩
 | _=>simp [bB] at ht
theorem AH (hu:X.A.units+100<cLine) {op:CmpOp} {e:Expr} {o:Co} (h:mW op e=some o):OpS X (compareOp op) (bB o)/\behindInMarks op e=false:=by
 cases op with
 | Eq=>cases h;exact ⟨MY hu,mR _⟩
 | NotEq=>cases h;exact ⟨MZ hu,mR _⟩
 | Lt=>cases h;exact ⟨NA hu,mR _⟩
 | LtE=>cases h
 | Gt=>cases h;exact ⟨NB,mR _⟩
 | GtE=>cases h
 | Is =>
  simp only [mW] at h;split at h
  .cases h;exact ⟨NG,mR _⟩
  .cases h
 | IsNot =>
  simp only [mW] at h;split at h
  .cases h;exact ⟨NH,mR _⟩
  .split at h
   .cases h;exact ⟨NI,mR _⟩
   .cases h
 | In =>
  simp only [mW] at h;split at h
  .cases h
  .rename_i hb;cases h;exact ⟨NE hu,by simpa using hb⟩
 | NotIn =>
  simp only [mW] at h;split at h
  .cases h
  .rename_i hb;cases h;exact ⟨NF hu,by simpa using hb⟩
theorem NJ {op:Operator} {o:Bo} (h:tT op=some o):OpS X (binaryOp op) (bI o):=by
 cases op<;>simp only [tT] at h<;>cases h
 .exact LY
 .exact LZ
 .exact MA
 .exact MC
 .exact MB
end
end
section
variable {K:W.Frag} {f g:Env->Option T} {k n:Nat} {rest es:List Expr}
section
variable {X:Cx} {c:Tc} {a b:Expr} {pos:Pos}
theorem AI {F:Hp} {ts:List T} {vs:List V} {i:Int} {t:T} (r:aF K F ts vs) (h:dA ts i=some t):∃ v,atI vs i=some v/\Rep K F t v:=by unfold dA at h;obtain ⟨j,h1,h2⟩:=obs h;obtain ⟨v,h3,h4⟩:=r.get h2;refine ⟨v,?_,h4⟩;unfold atI;rw [r.length];exact fA.mpr ⟨j,h1,h3⟩
theorem NK {prog:Program} {w:World} {A:Around} {E:Vq} {s:Shared} {value slice:Expr} {o i:Value} {T id:String} {Q:Vq}
  (hl:typeLookup (.type T) "__getitem__"=pure (some (.builtin id))) (hs:subscripted slice false o i=operate [o,i] (getItem o i)) (hT:s.TypeIs o T) (h:wpAny (model prog w) A (getItem o i) Q E s) :
  wpAny (model prog w) A (subscriptTail value slice o i) Q E s:=by
 unfold subscriptTail;refine aA ?_;rw [getitemInPython_of_ne hT.not_modules];refine aA (wpAny_specialOf hT hl ?_);have fin:wpAny (model prog w) A (subscripted slice false o i) (fun r qz=>wpAny (model prog w) A (letTemporaryGo value o r >>= fun _=>pure r) Q E qz) E s:=by rw [hs];exact wpAny_operating (jO h (fun r qz h₃=>aA (wpAny_letTemporaryGo (aI h₃))) fun _ _ x=>x)
 first
  | exact aI (aA fin)
  | exact aA (aI (aA fin))
  | exact aA fin
theorem AJ {κ:Type} [DecidableEq κ] {K:W.Frag} {F:Hp}:∀ {ws:List (κ × V)} {ts:List T} {k:κ} {t:T},aF K F ts (ws.map (·.2))->fG (ws.map (·.1)) ts k=some t->∃ v,cM ws k=some v/\Rep K F t v
 | [],_,_,_,_,h=>by simp [fG] at h
 | p::ws,[],_,_,r,_=>by cases r
 | p::ws,u::ts,k,t,r,h=>by
  obtain ⟨v,vr,e,r1,r2⟩:=r;rw [aS] at e;injection e with e1 e2;rw [aS,fG] at h;by_cases hk:p.1=k
  .rw [if_pos hk] at h;cases h;exact ⟨p.2,iR hk,by rw [e1];exact r1⟩
  .rw [if_neg hk] at h;rw [iS hk];exact AJ (by rw [e2];exact r2) h
theorem ixs (hu:X.A.units+1<cLine):IxR X (fun x y H Q=>∃ F t1 t2 t,Same F H/\Rep X.K F t1 x/\Rep X.K F t2 y/\aK t1 t2=some t/\∀ v F' H',Step F H F' H'->Rep X.K F' t v->Q v H'):=by
 intro value slice pj s O H x y v u Q I rx ry h hs;obtain ⟨F,t1,t2,t,fh,r1,r2,ht,q⟩:=h;cases t1 with
 | tup ts =>
  cases t2 with
  | int i =>cases r2;obtain ⟨p,vs,rfl,h1,h2⟩:=r1;obtain ⟨w,h3,h4⟩:=AI h2 ht;exact KZ value slice pj s O H _ _ v u Q I rx ry ⟨p,vs,i,w,rfl,rfl,dQ fh h1,h3,q _ F H (Step.refl fh) h4⟩ hs
  | _=>cases ht
 | lst ts =>
  cases t2 with
  | int i =>cases r2;obtain ⟨p,vs,rfl,h1,h2⟩:=r1;obtain ⟨w,h3,h4⟩:=AI h2 ht;exact KY value slice pj s O H _ _ v u Q I rx ry ⟨p,vs,i,w,rfl,rfl,(Ls.same fh h1).sq,h3,q _ F H (Step.refl fh) h4⟩ hs
  | _=>cases ht
 | dt ks us =>
  cases t2 with
  | tup xs =>
   obtain ⟨k,h1,h2⟩:=obs ht;obtain ⟨a,ws,rfl,g1,g2,g3⟩:=r1;obtain ⟨b,vs,rfl,g4,g5⟩:=r2;cases rx;cases ry;subst g2;obtain ⟨w,w1,w2⟩:=AJ g3 h2;have eb:=lX g5 h1;subst eb;have g:cB H a (.ref b) (some w):=by rw [<- w1];exact cB.tr (jW fh g1) (fh _ _ g4)
   exact NK PySem.F.slot_dict_getitem.lookup hs (MH I g) (MD hu I g rfl fun w' s3 I3 rw'=>⟨w,H,I3,rw',q _ F H (Step.refl fh) w2⟩)
  | _=>cases ht
 | _=>cases t2<;>cases ht
theorem NM (hu:X.A.units+1<cLine) (ha:Oke X c a f) (hb:Oke X c b g) (hs:tN b):Oke X c (.Subscript a b pos) (fun r=>(f r).bind fun x=>(g r).bind fun y=>aK x y):=by refine fM (KW (ixs hu) ha hb hs) fun O H Q q=>?_;obtain ⟨r,F,t,e,ht,q⟩:=q;obtain ⟨t1,e1,ht⟩:=obs ht;obtain ⟨t2,e2,ht⟩:=obs ht;refine ⟨r,F,t1,e,e1,fun v1 F1 H1 s1 r1=>⟨r,F1,t2,e.step s1,e2,fun v2 F2 H2 s2 r2=>?_⟩⟩;exact ⟨F2,t1,t2,t,s2.fh,r1.mono s2.ff,r2,ht,fun v F' H' s3 r3=>q v F' H' (s1.trans (s2.trans s3)) r3⟩
theorem AK {F:Hp} {ts:List T} {vs:List V} (r:aF K F ts vs) (lo hi:Option Int):aF K F (cut ts lo hi) (jT vs lo hi):=by
 unfold cut jT;have e:∀ (n d:Nat) (o:Option Int),HT.sIx n d o=gP n d o:=fun n d o=>by cases o<;>rfl
 rw [e,e,r.length];exact (r.drop _).take _
theorem sls:SlR X (fun x lo hi H Q=>∃ F t1 t,Same F H/\Rep X.K F t1 x/\gQ t1 lo hi=some t/\∀ v F' H',Step F H F' H'->Rep X.K F' t v->Q v H'):=by
 intro pj s O H x v vl vu lo hi sl Q I rx hs pl pu h;obtain ⟨F,t1,t,fh,r1,ht,q⟩:=h;cases t1 with
 | tup ts =>
  simp only [gQ] at ht;cases ht;obtain ⟨p,vs,rfl,h1,h2⟩:=r1;have e:∀ (n d:Nat) (o:Option Int),HT.sIx n d o=gP n d o:=fun n d o=>by cases o<;>rfl
  by_cases hw:gP ts.length 0 lo=0/\gP ts.length ts.length hi=ts.length
  .refine LQ pj s O H _ v vl vu lo hi sl Q I rx hs pl pu ⟨p,vs,rfl,dQ fh h1,by rw [e,e,h2.length];exact hw,?_⟩;have ec:cut ts lo hi=ts:=by unfold cut;rw [hw.1,hw.2];simp
   exact q _ F H (Step.refl fh) ⟨p,vs,rfl,h1,by rw [ec];exact h2⟩
  .refine KS pj s O H _ v vl vu lo hi sl Q I rx hs pl pu ⟨p,vs,rfl,dQ fh h1,by rw [e,e,h2.length];exact hw,fun p' hp=>?_⟩;have st:=(Step.refl fh).new (o:=.tup (jT vs lo hi)) hp;exact q _ _ _ st ⟨p',_,rfl,cC,(AK h2 lo hi).mono st.ff⟩
 | lst ts =>simp only [gQ] at ht;cases ht;obtain ⟨p,vs,rfl,h1,h2⟩:=r1;refine LC pj s O H _ v vl vu lo hi sl Q I rx hs pl pu ⟨p,vs,rfl,(Ls.same fh h1).sq,fun p' hp=>?_⟩;have st:=(Step.refl fh).new (o:=.lst (jT vs lo hi)) hp;exact q _ _ _ st ⟨p',_,rfl,Ls.of cC,(AK h2 lo hi).mono st.ff⟩
 | _=>simp [gQ] at ht
def spO (X:Cx) (c:Tc) (f:Env->Option (Option T)):TO:=fun O H Q=>∃ r F o,EnvE X c r F O H/\(f r).bind asI=some o/\∀ F' H',Step F H F' H'->Q o H'
theorem AM {e:Option Expr} {t t':TO} (h:PO X e t) (m:∀ O H Q,t' O H Q->t O H Q):PO X e t':=fun pj s O H Q I q=>h pj s O H Q I (m O H Q q)
theorem NN:PO X none (spO X c fun _=>some none):=by refine AM KP fun O H Q q=>?_;obtain ⟨r,F,o,e,ht,q⟩:=q;cases ht;exact q F H (Step.refl e.fh)
theorem NO (h:Oke X c a f):PO X (some a) (spO X c fun r=>(f r).map some):=by
 refine AM (KQ h) fun O H Q q=>?_;obtain ⟨r,F,o,e,ht,q⟩:=q;obtain ⟨o',e1,ht⟩:=obs ht;obtain ⟨t,e2,rfl⟩:=oms e1;refine ⟨r,F,t,e,e2,fun v F' H' s1 r1=>?_⟩;cases t with
 | int i=>cases ht;cases r1;exact ⟨i,rfl,q F' H' s1⟩
 | _=>cases ht
theorem NP {lo hi:Option Expr} {g h:Env->Option (Option T)} {p2:Pos} (ha:Oke X c a f) (hl:PO X lo (spO X c g)) (hh:PO X hi (spO X c h)) :
  Oke X c (.Subscript a (.Slice lo hi none p2) pos) (fun r=>(f r).bind fun x=>(g r).bind fun l=>(h r).bind fun u=>(asI l).bind fun l'=>(asI u).bind fun u'=>gQ x l' u'):=by
 refine fM (KR sls ha hl hh) fun O H Q q=>?_;obtain ⟨r,F,t,e,ht,q⟩:=q;obtain ⟨t1,e1,ht⟩:=obs ht;obtain ⟨l,e2,ht⟩:=obs ht;obtain ⟨u,e3,ht⟩:=obs ht;obtain ⟨l',e4,ht⟩:=obs ht;obtain ⟨u',e5,ht⟩:=obs ht;refine ⟨r,F,t1,e,e1,fun v1 F1 H1 s1 r1=>⟨r,F1,l',e.step s1,fA.mpr ⟨l,e2,e4⟩,fun F2 H2 s2=>⟨r,F2,u',e.step (s1.trans s2),fA.mpr ⟨u,e3,e5⟩,fun F3 H3 s3=>?_⟩⟩⟩;exact ⟨F3,t1,t,s3.fh,r1.mono (s2.trans s3).ff,ht,fun v F' H' s4 r4=>q v F' H' (s1.trans (s2.trans (s3.trans s4))) r4⟩
theorem AN {t:T} {v:V} (h:PE X a (tC v)) (r:∀ F,Rep X.K F t v):Oke X c a (fun _=>some t):=by refine fM h fun O H Q q=>?_;obtain ⟨r',F,t',e,ht,q⟩:=q;cases ht;exact q v F H (Step.refl e.fh) (r F)
theorem NQ {G:Glo} (gd:Gd X c G k) {x:Str} {i:Nat} (hp:bZ x=true) (hv:dG c.sc x=true) (hi:bY c.nm x=some i):Oke X c (.Name x pos) (fun r=>(r[i]?).join):=by
 have hpn:=hp;simp only [bZ,Bool.and_eq_true,Bool.not_eq_true'] at hp;intro pj s O H Q I q;obtain ⟨r,F,t,e,ht,q⟩:=q;have ht:(r[i]?).join=some t:=ht;have ht':r[i]?=some (some t):=by
  cases h:r[i]? with
  | none=>rw [h] at ht;cases ht
  | some o=>rw [h] at ht;cases o with
   | none=>cases ht
   | some z=>cases ht;rfl
 obtain ⟨j,v,h1,h2,h3⟩:=e.get x i t hpn hi hv ht';exact lO h1 (gd.vis x hv) hp.1.1.1 hp.1.1.2 pj s O H Q I ⟨v,h2,q v F H (Step.refl e.fh) h3⟩
theorem NR (ha:Oke X c a f):Oke X c (.UnaryOp .Not a pos) (fun r=>(f r).bind fun x=>match x with | .bl b=>some (.bl (!b)) | _=>none):=by
 refine fM (IL ha) fun O H Q q=>?_;obtain ⟨r,F,t,e,ht,q⟩:=q;obtain ⟨t1,e1,ht⟩:=obs ht;cases t1 with
 | bl b=>cases ht;exact ⟨r,F,_,e,e1,fun v F' H' s1 r1=>by cases r1;exact ⟨b,rfl,q _ F' H' s1 rfl⟩⟩
 | _=>cases ht
theorem NS (ha:Oke X c a f):Oke X c (.UnaryOp .USub a pos) (fun r=>(f r).bind fun x=>match x with | .int i=>some (.int (-i)) | _=>none):=by
 refine fM (JE JL ha) fun O H Q q=>?_;obtain ⟨r,F,t,e,ht,q⟩:=q;obtain ⟨t1,e1,ht⟩:=obs ht;cases t1 with
 | int b=>cases ht;exact ⟨r,F,_,e,e1,fun v F' H' s1 r1=>by cases r1;exact ⟨b,rfl,q _ F' H' s1 rfl⟩⟩
 | _=>cases ht
theorem NT (ha:Oke X c a f) (hb:Oke X c (.BoolOp .And (b::rest) pos) g):Oke X c (.BoolOp .And (a::b::rest) pos) (fun r=>(f r).bind fun x=>match x with | .bl true=>g r | .bl false=>some (.bl false) | _=>none):=by
 refine fM (IJ ha hb) fun O H Q q=>?_;obtain ⟨r,F,t,e,ht,q⟩:=q;obtain ⟨t1,e1,ht⟩:=obs ht;cases t1 with
 | bl d =>
  refine ⟨r,F,_,e,e1,fun v F' H' s1 r1=>?_⟩;cases r1;cases d with
  | true=>exact ⟨true,rfl,qQ ⟨r,F',t,e.step s1,ht,fun v2 F2 H2 s2 r2=>q v2 F2 H2 (s1.trans s2) r2⟩⟩
  | false=>cases ht;exact ⟨false,rfl,qP (q _ F' H' s1 rfl)⟩
 | _=>cases ht
theorem NU (ha:Oke X c a f) (hb:Oke X c (.BoolOp .Or (b::rest) pos) g):Oke X c (.BoolOp .Or (a::b::rest) pos) (fun r=>(f r).bind fun x=>match x with | .bl true=>some (.bl true) | .bl false=>g r | _=>none):=by
 refine fM (IK ha hb) fun O H Q q=>?_;obtain ⟨r,F,t,e,ht,q⟩:=q;obtain ⟨t1,e1,ht⟩:=obs ht;cases t1 with
 | bl d =>
  refine ⟨r,F,_,e,e1,fun v F' H' s1 r1=>?_⟩;cases r1;cases d with
  | true=>cases ht;exact ⟨true,rfl,qQ (q _ F' H' s1 rfl)⟩
  | false=>exact ⟨false,rfl,qP ⟨r,F',t,e.step s1,ht,fun v2 F2 H2 s2 r2=>q v2 F2 H2 (s1.trans s2) r2⟩⟩
 | _=>cases ht
abbrev Okw (X:Cx) (c:Tc) (e:Expr) (f:Env->Option T):Prop:=PW X e (spB X c f)
theorem NV (ha:Okt X c a f) (hb:Okw X c (.BoolOp .And (b::rest) pos) g):Okw X c (.BoolOp .And (a::b::rest) pos) (fun r=>(f r).bind fun x=>match x with | .bl true=>g r | .bl false=>some (.bl false) | _=>none):=by
 refine zK (ID ha hb) fun O H Q q=>?_;obtain ⟨r,F,k,e,ht,q⟩:=q;obtain ⟨t1,e1,ht⟩:=obs ht;cases t1 with
 | bl d =>
  refine ⟨r,F,d,e,e1,fun F' H' s1=>?_⟩;cases d with
  | true=>exact qQ ⟨r,F',k,e.step s1,ht,fun F2 H2 s2=>q F2 H2 (s1.trans s2)⟩
  | false=>cases ht;exact qP (q F' H' s1)
 | _=>cases ht
theorem NW (ha:Okt X c a f) (hb:Okw X c (.BoolOp .Or (b::rest) pos) g):Okw X c (.BoolOp .Or (a::b::rest) pos) (fun r=>(f r).bind fun x=>match x with | .bl true=>some (.bl true) | .bl false=>g r | _=>none):=by
 refine zK (IE ha hb) fun O H Q q=>?_;obtain ⟨r,F,k,e,ht,q⟩:=q;obtain ⟨t1,e1,ht⟩:=obs ht;cases t1 with
 | bl d =>
  refine ⟨r,F,d,e,e1,fun F' H' s1=>?_⟩;cases d with
  | true=>cases ht;exact qQ (q F' H' s1)
  | false=>exact qP ⟨r,F',k,e.step s1,ht,fun F2 H2 s2=>q F2 H2 (s1.trans s2)⟩
 | _=>cases ht
theorem NX (ha:Okt X c a f):Okt X c (.UnaryOp .Not a pos) (fun r=>(f r).bind fun x=>match x with | .bl b=>some (.bl (!b)) | _=>none):=by
 refine uA (IF ha) fun O H Q q=>?_;obtain ⟨r,F,k,e,ht,q⟩:=q;obtain ⟨t1,e1,ht⟩:=obs ht;cases t1 with
 | bl d =>refine ⟨r,F,d,e,e1,fun F' H' s1=>?_⟩;cases ht;exact q F' H' s1
 | _=>cases ht
theorem NY {F H:Hp} {t:T} {v:V} {b:Bool} (fh:Same F H) (r:Rep K F t v) (h:gR t=some b):tI K v H b:=by
 cases t with
 | non=>cases r;cases h;rfl
 | bl _=>cases r;cases h;rfl
 | int _=>cases r;cases h;rfl
 | str _=>cases h
 | tup ts =>obtain ⟨p,vs,rfl,h1,h2⟩:=r;cases h;refine .inr (.inl ⟨vs,dQ fh h1,?_⟩);have e:=h2.length;cases vs<;>cases ts<;>first | rfl | simp at e
 | lst ts =>obtain ⟨p,vs,rfl,h1,h2⟩:=r;cases h;refine .inl ⟨vs,(Ls.same fh h1).sq,?_⟩;have e:=h2.length;cases vs<;>cases ts<;>first | rfl | simp at e
 | dk _ _=>cases h
 | dt _ _=>cases h
theorem NZ (ha:Oke X c a f) (he:∀ whole,isTrue a X.env whole=(do let v <- whole;standAt a.pos;holding [v] (truthy v))):Okt X c a (fun r=>(f r).bind fun x=>(gR x).map .bl):=by refine uA (JW ha he) fun O H Q q=>?_;obtain ⟨r,F,k,e,ht,q⟩:=q;obtain ⟨t1,e1,ht⟩:=obs ht;obtain ⟨b,e2,h2⟩:=oms ht;cases h2;exact ⟨r,F,t1,e,e1,fun v F' H' s1 r1=>⟨k,NY s1.fh r1 e2,q F' H' s1⟩⟩
theorem uE {t t':TA} (h:PA X es t) (m:∀ O H Q,t' O H Q->t O H Q):PA X es t':=fun p pj s O H Q I q=>h p pj s O H Q I (m O H Q q)
theorem uF:PA X [] (spL X c fun _=>some []):=by refine uE tK fun O H Q q=>?_;obtain ⟨r,F,ts,e,ht,q⟩:=q;cases ht;exact q [] F H (Step.refl e.fh) rfl
theorem oH {g:Env->Option (List T)} (ha:Oke X c a f) (hr:PA X es (spL X c g)) (hs:starEach (a::es) X.env=(false,eval a X.env)::starEach es X.env):PA X (a::es) (spL X c fun r=>(f r).bind fun x=>(g r).bind fun xs=>some (x::xs)):=by refine uE (tL ha hr hs) fun O H Q q=>?_;obtain ⟨r,F,ts,e,ht,q⟩:=q;obtain ⟨t1,e1,ht⟩:=obs ht;obtain ⟨t2,e2,ht⟩:=obs ht;cases ht;exact ⟨r,F,t1,e,e1,fun v1 F1 H1 s1 r1=>⟨r,F1,t2,e.step s1,e2,fun vs F2 H2 s2 r2=>q _ F2 H2 (s1.trans s2) ⟨v1,vs,rfl,r1.mono s2.ff,r2⟩⟩⟩
theorem OA {g:Env->Option (List T)} (h:PA X es (spL X c g)) (hl:∀ r ts,g r=some ts->ts.length=n):Oke X c (.Tuple es k pos) (fun r=>if n<=1000 then (g r).map .tup else none):=by
 refine fM (JY h) fun O H Q q=>?_;obtain ⟨r,F,t,e,ht,q⟩:=q;split at ht
 .rename_i hn;obtain ⟨ts,e1,rfl⟩:=oms ht;refine ⟨r,F,ts,e,e1,fun vs F' H' s1 r1=>⟨by rw [r1.length,hl r ts e1];exact Nat.le_of_lt (zB hn),fun p hp=>?_⟩⟩;have st:=s1.new (o:=.tup vs) hp;exact q _ _ _ st ⟨p,vs,rfl,cC,r1.mono (gU (s1.fh.free hp))⟩
 .cases ht
def spN (X:Cx) (c:Tc) (f:Env->Option T):TE:=fun O H Q=>∃ r F ts,EnvE X c r F O H/\f r=some (.lst ts)/\∀ p vs F' H1,Step F H F' H1->H1 p=none->aF X.K F' ts vs->Q (.ref p) (aP H1 p (.lst vs))
theorem AO {g:Env->Option (List T)} (h:PA X es (spL X c g)) (hl:∀ r ts,g r=some ts->ts.length=n):PE X (.List es pos) (spN X c (fun r=>if n<=1000 then (g r).map .lst else none)):=by
 refine fM (yL h) fun O H Q q=>?_;obtain ⟨r,F,t,e,ht,q⟩:=q;split at ht
 .rename_i hn;obtain ⟨ts,e1,e2⟩:=oms ht;cases e2;exact ⟨r,F,t,e,e1,fun vs F' H' s1 r1=>⟨by rw [r1.length,hl r t e1];exact Nat.le_of_lt (zB hn),fun p hp=>q p vs F' H' s1 hp r1⟩⟩
 .cases ht
theorem OB {g:Env->Option (List T)} (h:PA X es (spL X c g)) (hl:∀ r ts,g r=some ts->ts.length=n):Oke X c (.List es pos) (fun r=>if n<=1000 then (g r).map .lst else none):=by
 refine fM (AO h hl) fun O H Q q=>?_;obtain ⟨r,F,t,e,ht,q⟩:=q;have ht':=ht;split at ht
 .obtain ⟨ts,e1,rfl⟩:=oms ht;refine ⟨r,F,ts,e,ht',fun p vs F' H' s1 hp r1=>?_⟩;exact q _ _ _ (s1.new hp) ⟨p,vs,rfl,Ls.of cC,r1.mono (gU (s1.fh.free hp))⟩
 .cases ht
theorem OC {G:Glo} (gd:Gd X c G k) {f:Str} {g:Env->Option (List T)} {p:Pos} (hg:glB c.sc f=true) (hp:bZ f=true) (h:PA X (a::es) (spL X c g)) (he:starEach (a::es) X.env=(false,eval a X.env)::starEach es X.env)
  (hpl:(backTo pos (starEach es X.env)).any (·.1)=false):Oke X c (.Call (.Name f p) (a::es) [] pos) (fun r=>(g r).bind fun xs=>G.call f xs):=by
 simp only [bZ,Bool.and_eq_true,Bool.not_eq_true'] at hp;intro pj s O H Q I q;obtain ⟨r,F,t,e,ht,q⟩:=q;obtain ⟨ts,e1,ht⟩:=obs ht;obtain ⟨ad,fd,ps,h1,h2,h3,h4⟩:=gd.call f ts t (by rw [tZ,hp.2.2.1,hp.2.2.2];rfl) ht;refine KB h1 gd.room (gd.gl f hg) h2 h3 h4 .nil LJ h hp.1.1.1 he hpl pj s O H Q I ?_;refine ⟨r,F,ts,e,e1,fun vs F' H' s1 r1=>?_⟩;show spT X.K (G.call f) (vs++[]) H' Q E0;rw [eO];exact ⟨F',ts,t,s1.fh,e.tb.up s1,r1,ht,fun v F2 H2 s2 r2=>q v F2 H2 (s1.trans s2) r2⟩
end
end
end Ev
namespace L2
open PySem
section
variable {l:Addr} {items:Array Value} {Q:Vq}
open AutoSeq1 (wpAny_loadPart')
section
variable {prog:Program} {w:World} {A:Around} {E:Vq} {s:Shared}
theorem OD {it:Addr} {i:Nat} {x:Value} (hit:s.heap.IsTupleIter it l i)
  (hl:s.heap.IsTuple l items) (hx:items[i]?=some x)
  (hQ:∀ h',h'.IsTupleIter it l (i+1)->Heap.SameBut it s.heap h'->Q x { s with heap:=h' }) :
  wpAny (model prog w) A (Builtin.SmallTypes.nextOf (.ref it)) Q E s:=by
 obtain ⟨o,ho,hc,hd⟩:=id hit;obtain ⟨ol,hol,_,nl,hdl⟩:=hl;unfold Builtin.SmallTypes.nextOf;refine aA (iO (name:=Str.ofString "__next__") hit.typeIs F.slot_tuple_iterator_next
  (fF F.slot_tuple_iterator_next hit.typeIs F.entry_tuple_iterator_next ?_ (F.args_tuple_iterator_next_1 _)))
 show wpAny _ _ (field (.ref it) 0 >>= _) _ _ s;refine aA (eM ho hd (x:=.ref l) rfl ?_);show wpAny _ _ (if (Value.ref l==Value.none)=true then _ else _) _ _ s;rw [if_neg (show ¬ ((Value.ref l==Value.none)=true) from dI)];show wpAny _ _ (field (.ref it) 1 >>= _) _ _ s;refine aA (eM ho hd (x:=.int i 0) rfl ?_);show wpAny _ _ (seqItems? (.ref l) >>= _) _ _ s;refine aA (jA hol hdl ?_);simp only [Int.toNat_natCast,hx];refine wpAny_bind (wpAny_setField ho hd (by simp) (wpAny_pure ⟨x,rfl,wpAny_pure (hQ _ ?_ (kF ..))⟩));exact ⟨_,Heap.get?_update_self _ ho (Obj.isFreed_of_fields (nW hd _)),(Obj.cls_mapFields ..).trans hc,by rw [nW hd];simp [rawInt]⟩
theorem OE {it:Addr} {i:Nat} (hh:A.handled=none)
  (hit:s.heap.IsTupleIter it l i) (hl:s.heap.IsTuple l items) (hx:items[i]?=none)
  (hE:∀ h' e,Heap.ExtBut it s.heap h'->(∃ o,h'.get? e=some o/\o.cls=.type "StopIteration")->E (.ref e) { s with heap:=h' }) :
  wpAny (model prog w) A (Builtin.SmallTypes.nextOf (.ref it)) Q E s:=by
 obtain ⟨o,ho,hc,hd⟩:=id hit;obtain ⟨ol,hol,_,nl,hdl⟩:=hl;unfold Builtin.SmallTypes.nextOf;refine aA (iO (name:=Str.ofString "__next__") hit.typeIs F.slot_tuple_iterator_next
  (fF F.slot_tuple_iterator_next hit.typeIs F.entry_tuple_iterator_next ?_ (F.args_tuple_iterator_next_1 _)))
 show wpAny _ _ (field (.ref it) 0 >>= _) _ _ s;refine aA (eM ho hd (x:=.ref l) rfl ?_);show wpAny _ _ (if (Value.ref l==Value.none)=true then _ else _) _ _ s;rw [if_neg (show ¬ ((Value.ref l==Value.none)=true) from dI)];show wpAny _ _ (field (.ref it) 1 >>= _) _ _ s;refine aA (eM ho hd (x:=.int i 0) rfl ?_);show wpAny _ _ (seqItems? (.ref l) >>= _) _ _ s;refine aA (jA hol hdl ?_);simp only [Int.toNat_natCast,hx]
 first
  | refine wpAny_bind (wpAny_rule (wpAny_bind (wpAny_setField ho hd (by simp) (wpAny_bind (wpAny_letGo ?_)))))
  | refine wpAny_bind (wpAny_rule (wpAny_bind (wpAny_setField ho hd (by simp) ?_)))
 show wpAny _ _ (newExc (.type "StopIteration") [] >>= _) _ _ _;refine aA ?_;simp only [newExc,newTuple];refine aA (iP ?_ (by size_fits));refine wpAny_bind (m:=firstArgMember _ _) (wpAny_of_eq (a:=Value.none) (by first | rfl | (simp only [firstArgMember];rfl)) ?_);refine iP ?_ (by size_fits);simp only [raiseNew];refine aA (wpAny_handled ?_)
 first | rw [show A.in1.handled=none from hh] | rw [hh]
 refine aA (aI (wpAny_throw ?_));exact hE _ _ (((kF ..).extBut.push _).push _) ⟨_,cX _ rfl,rfl⟩
end
theorem uG {prog:Program} {w:World} {A:Around} (hh:A.handled=none) (it l:Addr) (hne:l≠it) (items:Array Value) :
  Draws prog w A it [it,l] items.size (fun i v=>items[i]?=some v) (fun i h=>h.IsTupleIter it l i/\h.IsTuple l items) where
 live:=fun _ _ st=>let ⟨o,ho,_⟩:=st.1;⟨o,ho⟩
 frame:=fun _ _ _ st hk=>⟨let ⟨o,ho,r⟩:=st.1;⟨o,hk it (by simp) o ho,r⟩,let ⟨o,ho,r⟩:=st.2;⟨o,hk l (by simp) o ho,r⟩⟩
 item:=fun i s Q E hi st hQ=>by refine OD st.1 st.2 (x:=items[i]) (by simp [hi]) fun h' hit' hs'=>?_;exact hQ _ h' s.toks (by simp [hi]) ⟨hit',let ⟨o,ho,r⟩:=st.2;⟨o,hs'.extBut l o hne ho,r⟩⟩ hs'
 done:=fun s Q E st hE=>OE hh st.1 st.2 (by simp) hE
theorem OG (l:Addr) (items:Array Value) (n:Nat) (dct:Option Addr) (sl:Array (Option Value)) :
  Meets (Builtin.«enumerate.__new__» ⟨[.type "enumerate",.ref l],[]⟩) (fun _ R s=>s.heap.get? l=some { cls:=.type "tuple",dict:=dct,data:=.seq items n,slots:=sl } /\
   R (.ok (.ret (.ref (s.heap.push { cls:=.type "tuple_iterator",data:=.fields #[.ref l,.int 0 0] }).objs.size)))
    { s with heap:=(s.heap.push { cls:=.type "tuple_iterator",data:=.fields #[.ref l,.int 0 0] }).push { cls:=.type "enumerate",data:=.fields #[.none,.bool false,.ref s.heap.objs.size,rawInt 0,.none,.none] } }) :=
 .of_wp fun prog w A R s h=>by
  obtain ⟨hp,g,d,tk,os⟩:=s;obtain ⟨hl,h⟩:=h;have hsub:=sub_enumerate;have hL:Heap.IsTuple (Shared.heap ⟨hp,g,d,tk,os⟩) l items:=⟨_,hl,rfl,n,rfl⟩
  wp_walk using wpAny_loadPart' hl
  refine wpAny_stack_any fun st=>aI ?_;split
  .rename_i c _ _ _ _ _;cases (c==Value.type "enumerate")
   .wp_walk using wpAny_loadPart' hl,nU hL
    exact ⟨_,rfl,h⟩
   .wp_walk using wpAny_loadPart' hl,nU hL
    exact ⟨_,rfl,h⟩
  .wp_walk using wpAny_loadPart' hl,nU hL
   exact ⟨_,rfl,h⟩
section
variable {prog:Program} {w:World} {A:Around} {E:Vq} {s:Shared}
theorem OH (hL:s.heap.IsTuple l items)
  (h:∀ h',IsEnum h' (s.heap.objs.size+1) s.heap.objs.size 0 .none->h'.IsTupleIter s.heap.objs.size l 0->h'.objs.size=s.heap.objs.size+2 ->
   (∀ b o,s.heap.get? b=some o->h'.get? b=some o)->Q (.ref (s.heap.objs.size+1)) { s with heap:=h' }) :
  wpAny (model prog w) A (call (.type "enumerate") [.ref l]) Q E s:=by
 obtain ⟨⟨c,dct,dt,sl⟩,hl,hc,n,hd⟩:=hL;replace hc:c=.type "tuple":=hc;replace hd:dt=.seq items n:=hd;subst hc hd;refine callType_new F.called_enumerate (by decide) (F.typeCall_enumerate_1 _) (F.newCall_enumerate_1 _) (fun obj=>F.args_object_init_2 obj _) F.entry_enumerate_new
  (OG l items n dct sl) ⟨hl,?_⟩
 have hz:(s.heap.push { cls:=.type "tuple_iterator",data:=.fields #[.ref l,.int 0 0] }).objs.size=s.heap.objs.size+1:=gA ..;show _/\_;rw [hz];have he:IsEnum ((s.heap.push { cls:=.type "tuple_iterator",data:=.fields #[.ref l,.int 0 0] }).push
   { cls:=.type "enumerate",data:=.fields #[.none,.bool false,.ref s.heap.objs.size,rawInt 0,.none,.none] }) (s.heap.objs.size+1) s.heap.objs.size 0 .none:=by
  have:=cX (s.heap.push { cls:=.type "tuple_iterator",data:=.fields #[.ref l,.int 0 0] })
   (o:={ cls:=.type "enumerate",data:=.fields #[.none,.bool false,.ref s.heap.objs.size,rawInt 0,.none,.none] }) rfl
  rw [hz] at this;exact this
 refine ⟨⟨_,he,rfl⟩,h _ he ⟨_,aU _ (cX _ rfl),rfl,rfl⟩ (by rw [gA,hz]) fun b o x=>aU _ (aU _ x)⟩
end
end
section
open PySem Spec PyProof.Rows
theorem AQ {env:PySem.Env}:∀ (names:List (Str × NameKind)) (x:Str),
  (names.map fun (n,k)=>if (k==NameKind.free&&env.scope.kind==.function&&env.kindOf n==some .cell) then (n,NameKind.cell) else (n,k)).lookup x =
   (match names.lookup x with | some .free=>if (env.scope.kind==.function&&env.kindOf x==some .cell) then some .cell else some .free | o=>o)
 | [],_=>rfl
 | (n,k)::r,x=>by
  rw [aS];cases hx:x==n with
  | false =>
   have e:∀ k',List.lookup x ((n,k')::(r.map fun (n,k)=>if (k==NameKind.free&&env.scope.kind==.function&&env.kindOf n==some .cell) then (n,NameKind.cell) else (n,k)))=List.lookup x (r.map fun (n,k)=>if (k==NameKind.free&&env.scope.kind==.function&&env.kindOf n==some .cell) then (n,NameKind.cell) else (n,k)):=fun k'=>by rw [iE,hx]
   have e2:List.lookup x ((n,k)::r)=List.lookup x r:=by rw [iE,hx]
   rw [e2,<- AQ r x];show List.lookup x ((if (k==NameKind.free&&env.scope.kind==.function&&env.kindOf n==some .cell)=true then (n,NameKind.cell) else (n,k))::_)=_;by_cases hc:(k==NameKind.free&&env.scope.kind==.function&&env.kindOf n==some .cell)=true
   .rw [if_pos hc];exact e _
   .rw [if_neg hc];exact e _
  | true =>
   have en:x=n:=mO.mp hx;subst en;have e2:List.lookup x ((x,k)::r)=some k:=by rw [iE,jN]
   rw [e2];have e:∀ k',List.lookup x ((x,k')::(r.map fun (n,k)=>if (k==NameKind.free&&env.scope.kind==.function&&env.kindOf n==some .cell) then (n,NameKind.cell) else (n,k)))=some k':=fun k'=>by rw [iE,jN]
   cases k<;>simp only [beq_self_eq_true,Bool.true_and,Bool.false_and,Bool.false_eq_true,if_false,show (NameKind.local==NameKind.free)=false from rfl,show (NameKind.cell==NameKind.free)=false from rfl,show (NameKind.globalExplicit==NameKind.free)=false from rfl,show (NameKind.globalImplicit==NameKind.free)=false from rfl]<;>first | exact e _ | (split<;>exact e _)
def eX (sc:Scope) (N:List Str):List Str:=N.filter fun y=>sc.names.lookup y==some .free
def eU (sc:Scope):List Str->St->St
 | x::N,o::O=>if sc.names.lookup x==some .free then o::eU sc N O else eU sc N O
 | _,_=>[]
theorem AR (sc:Scope):∀ (N:List Str) (O:St),O.length=N.length->(eU sc N O).length=(eX sc N).length
 | [],[],_=>rfl
 | [],_::_,h=>by simp at h
 | _::_,[],h=>by simp at h
 | x::N,o::O,h=>by
  unfold eU eX;rw [iM];have ih:=AR sc N O (by simpa using h);unfold eX at ih;split
  .simp [ih]
  .exact ih
theorem AS (sc:Scope) {x:Str} (hx:sc.names.lookup x=some .free):∀ (N:List Str) (O:St),O.length=N.length->∀ {j:Nat} {v:V},N[j]?=some x->O[j]?=some (some v)->∃ (i:Nat),(eX sc N)[i]?=some x/\(eU sc N O)[i]?=some (some v)
 | [],[],_,j,v,h1,h2=>by simp at h1
 | [],_::_,h,_,_,_,_=>by simp at h
 | _::_,[],h,_,_,_,_=>by simp at h
 | y::N,o::O,h,0,v,h1,h2=>by
  simp at h1 h2;subst h1 h2;refine ⟨0,?_,?_⟩
  .unfold eX;rw [iM,if_pos (by rw [hx];rfl)];rfl
  .unfold eU;rw [if_pos (by rw [hx];rfl)];rfl
 | y::N,o::O,h,j+1,v,h1,h2=>by
  obtain ⟨i,h3,h4⟩:=AS sc hx N O (by simpa using h) (j:=j) (v:=v) (by simpa using h1) (by simpa using h2);unfold eX at h3 ⊢;rw [iM];unfold eU;split
  .exact ⟨i+1,by simpa using h3,by simpa using h4⟩
  .exact ⟨i,h3,h4⟩
theorem uH (sc:Scope):∀ (N:List Str) (O:St) {i:Nat} {x:Str} {v:V},(eX sc N)[i]?=some x->(eU sc N O)[i]?=some (some v)->O.length=N.length->sc.names.lookup x=some .free/\∃ (j:Nat),N[j]?=some x/\O[j]?=some (some v)
 | [],_,i,x,v,h1,_,_=>by unfold eX at h1;simp at h1
 | _::_,[],_,_,_,_,_,h=>by simp at h
 | y::N,o::O,i,x,v,h1,h2,h=>by
  unfold eX at h1;rw [iM] at h1;unfold eU at h2;by_cases hy:(sc.names.lookup y==some .free)=true
  .rw [if_pos hy] at h1 h2;cases i with
   | zero =>simp at h1 h2;subst h1 h2;exact ⟨by simpa using hy,0,rfl,rfl⟩
   | succ i =>obtain ⟨h3,j,h4,h5⟩:=uH sc N O (i:=i) (by simpa [eX] using h1) (by simpa using h2) (by simpa using h);exact ⟨h3,j+1,by simpa using h4,by simpa using h5⟩
  .rw [if_neg hy] at h1 h2;obtain ⟨h3,j,h4,h5⟩:=uH sc N O (i:=i) (by simpa [eX] using h1) h2 (by simpa using h);exact ⟨h3,j+1,by simpa using h4,by simpa using h5⟩
def blk (X:Cx) (pj:Pq) (scope:Scope) (xs:List Str) (fp:List Addr) (qz:Shared) (qy:Hp):Cx where
 prog:=X.prog
 w:=X.w
 K:=X.K
 mg:=X.mg
 base:=X.base
 A:=X.A
 N:=xs++eX scope X.N
 s₀:=qz
 H₀:=qy
 env:={ scope:=relabel scope X.env,locals:=qz.heap.objs.size,globals:=X.env.globals,cells:=cellsFrom (qz.heap.objs.size+1) scope.names (gS X.env scope.names []),qual:=X.env.qual,func:=none,code:=X.env.code,frame:=X.env.frame,builtins:=X.env.builtins }
 outer:=X.stack
 stack:=X.stack
 ex:=fp
 fn:=fun x=>scope.names.lookup x==some .cell
 calm:=X.calm
 pn:=X.pn++pj
 xe:=fun _ _=>False
structure CompSc (X:Cx) (scope:Scope) (xs:List Str):Prop where
 kind:scope.kind=.function
 nd:xs.Nodup
 own:∀ x∈xs,scope.names.lookup x=some .local\/scope.names.lookup x=some .cell
 free:∀ y∈scope.names,y.2=.free->scope.names.lookup y.1=some .free/\(X.env.kindOf y.1=some .cell\/X.env.kindOf y.1=some .free)
 loc:∀ y∈scope.names,y.2=.local->scope.names.lookup y.1=some .local
 cel:∀ y∈scope.names,y.2=.cell->scope.names.lookup y.1=some .cell
section
variable {X:Cx} {pj:Pq} {scope:Scope} {xs:List Str} {fp:List Addr} {qz:Shared} {qy:Hp} {O:St}
theorem CompSc.has (S:CompSc X scope xs) (ok:X.Ok):∀ y∈scope.names,y.2=.free->∃ c,X.env.cells.lookup y.1=some c:=fun y hy hf=>ok.has y.1 (S.free y hy hf).2
theorem nB (scope:Scope) (X:Cx) (pj:Pq) (xs:List Str) (fp:List Addr) (qz:Shared) (qy:Hp) (x:Str):(blk X pj scope xs fp qz qy).env.scope.names.lookup x =
  (match scope.names.lookup x with | some .free=>if (X.env.scope.kind==.function&&X.env.kindOf x==some .cell) then some .cell else some .free | o=>o):=AQ scope.names x
theorem oI (S:CompSc X scope xs) (ok:X.Ok) {x:Str} {c:Addr} (h:(blk X pj scope xs fp qz qy).env.cells.lookup x=some c) :
  (qz.heap.objs.size+1<=c/\(x,c)∈cellsFrom (qz.heap.objs.size+1) scope.names []/\(x,NameKind.cell)∈scope.names)\/((cellsFrom (qz.heap.objs.size+1) scope.names []).lookup x=none/\X.env.cells.lookup x=some c):=by
 rcases LN h with h | ⟨h1,h2⟩
 .obtain ⟨h1,h2⟩:=qZ scope.names _ h;exact .inl ⟨h1,h,h2⟩
 .exact .inr ⟨h1,qX scope.names [] (fun _ _ e=>by cases e) (S.has ok) x c h2⟩
theorem nC {l:List (Str × NameKind)} {x:Str} {k:NameKind} (h:l.lookup x=some k):(x,k)∈l:=PySem.mem_of_lookup h
theorem AT (S:CompSc X scope xs) (I:Inv X pj O qy qz) (ff:∀ b∈fp,fD X pj qy b) (fl:∀ b∈fp,b<qz.heap.objs.size):(blk X pj scope xs fp qz qy).Ok where
 mod:=I.ok.mod
 kind:=S.kind
 glob:=I.ok.glob
 blt:=I.ok.blt
 above:=aV _
 inj:=fun x y c h1 h2=>by
  have up:∀ {z:Str} {c:Addr},X.env.cells.lookup z=some c->c<qz.heap.objs.size:=fun {z c} h=>by obtain ⟨v,q⟩:=I.cell z c h;exact q.lt
  rcases oI S I.ok h1 with ⟨a1,a2,_⟩ | ⟨_,a2⟩<;>rcases oI S I.ok h2 with ⟨b1,b2,_⟩ | ⟨_,b2⟩
  .have ok:=cellsFrom_ok scope.names (qz.heap.push { cls:=.type "dict",data:=.dict #[] }) (qz.heap.objs.size+1) [] ⟨fun _ _ hm=>(nomatch hm),List.Pairwise.nil⟩ (by rw [gA];exact aV _);rw [gA] at ok;exact name_of_addr ok.apart a2 b2
  .exact absurd (eJ (up b2) (Nat.le_of_succ_le a1)) (gB _)
  .exact absurd (eJ (up a2) (Nat.le_of_succ_le b1)) (gB _)
  .exact I.ok.inj x y c a2 b2
 has:=fun x h=>by
  have h':(blk X pj scope xs fp qz qy).env.scope.names.lookup x=some .cell\/(blk X pj scope xs fp qz qy).env.scope.names.lookup x=some .free:=h;rw [nB] at h';have key:(x,NameKind.cell)∈scope.names\/(x,NameKind.free)∈scope.names:=by
   cases e:scope.names.lookup x with
   | none=>rw [e] at h';rcases h' with h' | h'<;>cases h'
   | some k =>
    rw [e] at h';cases k with
    | cell=>exact .inl (nC e)
    | free=>exact .inr (nC e)
    | _=>rcases h' with h' | h'<;>cases h'
  refine Option.isSome_iff_exists.mp (rA scope.names _ _ ?_);rcases key with k | k
  .exact .inl k
  .exact .inr (qY scope.names [] (.inl k))
 cab:=fun x c hf h=>by
  have hf':scope.names.lookup x=some .cell:=by simpa [blk] using hf
  have hs:=rA (x:=x) scope.names (qz.heap.objs.size+1) [] (.inl (nC hf'));rcases oI S I.ok h with ⟨a1,_⟩ | ⟨a1,_⟩
  .exact Nat.le_of_lt (eJ (Nat.lt_succ_self _) a1)
  .rw [a1] at hs;cases hs
 hd:=I.ok.hd
 frames:=I.ok.frames
 stk:=.inl rfl
 exf:=fun b hb=>⟨cY (fl b hb),fun x c h=>by
  rcases oI S I.ok h with ⟨a1,_⟩ | ⟨_,a2⟩
  .exact fun z=>by have h1:=fl b hb;rw [<- z] at h1;exact absurd (eJ h1 (Nat.le_of_succ_le a1)) (gB _)
  .exact (ff b hb).2.2.2.2.1 x c a2⟩
 bs:=I.bs
 bsz:=cG I.ok.bsz I.sz
 noex:=fun b o e hb=>by
  obtain ⟨_,_,_,h4,_⟩:=ff b hb;rcases h4 with h4 | h4
  .exact I.ok.noex b o e h4
  .exact absurd (eJ (aX (I.ok.bs b o e).1) h4) (gB _)
 exfs:=fun b hb hf=>by
  rcases omc (I.stkSub b hf) with z | z
  .exact (ff b hb).2.1 z
  .exact (ff b hb).2.2.1 z
 funs:=I.stack
 frf:=I.stkFree
def pN (scope:Scope) (xs:List Str) (N:List Str) (O:St):St:=List.replicate xs.length none++eU scope N O
theorem OI (S:CompSc X scope xs) (I:Inv X pj O qy qz) (ff:∀ b∈fp,fD X pj qy b) (fl:∀ b∈fp,b<qz.heap.objs.size) :
  Inv (blk X pj scope xs fp qz qy) [] (pN scope xs X.N O) qy { qz with heap:=pushCells (qz.heap.push { cls:=.type "dict",data:=.dict #[] }) scope.names }:=by
 have keep:∀ b o,qz.heap.get? b=some o->(pushCells (qz.heap.push { cls:=.type "dict",data:=.dict #[] }) scope.names).get? b=some o:=fun b o e=>pushCells_keeps _ _ b o (aU _ e);have cok:=cellsFrom_ok scope.names (qz.heap.push { cls:=.type "dict",data:=.dict #[] }) (qz.heap.objs.size+1) [] ⟨fun _ _ hm=>(nomatch hm),List.Pairwise.nil⟩ (by rw [gA];exact aV _);rw [gA] at cok;have hlen:O.length=X.N.length:=I.len;refine ⟨AT S I ff fl,rfl,I.bare,Un.kept keep,⟨fun _=>none,(Heap.Ns.new qz.heap (.type "dict")).keeps (pushCells_keeps _ _),fun i x v e1 e2 e3=>?_⟩,fun x c h=>?_,I.fresh,fun x c h=>?_,fun p hp=>?_,I.hok.kept keep,?_⟩
 .have hi:xs.length<=i:=by refine Nat.le_of_not_lt fun hlt=>?_;unfold pN at e2;rw [pA (by simpa using hlt),List.getElem?_replicate] at e2;split at e2<;>cases e2
  have e1':(eX scope X.N)[i-xs.length]?=some x:=by have e1:(xs++eX scope X.N)[i]?=some x:=e1;rw [yA hi] at e1;exact e1
  have e2':(eU scope X.N O)[i-xs.length]?=some (some v):=by unfold pN at e2;rw [oZ (by simpa using hi)] at e2;simpa using e2
  obtain ⟨hf,j,h1,h2⟩:=uH scope X.N O e1' e2' hlen;have hm:=nC hf;have hk:=(S.free _ hm rfl).2;obtain ⟨m,hn,hl⟩:=I.loc;obtain ⟨u,r,l⟩:=hl j x v h1 h2 (hk.elim (fun z=>.inr (.inl z)) fun z=>.inr (.inr z));refine ⟨u,r,?_⟩;rcases l with ⟨k,_⟩ | ⟨k,c,hc,z⟩
  .rcases hk with hk | hk<;>rw [hk] at k<;>cases k
  .refine .inr ⟨?_,c,?_,?_⟩
   .show (blk X pj scope xs fp qz qy).env.scope.names.lookup x=_\/(blk X pj scope xs fp qz qy).env.scope.names.lookup x=_;rw [nB,hf];dsimp only;split
    .exact .inl rfl
    .exact .inr rfl
   .show (cellsFrom (qz.heap.objs.size+1) scope.names (gS X.env scope.names [])).lookup x=some c;have e0:(cellsFrom (qz.heap.objs.size+1) scope.names []).lookup x=none:=by
     cases q:(cellsFrom (qz.heap.objs.size+1) scope.names []).lookup x with
     | none=>rfl
     | some d =>have:=S.cel _ (qZ scope.names _ (PySem.mem_of_lookup q)).2 rfl;rw [hf] at this;cases this
    rw [oD,List.lookup_append,e0,LM (S.has I.ok) hm];exact hc
   .obtain ⟨o,ho,hd⟩:=z;exact ⟨o,keep c o ho,hd⟩
 .rcases oI S I.ok h with ⟨_,a2,_⟩ | ⟨_,a2⟩
  .exact ⟨_,(cok.empty x c a2).1⟩
  .obtain ⟨v,o,ho,hd⟩:=I.cell x c a2;exact ⟨v,o,keep c o ho,hd⟩
 .rcases oI S I.ok h with ⟨a1,_⟩ | ⟨_,a2⟩
  .exact I.hok.fresh (by lia)
  .exact I.freeC x c a2
 .have hp':p∈X.pn++pj:=by have hp:p∈(X.pn++pj)++[]:=hp;rw [eO] at hp;exact hp
  obtain ⟨e,n,ne,nf,d⟩:=I.pin p hp';refine ⟨keep p.1 p.2 e,n,cY (aX e),fun z=>?_,d⟩;rcases omc (I.stkSub p.1 z) with q | q
  .exact ne q
  .exact nf q
 .unfold pN;show _=(xs++eX scope X.N).length;rw [dW,dW,List.length_replicate,AR scope X.N O hlen]
theorem OJ {elt iter tg:Expr} {ifs:List Expr} {pos:Pos} {J:It} {it:Addr} {tn:Nat->Heap->Prop} {H2:Hp} {s2:Shared} {E:Vq} {g:Shared->Hp->TG} {tc:Shared->Hp->TT} {te:Shared->Hp->TE}
  (hc:X.calm=true) (S:CompSc X scope xs) (I2:Inv X pj O H2 s2) (T:Turn X.prog X.w X.K tg J fp it tn) (st2:tn 0 s2.heap) (f2:∀ b∈fp,fD X pj H2 b)
  (hg:∀ qz qy,(blk X pj scope xs fp qz qy).Ok->PG (blk X pj scope xs fp qz qy) tg (g qz qy))
  (hi:∀ qz qy,(blk X pj scope xs fp qz qy).Ok->∀ (pn:Pq) (s:Shared) (O:St) (H:Hp) (Q:Bool->Hp->Prop),Inv (blk X pj scope xs fp qz qy) pn O H s->tc qz qy O H Q ->
   wpAny (model X.prog X.w) X.A (forIn ifs true fun c r=>if r=true then do let ok <- isTrue c (blk X pj scope xs fp qz qy).env (eval c (blk X pj scope xs fp qz qy).env);pure (ForInStep.yield ok) else pure (ForInStep.yield r)) (TP (blk X pj scope xs fp qz qy) pn O Q) (fun _ _=>False) s)
  (he:∀ qz qy,(blk X pj scope xs fp qz qy).Ok->PE (blk X pj scope xs fp qz qy) elt (te qz qy))
  (W:Addr->Nat->Nat->St->Hp->Prop) (R:Addr->Hp->Prop)
  (start:∀ D,H2 D=none->∃ m,W D 0 m (pN scope xs X.N O) (aP H2 D (.lst [])))
  (turn:∀ qz qy D i m O' H',(blk X pj scope xs fp qz qy).Ok->W D i m O' H'->(J.stop i H'/\R D H')\/(J.go i H'/\∃ N:St->Hp->Prop,(∀ O'' H'',N O'' H''->∃ m',m'<m/\W D (i+1) m' O'' H'') /\
   ∀ x H5,J.yld i H' x H5->g qz qy x O' H5 fun O2 H6=>tc qz qy O2 H6 fun ok H7=>if ok=true then te qz qy O2 H7 fun y H8=>∃ ys,H8 D=some (.lst ys)/\ys.length<sizeLine/\N O2 (aP H8 D (.lst (ys++[y]))) else N O2 H7)) :
  wpAny (model X.prog X.w) X.A (newList []) (fun acc qz=>wpAny (model X.prog X.w) X.A (newFunctionEnv scope X.env.globals (gS X.env scope.names []) [] X.env.qual none .none (some X.env)) (fun cenv s₄ =>
   codeAny (model X.prog X.w) X.A (.compStart (.ListComp elt [⟨tg,iter,ifs,0⟩] scope pos) 0 (.ref it) acc { cenv with scope:=relabel scope X.env })
    (fun r s'=>r=.ok .next/\∃ D H',acc=.ref D/\Inv X pj O H' s'/\fD X pj H' cenv.locals/\(∃ m,s'.heap.Ns cenv.locals m)/\R D H') s₄) E qz) E s2:=by
 refine iP ?_ (by size_fits);have I3:Inv X pj O (aP H2 s2.heap.objs.size (.lst [])) { s2 with heap:=s2.heap.push { cls:=.type "list",data:=.seq ([]:List Value).toArray } }:=I2.lnew (t':=s2.toks) (ys:=[]) (qc:=[]) .nil (eK _);have hD:H2 s2.heap.objs.size=none:=I2.fresh;have fl2:∀ b∈fp,b<s2.heap.objs.size:=fun b hb=>by obtain ⟨o,e,_⟩:=T.obj 0 _ st2 b hb;exact aX e
 have hsz:(s2.heap.push { cls:=.type "list",data:=.seq ([]:List Value).toArray }).objs.size=s2.heap.objs.size+1:=gA ..;have f3:∀ b∈fp,fD X pj (aP H2 s2.heap.objs.size (.lst [])) b:=fun b hb=>⟨by rw [aR (cY (fl2 b hb))];exact (f2 b hb).1,(f2 b hb).2⟩;have fl3:∀ b∈fp,b<(s2.heap.push { cls:=.type "list",data:=.seq ([]:List Value).toArray }).objs.size:=fun b hb=>by rw [hsz];exact Nat.lt_succ_of_lt (fl2 b hb)
 refine LO ?_;generalize hs3:({ s2 with heap:=s2.heap.push { cls:=.type "list",data:=.seq ([]:List Value).toArray } }:Shared)=s3 at I3 fl3 ⊢;have fl3:∀ b∈fp,b<s3.heap.objs.size:=by rw [<- hs3];exact fl3
 have st3:tn 0 s3.heap:=T.keep 0 _ _ st2 fun b _ o e=>by rw [<- hs3];exact aU _ e
 generalize hH3:aP H2 s2.heap.objs.size (.lst [])=H3 at I3 f3;obtain ⟨m0,w0⟩:=start s2.heap.objs.size hD;rw [hH3] at w0;generalize hDD:s2.heap.objs.size=D at w0;have BOk:=AT (fp:=fp) S I3 f3 fl3;have I4:=OI (fp:=fp) S I3 f3 fl3;have hg':=hg s3 H3 BOk;have hi':=hi s3 H3 BOk;have he':=he s3 H3 BOk;have st4:tn 0 (pushCells (s3.heap.push { cls:=.type "dict",data:=.dict #[] }) scope.names):=T.keep 0 _ _ st3 fun b _ o e=>pushCells_keeps _ _ b o (aU _ e);have stat:∀ {H':Hp} {pn:Pq},pn=[]->(∀ b∈fp,H' b=none)->∀ b∈fp,fD (blk X pj scope xs fp s3 H3) pn H' b:=fun {H' pn} hp hn b hb=>by subst hp;refine ⟨hn b hb,(BOk.exf b hb).1,BOk.exfs b hb,.inl hb,(BOk.exf b hb).2,fun p hp=>?_⟩;have hp:p∈(X.pn++pj)++[]:=hp;rw [eO] at hp;exact (f3 b hb).2.2.2.2.2 p hp
 have loop:codeAny (model X.prog X.w) X.A (.compLoop (.ListComp elt [⟨tg,iter,ifs,0⟩] scope pos) 0 (.ref it) (.ref D) (blk X pj scope xs fp s3 H3).env)
   (fun r s'=>r=.ok .next/\∃ D' H',Value.ref D=.ref D'/\Inv X pj O H' s'/\fD X pj H' s3.heap.objs.size/\(∃ m,s'.heap.Ns s3.heap.objs.size m)/\R D' H') { s3 with heap:=pushCells (s3.heap.push { cls:=.type "dict",data:=.dict #[] }) scope.names }:=by
  refine codeAny_loop rfl (fun n s'=>∃ i O' H',Inv (blk X pj scope xs fp s3 H3) [] O' H' s'/\tn i s'.heap/\(∀ b∈fp,H' b=none)/\W D i n O' H') ?_ m0 ⟨0,_,_,I4,st4,fun b hb=>(f3 b hb).1,w0⟩;rintro n s5 ⟨i,O5,H5,I5,st5,fr5,w5⟩;show wpAny _ X.A ((compTurn (.ListComp elt [⟨tg,iter,ifs,0⟩] scope pos) 0 (.ref it) (.ref D) (blk X pj scope xs fp s3 H3).env).onRaise (fun x=>do noteFrame x (blk X pj scope xs fp s3 H3).env;theTreesLotGoes x)) _ _ s5;refine wpAny_noted ?_;rw [compTurn_list];refine aA (wpAny_standAt (aA ?_));rcases turn s3 H3 D i n O5 H5 BOk w5 with ⟨stop,q⟩ | ⟨go,N,hN,step⟩
  .refine thn (T.done (blk X pj scope xs fp s3 H3) rfl rfl rfl hc i [] s5 O5 H5 _ I5 (stat rfl fr5) st5 stop) fun r s6 ⟨hr,I6⟩=>?_;subst hr;refine aI ⟨rfl,D,H5,rfl,?_,?_,?_,q⟩
   .exact I3.call' I6.os I6.base I6.hok I6.bare fun b hb=>⟨(f3 b hb).2.2.2.1,(f3 b hb).2.1,(f3 b hb).2.2.2.2.1,(f3 b hb).2.2.2.2.2⟩
   .exact I3.fpOk (aV _) I6.free
   .obtain ⟨m,hn,_⟩:=I6.loc;exact ⟨m,hn⟩
  .refine thn (T.item (blk X pj scope xs fp s3 H3) rfl rfl rfl hc i [] s5 O5 H5 _ I5 (stat rfl fr5) st5 go) fun r s6 ⟨u,hr,h6⟩=>?_;subst hr;refine aA (thn h6 fun _ s7 ⟨x,H7,I7,r7,y7,st7,fr7⟩=>?_);have I7':=I7.pinned (stat rfl fr7) (T.obj _ _ st7);have hl:∀ {α:Type} {t:Sem α} {Q:α->Shared->Prop} {E':Vq} {s:Shared},wpAny (model X.prog X.w) X.A t Q (fun _ _=>False) s->wpAny (model X.prog X.w) X.A t Q E' s:=fun h=>jO h (fun _ _ q=>q) fun _ _ z=>False.elim z;refine aA (hl (thn (hg' _ s7 O5 H7 x u _ I7' r7 (step x H7 y7)) fun _ s8 ⟨O8,H8,I8,q8⟩=>?_));refine aA (hl (thn (hi' _ s8 O8 H8 _ I8 q8) fun ok s9 ⟨H9,I9,q9⟩=>?_));have again:∀ {O7:St} {H7':Hp} {s7':Shared},Inv (blk X pj scope xs fp s3 H3) ([]++pE fp s7.heap) O7 H7' s7'->N O7 H7'->∃ m,m<n/\∃ i O' H',Inv (blk X pj scope xs fp s3 H3) [] O' H' s7'/\tn i s7'.heap/\(∀ b∈fp,H' b=none)/\W D i m O' H':=fun {O7 H7' s7'} I8 n8=>by obtain ⟨m',hm,w8⟩:=hN O7 H7' n8;refine ⟨m',hm,i+1,O7,H7',I8.unpinned,T.keep _ _ _ st7 fun b hb o e=>(I8.pin (b,o) (fY _ (fY _ (qN hb e)))).1,fun b hb=>?_,w8⟩;obtain ⟨o,e,d⟩:=T.obj _ _ st7 b hb;exact (I8.pin (b,o) (fY _ (fY _ (qN hb e)))).2.1
   cases ok with
   | false =>rw [if_neg dI] at q9;exact aI ⟨rfl,again I9 q9⟩
   | true =>rw [if_pos rfl] at q9;refine aA (aA (hl (thn (he' _ s9 O8 H9 _ I9 q9) fun y s10 ⟨yv,H10,I10,r10,ys,e10,z10,q10⟩=>?_)));refine aA (hl (thn (tO (X:=blk X pj scope xs fp s3 H3) _ s10 O8 H10 (.ref D) [yv] (.ref D) [y] (fun _ H'=>N O8 H') I10 rfl (.cons r10 .nil) ⟨D,ys,yv,rfl,rfl,e10,z10,q10⟩) fun _ s11 ⟨_,H11,I11,_,q11⟩=>?_));exact aI (aI ⟨rfl,again I11 q11⟩)
 exact codeAny_compStart_list loop (T.self X.A 0 _ _ _ st4 loop)
end
end
section
open PySem Spec PyProof.Rows
variable {K:W.Frag} {elts:List Expr} {kx:Nat} {pos:Pos}
section
variable {X:Cx} {pj:Pq} {O:St} {H:Hp} {s:Shared} {h':Heap}
theorem Inv.turned2 {it e T:Addr} {xs:List V} {t':Nat} (I:Inv X pj O H s) (k:∀ b o,b≠e->b≠it->s.heap.get? b=some o->h'.get? b=some o) (fe:fD X pj H e) (fi:fD X pj H it)
  (hT:s.heap.objs.size<=T) (new:aN X.prog X.w (aP H T (.tup xs)) h' T (.tup xs)):Inv X pj O (aP H T (.tup xs)) { s with heap:=h',toks:=t' }:=by
 have hn:H T=none:=I.hok.fresh hT;have nT:∀ {b:Addr} {o:Obj},s.heap.get? b=some o->b≠T:=fun {b o} q=>cY (eJ (aX q) hT);have nch:∀ {b:Addr},b∉[e,it]->b≠e/\b≠it:=fun {b} h=>⟨fun z=>h (by simp [z]),fun z=>h (by simp [z])⟩;have nfp:∀ {b:Addr} {u:HO},H b=some u->b≠e/\b≠it:=fun {b u} q=>⟨fun z=>(by rw [z,fe.1] at q;cases q),fun z=>(by rw [z,fi.1] at q;cases q)⟩;refine I.step (g':=s.gens) (d':=s.drawn) (ch:=[e,it]) (fun b hb=>?_) (fun b o _ _ hc q _=>k b o (nch hc).1 (nch hc).2 q) (fun b o _ _ hc q _=>⟨o.slots,k b o (nch hc).1 (nch hc).2 q⟩)
  (fun b o hc q z=>by rw [aR (nT q)];exact z) (fun b o hc q=>⟨o,k b o (nch hc).1 (nch hc).2 q⟩)
  (fun b ys q=>by rw [aR (cS q hn)];exact q) (fun b o u q=>by rw [aR (cS q hn)];exact q) (fun b ps q=>⟨#[],by rw [aR (cS q hn),q];simp⟩) (fun m hm=>?_) (fun b u q=>?_) I.bare
 .rcases omc hb with z | z
  .rw [z];exact ⟨fe.2.2.2.1,fe.2.1,fe.2.2.2.2.1,fe.2.2.2.2.2⟩
  .rw [omg z];exact ⟨fi.2.2.2.1,fi.2.1,fi.2.2.2.2.1,fi.2.2.2.2.2⟩
 .obtain ⟨o,es,ep,ho,r⟩:=hm;exact ⟨o,es,ep,k _ o (Ne.symm fe.2.1) (Ne.symm fi.2.1) ho,r⟩
 .by_cases hb:b=T
  .subst hb;rw [cC] at q;cases q;exact new
  .rw [aR hb] at q;refine (I.hok b u q).stay (fun c v hc z=>?_) (fun c z=>by rw [aR (cS z hn)];exact z) fun c ys z=>by rw [aR (cS z hn)];exact z
   rcases hc with rfl | hc
   .exact k c v (nfp q).1 (nfp q).2 z
   .exact k c v (nfp hc).1 (nfp hc).2 z
end
def Ite (sq:Hp->Addr->List V->Prop) (a:Addr):It :=
 ⟨fun i H=>∃ xs x,sq H a xs/\xs[i]?=some x,fun i H x H'=>∃ p v,H p=none/\x=.ref p/\H'=aP H p (.tup [.int (i:Int),v])/\∀ xs,sq H a xs->xs[i]?=some v,fun i H=>∃ xs,sq H a xs/\xs.length=i⟩
theorem OL {P:Program} {w:World} (a it e:Addr) (hei:e≠it) :
  Turn P w K (.Tuple elts kx pos) (Ite (SqL K) a) [e,it] e (fun i h=>(∃ old,IsEnum h e it (i:Int) old)/\h.IsListIter it a i) where
 mem:=by simp
 obj:=fun i h st b hb=>by
  obtain ⟨⟨old,he⟩,o,ho,hc,hd⟩:=st;rcases omc hb with z | z
  .rw [z];exact ⟨_,he,fun v q=>by cases q⟩
  .rw [omg z];exact ⟨o,ho,fun v q=>by rw [hd] at q;cases q⟩
 keep:=fun i h h' st k=>by obtain ⟨⟨old,he⟩,o,ho,r⟩:=st;exact ⟨⟨old,k e (by simp) _ he⟩,o,k it (by simp) o ho,r⟩
 item:=by
  intro X hP hw hK hc i pj s O H E I hf st hg;subst hP hw hK;obtain ⟨xs,x,hq,hx⟩:=hg;obtain ⟨⟨old,he⟩,hit⟩:=st;obtain ⟨qc,rv,p,hz⟩:=I.list hq;obtain ⟨u,hu,ru⟩:=rv.get hx;have fe:=hf e (by simp);have fi:=hf it (by simp);obtain ⟨ol,hol,hcl,_⟩:=id p.isList;obtain ⟨oi,hoi,hci,_⟩:=id hit;have hai:a≠it:=fun z=>by rw [z,hoi] at hol;cases hol;rw [hci] at hcl;exact absurd hcl (by decide +kernel)
  have hae:e≠a:=fun z=>by have he':s.heap.get? e=_:=he;rw [z,hol] at he';cases he';exact absurd hcl (by show Value.type "enumerate"≠Value.type "list";decide +kernel)
  have D:=Draws.list (prog:=X.prog) (w:=X.w) (A:=X.A.in1) (show X.A.in1.handled=none from I.ok.hd hc) it a hai qc.toArray;have hlt:i<qc.toArray.size:=by have:=rv.length;have h2:=(ome hx).1;rw [cR];lia
  refine wpAny_pyNext_enum_itemD D he ⟨hit,p.isList⟩ hlt hei (fun z=>(omc z).elim hei fun q=>hae (omg q)) fun x' h1 tk hPx ho st1 hT hsz hk=>?_;refine ⟨_,rfl,wpAny_letOwnedTupleGo_enum ho fun h2 he2 hs2=>?_⟩;have hx':x'=u:=by
   have hPx:qc.toArray[i]?=some x':=hPx;have:qc[i]?=some x':=by simpa using hPx
   rw [hu] at this;exact (dE this).symm
  subst hx';have hk2:∀ b o,b≠e->b≠it->s.heap.get? b=some o->h2.get? b=some o:=fun b o hbe hbi q=>(hs2.2 b hbe).trans (hk b o hbe hbi q);have hTe:s.heap.objs.size≠e:=Nat.ne_of_gt (aX he);have I1:Inv X pj O (aP H s.heap.objs.size (.tup [.int (i:Int),x])) { s with heap:=h2,toks:=tk+1 }:=I.turned2 hk2 fe fi (aV _)
   ⟨by show 2<=sizeLine;decide,[.int (i:Int) tk,x'],.cons ⟨_,rfl⟩ (.cons ru .nil),⟨_,(hs2.2 _ hTe).trans hT,rfl,_,rfl⟩⟩
  refine ⟨.ref s.heap.objs.size,_,I1,rfl,⟨_,x,I.fresh,rfl,rfl,fun ys hy=>by rw [I.list_inj hy hq];exact hx⟩,⟨⟨_,by simpa using he2⟩,?_⟩,fun b hb=>?_⟩
  .obtain ⟨o,ho',r⟩:=st1.1;exact ⟨o,(hs2.2 it (Ne.symm hei)).trans ho',r⟩
  .have hb0:=(hf b hb).1;have hbl:b<s.heap.objs.size:=by
    rcases omc hb with z | z
    .rw [z];exact aX he
    .rw [omg z];exact aX hoi
   rw [aR (cY hbl)];exact hb0
 done:=by
  intro X hP hw hK hc i pj s O H E I hf st hg;subst hP hw hK;obtain ⟨xs,hq,hx⟩:=hg;obtain ⟨⟨old,he⟩,hit⟩:=st;obtain ⟨qc,rv,p,hz⟩:=I.list hq;obtain ⟨ol,hol,hcl,_⟩:=id p.isList;obtain ⟨oi,hoi,hci,_⟩:=id hit;have hai:a≠it:=fun z=>by rw [z,hoi] at hol;cases hol;rw [hci] at hcl;exact absurd hcl (by decide +kernel)
  have D:=Draws.list (prog:=X.prog) (w:=X.w) (A:=X.A.in1) (show X.A.in1.handled=none from I.ok.hd hc) it a hai qc.toArray;have hl:qc.toArray.size=i:=by rw [cR,<- rv.length];exact hx
  obtain ⟨f0,f1,f2,f3,f4,f5⟩:=hf it (by simp);refine wpAny_pyNext_enum_endD D he (by rw [hl];exact ⟨hit,p.isList⟩) fun h1 eb=>⟨rfl,I.turned (t':=s.toks) (fun b o hb q=>eb b o hb q) f0 f1 f3 f4 f5⟩
 self:=fun _ _ _ _ _ st h=>by obtain ⟨⟨old,he⟩,_⟩:=st;exact wpAny_pyIter_enum he h
theorem OM {P:Program} {w:World} (a it e:Addr) (hei:e≠it) :
  Turn P w K (.Tuple elts kx pos) (Ite (SqT K) a) [e,it] e (fun i h=>(∃ old,IsEnum h e it (i:Int) old)/\h.IsTupleIter it a i) where
 mem:=by simp
 obj:=fun i h st b hb=>by
  obtain ⟨⟨old,he⟩,o,ho,hc,hd⟩:=st;rcases omc hb with z | z
  .rw [z];exact ⟨_,he,fun v q=>by cases q⟩
  .rw [omg z];exact ⟨o,ho,fun v q=>by rw [hd] at q;cases q⟩
 keep:=fun i h h' st k=>by obtain ⟨⟨old,he⟩,o,ho,r⟩:=st;exact ⟨⟨old,k e (by simp) _ he⟩,o,k it (by simp) o ho,r⟩
 item:=by
  intro X hP hw hK hc i pj s O H E I hf st hg;subst hP hw hK;obtain ⟨xs,x,hq,hx⟩:=hg;obtain ⟨⟨old,he⟩,hit⟩:=st;obtain ⟨qc,rv,p,hz⟩:=I.tuple hq;obtain ⟨u,hu,ru⟩:=rv.get hx;have fe:=hf e (by simp);have fi:=hf it (by simp);obtain ⟨ol,hol,hcl,_⟩:=id p;obtain ⟨oi,hoi,hci,_⟩:=id hit;have hai:a≠it:=fun z=>by rw [z,hoi] at hol;cases hol;rw [hci] at hcl;exact absurd hcl (by decide +kernel)
  have hae:e≠a:=fun z=>by have he':s.heap.get? e=_:=he;rw [z,hol] at he';cases he';exact absurd hcl (by show Value.type "enumerate"≠Value.type "tuple";decide +kernel)
  have D:=uG (prog:=X.prog) (w:=X.w) (A:=X.A.in1) (show X.A.in1.handled=none from I.ok.hd hc) it a hai qc.toArray;have hlt:i<qc.toArray.size:=by have:=rv.length;have h2:=(ome hx).1;rw [cR];lia
  refine wpAny_pyNext_enum_itemD D he ⟨hit,(show s.heap.IsTuple a qc.toArray from p)⟩ hlt hei (fun z=>(omc z).elim hei fun q=>hae (omg q)) fun x' h1 tk hPx ho st1 hT hsz hk=>?_;refine ⟨_,rfl,wpAny_letOwnedTupleGo_enum ho fun h2 he2 hs2=>?_⟩;have hx':x'=u:=by
   have hPx:qc.toArray[i]?=some x':=hPx;have:qc[i]?=some x':=by simpa using hPx
   rw [hu] at this;exact (dE this).symm
  subst hx';have hk2:∀ b o,b≠e->b≠it->s.heap.get? b=some o->h2.get? b=some o:=fun b o hbe hbi q=>(hs2.2 b hbe).trans (hk b o hbe hbi q);have hTe:s.heap.objs.size≠e:=Nat.ne_of_gt (aX he);have I1:Inv X pj O (aP H s.heap.objs.size (.tup [.int (i:Int),x])) { s with heap:=h2,toks:=tk+1 }:=I.turned2 hk2 fe fi (aV _)
   ⟨by show 2<=sizeLine;decide,[.int (i:Int) tk,x'],.cons ⟨_,rfl⟩ (.cons ru .nil),⟨_,(hs2.2 _ hTe).trans hT,rfl,_,rfl⟩⟩
  refine ⟨.ref s.heap.objs.size,_,I1,rfl,⟨_,x,I.fresh,rfl,rfl,fun ys hy=>by rw [I.tuple_inj hy hq];exact hx⟩,⟨⟨_,by simpa using he2⟩,?_⟩,fun b hb=>?_⟩
  .obtain ⟨o,ho',r⟩:=st1.1;exact ⟨o,(hs2.2 it (Ne.symm hei)).trans ho',r⟩
  .have hb0:=(hf b hb).1;have hbl:b<s.heap.objs.size:=by
    rcases omc hb with z | z
    .rw [z];exact aX he
    .rw [omg z];exact aX hoi
   rw [aR (cY hbl)];exact hb0
 done:=by
  intro X hP hw hK hc i pj s O H E I hf st hg;subst hP hw hK;obtain ⟨xs,hq,hx⟩:=hg;obtain ⟨⟨old,he⟩,hit⟩:=st;obtain ⟨qc,rv,p,hz⟩:=I.tuple hq;obtain ⟨ol,hol,hcl,_⟩:=id p;obtain ⟨oi,hoi,hci,_⟩:=id hit;have hai:a≠it:=fun z=>by rw [z,hoi] at hol;cases hol;rw [hci] at hcl;exact absurd hcl (by decide +kernel)
  have D:=uG (prog:=X.prog) (w:=X.w) (A:=X.A.in1) (show X.A.in1.handled=none from I.ok.hd hc) it a hai qc.toArray;have hl:qc.toArray.size=i:=by rw [cR,<- rv.length];exact hx
  obtain ⟨f0,f1,f2,f3,f4,f5⟩:=hf it (by simp);refine wpAny_pyNext_enum_endD D he (by rw [hl];exact ⟨hit,(show s.heap.IsTuple a qc.toArray from p)⟩) fun h1 eb=>⟨rfl,I.turned (t':=s.toks) (fun b o hb q=>eb b o hb q) f0 f1 f3 f4 f5⟩
 self:=fun _ _ _ _ _ st h=>by obtain ⟨⟨old,he⟩,_⟩:=st;exact wpAny_pyIter_enum he h
section
variable {X:Cx} {tg:Expr}
theorem ON {l:Expr} {tl:TE} (hl:PE X l tl):PI X tg l (fun O H R=>tl O H fun x H1=>∃ a,x=.ref a/\((∃ xs,SqL X.K H1 a xs/\R (Itl X.K a) H1)\/∃ xs,SqT X.K H1 a xs/\R (Itt X.K a) H1)):=by
 intro pj s O H R I h;refine thn (hl pj s O H _ I h) fun v s1 ⟨x,H1,I1,r1,q1⟩=>?_;obtain ⟨a,e,q1⟩:=q1;subst e;cases r1;rcases q1 with ⟨xs,hq,q⟩ | ⟨xs,hq,q⟩
 .obtain ⟨qc,rv,p,hz⟩:=I1.list hq;refine wpAny_pyIter_list p.isList ?_;refine ⟨s1.heap.objs.size,[s1.heap.objs.size],_,_,H1,rfl,I1.kept (t':=s1.toks) fun b o e=>aU _ e,IX a _,⟨_,cX _ rfl,rfl,rfl⟩,fun b hb=>?_,q⟩;have e:b=s1.heap.objs.size:=by simpa using hb
  subst e;exact I1.fpOk (aV _) (I1.hok.fresh (aV _))
 .obtain ⟨qc,rv,p,hz⟩:=I1.tuple hq;refine nU (show s1.heap.IsTuple a qc.toArray from p) ?_;refine ⟨s1.heap.objs.size,[s1.heap.objs.size],_,_,H1,rfl,I1.kept (t':=s1.toks) fun b o e=>aU _ e,IY a _,⟨_,cX _ rfl,rfl,rfl⟩,fun b hb=>?_,q⟩;have e:b=s1.heap.objs.size:=by simpa using hb
  subst e;exact I1.fpOk (aV _) (I1.hok.fresh (aV _))
theorem OO {a:Expr} {ta:TA} {p p2:Pos} (hg:Gl X "enumerate") (hm:X.mg "enumerate"=none) (ha:PA X [a] ta) (hs:starEach [a] X.env=[(false,eval a X.env)]) :
  PI X (.Tuple elts kx p2) (.Call (.Name "enumerate" p) [a] [] pos) (fun O H R=>ta O H fun vs H1=>∃ a,vs=[.ref a]/\((∃ xs,SqL X.K H1 a xs/\R (Ite (SqL X.K) a) H1)\/∃ xs,SqT X.K H1 a xs/\R (Ite (SqT X.K) a) H1)):=by
 intro pj s O H R I h;refine Call_ (mQ I hg hm boot_enumerate (PyProof.Rows.callWith_type1 (thn (ha pos pj s O H _ I h) fun us s1 ⟨vs,H1,I1,r1,q1⟩=>?_) hs rfl));obtain ⟨l,e,q1⟩:=q1;subst e;obtain ⟨u,rfl,rx⟩:=jS r1;cases rx;have fin:∀ {h':Heap} {J:It} {tn:Nat->Heap->Prop},(∀ b o,s1.heap.get? b=some o->h'.get? b=some o)->h'.objs.size=s1.heap.objs.size+2 ->
   Turn X.prog X.w X.K (.Tuple elts kx p2) J [s1.heap.objs.size+1,s1.heap.objs.size] (s1.heap.objs.size+1) tn->tn 0 h'->R J H1->PIE X pj O (.Tuple elts kx p2) R (.ref (s1.heap.objs.size+1)) { s1 with heap:=h' }:=fun {h' J tn} hk hsz T st q=>by
  refine ⟨s1.heap.objs.size+1,[s1.heap.objs.size+1,s1.heap.objs.size],tn,J,H1,rfl,I1.kept (t':=s1.toks) hk,T,st,fun b hb=>?_,q⟩;rcases omc hb with z | z
  .rw [z];exact I1.fpOk (Nat.le_succ _) (I1.hok.fresh (Nat.le_succ _))
  .rw [omg z];exact I1.fpOk (aV _) (I1.hok.fresh (aV _))
 have hne:s1.heap.objs.size+1≠s1.heap.objs.size:=Nat.succ_ne_self _;rcases q1 with ⟨xs,hq,q⟩ | ⟨xs,hq,q⟩
 .obtain ⟨qc,rv,pl,hz⟩:=I1.list hq;refine call_enumerate_list pl.isList fun h' he hit hsz hk=>?_;exact wpAny_pyIter_enum (s:={ s1 with heap:=h' }) he (fin hk hsz (OL l s1.heap.objs.size (s1.heap.objs.size+1) hne) ⟨⟨_,by simpa using he⟩,hit⟩ q)
 .obtain ⟨qc,rv,pl,hz⟩:=I1.tuple hq;refine OH (show s1.heap.IsTuple l qc.toArray from pl) fun h' he hit hsz hk=>?_;exact wpAny_pyIter_enum (s:={ s1 with heap:=h' }) he (fin hk hsz (OM l s1.heap.objs.size (s1.heap.objs.size+1) hne) ⟨⟨_,by simpa using he⟩,hit⟩ q)
end
end
section
open PySem Spec PyProof.Rows
variable {Q:Vq}
structure ZAp (z TI TO j1 j2:Addr) (f1 f2:List Addr):Prop where
 nz:TI≠z/\TO≠z/\j1≠z/\j2≠z
 nT:TI≠TO/\TI≠j1/\TI≠j2
 nO:TO≠j1/\TO≠j2
 nj:j1≠j2
 fz:z∉f1/\z∉f2
 fO:TO∉f1/\TO∉f2
 fj:j2∉f1/\j1∉f2
section
variable {prog:Program} {w:World} {A:Around} {E:Vq} {s:Shared}
variable {z TI TO j1 j2:Addr} {f1 f2:List Addr} {n1 n2 k:Nat} {P1 P2:Nat->Value->Prop} {S1 S2:Nat->Heap->Prop} {a b:Value}
theorem OP (D1:Draws prog w A j1 f1 n1 P1 S1) (D2:Draws prog w A j2 f2 n2 P2 S2) (ap:ZAp z TI TO j1 j2 f1 f2)
  (hz:IsZip s.heap z TI TO .none) (hI:IsPair s.heap TI (.ref j1) (.ref j2)) (hO:IsPair s.heap TO a b) (t1:S1 k s.heap) (t2:S2 k s.heap) (l1:k<n1) (l2:k<n2)
  (hQ:∀ x y g tk,P1 k x->P2 k y->IsZip g z TI TO (rawInt s.heap.objs.size)->IsPair g TO x y->S1 (k+1) g->S2 (k+1) g->IsPair g s.heap.objs.size x y->g.objs.size=s.heap.objs.size+1 ->
   (∀ c o,c≠z->c≠TO->c≠j1->c≠j2->s.heap.get? c=some o->g.get? c=some o)->Q (.ref s.heap.objs.size) { s with heap:=g,toks:=tk }) :
  wpAny (model prog w) A (Builtin.«zip.__next__» ⟨[.ref z],[]⟩) (fun e s'=>∃ v,e=.done (.ret v)/\Q v s') E s:=by
 show wpAny _ _ (field (.ref z) 2 >>= _) _ _ s;refine aA (eM (x:=.bool false) hz rfl rfl ?_);show wpAny _ _ (field (.ref z) 3 >>= _) _ _ s;refine aA (eM (x:=.ref TI) hz rfl rfl (aA (jA hI rfl ?_)));show wpAny _ _ (Builtin.SmallTypes.ownedTupleIsFree (.ref z) >>= _) _ _ s;refine aA (show wpAny _ _ (Builtin.SmallTypes.ownedTupleIsFree (.ref z)) _ _ s from ?_);unfold Builtin.SmallTypes.ownedTupleIsFree;refine aA (eM (x:=.none) hz rfl rfl (aI ?_));simp only [if_true];refine aA (wpAny_rule (aA (eM (x:=.ref TO) hz rfl rfl ?_)));refine wpAny_bind (mN hz (by simp) fun g1 hz1 e1=>?_);replace hz1:IsZip g1 z TI TO .ellipsis:=hz1;refine aA (show wpAny _ _ _ _ _ _ from ?_);simp only [List.zipIdx_nil,List.zipIdx_cons,List.forIn_nil,List.forIn_cons];refine aA (aA (wpAny_onRaise ?_));show wpAny _ _ (Builtin.SmallTypes.nextOf (.ref j1) >>= _) _ _ { s with heap:=g1 };have q1:S1 k g1:=D1.frame _ _ _ t1 fun c hc o e=>e1.extBut _ _ (fun y=>ap.fz.1 (y▸hc)) e;refine aA (D1.item k _ _ _ l1 q1 fun x g2 tk2 hx u1 e2=>aI ?_);have hO2:IsPair g2 TO a b:=e2.extBut _ _ ap.nO.1 (e1.extBut _ _ ap.nz.2.1 hO);refine aA (jA hO2 rfl (aA (wpAny_updateSeq_pair hO2 fun g3 hO3 e3=>?_)));replace hO3:IsPair g3 TO x b:=hO3;refine aA (wpAny_letGo (aI (aA (aA (wpAny_onRaise ?_)))));show wpAny _ _ (Builtin.SmallTypes.nextOf (.ref j2) >>= _) _ _ { s with heap:=g3,toks:=tk2 };have q2:S2 k g3:=D2.frame _ _ _ t2 fun c hc o e=>e3.extBut _ _ (fun y=>ap.fO.2 (y▸hc)) (e2.extBut _ _ (fun y=>ap.fj.2 (y▸hc)) (e1.extBut _ _ (fun y=>ap.fz.2 (y▸hc)) e));refine aA (D2.item k _ _ _ l2 q2 fun y g4 tk4 hy u2 e4=>aI ?_);have hO4:IsPair g4 TO x b:=e4.extBut _ _ ap.nO.2 hO3;refine aA (jA hO4 rfl (aA (wpAny_updateSeq_pair hO4 fun g5 hO5 e5=>?_)));replace hO5:IsPair g5 TO x y:=hO5;refine aA (wpAny_letGo (aI (aI (aA (jA hO5 rfl (aA (wpAny_newTuple ?_)))))));have sz:g5.objs.size=s.heap.objs.size:=by rw [e5.1,e4.1,e3.1,e2.1,e1.1]
 have hz5:IsZip g5 z TI TO .ellipsis:=e5.extBut _ _ (Ne.symm ap.nz.2.1) (e4.extBut _ _ (Ne.symm ap.nz.2.2.2) (e3.extBut _ _ (Ne.symm ap.nz.2.1) (e2.extBut _ _ (Ne.symm ap.nz.2.2.1) hz1)));have k5:∀ c o,c≠z->c≠TO->c≠j1->c≠j2->s.heap.get? c=some o->g5.get? c=some o:=fun c o c1 c2 c3 c4 e=>e5.extBut _ _ c2 (e4.extBut _ _ c4 (e3.extBut _ _ c2 (e2.extBut _ _ c3 (e1.extBut _ _ c1 e))));have v1:S1 (k+1) g5:=D1.frame _ _ _ u1 fun c hc o e=>e5.extBut _ _ (fun y=>ap.fO.1 (y▸hc)) (e4.extBut _ _ (fun y=>ap.fj.1 (y▸hc)) (e3.extBut _ _ (fun y=>ap.fO.1 (y▸hc)) e));have v2:S2 (k+1) g5:=D2.frame _ _ _ u2 fun c hc o e=>e5.extBut _ _ (fun y=>ap.fO.2 (y▸hc)) e;have ltz:z<g5.objs.size:=aX hz5;show wpAny _ _ (Builtin.SmallTypes.ownedTupleHandOut (.ref z) (.ref g5.objs.size) >>= _) _ _ _;refine aA (show wpAny _ _ (Builtin.SmallTypes.ownedTupleHandOut (.ref z) (.ref g5.objs.size)) _ _ _ from ?_);unfold Builtin.SmallTypes.ownedTupleHandOut;have hz6:IsZip (g5.push { cls:=.type "tuple",data:=.seq #[x,y] }) z TI TO .ellipsis:=aU _ hz5;refine wpAny_bind (mN hz6 (by simp) fun g7 hz7 e7=>?_);replace hz7:IsZip g7 z TI TO (rawInt g5.objs.size):=hz7;refine mN hz7 (by simp) fun g8 hz8 e8=>?_;replace hz8:IsZip g8 z TI TO (rawInt g5.objs.size):=hz8;have up:∀ c o,c≠z->g5.get? c=some o->g8.get? c=some o:=fun c o c1 e=>e8.extBut _ _ c1 (e7.extBut _ _ c1 (aU _ e));have hT8:IsPair g8 g5.objs.size x y:=e8.extBut _ _ (Nat.ne_of_gt ltz) (e7.extBut _ _ (Nat.ne_of_gt ltz) (cX _ rfl));have sz8:g8.objs.size=g5.objs.size+1:=by rw [e8.1,e7.1,gA]
 rw [sz] at hz8 hT8 sz8;refine aI ⟨_,rfl,?_⟩;show Q (.ref g5.objs.size) { s with heap:=g8,toks:=tk4 };rw [sz];exact hQ x y g8 tk4 hx hy hz8 (up _ _ ap.nz.2.1 hO5) (D1.frame _ _ _ v1 fun c hc o e=>up c o (fun y=>ap.fz.1 (y▸hc)) e) (D2.frame _ _ _ v2 fun c hc o e=>up c o (fun y=>ap.fz.2 (y▸hc)) e) hT8 sz8
  fun c o c1 c2 c3 c4 e=>up c o c1 (k5 c o c1 c2 c3 c4 e)
theorem OQ {Q:Fin->Shared->Prop} (D1:Draws prog w A j1 f1 n1 P1 S1) (D2:Draws prog w A j2 f2 n2 P2 S2) (ap:ZAp z TI TO j1 j2 f1 f2)
  (hz:IsZip s.heap z TI TO .none) (hI:IsPair s.heap TI (.ref j1) (.ref j2)) (hO:IsPair s.heap TO a b) (t1:S1 k s.heap) (t2:S2 k s.heap) (hk:k=n1\/k<n1/\k=n2)
  (hE:∀ g e tk,(∀ c o,c≠z->c≠TO->c≠j1->c≠j2->s.heap.get? c=some o->g.get? c=some o)->(∃ o,g.get? e=some o/\o.cls=.type "StopIteration")->E (.ref e) { s with heap:=g,toks:=tk }) :
  wpAny (model prog w) A (Builtin.«zip.__next__» ⟨[.ref z],[]⟩) Q E s:=by
 show wpAny _ _ (field (.ref z) 2 >>= _) _ _ s;refine aA (eM (x:=.bool false) hz rfl rfl ?_);show wpAny _ _ (field (.ref z) 3 >>= _) _ _ s;refine aA (eM (x:=.ref TI) hz rfl rfl (aA (jA hI rfl ?_)));show wpAny _ _ (Builtin.SmallTypes.ownedTupleIsFree (.ref z) >>= _) _ _ s;refine aA (show wpAny _ _ (Builtin.SmallTypes.ownedTupleIsFree (.ref z)) _ _ s from ?_);unfold Builtin.SmallTypes.ownedTupleIsFree;refine aA (eM (x:=.none) hz rfl rfl (aI ?_));simp only [if_true];refine aA (wpAny_rule (aA (eM (x:=.ref TO) hz rfl rfl ?_)));refine wpAny_bind (mN hz (by simp) fun g1 hz1 e1=>?_);replace hz1:IsZip g1 z TI TO .ellipsis:=hz1;refine aA (show wpAny _ _ _ _ _ _ from ?_);simp only [List.zipIdx_nil,List.zipIdx_cons,List.forIn_nil,List.forIn_cons];refine aA (aA (wpAny_onRaise ?_));show wpAny _ _ (Builtin.SmallTypes.nextOf (.ref j1) >>= _) _ _ { s with heap:=g1 };have q1:S1 k g1:=D1.frame _ _ _ t1 fun c hc o e=>e1.extBut _ _ (fun y=>ap.fz.1 (y▸hc)) e;rcases hk with rfl | ⟨hlt,rfl⟩
 .refine aA (D1.done _ _ _ q1 fun g2 e e2 he=>?_);obtain ⟨oe,hoe,hce⟩:=he;have hz2:IsZip g2 z TI TO .ellipsis:=e2 _ _ (Ne.symm ap.nz.2.2.1) hz1;have ez:e≠z:=fun y=>by subst y;rw [hz2] at hoe;cases hoe;simp at hce
  exact mN hz2 (by simp) fun g3 _ e3=>hE g3 e s.toks (fun c o c1 _ c3 _ y=>e3.extBut _ _ c1 (e2 _ _ c3 (e1.extBut _ _ c1 y))) ⟨oe,e3.extBut _ _ ez hoe,hce⟩
 .refine aA (D1.item _ _ _ _ hlt q1 fun x g2 tk2 hx u1 e2=>aI ?_);have hO2:IsPair g2 TO a b:=e2.extBut _ _ ap.nO.1 (e1.extBut _ _ ap.nz.2.1 hO);refine aA (jA hO2 rfl (aA (wpAny_updateSeq_pair hO2 fun g3 hO3 e3=>?_)));refine aA (wpAny_letGo (aI (aA (aA (wpAny_onRaise ?_)))));show wpAny _ _ (Builtin.SmallTypes.nextOf (.ref j2) >>= _) _ _ { s with heap:=g3,toks:=tk2 };have q2:S2 k g3:=D2.frame _ _ _ t2 fun c hc o e=>e3.extBut _ _ (fun y=>ap.fO.2 (y▸hc)) (e2.extBut _ _ (fun y=>ap.fj.2 (y▸hc)) (e1.extBut _ _ (fun y=>ap.fz.2 (y▸hc)) e));refine aA (D2.done _ _ _ q2 fun g4 e e4 he=>?_);obtain ⟨oe,hoe,hce⟩:=he;have hz4:IsZip g4 z TI TO .ellipsis:=e4 _ _ (Ne.symm ap.nz.2.2.2) (e3.extBut _ _ (Ne.symm ap.nz.2.1) (e2.extBut _ _ (Ne.symm ap.nz.2.2.1) hz1));have ez:e≠z:=fun y=>by subst y;rw [hz4] at hoe;cases hoe;simp at hce
  exact mN hz4 (by simp) fun g5 _ e5=>hE g5 e tk2 (fun c o c1 c2 c3 c4 y=>e5.extBut _ _ c1 (e4 _ _ c4 (e3.extBut _ _ c2 (e2.extBut _ _ c3 (e1.extBut _ _ c1 y))))) ⟨oe,e5.extBut _ _ ez hoe,hce⟩
theorem AU {Q:Option Value->Shared->Prop} (D1:Draws prog w A.in1 j1 f1 n1 P1 S1) (D2:Draws prog w A.in1 j2 f2 n2 P2 S2) (ap:ZAp z TI TO j1 j2 f1 f2)
  (hz:IsZip s.heap z TI TO .none) (hI:IsPair s.heap TI (.ref j1) (.ref j2)) (hO:IsPair s.heap TO a b) (t1:S1 k s.heap) (t2:S2 k s.heap) (l1:k<n1) (l2:k<n2)
  (hQ:∀ x y g tk,P1 k x->P2 k y->IsZip g z TI TO (rawInt s.heap.objs.size)->IsPair g TO x y->S1 (k+1) g->S2 (k+1) g->IsPair g s.heap.objs.size x y->g.objs.size=s.heap.objs.size+1 ->
   (∀ c o,c≠z->c≠TO->c≠j1->c≠j2->s.heap.get? c=some o->g.get? c=some o)->Q (some (.ref s.heap.objs.size)) { s with heap:=g,toks:=tk }):wpAny (model prog w) A (pyNext (.ref z)) Q E s:=by
 have ty:s.TypeIs (.ref z) "zip":=⟨_,hz,rfl⟩;unfold pyNext;exact aA (lL (iO (name:=Str.ofString "__next__") ty F.slot_zip_next (fF F.slot_zip_next ty F.entry_zip_next
  (OP D1 D2 ap hz hI hO t1 t2 l1 l2 fun x y g tk b1 b2 b3 b4 b5 b6 b7 b8 b9=>aI (hQ x y g tk b1 b2 b3 b4 b5 b6 b7 b8 b9)) (F.args_zip_next_1 _))))
theorem AV {Q:Option Value->Shared->Prop} (D1:Draws prog w A.in1 j1 f1 n1 P1 S1) (D2:Draws prog w A.in1 j2 f2 n2 P2 S2) (ap:ZAp z TI TO j1 j2 f1 f2)
  (hz:IsZip s.heap z TI TO .none) (hI:IsPair s.heap TI (.ref j1) (.ref j2)) (hO:IsPair s.heap TO a b) (t1:S1 k s.heap) (t2:S2 k s.heap) (hk:k=n1\/k<n1/\k=n2)
  (hQ:∀ g tk,(∀ c o,c≠z->c≠TO->c≠j1->c≠j2->s.heap.get? c=some o->g.get? c=some o)->Q none { s with heap:=g,toks:=tk }):wpAny (model prog w) A (pyNext (.ref z)) Q E s:=by
 have ty:s.TypeIs (.ref z) "zip":=⟨_,hz,rfl⟩;unfold pyNext;refine aA (lL (iO (name:=Str.ofString "__next__") ty F.slot_zip_next (fF F.slot_zip_next ty F.entry_zip_next
  (OQ D1 D2 ap hz hI hO t1 t2 hk fun g e tk hc he=>?_) (F.args_zip_next_1 _))))
 obtain ⟨o,ho,hc2⟩:=he;exact aA (wpAny_isInstance (b:=true) (T:="StopIteration") ⟨o,ho,hc2⟩ isSubtype_stop (aI (hQ _ _ hc)))
end
abbrev rM (h:Heap) (l1:Addr):Heap:=h.push { cls:=.type "tuple_iterator",data:=.fields #[.ref l1,.int 0 0] }
abbrev rN (h:Heap) (l1 l2:Addr):Heap:=(rM h l1).push { cls:=.type "tuple_iterator",data:=.fields #[.ref l2,.int 0 0] }
abbrev rO (h:Heap) (l1 l2:Addr):Heap:=(rN h l1 l2).push { cls:=.type "tuple",data:=.seq #[.ref h.objs.size,.ref (rM h l1).objs.size] }
abbrev rP (h:Heap) (l1 l2:Addr):Heap:=(rO h l1 l2).push { cls:=.type "tuple",data:=.seq #[.none,.none] }
abbrev nE (h:Heap) (l1 l2:Addr):Heap:=(rP h l1 l2).push { cls:=.type "zip",data:=.fields #[.none,.bool false,.bool false,.ref (rN h l1 l2).objs.size,.ref (rO h l1 l2).objs.size] }
theorem OR (l1 l2:Addr) (xs ys:Array Value):Meets (Builtin.«zip.__new__» ⟨[.type "zip",.ref l1,.ref l2],[]⟩) (fun _ R s=>s.heap.IsTuple l1 xs/\s.heap.IsTuple l2 ys /\
   R (.ok (.ret (.ref (rP s.heap l1 l2).objs.size))) { s with heap:=nE s.heap l1 l2 }) :=
 .of_wp fun prog w A R s q=>by
  obtain ⟨hp,gs,dr,tk,os⟩:=s;obtain ⟨q1,q2,q⟩:=q;have hsub:=sub_zip;have y1:Heap.IsTuple (Shared.heap ⟨hp,gs,dr,tk,os⟩) l1 xs:=q1;have y2:Heap.IsTuple (Shared.heap ⟨hp.push { cls:=.type "tuple_iterator",data:=.fields #[.ref l1,.int 0 0] },gs,dr,tk,os⟩) l2 ys:=let ⟨o,ho,r⟩:=q2;⟨o,aU _ ho,r⟩
  wp_walk using nU y1,nU y2
  exact ⟨_,rfl,q⟩
theorem AW {prog:Program} {w:World} {A:Around} {E:Vq} {s:Shared} {l1 l2:Addr} {xs ys:Array Value} (q1:s.heap.IsTuple l1 xs) (q2:s.heap.IsTuple l2 ys)
  (q:∀ g,IsZip g (s.heap.objs.size+4) (s.heap.objs.size+2) (s.heap.objs.size+3) .none->IsPair g (s.heap.objs.size+2) (.ref s.heap.objs.size) (.ref (s.heap.objs.size+1))->IsPair g (s.heap.objs.size+3) .none .none ->
   g.IsTupleIter s.heap.objs.size l1 0->g.IsTupleIter (s.heap.objs.size+1) l2 0->g.objs.size=s.heap.objs.size+5->(∀ c o,s.heap.get? c=some o->g.get? c=some o)->Q (.ref (s.heap.objs.size+4)) { s with heap:=g }) :
  wpAny (model prog w) A (call (.type "zip") [.ref l1,.ref l2]) Q E s:=by
 refine callType_new F.called_zip (by decide) (F.typeCall_zip_2 _ _) (F.newCall_zip_2 _ _) (fun ob=>F.args_object_init_3 ob _ _) F.entry_zip_new (OR l1 l2 xs ys) ⟨q1,q2,?_⟩;have a1:(rM s.heap l1).objs.size=s.heap.objs.size+1:=gA ..;have a2:(rN s.heap l1 l2).objs.size=s.heap.objs.size+2:=by rw [gA,a1]
 have a3:(rO s.heap l1 l2).objs.size=s.heap.objs.size+3:=by rw [gA,a2]
 have a4:(rP s.heap l1 l2).objs.size=s.heap.objs.size+4:=by rw [gA,a3]
 have a5:(nE s.heap l1 l2).objs.size=s.heap.objs.size+5:=by rw [gA,a4]
 have b5:(nE s.heap l1 l2).get? (rP s.heap l1 l2).objs.size=some _:=cX _ rfl;have b4:(nE s.heap l1 l2).get? (rO s.heap l1 l2).objs.size=some _:=aU _ (cX _ rfl);have b3:(nE s.heap l1 l2).get? (rN s.heap l1 l2).objs.size=some _:=aU _ (aU _ (cX _ rfl));have b2:(nE s.heap l1 l2).get? (rM s.heap l1).objs.size=some _:=aU _ (aU _ (aU _ (cX _ rfl)));have b1:(nE s.heap l1 l2).get? s.heap.objs.size=some _:=aU _ (aU _ (aU _ (aU _ (cX _ rfl))));show _/\_;rw [a2,a3,a4] at b5;rw [a1,a2] at b3;rw [a3] at b4;rw [a1] at b2;rw [a4];exact ⟨⟨_,b5,rfl⟩,q _ b5 b3 b4 ⟨_,b1,rfl,rfl⟩ ⟨_,b2,rfl,rfl⟩ a5 fun c o y=>aU _ (aU _ (aU _ (aU _ (aU _ y))))⟩
end
section
open PySem Spec PyProof.Rows
variable {ch:List Addr} {elts:List Expr}
section
variable {X:Cx} {pj:Pq} {O:St} {H:Hp} {s:Shared} {h':Heap}
theorem Inv.turnedC {t':Nat} (I:Inv X pj O H s) (k:∀ b o,b∉ch->s.heap.get? b=some o->h'.get? b=some o) (f:∀ b∈ch,fD X pj H b):Inv X pj O H { s with heap:=h',toks:=t' }:=by
 have nfp:∀ {b:Addr} {u:HO},H b=some u->b∉ch:=fun {b u} q z=>by rw [(f b z).1] at q;cases q
 refine I.step (g':=s.gens) (d':=s.drawn) (ch:=ch) (fun b hb=>⟨(f b hb).2.2.2.1,(f b hb).2.1,(f b hb).2.2.2.2.1,(f b hb).2.2.2.2.2⟩) (fun b o _ _ hc q _=>k b o hc q) (fun b o _ _ hc q _=>⟨o.slots,k b o hc q⟩)
  (fun b o hc q z=>z) (fun b o hc q=>⟨o,k b o hc q⟩) (fun b ys q=>q) (fun b o u q=>q) (fun b ps q=>⟨#[],by rw [q];simp⟩) (fun m hm=>?_) (fun b u q=>?_) I.bare
 .obtain ⟨o,es,ep,ho,r⟩:=hm;exact ⟨o,es,ep,k _ o (fun z=>(f _ z).2.1 rfl) ho,r⟩
 .refine (I.hok b u q).stay (fun c v hc z=>?_) (fun c z=>z) fun c ys z=>z;rcases hc with rfl | hc
  .exact k c v (nfp q) z
  .exact k c v (nfp hc) z
theorem Inv.turnedN {T:Addr} {xs:List V} {t':Nat} (I:Inv X pj O H s) (k:∀ b o,b∉ch->s.heap.get? b=some o->h'.get? b=some o) (f:∀ b∈ch,fD X pj H b)
  (hT:s.heap.objs.size<=T) (new:aN X.prog X.w (aP H T (.tup xs)) h' T (.tup xs)):Inv X pj O (aP H T (.tup xs)) { s with heap:=h',toks:=t' }:=by
 have hn:H T=none:=I.hok.fresh hT;have nT:∀ {b:Addr} {o:Obj},s.heap.get? b=some o->b≠T:=fun {b o} q=>cY (eJ (aX q) hT);have nfp:∀ {b:Addr} {u:HO},H b=some u->b∉ch:=fun {b u} q z=>by rw [(f b z).1] at q;cases q
 refine I.step (g':=s.gens) (d':=s.drawn) (ch:=ch) (fun b hb=>⟨(f b hb).2.2.2.1,(f b hb).2.1,(f b hb).2.2.2.2.1,(f b hb).2.2.2.2.2⟩) (fun b o _ _ hc q _=>k b o hc q) (fun b o _ _ hc q _=>⟨o.slots,k b o hc q⟩)
  (fun b o hc q z=>by rw [aR (nT q)];exact z) (fun b o hc q=>⟨o,k b o hc q⟩)
  (fun b ys q=>by rw [aR (cS q hn)];exact q) (fun b o u q=>by rw [aR (cS q hn)];exact q) (fun b ps q=>⟨#[],by rw [aR (cS q hn),q];simp⟩) (fun m hm=>?_) (fun b u q=>?_) I.bare
 .obtain ⟨o,es,ep,ho,r⟩:=hm;exact ⟨o,es,ep,k _ o (fun z=>(f _ z).2.1 rfl) ho,r⟩
 .by_cases hb:b=T
  .subst hb;rw [cC] at q;cases q;exact new
  .rw [aR hb] at q;refine (I.hok b u q).stay (fun c v hc z=>?_) (fun c z=>by rw [aR (cS z hn)];exact z) fun c ys z=>by rw [aR (cS z hn)];exact z
   rcases hc with rfl | hc
   .exact k c v (nfp q) z
   .exact k c v (nfp hc) z
end
abbrev SqB (K:W.Frag) (H:Hp) (a:Addr) (xs:List V):Prop:=SqT K H a xs
abbrev ItB (h:Heap) (j l:Addr) (i:Nat):Prop:=h.IsTupleIter j l i
abbrev IsB (h:Heap) (l:Addr) (qc:Array Value):Prop:=h.IsTuple l qc
theorem lY {h h':Heap} {j l:Addr} {i:Nat} (x:ItB h j l i) (k:∀ o,h.get? j=some o->h'.get? j=some o):ItB h' j l i:=let ⟨o,e,r⟩:=x;⟨o,k o e,r⟩
theorem AX {h:Heap} {j l:Addr} {i:Nat} (x:ItB h j l i):∃ o,h.get? j=some o/\∀ v,o.data≠.cell v:=let ⟨o,e,_,d⟩:=x;⟨o,e,fun v q=>by rw [d] at q;cases q⟩
theorem Inv.sqB {X:Cx} {pj:Pq} {O:St} {H:Hp} {s:Shared} {a:Addr} {xs:List V} (I:Inv X pj O H s) (q:SqB X.K H a xs):∃ qc:List Value,aH xs qc/\IsB s.heap a qc.toArray/\a<s.heap.objs.size:=by obtain ⟨qc,rv,p,_⟩:=I.tuple q;obtain ⟨o,e,_⟩:=id p;exact ⟨qc,rv,p,aX e⟩
theorem lZ {prog:Program} {w:World} {A:Around} (hh:A.handled=none) (j l:Addr) (hne:l≠j) (qc:Array Value):Draws prog w A j [j,l] qc.size (fun i v=>qc[i]?=some v) (fun i h=>ItB h j l i/\IsB h l qc):=uG hh j l hne qc
def Itz (K:W.Frag) (l1 l2:Addr):It :=
 ⟨fun i H=>∃ xs ys x y,SqB K H l1 xs/\SqB K H l2 ys/\xs[i]?=some x/\ys[i]?=some y,
  fun i H v H'=>∃ p x y,H p=none/\v=.ref p/\H'=aP H p (.tup [x,y])/\(∀ xs,SqB K H l1 xs->xs[i]?=some x)/\∀ ys,SqB K H l2 ys->ys[i]?=some y,
  fun i H=>∃ xs ys,SqB K H l1 xs/\SqB K H l2 ys/\(i=xs.length\/i<xs.length/\i=ys.length)⟩
theorem ane {a b:Nat} (h:a<b\/b<a):(show Addr from a)≠(show Addr from b):=fun e=>by have e:a=b:=e;lia
theorem anm {z a b:Nat} (h1:z<a\/a<z) (h2:z<b\/b<z):(show Addr from z)∉[(show Addr from a),(show Addr from b)]:=fun e=>by
 rcases omc e with e | e
 .exact ane h1 e
 .exact ane h2 (omg e)
theorem oJ {N l1 l2:Nat} (h1:l1<N) (h2:l2<N):ZAp (N+4) (N+2) (N+3) N (N+1) [N,l1] [N+1,l2] :=
 ⟨⟨ane (by lia),ane (by lia),ane (by lia),ane (by lia)⟩,⟨ane (by lia),ane (by lia),ane (by lia)⟩,⟨ane (by lia),ane (by lia)⟩,ane (by lia),⟨anm (by lia) (by lia),anm (by lia) (by lia)⟩,⟨anm (by lia) (by lia),anm (by lia) (by lia)⟩,⟨anm (by lia) (by lia),anm (by lia) (by lia)⟩⟩
theorem OS {P:Program} {w:World} {K:W.Frag} {kx:Nat} {pos:Pos} (l1 l2 N:Nat) (h1:l1<N) (h2:l2<N) :
  Turn P w K (.Tuple elts kx pos) (Itz K l1 l2) [N+4,N+2,N+3,N,N+1] (N+4)
   (fun i h=>IsZip h (N+4) (N+2) (N+3) .none/\IsPair h (N+2) (.ref N) (.ref (N+1))/\(∃ a b,IsPair h (N+3) a b)/\ItB h N l1 i/\ItB h (N+1) l2 i) where
 mem:=by simp
 obj:=fun i h st b hb=>by
  obtain ⟨s1,s2,⟨a,c,s3⟩,s4,s5⟩:=st;simp only [List.mem_cons,List.not_mem_nil,or_false] at hb;rcases hb with rfl | rfl | rfl | rfl | rfl
  .exact ⟨_,s1,fun v q=>by cases q⟩
  .exact ⟨_,s2,fun v q=>by cases q⟩
  .exact ⟨_,s3,fun v q=>by cases q⟩
  .exact AX s4
  .exact AX s5
 keep:=fun i h h' st k=>by obtain ⟨s1,s2,⟨a,c,s3⟩,s4,s5⟩:=st;exact ⟨k _ (by simp) _ s1,k _ (by simp) _ s2,⟨a,c,k _ (by simp) _ s3⟩,lY s4 fun o e=>k _ (by simp) o e,lY s5 fun o e=>k _ (by simp) o e⟩
 item:=by
  intro X hP hw hK hc i pj s O H E I hf st hg;subst hP hw hK;obtain ⟨xs,ys,x,y,q1,q2,hx,hy⟩:=hg;obtain ⟨s1,s2,⟨a,c,s3⟩,s4,s5⟩:=st;obtain ⟨qc,rv,p,_⟩:=I.sqB q1;obtain ⟨jts,rw',p',_⟩:=I.sqB q2;obtain ⟨u,hu,ru⟩:=rv.get hx;obtain ⟨u',hu',ru'⟩:=rw'.get hy;have hd:X.A.in1.handled=none:=I.ok.hd hc;have D1:=lZ (prog:=X.prog) (w:=X.w) (A:=X.A.in1) hd N l1 (ane (.inl h1)) qc.toArray;have D2:=lZ (prog:=X.prog) (w:=X.w) (A:=X.A.in1) hd (N+1) l2 (ane (by lia)) jts.toArray;have lt1:i<qc.toArray.size:=by have:=(ome hu).1;rw [cR];exact this
  have lt2:i<jts.toArray.size:=by have:=(ome hu').1;rw [cR];exact this
  have zlt:N+4<s.heap.objs.size:=aX s1;refine AU D1 D2 (oJ h1 h2) s1 s2 s3 ⟨s4,p⟩ ⟨s5,p'⟩ lt1 lt2 fun v v' g tk hv hv' b3 b4 b5 b6 b7 b8 b9=>⟨_,rfl,wpAny_letOwnedTupleGo_zip b3 fun g2 z2 e2=>?_⟩;have ev:v=u:=by
   have z:qc[i]?=some v:=by simpa using hv
   rw [hu] at z;exact (dE z).symm
  have ev':v'=u':=by
   have z:jts[i]?=some v':=by simpa using hv'
   rw [hu'] at z;exact (dE z).symm
  subst ev ev';have up:∀ b o,b≠N+4->g.get? b=some o->g2.get? b=some o:=fun b o hb e=>(e2.2 b hb).trans e;have hk2:∀ b o,b∉[N+4,N+2,N+3,N,N+1]->s.heap.get? b=some o->g2.get? b=some o:=fun b o hb e=>by simp only [List.mem_cons,List.not_mem_nil,or_false,not_or] at hb;exact up b o hb.1 (b9 b o hb.1 hb.2.2.1 hb.2.2.2.1 hb.2.2.2.2 e)
  have nT:s.heap.objs.size≠N+4:=Nat.ne_of_gt zlt;have I1:Inv X pj O (aP H s.heap.objs.size (.tup [x,y])) { s with heap:=g2,toks:=tk }:=I.turnedN hk2 hf (aV _)
   ⟨by show 2<=sizeLine;decide,[v,v'],.cons ru (.cons ru' .nil),⟨_,up _ _ nT b7,rfl,_,rfl⟩⟩
  refine ⟨.ref s.heap.objs.size,_,I1,rfl,⟨_,x,y,I.fresh,rfl,rfl,fun zs hz=>by rw [I.tuple_inj hz q1];exact hx,fun zs hz=>by rw [I.tuple_inj hz q2];exact hy⟩,⟨z2,?_,⟨_,_,up _ _ (ane (a:=N+3) (b:=N+4) (by lia)) b4⟩,?_,?_⟩,fun b hb=>?_⟩
  .exact up _ _ (ane (a:=N+2) (b:=N+4) (by lia)) (b9 _ _ (ane (a:=N+2) (b:=N+4) (by lia)) (ane (a:=N+2) (b:=N+3) (by lia)) (ane (a:=N+2) (b:=N) (by lia)) (ane (a:=N+2) (b:=N+1) (by lia)) s2)
  .exact lY b5.1 fun o e=>up _ o (ane (a:=N) (b:=N+4) (by lia)) e
  .exact lY b6.1 fun o e=>up _ o (ane (a:=N+1) (b:=N+4) (by lia)) e
  .have hbl:b<s.heap.objs.size:=by have zl:N+4<s.heap.objs.size:=zlt;simp only [List.mem_cons,List.not_mem_nil,or_false] at hb;rcases hb with e | e | e | e | e<;>(rw [e];show (_:Nat)<_;lia)
   rw [aR (cY hbl)];exact (hf b hb).1
 done:=by intro X hP hw hK hc i pj s O H E I hf st hg;subst hP hw hK;obtain ⟨xs,ys,q1,q2,hx⟩:=hg;obtain ⟨s1,s2,⟨a,c,s3⟩,s4,s5⟩:=st;obtain ⟨qc,rv,p,_⟩:=I.sqB q1;obtain ⟨jts,rw',p',_⟩:=I.sqB q2;have hd:X.A.in1.handled=none:=I.ok.hd hc;have D1:=lZ (prog:=X.prog) (w:=X.w) (A:=X.A.in1) hd N l1 (ane (.inl h1)) qc.toArray;have D2:=lZ (prog:=X.prog) (w:=X.w) (A:=X.A.in1) hd (N+1) l2 (ane (by lia)) jts.toArray;refine AV D1 D2 (oJ h1 h2) s1 s2 s3 ⟨s4,p⟩ ⟨s5,p'⟩ (k:=i) (by rw [cR,cR,<- rv.length,<- rw'.length];exact hx) fun g tk hk=>⟨rfl,I.turnedC (fun b o hb e=>?_) hf⟩;simp only [List.mem_cons,List.not_mem_nil,or_false,not_or] at hb;exact hk b o hb.1 hb.2.2.1 hb.2.2.2.1 hb.2.2.2.2 e
 self:=fun _ _ _ _ _ st q=>wpAny_pyIter_zip st.1 q
section
variable {X:Cx}
theorem OT {a b:Expr} {ta:TA} {p pos p2:Pos} {kx:Nat} (hg:Gl X "zip") (hm:X.mg "zip"=none) (ha:PA X [a,b] ta) (hs:starEach [a,b] X.env=[(false,eval a X.env),(false,eval b X.env)]) (hs2:starEach [b] X.env=[(false,eval b X.env)]) :
  PI X (.Tuple elts kx p2) (.Call (.Name "zip" p) [a,b] [] pos) (fun O H R=>ta O H fun vs H1=>∃ l1 l2 xs ys,vs=[.ref l1,.ref l2]/\SqB X.K H1 l1 xs/\SqB X.K H1 l2 ys/\R (Itz X.K l1 l2) H1):=by
 intro pj s O H R I h;refine Call_ (mQ I hg hm (show bootBuiltins "zip"=some (.type "zip") by decide +kernel) (PyProof.Rows.callWith_type1 (thn (ha pos pj s O H _ I h) fun us s1 ⟨vs,H1,I1,r1,q1⟩=>?_) (by rw [hs,hs2]) (by rw [hs2];rfl)));obtain ⟨l1,l2,xs,ys,e,q1,q2,q⟩:=q1;subst e;obtain ⟨u,u',rfl,rx,ry⟩:=tJ r1;cases rx;cases ry;obtain ⟨qc,rv,b1,lt1⟩:=I1.sqB q1;obtain ⟨jts,rw',b2,lt2⟩:=I1.sqB q2;have fin:∀ {g:Heap},IsZip g (s1.heap.objs.size+4) (s1.heap.objs.size+2) (s1.heap.objs.size+3) .none->IsPair g (s1.heap.objs.size+2) (.ref s1.heap.objs.size) (.ref (s1.heap.objs.size+1))->IsPair g (s1.heap.objs.size+3) .none .none ->
   ItB g s1.heap.objs.size l1 0->ItB g (s1.heap.objs.size+1) l2 0->(∀ c o,s1.heap.get? c=some o->g.get? c=some o)->wpAny (model X.prog X.w) X.A (pyIter (.ref (s1.heap.objs.size+4))) (PIE X pj O (.Tuple elts kx p2) R) X.xe { s1 with heap:=g }:=fun {g} y1 y2 y3 y4 y5 k=>by
  refine wpAny_pyIter_zip (s:={ s1 with heap:=g }) y1 ⟨_,_,_,_,H1,rfl,I1.kept (t':=s1.toks) k,OS l1 l2 s1.heap.objs.size lt1 lt2,⟨y1,y2,⟨_,_,y3⟩,y4,y5⟩,fun b hb=>?_,q⟩;have le:s1.heap.objs.size<=b:=by simp only [List.mem_cons,List.not_mem_nil,or_false] at hb;rcases hb with e | e | e | e | e<;>(rw [e];show (_:Nat)<=_;lia)
  exact I1.fpOk le (I1.hok.fresh le)
 exact AW b1 b2 fun g y1 y2 y3 y4 y5 _ k=>fin y1 y2 y3 y4 y5 k
end
end
section
open PySem Spec PyProof.Rows
variable {Q:Vq}
abbrev nF (h:Heap) (z TI TO T:Addr) (f:Bool):Prop:=h.get? z=some { cls:=.type "zip",dict:=none,data:=.fields #[rawInt T,.bool f,.bool false,.ref TI,.ref TO],slots:=#[] }
section
variable {prog:Program} {w:World} {A:Around} {E:Vq} {s:Shared}
variable {z TI TO j1 j2 T:Addr} {f1 f2:List Addr} {n1 n2 k:Nat} {P1 P2:Nat->Value->Prop} {S1 S2:Nat->Heap->Prop} {a b:Value} {f:Bool} {oT:Obj}
theorem AY {Q:Bool->Shared->Prop} (hz:nF s.heap z TI TO T f) (hT:s.heap.get? T=some oT) (hQ:∀ g,nF g z TI TO T true->Heap.SameBut z s.heap g->Q false { s with heap:=g }) :
  wpAny (model prog w) A (Builtin.SmallTypes.ownedTupleIsFree (.ref z)) Q E s:=by
 unfold Builtin.SmallTypes.ownedTupleIsFree;refine aA (eM (x:=rawInt T) hz rfl rfl ?_);show wpAny _ _ (loadIfAlive ((T:Int).toNat) >>= _) _ _ _;rw [xZ];refine aA (PySem.W.kdx_alive hT ?_);simp only [Option.isNone_some,Bool.false_eq_true,if_false];refine aA (eM hz rfl (x:=.bool f) rfl ?_);cases f with
 | true =>rw [if_neg (show ¬ ((Value.bool true != Value.bool true)=true) from dI)];exact aI (hQ _ hz (Heap.SameBut.refl _ _))
 | false =>rw [if_pos (show (Value.bool false != Value.bool true)=true from rfl)];exact wpAny_bind (mN hz (by simp) fun g1 hz1 e1=>wpAny_pure (hQ g1 hz1 e1))
theorem OU (D1:Draws prog w A j1 f1 n1 P1 S1) (D2:Draws prog w A j2 f2 n2 P2 S2) (ap:ZAp z TI TO j1 j2 f1 f2)
  (hz:nF s.heap z TI TO T f) (hT:s.heap.get? T=some oT) (hI:IsPair s.heap TI (.ref j1) (.ref j2)) (t1:S1 k s.heap) (t2:S2 k s.heap) (l1:k<n1) (l2:k<n2)
  (hQ:∀ x y g tk,P1 k x->P2 k y->nF g z TI TO T true->S1 (k+1) g->S2 (k+1) g->IsPair g s.heap.objs.size x y->g.objs.size=s.heap.objs.size+1 ->
   (∀ c o,c≠z->c≠j1->c≠j2->s.heap.get? c=some o->g.get? c=some o)->Q (.ref s.heap.objs.size) { s with heap:=g,toks:=tk }) :
  wpAny (model prog w) A (Builtin.«zip.__next__» ⟨[.ref z],[]⟩) (fun e s'=>∃ v,e=.done (.ret v)/\Q v s') E s:=by
 show wpAny _ _ (field (.ref z) 2 >>= _) _ _ s;refine aA (eM (x:=.bool false) hz rfl rfl ?_);show wpAny _ _ (field (.ref z) 3 >>= _) _ _ s;refine aA (eM (x:=.ref TI) hz rfl rfl (aA (jA hI rfl ?_)));show wpAny _ _ (Builtin.SmallTypes.ownedTupleIsFree (.ref z) >>= _) _ _ s;refine aA (AY hz hT fun g1 hz1 e1=>?_);simp only [Bool.false_eq_true,if_false];refine aA ?_;rw [<- Array.forIn_toList];simp only [List.forIn_nil,List.forIn_cons];refine aA (aA (fR ?_));show wpAny _ _ (Builtin.SmallTypes.nextOf (.ref j1) >>= _) _ _ { s with heap:=g1 };have q1:S1 k g1:=D1.frame _ _ _ t1 fun c hc o e=>e1.extBut _ _ (fun y=>ap.fz.1 (y▸hc)) e;refine aA (D1.item k _ _ _ l1 q1 fun x g2 tk2 hx u1 e2=>aI (aI (aA (aA (fR ?_)))));show wpAny _ _ (Builtin.SmallTypes.nextOf (.ref j2) >>= _) _ _ { s with heap:=g2,toks:=tk2 };have q2:S2 k g2:=D2.frame _ _ _ t2 fun c hc o e=>e2.extBut _ _ (fun y=>ap.fj.2 (y▸hc)) (e1.extBut _ _ (fun y=>ap.fz.2 (y▸hc)) e);refine aA (D2.item k _ _ _ l2 q2 fun y g4 tk4 hy u2 e4=>aI (aI (aI (aA (wpAny_newTuple (hsz:=by show 2<=sizeLine;decide) ?_)))));have sz:g4.objs.size=s.heap.objs.size:=by rw [e4.1,e2.1,e1.1]
 have hz4:nF g4 z TI TO T true:=e4.extBut _ _ (Ne.symm ap.nz.2.2.2) (e2.extBut _ _ (Ne.symm ap.nz.2.2.1) hz1);have v1:S1 (k+1) g4:=D1.frame _ _ _ u1 fun c hc o e=>e4.extBut _ _ (fun y=>ap.fj.1 (y▸hc)) e;have hp:IsPair (g4.push { cls:=.type "tuple",data:=.seq #[x,y] }) g4.objs.size x y:=cX _ rfl;refine aI ⟨_,rfl,?_⟩;show Q (.ref g4.objs.size) { s with heap:=g4.push { cls:=.type "tuple",data:=.seq #[x,y] },toks:=tk4 };rw [sz] at hp ⊢;exact hQ x y _ tk4 hx hy (aU _ hz4) (D1.frame _ _ _ v1 fun c hc o e=>aU _ e) (D2.frame _ _ _ u2 fun c hc o e=>aU _ e) hp (by rw [gA,sz])
  fun c o c1 c3 c4 e=>aU _ (e4.extBut _ _ c4 (e2.extBut _ _ c3 (e1.extBut _ _ c1 e)))
theorem OV {Q:Fin->Shared->Prop} (D1:Draws prog w A j1 f1 n1 P1 S1) (D2:Draws prog w A j2 f2 n2 P2 S2) (ap:ZAp z TI TO j1 j2 f1 f2)
  (hz:nF s.heap z TI TO T f) (hT:s.heap.get? T=some oT) (hI:IsPair s.heap TI (.ref j1) (.ref j2)) (t1:S1 k s.heap) (t2:S2 k s.heap) (hk:k=n1\/k<n1/\k=n2)
  (hE:∀ g e tk,(∀ c o,c≠z->c≠j1->c≠j2->s.heap.get? c=some o->g.get? c=some o)->(∃ o,g.get? e=some o/\o.cls=.type "StopIteration")->E (.ref e) { s with heap:=g,toks:=tk }) :
  wpAny (model prog w) A (Builtin.«zip.__next__» ⟨[.ref z],[]⟩) Q E s:=by
 show wpAny _ _ (field (.ref z) 2 >>= _) _ _ s;refine aA (eM (x:=.bool false) hz rfl rfl ?_);show wpAny _ _ (field (.ref z) 3 >>= _) _ _ s;refine aA (eM (x:=.ref TI) hz rfl rfl (aA (jA hI rfl ?_)));show wpAny _ _ (Builtin.SmallTypes.ownedTupleIsFree (.ref z) >>= _) _ _ s;refine aA (AY hz hT fun g1 hz1 e1=>?_);simp only [Bool.false_eq_true,if_false];refine aA ?_;rw [<- Array.forIn_toList];simp only [List.forIn_nil,List.forIn_cons];refine aA (aA (fR ?_));show wpAny _ _ (Builtin.SmallTypes.nextOf (.ref j1) >>= _) _ _ { s with heap:=g1 };have q1:S1 k g1:=D1.frame _ _ _ t1 fun c hc o e=>e1.extBut _ _ (fun y=>ap.fz.1 (y▸hc)) e;rcases hk with rfl | ⟨hlt,rfl⟩
 .exact aA (D1.done _ _ _ q1 fun g2 e e2 he=>hE g2 e s.toks (fun c o c1 c3 _ y=>e2 _ _ c3 (e1.extBut _ _ c1 y)) he)
 .refine aA (D1.item _ _ _ _ hlt q1 fun x g2 tk2 hx u1 e2=>aI (aI (aA (aA (fR ?_)))));show wpAny _ _ (Builtin.SmallTypes.nextOf (.ref j2) >>= _) _ _ { s with heap:=g2,toks:=tk2 };have q2:S2 k g2:=D2.frame _ _ _ t2 fun c hc o e=>e2.extBut _ _ (fun y=>ap.fj.2 (y▸hc)) (e1.extBut _ _ (fun y=>ap.fz.2 (y▸hc)) e);exact aA (D2.done _ _ _ q2 fun g4 e e4 he=>hE g4 e tk2 (fun c o c1 c3 c4 y=>e4 _ _ c4 (e2.extBut _ _ c3 (e1.extBut _ _ c1 y))) he)
end
section
variable {prog:Program} {w:World} {A:Around} {E:Vq} {s:Shared} {l1 l2 N S:Nat} {xs ys:Array Value} {i:Nat} {a b:Value}
def ZS (l1 l2 N S:Nat) (xs ys:Array Value) (i:Nat) (h:Heap):Prop :=
 ((i=0/\IsZip h (N+4) (N+2) (N+3) .none/\∃ a b,IsPair h (N+3) a b)\/∃ (T:Nat) (f:Bool) (oT:Obj),nF h (N+4) (N+2) (N+3) T f/\h.get? T=some oT/\S<T) /\
  IsPair h (N+2) (.ref N) (.ref (N+1))/\(ItB h N l1 i/\IsB h l1 xs)/\(ItB h (N+1) l2 i/\IsB h l2 ys)
theorem oK {h h':Heap} {l:Addr} {qc:Array Value} (x:IsB h l qc) (k:∀ o,h.get? l=some o->h'.get? l=some o):IsB h' l qc:=let ⟨o,e,r⟩:=x;⟨o,k o e,r⟩
theorem ZS.keep {h h':Heap} (z:ZS l1 l2 N S xs ys i h) (h1:l1<N) (h2:l2<N) (hS:N+4<S) (k:∀ (b:Addr) o,b≠S->h.get? b=some o->h'.get? b=some o):ZS l1 l2 N S xs ys i h':=by
 obtain ⟨z,z2,⟨z3,z4⟩,z5,z6⟩:=z;refine ⟨?_,k _ _ (ane (by lia)) z2,⟨lY z3 fun o=>k _ o (ane (by lia)),oK z4 fun o=>k _ o (ane (by lia))⟩,lY z5 fun o=>k _ o (ane (by lia)),oK z6 fun o=>k _ o (ane (by lia))⟩;rcases z with ⟨e,z,a,b,y⟩ | ⟨T,f,oT,z,y,hT⟩
 .exact .inl ⟨e,k _ _ (ane (by lia)) z,a,b,k _ _ (ane (by lia)) y⟩
 .exact .inr ⟨T,f,oT,k _ _ (ane (by lia)) z,k _ _ (ane (by lia)) y,hT⟩
theorem OW {Q:Option Value->Shared->Prop} (hh:A.handled=none) (h1:l1<N) (h2:l2<N) (hS:N+4<S) (st:ZS l1 l2 N S xs ys i s.heap) (lt1:i<xs.size) (lt2:i<ys.size) (hSz:S<s.heap.objs.size)
  (hQ:∀ x y g tk,xs[i]?=some x->ys[i]?=some y->ZS l1 l2 N S xs ys (i+1) g->IsPair g s.heap.objs.size x y->(∀ (c:Addr) o,c∉[N+4,N+2,N+3,N,N+1]->s.heap.get? c=some o->g.get? c=some o)->Q (some (.ref s.heap.objs.size)) { s with heap:=g,toks:=tk }) :
  wpAny (model prog w) A (pyNext (.ref (N+4))) Q E s:=by
 obtain ⟨z,z2,z3,z4⟩:=st;have D1:=lZ (prog:=prog) (w:=w) (A:=A.in1) hh N l1 (ane (.inl h1)) xs;have D2:=lZ (prog:=prog) (w:=w) (A:=A.in1) hh (N+1) l2 (ane (by lia)) ys;have hm:∀ {c:Addr},c∉[N+4,N+2,N+3,N,N+1]->c≠N+4/\c≠N+3/\c≠N/\c≠N+1:=fun {c} hc=>by simp only [List.mem_cons,List.not_mem_nil,or_false,not_or] at hc;exact ⟨hc.1,hc.2.2.1,hc.2.2.2.1,hc.2.2.2.2⟩
 rcases z with ⟨e,z,a,b,y⟩ | ⟨T,f,oT,z,y,hT⟩
 .refine AU D1 D2 (oJ h1 h2) z z2 y z3 z4 lt1 lt2 fun u v g tk b1 b2 b3 b4 b5 b6 b7 b8 b9=>hQ u v g tk b1 b2 ⟨.inr ⟨_,false,_,b3,b7,hSz⟩,?_,b5,b6⟩ b7 fun c o hc e=>b9 c o (hm hc).1 (hm hc).2.1 (hm hc).2.2.1 (hm hc).2.2.2 e;exact b9 _ _ (ane (a:=N+2) (b:=N+4) (by lia)) (ane (a:=N+2) (b:=N+3) (by lia)) (ane (a:=N+2) (b:=N) (by lia)) (ane (a:=N+2) (b:=N+1) (by lia)) z2
 .have ty:s.TypeIs (.ref (N+4)) "zip":=⟨_,z,rfl⟩;unfold pyNext;refine aA (lL (iO (name:=Str.ofString "__next__") ty F.slot_zip_next (fF F.slot_zip_next ty F.entry_zip_next
   (OU D1 D2 (oJ h1 h2) z y z2 z3 z4 lt1 lt2 fun u v g tk b1 b2 b3 b5 b6 b7 b8 b9=>aI (hQ u v g tk b1 b2 ⟨.inr ⟨T,true,oT,b3,?_,hT⟩,?_,b5,b6⟩ b7 fun c o hc e=>b9 c o (hm hc).1 (hm hc).2.2.1 (hm hc).2.2.2 e)) (F.args_zip_next_1 _))))
  .exact b9 _ _ (ane (a:=T) (b:=N+4) (by lia)) (ane (a:=T) (b:=N) (by lia)) (ane (a:=T) (b:=N+1) (by lia)) y
  .exact b9 _ _ (ane (a:=N+2) (b:=N+4) (by lia)) (ane (a:=N+2) (b:=N) (by lia)) (ane (a:=N+2) (b:=N+1) (by lia)) z2
theorem OX {Q:Option Value->Shared->Prop} (hh:A.handled=none) (h1:l1<N) (h2:l2<N) (st:ZS l1 l2 N S xs ys i s.heap) (hi:i=min xs.size ys.size)
  (hQ:∀ g tk,(∀ (c:Addr) o,c∉[N+4,N+2,N+3,N,N+1]->s.heap.get? c=some o->g.get? c=some o)->Q none { s with heap:=g,toks:=tk }):wpAny (model prog w) A (pyNext (.ref (N+4))) Q E s:=by
 have hk:i=xs.size\/i<xs.size/\i=ys.size:=by clear st;lia
 obtain ⟨z,z2,z3,z4⟩:=st;have D1:=lZ (prog:=prog) (w:=w) (A:=A.in1) hh N l1 (ane (.inl h1)) xs;have D2:=lZ (prog:=prog) (w:=w) (A:=A.in1) hh (N+1) l2 (ane (by lia)) ys;have hm:∀ {c:Addr},c∉[N+4,N+2,N+3,N,N+1]->c≠N+4/\c≠N+3/\c≠N/\c≠N+1:=fun {c} hc=>by simp only [List.mem_cons,List.not_mem_nil,or_false,not_or] at hc;exact ⟨hc.1,hc.2.2.1,hc.2.2.2.1,hc.2.2.2.2⟩
 rcases z with ⟨e,z,a,b,y⟩ | ⟨T,f,oT,z,y,hT⟩
 .exact AV D1 D2 (oJ h1 h2) z z2 y z3 z4 hk fun g tk b9=>hQ g tk fun c o hc e=>b9 c o (hm hc).1 (hm hc).2.1 (hm hc).2.2.1 (hm hc).2.2.2 e
 .have ty:s.TypeIs (.ref (N+4)) "zip":=⟨_,z,rfl⟩;unfold pyNext;refine aA (lL (iO (name:=Str.ofString "__next__") ty F.slot_zip_next (fF F.slot_zip_next ty F.entry_zip_next
   (OV D1 D2 (oJ h1 h2) z y z2 z3 z4 hk fun g e tk hc he=>?_) (F.args_zip_next_1 _))))
  obtain ⟨o,ho,hc2⟩:=he;exact aA (wpAny_isInstance (b:=true) (T:="StopIteration") ⟨o,ho,hc2⟩ isSubtype_stop (aI (hQ _ _ fun c o h e=>hc c o (hm h).1 (hm h).2.2.1 (hm h).2.2.2 e)))
structure PGz (xs ys:Array Value) (S:Nat) (h:Heap) (as:List Addr):Prop where
 rise:as.Nodup
 above:∀ a∈as,S<a
 pairs:∀ (j:Nat) (a:Addr),as[j]?=some a->∃ x y,xs[j]?=some x/\ys[j]?=some y/\IsPair h a x y
theorem OY {R:Result->Shared->Prop} (hh:A.handled=none) (h1:l1<N) (h2:l2<N) (hS:N+4<S) (hn:min xs.size ys.size<=sizeLine) (res:Value) {h₁:Heap}
  (hR:∀ h' tk acc c as,(∀ (b:Addr) o,b≠S->b∉[N+4,N+2,N+3,N,N+1]->h₁.get? b=some o->h'.get? b=some o)->h'.get? S=some { cls:=.type "list",dict:=none,data:=.seq acc c,slots:=#[] }->as.length=min xs.size ys.size->PGz xs ys S h' as ->
   acc.toList=as.map Value.ref->R (.ok (.ret res)) { s with heap:=h',toks:=tk }) :
  ∀ (k i:Nat) (h:Heap) (tk c:Nat) (acc:Array Value) (as:List Addr),min xs.size ys.size-i=k->i<=min xs.size ys.size->ZS l1 l2 N S xs ys i h->(∀ (b:Addr) o,b≠S->b∉[N+4,N+2,N+3,N,N+1]->h₁.get? b=some o->h.get? b=some o) ->
   h.get? S=some { cls:=.type "list",dict:=none,data:=.seq acc c,slots:=#[] }->acc.toList=as.map Value.ref->as.length=i->PGz xs ys S h as ->
   codeAny (model prog w) A (.builtin "list.extend.loop" ⟨[.ref S,.ref (N+4),res],[]⟩) R { s with heap:=h,toks:=tk }:=by
 have nm:∀ {c:Nat},S<=c->(show Addr from c)∉[N+4,N+2,N+3,N,N+1]:=fun {c} hc z=>by simp only [List.mem_cons,List.not_mem_nil,or_false] at z;rcases z with e | e | e | e | e<;>(have e:c=_:=e;lia)
 intro k
 induction k with
 | zero =>intro i h tk c acc as hk hi hst hkeep hSl hacc hal hG;refine codeAny_builtin PySem.F.entry_extend_loop ?_;rw [Around.under_plainId PySem.F.plain_extend_loop _];show wpAny _ A.in1 (pyNext (.ref (N+4)) >>= _) _ _ _;refine aA (OX (s:={ s with heap:=h,toks:=tk }) (A:=A.in1) hh h1 h2 hst (by lia) fun h' tk' he=>?_);refine aI (hR h' tk' acc c as (fun b o h1 h2 e=>he b o h2 (hkeep b o h1 h2 e)) (he S _ (nm (aV _)) hSl) (by lia) ⟨hG.rise,hG.above,fun j a hj=>?_⟩ hacc);obtain ⟨x,y,e1,e2,e3⟩:=hG.pairs j a hj;exact ⟨x,y,e1,e2,he a _ (nm (Nat.le_of_lt (hG.above a (fT hj)))) e3⟩
 | succ k ih =>
  intro i h tk c acc as hk hi hst hkeep hSl hacc hal hG;have hlt:i<min xs.size ys.size:=by lia
  have hsz:acc.size=i:=by rw [<- gM,hacc,bA,hal]
  have hSh:S<h.objs.size:=aX hSl;refine codeAny_builtin PySem.F.entry_extend_loop ?_;rw [Around.under_plainId PySem.F.plain_extend_loop _];show wpAny _ A.in1 (pyNext (.ref (N+4)) >>= _) _ _ _;refine aA (OW (s:={ s with heap:=h,toks:=tk }) hh h1 h2 hS hst (by lia) (by lia) hSh fun x y h' tk' hx hy hst' ht hkp=>?_);dsimp only at ht hkp ⊢;have hS':=hkp S _ (nm (aV _)) hSl;have up:∀ (b:Addr) o,b≠S->h'.get? b=some o->(h'.update S (Obj.mapSeq (·.push (Value.ref h.objs.size)))).get? b=some o:=fun b o hb e=>(Heap.get?_update_other _ _ (Ne.symm hb)).trans e;show wpAny _ A.in1 (updateSeq S (·.push (Value.ref h.objs.size)) >>= _) _ _ _;refine aA ?_;refine wpAny_updateSeq hS' rfl (aI ⟨plainId_quiet PySem.F.plain_extend_loop _,ih (i+1) _ tk' _ (acc.push (Value.ref h.objs.size)) (as++[h.objs.size]) (by lia) hlt (hst'.keep h1 h2 hS up)
   (fun b o h1 h2 e=>up b o h1 (hkp b o h2 (hkeep b o h1 h2 e))) (Heap.get?_update_self _ hS' rfl) (by rw [Array.toList_push,hacc,eP];rfl) (by rw [dW,hal];rfl) ⟨?_,?_,?_⟩⟩) (by rw [hsz];lia) (by show (acc.push (Value.ref h.objs.size)).size<=sizeLine+1;rw [Array.size_push,hsz];lia)
  .refine List.nodup_append.mpr ⟨hG.rise,cK.mpr ⟨(fun z=>nomatch z),gK⟩,fun a ha b hb e=>?_⟩;rw [omg hb] at e;subst e;obtain ⟨j,hj⟩:=List.mem_iff_getElem?.mp ha;obtain ⟨x',y',_,_,e3⟩:=hG.pairs j _ hj;exact absurd (aX e3) (gB _)
  .intro a ha;rcases oma ha with ha | ha
   .exact hG.above a ha
   .rw [omg ha];exact hSh
  .intro j b hj;rcases Nat.lt_trichotomy j as.length with h1 | h1 | h1
   .rw [qK h1] at hj;obtain ⟨x',y',e1,e2,e3⟩:=hG.pairs j b hj;have hb:=hG.above b (fT hj);exact ⟨x',y',e1,e2,up b _ (Nat.ne_of_gt hb) (hkp b _ (nm (Nat.le_of_lt hb)) e3)⟩
   .subst h1;have hb:h.objs.size=b:=by simpa using hj
    subst hb;exact ⟨x,y,by rw [hal];exact hx,by rw [hal];exact hy,up _ _ (Nat.ne_of_gt hSh) ht⟩
   .have hnone:(as++[h.objs.size])[j]?=none:=nY (by rw [dW,List.length_singleton];lia);rw [hnone] at hj;cases hj
theorem OZ:typeLookup (.type "zip") "__len__"=pure none:=by rw [typeLookup_type,builtinLookup_eq_fast];kernel_rfl
theorem PB:typeLookup (.type "zip") "__length_hint__"=pure none:=by rw [typeLookup_type,builtinLookup_eq_fast];kernel_rfl
theorem PC {R:Result->Shared->Prop} (hh:A.handled=none) (h1:l1<N) (h2:l2<N) (hS:N+4<S) (hn:min xs.size ys.size<=sizeLine) (res:Value) (c₀:Nat) (hSl:s.heap.get? S=some { cls:=.type "list",data:=.seq #[] c₀ }) (hst:ZS l1 l2 N S xs ys 0 s.heap) (hz:IsZip s.heap (N+4) (N+2) (N+3) .none)
  (hR:∀ h' tk acc c as,(∀ (b:Addr) o,b≠S->b∉[N+4,N+2,N+3,N,N+1]->s.heap.get? b=some o->h'.get? b=some o)->h'.get? S=some { cls:=.type "list",dict:=none,data:=.seq acc c,slots:=#[] }->as.length=min xs.size ys.size->PGz xs ys S h' as ->
   acc.toList=as.map Value.ref->R (.ok (.ret res)) { s with heap:=h',toks:=tk }) :
  wpAny (model prog w) A.in1 (Builtin.List.listExtendWith (.ref S) (.ref (N+4)) res)
   (fun fin s'=>match fin with | .done f=>R (.ok f) s' | .again c'=>c'.quiet=true/\codeAny (model prog w) A c' R s') (fun e s'=>R (.error e) s') s:=by
 have ty:s.TypeIs (.ref (N+4)) "zip":=⟨_,hz,rfl⟩;have hSr:(show Addr from S)≠(show Addr from N+4):=ane (by lia);unfold Builtin.List.listExtendWith;refine aA (wpAny_typeOf (T:="zip") ty ?_);have e1:Builtin.List.listSameRef (.ref S) (.ref (N+4))=false:=by simp [Builtin.List.listSameRef,hSr]
 have e2:(Value.type "zip"==Value.type "list")=false:=by decide
 have e3:(Value.type "zip"==Value.type "tuple")=false:=by decide
 simp only [e1,e2,e3,Bool.or_false,Bool.false_eq_true,if_false];refine aA (wpAny_pyIter_zip hz ?_);refine aA (fR ?_);unfold Builtin.List.listLengthHint;refine aA (wpAny_specialOf ty OZ ?_);show wpAny _ A.in1 (specialOf (Value.ref (N+4)) (Str.ofString "__length_hint__") >>= _) _ _ _;refine aA (wpAny_specialOf ty PB (aI ?_));show wpAny _ A.in1 (rule "list.extend.makes-room" >>= fun _=>Builtin.List.listTouch (.ref S) >>= fun _=>again (.builtin "list.extend.loop" ⟨[.ref S,.ref (N+4),res],[]⟩)) _ _ _;refine aA (wpAny_rule (aA ?_));show wpAny _ A.in1 (updateSeq S (·.push .none) >>= fun _=>updateSeq S (·.pop)) _ _ _;refine aA (wpAny_updateSeq hSl rfl ?_);have hS₂:=Heap.get?_update_self (Obj.mapSeq (·.push Value.none)) hSl rfl;refine wpAny_updateSeq (hz:=by seq_fits) hS₂ rfl ?_;have hS₃:=Heap.get?_update_self (Obj.mapSeq (·.pop)) hS₂ rfl;have oth:∀ (b:Addr) o,b≠S->s.heap.get? b=some o->((s.heap.update S (Obj.mapSeq (·.push Value.none))).update S (Obj.mapSeq (·.pop))).get? b=some o :=
  fun b o hb e=>(Heap.get?_update_other _ _ (Ne.symm hb)).trans ((Heap.get?_update_other _ _ (Ne.symm hb)).trans e)
 exact wpAny_pure ⟨plainId_quiet F.plain_extend_loop _,OY (s:=s) (h₁:=s.heap) hh h1 h2 hS hn res hR _ 0 _ s.toks _ #[] [] rfl (Nat.zero_le _) (hst.keep h1 h2 hS oth) (fun b o hb _ e=>oth b o hb e) hS₃ rfl rfl ⟨gK,(fun _ ha=>nomatch ha),(fun j a hj=>by simp at hj)⟩⟩
theorem PD (hh:A.handled=none) (h1:l1<N) (h2:l2<N) (hn:min xs.size ys.size<=sizeLine) (hz:IsZip s.heap (N+4) (N+2) (N+3) .none) (hO:IsPair s.heap (N+3) a b) (hI:IsPair s.heap (N+2) (.ref N) (.ref (N+1)))
  (i1:ItB s.heap N l1 0) (i2:ItB s.heap (N+1) l2 0) (b1:IsB s.heap l1 xs) (b2:IsB s.heap l2 ys)
  (hQ:∀ h' tk acc c as,(∀ (b:Addr) o,b∉[N+4,N+2,N+3,N,N+1]->s.heap.get? b=some o->h'.get? b=some o)->h'.get? s.heap.objs.size=some { cls:=.type "list",dict:=none,data:=.seq acc c,slots:=#[] }->as.length=min xs.size ys.size->PGz xs ys s.heap.objs.size h' as ->
   acc.toList=as.map Value.ref->Q (.ref s.heap.objs.size) { s with heap:=h',toks:=tk }) :
  wpAny (model prog w) A (call (.type "list") [.ref (N+4)]) Q E s:=by
 have hzl:N+4<s.heap.objs.size:=aX hz;refine callType_codes (Q₁:=fun obj s₁=>obj=.ref s.heap.objs.size/\s₁={ s with heap:=s.heap.push { cls:=.type "list",data:=.seq #[] } }) PySem.F.called_list (PySem.F.typeCall_list_1 _) PySem.F.entry_list_init
  (code_list_new _ ⟨rfl,rfl⟩) fun obj s₁ q₁=>?_
 obtain ⟨rfl,rfl⟩:=q₁;have hS:(s.heap.push { cls:=.type "list",data:=.seq #[] }).get? s.heap.objs.size=some { cls:=.type "list",data:=.seq #[] }:=cX _ rfl;refine ⟨⟨_,hS,rfl⟩,PySem.F.args_list_init_2 _ _,?_⟩;show wpAny _ _ (do let old <- Builtin.List.listItems (.ref s.heap.objs.size);Builtin.List.listUpdate (.ref s.heap.objs.size) (fun _=>#[]);letGo old.toList.reverse;Builtin.List.listExtendWith (.ref s.heap.objs.size) (.ref (N+4)) .none) _ _ _;refine aA ?_;unfold Builtin.List.listItems;refine aA (jA hS rfl (aI ?_));show wpAny _ _ (updateSeq s.heap.objs.size (fun _=>#[]) >>= fun _=>letGo (#[]:Array Value).toList.reverse >>= fun _=>Builtin.List.listExtendWith (.ref s.heap.objs.size) (.ref (N+4)) .none) _ _ _;refine aA (wpAny_updateSeq hS rfl ?_);have hS₂:=Heap.get?_update_self (Obj.mapSeq (fun _=>(#[]:Array Value))) hS rfl;have oth:∀ (b:Addr) o,s.heap.get? b=some o->((s.heap.push { cls:=.type "list",data:=.seq #[] }).update s.heap.objs.size (Obj.mapSeq (fun _=>(#[]:Array Value)))).get? b=some o :=
  fun b o e=>(Heap.get?_update_other _ _ (Nat.ne_of_gt (aX e))).trans (aU _ e)
 refine aA (wpAny_letGo ?_);refine PC (A:=A.in1) hh h1 h2 hzl hn .none _ hS₂ ⟨.inl ⟨rfl,oth _ _ hz,a,b,oth _ _ hO⟩,oth _ _ hI,⟨lY i1 fun o=>oth _ o,oK b1 fun o=>oth _ o⟩,lY i2 fun o=>oth _ o,oK b2 fun o=>oth _ o⟩ (oth _ _ hz) fun h' tk acc c as hk hS' hl hG hacc=>?_;exact ⟨rfl,hQ h' tk acc c as (fun b o hb e=>hk b o (cY (aX e)) hb (oth b o e)) hS' hl hG hacc⟩
end
end
end L2
namespace Ev
open PySem PySem.W PyProof.Rows
section
variable {i j:Nat}
def bR {α:Type} (c:Nat->Nat->Bool):KasT α->α
 | .ret a=>a
 | .ask i j k=>bR c (k (c i j))
def kok {α:Type} (n:Nat) (c:Nat->Nat->Bool):KasT α->Bool
 | .ret _=>true
 | .ask i j k=>decide (i<n)&&decide (j<n)&&kok n c (k (c i j))
section
variable {n:Nat} {c:Nat->Nat->Bool}
theorem oM {α β:Type} {f:α->KasT β}:∀ t:KasT α,bR c (t.bind f)=bR c (f (bR c t))
 | .ret _=>rfl
 | .ask i j k=>oM (k (c i j))
theorem nG {α β:Type} {f:α->KasT β}:∀ t:KasT α,kok n c t=true->kok n c (f (bR c t))=true->kok n c (t.bind f)=true
 | .ret _,_,h=>h
 | .ask i j k,h1,h2=>by rw [kok,bU] at h1;show (decide (i<n)&&decide (j<n)&&kok n c ((k (c i j)).bind f))=true;rw [h1.1,nG (k (c i j)) h1.2 h2];rfl
theorem mB {α:Type} {k:Bool->KasT α} (hi:i<n) (hj:j<n) (h:kok n c (k (c i j))=true):kok n c (.ask i j k)=true:=by rw [kok,bX hi,bX hj,h];rfl
def Pm (n:Nat) (p:Array Nat):Prop:=p.toList.Perm (List.range n)
def at' (p:Array Nat) (i:Nat):Nat:=p.getD i 0
variable {p:Array Nat}
theorem Pm.size (h:Pm n p):p.size=n:=by
 have:=List.Perm.length_eq h
 rwa [gM,List.length_range] at this
theorem pO (h:i<p.size):p[i]?=some (at' p i):=by unfold at';rw [Array.getD_eq_getD_getElem?,nS h];rfl
theorem AZ {q:Array Nat} (h:q[i]?=p[j]?):at' q i=at' p j:=by unfold at';rw [Array.getD_eq_getD_getElem?,Array.getD_eq_getD_getElem?,h]
theorem Pm.lt (h:Pm n p) (hi:i<n):at' p i<n:=by have h1:=pO (p:=p) (i:=i) (by rw [h.size];exact hi);rw [<- pC] at h1;exact List.mem_range.mp ((List.Perm.mem_iff h).mp (fT h1))
theorem Pm.ne (h:Pm n p) (hi:i<n) (hj:j<n) (hne:i≠j):at' p i≠at' p j:=fun e=>by have nd:p.toList.Nodup:=(List.Perm.nodup_iff h).mpr List.nodup_range;have h1:=pO (p:=p) (i:=i) (by rw [h.size];exact hi);have h2:=pO (p:=p) (i:=j) (by rw [h.size];exact hj);rw [<- pC] at h1 h2;rw [e,<- h2] at h1;exact hne ((List.getElem?_inj (by rw [gM,h.size];exact hi) nd).mp h1)
structure Tot (n:Nat) (c:Nat->Nat->Bool):Prop where
 tot:∀ i j,i<n->j<n->i≠j->c j i=!c i j
 tr:∀ i j k,i<n->j<n->k<n->c i j=true->c j k=true->c i k=true
def Asc (c:Nat->Nat->Bool) (p:Array Nat) (k:Nat):Prop:=∀ i j,i<j->j<k->c (at' p i) (at' p j)=true
def Dsc (c:Nat->Nat->Bool) (p:Array Nat) (k:Nat):Prop:=∀ i j,i<j->j<k->c (at' p j) (at' p i)=true
theorem Asc.grow (T:Tot n c) (P:Pm n p) {k:Nat} (h1:1<=k) (hk:k<n) (h:Asc c p k) (e:c (at' p (k-1)) (at' p k)=true):Asc c p (k+1):=fun i j hij hj=>by
 by_cases hjk:j<k
 .exact h i j hij hjk
 .obtain rfl:j=k:=by lia
  by_cases hi:i=j-1
  .rw [hi];exact e
  .exact T.tr _ _ _ (P.lt (by lia)) (P.lt (by lia)) (P.lt hk) (h i (j-1) (by lia) (by lia)) e
theorem Dsc.grow (T:Tot n c) (P:Pm n p) {k:Nat} (h1:1<=k) (hk:k<n) (h:Dsc c p k) (e:c (at' p k) (at' p (k-1))=true):Dsc c p (k+1):=fun i j hij hj=>by
 by_cases hjk:j<k
 .exact h i j hij hjk
 .obtain rfl:j=k:=by lia
  by_cases hi:i=j-1
  .rw [hi];exact e
  .exact T.tr _ _ _ (P.lt hk) (P.lt (by lia)) (P.lt (by lia)) e (h i (j-1) (by lia) (by lia))
theorem uI (T:Tot n c) (P:Pm n p):∀ (f k:Nat),1<=k->k+f<=n->Asc c p k->kok n c (kas_asc p f k)=true/\k<=bR c (kas_asc p f k)/\bR c (kas_asc p f k)<=k+f/\Asc c p (bR c (kas_asc p f k))/\(bR c (kas_asc p f k)<k+f->c (at' p (bR c (kas_asc p f k))) (at' p (bR c (kas_asc p f k)-1))=true)
 | 0,k,_,_,h=>⟨rfl,aV _,aV _,h,fun z=>absurd z (gB _)⟩
 | f+1,k,h1,hk,h=>by
  have l1:=P.lt (i:=k) (by lia);have l2:=P.lt (i:=k-1) (by lia);cases e:c (at' p k) (at' p (k-1)) with
  | true =>
   have er:bR c (kas_asc p (f+1) k)=k:=by show bR c (if c (at' p k) (at' p (k-1))=true then _ else _)=k;rw [e];rfl
   rw [er];refine ⟨mB l1 l2 ?_,aV _,by lia,h,fun _=>e⟩;show kok n c (if c (at' p k) (at' p (k-1))=true then _ else _)=true;rw [e];rfl
  | false =>
   have e':c (at' p (k-1)) (at' p k)=true:=by rw [T.tot _ _ l1 l2 (P.ne (by lia) (by lia) (by lia)),e];rfl
   obtain ⟨a1,a2,a3,a4,a5⟩:=uI T P f (k+1) (by lia) (by lia) (h.grow T P h1 (by lia) e');have er:bR c (kas_asc p (f+1) k)=bR c (kas_asc p f (k+1)):=by show bR c (if c (at' p k) (at' p (k-1))=true then _ else _)=_;rw [e];rfl
   rw [er];refine ⟨mB l1 l2 ?_,by lia,by lia,a4,fun z=>a5 (by lia)⟩;show kok n c (if c (at' p k) (at' p (k-1))=true then _ else _)=true;rw [e];exact a1
theorem BA (T:Tot n c) (P:Pm n p):∀ (f k:Nat),1<=k->k+f<=n->Dsc c p k->kok n c (kas_desc f p k 0)=true/\∃ m,bR c (kas_desc f p k 0)=(p,m,0)/\k<=m/\m<=k+f/\Dsc c p m
 | 0,k,_,_,h=>⟨rfl,k,rfl,aV _,aV _,h⟩
 | f+1,k,h1,hk,h=>by
  have l1:=P.lt (i:=k) (by lia);have l2:=P.lt (i:=k-1) (by lia);cases e:c (at' p k) (at' p (k-1)) with
  | true =>
   obtain ⟨a1,m,a2,a3,a4,a5⟩:=BA T P f (k+1) (by lia) (by lia) (h.grow T P h1 (by lia) e);refine ⟨mB l1 l2 ?_,m,?_,by lia,by lia,a5⟩
   .show kok n c (if c (at' p k) (at' p (k-1))=true then _ else _)=true;rw [e];exact a1
   .show bR c (if c (at' p k) (at' p (k-1))=true then _ else _)=_;rw [e];exact a2
  | false =>
   have e':c (at' p (k-1)) (at' p k)=true:=by rw [T.tot _ _ l1 l2 (P.ne (by lia) (by lia) (by lia)),e];rfl
   refine ⟨mB l1 l2 ?_,k,?_,aV _,by lia,h⟩
   .show kok n c (if c (at' p k) (at' p (k-1))=true then _ else _)=true;rw [e];refine mB l2 l1 ?_;show kok n c (if c (at' p (k-1)) (at' p k)=true then _ else _)=true;rw [e'];rfl
   .show bR c (if c (at' p k) (at' p (k-1))=true then _ else _)=_;rw [e];show bR c (if c (at' p (k-1)) (at' p k)=true then _ else _)=_;rw [e'];rfl
theorem PF (P:Pm n p) (m:Nat):Pm n (kas_rev p 0 m):=List.Perm.trans (Array.perm_iff_toList_perm.mp (mirror_perm p 0 m ((m-0)/2))) P
theorem PH (P:Pm n p) {m:Nat} (hm:m<=n) (h:Dsc c p m):Asc c (kas_rev p 0 m) m:=fun i j hij hj=>by
 have hs:=P.size;have g:∀ i,i<m->at' (kas_rev p 0 m) i=at' p (m-1-i):=fun i hi=>AZ (by unfold kas_rev;rw [getElem?_mirror_all (by lia),if_pos ⟨eK _,hi⟩,show 0+m-1-i=m-1-i by lia]);rw [g i (by lia),g j hj];exact h _ _ (by lia) (by lia)
theorem PJ (T:Tot n c) (P:Pm n p) (h2:2<=n):kok n c (kas_count n p)=true/\∃ m q,bR c (kas_count n p)=(m,q)/\1<=m/\m<=n/\Pm n q/\Asc c q m:=by
 obtain ⟨a1,a2,a3,a4,a5⟩:=uI T P (n-1) 1 (aV _) (by lia) (fun i j hij hj=>by lia);unfold kas_count;rw [oM];generalize hm:bR c (kas_asc p (n-1) 1)=m at *;have main:kok n c (if (m==n)=true then .ret (m,p) else if m>1 then .ask (p.getD 0 0) (p.getD (m-1) 0) fun d=>if d=true then .ret (m,p) else kas_descPart m n (kas_rev p 0 m) else kas_descPart m n p)=true/\∃ m' q,bR c (if (m==n)=true then .ret (m,p) else if m>1 then .ask (p.getD 0 0) (p.getD (m-1) 0) fun d=>if d=true then .ret (m,p) else kas_descPart m n (kas_rev p 0 m) else kas_descPart m n p)=(m',q)/\1<=m'/\m'<=n/\Pm n q/\Asc c q m':=by
  by_cases he:m=n
  .rw [if_pos (by simpa using he)];exact ⟨rfl,m,p,rfl,a2,by lia,P,a4⟩
  .rw [if_neg (by simpa using he)];by_cases h1:m>1
   .rw [if_pos h1];have e:c (at' p 0) (at' p (m-1))=true:=a4 0 (m-1) (by lia) (by lia);refine ⟨mB (P.lt (i:=0) (by lia)) (P.lt (i:=m-1) (by lia)) ?_,m,p,?_,a2,by lia,P,a4⟩
    .show kok n c (if c (at' p 0) (at' p (m-1))=true then _ else _)=true;rw [e];rfl
    .show bR c (if c (at' p 0) (at' p (m-1))=true then _ else _)=_;rw [e];rfl
   .rw [if_neg h1];obtain rfl:m=1:=by lia
    have e:=a5 (by lia);obtain ⟨b1,k,b2,b3,b4,b5⟩:=BA T P (n-(1+1)) (1+1) (by lia) (by lia) (fun i j hij hj=>by
     obtain rfl:j=1:=by lia
     obtain rfl:i=0:=by lia
     exact e)
    have P':=PF P k;obtain ⟨d1,d2,d3,d4,_⟩:=uI T P' (n-k) k (by lia) (by lia) (PH P (by lia) b5);unfold kas_descPart;rw [oM,b2];refine ⟨nG _ b1 ?_,bR c (kas_asc (kas_rev p 0 k) (n-k) k),kas_rev p 0 k,?_,by lia,by lia,P',d4⟩
    .rw [b2];exact nG _ d1 rfl
    .show bR c ((kas_asc (kas_rev p 0 k) (n-k) k).bind _)=_;rw [oM];rfl
 exact ⟨nG _ a1 (by rw [hm];exact main.1),main.2⟩
theorem uJ (T:Tot n c) (P:Pm n p) {k:Nat} (hk:k<n) (h:Asc c p k):∀ (f l r:Nat),l<=r->r<=k->r-l<=f->(∀ i,i<l->c (at' p i) (at' p k)=true)->(∀ i,r<=i->i<k->c (at' p k) (at' p i)=true) ->
  kok n c (kas_place p k f l r)=true/\bR c (kas_place p k f l r)<=k/\(∀ i,i<bR c (kas_place p k f l r)->c (at' p i) (at' p k)=true)/\∀ i,bR c (kas_place p k f l r)<=i->i<k->c (at' p k) (at' p i)=true
 | 0,l,r,h1,h2,h3,h4,h5=>⟨rfl,by show l<=k;lia,h4,fun i hi hik=>h5 i (by have:l<=i:=hi;lia) hik⟩
 | f+1,l,r,h1,h2,h3,h4,h5=>by
  by_cases hlr:l>=r
  .have er:kas_place p k (f+1) l r=.ret l:=by rw [kas_place,if_pos hlr]
   rw [er];exact ⟨rfl,by show l<=k;lia,h4,fun i hi hik=>h5 i (by have:l<=i:=hi;lia) hik⟩
  .have er:kas_place p k (f+1) l r=.ask (at' p k) (at' p ((l+r)/2)) fun d=>if d=true then kas_place p k f l ((l+r)/2) else kas_place p k f ((l+r)/2+1) r:=by rw [kas_place,if_neg hlr];rfl
   rw [er];have hm:(l+r)/2<k:=by lia
   have l1:=P.lt hk;have l2:=P.lt (i:=(l+r)/2) (by lia);have eo:∀ (b:Bool),c (at' p k) (at' p ((l+r)/2))=b->bR c (.ask (at' p k) (at' p ((l+r)/2)) fun d=>if d=true then kas_place p k f l ((l+r)/2) else kas_place p k f ((l+r)/2+1) r)=bR c (if b=true then kas_place p k f l ((l+r)/2) else kas_place p k f ((l+r)/2+1) r):=fun b e=>by rw [bR,e]
   cases e:c (at' p k) (at' p ((l+r)/2)) with
   | true =>
    obtain ⟨a1,a2,a3,a4⟩:=uJ T P hk h f l ((l+r)/2) (by lia) (by lia) (by lia) h4 fun i hi hik=>by
     by_cases q:i=(l+r)/2
     .rw [q];exact e
     .exact T.tr _ _ _ l1 l2 (P.lt (by lia)) e (h _ _ (by lia) hik)
    rw [eo _ e,if_pos rfl];exact ⟨mB l1 l2 (by rw [e,if_pos rfl];exact a1),a2,a3,a4⟩
   | false =>
    have e':c (at' p ((l+r)/2)) (at' p k)=true:=by rw [T.tot _ _ l1 l2 (P.ne (by lia) (by lia) (by lia)),e];rfl
    obtain ⟨a1,a2,a3,a4⟩:=uJ T P hk h f ((l+r)/2+1) r (by lia) h2 (by lia) (fun i hi=>by
     by_cases q:i=(l+r)/2
     .rw [q];exact e'
     .exact T.tr _ _ _ (P.lt (by lia)) l2 l1 (h _ _ (by lia) hm) e') h5
    rw [eo _ e,if_neg (by simp)];exact ⟨mB l1 l2 (by rw [e,if_neg (by simp)];exact a1),a2,a3,a4⟩
theorem BB (T:Tot n c):∀ (f:Nat) (p:Array Nat) (k:Nat),Pm n p->1<=k->k+f=n->Asc c p k->kok n c (kas_bin f p k)=true/\Pm n (bR c (kas_bin f p k))/\Asc c (bR c (kas_bin f p k)) n
 | 0,p,k,P,_,hk,h=>⟨rfl,P,by have:k=n:=hk;rw [<- this];exact h⟩
 | f+1,p,k,P,h1,hk,h=>by
  obtain ⟨a1,a2,a3,a4⟩:=uJ T P (k:=k) (by lia) h k 0 k (eK _) (aV _) (by lia) (fun i hi=>by lia) fun i hi hik=>by lia
  have er:kas_bin (f+1) p k=(kas_place p k k 0 k).bind fun l=>kas_bin f (bubble p k (k-l)) (k+1):=rfl;rw [er,oM];generalize hl:bR c (kas_place p k k 0 k)=l at *;have P':Pm n (bubble p k (k-l)):=List.Perm.trans (Array.perm_iff_toList_perm.mp (bubble_perm p k (k-l))) P;have hs:=P.size;have g:∀ i,i<k+1->at' (bubble p k (k-l)) i=at' p (if i<l then i else if i=l then k else i-1):=fun i hi=>AZ (by
   rw [getElem?_bubble (by lia) (k-l) (by lia),show k-(k-l)=l by lia];by_cases q1:i=l
   .rw [if_pos q1,if_neg (by lia),if_pos q1]
   .rw [if_neg q1];by_cases q2:i<l
    .rw [if_neg (by lia),if_pos q2]
    .rw [if_pos (by lia),if_neg q2,if_neg q1])
  obtain ⟨b1,b2,b3⟩:=BB T f (bubble p k (k-l)) (k+1) P' (by lia) (by lia) fun i j hij hj=>by
   rw [g i (by lia),g j hj];by_cases q1:j<l
   .rw [if_pos q1,if_pos (by lia)];exact h i j hij (by lia)
   .rw [if_neg q1];by_cases q2:j=l
    .rw [if_pos q2,if_pos (by lia)];exact a3 i (by lia)
    .rw [if_neg q2];by_cases q3:i<l
     .rw [if_pos q3];exact h i (j-1) (by lia) (by lia)
     .rw [if_neg q3];by_cases q4:i=l
      .rw [if_pos q4];exact a4 (j-1) (by lia) (by lia)
      .rw [if_neg q4];exact h (i-1) (j-1) (by lia) (by lia)
  exact ⟨nG _ a1 (by rw [hl];exact b1),b2,b3⟩
theorem BC (h2:2<=n) (T:Tot n c):kok n c (kas_sort n)=true/\Pm n (bR c (kas_sort n))/\(bR c (kas_sort n)).toList.Pairwise fun x y=>c x y=true:=by
 have P0:Pm n (List.toArray (List.range n)):=List.Perm.refl _;obtain ⟨a1,m,q,a2,a3,a4,a5,a6⟩:=PJ T P0 h2;have er:kas_sort n=(kas_count n (List.toArray (List.range n))).bind fun r=>if r.1<n then kas_bin (n-max r.1 1) r.2 (max r.1 1) else .ret r.2:=rfl
 have pw:∀ {q:Array Nat},Pm n q->Asc c q n->q.toList.Pairwise fun x y=>c x y=true:=fun {q} P h=>by rw [List.pairwise_iff_getElem];intro i j hi hj hij;rw [gM,P.size] at hi hj;have e:=h i j hij hj;have g1:=pO (p:=q) (i:=i) (by rw [P.size];exact hi);have g2:=pO (p:=q) (i:=j) (by rw [P.size];exact hj);rw [nS (by rw [P.size];exact hi)] at g1;rw [nS (by rw [P.size];exact hj)] at g2;rw [Array.getElem_toList,Array.getElem_toList,dE g1,dE g2];exact e
 rw [er,oM,a2];show kok n c _=true/\Pm n (bR c (if m<n then kas_bin (n-max m 1) q (max m 1) else .ret q))/\(bR c (if m<n then kas_bin (n-max m 1) q (max m 1) else .ret q)).toList.Pairwise _;by_cases hm:m<n
 .rw [if_pos hm,show max m 1=m by lia];obtain ⟨b1,b2,b3⟩:=BB T (n-m) q m a5 a3 (by lia) a6;exact ⟨nG _ a1 (by rw [a2];show kok n c (if m<n then _ else _)=true;rw [if_pos hm,show max m 1=m by lia];exact b1),b2,pw b2 b3⟩
 .rw [if_neg hm];obtain rfl:m=n:=by lia
  exact ⟨nG _ a1 (by rw [a2];show kok m c (if m<m then _ else _)=true;rw [if_neg hm];rfl),a5,pw a5 a6⟩
end
theorem uK {α:Type} {cmp:Nat->Nat->(Bool->Shared->Prop)->Shared->Prop} {c:Nat->Nat->Bool} {I:Shared->Prop} {n:Nat} (h:∀ i j C s,i<n->j<n->I s->(∀ s',I s'->C (c i j) s')->cmp i j C s) {Q:α->Shared->Prop} :
  ∀ (t:KasT α) (s:Shared),kok n c t=true->I s->(∀ s',I s'->Q (bR c t) s')->t.kasWp cmp Q s
 | .ret _,s,_,hi,q=>q s hi
 | .ask i j k,s,hk,hi,q=>by rw [kok,bU,bU,qL,qL] at hk;exact h i j _ s hk.1.1 hk.1.2 hi fun s' hi'=>uK h (k (c i j)) s' hk.2 hi' q
theorem PK {n:Nat} (h2:2<=n) {c:Nat->Nat->Bool} (tot:∀ i j,i<j->j<n->c j i=!c i j) (tr:∀ i j k,i<n->j<n->k<n->c i j=true->c j k=true->c i k=true) :
  kok n c (kas_sort n)=true/\(bR c (kas_sort n)).toList.length=n/\(∀ i,i<n->i∈(bR c (kas_sort n)).toList)/\(∀ i∈(bR c (kas_sort n)).toList,i<n)/\(bR c (kas_sort n)).toList.Pairwise fun x y=>c x y=true:=by
 obtain ⟨a,b,d⟩:=BC (c:=c) h2 ⟨fun i j hi hj hne=>by
  rcases Nat.lt_or_gt_of_ne hne with h | h
  .exact tot i j h hj
  .rw [tot j i h hi,Bool.not_not],tr⟩
 exact ⟨a,by rw [gM];exact b.size,fun i hi=>(List.Perm.mem_iff b).mpr (List.mem_range.mpr hi),fun i hi=>List.mem_range.mp ((List.Perm.mem_iff b).mp hi),d⟩
end
section
open PySem W Spec PyProof.Rows L2
section
variable {prog:Program} {w:World} {A:Around} {E:Vq} {s:Shared} {b:Bool} {Q:Bool->Shared->Prop}
theorem rQ {x y:Key} {v u:Value} (rx:aC (kV x) v) (ry:aC (kV y) u) (hs:lQ x y=true) (c:Bool) (h:Q (kLt x y) s):wpAny (model prog w) A (oneLt' c v u) Q E s:=by
 match x,y,hs with
 | .inl i,.inl j,_ =>
  obtain ⟨t,rfl⟩:=rx;obtain ⟨t',rfl⟩:=ry;cases c with
  | true=>exact kat_lt_int h
  | false=>exact kat_one _ _ (PyProof.Rows.lt_int h)
 | .inr (some i),.inr (some j),_ =>
  obtain ⟨t,rfl⟩:=rx;obtain ⟨t',rfl⟩:=ry;cases c with
  | true=>exact oneLt_str h
  | false=>exact kat_one _ _ (PyProof.Rows.lt_str h)
theorem PM {x y:Key} {v u:Value} (rx:aC (kV x) v) (ry:aC (kV y) u) (hs:lQ x y=true) (h:Q (decide (x=y)) s):wpAny (model prog w) A (eqBool v u) Q E s:=by
 match x,y,hs with
 | .inl i,.inl j,_ =>
  obtain ⟨t,rfl⟩:=rx;obtain ⟨t',rfl⟩:=ry;refine wpAny_eqBool_int ?_;have e:(i==j)=decide ((Sum.inl i:Key)=Sum.inl j):=by
   by_cases q:i=j
   .subst q;simp
   .simp [q]
  rw [e];exact h
 | .inr (some i),.inr (some j),_ =>
  obtain ⟨t,rfl⟩:=rx;obtain ⟨t',rfl⟩:=ry;refine wpAny_eqBool_str ?_;have e:decide (i=j)=decide ((Sum.inr (some i):Key)=Sum.inr (some j)):=by
   by_cases q:i=j
   .subst q;simp
   .simp [q]
  rw [e];exact h
theorem BD:∀ (ks ls:List Key) (vs us:List Value) (i:Nat),aH (ks.map kV) vs->aH (ls.map kV) us->alike ks ls=true->Q (bL ks ls) s->KatLex prog w A b false Q (vs.zip us) i s
 | [],[],vs,us,i,hv,hu,_,h=>by cases hv;exact kat_nil h
 | x::ks,y::ls,vs,us,i,hv,hu,ha,h=>by
  rw [alike,bU] at ha;cases hv with
  | cons rx hv =>
   cases hu with
   | cons ry hu =>
    rw [List.zip_cons_cons];refine kat_cons (PM rx ry ha.1 ?_);rw [bL] at h;by_cases e:x=y
    .rw [if_pos e] at h;rw [bX e];exact kat_yes (BD ks ls _ _ (i+1) hv hu ha.2 h)
    .rw [if_neg e] at h;rw [dJ e];exact kat_no (rQ rx ry ha.1 _ h)
 | [],_::_,_,_,_,_,_,ha,_=>by cases ha
 | _::_,[],_,_,_,_,_,ha,_=>by cases ha
end
end
section
open PySem L2
theorem PN {a b:Str} (h:a.cps.toList=b.cps.toList):a=b:=by obtain ⟨⟨a⟩⟩:=a;obtain ⟨⟨b⟩⟩:=b;cases (show a=b from h);rfl
theorem BE (x:Key):kLt x x=false:=by
 rcases x with a | _ | a
 .exact dJ (Int.lt_irrefl a)
 .rfl
 .exact dJ (List.lt_irrefl _)
theorem uL {x y:Key} (hs:lQ x y=true) (hn:x≠y):kLt y x=!kLt x y:=by
 match x,y,hs with
 | .inl a,.inl b,_ =>
  have:a≠b:=fun e=>hn (by rw [e]);by_cases h:a<b
  .rw [show kLt (.inl b) (.inl a)=false from dJ (by lia),show kLt (.inl a) (.inl b)=true from bX h];rfl
  .rw [show kLt (.inl b) (.inl a)=true from bX (by lia),show kLt (.inl a) (.inl b)=false from dJ h];rfl
 | .inr (some a),.inr (some b),_ =>
  have hne:a.cps.toList≠b.cps.toList:=fun e=>hn (by rw [PN e]);by_cases h:a.cps.toList<b.cps.toList
  .rw [show kLt (.inr (some b)) (.inr (some a))=false from dJ (List.lt_asymm h),show kLt (.inr (some a)) (.inr (some b))=true from bX h];rfl
  .have:b.cps.toList<a.cps.toList:=by
    rcases Nat.lt_trichotomy 0 0 with z | z | z
    .lia
    .exact Classical.byContradiction fun q=>hne (List.le_antisymm (List.not_lt.mp q) (List.not_lt.mp h))
    .lia
   rw [show kLt (.inr (some b)) (.inr (some a))=true from bX this,show kLt (.inr (some a)) (.inr (some b))=false from dJ h];rfl
theorem BF {x y z:Key} (h1:kLt x y=true) (h2:kLt y z=true):kLt x z=true:=by
 match x,y,z with
 | .inl a,.inl b,.inl c=>exact bX (Int.lt_trans (iF h1) (iF h2))
 | .inr (some a),.inr (some b),.inr (some c)=>exact bX (List.lt_trans (iF h1) (iF h2))
 | .inl _,.inr _,_=>cases h1
 | .inr none,.inl _,_=>cases h1
 | .inr (some _),.inl _,_=>cases h1
 | .inl _,.inl _,.inr _=>cases h2
 | .inr (some _),.inr (some _),.inl _=>cases h2
 | .inr none,.inr _,_=>cases h1
 | .inr (some _),.inr none,_=>cases h1
 | .inr (some _),.inr (some _),.inr none=>cases h2
theorem nH:∀ ks:List Key,bL ks ks=false
 | []=>rfl
 | x::ks=>by rw [bL,if_pos rfl];exact nH ks
theorem pP:∀ {ks ls:List Key},alike ks ls=true->ks≠ls->bL ls ks=!bL ks ls
 | [],[],_,h=>absurd rfl h
 | x::ks,y::ls,ha,h=>by
  rw [alike,bU] at ha;rw [bL,bL];by_cases e:x=y
  .subst e;rw [if_pos rfl,if_pos rfl];exact pP ha.2 fun q=>h (by rw [q])
  .rw [if_neg e,if_neg (Ne.symm e)];exact uL ha.1 e
 | [],_::_,ha,_=>by cases ha
 | _::_,[],ha,_=>by cases ha
theorem uM:∀ {a b c:List Key},alike a b=true->alike b c=true->bL a b=true->bL b c=true->bL a c=true
 | x::a,y::b,z::c,h1,h2,l1,l2=>by
  rw [alike,bU] at h1 h2;rw [bL] at l1 l2 ⊢;by_cases e1:x=y
  .subst e1;rw [if_pos rfl] at l1;by_cases e2:x=z
   .subst e2;rw [if_pos rfl] at l2 ⊢;exact uM h1.2 h2.2 l1 l2
   .rw [if_neg e2] at l2 ⊢;exact l2
  .rw [if_neg e1] at l1;by_cases e2:y=z
   .subst e2;rw [if_neg e1];exact l1
   .rw [if_neg e2] at l2;have l3:=BF l1 l2;by_cases e3:x=z
    .subst e3;rw [BE] at l3;cases l3
    .rw [if_neg e3];exact l3
 | [],_,_,_,_,l1,_=>by simp [bL] at l1
 | _::_,[],_,_,_,l1,_=>by cases l1
 | _::_,_::_,[],_,_,_,l2=>by cases l2
end
section
open PySem W Spec PyProof.Rows L2
theorem PQ {prog:Program} {w:World} {A:Around} {s:Shared} {b:Bool} {vs:List Value} {kss:List (List Key)} {Q:Array Nat->Shared->Prop} (hl:vs.length=kss.length) (h2:2<=kss.length) (nd:kss.Nodup)
  (al:∀ x∈kss,∀ y∈kss,alike x y=true)
  (hp:∀ i,i<kss.length->∃ a o qc n,vs.getD i .none=.ref a/\s.heap.get? a=some o/\o.data=.seq qc n/\aH ((kss.getD i []).map kV) qc.toList)
  (q:∀ p:Array Nat,p.toList.length=kss.length->(∀ i,i<kss.length->i∈p.toList)->(∀ i∈p.toList,i<kss.length)->(p.toList.Pairwise fun i j=>bL (kss.getD i []) (kss.getD j [])=true)->Q p s) :
  (kas_sort vs.length).kasWp (kas_ask prog w A (tuples' b) vs) Q s:=by
 rw [hl];have mem:∀ i,i<kss.length->kss.getD i []∈kss:=fun i hi=>by rw [eN,bW hi];exact gH hi
 have inj:∀ i j,i<kss.length->j<kss.length->kss.getD i []=kss.getD j []->i=j:=fun i j hi hj e=>by rw [eN,eN,bW hi,bW hj] at e;exact (List.getElem_inj nd).mp e
 have T:=PK (c:=fun i j=>bL (kss.getD i []) (kss.getD j [])) h2 (fun i j hij hj=>pP (al _ (mem i (by lia)) _ (mem j hj)) fun e=>by have:=inj i j (by lia) hj e;lia)
  fun i j k hi hj hk=>uM (al _ (mem i hi) _ (mem j hj)) (al _ (mem j hj) _ (mem k hk))
 refine uK (n:=kss.length) (c:=fun i j=>bL (kss.getD i []) (kss.getD j [])) (I:=fun s'=>s'=s) (fun i j C s' hi hj hs hC=>?_) _ s T.1 rfl (fun s' hs=>by subst hs;exact q _ T.2.1 T.2.2.1 T.2.2.2.1 T.2.2.2.2);subst hs;obtain ⟨a,o,qc,n,e1,e2,e3,e4⟩:=hp i hi;obtain ⟨a',o',its',n',f1,f2,f3,f4⟩:=hp j hj;show wpAny (model prog w) A (keyLt' (tuples' b) (vs.getD i .none) (vs.getD j .none)) C (fun _ _=>False) s';rw [e1,f1];have hz:decide (qc.size<its'.size)=false:=by
  have l1:=e4.length;have l2:=f4.length;have l3:∀ {x y:List Key},alike x y=true->x.length=y.length:=fun {x}=>by
   induction x with
   | nil=>intro y h;cases y with | nil=>rfl | cons _ _=>cases h
   | cons p x ih=>intro y h;cases y with | nil=>cases h | cons r y=>rw [alike,Bool.and_eq_true] at h;simp [ih h.2]
  have:=l3 (al _ (mem i hi) _ (mem j hj));rw [bA] at l1 l2;have s1:qc.toList.length=qc.size:=gM;have s2:its'.toList.length=its'.size:=gM;exact dJ (by rw [<- s1,<- s2,<- l1,<- l2,this];exact gB _)
 refine kat_lt e2 e3 f2 f3 ?_;rw [hz];exact BD _ _ _ _ 0 e4 f4 (al _ (mem i hi) _ (mem j hj)) (hC s' rfl)
end
section
open PySem L2
variable {l:List (List Kt)}
theorem uN {x k:List Kt}:∀ {l:List (List Kt)},x∈jU k l↔x=k\/x∈l
 | []=>by simp [jU]
 | y::r=>by
  rw [jU];split
  .simp
  .rw [oX,uN (l:=r),oX];constructor
   .rintro (h | h | h)
    .exact .inr (.inl h)
    .exact .inl h
    .exact .inr (.inr h)
   .rintro (h | h | h)
    .exact .inr (.inl h)
    .exact .inl h
    .exact .inr (.inr h)
theorem kS {x:List Kt}:∀ {l:List (List Kt)},x∈dF l↔x∈l
 | []=>by simp [dF]
 | y::r=>by rw [dF,uN,kS (l:=r),oX]
theorem BG (k:List Kt):∀ l:List (List Kt),(jU k l).length=l.length+1
 | []=>rfl
 | y::r=>by
  rw [jU];split
  .rfl
  .rw [fS,BG k r,fS]
theorem oN:∀ l:List (List Kt),(dF l).length=l.length
 | []=>rfl
 | y::r=>by rw [dF,BG,oN r,fS]
theorem BH {k:List Kt}:∀ {l:List (List Kt)},(∀ x∈l,alike k x=true/\alike x k=true/\k≠x)->(∀ x∈l,∀ y∈l,alike x y=true)->(l.Pairwise fun x y=>bL x y=true)->(jU k l).Pairwise fun x y=>bL x y=true
 | [],_,_,_=>by simp [jU]
 | x::r,ha,hb,hp=>by
  rw [jU];obtain ⟨h1,h2⟩:=jB.mp hp;split
  .rename_i hk;refine jB.mpr ⟨fun y hy=>?_,hp⟩;rcases omc hy with rfl | hy
   .exact hk
   .exact uM (ha x (.head _)).1 (hb x (.head _) y (.tail _ hy)) hk (h1 y hy)
  .rename_i hk;refine jB.mpr ⟨fun y hy=>?_,BH (fun z hz=>ha z (.tail _ hz)) (fun z hz u hu=>hb z (.tail _ hz) u (.tail _ hu)) h2⟩;rcases uN.mp hy with rfl | hy
   .have:=pP (ha x (.head _)).1 (ha x (.head _)).2.2;rw [this];cases h:bL y x with
    | true=>exact absurd h hk
    | false=>rfl
   .exact h1 y hy
theorem uO:∀ {l:List (List Kt)},l.Nodup->(∀ x∈l,∀ y∈l,alike x y=true)->(dF l).Pairwise fun x y=>bL x y=true
 | [],_,_=>by simp [dF]
 | k::r,nd,ha=>by rw [dF];obtain ⟨h1,h2⟩:=cK.mp nd;refine BH (fun x hx=>?_) (fun x hx y hy=>ha x (.tail _ (kS.mp hx)) y (.tail _ (kS.mp hy))) (uO h2 fun x hx y hy=>ha x (.tail _ hx) y (.tail _ hy));have hx:=kS.mp hx;exact ⟨ha k (.head _) x (.tail _ hx),ha x (.tail _ hx) k (.head _),fun e=>h1 (by rw [e];exact hx)⟩
theorem BI:∀ {l m:List (List Kt)},(∀ x,x∈l↔x∈m)->(∀ x∈l,∀ y∈l,alike x y=true)->(l.Pairwise fun x y=>bL x y=true)->(m.Pairwise fun x y=>bL x y=true)->l=m
 | [],[],_,_,_,_=>rfl
 | [],y::m,h,_,_,_=>absurd ((h y).mpr (.head _)) (by simp)
 | x::l,[],h,_,_,_=>absurd ((h x).mp (.head _)) (by simp)
 | x::l,y::m,h,ha,p1,p2=>by
  obtain ⟨a1,a2⟩:=jB.mp p1;obtain ⟨b1,b2⟩:=jB.mp p2;have e:x=y:=by refine Classical.byContradiction fun hne=>?_;have hx:x∈m:=(omc ((h x).mp (.head _))).resolve_left hne;have hy:y∈l:=(omc ((h y).mpr (.head _))).resolve_left (Ne.symm hne);have:=pP (ha x (.head _) y (.tail _ hy)) hne;rw [a1 y hy,b1 x hx] at this;cases this
  subst e;have ne1:∀ z∈l,z≠x:=fun z hz e=>by subst e;have:=a1 z hz;rw [nH] at this;cases this
  have ne2:∀ z∈m,z≠x:=fun z hz e=>by subst e;have:=b1 z hz;rw [nH] at this;cases this
  rw [BI (l:=l) (m:=m) (fun z=>⟨fun hz=>(omc ((h z).mp (.tail _ hz))).resolve_left (ne1 z hz),fun hz=>(omc ((h z).mpr (.tail _ hz))).resolve_left (ne2 z hz)⟩) (fun z hz u hu=>ha z (.tail _ hz) u (.tail _ hu)) a2 b2]
theorem BJ {r:List (List Kt)} (h:pF l=some r):l.length<=60/\l.Nodup/\(∀ x∈l,x≠[]/\∀ y∈l,alike x y=true)/\r=dF l:=by
 unfold pF at h;split at h
 .rename_i hc;obtain ⟨c1,c2,c3⟩:=hc;cases h;refine ⟨c1,c2,fun x hx=>?_,rfl⟩;have:=oml c3 x hx;rw [bU] at this;refine ⟨fun e=>?_,fun y hy=>oml this.2 y hy⟩;rw [e] at this;exact absurd this.1 (by simp)
 .cases h
theorem PR (nd:l.Nodup) (al:∀ x∈l,∀ y∈l,alike x y=true) {p:List Nat} (h1:∀ i,i<l.length->i∈p) (h2:∀ i∈p,i<l.length) (h3:p.Pairwise fun i j=>bL (l.getD i []) (l.getD j [])=true) :
  dF l=p.map fun i=>l.getD i []:=by
 have mem:∀ i,i<l.length->l.getD i []∈l:=fun i hi=>by rw [eN,bW hi];exact gH hi
 refine BI (fun x=>?_) (fun x hx y hy=>al x (kS.mp hx) y (kS.mp hy)) (uO nd al) (List.pairwise_map.mpr h3);rw [kS,cO];constructor
 .intro hx;obtain ⟨i,hi,rfl⟩:=List.getElem_of_mem hx;exact ⟨i,h1 i hi,by rw [eN,bW hi];rfl⟩
 .rintro ⟨i,hi,rfl⟩;exact mem i (h2 i hi)
end
section
open PySem W Spec PyProof.Rows L2
variable {Q:Option Value->Shared->Prop}
def dC (g:Heap) (d:Addr) (en:Array DictEntry) (ep:Nat):Prop:=∃ o,g.get? d=some o/\o.ExactDict/\o.data=.dict en ep
section
variable {prog:Program} {w:World} {A:Around} {E:Vq} {s:Shared} {d j:Addr} {en:Array DictEntry} {ep i:Nat}
theorem dC.ty (r:dC s.heap d en ep):s.TypeIs (.ref d) "dict":=let ⟨o,a,b,_⟩:=r;⟨o,a,b.1⟩
theorem dC.to {g g':Heap} (r:dC g d en ep) (k:∀ o,g.get? d=some o->g'.get? d=some o):dC g' d en ep:=let ⟨o,a,b⟩:=r;⟨o,k o a,b⟩
theorem BK {Q:Vq} (hm:(d==sysModules)=false) (r:dC s.heap d en ep)
  (q:Q (.ref s.heap.objs.size) { s with heap:=s.heap.push { cls:=.type "dict_keyiterator",data:=.fields #[.ref d,.int 0 0,.int en.size 0,.int ep 0] } }):wpAny (model prog w) A (pyIter (.ref d)) Q E s:=by
 obtain ⟨o,a,b,c⟩:=id r;refine wpAny_pyIter_slot r.ty PySem.F.slot_dict_iter (fF PySem.F.slot_dict_iter r.ty PySem.F.entry_dict_iter ?_ (PySem.F.args_dict_iter_1 _));unfold Builtin.«dict.__iter__»;refine aA ?_;unfold Builtin.Dict.dictSlotNone;refine aA (wpAny_notOrdered_dict r.ty ?_);show wpAny _ _ (pure (Value.ref d)) _ _ s;refine aI (show wpAny _ _ (Builtin.Dict.showsAll d >>= _) _ _ s from ?_);unfold Builtin.Dict.showsAll;rw [if_neg (by rw [hm];exact dI)];refine aA (aI (aA (mM a c (aA (wpAny_dictEpoch a c ?_)))));refine aA (iP (aI ⟨_,rfl, "dict_keyiterator",_,⟨_,cX _ rfl,rfl⟩,PySem.F.slot_dict_keyiterator_next.lookup,?_⟩));simpa [rawInt] using q
theorem BM (t:s.heap.IsKeyIter j d i en.size ep) (r:dC s.heap d en ep) (hi:i<en.size)
  (q:∀ g,g.IsKeyIter j d (i+1) en.size ep->Heap.SameBut j s.heap g->Q (some en[i].key) { s with heap:=g }):wpAny (model prog w) A (pyNext (.ref j)) Q E s:=by
 obtain ⟨o,a,b,c⟩:=id t;obtain ⟨od,ad,bd,cd⟩:=id r;unfold pyNext;refine aA (lL (iO (name:=Str.ofString "__next__") t.typeIs PySem.F.slot_dict_keyiterator_next (fF PySem.F.slot_dict_keyiterator_next t.typeIs PySem.F.entry_dict_keyiterator_next ?_ (PySem.F.args_dict_keyiterator_next_1 _))));refine aA (aI (aA (aA ?_)))
 first | refine aA (qI t.typeIs (aI (aA (lJ a c ?_)))) | refine aA (wpAny_typeNameOf_keyiter t.typeIs (aI (aA (lJ a c ?_))))
 simp only [show Builtin.Dict_items.ownsTuple "dict_keyiterator"=false by decide,pB,if_false];refine (show wpAny _ _ (if (Value.ref d==Value.none)=true then _ else _) _ _ s from ?_);rw [if_neg (show ¬ ((Value.ref d==Value.none)=true) from dI)];refine aA (aI (aA (mM ad cd ?_)));rw [if_neg (by simp)];refine aA (aI (aA (wpAny_dictEpoch ad cd ?_)));rw [if_neg (by simp)];refine aI ?_;simp only [show ¬ ((i:Int)<0) from by lia,if_false,Int.toNat_natCast,Array.getElem?_eq_getElem hi];refine aA ?_
 first | refine aA (qI t.typeIs (aI (aA (wpAny_isOneOf_keyiter t.typeIs ?_)))) | refine aA (wpAny_typeNameOf_keyiter t.typeIs (aI (aA (wpAny_isOneOf_keyiter t.typeIs ?_))))
 refine (show wpAny _ _ (setField (.ref j) 1 (rawInt ((i:Int)+1)) >>= _) _ _ s from wpAny_bind (wpAny_setField a c (by simp) ?_));have t':(s.heap.update j (Obj.mapFields (·.setIfInBounds 1 (rawInt ((i:Int)+1))))).IsKeyIter j d (i+1) en.size ep :=
  ⟨_,Heap.get?_update_self _ a (Obj.isFreed_of_fields (nW c _)),(Obj.cls_mapFields ..).trans b,by rw [nW c];simp [rawInt]⟩
 refine aA (fR (aA (wpAny_isOneOf_keyiter (s:={ s with heap:=s.heap.update j (Obj.mapFields (·.setIfInBounds 1 (rawInt ((i:Int)+1)))) }) t'.typeIs ?_)));show wpAny _ _ (pure en[i].key) _ _ _;exact aI (aI ⟨_,rfl,aI (q _ t' (kF ..))⟩)
theorem BN (hh:A.handled=none) (t:s.heap.IsKeyIter j d en.size en.size ep) (r:dC s.heap d en ep) (q:∀ g,Heap.ExtBut j s.heap g->Q none { s with heap:=g }):wpAny (model prog w) A (pyNext (.ref j)) Q E s:=by
 obtain ⟨o,a,b,c⟩:=id t;obtain ⟨od,ad,bd,cd⟩:=id r;unfold pyNext;refine aA (lL (iO (name:=Str.ofString "__next__") t.typeIs PySem.F.slot_dict_keyiterator_next (fF PySem.F.slot_dict_keyiterator_next t.typeIs PySem.F.entry_dict_keyiterator_next ?_ (PySem.F.args_dict_keyiterator_next_1 _))));refine aA (aI (aA (aA ?_)))
 first | refine aA (qI t.typeIs (aI (aA (lJ a c ?_)))) | refine aA (wpAny_typeNameOf_keyiter t.typeIs (aI (aA (lJ a c ?_))))
 simp only [show Builtin.Dict_items.ownsTuple "dict_keyiterator"=false by decide,pB,if_false];refine (show wpAny _ _ (if (Value.ref d==Value.none)=true then _ else _) _ _ s from ?_);rw [if_neg (show ¬ ((Value.ref d==Value.none)=true) from dI)];refine aA (aI (aA (mM ad cd ?_)));rw [if_neg (by simp)];refine aA (aI (aA (wpAny_dictEpoch ad cd ?_)));rw [if_neg (by simp)];refine aI ?_;simp only [show ¬ ((en.size:Int)<0) from by lia,if_false,Int.toNat_natCast,Array.getElem?_eq_none (Nat.le_refl en.size)];refine aA ?_
 first | refine aA (qI t.typeIs (aI ?_)) | refine aA (wpAny_typeNameOf_keyiter t.typeIs (aI ?_))
 refine (show wpAny _ _ (setField (.ref j) 0 .none >>= _) _ _ s from wpAny_bind (wpAny_setField a c (by simp) ?_));refine (show wpAny _ _ (newExc (.type "StopIteration") [] >>= _) _ _ _ from aA ?_);simp only [newExc,newTuple];refine aA (iP ?_ (by size_fits));refine wpAny_bind (m:=firstArgMember _ _) (wpAny_of_eq (a:=Value.none) (by first | rfl | (simp only [firstArgMember];rfl)) (wpAny_newObj_type ?_ (by size_fits)));simp only [raiseNew];refine aA (wpAny_handled ?_);rw [show A.in1.handled=none from hh];refine aA (aI (wpAny_throw ?_));exact aA (wpAny_isInstance (T:="StopIteration") (b:=true) ⟨_,cX _ rfl,rfl⟩ isSubtype_stop (aI (q _ (((kF ..).extBut.push _).push _))))
theorem PU (hh:A.handled=none) (j d:Addr) (hne:d≠j) (en:Array DictEntry) (ep:Nat) :
  Walks prog w A j [j,d] [j] en.size (fun i v=>∃ e,en[i]?=some e/\v=e.key) (fun i h=>h.IsKeyIter j d i en.size ep/\dC h d en ep) where
 sub:=fun b hb=>by simp at hb;simp [hb]
 frame:=fun _ _ _ st hk=>⟨st.1.at fun o e=>hk j (by simp) o e,st.2.to fun o e=>hk d (by simp) o e⟩
 item:=fun i s Q E hi st hQ=>BM st.1 st.2 hi fun g t' hs=>hQ _ g s.toks ⟨en[i],by simp [hi],rfl⟩ ⟨t',st.2.to fun o e=>hs.extBut d o hne e⟩ fun b o hb e=>hs.extBut b o (fun h=>hb (by simp [h])) e
 done:=fun s Q E st hQ=>BN hh st.1 st.2 fun g he=>hQ g s.toks fun b o hb e=>he b o (fun h=>hb (by simp [h])) e
 self:=fun _ _ _ _ st hQ=>wpAny_pyIter_keyiter st.1 hQ
theorem BO (lo:(d==sysModules)=false):KdlSrc prog w "dict" d d en.size (fun i v=>∃ e,en[i]?=some e/\v=e.key) (fun h=>dC h d en ep) where
 type:=fun _ r=>r.ty
 there:=fun _ r=>⟨let ⟨_,a,_⟩:=r;aX a,let ⟨_,a,_⟩:=r;aX a⟩
 keep:=fun _ _ r hk=>r.to fun o e=>hk d (.inl rfl) o e
 notList:=by decide
 notTuple:=by decide
 hint:=fun _ _ _ _ r hq=>kdl_hint_dict r.ty hq
 iter:=fun _ s hh r=>⟨_,_,(fun _ _ hq=>BK lo r hq),PU hh _ d (cY (let ⟨_,a,_⟩:=r;aX a)) en ep,⟨⟨_,cX _ rfl,rfl,rfl⟩,r.to fun o e=>aU _ e⟩⟩
end
end
section
open PySem W Spec PyProof.Rows L2
variable {g:Heap} {vs:List Value} {a:Addr}
def jM (g:Heap) (v:Value) (k:List Key):Prop:=∃ a o qc n,v=.ref a/\g.get? a=some o/\o.cls=.type "tuple"/\o.data=.seq qc n/\aH (k.map kV) qc.toList
theorem jM.to {g':Heap} {v:Value} {k:List Key} (h:jM g v k) (q:∀ a o,v=.ref a->g.get? a=some o->g'.get? a=some o):jM g' v k :=
 let ⟨a,o,qc,n,e,h1,h2⟩:=h;⟨a,o,qc,n,e,q a o e h1,h2⟩
abbrev bN (g:Heap):List Value->List (List Key)->Prop:=Paired (jM g)
theorem bN.get {g:Heap}:∀ {vs:List Value} {ks:List (List Key)},bN g vs ks->∀ i,i<ks.length->jM g (vs.getD i .none) (ks.getD i [])
 | _,_,.nil,i,h=>by simp at h
 | _,_,.cons r t,0,_=>by simpa using r
 | _,_,.cons r t,i+1,h=>by simpa using bN.get t i (by simpa using h)
theorem bN.to {g g':Heap}:∀ {vs:List Value} {ks:List (List Key)},bN g vs ks->(∀ a o,g.get? a=some o->Value.ref a∈vs->g'.get? a=some o)->bN g' vs ks
 | _,_,.nil,_=>.nil
 | _,_,.cons r t,q=>.cons (r.to fun a o e h=>q a o h (by rw [e];exact .head _)) (bN.to t fun a o h m=>q a o h (.tail _ m))
theorem bN.len {ks:List (List Key)} (h:bN g vs ks):vs.length=ks.length:=Paired.length h
theorem uP:∀ vs:List Value,(vs.zip vs).map (·.2)=vs
 | []=>rfl
 | v::vs=>by rw [List.zip_cons_cons,aS,uP vs]
theorem uQ {α:Type} (d:α) (l:List α):l=(List.range l.length).map fun i=>l.getD i d:=by
 apply List.ext_getElem?;intro i;rw [fL];by_cases hi:i<l.length
 .rw [List.getElem?_range hi,bW hi];simp [List.getD_eq_getElem?_getD,hi]
 .rw [nY (by simpa using hi),nY (by simpa using hi)];rfl
def tyK:Key->Value
 | .inl _=>.type "int"
 | .inr (some _)=>.type "str"
 | .inr none=>.type "NoneType"
theorem PV (k:Key):(tyK k==tyK k)=true:=by
 rcases k with _ | _ | _
 .show (Value.type "int"==Value.type "int")=true;decide
 .show (Value.type "NoneType"==Value.type "NoneType")=true;decide
 .show (Value.type "str"==Value.type "str")=true;decide
theorem PX {a b:Key} (h:lQ a b=true):tyK a=tyK b:=by rcases a with a | _ | a<;>rcases b with b | _ | b<;>first | rfl | cases h
section
variable {prog:Program} {w:World} {A:Around} {E:Vq} {s:Shared}
theorem PY {M:Model} {k:Key} {v:Value} (r:aC (kV k) v):Looks M g (typeOf v) (tyK k):=by
 rcases k with i | _ | x
 .obtain ⟨t,rfl⟩:=r;exact .now
 .cases r;exact .now
 .obtain ⟨t,rfl⟩:=r;exact .now
theorem BP {g:Heap} {k0:Key}:∀ {vs:List Value} {ks:List (List Key)},bN g vs ks->(∀ k∈ks,∃ a r,k=a::r/\lQ k0 a=true)->∃ fs,KatTups g vs fs/\fs.length=ks.length/\∀ v∈fs,∃ a,aC (kV a) v/\tyK a=tyK k0
 | _,_,.nil,_=>⟨[],KatTups.nil,rfl,fun _ h=>nomatch h⟩
 | _,k::ks,.cons r t,h=>by
  obtain ⟨a,o,qc,n,e,h1,h2,h3,h4⟩:=r;obtain ⟨b,q,rfl,hb⟩:=h k (.head _);obtain ⟨fs,f1,f2,f3⟩:=BP t fun k hk=>h k (.tail _ hk);rw [aS] at h4;cases hi:qc.toList with
  | nil=>rw [hi] at h4;cases h4
  | cons u us =>
   rw [hi] at h4;cases h4 with
   | cons r0 _ =>
    subst e;refine ⟨u::fs,KatTups.cons h1 h2 h3 ?_ f1,by simp [f2],fun v hv=>?_⟩
    .have:qc.toList[0]?=some u:=by rw [hi];rfl
     rwa [pC] at this
    .rcases omc hv with rfl | hv
     .exact ⟨b,r0,(PX hb).symm⟩
     .exact f3 v hv
theorem PZ {n:Nat} {kss:List (List Key)} {P:PySem.Fin->Shared->Prop} (ho:s.heap.get? a=some (seqObj "list" vs.toArray n)) (hk:bN s.heap vs kss) (ha':Value.ref a∉vs) (h5:kss.length<=60) (nd:kss.Nodup) (al:∀ x∈kss,x≠[]/\∀ y∈kss,alike x y=true)
  (h:∀ (out:List Value) (p:List Nat),(∀ i∈p,i<kss.length)->out=p.map (fun i=>vs.getD i .none)->dF kss=p.map (fun i=>kss.getD i [])->P (.done (.ret .none)) { s with heap:=sortedHeap s.heap a vs out.toArray }) :
  wpAny (model prog w) A (Builtin.«list.sort» ⟨[.ref a],[]⟩) P E s:=by
 rw [list_sort_plain];have hl:=hk.len;have ha:a<s.heap.objs.size:=aX ho;have hz:vs.toArray.size<=sizeLine:=by rw [cR,eT];lia
 refine aA (listItems_at ho rfl (aA (listUpdate_at ho rfl ?_ hz (eK _))));obtain ⟨e1,ho1⟩:∃ e1,(s.heap.update a (Obj.mapSeq fun _=>#[])).get? a=some (seqObj "list" #[] e1):=⟨_,get?_update_seq ho (fun _=>#[])⟩;refine aA (seqEpoch_at ho1 rfl (aA (wpAny_newTuple ?_ (by show vs.length<=_;rw [eT];lia))));refine aA (wpAny_newList (fR ?_) (eK _));have ho6:(((s.heap.update a (Obj.mapSeq fun _=>#[])).push (seqObj "tuple" vs.toArray 0)).push (seqObj "list" #[] 0)).get? a=some (seqObj "list" #[] e1):=aU _ (aU _ ho1);have kp:∀ b o,b≠a->s.heap.get? b=some o->(((s.heap.update a (Obj.mapSeq fun _=>#[])).push (seqObj "tuple" vs.toArray 0)).push (seqObj "list" #[] 0)).get? b=some o:=fun b o hb e =>aU _ (aU _ (by rw [nV _ _ _ _ hb];exact e));have hk':bN (((s.heap.update a (Obj.mapSeq fun _=>#[])).push (seqObj "tuple" vs.toArray 0)).push (seqObj "list" #[] 0)) vs kss:=hk.to fun b o e m=>kp b o (fun z=>ha' (by rw [<- z];exact m)) e;show wpAny (model prog w) A _ P E { s with heap:=((s.heap.update a (Obj.mapSeq fun _=>#[])).push (seqObj "tuple" vs.toArray 0)).push (seqObj "list" #[] 0) };dsimp only;by_cases h2:vs.toArray.size<2
 .rw [if_pos h2,if_pos h2];refine aA (aI ?_);rw [StateT.run_pure];refine aA (aI ?_);dsimp only;refine aA (seqEpoch_at ho6 rfl ?_);have eo:(arrOf (SortSt.mk' general' (vs.toArray.zip vs.toArray) #[] 7 none)).map (·.2)=vs.toArray:=by show (vs.toArray.zip vs.toArray).map (·.2)=vs.toArray;apply Array.toList_inj.mp;rw [Array.toList_map,Array.toList_zip];exact uP vs
  rw [eo];refine aA (listUpdate_at ho6 rfl ?_ (eK _) (by show vs.toArray.size<=_;lia));simp only [bne_self_eq_false,Bool.false_eq_true,if_false];have hv2:vs.length<2:=by simpa using h2
  have er:vs=(List.range kss.length).map fun i=>vs.getD i .none:=by rw [<- hl];exact uQ _ vs
  have es:dF kss=(List.range kss.length).map fun i=>kss.getD i []:=by
   match kss,hl with
   | [],_=>rfl
   | [k],_=>rfl
   | _::_::_,q=>rw [q] at hv2;simp at hv2;lia
  have:=h vs (List.range kss.length) (fun i hi=>by simpa using hi) er es;exact aI this
 .rw [if_neg h2,if_neg h2];have hn2:2<=kss.length:=by rw [cR] at h2;lia
  obtain ⟨k0,hk0⟩:∃ k0:Key,∀ k∈kss,∃ b r,k=b::r/\lQ k0 b=true:=by
   cases hks:kss with
   | nil=>rw [hks] at hn2;simp at hn2
   | cons x r =>
    have hx:x∈kss:=by rw [hks];exact .head _
    cases x with
    | nil=>exact absurd rfl (al _ hx).1
    | cons k0 x =>
     refine ⟨k0,fun k hk=>?_⟩;have q:=(al _ hx).2 k (by rw [hks];exact hk);cases k with
     | nil=>cases q
     | cons b r =>rw [alike,bU] at q;exact ⟨b,r,rfl,q.1⟩
  obtain ⟨fs,f1,f2,f3⟩:=BP hk' hk0;refine aA (kat_kind (T:=tyK k0) f1 (by rw [f2];lia) (fun v hv=>by obtain ⟨b,r,e⟩:=f3 v hv;rw [<- e];exact PY r) (PV k0) ?_);have ask:=PQ (prog:=prog) (w:=w) (A:=A) (s:={ s with heap:=((s.heap.update a (Obj.mapSeq fun _=>#[])).push (seqObj "tuple" vs.toArray 0)).push (seqObj "list" #[] 0) }) (b:=tyK k0 != Value.type "tuple") (vs:=vs) (kss:=kss)
   (Q:=fun p s'=>s'={ s with heap:=((s.heap.update a (Obj.mapSeq fun _=>#[])).push (seqObj "tuple" vs.toArray 0)).push (seqObj "list" #[] 0) }/\(∀ i∈p.toList,i<kss.length)/\dF kss=p.toList.map fun i=>kss.getD i []) hl hn2 nd (fun x hx y hy=>(al x hx).2 y hy)
   (fun i hi=>by obtain ⟨b,o,qc,m,e,g1,g2,g3,g4⟩:=hk'.get i hi;exact ⟨b,o,qc,m,e,g1,g3,g4⟩)
   (fun p p1 p2 p3 p4=>⟨rfl,p3,PR nd (fun x hx y hy=>(al x hx).2 y hy) p2 p3 p4⟩)
  refine aA (jO (kat_run (Q:=fun st' s'=>∃ p:Array Nat,p.size=vs.length/\arrOf st'=p.map (kas_item (vs.toArray.zip vs.toArray))/\failedOf st'=none/\s'={ s with heap:=((s.heap.update a (Obj.mapSeq fun _=>#[])).push (seqObj "tuple" vs.toArray 0)).push (seqObj "list" #[] 0) }/\(∀ i∈p.toList,i<kss.length)/\dF kss=p.toList.map fun i=>kss.getD i [])
   rfl (by lia) (by lia) (fun p' st' s' a1 a2 a3 a4=>⟨p',a1,a2,a3,a4⟩) ask) ?_ fun _ _ e=>e)
  rintro ⟨⟨⟩,st'⟩ s' ⟨p,hp,har,hf,rfl,p1,p2⟩;dsimp only;have hout:=kat_snds rfl har;refine aA (seqEpoch_at ho6 rfl ?_);rw [hout];refine aA (listUpdate_at ho6 rfl ?_ (eK _) (by show (List.toArray _).size<=_;rw [cR,bA,gM,hp,eT];lia));rw [hf];simp only [bne_self_eq_false,Bool.false_eq_true,if_false];exact aI (h _ p.toList p1 rfl p2)
theorem BQ {n:Nat} (ho:g.get? a=some (seqObj "list" vs.toArray n)) (out:Array Value):∃ c,(sortedHeap g a vs out).get? a=some (seqObj "list" out c):=by obtain ⟨e1,ho1⟩:∃ e1,(g.update a (Obj.mapSeq fun _=>#[])).get? a=some (seqObj "list" #[] e1):=⟨_,get?_update_seq ho (fun _=>#[])⟩;have ho6:(((g.update a (Obj.mapSeq fun _=>#[])).push (seqObj "tuple" vs.toArray 0)).push (seqObj "list" #[] 0)).get? a=some (seqObj "list" #[] e1):=aU _ (aU _ ho1);exact ⟨_,get?_update_seq ho6 fun _=>out⟩
theorem BR {out:Array Value} {b:Addr} {o:Obj} (hb:b≠a) (e:g.get? b=some o):(sortedHeap g a vs out).get? b=some o:=by unfold sortedHeap;rw [nV _ _ _ _ hb];exact aU _ (aU _ (by rw [nV _ _ _ _ hb];exact e))
theorem BS {g:Heap}:∀ {vs:List Value} {ks:List (List Key)},bN g vs ks->∀ b,Value.ref b∈vs->b<g.objs.size
 | _,_,.nil,_,h=>nomatch h
 | _,_,.cons r t,b,h=>by
  rcases omc h with e | h
  .obtain ⟨a,o,_,_,rfl,h1,_⟩:=r;cases e;exact aX h1
  .exact BS t b h
theorem uR {r:Value} {Q:Vq} (h:wpAny (model prog w) A.in1 (collect r) (fun vs s1=>∃ kss,bN s1.heap vs kss/\kss.length<=60/\kss.Nodup/\(∀ x∈kss,x≠[]/\∀ y∈kss,alike x y=true) /\
   ∀ (out:List Value) (p:List Nat) (c:Nat) (g:Heap),(∀ i∈p,i<kss.length)->out=p.map (fun i=>vs.getD i .none)->dF kss=p.map (fun i=>kss.getD i [])->(∀ b o,s1.heap.get? b=some o->g.get? b=some o) ->
    g.get? s1.heap.objs.size=some { cls:=.type "list",data:=.seq out.toArray c }->Q (.ref s1.heap.objs.size) { s1 with heap:=g }) E s):wpAny (model prog w) A (call (.builtin "sorted") [r]) Q E s:=by
 refine Calls.call_function_entry kind_sorted plain_sorted entry_sorted (args_sorted1 _) ?_;unfold Builtin.«sorted»;refine aA (m:=checkCount "sorted" 1 1 _) (aI ?_);refine aA (jO h (fun vs s1 x=>?_) fun _ _ e=>e);obtain ⟨kss,hk,h5,nd,al,q⟩:=x;have hl:=hk.len;refine aA (wpAny_newList ?_ (by rw [eT];lia));have hoL:(s1.heap.push (seqObj "list" vs.toArray 0)).get? s1.heap.objs.size=some (seqObj "list" vs.toArray 0):=cX _ rfl;refine aA (fR (fF slot_list_sort ⟨_,hoL,rfl⟩ entry_list_sort ?_ (args_list_sort _)));refine PZ (s:={ s1 with heap:=s1.heap.push (seqObj "list" vs.toArray 0) }) hoL (hk.to fun b o e _=>aU _ e) (fun m=>gB _ (BS hk _ m)) h5 nd al fun out p p1 p2 p3=>⟨_,rfl,?_⟩;obtain ⟨c,hc⟩:=BQ hoL out.toArray;exact aI ⟨_,rfl,q out p c _ p1 p2 p3 (fun b o e=>BR (cY (aX e)) (aU _ e)) hc⟩
end
end
section
open PySem PyProof.Rows L2
structure CmpAt (prog:Program) (w:World) (A:Around) (s:Shared) (v u:Value) (e b:Bool):Prop where
 eq:SeqAt.EqAt A s v u e
 lt:e=false->∀ (E:Vq) (Q:Vq),Q (.bool b) s->wpAny (model prog w) A (richCompare .Lt v u) Q E s
def gC:List (Bool × Bool)->Bool->Bool
 | [],d=>d
 | p::r,d=>if p.1=true then gC r d else p.2
inductive CmpL (prog:Program) (w:World) (A:Around) (s:Shared):List Value->List Value->List (Bool × Bool)->Prop
 | nilL {us}:CmpL prog w A s [] us []
 | nilR {vs}:CmpL prog w A s vs [] []
 | cons {v u vs us e b r}:CmpAt prog w A s v u e b->(e=true->CmpL prog w A s vs us r)->CmpL prog w A s (v::vs) (u::us) ((e,b)::r)
section
open PySem.SeqAt
open PySem.AutoSeq1 (wpAny_loadPart')
open PySem.MeetsSeq PySem.MeetsSeq2 PySem.MeetsSeq3
theorem QA (prog0:Program) (w0:World) (l b:Addr) (items items2:Array Value) (n n2:Nat) (dd dd2:Option Addr) (sl sl2:Array (Option Value)) (L:List (Bool × Bool)) :
  Meets (Builtin.«tuple.__lt__» ⟨[.ref l,.ref b],[]⟩)
   (fun A R s=>s.heap.get? l=some { cls:=.type "tuple",dict:=dd,data:=.seq items n,slots:=sl }/\s.heap.get? b=some { cls:=.type "tuple",dict:=dd2,data:=.seq items2 n2,slots:=sl2 } /\
    (∀ prog w,CmpL prog w A.in1 s items.toList items2.toList L)/\R (.ok (.ret (.bool (gC L (decide (items.size<items2.size)))))) s) :=
 .of_wp fun prog w A R s h=>by
  obtain ⟨hp,g,d,tk,os⟩:=s;obtain ⟨hl,hb,hc,h⟩:=h;have hc:=hc prog w;have f2:=AutoSeq1.sub_tuple_tuple
  wp_walk using wpAny_loadPart' hl,wpAny_loadPart' hb,wpAny_forIn_list _ (fun rest b s'=>b.1=none/\s'=⟨hp,g,d,tk,os⟩/\∃ (vs ws:List Value) (L':List (Bool × Bool)),rest=vs.zip ws /\
   CmpL prog w A.in1 ⟨hp,g,d,tk,os⟩ vs ws L'/\R (.ok (.ret (.bool (gC L' (decide (items.size<items2.size)))))) ⟨hp,g,d,tk,os⟩) _
  case turn =>
   rintro ⟨y,x⟩ rest b s' ⟨hb',rfl,vs,ws,L',hz,hcl,hR⟩;cases hcl with
   | nilL=>cases hz
   | nilR=>rw [List.zip_nil_right] at hz;cases hz
   | @cons v u vs us e b2 r hcm hcr =>
    rw [List.zip_cons_cons] at hz;injection hz with hyx hrest;injection hyx with hy hx;subst hy hx;refine aA (hcm.eq prog w _ _ ?_);cases e with
    | true =>
     rw [gC,if_pos rfl] at hR
     wp_walk
     exact ⟨rfl,rfl,_,_,_,hrest,hcr rfl,hR⟩
    | false =>
     rw [gC,if_neg (by simp)] at hR;have hri:=fun E Q h=>hcm.lt rfl E Q h
     wp_walk using hri
     exact ⟨_,rfl,by simpa using hR⟩
  case fin =>
   rintro ⟨b1,b2⟩ s' ⟨hb',rfl,vs,ws,L',hz,hcl,hR⟩;simp only at hb';subst hb';have hv:gC L' (decide (items.size<items2.size))=decide (items.size<items2.size):=by
    cases hcl with
    | nilL=>rfl
    | nilR=>rfl
    | cons _ _=>cases hz
   rw [hv] at hR
   wp_walk
   exact ⟨_,rfl,by simpa [Builtin.Tuple.tupleCompareSizes] using hR⟩
  case h =>exact ⟨rfl,rfl,items.toList,items2.toList,L,rfl,hc,h⟩
end
section
variable {prog:Program} {w:World} {A:Around} {s:Shared}
theorem QB {E:Vq} {l b:Addr} {items items2:Array Value} {L:List (Bool × Bool)} {Q:Vq} (hl:IsTup s.heap l items) (hb:IsTup s.heap b items2) (hc:∀ prog w,CmpL prog w A.in1 s items.toList items2.toList L)
  (hu:A.units<cLine) (h:Q (.bool (gC L (decide (items.size<items2.size)))) s):wpAny (model prog w) A (compareOp .Lt (.ref l) (.ref b)) Q E s:=by
 obtain ⟨⟨cls,dd,data,sl⟩,ho,hc1,n,hd⟩:=id hl;obtain ⟨⟨cls2,dd2,data2,sl2⟩,ho2,hc2,n2,hd2⟩:=id hb;simp only at hc1 hd hc2 hd2;subst hc1 hd hc2 hd2;refine richCompare_meets_room (op:=.Lt) ⟨_,ho,rfl⟩ ⟨_,ho2,rfl⟩ PySem.F.slot_tuple_lt PySem.F.entry_tuple_lt (PySem.F.args_tuple_lt_2 _ _) (QA prog w l b items items2 n n2 dd dd2 sl sl2 L)
  ⟨ho,ho2,?_,show Value.bool (gC L (decide (items.size<items2.size)))≠Value.notImplemented/\Q (.bool (gC L (decide (items.size<items2.size)))) s from ⟨(fun x=>nomatch x),h⟩⟩ hu
 exact hc
end
section
variable {X:Cx} {pj:Pq} {O:L2.St} {H F:Hp} {s:Shared}
theorem QC {A:Around} {n:Nat} (ih:∀ (t1 t2:T) (x y:V) (v u:Value),dpP t1 t2<=n->Rep X.K F t1 x->Rep X.K F t2 y->aC x v->aC y u->SeqAt.EqAt A s v u (eqT t1 t2))
  (il:∀ (t1 t2:T) (x y:V) (v u:Value) (b:Bool),dpP t1 t2<=n->ltD t1 t2=some b->Rep X.K F t1 x->Rep X.K F t2 y->aC x v->aC y u->∀ prog w (E Q:Vq),Q (.bool b) s->wpAny (model prog w) A (richCompare .Lt v u) Q E s) :
  ∀ (ts us:List T) (vs ws:List V) (is js:List Value) (b:Bool),dO ts us<=n->dY ts us=some b->aF X.K F ts vs->aF X.K F us ws->aH vs is->aH ws js->∃ L,(∀ prog w,CmpL prog w A s is js L)/\gC L (decide (is.length<js.length))=b:=by
 intro ts
 induction ts with
 | nil =>
  intro us vs ws is js b hd hl r1 r2 v1 v2;cases r1;cases v1;refine ⟨[],fun _ _=>.nilL,?_⟩;cases hl;have e:js.length=us.length:=by rw [<- v2.length,r2.length]
  cases us with
  | nil=>rw [gC,e];rfl
  | cons _ _=>rw [gC,e];simp
 | cons t ts ih' =>
  intro us vs ws is js b hd hl r1 r2 v1 v2;obtain ⟨x,vr,rfl,q1,r1⟩:=r1;cases v1 with
  | cons a1 v1 =>
   cases us with
   | nil =>cases r2;cases v2;cases hl;exact ⟨[],fun _ _=>.nilR,by rw [gC];simp⟩
   | cons u us =>
    obtain ⟨y,wr,rfl,q2,r2⟩:=r2;cases v2 with
    | cons a2 v2 =>
     have hm:max (dpP t u) (dO ts us)<=n:=by rw [dO] at hd;exact hd
     have h1:=cG (Nat.le_max_left _ _) hm;have he:=ih t u x y _ _ h1 q1 q2 a1 a2;have hl':(if eqT t u=true then dY ts us else ltD t u)=some b:=by rw [dY] at hl;exact hl
     cases e:eqT t u with
     | true =>rw [e] at he;rw [e,if_pos rfl] at hl';obtain ⟨L,c1,c2⟩:=ih' us _ _ _ _ b (cG (Nat.le_max_right _ _) hm) hl' r1 r2 v1 v2;refine ⟨(true,false)::L,fun prog w=>.cons ⟨he,fun z=>by cases z⟩ fun _=>c1 prog w,?_⟩;rw [gC,if_pos rfl,<- c2];congr 1;simp
     | false =>rw [e] at he;rw [e,if_neg (by simp)] at hl';exact ⟨[(false,b)],fun prog w=>.cons ⟨he,fun _ E Q q=>il t u x y _ _ b h1 hl' q1 q2 a1 a2 prog w E Q q⟩ (fun z=>by cases z),by rw [gC,if_neg (by simp)]⟩
theorem QD (I:Inv X pj O H s) (fh:Same F H):∀ (n:Nat) (A:Around) (t1 t2:T) (x y:V) (v u:Value) (b:Bool),A.units+n<cLine->dpP t1 t2<=n->ltD t1 t2=some b->Rep X.K F t1 x->Rep X.K F t2 y->aC x v->aC y u->∀ prog w (E Q:Vq),Q (.bool b) s->wpAny (model prog w) A (richCompare .Lt v u) Q E s:=by
 have flat:∀ (A:Around) (t1 t2:T) (x y:V) (v u:Value) (b:Bool),(∀ a c,t1=.tup a->t2=.tup c->False)->ltD t1 t2=some b->Rep X.K F t1 x->Rep X.K F t2 y->aC x v->aC y u->∀ prog w (E Q:Vq),Q (.bool b) s->wpAny (model prog w) A (richCompare .Lt v u) Q E s:=by
  intro A t1 t2 x y v u b hne hl r1 r2 rx ry prog w E Q q;cases t1 with
  | int a =>
   cases t2 with
   | int c =>cases r1;cases r2;obtain ⟨t,rfl⟩:=rx;obtain ⟨t',rfl⟩:=ry;cases (show some (decide (a<c))=some b from hl);exact (PyProof.Rows.lt_int q:wpAny (model prog w) A (compareOp .Lt (.int a t) (.int c t')) Q E s)
   | _=>exact absurd (show none=some b from hl) (by simp)
  | str a =>
   cases t2 with
   | str c =>cases r1;cases r2;obtain ⟨t,rfl⟩:=rx;obtain ⟨t',rfl⟩:=ry;cases (show some (decide (a.cps.toList<c.cps.toList))=some b from hl);exact (PySem.P.lt_str q:wpAny (model prog w) A (compareOp .Lt (.str a t) (.str c t')) Q E s)
   | _=>exact absurd (show none=some b from hl) (by simp)
  | tup a =>
   cases t2 with
   | tup c=>exact (hne a c rfl rfl).elim
   | _=>exact absurd (show none=some b from hl) (by simp)
  | _=>exact absurd (show none=some b from hl) (by simp)
 intro n
 induction n with
 | zero =>intro A t1 t2 x y v u b hA hd hl r1 r2 rx ry;refine flat A t1 t2 x y v u b (fun a c e1 e2=>?_) hl r1 r2 rx ry;subst e1 e2;rw [dpP] at hd;lia
 | succ n ih =>
  intro A t1 t2 x y v u b hA hd hl r1 r2 rx ry;by_cases hq:∃ a c,t1=.tup a/\t2=.tup c
  .obtain ⟨a,c,rfl,rfl⟩:=hq;rw [dpP] at hd;obtain ⟨l1,vs1,its1,rfl,rfl,_,q1,w1,p1⟩:=iH I fh r1 rx;obtain ⟨l2,vs2,its2,rfl,rfl,_,q2,w2,p2⟩:=iH I fh r2 ry;obtain ⟨L,c1,c2⟩:=QC (A:=A.in1) (n:=n) (fun t1 t2 x y v u h a b c d=>rL I fh n A.in1 t1 t2 x y v u (show A.units+1+n<cLine by lia) h a b c d)
    (fun t1 t2 x y v u b h1 h2 h3 h4 h5 h6=>ih A.in1 t1 t2 x y v u b (show A.units+1+n<cLine by lia) h1 h2 h3 h4 h5 h6) a c vs1 vs2 its1 its2 b (by lia) (show dY a c=some b from hl) q1 q2 w1 w2
   intro prog w E Q q;have h:=QB (prog:=prog) (w:=w) (A:=A) (E:=E) (Q:=Q) (L:=L) p1 p2 (by simpa using c1) (by lia) (by
    have e1:its1.toArray.size=its1.length:=by simp
    have e2:its2.toArray.size=its2.length:=by simp
    rw [e1,e2,c2];exact q)
   exact h
  .exact flat A t1 t2 x y v u b (fun a c e1 e2=>hq ⟨a,c,e1,e2⟩) hl r1 r2 rx ry
end
end
section
open PySem W Spec PyProof.Rows L2
variable {Q:Bool->Shared->Prop} {n:Nat}
section
variable {X:Cx} {pj:Pq} {O:L2.St} {H F:Hp} {s:Shared}
def flS:T->T->Bool
 | .int _,.int _=>true
 | .str _,.str _=>true
 | _,_=>false
theorem QE {prog:Program} {w:World} {A:Around} {t1 t2:T} {x y:V} {v u:Value} {b:Bool} (hf:flS t1 t2=true) (hl:ltD t1 t2=some b) (r1:Rep X.K F t1 x) (r2:Rep X.K F t2 y) (rx:aC x v) (ry:aC y u) (h:Q b s):wpAny (model prog w) A (oneLt' true v u) Q (fun _ _=>False) s:=by
 cases t1 with
 | int i =>
  cases t2 with
  | int j =>cases r1;cases r2;obtain ⟨t,rfl⟩:=rx;obtain ⟨t',rfl⟩:=ry;cases (show some (decide (i<j))=some b from hl);exact kat_lt_int h
  | _=>cases hf
 | str i =>
  cases t2 with
  | str j =>cases r1;cases r2;obtain ⟨t,rfl⟩:=rx;obtain ⟨t',rfl⟩:=ry;cases (show some (decide (i.cps.toList<j.cps.toList))=some b from hl);exact oneLt_str h
  | _=>cases hf
 | _=>cases hf
theorem QF {prog:Program} {w:World} (I:Inv X pj O H s) (fh:Same F H) {A:Around} (hA:A.units+n<cLine) {sh:Bool} :
  ∀ (ts us:List T) (vs ws:List V) (is js:List Value) (i:Nat) (b fin:Bool),dO ts us<=n->dY ts us=some b->(sh=true->i=0->∀ x y r q,ts=x::r->us=y::q->flS x y=true)->fin=decide (is.length<js.length)->aF X.K F ts vs->aF X.K F us ws->aH vs is->aH ws js->Q b s->KatLex prog w A sh fin Q (is.zip js) i s:=by
 intro ts
 induction ts with
 | nil =>
  intro us vs ws is js i b fin hd hl hs hfin r1 r2 v1 v2 q;cases r1;cases v1;rw [List.zip_nil_left];refine kat_nil ?_;cases hl;have e:js.length=us.length:=by rw [<- v2.length,r2.length]
  rw [hfin,e];cases us with
  | nil=>exact q
  | cons _ _=>simpa using q
 | cons t ts ih =>
  intro us vs ws is js i b fin hd hl hs hfin r1 r2 v1 v2 q;obtain ⟨x,vr,rfl,q1,r1⟩:=r1;cases v1 with
  | cons a1 v1 =>
   cases us with
   | nil =>cases r2;cases v2;cases hl;rw [List.zip_nil_right];refine kat_nil ?_;rw [hfin];simpa using q
   | cons u us =>
    obtain ⟨y,wr,rfl,q2,r2⟩:=r2;cases v2 with
    | cons a2 v2 =>
     have hm:max (dpP t u) (dO ts us)<=n:=by rw [dO] at hd;exact hd
     have h1:=cG (Nat.le_max_left _ _) hm;have he:=rL I fh n A t u x y _ _ hA h1 q1 q2 a1 a2;have hl':(if eqT t u=true then dY ts us else ltD t u)=some b:=by rw [dY] at hl;exact hl
     rw [List.zip_cons_cons];refine kat_cons (he prog w _ _ ?_);cases e:eqT t u with
     | true =>rw [e,if_pos rfl] at hl';exact kat_yes (ih us _ _ _ _ (i+1) b fin (Nat.le_trans (Nat.le_max_right _ _) hm) hl' (fun _ z=>by lia) (by rw [hfin];simp) r1 r2 v1 v2 q)
     | false =>
      rw [e,if_neg (by simp)] at hl';refine kat_no ?_;cases hq:(sh&&i==0) with
      | true =>rw [bU] at hq;exact QE (hs hq.1 (by simpa using hq.2) t u ts us rfl rfl) hl' q1 q2 a1 a2 q
      | false=>exact kat_one _ _ (QD I fh n A t u x y _ _ b hA h1 hl' q1 q2 a1 a2 prog w _ _ q)
end
section
variable {prog:Program} {w:World} {A:Around} {E:Vq} {s:Shared}
def uS (prog:Program) (w:World) (A:Around) (vs:List Value) (c:Nat->Nat->Bool) (s:Shared):Prop :=
 ∃ (sh:Bool) (fs:List Value) (Tv:Value),KatTups s.heap vs fs/\0<fs.length/\(∀ v∈fs,Looks (model prog w) s.heap (typeOf v) Tv)/\(Tv==Tv)=true/\(Tv != Value.type "tuple")=sh /\
  ∀ Q:Array Nat->Shared->Prop,(∀ p:Array Nat,Pm vs.length p->(p.toList.Pairwise fun i j=>c i j=true)->Q p s)->(kas_sort vs.length).kasWp (kas_ask prog w A (tuples' sh) vs) Q s
theorem QG {R:Nat->Nat->Prop} (h:n<2):(List.range n).Pairwise R:=by
 match n,h with
 | 0,_=>exact .nil
 | 1,_=>exact List.pairwise_singleton _ _
theorem QH {a:Addr} {vs:List Value} {c:Nat->Nat->Bool} {P:PySem.Fin->Shared->Prop} (ho:s.heap.get? a=some (seqObj "list" vs.toArray n)) (h60:vs.length<=60)
  (hk:2<=vs.length->∀ g:Heap,(∀ b o,b≠a->s.heap.get? b=some o->g.get? b=some o)->uS prog w A vs c { s with heap:=g })
  (h:∀ p:List Nat,p.Perm (List.range vs.length)->(p.Pairwise fun i j=>c i j=true)->P (.done (.ret .none)) { s with heap:=sortedHeap s.heap a vs (p.map fun i=>vs.getD i .none).toArray }) :
  wpAny (model prog w) A (Builtin.«list.sort» ⟨[.ref a],[]⟩) P E s:=by
 rw [list_sort_plain];have ha:a<s.heap.objs.size:=aX ho;have hz:vs.toArray.size<=sizeLine:=by rw [cR,eT];lia
 refine aA (listItems_at ho rfl (aA (listUpdate_at ho rfl ?_ hz (eK _))));obtain ⟨e1,ho1⟩:∃ e1,(s.heap.update a (Obj.mapSeq fun _=>#[])).get? a=some (seqObj "list" #[] e1):=⟨_,get?_update_seq ho (fun _=>#[])⟩;refine aA (seqEpoch_at ho1 rfl (aA (wpAny_newTuple ?_ (by show vs.length<=_;rw [eT];lia))));refine aA (wpAny_newList (fR ?_) (eK _));have ho6:(((s.heap.update a (Obj.mapSeq fun _=>#[])).push (seqObj "tuple" vs.toArray 0)).push (seqObj "list" #[] 0)).get? a=some (seqObj "list" #[] e1):=aU _ (aU _ ho1);have kp:∀ b o,b≠a->s.heap.get? b=some o->(((s.heap.update a (Obj.mapSeq fun _=>#[])).push (seqObj "tuple" vs.toArray 0)).push (seqObj "list" #[] 0)).get? b=some o:=fun b o hb e =>aU _ (aU _ (by rw [nV _ _ _ _ hb];exact e));show wpAny (model prog w) A _ P E { s with heap:=((s.heap.update a (Obj.mapSeq fun _=>#[])).push (seqObj "tuple" vs.toArray 0)).push (seqObj "list" #[] 0) };dsimp only;by_cases h2:vs.toArray.size<2
 .rw [if_pos h2,if_pos h2];refine aA (aI ?_);rw [StateT.run_pure];refine aA (aI ?_);dsimp only;refine aA (seqEpoch_at ho6 rfl ?_);have eo:(arrOf (SortSt.mk' general' (vs.toArray.zip vs.toArray) #[] 7 none)).map (·.2)=vs.toArray:=by show (vs.toArray.zip vs.toArray).map (·.2)=vs.toArray;apply Array.toList_inj.mp;rw [Array.toList_map,Array.toList_zip];exact uP vs
  rw [eo];refine aA (listUpdate_at ho6 rfl ?_ (eK _) (by show vs.toArray.size<=_;lia));simp only [bne_self_eq_false,Bool.false_eq_true,if_false];have hv2:vs.length<2:=by simpa using h2
  have:=h (List.range vs.length) (List.Perm.refl _) (QG hv2);rw [<- uQ] at this;exact aI this
 .rw [if_neg h2,if_neg h2];have hn2:2<=vs.length:=by rw [cR] at h2;lia
  obtain ⟨sh,fs,Tv,f1,f2,f3,f4,f5,ask⟩:=hk hn2 _ kp;refine aA (kat_kind (T:=Tv) f1 f2 f3 f4 ?_);rw [f5];have ask:=ask (fun p s'=>s'={ s with heap:=((s.heap.update a (Obj.mapSeq fun _=>#[])).push (seqObj "tuple" vs.toArray 0)).push (seqObj "list" #[] 0) }/\Pm vs.length p/\p.toList.Pairwise fun i j=>c i j=true) fun p p1 p2=>⟨rfl,p1,p2⟩;refine aA (jO (kat_run (Q:=fun st' s'=>∃ p:Array Nat,p.size=vs.length/\arrOf st'=p.map (kas_item (vs.toArray.zip vs.toArray))/\failedOf st'=none/\s'={ s with heap:=((s.heap.update a (Obj.mapSeq fun _=>#[])).push (seqObj "tuple" vs.toArray 0)).push (seqObj "list" #[] 0) }/\Pm vs.length p/\p.toList.Pairwise fun i j=>c i j=true)
   rfl (by lia) (by lia) (fun p' st' s' a1 a2 a3 a4=>⟨p',a1,a2,a3,a4⟩) ask) ?_ fun _ _ e=>e)
  rintro ⟨⟨⟩,st'⟩ s' ⟨p,hp,har,hf,rfl,p1,p2⟩;dsimp only;have hout:=kat_snds rfl har;refine aA (seqEpoch_at ho6 rfl ?_);rw [hout];refine aA (listUpdate_at ho6 rfl ?_ (eK _) (by show (List.toArray _).size<=_;rw [cR,bA,gM,hp,eT];lia));rw [hf];simp only [bne_self_eq_false,Bool.false_eq_true,if_false];exact aI (h p.toList p1 p2)
theorem QI {r:Value} {Q:Vq} (h:wpAny (model prog w) A.in1 (collect r) (fun vs s1=>vs.length<=60/\∃ c:Nat->Nat->Bool,
   (2<=vs.length->∀ (A':Around) (g:Heap),A'.units<=A.units+5->(∀ b o,s1.heap.get? b=some o->g.get? b=some o)->uS prog w A' vs c { s1 with heap:=g }) /\
   ∀ (p:List Nat) (k:Nat) (g:Heap),p.Perm (List.range vs.length)->(p.Pairwise fun i j=>c i j=true)->(∀ b o,s1.heap.get? b=some o->g.get? b=some o) ->
    g.get? s1.heap.objs.size=some { cls:=.type "list",data:=.seq (p.map fun i=>vs.getD i .none).toArray k }->Q (.ref s1.heap.objs.size) { s1 with heap:=g }) E s):wpAny (model prog w) A (call (.builtin "sorted") [r]) Q E s:=by
 refine Calls.call_function_entry kind_sorted plain_sorted entry_sorted (args_sorted1 _) ?_;unfold Builtin.«sorted»;refine aA (m:=checkCount "sorted" 1 1 _) (aI ?_);refine aA (jO h (fun vs s1 x=>?_) fun _ _ e=>e);obtain ⟨h60,c,hk,q⟩:=x;refine aA (wpAny_newList ?_ (by rw [eT];lia));have hoL:(s1.heap.push (seqObj "list" vs.toArray 0)).get? s1.heap.objs.size=some (seqObj "list" vs.toArray 0):=cX _ rfl;refine aA (fR (fF slot_list_sort ⟨_,hoL,rfl⟩ entry_list_sort ?_ (args_list_sort _)));refine QH (c:=c) (s:={ s1 with heap:=s1.heap.push (seqObj "list" vs.toArray 0) }) hoL h60 (fun h2 g hg=>hk h2 _ g ?_ fun b o e=>hg b o (cY (aX e)) (aU _ e)) fun p p1 p2=>⟨_,rfl,?_⟩
 .show _<=A.units+5
  first | exact Nat.le_add_right _ _ | (show A.units+1<=A.units+5;lia) | (show A.units+2<=A.units+5;lia) | (show A.units+3<=A.units+5;lia)
 .obtain ⟨k,hc⟩:=BQ hoL (p.map fun i=>vs.getD i .none).toArray;exact aI ⟨_,rfl,q p k _ p1 p2 (fun b o e=>BR (cY (aX e)) (aU _ e)) hc⟩
end
end
section
open PySem W Spec PyProof.Rows L2
variable {l:List T}
theorem QJ {x y:T}:cD x y=true↔ltD x y=some true:=by unfold cD;exact mO
def kdT:Nat->Value
 | 0=>.type "int"
 | 1=>.type "str"
 | _=>.type "tuple"
noncomputable def kdV (a:T):Option Value:=(kdN a).map kdT
theorem OkN.kdv (h:OkN l):∃ Tv,∀ x∈l,∃ a r,x=.tup (a::r)/\kdV a=some Tv :=
 let ⟨n,hk⟩:=h.kd;⟨kdT n,fun x hx=>let ⟨a,r,e,k⟩:=hk x hx;⟨a,r,e,by unfold kdV;rw [k];rfl⟩⟩
theorem uT (x:T):∀ l:List T,(oC x l).Perm (x::l)
 | []=>.refl _
 | y::r=>by
  rw [oC];split
  .exact .refl _
  .exact ((uT x r).cons y).trans (.swap x y r)
theorem jH:∀ l:List T,(fU l).Perm l
 | []=>.refl _
 | x::r=>(uT x (fU r)).trans ((jH r).cons x)
theorem BT {x:T}:∀ {l:List T},(l.Pairwise fun a b=>cD a b=true)->(∀ y∈l,cD y x=!cD x y)->(∀ y∈l,∀ z∈l,cD x y=true->cD y z=true->cD x z=true)->(oC x l).Pairwise fun a b=>cD a b=true
 | [],_,_,_=>List.pairwise_singleton _ _
 | y::r,h,ht,hr=>by
  rw [jB] at h;rw [oC];split
  .rename_i hc;refine jB.mpr ⟨fun z hz=>?_,jB.mpr h⟩;rcases omc hz with rfl | hz
   .exact hc
   .exact hr y (.head _) z (.tail _ hz) hc (h.1 z hz)
  .rename_i hc;refine jB.mpr ⟨fun z hz=>?_,BT h.2 (fun z hz=>ht z (.tail _ hz)) fun z hz z' hz'=>hr z (.tail _ hz) z' (.tail _ hz')⟩;rcases omc ((uT x r).mem_iff.mp hz) with rfl | hz
   .rw [ht y (.head _)];simpa using hc
   .exact h.1 z hz
theorem pQ:∀ {l:List T},(l.Pairwise fun x y=>cD y x=!cD x y)->(∀ x∈l,∀ y∈l,∀ z∈l,cD x y=true->cD y z=true->cD x z=true)->(fU l).Pairwise fun a b=>cD a b=true
 | [],_,_=>.nil
 | x::r,h,ht=>by rw [jB] at h;have m:∀ {y},y∈fU r->y∈r:=fun {y} hy=>(jH r).mem_iff.mp hy;exact BT (pQ h.2 fun a ha b hb c hc=>ht a (.tail _ ha) b (.tail _ hb) c (.tail _ hc)) (fun y hy=>h.1 y (m hy)) fun y hy z hz=>ht x (.head _) y (.tail _ (m hy)) z (.tail _ (m hz))
theorem uU {R:T->T->Prop}:∀ {l m:List T},l.Pairwise R->m.Pairwise R->(∀ x∈l,∀ y∈l,R x y->R y x->False)->l.Perm m->l=m
 | [],m,_,_,_,p=>(List.Perm.nil_eq p)
 | x::l,m,h1,h2,ha,p=>by
  cases m with
  | nil=>exact absurd p.symm (by simp)
  | cons y m =>
   rw [jB] at h1 h2;have e:x=y:=by
    have hx:=p.mem_iff.mp (cW (a:=x) (l:=l));have hy:=p.mem_iff.mpr (cW (a:=y) (l:=m));rcases omc hx with e | hx
    .exact e
    .rcases omc hy with e | hy
     .exact e.symm
     .exact (ha x (.head _) y (.tail _ hy) (h1.1 y hy) (h2.1 x hx)).elim
   subst e;rw [uU h1.2 h2.2 (fun a b c d=>ha a (.tail _ b) c (.tail _ d)) (List.Perm.cons_inv p)]
theorem QK {t:T} (h:lT l=some t):OkN l/\t=.lst (fU l):=by
 unfold lT at h;split at h
 .rename_i hk;exact ⟨hk,(dE h).symm⟩
 .cases h
theorem OkN.at (h:OkN l) {i j:Nat} (hi:i<l.length) (hj:j<l.length) (hne:i≠j):cD (l.getD j .non) (l.getD i .non)=!cD (l.getD i .non) (l.getD j .non):=by
 have g:∀ {i},(hi:i<l.length)->l.getD i .non=l[i]:=fun {i} hi=>by rw [eN,bW hi];rfl
 have pw:=List.pairwise_iff_getElem.mp h.tot;rw [g hi,g hj];rcases Nat.lt_or_gt_of_ne hne with q | q
 .exact pw i j hi hj q
 .rw [pw j i hj hi q,Bool.not_not]
theorem OkN.asym (h:OkN l) {i j:Nat} (hi:i<l.length) (hj:j<l.length) (h1:cD (l.getD i .non) (l.getD j .non)=true) (hne:i≠j):cD (l.getD j .non) (l.getD i .non)=false:=by rw [h.at hi hj hne,h1];rfl
theorem QL (h:OkN l) {p:List Nat} (hp:p.Perm (List.range l.length)) (pw:p.Pairwise fun i j=>cD (l.getD i .non) (l.getD j .non)=true):fU l=p.map fun i=>l.getD i .non:=by
 have e:l=(List.range l.length).map fun i=>l.getD i .non:=uQ _ l;have pm:(p.map fun i=>l.getD i .non).Perm l:=by have:=hp.map fun i=>l.getD i .non;rw [<- e] at this;exact this
 refine uU (pQ h.tot h.tr) (List.pairwise_map.mpr pw) (fun x hx y hy h1 h2=>?_) ((jH l).trans pm.symm);obtain ⟨i,hi,rfl⟩:=List.getElem_of_mem ((jH l).mem_iff.mp hx);obtain ⟨j,hj,rfl⟩:=List.getElem_of_mem ((jH l).mem_iff.mp hy);have g:∀ {i},(hi:i<l.length)->l.getD i .non=l[i]:=fun {i} hi=>by rw [eN,bW hi];rfl
 by_cases q:i=j
 .subst q;have hb:=pQ h.tot h.tr;have:=List.pairwise_iff_getElem.mp hb;exact absurd h1 (by
   have irr:cD l[i] l[i]≠true:=fun z=>by
    have t2:ltD l[i] l[i]=some true:=QJ.mp z;exact absurd t2 (by
     obtain ⟨Tv,hk⟩:=h.kdv;obtain ⟨a,r,ea,_⟩:=hk _ (gH hi);rw [ea];have dp:=h.dp _ (gH hi) _ (gH hi);rw [ea] at dp;have refl:∀ xs:List T,dO xs xs<20000->dY xs xs=some false:=fun xs=>by
      induction xs with
      | nil=>intro _;rfl
      | cons x xs ih =>intro hd;rw [dO] at hd;rw [dY];show (if eqT x x=true then dY xs xs else ltD x x)=some false;rw [rD x (by lia),if_pos rfl];exact ih (by lia)
     show dY (a::r) (a::r)≠some true;rw [refl _ (by rw [dpP] at dp;lia)];simp)
   exact irr)
 .have:=h.asym hi hj (by rw [g hi,g hj];exact h1) q;rw [g hi,g hj] at this;rw [this] at h2;cases h2
end
section
open PySem W Spec PyProof.Rows L2
variable {Tv:Value} {qc:List Value}
section
variable {X:Cx} {pj:Pq} {O:L2.St} {H F:Hp} {s:Shared}
theorem QM {a:T} (h:kdV a=some Tv):(Tv==Tv)=true:=by
 cases a<;>cases h
 .show (Value.type "int"==Value.type "int")=true;decide
 .show (Value.type "str"==Value.type "str")=true;decide
 .show (Value.type "tuple"==Value.type "tuple")=true;decide
theorem QN {M:Model} (I:Inv X pj O H s) (fh:Same F H) {a:T} (h:kdV a=some Tv) {x:V} {u:Value} (r:Rep X.K F a x) (ru:aC x u):Looks M s.heap (typeOf u) Tv:=by
 cases a with
 | int i=>cases h;cases r;obtain ⟨t,rfl⟩:=ru;exact .now
 | str i=>cases h;cases r;obtain ⟨t,rfl⟩:=ru;exact .now
 | tup xs =>cases h;obtain ⟨p,ws,jts,rfl,rfl,_,_,_,o,h1,h2,_⟩:=iH I fh r ru;show Looks M s.heap (typeOf (Value.ref p)) (Value.type "tuple");rw [<- h2];exact (Looks.ld h1).andThen .now
 | _=>cases h
theorem QO {M:Model} (I:Inv X pj O H s) (fh:Same F H):∀ {xs:List T} {vs:List V} {qc:List Value},(∀ x∈xs,∃ a r,x=.tup (a::r)/\kdV a=some Tv)->aF X.K F xs vs->aH vs qc ->
  ∃ fs,KatTups s.heap qc fs/\fs.length=xs.length/\∀ v∈fs,Looks M s.heap (typeOf v) Tv:=by
 intro xs
 induction xs with
 | nil =>intro vs qc _ r rv;cases r;cases rv;exact ⟨[],KatTups.nil,rfl,fun _ h=>nomatch h⟩
 | cons x xs ih =>
  intro vs qc hx r rv;obtain ⟨v,vr,rfl,r1,r2⟩:=r;cases rv with
  | cons a1 rv =>
   obtain ⟨fs,f1,f2,f3⟩:=ih (fun y hy=>hx y (.tail _ hy)) r2 rv;obtain ⟨a,q,rfl,hk⟩:=hx x (.head _);obtain ⟨p,ws,jts,rfl,rfl,_,g1,g2,o,h1,h2,n,h3⟩:=iH I fh r1 a1;obtain ⟨w0,wr,rfl,k1,k2⟩:=g1;cases g2 with
   | cons b1 b2 =>
    refine ⟨_::fs,KatTups.cons h1 h2 h3 (by simp;rfl) f1,by simp [f2],fun v hv=>?_⟩;rcases omc hv with rfl | hv
    .exact QN I fh hk k1 b1
    .exact f3 v hv
theorem at_N (I:Inv X pj O H s) (fh:Same F H) {xs:List T} {vs:List V} (r:aF X.K F xs vs) (rv:aH vs qc) {i:Nat} (hi:i<xs.length) {ys:List T} (hx:xs.getD i .non=.tup ys) :
  ∃ p o ws n jts,qc.getD i .none=.ref p/\s.heap.get? p=some o/\o.data=.seq jts n/\aF X.K F ys ws/\aH ws jts.toList:=by
 have e1:xs[i]?=some (.tup ys):=by rw [eN,bW hi] at hx;rw [bW hi];exact aW some hx
 obtain ⟨v,hv,r1⟩:=r.get e1;obtain ⟨u,hu,ru⟩:=rv.get hv;obtain ⟨p,ws,jts,rfl,rfl,_,g1,g2,o,h1,_,n,h3⟩:=iH I fh r1 ru;exact ⟨p,o,ws,n,jts.toArray,by rw [List.getD_eq_getElem?_getD,hu];rfl,h1,h3,g1,by simpa using g2⟩
theorem QP (I:Inv X pj O H s) (fh:Same F H) {A:Around} (hA:A.units+20<cLine) {xs:List T} {vs:List V} (ok:OkN xs) (r:aF X.K F xs vs) (rv:aH vs qc) (h2:2<=qc.length) :
  uS X.prog X.w A qc (fun i j=>cD (xs.getD i .non) (xs.getD j .non)) s:=by
 have hl:qc.length=xs.length:=by rw [<- rv.length,r.length]
 obtain ⟨Tv,hk⟩:=ok.kdv;obtain ⟨fs,f1,f2,f3⟩:=QO (M:=model X.prog X.w) I fh hk r rv;have mem:∀ {i},i<xs.length->xs.getD i .non∈xs:=fun {i} hi=>by rw [eN,bW hi];exact gH hi
 obtain ⟨a0,_,_,k0⟩:=hk _ (mem (i:=0) (by lia));refine ⟨Tv != Value.type "tuple",fs,Tv,f1,by lia,f3,QM k0,rfl,fun Q q=>?_⟩;have T:=BC (n:=qc.length) (c:=fun i j=>cD (xs.getD i .non) (xs.getD j .non)) h2 ⟨fun i j hi hj hne=>ok.at (by lia) (by lia) hne,fun i j k hi hj hk'=>ok.tr _ (mem (by lia)) _ (mem (by lia)) _ (mem (by lia))⟩;refine uK (n:=qc.length) (c:=fun i j=>cD (xs.getD i .non) (xs.getD j .non)) (I:=fun s'=>s'=s) (fun i j C s' hi hj hs hC=>?_) _ s T.1 rfl (fun s' hs=>by subst hs;exact q _ T.2.1 T.2.2);subst hs;have hi':i<xs.length:=by lia
 have hj':j<xs.length:=by lia
 obtain ⟨a,ra,ea,ka⟩:=hk _ (mem hi');obtain ⟨b,rb,eb,kb⟩:=hk _ (mem hj');obtain ⟨p,o,ws,n,jts,e1,e2,e3,e4,e5⟩:=at_N I fh r rv hi' ea;obtain ⟨p',o',ws',n',jts',g1,g2,g3,g4,g5⟩:=at_N I fh r rv hj' eb;obtain ⟨bb,hb⟩:=ok.lt _ (mem hi') _ (mem hj');have dp:=ok.dp _ (mem hi') _ (mem hj');have ec:cD (xs.getD i .non) (xs.getD j .non)=bb:=by unfold cD;rw [hb];cases bb<;>rfl
 have hC:=hC s' rfl;simp only [ec] at hC;rw [ea,eb] at hb dp;show wpAny (model X.prog X.w) A (keyLt' (tuples' (Tv != Value.type "tuple")) (qc.getD i .none) (qc.getD j .none)) C (fun _ _=>False) s';rw [e1,g1];refine kat_lt e2 e3 g2 g3 ?_;refine QF I fh hA (a::ra) (b::rb) _ _ _ _ 0 bb _ (by rw [dpP] at dp;lia) (show dY (a::ra) (b::rb)=some bb from hb) (fun hs _ x y rx ry ex ey=>?_) (by simp) e4 g4 e5 g5 hC;cases ex;cases ey;cases a with
 | int _=>cases ka;cases b<;>first | rfl | (cases kb;done) | (exact absurd (dE kb) (by intro z;injection z with z;exact absurd z (by decide)))
 | str _=>cases ka;cases b<;>first | rfl | (cases kb;done) | (exact absurd (dE kb) (by intro z;injection z with z;exact absurd z (by decide)))
 | tup _=>cases ka;exact absurd hs (by decide)
 | _=>cases ka
theorem BU {K:W.Frag} {F:Hp} {xs:List T} {vs:List V} (r:aF K F xs vs):∀ {p:List Nat},(∀ i∈p,i<xs.length)->aF K F (p.map fun i=>xs.getD i .non) (p.map fun i=>vs.getD i .non)
 | [],_=>rfl
 | i::p,h=>by have hi:=h i (.head _);obtain ⟨v,hv,r1⟩:=r.get (bW hi);refine ⟨vs.getD i .non,_,rfl,?_,BU r fun j hj=>h j (.tail _ hj)⟩;show Rep K F (xs.getD i .non) (vs.getD i .non);rw [eN,eN,hv,bW hi];exact r1
theorem BW {vs:List V} {qc:List Value} (r:aH vs qc):∀ {p:List Nat},(∀ i∈p,i<vs.length)->aH (p.map fun i=>vs.getD i .non) (p.map fun i=>qc.getD i .none)
 | [],_=>.nil
 | i::p,h=>by have hi:=h i (.head _);obtain ⟨u,hu,ru⟩:=r.get (bW hi);refine .cons ?_ (BW r fun j hj=>h j (.tail _ hj));show aC (vs.getD i .non) (qc.getD i .none);rw [eN,eN,hu,bW hi];exact ru
theorem QQ (hu:X.A.units+100<cLine):jR X (.builtin "sorted") (fun zs H Q=>∃ F xs t x,zs=[x]/\Same F H/\Rep X.K F (.lst xs) x/\lT xs=some t/\∀ v F' H',Step F H F' H'->Rep X.K F' t v->Q v H'):=by
 intro pj s O H zs us Q I r h;obtain ⟨F,xs,t,x,rfl,fh,r1,ht,q⟩:=h;obtain ⟨u,rfl,ru⟩:=jS r;obtain ⟨ok,rfl⟩:=QK ht;obtain ⟨l,vs,rfl,g1,g2⟩:=r1;cases ru;obtain ⟨qc,rv,pl,hz⟩:=I.list (Ls.same fh g1).sq;have hl:qc.length=xs.length:=by rw [<- rv.length,g2.length]
 have hv:vs.length=xs.length:=g2.length;have hkp:∀ b o,s.heap.get? b=some o->((s.heap.push (seqObj "list" #[] 0)).update s.heap.objs.size (Obj.mapSeq (·++qc.toArray))).get? b=some o:=fun b o e=>by rw [nV _ _ _ _ (cY (aX e))];exact aU _ e
 have I1:L2.Inv X pj O H { s with heap:=(s.heap.push (seqObj "list" #[] 0)).update s.heap.objs.size (Obj.mapSeq (·++qc.toArray)),toks:=s.toks }:=I.kept hkp;refine QI (collect_list pl.isList ⟨by rw [hl];exact ok.len,fun i j=>cD (xs.getD i .non) (xs.getD j .non),fun h2 A' g hA' hk=>?_,fun p k g p1 p2 hk hD=>?_⟩ (by rw [<- rv.length];exact hz))
 .have I2:L2.Inv X pj O H { s with heap:=g,toks:=s.toks }:=I1.kept hk;exact QP I2 fh (by lia) ok g2 rv h2
 .generalize hS:({ s with heap:=(s.heap.push (seqObj "list" #[] 0)).update s.heap.objs.size (Obj.mapSeq (·++qc.toArray)) }:Shared)=s1 at *;have hn:H s1.heap.objs.size=none:=I1.hok.fresh (aV _);have pl':∀ i∈p,i<xs.length:=fun i hi=>by have:=List.mem_range.mp (p1.mem_iff.mp hi);lia
  have rv':=BW rv (p:=p) fun i hi=>by rw [hv];exact pl' i hi
  have hp:p.length<=60:=by rw [p1.length_eq,List.length_range,hl];exact ok.len
  have I3:=I1.laid (a:=s1.heap.objs.size) (o:=.lst (p.map fun i=>vs.getD i .non)) (t':=s1.toks) hk (aV _) ⟨by rw [bA,eT];lia,_,k,rv',hD⟩;have st:=(Step.refl fh).new (o:=.lst (p.map fun i=>vs.getD i .non)) hn;refine ⟨.ref s1.heap.objs.size,_,I3,rfl,q _ _ _ st ⟨_,_,rfl,Ls.of cC,?_⟩⟩;rw [QL ok (by rw [<- hl];exact p1) p2];exact (BU g2 pl').mono st.ff
end
end
section
open PySem W Spec PyProof.Rows L2
variable {as:List Addr}
theorem QR {K:W.Frag} {F:Hp} (k:Kt):Rep K F (kT k) (kV k):=by rcases k with _ | _ | _<;>rfl
theorem BX {K:W.Frag} {F:Hp}:∀ ks:List Kt,aF K F (ks.map kT) (ks.map kV)
 | []=>rfl
 | k::ks=>⟨_,_,rfl,QR k,BX ks⟩
theorem BY {K:W.Frag} {F:Hp} {as:List Addr} {kss:List (List Kt)} (hF:∀ i,i<kss.length->F (as.getD i 0)=some (.tup ((kss.getD i []).map kV))):∀ {p:List Nat},(∀ i∈p,i<kss.length) ->
  aF K F ((p.map fun i=>kss.getD i []).map tkT) (p.map fun i=>V.ref (as.getD i 0))
 | [],_=>rfl
 | i::p,h=>⟨_,_,rfl,⟨_,_,rfl,hF i (h i (.head _)),BX _⟩,BY hF fun j hj=>h j (.tail _ hj)⟩
section
variable {X:Cx} {pj:Pq} {O:L2.St} {F1 H1:Hp} {s1:Shared} {Q:VK}
theorem uV (I1:L2.Inv X pj O H1 s1) (fh:Same F1 H1) {kss:List (List Kt)} (hl:as.length=kss.length) (hF:∀ i,i<kss.length->F1 (as.getD i 0)=some (.tup ((kss.getD i []).map kV))) {p:List Nat} {out:List Value} {c:Nat} {g:Heap}
  (p1:∀ i∈p,i<kss.length) (p2:out=p.map (fun i=>(as.map Value.ref).getD i .none)) (p3:dF kss=p.map (fun i=>kss.getD i [])) (h5:kss.length<=60) (kp:∀ b o,s1.heap.get? b=some o->g.get? b=some o)
  (hD:g.get? s1.heap.objs.size=some { cls:=.type "list",data:=.seq out.toArray c }) (q:∀ v F' H',Step F1 H1 F' H'->Rep X.K F' (.lst ((dF kss).map tkT)) v->Q v H'):EP X pj O Q (.ref s1.heap.objs.size) { s1 with heap:=g }:=by
 have hn:H1 s1.heap.objs.size=none:=I1.hok.fresh (aV _);have hp:p.length=kss.length:=by rw [<- oN kss,p3,bA]
 have rv:aH (p.map fun i=>V.ref (as.getD i 0)) out:=by
  subst p2;clear p3 hD hp
  induction p with
  | nil=>exact .nil
  | cons i p ih =>
   refine .cons ?_ (ih fun j hj=>p1 j (.tail _ hj));have hi:i<as.length:=by rw [hl];exact p1 i (.head _)
   show (as.map Value.ref).getD i .none=Value.ref (as.getD i 0);simp [hi]
 have I2:=I1.laid (a:=s1.heap.objs.size) (o:=.lst (p.map fun i=>V.ref (as.getD i 0))) (t':=s1.toks) kp (aV _) ⟨by rw [bA,hp,eT];lia,out,c,rv,hD⟩;have st:=(Step.refl fh).new (o:=.lst (p.map fun i=>V.ref (as.getD i 0))) hn;refine ⟨.ref s1.heap.objs.size,_,I2,rfl,q _ _ _ st ⟨_,_,rfl,Ls.of cC,?_⟩⟩;rw [p3];exact BY (fun i hi=>st.ff _ _ (hF i hi)) p1
theorem BZ {H:Hp}:∀ {ws:Kq} {zs:List (List Key × Addr × Value)},KT H ws zs->∀ i,i<ws.length->H ((zs.map (·.2.1)).getD i 0)=some (.tup (((ws.map (·.1)).getD i []).map kV))
 | _,_,.nil,i,h=>by simp at h
 | _,_,.cons r t,0,_=>by simpa using r.2.1
 | _,_,.cons r t,i+1,h=>by simpa using BZ t i (by simpa using h)
theorem uW {P:Program} {w:World} {H:Hp} {g:Heap} (ok:∀ a xs,H a=some (.tup xs)->∃ qc:List Value,aH xs qc/\IsTup g a qc.toArray):∀ {as:List Addr} {kss:List (List Kt)},as.length=kss.length->(∀ i,i<kss.length->H (as.getD i 0)=some (.tup ((kss.getD i []).map kV)))->bN g (as.map Value.ref) kss
 | [],[],_,_=>.nil
 | a::as,k::ks,hl,h=>by refine .cons ?_ (uW (P:=P) (w:=w) ok (by simpa using hl) fun i hi=>by simpa using h (i+1) (by simpa using hi));obtain ⟨qc,rv,o,h1,h2,n,h3⟩:=ok a (k.map kV) (by simpa using h 0 (by simp));exact ⟨a,o,qc.toArray,n,rfl,h1,h2,h3,by simpa using rv⟩
theorem CA {F H:Hp} (fh:Same F H) (h:∀ a∈as,∃ xs,H a=some (.tup xs)):∃ F1,Step F H F1 H/\∀ a∈as,F1 a=H a:=by
 refine ⟨fun b=>if b∈as then H b else F b,⟨SameT.refl H,fun b o e=>?_,fun b o e=>?_,fun b z=>?_⟩,fun a ha=>by simp [ha]⟩
 .by_cases hb:b∈as
  .simp [hb,fh b o e]
  .simp [hb,e]
 .by_cases hb:b∈as
  .simpa [hb] using e
  .simp [hb] at e;exact fh b o e
 .by_cases hb:b∈as
  .exact .inr (.inr (h b hb))
  .simp [hb] at z;exact .inl z
theorem QS {i:Nat} (h:i<as.length):as.getD i 0∈as:=by rw [eN,bW h];exact gH h
theorem CB {X:Cx} {pj:Pq} {O:L2.St} {H:Hp} {s:Shared} (I:L2.Inv X pj O H s) {g:Heap} (k:∀ b o,s.heap.get? b=some o->g.get? b=some o):∀ a xs,H a=some (.tup xs)->∃ qc:List Value,aH xs qc/\IsTup g a qc.toArray:=fun a xs h=>by obtain ⟨_,qc,r,o,h1,h2⟩:=(show aN X.prog X.w H s.heap a (.tup xs) from I.hok a _ h);exact ⟨qc,r,o,k a o h1,h2⟩
theorem CC {K:W.Frag} {F:Hp}:∀ {ts:List T} {vs:List V} {kss:List (List Kt)},aF K F ts vs->mT ts=some kss->∃ as:List Addr,vs=as.map V.ref/\as.length=kss.length/\∀ i,i<kss.length->F (as.getD i 0)=some (.tup ((kss.getD i []).map kV))
 | [],_,_,r,h=>by cases r;cases h;exact ⟨[],rfl,rfl,fun i hi=>by simp at hi⟩
 | t::ts,_,_,r,h=>by
  obtain ⟨v,vr,rfl,r1,r2⟩:=r;obtain ⟨k,h1,h⟩:=obs h;obtain ⟨ks,h2,h⟩:=obs h;cases h;obtain ⟨as,rfl,e1,e2⟩:=CC r2 h2;cases t with
  | tup xs =>
   obtain ⟨a,ws,rfl,g1,g2⟩:=r1;have:=lX g2 h1;subst this;refine ⟨a::as,rfl,by simp [e1],fun i hi=>?_⟩;cases i with
   | zero=>simpa using g1
   | succ i=>simpa using e2 i (by simpa using hi)
  | _=>cases h1
theorem CD:∀ {as:List Addr} {us:List Value},aH (as.map V.ref) us->us=as.map Value.ref
 | [],_,r=>by cases r;rfl
 | a::as,_,r=>by
  cases r with
  | cons h t=>cases h;rw [CD t];rfl
theorem QT (hu:X.A.units+100<cLine) (hcalm:X.calm=true):jR X (.builtin "sorted") (fun xs H Q=>∃ F t1 t x,xs=[x]/\Same F H/\Rep X.K F t1 x/\bO .sorted t1=some t/\∀ v F' H',Step F H F' H'->Rep X.K F' t v->Q v H'):=by
 intro pj s O H xs us Q I r h;obtain ⟨F,t1,t,x,rfl,fh,r1,ht,q⟩:=h;obtain ⟨u,rfl,ru⟩:=jS r;have hh:X.A.handled=none:=I.ok.hd hcalm;cases t1 with
 | dt ks ts =>
  obtain ⟨a,ws,rfl,g1,g2,g3⟩:=r1;cases ru;simp only [bO,kN] at ht;obtain ⟨l,hl,rfl⟩:=oms ht;obtain ⟨h5,nd,al,rfl⟩:=BJ hl;obtain ⟨z,lo,zs,rel,o,es,ep,e1,e2,e3,e4,e5,e6⟩:=kR I.hok (jW fh g1);subst g2;have hlz:ws.length=zs.length:=Paired.length rel;have hle:es.size=zs.length:=by rw [<- gM,e4,bA]
  have hln:(zs.map (·.2.1)).length=(ws.map (·.1)).length:=by simp [hlz]
  have hA:∀ i,i<(ws.map (·.1)).length->H ((zs.map (·.2.1)).getD i 0)=some (.tup (((ws.map (·.1)).getD i []).map kV)):=fun i hi=>BZ rel i (by simpa using hi);refine uR (kdu_collect (A:=X.A.in1) (BO (en:=es) (ep:=ep) lo) hh ⟨o,e1,e2,e3⟩ (by rw [hle,<- hlz];exact z) fun h' tk acc hk hacc=>?_);have ea:acc.toList=(zs.map (·.2.1)).map Value.ref:=by
   apply List.ext_getElem?;intro i;by_cases hi:i<zs.length
   .have hi':i<acc.size:=by rw [hacc.1,hle];exact hi
    obtain ⟨e,he,hv⟩:=hacc.2 i acc[i] (by simp [hi']);rw [pC,nS hi',hv,cH,fL,bW hi];rw [<- pC,e4,fL,bW hi] at he;cases he;rfl
   .rw [nY (by rw [Array.length_toList,hacc.1,hle];lia),nY (by simp;lia)]
  refine ⟨ws.map (·.1),?_,h5,nd,al,fun out p c g p1 p2 p3 kp hD=>?_⟩
  .rw [ea];exact uW (P:=X.prog) (w:=X.w) (CB I hk) hln hA
  .have I1:L2.Inv X pj O H { s with heap:=h',toks:=tk }:=I.kept hk;obtain ⟨F1,st,hF⟩:=CA fh (as:=zs.map (·.2.1)) fun b hb=>by obtain ⟨i,hi,rfl⟩:=List.getElem_of_mem hb;have:=hA i (by rw [<- hln];exact hi);rw [eN,bW hi] at this;exact ⟨_,this⟩
   rw [ea] at p2;exact uV (s1:={ s with heap:=h',toks:=tk }) I1 st.fh hln (fun i hi=>by rw [hF _ (QS (by rw [hln];exact hi))];exact hA i hi) p1 p2 p3 h5 kp hD fun v F' H' st' r'=>q v F' H' (st.trans st') r'
 | dk ks ts =>
  cases ks with
  | cons _ _=>cases ht
  | nil =>
   cases ht;obtain ⟨a,ws,rfl,g1,g2,g3⟩:=r1;cases ru;have hws:ws=[]:=by cases ws with | nil=>rfl | cons _ _=>simp at g2
   subst hws;obtain ⟨z,lo,vs,rel,o,es,ep,e1,e2,e3,_,e4,_⟩:=rC I.hok (fh _ _ g1);cases rel;have hle:es.size=0:=by have:=e4.length;rw [gM] at this;simpa using this
   refine uR (kdu_collect (A:=X.A.in1) (BO (en:=es) (ep:=ep) lo) hh ⟨o,e1,e2,e3⟩ (by rw [hle];exact eK _) fun h' tk acc hk hacc=>?_);have ea:acc.toList=([]:List Addr).map Value.ref:=by have:=hacc.1;rw [hle] at this;exact List.length_eq_zero_iff.mp (by rw [gM];exact this)
   refine ⟨[],by rw [ea];exact .nil,by simp,gK,fun x hx=>(nomatch hx),fun out p c g p1 p2 p3 kp hD=>?_⟩;have I1:L2.Inv X pj O H { s with heap:=h',toks:=tk }:=I.kept hk;rw [ea] at p2;exact uV (s1:={ s with heap:=h',toks:=tk }) (as:=[]) (kss:=[]) I1 fh rfl (fun i hi=>absurd hi (Nat.not_lt_zero _)) p1 p2 p3 (by simp) kp hD q
 | lst ts =>
  have ht:(match (mT ts).bind kN with
   | some r=>some r
   | none=>lT ts)=some t:=ht
  split at ht
  rotate_left
  .exact QQ hu pj s O H _ _ Q I r ⟨F,ts,t,x,rfl,fh,r1,ht,q⟩
  rename_i r0 hr0;cases ht;have ht:=hr0;obtain ⟨l,vs,rfl,g1,g2⟩:=r1;cases ru;obtain ⟨kss,hk,ht⟩:=obs ht;simp only [kN] at ht;obtain ⟨l',hl,rfl⟩:=oms ht;obtain ⟨h5,nd,al,rfl⟩:=BJ hl;obtain ⟨as,rfl,hln,hA⟩:=CC g2 hk;obtain ⟨qc,rv,pl,hz⟩:=I.list (Ls.same fh g1).sq;have:=CD rv;subst this;have hkp:∀ b o,s.heap.get? b=some o->((s.heap.push (seqObj "list" #[] 0)).update s.heap.objs.size (Obj.mapSeq (·++(as.map Value.ref).toArray))).get? b=some o:=fun b o e=>by rw [nV _ _ _ _ (cY (aX e))];exact aU _ e
  refine uR (collect_list pl.isList ⟨kss,uW (P:=X.prog) (w:=X.w) (CB I hkp) hln (fun i hi=>fh _ _ (hA i hi)),h5,nd,al,fun out p c g p1 p2 p3 kp hD=>?_⟩ (by rw [bA,hln,eT];lia));have I1:L2.Inv X pj O H { s with heap:=(s.heap.push (seqObj "list" #[] 0)).update s.heap.objs.size (Obj.mapSeq (·++(as.map Value.ref).toArray)),toks:=s.toks }:=I.kept hkp;exact uV I1 fh hln hA p1 p2 p3 h5 kp hD q
 | _=>cases ht
end
end
section
open PySem Spec PyProof.Rows L2
end
section
open PySem Spec PyProof.Rows L2
abbrev tkd (prog:Program) (w:World):=tupleKind (eQ prog w)
end
section
open PySem Spec PyProof.Rows L2
section
variable {prog:Program} {w:World}
theorem rR {g g':Heap} {k:List Key} {a:Addr} (h:IsTupleKey (eQ prog w) g k a) (q:∀ o,g.get? a=some o->g'.get? a=some o):IsTupleKey (eQ prog w) g' k a :=
 let ⟨o,qc,n,h1,h2⟩:=h;⟨o,qc,n,q o h1,h2⟩
end
end
end Ev
namespace L2
open PySem Spec PyProof.Rows
section
end
section
end
end L2
namespace Ev
open PySem Spec PyProof.Rows L2
section
end
section
open PySem W Spec PyProof.Rows L2
variable {xs:List (List Key × Addr × Value)}
theorem CF:entryFor table "dict.update.loop"=some Builtin.«dict.update.loop»:=entryFor_of_tree (by kernel_rfl)
theorem rS:plainId "dict.update.loop"=true:=by decide +kernel
section
variable {prog:Program} {w:World} {A:Around} {R:Result->Shared->Prop} {I:Addr} {fp wr:List Addr} {G:Array GenState->Array GenState->Prop} {P:Nat->Value->Prop} {St:Nat->Shared->Prop}
def oO (ky:Nat->List Key) (ka:Nat->Addr) (us:Nat->Value):Nat->List (List Key × Addr × Value)
 | 0=>[]
 | i+1=>storedH (oO ky ka us i) (ky i) (ka i) (us i)
theorem QU {k:List Key} {a:Addr} {v:Value}:(storedH xs k a v).length<=xs.length+1:=by unfold storedH;split<;>simp
theorem CG {ky:Nat->List Key} {ka:Nat->Addr} {us:Nat->Value}:∀ i,(oO ky ka us i).length<=i
 | 0=>aV _
 | i+1=>cG QU (mP (CG i))
theorem uX {ky:Nat->List Key} {ka:Nat->Addr} {us:Nat->Value}:∀ i {x},x∈oO ky ka us i->∃ j,j<i/\x.1=ky j/\x.2.1=ka j
 | 0,_,h=>nomatch h
 | i+1,x,h=>by
  rw [oO] at h;unfold storedH at h;split at h
  .obtain ⟨y,hy,e⟩:=omm h;obtain ⟨j,hj,e1,e2⟩:=uX i hy;refine ⟨j,by lia,?_⟩;unfold putAt at e;split at e<;>(subst e;exact ⟨e1,e2⟩)
  .rcases oma h with h | h
   .obtain ⟨j,hj,e⟩:=uX i h;exact ⟨j,by lia,e⟩
   .rw [omg h];exact ⟨i,by lia,rfl,rfl⟩
theorem QV {g g':Heap} {D:Addr} (h:g.DictOfH (tkd prog w) D xs) (hD:∀ o,g.get? D=some o->g'.get? D=some o) (hk:∀ x∈xs,∀ o,g.get? x.2.1=some o->g'.get? x.2.1=some o):g'.DictOfH (tkd prog w) D xs:=by obtain ⟨o,es,ep,ho,hc,hd,he,his,hn⟩:=h;exact ⟨o,es,ep,hD o ho,hc,hd,he,fun x hx=>rR (his x hx) fun o e=>hk x hx o e,hn⟩
theorem QW {n:Nat} {pr:Nat->Addr} {ke us:Nat->Value} {DP:Nat->Heap->Prop} (W:WalksS prog w A.in1 I fp wr G n P St) (D:Addr) (hf:D∉fp) (hv:∀ i,i<n->∀ v,P i v->v=.ref (pr i)) (hnw:∀ i,i<n->pr i∉wr) (hnD:∀ i,i<n->pr i≠D)
  (hk:∀ i g g',i<=n->DP i g->(∀ b o,b∉wr->g.get? b=some o->g'.get? b=some o)->DP i g')
  (hset:∀ (i:Nat) (s:Shared) (B:Around) (E:Vq) (Q:Unit->Shared->Prop),B.units=A.in1.units->i<n->DP i s.heap->(∀ h' tk,s.toks<=tk->DP (i+1) h'->Heap.SameBut D s.heap h'->Q () { s with heap:=h',toks:=tk })->wpAny (model prog w) B (dictSet D (ke i) (us i)) Q E s) :
  ∀ (k i:Nat) (s:Shared),n-i=k->i<=n->St i s->(∀ j,j<n->IsTup s.heap (pr j) #[ke j,us j])->DP i s.heap ->
   (∀ s',Moved (D::wr) G s s'->DP n s'.heap->R (.ok (.ret .none)) s')->codeAny (model prog w) A (.builtin "dict.update.loop" ⟨[.ref D,.ref I,rawInt i,.none],[]⟩) R s:=by
 have hw:D∉wr:=fun z=>hf (W.sub _ z);have hsu:∀ c∈wr,c∈D::wr:=fun c hc=>cL _ hc;intro k
 induction k with
 | zero =>
  intro i s e1 e2 st ht hd r;have e3:i=n:=by lia
  subst e3;refine codeAny_builtin CF (show wpAny _ _ _ _ _ _ from ?_);rw [Around.under_plainId rS _];show wpAny _ A.in1 (pyNext (.ref I) >>= _) _ _ s;refine aA (W.done s _ _ st fun s1 mv=>?_);show wpAny _ A.in1 (Builtin.Dict.addKeywords D [] >>= fun _=>ret Value.none) _ _ s1;exact aA (show wpAny _ _ (pure ()) _ _ _ from aI (aI (r s1 (mv.mono hsu) (hk _ _ _ (aV _) hd fun b o hb e=>mv.heap b o hb e))))
 | succ k ih =>
  intro i s e1 e2 st ht hd r;have lt:i<n:=by lia
  refine codeAny_builtin CF (show wpAny _ _ _ _ _ _ from ?_);rw [Around.under_plainId rS _];show wpAny _ A.in1 (pyNext (.ref I) >>= _) _ _ s;refine aA (W.item i s _ _ lt st fun v s1 hP st1 mv=>?_);obtain rfl:=hv i lt v hP;dsimp only;obtain ⟨o,h1,h2,m,h3⟩:=ht i lt;have g1:s1.heap.get? (pr i)=some o:=mv.heap _ o (hnw i lt) h1;refine aA (fR (aA (wpAny_tryCatch ?_)));unfold Builtin.Dict.pairItems;refine aA (Looks.here (show Looks _ s1.heap (typeOf (.ref (pr i))) o.cls from (Looks.ld g1).andThen .now) ?_);rw [h2,if_pos (by decide)];refine aA (Looks.here (show Looks _ s1.heap (seqItems? (.ref (pr i))) (some #[ke i,us i]) from (Looks.ld g1).andThen (by rw [h3];exact .now)) (aI ?_));show wpAny _ _ (holding [ke i,us i] (dictSet D (ke i) (us i))) _ _ s1;refine fR (hset i s1 _ _ _ rfl lt (hk _ _ _ e2 hd fun b o hb e=>mv.heap b o hb e) fun h' tk htk dd' hs=>?_);refine aI ⟨plainId_quiet rS _,ih (i+1) _ (by lia) lt ?_ (fun j hj=>?_) dd' fun s2 mv2 d2=>r s2 ?_ d2⟩
  .exact W.frame _ s1 _ _ st1 htk fun c hc o e=>by show h'.get? c=some o;rw [hs.2 c fun z:c=D=>hf (by rw [<- z];exact hc)];exact e
  .obtain ⟨o',q1,q2,q3⟩:=ht j hj;exact ⟨o',by show h'.get? (pr j)=some o';rw [hs.2 _ (hnD j hj)];exact mv.heap _ o' (hnw j hj) q1,q2,q3⟩
  .refine Moved.trans W.gtrans ((mv.mono hsu).then_heap htk fun c o hc e=>?_) mv2;rw [hs.2 c fun z:c=D=>hc (by rw [z];exact cW)];exact e
end
end
section
open PySem W Spec PyProof.Rows L2
theorem QX:typeLookup (.type "list") "keys"=pure none:=by rw [typeLookup_type,builtinLookup_eq_fast];kernel_rfl
theorem QY:typeLookup (.type "list") "__getattr__"=pure none:=by rw [typeLookup_type,builtinLookup_eq_fast];kernel_rfl
section
variable {prog:Program} {w:World} {A:Around} {E:Vq} {a:Addr} {xs:Array Value} {n:Nat} {sl:Array (Option Value)}
theorem QZ {s:Shared} {Q:Option Value->Shared->Prop} (hx:s.heap.get? a=some { cls:=.type "list",dict:=none,data:=.seq xs n,slots:=sl }) (hA:A.handled=none)
  (h:∀ h' tk,(∀ b o,s.heap.get? b=some o->h'.get? b=some o)->Q none { s with heap:=h',toks:=tk }):wpAny (model prog w) A (getAttr? (.ref a) "keys") Q E s:=by
 obtain ⟨hp,g,d,tk,os⟩:=s;have hT:∀ t,(⟨hp,g,d,t,os⟩:Shared).TypeIs (.ref a) "list":=fun t=>⟨_,hx,rfl⟩;have f1:=sub_AttributeError;have f3:=F.slot_list_getattribute.lookup;have f4:=F.slot_list_getattribute.bind (.ref a);have f5:=QY;unfold getAttr? getAttrBy? getAttrBy
 repeat (any_goals (first | assumption | exact hT _ | wp_step))
 refine codeAny_call_builtin F.slot_list_getattribute.plain F.entry_list_ga (F.slot_list_getattribute.check _ _ _ _ _ _ _ _ (hT _) (F.args_list_getattribute_2 _ _) ?_);have f6:=QX;have hT':=hT (tk+1);unfold Builtin.«object.__getattribute__»
 repeat (any_goals (first | assumption | exact hT _ | wp_step))
 refine wpAny_raiseAttrError (by first | exact hA | simp [hA]) (fun h' tk' e hx'=>?_) (attrMsg_fits (by decide +kernel) (by rw [eT];decide +kernel));obtain ⟨t',u',he⟩:=hx'.there;show wpAny _ _ (getattributeRaised _ _ _ _ _ _ _) _ _ _;unfold getattributeRaised
 repeat (any_goals (first | assumption | wp_step))
 exact h h' tk' hx'.keeps
end
end
section
open PySem W Spec PyProof.Rows L2
section
variable {prog:Program} {w:World} {A:Around} {E:Vq} {sl:Array (Option Value)}
theorem CH {s:Shared} {l:Addr} {qc:Array Value} {m N:Nat} {pr:Nat->Addr} {ke us:Nat->Value} {DP:Nat->Heap->Prop} {Q:Vq} (hh:A.handled=none) (hl:s.heap.get? l=some { cls:=.type "list",dict:=none,data:=.seq qc m,slots:=sl }) (hn:qc.size=N) (hN:N<=1000)
  (hp:∀ i,i<N->qc[i]?=some (.ref (pr i))) (ht:∀ i,i<N->IsTup s.heap (pr i) #[ke i,us i])
  (hk:∀ i g g',i<=N->DP i g->(∀ (b:Addr) o,b<=s.heap.objs.size->g.get? b=some o->g'.get? b=some o)->DP i g')
  (hset:∀ (i:Nat) (s':Shared) (B:Around) (E:Vq) (Q:Unit->Shared->Prop),B.units=A.units+2->i<N->DP i s'.heap->(∀ h' tk,s'.toks<=tk->DP (i+1) h'->Heap.SameBut s.heap.objs.size s'.heap h'->Q () { s' with heap:=h',toks:=tk })->wpAny (model prog w) B (dictSet s.heap.objs.size (ke i) (us i)) Q E s')
  (h0:∀ g:Heap,(∀ b o,s.heap.get? b=some o->g.get? b=some o)->g.get? s.heap.objs.size=some { cls:=.type "dict",data:=.dict #[] }->DP 0 g)
  (h:∀ g tk,(∀ b o,s.heap.get? b=some o->g.get? b=some o)->DP N g->Q (.ref s.heap.objs.size) { s with heap:=g,toks:=tk }) :
  wpAny (model prog w) A (call (.type "dict") [.ref l]) Q E s:=by
 refine callType_codes (Q₁:=fun obj s₁=>obj=.ref s.heap.objs.size/\s₁={ s with heap:=s.heap.push { cls:=.type "dict",data:=.dict #[] } }) F.kt_called_dict (F.kt_typeCall_dict_1 _) F.entry_dict_init (kt_code_dict_new _ ⟨rfl,rfl⟩) ?_;rintro obj s₁ ⟨rfl,rfl⟩;have hty:({ s with heap:=s.heap.push { cls:=.type "dict",data:=.dict #[] } }:Shared).TypeIs (.ref s.heap.objs.size) "dict":=⟨_,cX _ rfl,rfl⟩;have hl1:(s.heap.push { cls:=.type "dict",data:=.dict #[] }).get? l=some { cls:=.type "list",dict:=none,data:=.seq qc m,slots:=sl }:=aU _ hl;refine ⟨hty,F.args_dict_init_2 _ _,?_⟩;unfold Builtin.«dict.__init__»;refine aA ?_;unfold Builtin.Dict.selfAndRest;refine aA (wpAny_notOrdered_dict hty ?_);show wpAny _ _ (pure (s.heap.objs.size,[Value.ref l])) _ _ _;refine aI ?_;show wpAny _ _ (Builtin.Dict.updateFrom "dict.__init__" s.heap.objs.size (.ref l) [] .none) _ _ _;unfold Builtin.Dict.updateFrom;refine aA (wpAny_typeOf (show Shared.TypeIs _ (.ref l) "list" from ⟨_,hl1,rfl⟩) ?_);rw [if_pos (by decide)];refine wpAny_bind (QZ hl1 (by simp [hh]) fun h' tk' kp=>?_);rw [if_pos (show (none:Option Value).isNone=true from rfl)];refine aA (wpAny_rule ?_);have hl2:h'.get? l=some { cls:=.type "list",dict:=none,data:=.seq qc m,slots:=sl }:=kp _ _ hl1;have hl3:h'.IsList l qc:=⟨_,hl2,rfl,m,rfl⟩;have kp':∀ b o,s.heap.get? b=some o->h'.get? b=some o:=fun b o e=>kp _ _ (aU _ e);refine aA (wpAny_pyIter_list hl3 (aI ⟨plainId_quiet rS _,?_⟩));have ll:l<h'.objs.size:=aX hl2;have hD0:h'.get? s.heap.objs.size=some { cls:=.type "dict",data:=.dict #[] }:=kp _ _ (cX _ rfl);have lD:s.heap.objs.size<h'.objs.size:=aX hD0;have ll0:l<s.heap.objs.size:=aX hl;have W:=(Walks.list (prog:=prog) (w:=w) (A:=A.in1.in1) (by simp [hh]) h'.objs.size l (Nat.ne_of_lt ll) qc).toS;rw [hn] at W;have lp:∀ i,i<N->pr i<s.heap.objs.size:=fun i hi=>let ⟨o,e,_⟩:=ht i hi;aX e
 refine QW (pr:=pr) (ke:=ke) (us:=us) (DP:=DP) W s.heap.objs.size ?_ (fun i hi v hP=>?_) (fun i hi=>?_) (fun i hi=>cY (lp i hi)) (fun i g g' hi d k=>hk i g g' hi d fun b o hb e=>k b o (fun z=>?_) e) hset (N-0) 0 _ rfl (eK _) ?_ (fun j hj=>?_) ?_ fun s' mv dd=>?_
 .simp only [List.mem_cons,List.not_mem_nil,or_false,not_or];exact ⟨cY lD,Nat.ne_of_gt ll0⟩
 .exact dE (hP.symm.trans (hp i hi))
 .simp only [List.mem_cons,List.not_mem_nil,or_false];exact cY (Nat.lt_trans (lp i hi) lD)
 .rw [omg z] at hb;exact absurd lD (Nat.not_lt.mpr hb)
 .exact ⟨⟨_,cX _ rfl,rfl,rfl⟩,⟨_,aU _ hl2,rfl,m,rfl⟩⟩
 .obtain ⟨o,q1,q2,q3⟩:=ht j hj;exact ⟨o,aU _ (kp' _ _ q1),q2,q3⟩
 .exact h0 _ (fun b o e=>aU _ (kp' _ _ e)) (aU _ hD0)
 .obtain ⟨g3,gs3,d3,tk3,os3⟩:=s';have eg:gs3=s.gens:=mv.gens;have ed:d3=s.drawn:=mv.drawn;have eo:os3=s.os:=mv.os;subst eg;subst ed;subst eo;refine ⟨rfl,h g3 tk3 (fun b o e=>mv.heap b o ?_ (aU _ (kp' _ _ e))) dd⟩;have hb:=aX e;simp only [List.mem_cons,List.not_mem_nil,or_false,not_or];exact ⟨cY hb,cY (Nat.lt_trans hb lD)⟩
end
end
section
abbrev cA {κ:Type} (K:W.Frag) (F:Hp):List (κ × T)->List (κ × V)->Prop:=Paired fun p q=>q.1=p.1/\Rep K F p.2 q.2
section
variable {κ:Type} [DecidableEq κ] {K:W.Frag} {F:Hp}
theorem cA.of:∀ {qb:List (κ × T)} {ws:List (κ × V)},ws.map (·.1)=qb.map (·.1)->aF K F (qb.map (·.2)) (ws.map (·.2))->cA K F qb ws
 | [],[],_,_=>.nil
 | [],_::_,h,_=>by simp at h
 | _::_,[],h,_=>by simp at h
 | p::qb,q::ws,h,r=>by rw [aS,aS] at h;injection h with h1 h2;obtain ⟨v,vr,e,r1,r2⟩:=r;rw [aS] at e;injection e with e1 e2;exact .cons ⟨h1,by rw [e1];exact r1⟩ (cA.of h2 (by rw [e2];exact r2))
theorem cA.keys {qb:List (κ × T)} {ws:List (κ × V)} (r:cA K F qb ws):ws.map (·.1)=qb.map (·.1):=by
 induction r with
 | nil=>rfl
 | cons h t ih=>rw [aS,aS,ih,h.1]
theorem cA.vals {qb:List (κ × T)} {ws:List (κ × V)} (r:cA K F qb ws):aF K F (qb.map (·.2)) (ws.map (·.2)):=by
 induction r with
 | nil=>rfl
 | cons h t ih=>exact ⟨_,_,rfl,h.2,ih⟩
theorem cA.any {qb:List (κ × T)} {ws:List (κ × V)} (r:cA K F qb ws) (k:κ):(ws.any fun kv=>decide (kv.1=k))=qb.any fun kv=>decide (kv.1=k):=by
 induction r with
 | nil=>rfl
 | cons h t ih=>rw [gJ,gJ,ih,h.1]
theorem cA.put {qb:List (κ × T)} {ws:List (κ × V)} (r:cA K F qb ws) (k:κ) {y:T} {v:V} (ry:Rep K F y v):cA K F (bV qb k y) (eG ws k v):=by
 unfold bV eG;rw [r.any k];by_cases e:(qb.any fun kv=>decide (kv.1=k))=true
 .rw [if_pos e,if_pos e];clear e
  induction r with
  | nil=>exact .nil
  | @cons p q ps qs h t ih =>
   rw [aS,aS];refine .cons ?_ ih;by_cases e:p.1=k
   .rw [if_pos e,if_pos (h.1.trans e)];exact ⟨h.1,ry⟩
   .rw [if_neg e,if_neg (fun z=>e (h.1.symm.trans z))];exact h
 .rw [if_neg e,if_neg e];exact Paired.snoc r ⟨rfl,ry⟩
theorem cA.val {qb:List (κ × T)} {ws:List (κ × V)} (r:cA K F qb ws) (k:κ):(eF qb k=none/\cM ws k=none)\/∃ t v,eF qb k=some t/\cM ws k=some v/\Rep K F t v:=by
 induction r with
 | nil=>exact .inl ⟨rfl,rfl⟩
 | @cons p q ps qs h t ih =>
  rw [eF];by_cases e:p.1=k
  .rw [if_pos e,iR (h.1.trans e)];exact .inr ⟨_,_,rfl,rfl,h.2⟩
  .rw [if_neg e,iS (fun z=>e (h.1.symm.trans z))];exact ih
end
end
section
open PySem W Spec PyProof.Rows L2
variable {i:Nat}
theorem CI:∀ {xs:List T} {l:List (List Kt × T)},lU xs=some l->xs.length=l.length/\∀ i (h:i<l.length),∃ x,xs[i]?=some x/\qR x=some l[i]
 | [],l,h=>by cases h;exact ⟨rfl,fun i hi=>absurd hi (Nat.not_lt_zero _)⟩
 | x::r,l,h=>by
  obtain ⟨p,h1,h⟩:=obs h;obtain ⟨ps,h2,h⟩:=obs h;cases h;obtain ⟨e,g⟩:=CI h2;refine ⟨by simp [e],fun i hi=>?_⟩;cases i with
  | zero=>exact ⟨x,rfl,h1⟩
  | succ i=>exact g i (by simpa using hi)
section
variable {X:Cx}
theorem RA {pj:Pq} {O:L2.St} {H F:Hp} {s:Shared} (I:Inv X pj O H s) (fh:Same F H) {x:T} {p:List Kt × T} {v:V} {u:Value} (h:qR x=some p) (r:Rep X.K F x v) (ru:aC v u) :
  ∃ (q c:Addr) (y:V) (z:Value),u=.ref q/\IsTup s.heap q #[.ref c,z]/\H c=some (.tup (p.1.map kV))/\F c=some (.tup (p.1.map kV))/\Rep X.K F p.2 y/\aC y z:=by
 unfold qR at h;split at h
 .rename_i ks w;obtain ⟨k,hk,rfl⟩:=oms h;obtain ⟨q,vs,qc,rfl,rfl,g1,g2,g3,g4⟩:=iH I fh r ru;obtain ⟨v1,r1,rfl,k1,v2,r2,rfl,k2,rfl⟩:=g2;cases g3 with
  | cons a1 g3 =>
   cases g3 with
   | cons a2 g3 =>cases g3;obtain ⟨c,ws,rfl,m1,m2⟩:=k1;have:=lX m2 hk;subst this;cases a1;exact ⟨q,c,v2,_,rfl,g4,fh _ _ m1,m1,k2,a2⟩
 .cases h
theorem RB {α:Type} {l:List α} {d:α} (hi:i<l.length):l.take (i+1)=l.take i++[l.getD i d]:=by rw [List.take_succ,bW hi,eN,bW hi];rfl
theorem CJ {κ:Type} [DecidableEq κ] {l:List (κ × T)} {d:κ × T} (hi:i<l.length):dM (l.take (i+1))=bV (dM (l.take i)) (l.getD i d).1 (l.getD i d).2:=by unfold dM;rw [RB hi,List.foldl_append];rfl
theorem uY {α:Type} {l:List α} {d:α} (hi:i<l.length):l.getD i d=l[i]:=by rw [eN,bW hi];rfl
theorem RC (hcalm:X.calm=true) (hu:X.A.units+100<cLine):jR X (.type "dict") (fun zs H Q=>∃ F xs l x,zs=[x]/\Same F H/\Rep X.K F (.lst xs) x/\lU xs=some l/\l.length<=1000/\∀ v F' H',Step F H F' H'->Rep X.K F' (.dt ((dM l).map (·.1)) ((dM l).map (·.2))) v->Q v H'):=by
 intro pj s O H zs us Q I r h;obtain ⟨F,xs,l,x,rfl,fh,r1,hp,h1000,q⟩:=h;obtain ⟨u,rfl,ru⟩:=jS r;obtain ⟨a,vs,rfl,g1,g2⟩:=r1;cases ru;obtain ⟨z,qc,n,rv,ho⟩:=(Ls.same fh g1).ok I;obtain ⟨e1,hg⟩:=CI hp;have hl:qc.length=l.length:=by rw [<- rv.length,g2.length,e1]
 have ex:∀ i,∃ f:Addr × Addr × V × Value,i<l.length->qc[i]?=some (.ref f.1)/\IsTup s.heap f.1 #[.ref f.2.1,f.2.2.2]/\H f.2.1=some (.tup ((l.getD i ([],.non)).1.map kV))/\Rep X.K F (l.getD i ([],.non)).2 f.2.2.1/\aC f.2.2.1 f.2.2.2:=fun i=>by
  by_cases hi:i<l.length
  .obtain ⟨x,hx,hpx⟩:=hg i hi;obtain ⟨v,hv,rv1⟩:=g2.get hx;obtain ⟨u,hu',ru⟩:=rv.get hv;obtain ⟨q,c,y,z,rfl,t1,t2,_,t3,t4⟩:=RA I fh hpx rv1 ru;exact ⟨(q,c,y,z),fun _=>⟨hu',t1,by rw [uY hi];exact t2,by rw [uY hi];exact t3,t4⟩⟩
  .exact ⟨(0,0,.non,.none),fun z=>absurd z hi⟩
 obtain ⟨f,hf⟩:=Classical.axiomOfChoice ex;have hkey:∀ i,i<l.length->IsTupleKey (eQ X.prog X.w) s.heap (l.getD i ([],.non)).1 (f i).2.1:=fun i hi=>lW I.hok (hf i hi).2.2.1;have lk:∀ i,i<l.length->(f i).2.1<=s.heap.objs.size:=fun i hi=>let ⟨o,_,_,e,_⟩:=hkey i hi;Nat.le_of_lt (aX e)
 refine CH (pr:=fun i=>(f i).1) (ke:=fun i=>.ref (f i).2.1) (us:=fun i=>(f i).2.2.2) (N:=l.length)
  (DP:=fun i g=>g.DictOfH (tkd X.prog X.w) s.heap.objs.size (oO (fun i=>(l.getD i ([],.non)).1) (fun i=>(f i).2.1) (fun i=>(f i).2.2.2) i)/\∀ j,j<l.length->IsTupleKey (eQ X.prog X.w) g (l.getD j ([],.non)).1 (f j).2.1)
  (I.ok.hd hcalm) ho (by simpa using hl) h1000 (fun i hi=>by simpa using (hf i hi).1) (fun i hi=>(hf i hi).2.1) (fun i g g' hi d k=>⟨QV d.1 (fun o e=>k _ o (Nat.le_refl _) e) fun x hx=>?_,fun j hj=>rR (d.2 j hj) fun o e=>k _ o (lk j hj) e⟩)
  (fun i s' B E Q hB hi d hQ=>?_) (fun g k k0=>⟨⟨_,#[],0,k0,⟨rfl,rfl,rfl⟩,rfl,rfl,fun x hx=>(nomatch hx),gK⟩,fun j hj=>rR (hkey j hj) fun o e=>k _ o e⟩) fun g tk kp dd=>?_
 .obtain ⟨j,hj,_,e⟩:=uX _ hx;rw [e];exact fun o q=>k _ o (lk j (by lia)) q
 .refine wpAny_dictSet_heap (hsz:=by have:=CG (ky:=fun i=>(l.getD i ([],.non)).1) (ka:=fun i=>(f i).2.1) (us:=fun i=>(f i).2.2.2) i;rw [eT];lia) (show B.units<cLine by lia) (d.2 i hi) d.1 fun h' dd' hs=>hQ h' _ (Nat.le_add_right _ _) ⟨dd',fun j hj=>rR (d.2 j hj) fun o e=>?_⟩ hs;rw [hs.2 _ (cY (let ⟨o,_,_,e,_⟩:=hkey j hj;aX e))];exact e
 have main:∀ i,i<=l.length->∃ ws:Kq,KT H ws (oO (fun i=>(l.getD i ([],.non)).1) (fun i=>(f i).2.1) (fun i=>(f i).2.2.2) i)/\cA X.K F (dM (l.take i)) ws/\ws.length<=i:=by
  intro i
  induction i with
  | zero=>exact fun _=>⟨[],.nil,.nil,aV _⟩
  | succ i ih =>intro hi;obtain ⟨ws,k1,k2,k3⟩:=ih (by lia);obtain ⟨t1,t2,t3,t4,t5⟩:=hf i (by lia);refine ⟨eG ws (l.getD i ([],.non)).1 (f i).2.2.1,k1.put _ t3 t5,by rw [CJ hi];exact k2.put _ t4,?_⟩;have:=pK ws (l.getD i ([],.non)).1 (f i).2.2.1;lia
 obtain ⟨ws,k1,k2,k3⟩:=main l.length (aV _);rw [List.take_length] at k2;have hn:H s.heap.objs.size=none:=I.hok.fresh (aV _);have hsys:(s.heap.objs.size==sysModules)=false:=by have:=I.big;simpa using Nat.ne_of_gt this
 obtain ⟨⟨o,es,ep,d1,d2,d3,d4,d5,d6⟩,_⟩:=dd;have I1:=I.laid (a:=s.heap.objs.size) (o:=.dT ws) (t':=tk) kp (aV _) ⟨by rw [eT];lia,hsys,_,k1.keeps fun c ys ec=>by rw [aR (cS ec hn)];exact ec,o,es,ep,d1,d2,d3,d4,d6⟩;have st:=(Step.refl fh).new (o:=.dT ws) hn;exact ⟨.ref s.heap.objs.size,_,I1,rfl,q _ _ _ st ⟨_,ws,rfl,.inl cC,k2.keys,k2.vals.mono st.ff⟩⟩
theorem CK:∀ {xs:List T} {l:List (Kt × T)},mV xs=some l->xs.length=l.length/\∀ i (h:i<l.length),∃ x,xs[i]?=some x/\tP x=some l[i]
 | [],l,h=>by cases h;exact ⟨rfl,fun i hi=>absurd hi (Nat.not_lt_zero _)⟩
 | x::r,l,h=>by
  obtain ⟨p,h1,h⟩:=obs h;obtain ⟨ps,h2,h⟩:=obs h;cases h;obtain ⟨e,g⟩:=CK h2;refine ⟨by simp [e],fun i hi=>?_⟩;cases i with
  | zero=>exact ⟨x,rfl,h1⟩
  | succ i=>exact g i (by simpa using hi)
def uZ (ky:Nat->Key) (us:Nat->Value):Nat->List (Key × Value)
 | 0=>[]
 | i+1=>stored (uZ ky us i) (ky i) (us i)
theorem RD (hcalm:X.calm=true):jR X (.type "dict") (fun zs H Q=>∃ F xs l x,zs=[x]/\Same F H/\Rep X.K F (.lst xs) x/\mV xs=some l/\l.length<=1000/\∀ v F' H',Step F H F' H'->Rep X.K F' (.dk ((dM l).map (·.1)) ((dM l).map (·.2))) v->Q v H'):=by
 intro pj s O H zs us Q I r h;obtain ⟨F,xs,l,x,rfl,fh,r1,hp,h1000,q⟩:=h;obtain ⟨u,rfl,ru⟩:=jS r;obtain ⟨a,vs,rfl,g1,g2⟩:=r1;cases ru;obtain ⟨z,qc,n,rv,ho⟩:=(Ls.same fh g1).ok I;obtain ⟨e1,hg⟩:=CK hp;have hl:qc.length=l.length:=by rw [<- rv.length,g2.length,e1]
 have ex:∀ i,∃ f:Addr × Value × V × Value,i<l.length->qc[i]?=some (.ref f.1)/\IsTup s.heap f.1 #[f.2.1,f.2.2.2]/\aC (kV (l.getD i (.inr none,.non)).1) f.2.1/\Rep X.K F (l.getD i (.inr none,.non)).2 f.2.2.1/\aC f.2.2.1 f.2.2.2:=fun i=>by
  by_cases hi:i<l.length
  .obtain ⟨x,hx,hpx⟩:=hg i hi;obtain ⟨v,hv,rv1⟩:=g2.get hx;obtain ⟨u,hu',ru⟩:=rv.get hv;rw [uY hi];unfold tP at hpx;split at hpx
   .rename_i kt w;obtain ⟨k,hk,e⟩:=oms hpx;obtain ⟨q,vs,jts,rfl,rfl,m1,m2,m3,m4⟩:=iH I fh rv1 ru;obtain ⟨v1,r1,rfl,k1,v2,r2,rfl,k2,rfl⟩:=m2;cases m3 with
    | cons a1 m3 =>
     cases m3 with
     | cons a2 m3 =>cases m3;have:=uD k1 hk;subst this;rw [<- e];exact ⟨(q,_,v2,_),fun _=>⟨hu',m4,a1,k2,a2⟩⟩
   .cases hpx
  .exact ⟨(0,.none,.non,.none),fun z=>absurd z hi⟩
 obtain ⟨f,hf⟩:=Classical.axiomOfChoice ex;have main:∀ i,i<=l.length->∃ ws:List (Key × V),KV ws (uZ (fun i=>(l.getD i (.inr none,.non)).1) (fun i=>(f i).2.2.2) i)/\cA X.K F (dM (l.take i)) ws/\ws.length<=i:=by
  intro i
  induction i with
  | zero=>exact fun _=>⟨[],.nil,.nil,aV _⟩
  | succ i ih =>intro hi;obtain ⟨ws,k1,k2,k3⟩:=ih (by lia);obtain ⟨t1,t2,t3,t4,t5⟩:=hf i (by lia);refine ⟨eG ws (l.getD i (.inr none,.non)).1 (f i).2.2.1,k1.put _ t5,by rw [CJ hi];exact k2.put _ t4,?_⟩;have:=pK ws (l.getD i (.inr none,.non)).1 (f i).2.2.1;lia
 refine CH (pr:=fun i=>(f i).1) (ke:=fun i=>(f i).2.1) (us:=fun i=>(f i).2.2.2) (N:=l.length) (DP:=fun i g=>g.DictOf (eQ X.prog X.w) s.heap.objs.size (uZ (fun i=>(l.getD i (.inr none,.non)).1) (fun i=>(f i).2.2.2) i))
  (I.ok.hd hcalm) ho (by simpa using hl) h1000 (fun i hi=>by simpa using (hf i hi).1) (fun i hi=>(hf i hi).2.1) (fun i g g' hi d k=>let ⟨o,es,ep,e,r⟩:=d;⟨o,es,ep,k _ o (Nat.le_refl _) e,r⟩)
  (fun i s' B E Q hB hi d hQ=>?_) (fun g k k0=>⟨_,#[],0,k0,⟨rfl,rfl,rfl⟩,rfl,fun x hx=>(nomatch hx),.nil,gK⟩) fun g tk kp dd=>?_
 .obtain ⟨ws,k1,k2,k3⟩:=main i (Nat.le_of_lt hi);exact wpAny_dictSet_pairs (hsz:=by rw [<- k1.length,eT];lia) (mZ (hf i hi).2.2.1) d fun h' dd' hs=>hQ h' _ (Nat.le_add_right _ _) dd' hs
 obtain ⟨ws,k1,k2,k3⟩:=main l.length (aV _);rw [List.take_length] at k2;have hn:H s.heap.objs.size=none:=I.hok.fresh (aV _);have hsys:(s.heap.objs.size==sysModules)=false:=by have:=I.big;simpa using Nat.ne_of_gt this
 have I1:=I.laid (a:=s.heap.objs.size) (o:=.dK ws) (t':=tk) kp (aV _) ⟨by rw [eT];lia,hsys,_,k1,dd⟩;have st:=(Step.refl fh).new (o:=.dK ws) hn;exact ⟨.ref s.heap.objs.size,_,I1,rfl,q _ _ _ st ⟨_,ws,rfl,cC,k2.keys,k2.vals.mono st.ff⟩⟩
end
end
section
variable {f:Env->Option T} {G:Glo} {k:Nat} {x:Str} {g:T->Option T}
section
variable {X:Cx} {c:Tc} {a b:Expr} {pos p:Pos}
def BlS (X:Cx) (f:Value) (g:T->Option T):Prop :=
 jR X f (fun xs H Q=>∃ F t1 t x,xs=[x]/\Same F H/\Rep X.K F t1 x/\g t1=some t/\∀ v F' H',Step F H F' H'->Rep X.K F' t v->Q v H')
theorem RE:BlS X (.builtin "len") (bO .len):=by
 intro pj s O H xs us Q I r h;obtain ⟨F,t1,t,x,rfl,fh,r1,ht,q⟩:=h;cases t1 with
 | tup ts =>obtain ⟨l,vs,rfl,h1,h2⟩:=r1;cases ht;exact yX pj s O H _ us Q I r ⟨l,vs,rfl,.inr (dQ fh h1),q _ F H (Step.refl fh) (by rw [h2.length];rfl)⟩
 | lst ts =>obtain ⟨l,vs,rfl,h1,h2⟩:=r1;cases ht;exact yX pj s O H _ us Q I r ⟨l,vs,rfl,.inl (Ls.same fh h1).sq,q _ F H (Step.refl fh) (by rw [h2.length];rfl)⟩
 | _=>cases ht
theorem RF:BlS X (.type "int") (bO .toInt):=by
 intro pj s O H xs us Q I r h;obtain ⟨F,t1,t,x,rfl,fh,r1,ht,q⟩:=h;cases t1 with
 | int i=>cases r1;cases ht;exact yK pj s O H _ us Q I r (.inl ⟨i,rfl,q _ F H (Step.refl fh) rfl⟩)
 | bl k=>cases r1;cases ht;exact yK pj s O H _ us Q I r (.inr ⟨k,rfl,q _ F H (Step.refl fh) rfl⟩)
 | _=>cases ht
theorem RG:BlS X (.type "tuple") (bO .toTuple):=by
 intro pj s O H xs us Q I r h;obtain ⟨F,t1,t,x,rfl,fh,r1,ht,q⟩:=h;cases t1 with
 | tup ts =>obtain ⟨l,vs,rfl,h1,h2⟩:=r1;cases ht;exact yY pj s O H _ us Q I r ⟨l,vs,rfl,.inr ⟨dQ fh h1,q _ F H (Step.refl fh) ⟨l,vs,rfl,h1,h2⟩⟩⟩
 | lst ts =>obtain ⟨l,vs,rfl,h1,h2⟩:=r1;cases ht;refine yY pj s O H _ us Q I r ⟨l,vs,rfl,.inl ⟨(Ls.same fh h1).sq,fun l' hl=>?_⟩⟩;have st:=(Step.refl fh).new (o:=.tup vs) hl;exact q _ _ _ st ⟨l',vs,rfl,cC,h2.mono st.ff⟩
 | _=>cases ht
theorem RH (hu:X.A.units+100<cLine) (hcalm:X.calm=true):BlS X (.builtin "sorted") (bO .sorted):=QT hu hcalm
theorem jY (ha:Oke X c a f) (hs:starEach [a] X.env=[(false,eval a X.env)]):PA X [a] (spL X c fun r=>(f r).bind fun x=>some [x]):=by refine uE (oH ha uF hs) fun O H Q q=>?_;obtain ⟨r,F,ts,e,ht,q⟩:=q;exact ⟨r,F,ts,e,ht,q⟩
theorem CM (gd:Gd X c G k) {id:String} (hc:BlS X (.builtin id) g) (hb:x∈bnames) (hg:glB c.sc x=true) (hv:bootBuiltins x=some (.builtin id)) (hn:x≠"__name__") (hdb:(x==("__debug__":Str))=false)
  (ha:Oke X c a f) (hs:starEach [a] X.env=[(false,eval a X.env)]):Oke X c (.Call (.Name x p) [a] [] pos) (fun r=>(f r).bind fun x=>g x):=by
 refine fM (KF hc (gd.gl x hg) (gd.nob x hb) hv (jY ha hs) hn hdb hs rfl) fun O H Q q=>?_;obtain ⟨r,F,t,e,ht,q⟩:=q;obtain ⟨t1,e1,ht⟩:=obs ht;refine ⟨r,F,[t1],e,fA.mpr ⟨t1,e1,rfl⟩,fun vs F' H' s1 r1=>?_⟩;obtain ⟨v,w,rfl,h1,h2⟩:=r1;cases h2;exact ⟨F',t1,t,v,rfl,s1.fh,h1,ht,fun v' F2 H2 s2 r2=>q v' F2 H2 (s1.trans s2) r2⟩
theorem vA (gd:Gd X c G k) {ty:String} (hc:BlS X (.type ty) g) (hb:x∈bnames) (hg:glB c.sc x=true) (hv:bootBuiltins x=some (.type ty)) (hn:x≠"__name__") (hdb:(x==("__debug__":Str))=false)
  (ha:Oke X c a f) (hs:starEach [a] X.env=[(false,eval a X.env)]):Oke X c (.Call (.Name x p) [a] [] pos) (fun r=>(f r).bind fun x=>g x):=by
 refine fM (KG hc (gd.gl x hg) (gd.nob x hb) hv (jY ha hs) hn hdb hs rfl) fun O H Q q=>?_;obtain ⟨r,F,t,e,ht,q⟩:=q;obtain ⟨t1,e1,ht⟩:=obs ht;refine ⟨r,F,[t1],e,fA.mpr ⟨t1,e1,rfl⟩,fun vs F' H' s1 r1=>?_⟩;obtain ⟨v,w,rfl,h1,h2⟩:=r1;cases h2;exact ⟨F',t1,t,v,rfl,s1.fh,h1,ht,fun v' F2 H2 s2 r2=>q v' F2 H2 (s1.trans s2) r2⟩
theorem RI (hcalm:X.calm=true) (hu:X.A.units+100<cLine):BlS X (.type "dict") (bO .dict):=by
 intro pj s O H xs us Q I r h;obtain ⟨F,t1,t,x,rfl,fh,r1,ht,q⟩:=h;cases t1 with
 | lst ts =>
  replace ht:(match lU ts with
   | some l=>if l.length<=1000 then some (T.dt ((dM l).map (·.1)) ((dM l).map (·.2))) else none
   | none=>(mV ts).bind fun l=>if l.length<=1000 then some (T.dk ((dM l).map (·.1)) ((dM l).map (·.2))) else none)=some t:=ht
  split at ht
  .rename_i l hl;split at ht
   .rename_i hz;cases ht;exact RC hcalm hu pj s O H _ _ Q I r ⟨F,ts,l,x,rfl,fh,r1,hl,hz,q⟩
   .cases ht
  .obtain ⟨l,hl,ht⟩:=obs ht;split at ht
   .rename_i hz;cases ht;exact RD hcalm pj s O H _ _ Q I r ⟨F,ts,l,x,rfl,fh,r1,hl,hz,q⟩
   .cases ht
 | _=>cases ht
theorem RJ (gd:Gd X c G k) {kb:Bn} (hk:tR x=some kb) (hg:glB c.sc x=true) (ha:Oke X c a f) (hs:starEach [a] X.env=[(false,eval a X.env)]) :
  Oke X c (.Call (.Name x p) [a] [] pos) (fun r=>(f r).bind fun x=>bO kb x):=by
 unfold tR at hk;split at hk
 .rename_i e;have e:=cV e;subst e;cases hk;exact CM gd RE (by decide +kernel) hg PySem.boot_len (by decide) (by decide) ha hs
 .split at hk
  .rename_i e;have e:=cV e;subst e;cases hk;exact vA gd RF (by decide +kernel) hg PyProof.Rows.boot_int (by decide) (by decide) ha hs
  .split at hk
   .rename_i e;have e:=cV e;subst e;cases hk;exact vA gd RG (by decide +kernel) hg PyProof.Rows.boot_tuple (by decide) (by decide) ha hs
   .split at hk
    .rename_i e;have e:=cV e;subst e;cases hk;exact CM gd (RH (by have:=gd.room.un;lia) gd.calm) (by decide +kernel) hg (show bootBuiltins "sorted"=some (.builtin "sorted") by decide +kernel) (by decide) (by decide) ha hs
    .cases hk
theorem RK (gd:Gd X c G k) {kb:Bn} (hk:qS x=some kb) (hg:glB c.sc x=true) (ha:Oke X c a f) (hs:starEach [a] X.env=[(false,eval a X.env)]) :
  Oke X c (.Call (.Name x p) [a] [] pos) (fun r=>(f r).bind fun x=>bO kb x):=by
 unfold qS at hk;split at hk
 .rename_i e;have e:=cV e;subst e;cases hk;exact vA gd (RI gd.calm (by have:=gd.room.un;lia)) (by decide +kernel) hg PyProof.Rows.boot_dict (by decide) (by decide) ha hs
 .exact RJ gd hk hg ha hs
theorem RL {K:W.Frag} {F:Hp} {k:Kt} {t3:T} {v3:V} (r3:Rep K F t3 v3) {ws:List (Key × V)} {ts:List T} (r:aF K F ts (ws.map (·.2))):Rep K F ((fG (ws.map (·.1)) ts k).getD t3) ((cM ws k).getD v3):=by
 induction ws generalizing ts with
 | nil=>cases ts<;>exact r3
 | cons p ws ih =>
  cases ts with
  | nil=>cases r
  | cons u ts =>
   obtain ⟨v,vr,e,r1,r2⟩:=r;rw [aS] at e;injection e with e1 e2;rw [aS,fG];by_cases hk:p.1=k
   .rw [if_pos hk,iR hk,e1];exact r1
   .rw [if_neg hk,iS hk];exact ih (by rw [e2];exact r2)
theorem RM {g h:Env->Option T} {apos cpos:Pos} {o:Expr} (hu:X.A.units+1<cLine) (ho:Oke X c o f) (ha:Oke X c a g) (hb:Oke X c b h) (m:M2 X o "get" apos a b cpos) :
  Oke X c (.Call (.Attribute o "get" apos) [a,b] [] cpos) (fun r=>(f r).bind fun x=>(g r).bind fun y=>(h r).bind fun z=>tQ x y z):=by
 refine fM (MO hu ho ha hb m) fun O H Q q=>?_;obtain ⟨r,F,t,e,ht,q⟩:=q;obtain ⟨t1,e1,ht⟩:=obs ht;obtain ⟨t2,e2,ht⟩:=obs ht;obtain ⟨t3,e3,ht⟩:=obs ht;refine ⟨r,F,t1,e,e1,fun v1 F1 H1 s1 r1=>?_⟩;cases t1 with
 | dk ks ts =>
  cases t2 with
  | str y =>cases ht;obtain ⟨a,ws,rfl,g1,g2,g3⟩:=r1;subst g2;refine ⟨a,rfl,.inl ⟨ws,.inl (s1.fh _ _ g1)⟩,r,F1,.str y,e.step s1,e2,fun v2 F2 H2 s2 r2=>⟨r,F2,t3,(e.step s1).step s2,e3,fun v3 F3 H3 s3 r3=>?_⟩⟩;cases r2;exact ⟨_,cB.k (k:=.inr (some y)) (s3.fh _ _ (s3.ff _ _ (s2.ff _ _ g1))),q _ F3 H3 (s1.trans (s2.trans s3)) (RL r3 (g3.mono (s2.ff.trans s3.ff)))⟩
  | _=>cases ht
 | _=>cases ht
theorem CN:∀ {ts:List T} {x:T} {i:Nat},kO x ts=some i->∃ t,ts[i]?=some t/\eqT t x=true/\∀ (j:Nat) u,j<i->ts[j]?=some u->eqT u x=false
 | [],_,_,h=>by cases h
 | y::ts,x,i,h=>by
  simp only [kO] at h;split at h
  .rename_i e;cases h;exact ⟨y,rfl,e,fun j u hj=>absurd hj (Nat.not_lt_zero _)⟩
  .rename_i e;obtain ⟨k,e1,rfl⟩:=oms h;obtain ⟨t,h1,h2,h3⟩:=CN e1;refine ⟨t,by simpa using h1,h2,fun j u hj hu=>?_⟩;cases j with
   | zero =>simp only [bE,Option.some.injEq] at hu;subst hu;simpa using e
   | succ j=>exact h3 j u (by lia) (by simpa using hu)
theorem RN:MtR X "list.index" (fun x xs H Q=>∃ F t1 t2 t y,xs=[y]/\Same F H/\Rep X.K F t1 x/\Rep X.K F t2 y/\jE .index t1 t2=some t/\∀ v F' H',Step F H F' H'->Rep X.K F' t v->Q v H'):=by
 intro pj s O H x xs v us Q I rx rs h;obtain ⟨F,t1,t2,t,y,rfl,fh,r1,r2,ht,q⟩:=h;obtain ⟨u,rfl,ru⟩:=jS rs;cases t1 with
 | lst ts =>
  simp only [jE] at ht;split at ht
  .rename_i hf;rw [bU] at hf;obtain ⟨f2,f1⟩:=hf;obtain ⟨i,hi,rfl⟩:=oms ht;obtain ⟨l,vs,rfl,h1,h2⟩:=r1;cases rx;have ey:=AB r2 f2;subst ey;have ev:=AD h2 f1;subst ev;obtain ⟨t0,a1,a2,a3⟩:=CN hi;obtain ⟨z,qc,n,r,ho⟩:=(Ls.same fh h1).ok I;have hlt:i<ts.length:=(ome a1).1;have hlen:qc.length=ts.length:=by rw [<- r.length,bA]
   have hz:ts.length<=sizeLine:=by have:=(MW I (Ls.same fh h1)).choose_spec.2.2;simpa using this
   have get:∀ (m:Nat) (hm:m<qc.toArray.size),∃ tm,ts[m]?=some tm/\eqU (vOf t2) qc.toArray[m]=eqT tm t2:=fun m hm=>by
    have hm':m<ts.length:=by rw [<- hlen];simpa using hm
    have hmv:m<(ts.map vOf).length:=by simpa using hm'
    obtain ⟨w,e3,w1⟩:=r.get (bW hmv);have e5:qc.toArray[m]=w:=by obtain ⟨_,z⟩:=ome e3;simpa using z
    refine ⟨ts[m],bW hm',?_⟩;have fm:flat ts[m]=true:=oml f1 _ (gH _);rw [e5,yV (y:=vOf ts[m]) (by simpa using w1) (uC fm),MX fm f2]
   have hj:i<qc.toArray.size:=by rw [cR,hlen];exact hlt
   refine call_meets PySem.F.slot_list_index ⟨_,ho,rfl⟩ PySem.F.entry_list_index (PySem.F.args_list_index_2 _ _) (PySem.SeqAt.list_indexAt l qc.toArray n _ _ u (eqU (vOf t2)) i hj (by unfold sizeLine at hz;lia) ?_ ?_) ⟨ho,?_,?_⟩
   .obtain ⟨tm,g1,g2⟩:=get i hj;rw [g2];rw [a1] at g1;cases g1;exact a2
   .intro m hm hmi;obtain ⟨tm,g1,g2⟩:=get m hm;rw [g2];exact a3 m tm hmi g1
   .intro y hy;exact yW ru (uC f2) r (NC f1) y (by simpa using hy)
   .exact ⟨.int _,H,I.tok _,⟨_,rfl⟩,q _ F H (Step.refl fh) rfl⟩
  .cases ht
 | _=>cases t2<;>cases ht
theorem RO {g:Env->Option T} {apos cpos:Pos} {o:Expr} (ho:Oke X c o f) (ha:Oke X c a g) (hbase:attributeBase o "index" X.env (eval o X.env)=eval o X.env) (hs:starEach [a] X.env=[(false,eval a X.env)]) (hl:(apos.endLine==cpos.line)=true) :
  Oke X c (.Call (.Attribute o "index" apos) [a] [] cpos) (fun r=>(f r).bind fun x=>(g r).bind fun y=>jE .index x y):=by
 refine fM (oB F.plainAttrs_list F.slot_list_index F.type_list_index RN ho (jY ha hs) hbase (by rw [hs];rfl) hl hs rfl) fun O H Q q=>?_;obtain ⟨r,F,t,e,ht,q⟩:=q;obtain ⟨t1,e1,ht⟩:=obs ht;obtain ⟨t2,e2,ht⟩:=obs ht;refine ⟨r,F,t1,e,e1,fun v F' H' s1 r1=>⟨?_,r,F',[t2],e.step s1,fA.mpr ⟨t2,e2,rfl⟩,fun vs F2 H2 s2 r2=>?_⟩⟩
 .cases t1 with
  | lst z=>obtain ⟨l,vs,rfl,h1,h2⟩:=r1;exact .inl ⟨rfl,_,(Ls.same s1.fh h1).sq⟩
  | _=>cases t2<;>cases ht
 .obtain ⟨w,z,rfl,h1,h2⟩:=r2;cases h2;exact ⟨F2,t1,t2,t,w,rfl,s2.fh,r1.mono s2.ff,h1,ht,fun v' F3 H3 s3 r3=>q v' F3 H3 (s1.trans (s2.trans s3)) r3⟩
end
end
section
variable {tg:Expr} {K:W.Frag} {F':Hp} {l:Addr} {vs:List V} {ts:List T} {f:Env->Option T} {G:Glo} {k:Nat} {elts:List Expr}
section
variable {X:Cx} {c:Tc} {a b:Expr} {pos p:Pos}
structure Walk (K:W.Frag) (J:It) (ts:List T) (F':Hp):Prop where
 go:∀ (i:Nat) (H:Hp),i<ts.length->Same F' H->J.go i H
 yld:∀ (i:Nat) (H:Hp) (x:V) (H5 F:Hp) (t:T),ts[i]?=some t->Same F' F->Same F H->J.yld i H x H5->∃ F5,Step F H F5 H5/\Rep K F5 t x
 stop:∀ (H:Hp),Same F' H->J.stop ts.length H
def spI (X:Cx) (c:Tc) (f:Env->Option (List T)):TI:=fun O H R=>∃ r F ts,EnvE X c r F O H/\f r=some ts/\∀ J F' H',Step F H F' H'->Walk X.K J ts F'->R J H'
theorem rT {it:Expr} {t t':TI} (h:PI X tg it t) (m:∀ O H R,t' O H R->t O H R):PI X tg it t':=fun pj s O H R I q=>h pj s O H R I (m O H R q)
theorem RP (h1:Ls K F' l vs) (h2:aF K F' ts vs):Walk K (Itl K l) ts F' where
 go:=fun i H hi sm=>by obtain ⟨v,hv,_⟩:=h2.get (bW hi);exact ⟨vs,v,(Ls.same sm h1).sq,hv⟩
 yld:=fun i H x H5 F t ht sF fh y=>by obtain ⟨rfl,y⟩:=y;obtain ⟨v,hv,hr⟩:=h2.get ht;have e:=y vs ((Ls.same fh (Ls.same sF h1)).sq);rw [hv] at e;cases e;exact ⟨F,Step.refl fh,hr.mono sF⟩
 stop:=fun H sm=>⟨vs,(Ls.same sm h1).sq,by rw [h2.length];exact aV _⟩
theorem RQ {F:Hp} {a:Addr} {xs:List V} (e:Same F F') (h:SqT K F a xs):SqT K F' a xs:=by
 rcases h with h | h
 .exact .inl (jW e h)
 .exact .inr h
theorem RR (h1:Tq K F' l vs) (h2:aF K F' ts vs):Walk K (Itt K l) ts F' where
 go:=fun i H hi sm=>by obtain ⟨v,hv,_⟩:=h2.get (bW hi);exact ⟨vs,v,dQ sm h1,hv⟩
 yld:=fun i H x H5 F t ht sF fh y=>by obtain ⟨rfl,y⟩:=y;obtain ⟨v,hv,hr⟩:=h2.get ht;have e:=y vs (dQ (sF.trans fh) h1);rw [hv] at e;cases e;exact ⟨F,Step.refl fh,hr.mono sF⟩
 stop:=fun H sm=>⟨vs,dQ sm h1,by rw [h2.length];exact aV _⟩
theorem RS {n i:Nat} {t:T} (h:(kP n)[i]?=some t):i<n/\t=.int (i:Int):=by unfold kP at h;rw [fL] at h;obtain ⟨j,hj,e⟩:=oms h;have:=ome hj;obtain ⟨h1,h2⟩:=this;rw [List.getElem_range] at h2;subst h2;exact ⟨by simpa using h1,e.symm⟩
theorem RT (n:Nat):Walk K (Itr 0 n) (kP n) F' where
 go:=fun i H hi _=>by
  have:i<n:=by simpa [kP] using hi
  exact this
 yld:=fun i H x H5 F t ht _ fh y=>by obtain ⟨rfl,rfl⟩:=y;obtain ⟨_,rfl⟩:=RS ht;exact ⟨F,Step.refl fh,by show V.int (0+(i:Int))=V.int (i:Int);rw [Int.zero_add]⟩
 stop:=fun H _=>by show n<=(kP n).length;simp [kP]
theorem CO:∀ {ts:List T} {i j:Nat} {t:T},(fH ts j)[i]?=some t->∃ u,ts[i]?=some u/\t=.tup [.int ((j+i:Nat):Int),u]
 | [],_,_,_,h=>by simp [fH] at h
 | u::ts,0,j,t,h=>by simp [fH] at h;exact ⟨u,rfl,by rw [<- h];simp⟩
 | u::ts,i+1,j,t,h=>by simp only [fH,bJ] at h;obtain ⟨w,h1,h2⟩:=CO (ts:=ts) (i:=i) (j:=j+1) h;exact ⟨w,by simpa using h1,by rw [h2,show j+1+i=j+(i+1) by lia]⟩
theorem vB:∀ (ts:List T) (j:Nat),(fH ts j).length=ts.length
 | [],_=>rfl
 | _::ts,j=>by simp [fH,vB ts (j+1)]
theorem CP {sq:Hp->Addr->List V->Prop} (mono:∀ {F G:Hp} {xs:List V},Same F G->sq F l xs->sq G l xs) (h1:sq F' l vs) (h2:aF K F' ts vs):Walk K (Ite sq l) (fH ts 0) F' where
 go:=fun i H hi sm=>by rw [vB] at hi;obtain ⟨v,hv,_⟩:=h2.get (bW hi);exact ⟨vs,v,mono sm h1,hv⟩
 yld:=fun i H x H5 F t ht sF fh y=>by obtain ⟨p,v,hp,rfl,rfl,y⟩:=y;obtain ⟨u,hu,rfl⟩:=CO ht;obtain ⟨w,hw,hr⟩:=h2.get hu;have e:=y vs (mono fh (mono sF h1));rw [hw] at e;cases e;have st:=(Step.refl fh).new (o:=.tup [.int (i:Int),v]) hp;refine ⟨_,st,p,_,rfl,cC,.int (i:Int),[v],rfl,?_,v,[],rfl,(hr.mono sF).mono st.ff,rfl⟩;show V.int (i:Int)=V.int ((0+i:Nat):Int);rw [Nat.zero_add]
 stop:=fun H sm=>⟨vs,mono sm h1,by rw [vB,h2.length]⟩
theorem RU (ha:Oke X c a f):PI X tg a (spI X c fun r=>(f r).bind fun x=>items .plain [x]):=by
 refine rT (ON ha) fun O H R q=>?_;obtain ⟨r,F,ts,e,ht,q⟩:=q;obtain ⟨t,e1,ht⟩:=obs ht;refine ⟨r,F,t,e,e1,fun v F' H' s1 r1=>?_⟩;cases t with
 | tup us =>cases ht;obtain ⟨l,vs,rfl,h1,h2⟩:=r1;exact ⟨l,rfl,.inr ⟨vs,dQ s1.fh h1,q _ F' H' s1 (RR h1 h2)⟩⟩
 | lst us =>cases ht;obtain ⟨l,vs,rfl,h1,h2⟩:=r1;exact ⟨l,rfl,.inl ⟨vs,(Ls.same s1.fh h1).sq,q _ F' H' s1 (RP h1 h2)⟩⟩
 | _=>cases ht
theorem RV (gd:Gd X c G k) (hg:glB c.sc "range"=true) (ha:Oke X c a f) (hs:starEach [a] X.env=[(false,eval a X.env)]) :
  PI X tg (.Call (.Name "range" p) [a] [] pos) (spI X c fun r=>(f r).bind fun x=>items .range [x]):=by
 refine rT (JC (gd.gl _ hg) (gd.nob _ (by decide +kernel)) (jY ha hs) hs) fun O H R q=>?_;obtain ⟨r,F,ts,e,ht,q⟩:=q;obtain ⟨t,e1,ht⟩:=obs ht;refine ⟨r,F,[t],e,fA.mpr ⟨t,e1,rfl⟩,fun vs F' H' s1 r1=>?_⟩;obtain ⟨v,w,rfl,h1,h2⟩:=r1;cases h2;cases t with
 | int n =>
  cases h1;simp only [items] at ht;split at ht
  .rename_i hz;cases ht;have e62:(2:Int) ^ 62=4611686018427387904:=by decide
   exact ⟨n,rfl,by rw [e62];exact hz.1,by rw [e62];exact hz.2,q _ F' H' s1 (RT _)⟩
  .cases ht
 | _=>cases ht
theorem RW (gd:Gd X c G k) {kx:Nat} {p2:Pos} (hg:glB c.sc "enumerate"=true) (ha:Oke X c a f) (hs:starEach [a] X.env=[(false,eval a X.env)]) :
  PI X (.Tuple elts kx p2) (.Call (.Name "enumerate" p) [a] [] pos) (spI X c fun r=>(f r).bind fun x=>items .enum [x]):=by
 refine rT (OO (gd.gl _ hg) (gd.nob _ (by decide +kernel)) (jY ha hs) hs) fun O H R q=>?_;obtain ⟨r,F,ts,e,ht,q⟩:=q;obtain ⟨t,e1,ht⟩:=obs ht;refine ⟨r,F,[t],e,fA.mpr ⟨t,e1,rfl⟩,fun vs F' H' s1 r1=>?_⟩;obtain ⟨v,w,rfl,h1,h2⟩:=r1;cases h2;cases t with
 | tup us =>cases ht;obtain ⟨l,vs,rfl,h1,h2⟩:=h1;exact ⟨l,rfl,.inr ⟨vs,dQ s1.fh h1,q _ F' H' s1 (CP (sq:=SqT X.K) (fun e h=>RQ e h) (SqT.of h1) h2)⟩⟩
 | lst us =>cases ht;obtain ⟨l,vs,rfl,h1,h2⟩:=h1;exact ⟨l,rfl,.inl ⟨vs,(Ls.same s1.fh h1).sq,q _ F' H' s1 (CP (sq:=SqL X.K) (fun e h=>e.seq h) h1.sq h2)⟩⟩
 | _=>cases ht
theorem vC:∀ (xs ys:List T),(dS xs ys).length=min xs.length ys.length
 | [],_=>by simp [dS]
 | _::_,[]=>by simp [dS]
 | x::xs,y::ys=>by simp only [dS,List.length_cons,vC xs ys];lia
theorem CQ:∀ {xs ys:List T} {i:Nat} {t:T},(dS xs ys)[i]?=some t->∃ x y,xs[i]?=some x/\ys[i]?=some y/\t=.tup [x,y]
 | [],_,_,_,h=>by simp [dS] at h
 | _::_,[],_,_,h=>by simp [dS] at h
 | x::xs,y::ys,0,t,h=>by simp [dS] at h;exact ⟨x,y,rfl,rfl,h.symm⟩
 | x::xs,y::ys,i+1,t,h=>by simp only [dS,bJ] at h;obtain ⟨u,v,h1,h2,h3⟩:=CQ h;exact ⟨u,v,by simpa using h1,by simpa using h2,h3⟩
theorem RX {l1 l2:Addr} {ws:List V} {xs ys:List T} (q1:∀ H,Same F' H->SqB K H l1 vs) (q2:∀ H,Same F' H->SqB K H l2 ws) (h1:aF K F' xs vs) (h2:aF K F' ys ws):Walk K (Itz K l1 l2) (dS xs ys) F' where
 go:=fun i H hi sm=>by rw [vC] at hi;obtain ⟨v,hv,_⟩:=h1.get (bW (show i<xs.length by lia));obtain ⟨u,hu,_⟩:=h2.get (bW (show i<ys.length by lia));exact ⟨vs,ws,v,u,q1 H sm,q2 H sm,hv,hu⟩
 yld:=fun i H x H5 F t ht sF fh y=>by obtain ⟨p,v,u,hp,rfl,rfl,y1,y2⟩:=y;obtain ⟨a,b,ha,hb,rfl⟩:=CQ ht;obtain ⟨va,hva,ra⟩:=h1.get ha;obtain ⟨vb,hvb,rb⟩:=h2.get hb;have e1:=y1 vs (q1 H (sF.trans fh));have e2:=y2 ws (q2 H (sF.trans fh));rw [hva] at e1;rw [hvb] at e2;cases e1;cases e2;have st:=(Step.refl fh).new (o:=.tup [v,u]) hp;exact ⟨_,st,p,_,rfl,cC,v,[u],rfl,(ra.mono sF).mono st.ff,u,[],rfl,(rb.mono sF).mono st.ff,rfl⟩
 stop:=fun H sm=>⟨vs,ws,q1 H sm,q2 H sm,by rw [vC,h1.length,h2.length];lia⟩
theorem RY (gd:Gd X c G k) {b:Expr} {kx:Nat} {p2:Pos} {g:Env->Option T} (hg:glB c.sc "zip"=true) (ha:Oke X c a f) (hb:Oke X c b g) (hs:starEach [a,b] X.env=[(false,eval a X.env),(false,eval b X.env)]) (hs2:starEach [b] X.env=[(false,eval b X.env)]) :
  PI X (.Tuple elts kx p2) (.Call (.Name "zip" p) [a,b] [] pos) (spI X c fun r=>(f r).bind fun x=>(g r).bind fun y=>items .zip [x,y]):=by
 refine rT (OT (gd.gl _ hg) (gd.nob _ (by decide +kernel)) (oH ha (jY hb hs2) (by rw [hs,hs2])) hs hs2) fun O H R q=>?_;obtain ⟨r,F,ts,e,ht,q⟩:=q;obtain ⟨t1,e1,ht⟩:=obs ht;obtain ⟨t2,e2,ht⟩:=obs ht;refine ⟨r,F,[t1,t2],e,fA.mpr ⟨t1,e1,fA.mpr ⟨[t2],fA.mpr ⟨t2,e2,rfl⟩,rfl⟩⟩,fun vs F' H' s1 r1=>?_⟩;obtain ⟨v,w1,rfl,r1,w,w2,rfl,r2,r3⟩:=r1;cases r3;cases t1 with
 | tup xs =>
  cases t2 with
  | tup ys =>cases ht;obtain ⟨l1,vs1,rfl,a2,a1⟩:=r1;have a2:∀ H,Same F' H->SqB X.K H l1 vs1:=fun H sm=>dQ sm a2;obtain ⟨l2,vs2,rfl,a4,a3⟩:=r2;have a4:∀ H,Same F' H->SqB X.K H l2 vs2:=fun H sm=>dQ sm a4;exact ⟨l1,l2,vs1,vs2,rfl,a2 H' s1.fh,a4 H' s1.fh,q _ F' H' s1 (RX a2 a4 a1 a3)⟩
  | _=>cases ht
 | _=>cases ht
def nI:List Nat->List V->L2.St->L2.St
 | i::is,v::vs,O=>nI is vs (O.set i (some v))
 | _,_,O=>O
def gL:List Nat->TGs
 | []=>gNil
 | i::is=>yH (tF i) (gL is)
theorem CU:∀ {is:List Nat} {vs:List V} {O:L2.St} {H:Hp} {Q:L2.St->Hp->Prop},vs.length=is.length->Q (nI is vs O) H->gL is vs O H Q
 | [],[],_,_,_,_,q=>⟨rfl,q⟩
 | [],_::_,_,_,_,h,_=>by simp at h
 | _::_,[],_,_,_,h,_=>by simp at h
 | i::is,v::vs,O,H,Q,h,q=>⟨v,vs,rfl,CU (is:=is) (by simpa using h) q⟩
structure At (X:Cx) (x:Str) (i:Nat):Prop where
 ix:X.N[i]?=some x
 loc:Loc X.env.scope x
 fn:X.fn x=true\/X.env.scope.names.lookup x=some .local
inductive Ats (X:Cx):List Str->List Nat->Prop
 | nil:Ats X [] []
 | cons {x:Str} {i:Nat} {xs:List Str} {is:List Nat}:At X x i->Ats X xs is->Ats X (x::xs) (i::is)
theorem CV (hN:X.N.Nodup):∀ {es:List Expr} {xs:List Str} {is:List Nat},(es.mapM fun e=>match e with | .Name x _=>some x | _=>none)=some xs->Ats X xs is ->
  PGs X es (gL is)/\(assignEach es X.env).length=xs.length/\(assignEach es X.env).findIdx? (·.1)=none
 | [],xs,is,h,ha=>by
  have e:xs=[]:=by simpa using h.symm
  subst e;cases ha;exact ⟨IU,rfl,rfl⟩
 | e::es,xs,is,h,ha=>by
  rw [List.mapM_cons] at h;obtain ⟨x,h1,h⟩:=obs h;obtain ⟨xs',h2,h⟩:=obs h;cases h;cases ha with
  | cons a1 a2 =>
   obtain ⟨q1,q2,q3⟩:=CV hN (es:=es) h2 a2;cases e with
   | Name y pos =>
    cases h1;refine ⟨IV (yG hN a1.ix a1.loc a1.fn) q1 rfl,?_,?_⟩
    .show (assignEach es X.env).length+1=xs'.length+1;rw [q2]
    .show List.findIdx? (·.1) ((false,_)::assignEach es X.env)=none;rw [List.findIdx?_cons];simp [q3]
   | _=>cases h1
def gT (K:W.Frag) (one:Bool) (is:List Nat):TG:=fun v O H Q =>
 match one,is with
 | true,[i]=>Q (O.set i (some v)) H
 | true,_=>False
 | false,is=>∃ a vs,v=.ref a/\SqT K H a vs/\vs.length=is.length/\Q (nI is vs O) H
theorem vD:∀ {xs:List Str} {is:List Nat},Ats X xs is->xs.length=is.length
 | _,_,.nil=>rfl
 | _,_,.cons _ h=>by simp [vD h]
theorem rV (hN:X.N.Nodup) (hc:X.calm=true) {xs:List Str} {is:List Nat} (h:iQ tg=some xs) (ha:Ats X xs is):PG X tg (gT X.K (!eA tg) is):=by
 cases tg with
 | Name x pos =>
  cases h;cases ha with
  | cons a1 a2 =>cases a2;exact yG hN a1.ix a1.loc a1.fn
 | Tuple es k pos =>obtain ⟨q1,q2,q3⟩:=CV hN h ha;intro pj s O H v u Q I r hw;obtain ⟨a,vs,rfl,h1,h2,q⟩:=hw;exact IW hc q1 (q2.trans (vD ha)) q3 pj s O H _ u Q I r ⟨a,vs,rfl,h1,h2,CU h2 q⟩
 | _=>cases h
end
section
variable {M:Program} {W:World} {A:Around} {E:Vq}
end
section
variable {X:Cx}
end
end
section
section
variable {X:Cx} {pj:Pq} {O:L2.St} {H H':Hp} {s:Shared} {h':Heap}
theorem RZ {t':Nat} (I:L2.Inv X pj O H s) (k:∀ b u,s.heap.get? b=some u->h'.get? b=some u) (up:∀ b u,H b=some u->H' b=some u) (new:∀ b u,H' b=some u->H b=some u\/(s.heap.objs.size<=b/\aN X.prog X.w H' h' b u)) :
  L2.Inv X pj O H' { s with heap:=h',toks:=t' }:=by
 refine I.step (g':=s.gens) (d':=s.drawn) (ch:=[]) (fun b hb=>nomatch hb) (fun b o _ _ _ q _=>k b o q) (fun b o _ _ _ q _=>⟨o.slots,k b o q⟩) (fun b o _ q z=>?_) (fun b o _ q=>⟨o,k b o q⟩) (fun b xs q=>up b _ q) (fun b o u q=>up _ _ q) (fun b ps q=>⟨#[],by rw [up b _ q];simp⟩) (fun m hm=>?_) (fun b u q=>?_) I.bare
 .cases e:H' b with
  | none=>rfl
  | some u =>
   rcases new b u e with y | ⟨y,_⟩
   .rw [z] at y;cases y
   .exact absurd (aX q) (Nat.not_lt.mpr y)
 .obtain ⟨o,es,ep,ho,r⟩:=hm;exact ⟨o,es,ep,k _ o ho,r⟩
 .rcases new b u q with y | y
  .exact (I.hok b u y).stay (fun c v _ z=>k c v z) (fun c z=>up c _ z) fun c xs z=>up c _ z
  .exact y.2
end
def jZ (H:Hp):List Addr->List (V × V)->Hp
 | a::as,p::ps=>aP (jZ H as ps) a (.tup [p.1,p.2])
 | _,_=>H
theorem pR {H:Hp} {b:Addr}:∀ {as:List Addr} {ps:List (V × V)},b∉as->jZ H as ps b=H b
 | [],_,_=>rfl
 | _::_,[],_=>rfl
 | a::as,p::ps,h=>by rw [jZ,aR (fun z=>h (by rw [z];exact .head _))];exact pR fun z=>h (.tail _ z)
theorem CW {H:Hp}:∀ {as:List Addr} {ps:List (V × V)} {j:Nat} {a:Addr} {p:V × V},as.Nodup->as[j]?=some a->ps[j]?=some p->jZ H as ps a=some (.tup [p.1,p.2])
 | [],_,_,_,_,_,h,_=>by simp at h
 | _::_,[],_,_,_,_,_,h=>by simp at h
 | a::as,p::ps,0,b,q,_,h1,h2=>by cases h1;cases h2;exact cC
 | a::as,p::ps,j+1,b,q,hn,h1,h2=>by
  have h1:as[j]?=some b:=by simpa using h1
  rw [jZ,aR (fun z=>(cK.mp hn).1 (by rw [<- z];exact fT h1))];exact CW (cK.mp hn).2 h1 (by simpa using h2)
theorem CY {H:Hp} {b:Addr} {u:HO}:∀ {as:List Addr} {ps:List (V × V)},jZ H as ps b=some u->H b=some u\/∃ (j:Nat) (p:V × V),as[j]?=some b/\ps[j]?=some p/\u=.tup [p.1,p.2]
 | [],_,h=>.inl h
 | _::_,[],h=>.inl h
 | a::as,p::ps,h=>by
  rw [jZ] at h;by_cases e:b=a
  .subst e;rw [cC] at h;cases h;exact .inr ⟨0,p,rfl,rfl,rfl⟩
  .rw [aR e] at h;rcases CY h with h | ⟨j,q,h1,h2,h3⟩
   .exact .inl h
   .exact .inr ⟨j+1,q,by simpa using h1,by simpa using h2,h3⟩
theorem rW {F H:Hp} (fh:Same F H):∀ {as:List Addr} {ps:List (V × V)},as.Nodup->(∀ a∈as,H a=none)->Step F H (jZ F as ps) (jZ H as ps)
 | [],_,_,_=>Step.refl fh
 | _::_,[],_,_=>Step.refl fh
 | a::as,p::ps,hn,h=>by refine (rW fh (cK.mp hn).2 fun b hb=>h b (.tail _ hb)).new ?_;rw [pR (cK.mp hn).1];exact h a (.head _)
theorem CZ {K:W.Frag} {F':Hp}:∀ {xs ys:List T} {vs ws:List V} {as:List Addr},aF K F' xs vs->aF K F' ys ws->as.length=min vs.length ws.length->(∀ (j:Nat) a p,as[j]?=some a->(vs.zip ws)[j]?=some p->F' a=some (.tup [p.1,p.2]))->aF K F' (dS xs ys) (as.map V.ref)
 | [],ys,vs,ws,as,r1,r2,hl,_=>by
  cases r1;cases as with
  | nil=>rfl
  | cons _ _=>simp at hl
 | _::_,[],vs,ws,as,r1,r2,hl,_=>by
  cases r2;cases as with
  | nil=>rfl
  | cons _ _=>simp at hl
 | x::xs,y::ys,vs,ws,as,r1,r2,hl,h=>by
  obtain ⟨v,vr,rfl,a1,a2⟩:=r1;obtain ⟨w,wr,rfl,b1,b2⟩:=r2;cases as with
  | nil=>simp at hl
  | cons a as =>refine ⟨.ref a,_,rfl,⟨a,[v,w],rfl,h 0 a (v,w) rfl rfl,v,[w],rfl,a1,w,[],rfl,b1,rfl⟩,CZ a2 b2 ?_ fun j b p h1 h2=>h (j+1) b p (by simpa using h1) (by simpa using h2)⟩;simp only [List.length_cons] at hl;lia
section
variable {X:Cx} {c:Tc} {a b:Expr} {p p1 pos pos1:Pos}
theorem SA {x y t:T} (h:lV x y=some t):∃ xs ys,x=.tup xs/\y=.tup ys/\xs.length<=1000/\t=.lst (dS xs ys):=by
 cases x with
 | tup xs =>
  cases y with
  | tup ys =>
   replace h:(if xs.length<=1000 then some (T.lst (dS xs ys)) else none)=some t:=h;split at h
   .rename_i hz;cases h;exact ⟨xs,ys,rfl,rfl,hz,rfl⟩
   .cases h
  | _=>cases h
 | _=>cases h
theorem SB {G:Glo} {k:Nat} (gd:Gd X c G k) {f g:Env->Option T} (hgl:glB c.sc "list"=true) (hg:glB c.sc "zip"=true) (ha:Oke X c a f) (hb:Oke X c b g) (hs:starEach [a,b] X.env=[(false,eval a X.env),(false,eval b X.env)]) (hs2:starEach [b] X.env=[(false,eval b X.env)]) :
  Oke X c (.Call (.Name "list" p1) [.Call (.Name "zip" p) [a,b] [] pos] [] pos1) (fun r=>(f r).bind fun x=>(g r).bind fun y=>lV x y):=by
 intro pj s O H Q I q;refine wpAny_Call_Name_kw (mQ I (gd.gl _ hgl) (gd.nob _ (by decide +kernel)) (show bootBuiltins "list"=some (.type "list") by decide +kernel) ?_);refine PyProof.Rows.callWith_type1 ?_ rfl rfl;show wpAny _ _ (spliced ((false,eval (.Call (.Name "zip" p) [a,b] [] pos) X.env)::backTo pos1 (starEach [] X.env))) _ _ s;refine Calls.spliced_cons ?_;have hA:=oH ha (jY hb hs2) (by rw [hs,hs2]);refine wpAny_Call_Name_kw (mQ I (gd.gl _ hg) (gd.nob _ (by decide +kernel)) (show bootBuiltins "zip"=some (.type "zip") by decide +kernel) ?_);obtain ⟨r,F,t,e,ht,q⟩:=q;obtain ⟨x1,e1,ht⟩:=obs ht;obtain ⟨x2,e2,ht⟩:=obs ht;obtain ⟨xs,ys,rfl,rfl,hz,rfl⟩:=SA ht
 .refine PyProof.Rows.callWith_type1 (thn (hA pos pj s O H (fun vs H1=>∃ F1,Step F H F1 H1/\aF X.K F1 [.tup xs,.tup ys] vs) I ⟨r,F,[.tup xs,.tup ys],e,fA.mpr ⟨_,e1,fA.mpr ⟨[.tup ys],fA.mpr ⟨_,e2,rfl⟩,rfl⟩⟩,fun vs F' H' s1 r1=>⟨F',s1,r1⟩⟩) fun us s1 ⟨vs,H1,I1,r1,q1⟩=>?_) (by rw [hs,hs2]) (by rw [hs2];rfl);obtain ⟨F1,st1,rr⟩:=q1;obtain ⟨v,w1,rfl,m1,w,w2,rfl,m2,m3⟩:=rr;cases m3;obtain ⟨l1,vs1,rfl,a2,a1⟩:=m1;have a2:∀ H,Same F1 H->SqB X.K H l1 vs1:=fun H sm=>dQ sm a2;obtain ⟨l2,vs2,rfl,a4,a3⟩:=m2;have a4:∀ H,Same F1 H->SqB X.K H l2 vs2:=fun H sm=>dQ sm a4;obtain ⟨u,u',rfl,rx,ry⟩:=tJ r1;cases rx;cases ry;obtain ⟨qc,rv,b1,lt1⟩:=I1.sqB (a2 H1 st1.fh);obtain ⟨jts,rw',b2,lt2⟩:=I1.sqB (a4 H1 st1.fh);have hmin:min qc.toArray.size jts.toArray.size<=1000:=by rw [cR,<- rv.length,a1.length];lia
  have fin:∀ {g:Heap},IsZip g (s1.heap.objs.size+4) (s1.heap.objs.size+2) (s1.heap.objs.size+3) .none->IsPair g (s1.heap.objs.size+2) (.ref s1.heap.objs.size) (.ref (s1.heap.objs.size+1))->IsPair g (s1.heap.objs.size+3) .none .none ->
    ItB g s1.heap.objs.size l1 0->ItB g (s1.heap.objs.size+1) l2 0->(∀ c o,s1.heap.get? c=some o->g.get? c=some o)->wpAny (model X.prog X.w) X.A (call (.type "list") [.ref (s1.heap.objs.size+4)]) (fun u s'=>∃ v H',L2.Inv X pj O H' s'/\aC v u/\Q v H') X.xe { s1 with heap:=g }:=fun {g} z1 z2 z3 z4 z5 k=>by
   refine PD (s:={ s1 with heap:=g }) (xs:=qc.toArray) (ys:=jts.toArray) (I1.ok.hd gd.calm) lt1 lt2 (by rw [eT];lia) z1 z3 z2 z4 z5 (oK b1 fun o=>k _ o) (oK b2 fun o=>k _ o) fun h' tk acc c as hk hS hl hG hacc=>?_;have zl:s1.heap.objs.size+4<g.objs.size:=aX z1;have kp:∀ (b:Addr) o,s1.heap.get? b=some o->h'.get? b=some o:=fun b o e=>hk b o (fun z=>by have lt:b<s1.heap.objs.size:=aX e;simp only [List.mem_cons,List.not_mem_nil,or_false] at z;rcases z with z | z | z | z | z<;>(have z:b=_:=z;rw [z] at lt;exact absurd lt (by show ¬ ((_:Nat)<_);lia))) (k b o e);have fr:∀ b:Addr,g.objs.size<=b->H1 b=none:=fun b hb=>I1.hok.fresh (by show (_:Nat)<=_;have:g.objs.size<=(b:Nat):=hb;lia);have hn:∀ a∈as,H1 a=none:=fun a h=>fr a (Nat.le_of_lt (hG.above a h));have hSn:g.objs.size∉as:=fun z=>absurd (hG.above _ z) (gB _);have st2:=((rW st1.fh (ps:=vs1.zip vs2) hG.rise hn).new (p:=g.objs.size) (o:=.lst (as.map V.ref)) (by rw [pR hSn];exact fr _ (aV _)));have hlen:as.length=min vs1.length vs2.length:=by rw [hl,cR,cR,rv.length,rw'.length]
   refine ⟨.ref g.objs.size,aP (jZ H1 as (vs1.zip vs2)) g.objs.size (.lst (as.map V.ref)),RZ (s:=s1) (t':=tk) I1 kp (fun b u hb=>by rw [aR (cS hb (fr _ (aV _))),pR fun z=>by rw [hn b z] at hb;cases hb];exact hb) (fun b u hb=>?_),rfl,q _ _ _ (st1.trans st2) ⟨_,_,rfl,Ls.of cC,?_⟩⟩
   .by_cases e:b=g.objs.size
    .subst e;rw [cC] at hb;cases hb;refine .inr ⟨by show (_:Nat)<=_;lia,?_,acc.toList,c,?_,by rw [Array.toArray_toList];exact hS⟩
     .rw [bA,hl,eT];lia
     .rw [hacc];clear hl hG hacc hn hSn st2 hlen
      induction as with
      | nil=>exact .nil
      | cons a as ih=>exact .cons rfl ih
    .rw [aR e] at hb;rcases CY hb with hb | ⟨j,p,h1,h2,rfl⟩
     .exact .inl hb
     .obtain ⟨x,y,g1,g2,g3⟩:=hG.pairs j b h1;have hb':=hG.above b (fT h1);rw [List.getElem?_zip_eq_some] at h2;obtain ⟨u1,hu1,ru1⟩:=rv.get h2.1;obtain ⟨u2,hu2,ru2⟩:=rw'.get h2.2;have:x=u1:=by simpa [hu1] using g1.symm
      subst this;have:y=u2:=by simpa [hu2] using g2.symm
      subst this;exact .inr ⟨by show (_:Nat)<=_;have:g.objs.size<(b:Nat):=hb';lia,by show 2<=sizeLine;decide,[x,y],.cons ru1 (.cons ru2 .nil),_,g3,rfl,_,rfl⟩
   .exact (CZ (a1.mono (rW st1.fh (ps:=vs1.zip vs2) hG.rise hn).ff) (a3.mono (rW st1.fh (ps:=vs1.zip vs2) hG.rise hn).ff) hlen fun j b p h1 h2=>CW hG.rise h1 h2).mono (gU (by rw [pR hSn];exact st1.fh.free (fr _ (aV _))))
  have go:∀ {g:Heap},wpAny (model X.prog X.w) X.A (call (.type "list") [.ref (s1.heap.objs.size+4)]) (fun u s'=>∃ v H',L2.Inv X pj O H' s'/\aC v u/\Q v H') X.xe { s1 with heap:=g }->wpAny (model X.prog X.w) X.A (spliced (backTo pos1 (starEach [] X.env))) (fun vs s₁=>wpAny (model X.prog X.w) X.A (call (.type "list") (.ref (s1.heap.objs.size+4)::vs)) (fun u s'=>∃ v H',L2.Inv X pj O H' s'/\aC v u/\Q v H') X.xe s₁) X.xe { s1 with heap:=g }:=fun h=>aI h;exact AW b1 b2 fun g y1 y2 y3 y4 y5 _ k=>go (fin y1 y2 y3 y4 y5 k)
end
end
section
theorem jI:∀ {l:List Str} {x:Str} {i:Nat},bY l x=some i->l[i]?=some x
 | [],_,_,h=>by cases h
 | y::r,x,i,h=>by
  unfold bY at h;split at h
  .rename_i e;cases h;rw [cV e];rfl
  .obtain ⟨j,hj,rfl⟩:=oms h;simpa using jI hj
theorem DA:∀ {l r:List Str} {x:Str} {i:Nat},bY (l++r) x=some i->(bY l x=some i/\i<l.length)\/(x∉l/\l.length<=i/\bY r x=some (i-l.length))
 | [],r,x,i,h=>.inr ⟨by simp,Nat.zero_le _,by simpa using h⟩
 | y::l,r,x,i,h=>by
  rw [List.cons_append,bY] at h;split at h
  .rename_i e;cases h;left;rw [bY,if_pos e];exact ⟨rfl,by simp⟩
  .rename_i e;obtain ⟨j,hj,rfl⟩:=oms h;rcases DA hj with ⟨h1,h2⟩ | ⟨h1,h2,h3⟩
   .left;rw [bY,if_neg e,h1];exact ⟨rfl,by simpa using h2⟩
   .right;refine ⟨fun z=>?_,by simpa using h2,?_⟩
    .rcases omc z with q | q
     .exact e (by rw [q];exact jN _)
     .exact h1 q
    .rw [h3,fS,show j+1-(l.length+1)=j-l.length by lia]
theorem DB:∀ {xs:List Str},mX xs=true->xs.Nodup
 | [],_=>gK
 | x::r,h=>by simp only [mX,Bool.and_eq_true,Bool.not_eq_true'] at h;refine cK.mpr ⟨fun z=>?_,DB h.2⟩;have:=h.1;rw [List.contains_iff_mem.mpr z] at this;cases this
structure CsB (out sc:Scope) (xs:List Str):Prop where
 kind:sc.kind=.function
 nd:xs.Nodup
 own:∀ x∈xs,bZ x=true/\(sc.names.lookup x=some .local\/sc.names.lookup x=some .cell)
 free:∀ y∈sc.names,y.2=.free->sc.names.lookup y.1=some .free/\(out.names.lookup y.1=some .cell\/out.names.lookup y.1=some .free)
 loc:∀ y∈sc.names,y.2=.local->sc.names.lookup y.1=some .local/\(y.1∈xs\/y.1=".0")
 cel:∀ y∈sc.names,y.2=.cell->sc.names.lookup y.1=some .cell/\y.1∈xs
theorem SC {out sc:Scope} {xs:List Str} (h:pI out sc xs=true):CsB out sc xs:=by
 simp only [pI,Bool.and_eq_true] at h;obtain ⟨⟨⟨h1,h2⟩,h3⟩,h4⟩:=h;have all:=oml h4;refine ⟨by simpa using h1,DB h2,fun x hx=>?_,fun y hy e=>?_,fun y hy e=>?_,fun y hy e=>?_⟩
 .have:=oml h3 x hx;simp only [Bool.and_eq_true,Bool.or_eq_true,beq_iff_eq] at this;exact this
 .have:=all y hy;rw [e] at this;simp only [Bool.and_eq_true,Bool.or_eq_true,beq_iff_eq] at this;exact this
 .have:=all y hy;rw [e] at this;simp only [Bool.and_eq_true,Bool.or_eq_true,beq_iff_eq] at this;exact ⟨this.1,this.2.imp (fun z=>List.contains_iff_mem.mp z) id⟩
 .have:=all y hy;rw [e] at this;simp only [Bool.and_eq_true,beq_iff_eq] at this;exact ⟨this.1,List.contains_iff_mem.mp this.2⟩
section
variable {X:Cx} {c:Tc} {G:Glo} {k:Nat} {scope:Scope} {xs:List Str} {pj:Pq} {fp:List Addr} {qz:Shared} {qy:Hp}
theorem CsB.sc (S:CsB c.sc scope xs) (gd:Gd X c G k):CompSc X scope xs :=
 ⟨S.kind,S.nd,fun x hx=>(S.own x hx).2,fun y hy e=>⟨(S.free y hy e).1,gd.cap y.1 (S.free y hy e).2⟩,fun y hy e=>(S.loc y hy e).1,fun y hy e=>(S.cel y hy e).1⟩
theorem SD {N:List Str} (h:N.Nodup):(eX scope N).Nodup:=h.sublist List.filter_sublist
theorem SE (S:CsB c.sc scope xs) (gd:Gd X c G k):(xs++eX scope X.N).Nodup:=by
 refine List.nodup_append.mpr ⟨S.nd,SD gd.nd,fun x hx y hy e=>?_⟩;subst e;have h1:=(S.own x hx).2;have h2:scope.names.lookup x=some .free:=by have:=(iN.mp hy).2;simpa using this
 rw [h2] at h1;rcases h1 with z | z<;>cases z
theorem SF (S:CsB c.sc scope xs) (gd:Gd X c G k):Gd (blk X pj scope xs fp qz qy) ⟨scope,xs++c.nm⟩ G k where
 room:=gd.room
 calm:=gd.calm
 nob:=gd.nob
 call:=gd.call
 vis:=fun x h=>by
  show (blk X pj scope xs fp qz qy).env.scope.names.lookup x=_\/(blk X pj scope xs fp qz qy).env.scope.names.lookup x=_\/(blk X pj scope xs fp qz qy).env.scope.names.lookup x=_;rw [nB];have h:dG scope x=true:=h;unfold dG at h;cases e:scope.names.lookup x with
  | none=>rw [e] at h;cases h
  | some q =>
   rw [e] at h;cases q with
   | «local»=>exact .inl rfl
   | cell=>exact .inr (.inl rfl)
   | free =>
    dsimp only;split
    .exact .inr (.inl rfl)
    .exact .inr (.inr rfl)
   | _=>cases h
 gl:=fun x h=>by
  show (blk X pj scope xs fp qz qy).env.scope.names.lookup x=_;rw [nB];have h:scope.names.lookup x=some .globalImplicit:=by simpa [glB] using h
  rw [h]
 cap:=fun x h=>by
  show (blk X pj scope xs fp qz qy).env.scope.names.lookup x=_\/(blk X pj scope xs fp qz qy).env.scope.names.lookup x=_;rw [nB];have h:scope.names.lookup x=some .cell\/scope.names.lookup x=some .free:=h;rcases h with h | h<;>rw [h]
  .exact .inl rfl
  .dsimp only;split
   .exact .inl rfl
   .exact .inr rfl
 nd:=SE S gd
theorem DC (S:CsB c.sc scope xs):∀ (l:List Str) (n:Nat),(∀ (j:Nat) (x:Str),l[j]?=some x->xs[n+j]?=some x)->Ats (blk X pj scope xs fp qz qy) l (List.range' n l.length)
 | [],_,_=>.nil
 | x::l,n,h=>by
  have h0:xs[n]?=some x:=by simpa using h 0 x rfl
  have hx:x∈xs:=fT h0;have own:=(S.own x hx).2;have hn:n<xs.length:=(ome h0).1;rw [fS,List.range'_succ];refine .cons ⟨?_,?_,?_⟩ (DC S l (n+1) fun j y e=>by have:=h (j+1) y (by simpa using e);rwa [show n+(j+1)=n+1+j by lia] at this)
  .show (xs++eX scope X.N)[n]?=some x;rw [qK hn];exact h0
  .show (blk X pj scope xs fp qz qy).env.scope.names.lookup x=_\/(blk X pj scope xs fp qz qy).env.scope.names.lookup x=_;rw [nB];rcases own with e | e<;>rw [e]
   .exact .inl rfl
   .exact .inr rfl
  .rcases own with e | e
   .right;rw [nB,e]
   .left;show (scope.names.lookup x==some .cell)=true;rw [e];rfl
theorem SG (S:CsB c.sc scope xs) {r:Env} {F:Hp} {O:L2.St} {H Hc:Hp} (e:EnvE X c r F O H) (hl:O.length=X.N.length) {ts:List T} {vs:List V} (ht:ts.length=xs.length) (rv:aF X.K F ts vs) (fh:Same F Hc) (tb:Tbk X.K F Hc) :
  EnvE (blk X pj scope xs fp qz qy) ⟨scope,xs++c.nm⟩ (ts.map some++r) F (vs.map some++eU scope X.N O) Hc where
 fh:=fh
 tb:=tb
 get:=fun x i t hpn hi hv hr=>by
  have hvl:vs.length=xs.length:=by rw [rv.length,ht]
  have hv:dG scope x=true:=hv;rcases DA (show bY (xs++c.nm) x=some i from hi) with ⟨h1,h2⟩ | ⟨h1,h2,h3⟩
  .have hi':i<ts.length:=by lia
   rw [pA (by simpa using hi'),List.getElem?_map] at hr;obtain ⟨t',ht',e'⟩:=oms hr;cases e';obtain ⟨v,hv1,hv2⟩:=rv.get ht';refine ⟨i,v,?_,?_,hv2⟩
   .show (xs++eX scope X.N)[i]?=some x;rw [qK h2];exact jI h1
   .rw [pA (by simp;lia),List.getElem?_map,hv1];rfl
  .rw [oZ (by simp;lia)] at hr;have hr':r[i-xs.length]?=some (some t):=by simpa [ht] using hr
   have hfree:scope.names.lookup x=some .free:=by
    unfold dG at hv;cases q:scope.names.lookup x with
    | none=>rw [q] at hv;cases hv
    | some kd =>
     rw [q] at hv;cases kd with
     | free=>rfl
     | «local» =>
      have:=(S.loc _ (nC q) rfl).2;rcases this with z | z
      .exact absurd z h1
      .rw [show x=".0" from z] at hpn;exact absurd hpn (by decide +kernel)
     | cell=>exact absurd (S.cel _ (nC q) rfl).2 h1
     | _=>cases hv
   have hout:dG c.sc x=true:=by rcases (S.free _ (nC hfree) rfl).2 with z | z<;>simp [dG,z]
   obtain ⟨j,v,g1,g2,g3⟩:=e.get x (i-xs.length) t hpn h3 hout hr';obtain ⟨m,m1,m2⟩:=AS scope hfree X.N O hl g1 g2;refine ⟨xs.length+m,v,?_,?_,g3⟩
   .show (xs++eX scope X.N)[xs.length+m]?=some x;rw [yA (by lia)];simpa using m1
   .rw [oZ (by simp;lia)];simpa [hvl] using m2
end
end
section
theorem DF:∀ (vs:List V) (front pre rest:L2.St),pre.length=vs.length->nI (List.range' front.length vs.length) vs (front++pre++rest)=front++vs.map some++rest
 | [],front,pre,rest,h=>by
  cases pre with
  | nil=>simp [nI]
  | cons _ _=>simp at h
 | v::vs,front,pre,rest,h=>by
  cases pre with
  | nil=>simp at h
  | cons p pre =>
   rw [fS,List.range'_succ,nI];have e:(front++(p::pre)++rest).set front.length (some v)=(front++[some v])++pre++rest:=by rw [kH,List.set_append,if_neg (gB _)];simp
   have e2:(front++[some v]).length=front.length+1:=by simp
   rw [e,<- e2,DF vs (front++[some v]) pre rest (by simpa using h)];simp
def spC (X:Cx) (c:Tc) (fc:Env->Option Bool):TT:=fun O H Q=>∃ r F b,EnvE X c r F O H/\fc r=some b/\∀ F' H',Step F H F' H'->Q b H'
noncomputable def elM (n:Nat) (r:Env) (fc:Env->Option Bool) (fe:Env->Option T):T->Option (Option T):=fun x=>(bnd n x r).bind fun r'=>(fc r').bind fun b=>if b=true then (fe r').map some else some none
section
variable {X:Cx} {c:Tc} {G:Glo} {k:Nat} {scope:Scope} {xs:List Str}
theorem DG {elt iter tg:Expr} {ifs:List Expr} {pos:Pos} {fe:Env->Option T} {fc:Env->Option Bool} (gd:Gd X c G k) (S:CsB c.sc scope xs) (htg:iQ tg=some xs) (h2n:eA tg=true->2<=xs.length)
  (he:∀ pj fp qz qy,Gd (blk X pj scope xs fp qz qy) ⟨scope,xs++c.nm⟩ G k->Oke (blk X pj scope xs fp qz qy) ⟨scope,xs++c.nm⟩ elt fe)
  (hi:∀ pj fp qz qy,Gd (blk X pj scope xs fp qz qy) ⟨scope,xs++c.nm⟩ G k->∀ (pn:Pq) (s:Shared) (O:L2.St) (H:Hp) (Q:Bool->Hp->Prop),L2.Inv (blk X pj scope xs fp qz qy) pn O H s->spC (blk X pj scope xs fp qz qy) ⟨scope,xs++c.nm⟩ fc O H Q ->
   wpAny (model X.prog X.w) X.A (forIn ifs true fun c r=>if r=true then do let ok <- isTrue c (blk X pj scope xs fp qz qy).env (eval c (blk X pj scope xs fp qz qy).env);pure (ForInStep.yield ok) else pure (ForInStep.yield r)) (TP (blk X pj scope xs fp qz qy) pn O Q) (fun _ _=>False) s)
  {pj:Pq} {fp:List Addr} {O:L2.St} {H2 F2:Hp} {s2:Shared} {J:It} {it:Addr} {tn:Nat->Heap->Prop} {E:Vq} {ts total:List T} {r:Env}
  (I2:L2.Inv X pj O H2 s2) (Tn:Turn X.prog X.w X.K tg J fp it tn) (st2:tn 0 s2.heap) (f2:∀ b∈fp,fD X pj H2 b) (wk:Walk X.K J ts F2) (e2:EnvE X c r F2 O H2) (hts:ts.length<=SZ) (hcm:dP (elM xs.length r fc fe) ts=some total) :
  wpAny (model X.prog X.w) X.A (newList []) (fun acc qz=>wpAny (model X.prog X.w) X.A (newFunctionEnv scope X.env.globals (gS X.env scope.names []) [] X.env.qual none .none (some X.env)) (fun cenv s₄ =>
   codeAny (model X.prog X.w) X.A (.compStart (.ListComp elt [⟨tg,iter,ifs,0⟩] scope pos) 0 (.ref it) acc { cenv with scope:=relabel scope X.env })
    (fun r s'=>r=.ok .next/\∃ D H',acc=.ref D/\L2.Inv X pj O H' s'/\fD X pj H' cenv.locals/\(∃ m,s'.heap.Ns cenv.locals m) /\
     ∃ F vs,Step F2 H2 F H'/\F D=none/\H2 D=none/\H' D=some (.lst vs)/\aF X.K F total vs) s₄) E qz) E s2:=by
 have hl:O.length=X.N.length:=I2.len;have gb:∀ qz qy,Gd (blk X pj scope xs fp qz qy) ⟨scope,xs++c.nm⟩ G k:=fun qz qy=>SF S gd;have hat:∀ qz qy,Ats (blk X pj scope xs fp qz qy) xs (List.range' 0 xs.length):=fun qz qy=>DC S xs 0 fun j x e=>by rw [Nat.zero_add];exact e
 refine OJ (g:=fun _ _=>gT X.K (!eA tg) (List.range' 0 xs.length)) (tc:=fun qz qy=>spC (blk X pj scope xs fp qz qy) ⟨scope,xs++c.nm⟩ fc) (te:=fun qz qy=>spE (blk X pj scope xs fp qz qy) ⟨scope,xs++c.nm⟩ fe)
  gd.calm (S.sc gd) I2 Tn st2 f2 (fun qz qy _=>rV (X:=blk X pj scope xs fp qz qy) (gb qz qy).nd gd.calm htg (hat qz qy)) (fun qz qy _=>hi pj fp qz qy (gb qz qy)) (fun qz qy _=>he pj fp qz qy (gb qz qy))
  (fun D i m O' H'=>i<=ts.length/\m=ts.length-i/\(∃ pre:L2.St,O'=pre++eU scope X.N O/\pre.length=xs.length)/\∃ F vs rs rest,Step F2 H2 F H'/\F D=none/\H2 D=none/\H' D=some (.lst vs)/\aF X.K F rs vs/\vs.length<=i/\dP (elM xs.length r fc fe) (ts.drop i)=some rest/\rs++rest=total)
  (fun D H'=>∃ F vs,Step F2 H2 F H'/\F D=none/\H2 D=none/\H' D=some (.lst vs)/\aF X.K F total vs) ?_ ?_
 .intro D hD;exact ⟨ts.length,Nat.zero_le _,rfl,⟨_,rfl,by simp⟩,F2,[],[],total,(Step.refl e2.fh).newH hD,e2.fh.free hD,hD,cC,rfl,Nat.le_refl _,hcm,rfl⟩
 .rintro qz qy D i m O' H' BOk ⟨hi1,rfl,⟨pre,rfl,hpre⟩,F,vs,rs,rest,st,hF,hH2,hH',hrs,hvl,hcr,htot⟩;have sm:Same F2 H':=st.ff.trans st.fh;by_cases hlt:i<ts.length
  .right;have hti:ts[i]?=some ts[i]:=bW hlt;generalize hT:ts[i]=t at hti;rw [List.drop_eq_getElem_cons hlt,hT,dP] at hcr;obtain ⟨o,ho,hcr⟩:=obs hcr;obtain ⟨rest',hr',hcr⟩:=obs hcr;obtain ⟨r',hb,ho⟩:=obs (show (bnd xs.length t r).bind _=some o from ho);obtain ⟨bb,hfc,ho⟩:=obs ho;refine ⟨wk.go i H' hlt sm,fun O'' H''=>i+1<=ts.length/\(∃ pre:L2.St,O''=pre++eU scope X.N O/\pre.length=xs.length)/\∃ F vs rs rest,Step F2 H2 F H''/\F D=none/\H2 D=none/\H'' D=some (.lst vs)/\aF X.K F rs vs/\vs.length<=i+1/\dP (elM xs.length r fc fe) (ts.drop (i+1))=some rest/\rs++rest=total,?_,?_⟩
   .rintro O'' H'' ⟨a1,a2,a3⟩;exact ⟨ts.length-(i+1),by lia,a1,rfl,a2,a3⟩
   .intro x H5 y;obtain ⟨F5,st5,r5⟩:=wk.yld i H' x H5 F t hti st.ff st.fh y;have cont:∀ (us:List T) (ws:List V),us.length=xs.length->aF X.K F5 us ws->r'=us.map some++r->(spC (blk X pj scope xs fp qz qy) ⟨scope,xs++c.nm⟩ fc) (ws.map some++eU scope X.N O) H5 fun ok H7=>if ok=true then (spE (blk X pj scope xs fp qz qy) ⟨scope,xs++c.nm⟩ fe) (ws.map some++eU scope X.N O) H7 fun y H8=>∃ ys,H8 D=some (.lst ys)/\ys.length<sizeLine /\
      (i+1<=ts.length/\(∃ pre:L2.St,ws.map some++eU scope X.N O=pre++eU scope X.N O/\pre.length=xs.length)/\∃ F vs rs rest,Step F2 H2 F (aP H8 D (.lst (ys++[y])))/\F D=none/\H2 D=none/\aP H8 D (.lst (ys++[y])) D=some (.lst vs)/\aF X.K F rs vs/\vs.length<=i+1/\dP (elM xs.length r fc fe) (ts.drop (i+1))=some rest/\rs++rest=total)
      else (i+1<=ts.length/\(∃ pre:L2.St,ws.map some++eU scope X.N O=pre++eU scope X.N O/\pre.length=xs.length)/\∃ F vs rs rest,Step F2 H2 F H7/\F D=none/\H2 D=none/\H7 D=some (.lst vs)/\aF X.K F rs vs/\vs.length<=i+1/\dP (elM xs.length r fc fe) (ts.drop (i+1))=some rest/\rs++rest=total):=by
     intro us ws hul hrw hrr;have hwl:(ws.map some:L2.St).length=xs.length:=by rw [bA,hrw.length,hul]
     have e5:=SG (pj:=pj) (fp:=fp) (qz:=qz) (qy:=qy) S (e2.step (st.trans st5)) hl hul hrw st5.fh (e2.tb.up (st.trans st5));rw [<- hrr] at e5;refine ⟨r',F5,bb,e5,hfc,fun F7 H7 s7=>?_⟩;have st7:=st5.trans s7;have hD7:H7 D=some (.lst vs):=st7.hh.st D _ hH' rfl;have nD:∀ {F8 H8:Hp},Step F H' F8 H8->F8 D=none:=fun {F8 H8} s8=>by
      cases q:F8 D with
      | none=>rfl
      | some o =>
       rcases s8.nw D (by rw [q];simp) with z | z | ⟨_,z⟩
       .exact absurd hF z
       .rw [hH'] at z;cases z
       .rw [hH'] at z;cases z
     cases bb with
     | false =>dsimp only at ho ⊢;rw [if_neg dI] at ho ⊢;cases ho;cases hcr;exact ⟨hlt,⟨_,rfl,hwl⟩,F7,vs,rs,_,st.trans st7,nD st7,hH2,hD7,hrs.mono st7.ff,by lia,hr',htot⟩
     | true =>
      dsimp only at ho ⊢;rw [if_pos rfl] at ho ⊢;obtain ⟨yt,hye,rfl⟩:=oms ho;cases hcr;refine ⟨r',F7,yt,e5.step s7,hye,fun v F8 H8 s8 r8=>?_⟩;have st8:=st7.trans s8;have S8:=st.trans st8;have hF8:=nD st8;refine ⟨vs,st8.hh.st D _ hH' rfl,?_,hlt,⟨_,rfl,hwl⟩,F8,vs++[v],rs++[yt],_,⟨S8.hh.aP hH2 (st8.hh.st D _ hH' rfl) rfl (fun _ _ z=>nomatch z),S8.ff,fun b o q=>?_,S8.nw⟩,hF8,hH2,cC,(hrs.mono st8.ff).app ⟨v,[],rfl,r8,rfl⟩,by simp;lia,hr',by rw [List.append_assoc];exact htot⟩
      .rw [<- jX];lia
      .rw [aR (cS q hF8)];exact S8.fh b o q
    cases htup:eA tg with
    | false =>
     have hx1:∃ z,xs=[z]:=by
      cases tg with
      | Name z p=>cases htg;exact ⟨z,rfl⟩
      | Tuple _ _ _=>cases htup
      | _=>cases htg
     obtain ⟨z,rfl⟩:=hx1;have hb':some (some t::r)=some r':=hb;cases hb';obtain ⟨p0,rfl⟩:∃ p0,pre=[p0]:=by
      cases pre with
      | nil=>simp at hpre
      | cons p0 q=>cases q with
       | nil=>exact ⟨p0,rfl⟩
       | cons _ _=>simp at hpre
     exact cont [t] [x] rfl ⟨x,[],rfl,r5,rfl⟩ rfl
    | true =>
     have hn2:=h2n htup;unfold bnd at hb;rw [if_neg (by lia)] at hb;cases t with
     | tup us =>
      simp only at hb;split at hb
      .rename_i hul;cases hb;obtain ⟨a,ws,rfl,q1,q2⟩:=r5;refine ⟨a,ws,rfl,dQ st5.fh q1,by rw [List.length_range',q2.length,hul],?_⟩;have es:=DF ws [] pre (eU scope X.N O) (by rw [hpre,q2.length,hul]);rw [q2.length,hul] at es;simp only [List.length_nil,List.nil_append] at es;rw [es];exact cont us ws hul q2 rfl
      .cases hb
     | _=>cases hb
  .left;have hie:i=ts.length:=by lia
   subst hie;rw [List.drop_length] at hcr;cases hcr;rw [eO] at htot;subst htot;exact ⟨wk.stop H' sm,F,vs,st,hF,hH2,hH',hrs⟩
end
end
section
section
variable {X:Cx} {c:Tc} {G:Glo} {k:Nat} {scope:Scope} {xs:List Str}
theorem DH {F H F2 H2 F3 H':Hp} {D:Addr} {vs:List V} (a:Step F H F2 H2) (b:Step F2 H2 F3 H') (h1:F3 D=none) (h2:H2 D=none) (h3:H' D=some (.lst vs)):Step F H (aP F3 D (.lst vs)) H' :=
 have S:=a.trans b
 ⟨S.hh,S.ff.trans (gU h1),fun x o q=>by
  by_cases hx:x=D
  .subst hx;rw [cC] at q;cases q;exact h3
  .rw [aR hx] at q;exact S.fh x o q,fun x z=>by
  by_cases hx:x=D
  .subst hx;exact .inr (.inl (a.hh.free h2))
  .rw [aR hx] at z;exact S.nw x z⟩
noncomputable def mC (xs:List Str) (fi:Env->Option (List T)) (fc:Env->Option Bool) (fe:Env->Option T):Env->Option T :=
 fun r=>((fi r).bind fun qc=>if qc.length<=SZ then some qc else none).bind fun qc=>(dP (elM xs.length r fc fe) qc).map .lst
variable {elt iter tg:Expr} {ifs:List Expr} {pos:Pos} {fe:Env->Option T} {fc:Env->Option Bool} {fi:Env->Option (List T)}
theorem DI {r:Env} {t:T} (h:mC xs fi fc fe r=some t):∃ qc total,fi r=some qc/\qc.length<=SZ/\dP (elM xs.length r fc fe) qc=some total/\t=.lst total:=by
 unfold mC at h;obtain ⟨qc,h1,h⟩:=obs h;obtain ⟨its',h2,h1⟩:=obs h1;split at h1
 .rename_i hz;cases h1;obtain ⟨total,h3,rfl⟩:=oms h;exact ⟨qc,total,h2,hz,h3,rfl⟩
 .cases h1
theorem vE (gd:Gd X c G k) (S:CsB c.sc scope xs) (htg:iQ tg=some xs) (h2n:eA tg=true->2<=xs.length)
  (he:∀ pj fp qz qy,Gd (blk X pj scope xs fp qz qy) ⟨scope,xs++c.nm⟩ G k->Oke (blk X pj scope xs fp qz qy) ⟨scope,xs++c.nm⟩ elt fe)
  (hi:∀ pj fp qz qy,Gd (blk X pj scope xs fp qz qy) ⟨scope,xs++c.nm⟩ G k->∀ (pn:Pq) (s:Shared) (O:L2.St) (H:Hp) (Q:Bool->Hp->Prop),L2.Inv (blk X pj scope xs fp qz qy) pn O H s->spC (blk X pj scope xs fp qz qy) ⟨scope,xs++c.nm⟩ fc O H Q ->
   wpAny (model X.prog X.w) X.A (forIn ifs true fun c r=>if r=true then do let ok <- isTrue c (blk X pj scope xs fp qz qy).env (eval c (blk X pj scope xs fp qz qy).env);pure (ForInStep.yield ok) else pure (ForInStep.yield r)) (TP (blk X pj scope xs fp qz qy) pn O Q) (fun _ _=>False) s)
  (hit:PI X tg iter (spI X c fi)) (hfs:∀ x,foldedSetIterable iter X.env x=pure x):Oke X c (.ListComp elt [⟨tg,iter,ifs,0⟩] scope pos) (mC xs fi fc fe):=by
 intro pj s O H Q I q;obtain ⟨r,F,t,e,ht,q⟩:=q;obtain ⟨qc,total,hf,hz,hcm,rfl⟩:=DI ht;rw [eval_ListComp];refine wpAny_comprehension_free (use:=none) rfl hfs (zG ((S.sc gd).has I.ok)) S.kind (fun y hy e=>(S.loc y hy e).1)
  (thn (hit pj s O H (fun J H'=>∃ F',Step F H F' H'/\Walk X.K J qc F') I ⟨r,F,qc,e,hf,fun J F' H' s1 wk=>⟨F',s1,wk⟩⟩) fun v s1 h1=>thn h1 fun itv s2 h2=>?_)
 obtain ⟨it,fp,tn,J,H2,rfl,I2,T,st2,f2,F2,s12,wk⟩:=h2;refine thn (DG (E:=X.xe) gd S htg h2n he hi I2 T st2 f2 wk (e.step s12) hz hcm) fun acc s3 h3=>thn h3 fun cenv s4 h4=>codeAny_mono h4 fun res s' hres=>?_;obtain ⟨rfl,D,H',rfl,I',fC,⟨m,hm⟩,F3,vs,st3,d1,d2,d3,d4⟩:=hres;refine ⟨m,hm,fun h' hsb=>⟨.ref D,H',I'.turned (t':=s'.toks) (fun b o hb q=>(hsb.2 b hb).trans q) fC.1 fC.2.1 fC.2.2.2.1 fC.2.2.2.2.1 fC.2.2.2.2.2,rfl,?_⟩⟩;have S3:=DH s12 st3 d1 d2 d3;exact q _ _ _ S3 ⟨D,vs,rfl,Ls.of cC,d4.mono (gU d1)⟩
def vF (X:Cx) (c:Tc) (i:Nat) (f:Env->Option T):TS:=fun D O H=>∃ r F t,EnvE X c r F O H/\f r=some t/\∀ v F' H',Step F H F' H'->Rep X.K F' t v->D.nx (O.set i (some v)) H'
theorem DJ (gd:Gd X c G k) (S:CsB c.sc scope xs) (htg:iQ tg=some xs) (h2n:eA tg=true->2<=xs.length)
  (he:∀ pj fp qz qy,Gd (blk X pj scope xs fp qz qy) ⟨scope,xs++c.nm⟩ G k->Oke (blk X pj scope xs fp qz qy) ⟨scope,xs++c.nm⟩ elt fe)
  (hi:∀ pj fp qz qy,Gd (blk X pj scope xs fp qz qy) ⟨scope,xs++c.nm⟩ G k->∀ (pn:Pq) (s:Shared) (O:L2.St) (H:Hp) (Q:Bool->Hp->Prop),L2.Inv (blk X pj scope xs fp qz qy) pn O H s->spC (blk X pj scope xs fp qz qy) ⟨scope,xs++c.nm⟩ fc O H Q ->
   wpAny (model X.prog X.w) X.A (forIn ifs true fun c r=>if r=true then do let ok <- isTrue c (blk X pj scope xs fp qz qy).env (eval c (blk X pj scope xs fp qz qy).env);pure (ForInStep.yield ok) else pure (ForInStep.yield r)) (TP (blk X pj scope xs fp qz qy) pn O Q) (fun _ _=>False) s)
  (hit:PI X tg iter (spI X c fi)) (hfs:∀ x,foldedSetIterable iter X.env x=pure x) {y:Str} {py spos:Pos} {i:Nat} (hy:At X y i):PS X (.Assign [.Name y py] (.ListComp elt [⟨tg,iter,ifs,0⟩] scope pos) spos) (vF X c i (mC xs fi fc fe)):=by
 obtain ⟨b,hb⟩:∃ b:Bool,swapsWith (.ListComp elt [⟨tg,iter,ifs,0⟩] scope pos) (some (.Name y py)) spos.line X.env=pure b:=⟨_,rfl⟩;cases b with
 | false =>refine oE (qM gd.nd hy.ix hy.loc (vE gd S htg h2n he hi hit hfs) hb hy.fn) fun D O H q=>?_;exact q
 | true =>
  intro pj s O H Dn I q;obtain ⟨r,F,t,e,ht,q⟩:=q;obtain ⟨qc,total,hf,hz,hcm,rfl⟩:=DI ht;rw [exec_Assign_Name_used _ _ _ _ hb];refine aA (wpAny_standAt (aA ?_));show wpAny _ X.A (do let _ <- comprehension (.ListComp elt [⟨tg,iter,ifs,0⟩] scope pos) scope X.env _ (newList []) false (eval iter X.env) (some (assign (.Name y py) X.env))) _ _ s;refine aA (jO (wpAny_comprehension_free (use:=some (assign (.Name y py) X.env)) (Q:=fun _ s'=>SP X pj Dn .next s') rfl hfs (zG ((S.sc gd).has I.ok)) S.kind (fun y hy e=>(S.loc y hy e).1)
   (thn (hit pj s O H (fun J H'=>∃ F',Step F H F' H'/\Walk X.K J qc F') I ⟨r,F,qc,e,hf,fun J F' H' s1 wk=>⟨F',s1,wk⟩⟩) fun v s1 h1=>thn h1 fun itv s2 h2=>?_)) (fun _ s' hq=>aI (aI hq)) fun _ _ e=>e)
  obtain ⟨it,fp,tn,J,H2,rfl,I2,T,st2,f2,F2,s12,wk⟩:=h2;refine thn (DG (E:=X.xe) gd S htg h2n he hi I2 T st2 f2 wk (e.step s12) hz hcm) fun acc s3 h3=>thn h3 fun cenv s4 h4=>codeAny_mono h4 fun res s' hres=>?_;obtain ⟨rfl,D,H',rfl,I',fC,⟨m,hm⟩,F3,vs,st3,d1,d2,d3,d4⟩:=hres;show wpAny _ X.A (assign (.Name y py) X.env (.ref D)) _ _ s';refine wpAny_assign_Name (yE I' gd.nd hy.ix hy.loc (v:=.ref D) (u:=.ref D) rfl (fun s'' I'' hsb=>?_) hy.fn);obtain ⟨a,hsb,ha⟩:=hsb;have hCa:cenv.locals≠a:=by
   rcases ha with z | z
   .rw [z];exact fC.2.1
   .exact Ne.symm (fC.2.2.2.2.1 y a z)
  refine ⟨m,hm.sameBut hsb hCa,fun h' hsb2=>⟨_,H',I''.turned (t':=s''.toks) (fun b o hb q=>(hsb2.2 b hb).trans q) fC.1 fC.2.1 fC.2.2.2.1 fC.2.2.2.2.1 fC.2.2.2.2.2,?_⟩⟩;have S3:=DH s12 st3 d1 d2 d3;exact q _ _ _ S3 ⟨D,vs,rfl,Ls.of cC,d4.mono (gU d1)⟩
end
end
section
variable {e:Expr} {e':E}
theorem kU {n:Nat} {c:Tc} (h:trV n c e=some e') (es:List Expr) (env:PySem.Env):starEach (e::es) env=(false,eval e env)::starEach es env:=by
 cases n with
 | zero=>cases h
 | succ n=>cases e<;>first | rfl | (cases h)
theorem iT {n:Nat} {c:Tc} (h:trV n c e=some e') (env:PySem.Env):starEach [e] env=[(false,eval e env)]:=kU h [] env
theorem DK {n:Nat} {c:Tc} (pos:Pos) (env:PySem.Env):∀ {es:List Expr} {xs:List E},jF (trV n c) es=some xs->(backTo pos (starEach es env)).any (·.1)=false
 | [],_,_=>rfl
 | e::es,xs,h=>by obtain ⟨x,h1,h⟩:=obs h;obtain ⟨ys,h2,_⟩:=obs h;rw [kU h1];have ih:=DK pos env h2;unfold backTo at ih ⊢;rw [aS,gJ,ih];rfl
theorem SH {b:Expr} (h:pH b=false):tN b:=by cases b<;>first | (intro o i;rfl) | (cases h)
theorem DL {n:Nat} {c:Tc} {o:Expr} (h:trV n c o=some e') (m:Str) (env:PySem.Env) (w:Sem Value):attributeBase o m env w=w:=by
 cases n with
 | zero=>cases h
 | succ n =>
  cases o with
  | Call f args kws pos =>
   cases f with
   | Name id p =>
    cases args with
    | nil=>cases kws<;>(cases h;done)
    | cons _ _=>rfl
   | _=>rfl
  | _=>rfl
theorem rX {G:Glo}:∀ {xs:List E} {r:Env} {ts:List T},aG G xs r=some ts->ts.length=xs.length
 | [],_,_,h=>by rw [aG] at h;cases h;rfl
 | x::xs,r,ts,h=>by rw [aG] at h;obtain ⟨t,_,h⟩:=obs h;obtain ⟨us,h2,h⟩:=obs h;cases h;simp [rX h2]
def isBO:Expr->Bool
 | .BoolOp ..=>true
 | _=>false
structure Snd (G:Glo) (k n:Nat):Prop where
 v:∀ {X:Cx} {c:Tc} {e:Expr} {e':E},Gd X c G k->trV n c e=some e'->Oke X c e (evE G e')
 t:∀ {X:Cx} {c:Tc} {e:Expr} {e':E},Gd X c G k->trT n c e=some e'->Okt X c e (evE G e')/\(isBO e=true->Okw X c e (evE G e'))
 i:∀ {X:Cx} {c:Tc} {tg e:Expr} {ki:Ik × List E},Gd X c G k->trI n c e=some ki->(ki.1.pair=true->eA tg=true)->PI X tg e (spI X c fun r=>(aG G ki.2 r).bind fun xs=>items ki.1 xs)
section
variable {G:Glo} {k n:Nat} {X:Cx} {c:Tc}
theorem Snd.l (S:Snd G k n) (gd:Gd X c G k):∀ {es:List Expr} {xs:List E},jF (trV n c) es=some xs->PA X es (spL X c (aG G xs))
 | [],xs,h=>by
  cases h;have e:aG G []=fun _=>some []:=by funext r;rw [aG]
  rw [e];exact uF
 | a::es,xs,h=>by
  obtain ⟨x,h1,h⟩:=obs h;obtain ⟨ys,h2,h⟩:=obs h;cases h;have e:aG G (x::ys)=fun r=>(evE G x r).bind fun t=>(aG G ys r).bind fun ts=>some (t::ts):=by funext r;rw [aG]
  rw [e];exact oH (S.v gd h1) (Snd.l S gd h2) (kU h1 es X.env)
theorem Snd.o (S:Snd G k n) (gd:Gd X c G k) {e:Option Expr} {x:Option E} (h:tU (trV n c) e=some x):PO X e (spO X c (evO G x)):=by
 cases e with
 | none =>
  cases h;have e:evO G none=fun _=>some none:=by funext r;rw [evO]
  rw [e];exact NN
 | some a =>
  obtain ⟨y,h1,rfl⟩:=oms h;have e:evO G (some y)=fun r=>(evE G y r).map some:=by funext r;rw [evO]
  rw [e];exact NO (S.v gd h1)
theorem Gd.hu (gd:Gd X c G k):X.A.units+100<cLine:=by have:=gd.room.un;lia
theorem SI (S:Snd G k n) (gd:Gd X c G k) (h:trT (n+1) c e=some e'):Okt X c e (evE G e')/\(isBO e=true->Okw X c e (evE G e')):=by
 have tru:∀ {a:Expr} {x:E},(∀ whole,isTrue a X.env whole=(do let v <- whole;standAt a.pos;holding [v] (truthy v)))->trV n c a=some x->Okt X c a (evE G (.tru x)):=fun {a x} he h1=>by
  have e:evE G (.tru x)=fun r=>(evE G x r).bind fun t=>(gR t).map .bl:=by funext r;rw [evE]
  rw [e];exact NZ (S.v gd h1) he
 cases e with
 | BoolOp op vs pos =>
  have key:Okw X c (.BoolOp op vs pos) (evE G e'):=by
   cases vs with
   | nil=>cases op<;>(cases h;done)
   | cons a r =>
    cases r with
    | nil =>
     cases op with
     | And=>exact IB (S.t gd h).1
     | Or=>exact IC (S.t gd h).1
    | cons b r =>
     cases op with
     | And =>
      obtain ⟨x,h1,h⟩:=obs h;obtain ⟨y,h2,h⟩:=obs h;cases h;have e:evE G (.land x y)=fun r=>(evE G x r).bind fun t=>match t with | .bl true=>evE G y r | .bl false=>some (.bl false) | _=>none:=by funext r;rw [evE];try rfl
      rw [e];exact NV (S.t gd h1).1 ((S.t gd h2).2 rfl)
     | Or =>
      obtain ⟨x,h1,h⟩:=obs h;obtain ⟨y,h2,h⟩:=obs h;cases h;have e:evE G (.lor x y)=fun r=>(evE G x r).bind fun t=>match t with | .bl true=>some (.bl true) | .bl false=>evE G y r | _=>none:=by funext r;rw [evE];try rfl
      rw [e];exact NW (S.t gd h1).1 ((S.t gd h2).2 rfl)
  exact ⟨key.pt,fun _=>key⟩
 | UnaryOp op a pos =>
  refine ⟨?_,fun z=>by cases z⟩;cases op with
  | Not =>
   obtain ⟨x,h1,h⟩:=obs h;cases h;have e:evE G (.lnot x)=fun r=>(evE G x r).bind fun t=>match t with | .bl b=>some (.bl (!b)) | _=>none:=by funext r;rw [evE];try rfl
   rw [e];exact NX (S.t gd h1).1
  | _=>(cases h;done)
 | Compare a ops bs pos =>
  refine ⟨?_,fun z=>by cases z⟩
  match ops,bs,h with
  | [op],[b],h =>
   obtain ⟨o,h0,h⟩:=obs h;obtain ⟨x,h1,h⟩:=obs h;obtain ⟨y,h2,h⟩:=obs h;cases h;obtain ⟨q1,q2⟩:=AH (X:=X) gd.hu h0;have e:evE G (.cmp o x y)=fun r=>(evE G x r).bind fun s=>(evE G y r).bind fun t=>bB o s t:=by funext r;rw [evE]
   rw [e];exact LW q1 (S.v gd h1) (S.v gd h2) q2
  | [op,op'],[b,d],h=>(cases h;done)
  | [],_,h=>(cases h;done)
  | [_],[],h=>(cases h;done)
  | [_],_::_::_,h=>(cases h;done)
  | [_,_],[],h=>(cases h;done)
  | [_,_],[_],h=>(cases h;done)
  | [_,_],_::_::_::_,h=>(cases h;done)
  | _::_::_::_,_,h=>(cases h;done)
 | Name x pos =>refine ⟨?_,fun z=>by cases z⟩;obtain ⟨y,h1,h⟩:=obs h;cases h;exact tru (fun _=>rfl) h1
 | Call f es ks pos =>refine ⟨?_,fun z=>by cases z⟩;obtain ⟨y,h1,h⟩:=obs h;cases h;exact tru (fun _=>rfl) h1
 | Subscript a b pos =>refine ⟨?_,fun z=>by cases z⟩;obtain ⟨y,h1,h⟩:=obs h;cases h;exact tru (fun _=>rfl) h1
 | _=>(cases h;done)
theorem SJ (S:Snd G k n) {tg:Expr} {ki:Ik × List E} (gd:Gd X c G k) (h:trI (n+1) c e=some ki) (ht:ki.1.pair=true->eA tg=true):PI X tg e (spI X c fun r=>(aG G ki.2 r).bind fun xs=>items ki.1 xs):=by
 have one:∀ (x:E) (kk:Ik),(fun r=>(aG G [x] r).bind fun xs=>items kk xs)=fun r=>(evE G x r).bind fun t=>items kk [t]:=fun x kk=>by funext r;rw [aG,aG];cases evE G x r<;>rfl
 have plain:∀ {a:Expr},((trV n c a).bind fun x=>some (Ik.plain,[x]))=some ki->PI X tg a (spI X c fun r=>(aG G ki.2 r).bind fun xs=>items ki.1 xs):=fun {a} h=>by obtain ⟨x,h1,h⟩:=obs h;cases h;rw [one];exact RU (S.v gd h1)
 have call:∀ {f:Str} {p pos:Pos} {a:Expr},trI (n+1) c (.Call (.Name f p) [a] [] pos)=some ki->PI X tg (.Call (.Name f p) [a] [] pos) (spI X c fun r=>(aG G ki.2 r).bind fun xs=>items ki.1 xs):=fun {f p pos a} h=>by
  unfold trI at h;split at h
  .rename_i hr;rw [bU] at hr;have hf:=cV hr.1;subst hf;obtain ⟨x,h1,h⟩:=obs h;cases h;rw [one];exact RV gd hr.2 (S.v gd h1) (iT h1 X.env)
  .split at h
   .rename_i hr;rw [bU] at hr;have hf:=cV hr.1;subst hf;obtain ⟨x,h1,h⟩:=obs h;cases h;have htt:=ht rfl;cases tg with
    | Tuple es kx p2 =>rw [one];exact RW gd hr.2 (S.v gd h1) (iT h1 X.env)
    | _=>cases htt
   .exact plain h
 cases e with
 | Call f args kws pos =>
  cases f with
  | Name id p =>
   match args,kws,h with
   | [a],[],h=>exact call h
   | [],kws,h=>exact plain h
   | [_],_::_,h=>exact plain h
   | [a,b],[],h =>
    replace h:(if id==("zip":Str)&&glB c.sc id then (trV n c a).bind fun x=>(trV n c b).bind fun y=>some (Ik.zip,[x,y]) else (trV n c (.Call (.Name id p) [a,b] [] pos)).bind fun x=>some (Ik.plain,[x]))=some ki:=h;split at h
    .rename_i hr;rw [bU] at hr;obtain ⟨x,h1,g1⟩:=obs h;obtain ⟨y,h2,g2⟩:=obs g1;cases g2;have hf:=cV hr.1;subst hf;have htt:=ht rfl;cases tg with
     | Tuple es kx p2 =>
      have two:(fun r=>(aG G [x,y] r).bind fun xs=>items Ik.zip xs)=fun r=>(evE G x r).bind fun s=>(evE G y r).bind fun t=>items Ik.zip [s,t]:=by funext r;rw [aG,aG,aG];cases evE G x r<;>cases evE G y r<;>rfl
      show PI X _ _ (spI X c fun r=>(aG G [x,y] r).bind fun xs=>items Ik.zip xs);rw [two];exact RY gd hr.2 (S.v gd h1) (S.v gd h2) (by rw [kU h1,iT h2]) (iT h2 X.env)
     | _=>cases htt
    .exact plain h
   | [_,_],_::_,h=>exact plain h
   | _::_::_::_,kws,h=>exact plain h
  | _=>exact plain h
 | _=>exact plain h
end
end
section
variable {e:Expr} {m:Nat} {fe:Env->Option T} {scope:Scope} {pos:Pos}
section
variable {G:Glo} {k n:Nat} {X:Cx} {c:Tc}
theorem DM {ki:Ik × List E} (h:trI m c e=some ki) (env:PySem.Env):∀ x,foldedSetIterable e env x=pure x:=by
 intro x;cases e with
 | Set es k p =>
  exfalso;cases m with
  | zero=>cases h
  | succ m =>
   have h:((trV m c (.Set es k p)).bind fun x=>some (Ik.plain,[x]))=some ki:=h;cases m with
   | zero=>cases h
   | succ m=>cases h
 | _=>rfl
theorem SK {r:Env}:(fun x=>(bnd m x r).bind fun r'=>((some none:Option (Option T))).bind fun c=>match c with
    | none=>(fe r').map some
    | some (.bl true)=>(fe r').map some
    | some (.bl false)=>some none
    | some _=>none)=elM m r (fun _=>some true) fe:=by
 funext x;unfold elM;cases bnd m x r<;>rfl
theorem SL {r:Env} {f1:Env->Option T}:(fun x=>(bnd m x r).bind fun r'=>((f1 r').map some).bind fun c=>match c with
    | none=>(fe r').map some
    | some (.bl true)=>(fe r').map some
    | some (.bl false)=>some none
    | some _=>none)=elM m r (fun r'=>(f1 r').bind fun t=>match t with | .bl b=>some b | _=>none) fe:=by
 funext x;unfold elM;cases bnd m x r with
 | none=>rfl
 | some r' =>
  simp only [aT];cases f1 r' with
  | none=>rfl
  | some t=>cases t<;>first | rfl | (rename_i b;cases b<;>rfl)
theorem DN {n:Nat} {c:Tc} {elt:Expr} {gens:List Comprehension} {e':E} (h:trV (n+1) c (.ListComp elt gens scope pos)=some e') :
  ∃ tg iter ifs,gens=[⟨tg,iter,ifs,0⟩]/\∃ xs ki,iQ tg=some xs/\trI n c iter=some ki/\(pI c.sc scope xs&&(!ki.1.pair||eA tg)&&(!eA tg||decide (2<=xs.length)))=true /\
   (match ifs with
   | []=>(trV n ⟨scope,xs++c.nm⟩ elt).bind fun x=>some (.comp x xs.length ki.1 ki.2 none)
   | [t]=>(trV n ⟨scope,xs++c.nm⟩ elt).bind fun x=>(trT n ⟨scope,xs++c.nm⟩ t).bind fun y=>some (.comp x xs.length ki.1 ki.2 (some y))
   | _=>none)=some e':=by
 match gens,h with
 | [⟨tg,iter,ifs,.ofNat 0⟩],h =>
  obtain ⟨xs,h0,h⟩:=obs (show ((iQ tg).bind fun xs=>(trI n c iter).bind fun ki=>if pI c.sc scope xs&&(!ki.1.pair||eA tg)&&(!eA tg||decide (2<=xs.length)) then
   (match ifs with
   | []=>(trV n ⟨scope,xs++c.nm⟩ elt).bind fun x=>some (.comp x xs.length ki.1 ki.2 none)
   | [t]=>(trV n ⟨scope,xs++c.nm⟩ elt).bind fun x=>(trT n ⟨scope,xs++c.nm⟩ t).bind fun y=>some (.comp x xs.length ki.1 ki.2 (some y))
   | _=>none) else none)=some e' from h)
  obtain ⟨ki,h1,h⟩:=obs h;split at h
  .rename_i hc;exact ⟨tg,iter,ifs,rfl,xs,ki,h0,h1,hc,h⟩
  .cases h
 | [⟨tg,iter,ifs,.ofNat (a+1)⟩],h=>cases h
 | [⟨tg,iter,ifs,.negSucc a⟩],h=>cases h
 | [],h=>cases h
 | g1::g2::gs,h =>obtain ⟨t1,i1,f1,a1⟩:=g1;rcases a1 with (_ | _) | _<;>cases h
theorem DO (S:Snd G k n) (gd:Gd X c G k) {elt:Expr} {gens:List Comprehension} {e':E} (h:trV (n+1) c (.ListComp elt gens scope pos)=some e') :
  Oke X c (.ListComp elt gens scope pos) (evE G e')/\∀ {y:Str} {py spos:Pos} {i:Nat},At X y i->PS X (.Assign [.Name y py] (.ListComp elt gens scope pos) spos) (vF X c i (evE G e')):=by
 obtain ⟨tg,iter,ifs,rfl,xs,ki,h0,h1,hcs,hr⟩:=DN h;simp only [Bool.and_eq_true,Bool.or_eq_true,Bool.not_eq_true',decide_eq_true_eq] at hcs;have CS:=SC hcs.1.1;have h2n:eA tg=true->2<=xs.length:=fun z=>hcs.2.elim (fun q=>by rw [q] at z;cases z) id;have hen:ki.1.pair=true->eA tg=true:=fun z=>hcs.1.2.elim (fun q=>by rw [q] at z;cases z) id;have hit:=S.i (tg:=tg) gd h1 hen;have hfs:=DM h1 X.env
 match ifs,hr with
 | [],hr =>
  obtain ⟨x,h3,hr⟩:=obs hr;cases hr;have he:∀ pj fp qz qy,Gd (blk X pj scope xs fp qz qy) ⟨scope,xs++c.nm⟩ G k->Oke (blk X pj scope xs fp qz qy) ⟨scope,xs++c.nm⟩ elt (evE G x):=fun pj fp qz qy g=>S.v g h3;have hi:∀ pj fp qz qy,Gd (blk X pj scope xs fp qz qy) ⟨scope,xs++c.nm⟩ G k->∀ (pn:Pq) (s:Shared) (O:L2.St) (H:Hp) (Q:Bool->Hp->Prop),L2.Inv (blk X pj scope xs fp qz qy) pn O H s->spC (blk X pj scope xs fp qz qy) ⟨scope,xs++c.nm⟩ (fun _=>some true) O H Q ->
   wpAny (model X.prog X.w) X.A (forIn ([]:List Expr) true fun c r=>if r=true then do let ok <- isTrue c (blk X pj scope xs fp qz qy).env (eval c (blk X pj scope xs fp qz qy).env);pure (ForInStep.yield ok) else pure (ForInStep.yield r)) (TP (blk X pj scope xs fp qz qy) pn O Q) (fun _ _=>False) s:=fun pj fp qz qy g pn s O H Q I q=>by
   obtain ⟨r,F,b,e,hb,q⟩:=q;cases hb;exact wpAny_tests_nil ⟨H,I,q F H (Step.refl e.fh)⟩
  have e:evE G (.comp x xs.length ki.1 ki.2 none)=mC xs (fun r=>(aG G ki.2 r).bind fun xs=>items ki.1 xs) (fun _=>some true) (evE G x):=by
   funext r;rw [evE];unfold mC cI;rw [<- SK];dsimp only;cases aG G ki.2 r with
   | none=>rfl
   | some ys=>simp only [aT,evO]
  rw [e];exact ⟨vE gd CS h0 h2n he hi hit hfs,fun {y py spos i} hy=>DJ gd CS h0 h2n he hi hit hfs hy⟩
 | [t],hr =>
  obtain ⟨x,h3,hr⟩:=obs hr;obtain ⟨y1,h4,hr⟩:=obs hr;cases hr;have he:∀ pj fp qz qy,Gd (blk X pj scope xs fp qz qy) ⟨scope,xs++c.nm⟩ G k->Oke (blk X pj scope xs fp qz qy) ⟨scope,xs++c.nm⟩ elt (evE G x):=fun pj fp qz qy g=>S.v g h3;have hi:∀ pj fp qz qy,Gd (blk X pj scope xs fp qz qy) ⟨scope,xs++c.nm⟩ G k->∀ (pn:Pq) (s:Shared) (O:L2.St) (H:Hp) (Q:Bool->Hp->Prop),L2.Inv (blk X pj scope xs fp qz qy) pn O H s->spC (blk X pj scope xs fp qz qy) ⟨scope,xs++c.nm⟩ (fun r'=>(evE G y1 r').bind fun t=>match t with | .bl b=>some b | _=>none) O H Q ->
   wpAny (model X.prog X.w) X.A (forIn [t] true fun c r=>if r=true then do let ok <- isTrue c (blk X pj scope xs fp qz qy).env (eval c (blk X pj scope xs fp qz qy).env);pure (ForInStep.yield ok) else pure (ForInStep.yield r)) (TP (blk X pj scope xs fp qz qy) pn O Q) (fun _ _=>False) s:=fun pj fp qz qy g pn s O H Q I q=>by
   obtain ⟨r,F,b,e,hb,q⟩:=q;obtain ⟨tt,ht,hb⟩:=obs hb;cases tt with
   | bl b' =>cases hb;exact wpAny_tests_one ((S.t g h4).1 pn s O H Q I ⟨r,F,b,e,ht,q⟩)
   | _=>cases hb
  have e:evE G (.comp x xs.length ki.1 ki.2 (some y1))=mC xs (fun r=>(aG G ki.2 r).bind fun xs=>items ki.1 xs) (fun r'=>(evE G y1 r').bind fun t=>match t with | .bl b=>some b | _=>none) (evE G x):=by
   funext r;rw [evE];unfold mC cI;rw [<- SL];dsimp only;cases aG G ki.2 r with
   | none=>rfl
   | some ys=>simp only [aT,evO];try rfl
  rw [e];exact ⟨vE gd CS h0 h2n he hi hit hfs,fun {y py spos i} hy=>DJ gd CS h0 h2n he hi hit hfs hy⟩
 | _::_::_,hr=>cases hr
theorem DQ (S:Snd G k n) (gd:Gd X c G k) {f:Str} {a:Expr} {es:List Expr} {p:Pos} {xs:List E} (hg:glB c.sc f=true) (hp:bZ f=true) (h:jF (trV n c) (a::es)=some xs):Oke X c (.Call (.Name f p) (a::es) [] pos) (evE G (.call f xs)):=by
 have e:evE G (.call f xs)=fun r=>(aG G xs r).bind fun ys=>G.call f ys:=by funext r;rw [evE]
 rw [e];obtain ⟨x,h1,h'⟩:=obs h;obtain ⟨ys,h2,_⟩:=obs h';exact OC gd hg hp (S.l gd h) (kU h1 es X.env) (DK pos X.env h2)
theorem SM {f:Str} {a b:Expr} (h:tV f e=some (a,b)):∃ p2 q2,f="list"/\e=.Call (.Name "zip" p2) [a,b] [] q2:=by
 cases e with
 | Call o es ks pos =>
  cases o with
  | Name g p2 =>
   rcases es with _ | ⟨x,_ | ⟨y,_ | ⟨_,_⟩⟩⟩
   .cases h
   .cases h
   .cases ks with
    | nil =>
     replace h:(if f==("list":Str)&&g==("zip":Str) then some (x,y) else none)=some (a,b):=h;split at h
     .rename_i hc;rw [bU] at hc;have e1:=cV hc.1;have e2:=cV hc.2;subst e1 e2;cases h;exact ⟨p2,pos,rfl,rfl⟩
     .cases h
    | cons _ _=>cases h
   .cases h
  | _=>cases h
 | _=>cases h
theorem DR (S:Snd G k n) {e':E} (gd:Gd X c G k) (h:trV (n+1) c e=some e'):Oke X c e (evE G e'):=by
 have cst:∀ {t:T} {v:V} {a:Expr},PE X a (tC v)->(∀ F,Rep X.K F t v)->Oke X c a (evE G (.cst t)):=fun {t v a} h1 h2=>by
  have e:evE G (.cst t)=fun _=>some t:=by funext r;rw [evE]
  rw [e];exact AN h1 h2
 cases e with
 | Constant cs q pos =>
  cases cs with
  | none=>cases (show some (E.cst .non)=some e' from h);exact cst HX fun _=>rfl
  | bool b=>cases (show some (E.cst (.bl b))=some e' from h);exact cst HW fun _=>rfl
  | int i=>cases (show some (E.cst (.int i))=some e' from h);exact cst tD fun _=>rfl
  | str x=>cases (show some (E.cst (.str x))=some e' from h);exact cst HY fun _=>rfl
  | _=>(cases h;done)
 | Name x pos =>
  replace h:(if bZ x then (if dG c.sc x then (bY c.nm x).map E.var else none) else none)=some e':=h;split at h
  .rename_i hp;split at h
   .rename_i hv;obtain ⟨i,hi,rfl⟩:=oms h;have e:evE G (.var i)=fun r=>(r[i]?).join:=by funext r;rw [evE]
    rw [e];exact NQ gd hp hv hi
   .cases h
  .cases h
 | BinOp a op b pos =>
  obtain ⟨o,h0,h⟩:=obs h;obtain ⟨x,h1,h⟩:=obs h;obtain ⟨y,h2,h⟩:=obs h;cases h;have e:evE G (.bin o x y)=fun r=>(evE G x r).bind fun s=>(evE G y r).bind fun t=>bI o s t:=by funext r;rw [evE]
  rw [e];exact LU (NJ h0) (S.v gd h1) (S.v gd h2)
 | UnaryOp op a pos =>
  cases op with
  | Not =>
   obtain ⟨x,h1,h⟩:=obs h;cases h;have e:evE G (.lnot x)=fun r=>(evE G x r).bind fun t=>match t with | .bl b=>some (.bl (!b)) | _=>none:=by funext r;rw [evE];try rfl
   rw [e];exact NR (S.v gd h1)
  | USub =>
   obtain ⟨x,h1,h⟩:=obs h;cases h;have e:evE G (.neg x)=fun r=>(evE G x r).bind fun t=>match t with | .int b=>some (.int (-b)) | _=>none:=by funext r;rw [evE];try rfl
   rw [e];exact NS (S.v gd h1)
  | _=>(cases h;done)
 | BoolOp op vs pos =>
  cases vs with
  | nil=>cases op<;>(cases h;done)
  | cons a r =>
   cases r with
   | nil=>exact II (S.v gd h)
   | cons b r =>
    cases op with
    | And =>
     obtain ⟨x,h1,h⟩:=obs h;obtain ⟨y,h2,h⟩:=obs h;cases h;have e:evE G (.land x y)=fun r=>(evE G x r).bind fun t=>match t with | .bl true=>evE G y r | .bl false=>some (.bl false) | _=>none:=by funext r;rw [evE];try rfl
     rw [e];exact NT (S.v gd h1) (S.v gd h2)
    | Or =>
     obtain ⟨x,h1,h⟩:=obs h;obtain ⟨y,h2,h⟩:=obs h;cases h;have e:evE G (.lor x y)=fun r=>(evE G x r).bind fun t=>match t with | .bl true=>some (.bl true) | .bl false=>evE G y r | _=>none:=by funext r;rw [evE];try rfl
     rw [e];exact NU (S.v gd h1) (S.v gd h2)
 | Compare a ops bs pos =>
  match ops,bs,h with
  | [op],[b],h =>
   obtain ⟨o,h0,h⟩:=obs h;obtain ⟨x,h1,h⟩:=obs h;obtain ⟨y,h2,h⟩:=obs h;cases h;obtain ⟨q1,q2⟩:=AH (X:=X) gd.hu h0;have e:evE G (.cmp o x y)=fun r=>(evE G x r).bind fun s=>(evE G y r).bind fun t=>bB o s t:=by funext r;rw [evE]
   rw [e];exact LV q1 (S.v gd h1) (S.v gd h2) q2
  | [op,op'],[b,d],h=>(cases h;done)
  | [],_,h=>(cases h;done)
  | [_],[],h=>(cases h;done)
  | [_],_::_::_,h=>(cases h;done)
  | [_,_],[],h=>(cases h;done)
  | [_,_],[_],h=>(cases h;done)
  | [_,_],_::_::_::_,h=>(cases h;done)
  | _::_::_::_,_,h=>(cases h;done)
 | Tuple es q pos =>
  obtain ⟨xs,h1,h⟩:=obs h;cases h;have e:evE G (.tup xs)=fun r=>if xs.length<=1000 then (aG G xs r).map .tup else none:=by funext r;rw [evE]
  rw [e];exact OA (S.l gd h1) fun r ts q=>rX q
 | List es pos =>
  obtain ⟨xs,h1,h⟩:=obs h;cases h;have e:evE G (.lst xs)=fun r=>if xs.length<=1000 then (aG G xs r).map .lst else none:=by funext r;rw [evE]
  rw [e];exact OB (S.l gd h1) fun r ts q=>rX q
 | Subscript a b pos =>
  have idx:pH b=false->((trV n c a).bind fun x=>(trV n c b).bind fun y=>some (E.idx x y))=some e'->Oke X c (.Subscript a b pos) (evE G e'):=fun hs h=>by
   obtain ⟨x,h1,h⟩:=obs h;obtain ⟨y,h2,h⟩:=obs h;cases h;have e:evE G (.idx x y)=fun r=>(evE G x r).bind fun s=>(evE G y r).bind fun t=>aK s t:=by funext r;rw [evE]
   rw [e];exact NM (by have:=gd.hu;lia) (S.v gd h1) (S.v gd h2) (SH hs)
  cases b with
  | Slice lo hi st p2 =>
   cases st with
   | some st =>replace h:(none:Option E)=some e':=h;cases h
   | none =>
    obtain ⟨x,h1,h⟩:=obs h;obtain ⟨l,h2,h⟩:=obs h;obtain ⟨u,h3,h⟩:=obs h;cases h;have e:evE G (.sli x l u)=fun r=>(evE G x r).bind fun s=>(evO G l r).bind fun l1=>(evO G u r).bind fun u1=>(asI l1).bind fun l2=>(asI u1).bind fun u2=>gQ s l2 u2:=by funext r;rw [evE]
    rw [e];exact NP (S.v gd h1) (S.o gd h2) (S.o gd h3)
  | Starred _ _=>cases h
  | _=>exact idx rfl h
 | Call f args kws pos =>
  cases f with
  | Name f p =>
   match args,kws,h with
   | [],kws,h=>(cases h;done)
   | [a],[],h =>
    replace h:(if glB c.sc f&&bZ f then (match qS f with
  | some k=>(trV n c a).bind fun x=>some (.blt k x)
  | none=>if bnames.contains f then (match tV f a with
    | some p=>if glB c.sc ("zip":Str) then (trV n c p.1).bind fun x=>(trV n c p.2).bind fun y=>some (.zl x y) else none
    | none=>none) else (trV n c a).bind fun x=>some (.call f [x])) else none)=some e':=h
    split at h
    .rename_i hg;rw [bU] at hg;split at h
     .rename_i kb hk;obtain ⟨x,h1,h⟩:=obs h;cases h;have e:evE G (.blt kb x)=fun r=>(evE G x r).bind fun t=>bO kb t:=by funext r;rw [evE]
      rw [e];exact RK gd hk hg.1 (S.v gd h1) (iT h1 X.env)
     .split at h
      .split at h
       .rename_i q hq;obtain ⟨a1,a2⟩:=q;split at h
        .rename_i hg2;obtain ⟨x,h1,h⟩:=obs h;obtain ⟨y,h2,h⟩:=obs h;cases h;obtain ⟨p2,q2,e1,e2⟩:=SM hq;subst e1 e2;have e:evE G (.zl x y)=fun r=>(evE G x r).bind fun s=>(evE G y r).bind fun t=>lV s t:=by funext r;rw [evE]
         rw [e];exact SB gd hg.1 hg2 (S.v gd h1) (S.v gd h2) (by rw [kU h1,iT h2]) (iT h2 X.env)
        .cases h
       .cases h
      .obtain ⟨x,h1,h⟩:=obs h;cases h;exact DQ S gd hg.1 hg.2 (by show (trV n c a).bind _=_;rw [h1];rfl)
    .cases h
   | a::b::es,[],h =>
    replace h:(if glB c.sc f&&bZ f&&!bnames.contains f then (jF (trV n c) (a::b::es)).bind fun xs=>some (.call f xs) else none)=some e':=h;split at h
    .rename_i hg;simp only [Bool.and_eq_true] at hg;obtain ⟨xs,h1,h⟩:=obs h;cases h;exact DQ S gd hg.1.1 hg.1.2 h1
    .cases h
   | _::bs,_::_,h=>rcases bs with _ | ⟨_,_⟩<;>cases h
  | Attribute o m apos =>
   match args,kws,h with
   | [a],[],h =>
    replace h:(if apos.endLine==pos.line then (tS m).bind fun k=>(trV n c o).bind fun x=>(trV n c a).bind fun y=>some (.mth k x y) else none)=some e':=h;split at h
    .rename_i hl;obtain ⟨km,hm,h⟩:=obs h;obtain ⟨x,h1,h⟩:=obs h;obtain ⟨y,h2,h⟩:=obs h;cases h;unfold tS at hm;split at hm
     .rename_i hj;have hj:=cV hj;subst hj;cases hm;have e:evE G (.mth .index x y)=fun r=>(evE G x r).bind fun s=>(evE G y r).bind fun t=>jE .index s t:=by funext r;rw [evE]
      rw [e];exact RO (S.v gd h1) (S.v gd h2) (DL h1 _ _ _) (iT h2 X.env) hl
     .cases hm
    .cases h
   | [],_,h=>(cases h;done)
   | [_],_::_,h=>(cases h;done)
   | [a,b],[],h =>
    replace h:(if apos.endLine==pos.line&&m==("get":Str) then (trV n c o).bind fun x=>(trV n c a).bind fun y=>(trV n c b).bind fun z=>some (.dgt x y z) else none)=some e':=h;split at h
    .rename_i hl;rw [bU] at hl;obtain ⟨x,h1,h⟩:=obs h;obtain ⟨y,h2,h⟩:=obs h;obtain ⟨z,h3,h⟩:=obs h;cases h;have hm:=cV hl.2;subst hm;have e:evE G (.dgt x y z)=fun r=>(evE G x r).bind fun s=>(evE G y r).bind fun t=>(evE G z r).bind fun u=>tQ s t u:=by funext r;rw [evE]
     have hst:starEach [a,b] X.env=[(false,eval a X.env),(false,eval b X.env)]:=by rw [kU h2,iT h3]
     rw [e];exact RM (by have:=gd.hu;lia) (S.v gd h1) (S.v gd h2) (S.v gd h3) ⟨DL h1 _ _ _,by rw [hst];rfl,hl.1,by rw [hst];rfl⟩
    .cases h
   | [_,_],_::_,h=>cases h
   | _::_::_::_,_,h=>cases h
  | _=>(cases h;done)
 | ListComp elt gens scope pos=>exact (DO S gd h).1
 | _=>(cases h;done)
end
theorem kA (G:Glo) (k:Nat):∀ n,Snd G k n
 | 0=>⟨fun _ h=>(by cases h),fun _ h=>(by cases h),fun _ h=>(by cases h)⟩
 | n+1 =>
  have S:=kA G k n
  ⟨fun gd h=>DR S gd h,fun gd h=>SI S gd h,fun gd h ht=>SJ S gd h ht⟩
end
section
variable {s:Sl} {o:HO}
def Sl.isOwn:Sl->Bool
 | .own _=>true
 | .dk _=>true
 | .dt _=>true
 | _=>false
def Own (K:W.Frag) (F:Hp):Sl->HO->Prop
 | .own ts,o=>∃ vs,o=.lst vs/\aF K F ts vs
 | .dk qb,o=>∃ ws:List (Key × V),o=.dK ws/\ws.map (·.1)=qb.map (·.1)/\aF K F (qb.map (·.2)) (ws.map (·.2))
 | .dt qb,o=>∃ ws:Kq,o=.dT ws/\ws.map (·.1)=qb.map (·.1)/\aF K F (qb.map (·.2)) (ws.map (·.2))
 | _,_=>False
theorem Own.mono {K:W.Frag} {F F':Hp} {s:Sl} {o:HO} (e:Same F F') (h:Own K F s o):Own K F' s o:=by
 cases s with
 | own ts=>obtain ⟨vs,h1,h2⟩:=h;exact ⟨vs,h1,h2.mono e⟩
 | dk qb=>obtain ⟨ws,h1,h2,h3⟩:=h;exact ⟨ws,h1,h2,h3.mono e⟩
 | dt qb=>obtain ⟨ws,h1,h2,h3⟩:=h;exact ⟨ws,h1,h2,h3.mono e⟩
 | _=>exact h
theorem Own.noTup {K:W.Frag} {F:Hp} {xs:List V} (h:Own K F s o):o≠.tup xs:=by
 cases s with
 | own ts=>obtain ⟨vs,rfl,_⟩:=h;exact fun z=>nomatch z
 | dk qb=>obtain ⟨ws,rfl,_⟩:=h;exact fun z=>nomatch z
 | dt qb=>obtain ⟨ws,rfl,_⟩:=h;exact fun z=>nomatch z
 | _=>exact h.elim
theorem Own.noTbl {K:W.Frag} {F:Hp} (h:Own K F s o):pJ o=false:=by
 cases s with
 | own ts=>obtain ⟨vs,rfl,_⟩:=h;rfl
 | dk qb=>obtain ⟨ws,rfl,_⟩:=h;rfl
 | dt qb=>obtain ⟨ws,rfl,_⟩:=h;rfl
 | _=>exact h.elim
theorem Own.noFrz {K:W.Frag} {F:Hp} (h:Own K F s o):∀ p u,o≠.frz p u:=by
 cases s with
 | own ts=>obtain ⟨vs,rfl,_⟩:=h;exact fun _ _ z=>nomatch z
 | dk qb=>obtain ⟨ws,rfl,_⟩:=h;exact fun _ _ z=>nomatch z
 | dt qb=>obtain ⟨ws,rfl,_⟩:=h;exact fun _ _ z=>nomatch z
 | _=>exact h.elim
theorem Own.frz {K:W.Frag} {F:Hp} {s:Sl} {o:HO} {a:Addr} (h:Own K F s o) (ha:F a=some o):∃ t,s.frz=.val t/\Rep K F t (.ref a):=by
 cases s with
 | own ts=>obtain ⟨vs,rfl,h2⟩:=h;exact ⟨_,rfl,a,vs,rfl,Ls.of ha,h2⟩
 | dk qb=>obtain ⟨ws,rfl,h2,h3⟩:=h;exact ⟨_,rfl,a,ws,rfl,ha,h2,h3⟩
 | dt qb=>obtain ⟨ws,rfl,h2,h3⟩:=h;exact ⟨_,rfl,a,ws,rfl,.inl ha,h2,h3⟩
 | _=>exact h.elim
theorem Own.noDl {K:W.Frag} {F:Hp} (h:Own K F s o):s.isDl=false:=by
 cases s with
 | dl qb=>exact h.elim
 | _=>rfl
abbrev bM (K:W.Frag) (F H:Hp):Qq->Kq->Prop:=Paired fun p q=>q.1=p.1/\∃ b vs,q.2=.ref b/\H b=some (.lst vs)/\aF K F p.2 vs
abbrev fI (a:Addr) (ws:Kq):List V:=V.ref a::ws.map (·.2)
theorem bM.mem {K:W.Frag} {F H:Hp} {qb:Qq} {ws:Kq} (r:bM K F H qb ws) {v:V} (hv:v∈ws.map (·.2)):∃ b vs,v=.ref b/\H b=some (.lst vs):=by
 induction r with
 | nil=>cases hv
 | cons h t ih =>
  rcases omc hv with e | hv
  .obtain ⟨_,b,vs,h1,h2,_⟩:=h;exact ⟨b,vs,e.trans h1,h2⟩
  .exact ih hv
theorem bM.up {K:W.Frag} {F H F' H':Hp} (hs:Same F F'):∀ {qb:Qq} {ws:Kq},bM K F H qb ws->(∀ b,V.ref b∈ws.map (·.2)->H' b=H b)->bM K F' H' qb ws
 | _,_,.nil,_=>.nil
 | _,_,.cons h t,k=>by obtain ⟨h0,b,vs,h1,h2,h3⟩:=h;exact .cons ⟨h0,b,vs,h1,(k b (by rw [<- h1];exact cW)).trans h2,h3.mono hs⟩ (bM.up hs t fun b hb=>k b (cL _ hb))
structure DlAt (K:W.Frag) (F H H0:Hp) (U:List Sl) (O:L2.St) (i:Nat) (qb:Qq) (a:Addr) (ws:Kq):Prop where
 ix:O[i]?=some (some (.ref a))
 obj:H a=some (.dT ws)
 rep:bM K F H qb ws
 nd:(fI a ws).Nodup
 kn:(ws.map (·.1)).Nodup
 fr:∀ b,V.ref b∈fI a ws->F b=none/\H0 b=none/\∀ (j:Nat) (s:Sl),U[j]?=some s->s.isOwn=true->O[j]?≠some (some (.ref b))
 one:∀ (j:Nat) (s:Sl),U[j]?=some s->s.isDl=true->j=i
section
variable {K:W.Frag} {F H H0 F' H':Hp} {U U':List Sl} {O O':L2.St} {i:Nat} {qb:Qq} {a:Addr} {ws:Kq}
theorem DlAt.some' (d:DlAt K F H H0 U O i qb a ws) {b:Addr} (hb:V.ref b∈fI a ws):∃ o,H b=some o/\pJ o=false/\(∀ xs,o≠.tup xs)/\∀ p u,o≠.frz p u:=by
 rcases omc hb with e | hb
 .cases e;exact ⟨_,d.obj,rfl,(fun _ z=>nomatch z),fun _ _ z=>nomatch z⟩
 .obtain ⟨b',vs,e,h⟩:=d.rep.mem hb;cases e;exact ⟨_,h,rfl,(fun _ z=>nomatch z),fun _ _ z=>nomatch z⟩
theorem DlAt.up (d:DlAt K F H H0 U O i qb a ws) (h1:O'[i]?=O[i]?) (hs:Same F F') (hh:∀ b,V.ref b∈fI a ws->H' b=H b) (hf:∀ b,V.ref b∈fI a ws->F' b=none)
  (ho:∀ b,V.ref b∈fI a ws->∀ (j:Nat) (s:Sl),U'[j]?=some s->s.isOwn=true->O'[j]?≠some (some (.ref b))) (ho':∀ (j:Nat) (s:Sl),U'[j]?=some s->s.isDl=true->j=i):DlAt K F' H' H0 U' O' i qb a ws :=
 ⟨h1.trans d.ix,(hh a cW).trans d.obj,d.rep.up hs fun b hb=>hh b (cL _ hb),d.nd,d.kn,fun b hb=>⟨hf b hb,(d.fr b hb).2.1,ho b hb⟩,ho'⟩
end
structure EnvS (X:Cx) (F0 H0:Hp) (U:List Sl) (O:L2.St) (F H:Hp):Prop where
 st:Step F0 H0 F H
 t0:Tbk X.K F0 H0
 len:U.length=O.length
 val:∀ (i:Nat) (t:T),U[i]?=some (.val t)->∃ v,O[i]?=some (some v)/\Rep X.K F t v
 ownG:∀ (i:Nat) (s:Sl),U[i]?=some s->s.isOwn=true->∃ a o,O[i]?=some (some (.ref a))/\H a=some o/\F a=none/\H0 a=none/\Own X.K F s o
 disG:∀ (i j:Nat) (s u:Sl) (a:Addr),i≠j->U[i]?=some s->U[j]?=some u->s.isOwn=true->u.isOwn=true->O[i]?=some (some (.ref a))->O[j]?≠some (some (.ref a))
 dl:∀ (i:Nat) (qb:Qq),U[i]?=some (.dl qb)->∃ a ws,DlAt X.K F H H0 U O i qb a ws
section
variable {X:Cx} {c:Tc} {F0 H0:Hp} {U:List Sl} {O:L2.St} {F H F' H':Hp}
theorem EnvS.own (e:EnvS X F0 H0 U O F H) (i:Nat) (ts:List T) (h:U[i]?=some (.own ts)):∃ a vs,O[i]?=some (some (.ref a))/\H a=some (.lst vs)/\F a=none/\H0 a=none/\aF X.K F ts vs:=by obtain ⟨a,o,h1,h2,h3,h4,vs,rfl,h5⟩:=e.ownG i _ h rfl;exact ⟨a,vs,h1,h2,h3,h4,h5⟩
theorem EnvS.env (e:EnvS X F0 H0 U O F H) (hN:X.N=c.nm):EnvE X c (aB U) F O H :=
 ⟨e.st.fh,e.t0.up e.st,fun x i t _ hi _ hr=>by
  unfold aB at hr;rw [fL] at hr;obtain ⟨s,hs,hg⟩:=oms hr;cases s with
  | val u =>cases hg;obtain ⟨v,h1,h2⟩:=e.val i t hs;exact ⟨i,v,by rw [hN];exact jI hi,h1,h2⟩
  | _=>cases hg⟩
theorem Step.off {F H F' H':Hp} {a:Addr} (s:Step F H F' H') (h3:F a=none) (h2:H a=some o) (ht:∀ xs,o≠.tup xs):F' a=none:=by
 cases q:F' a with
 | none=>rfl
 | some o' =>
  rcases s.nw a (by rw [q];simp) with z | z | ⟨xs,z⟩
  .exact absurd h3 z
  .rw [h2] at z;cases z
  .rw [h2] at z;exact absurd (dE z) (ht xs)
theorem EnvS.step (e:EnvS X F0 H0 U O F H) (s:Step F H F' H'):EnvS X F0 H0 U O F' H':=by
 refine ⟨e.st.trans s,e.t0,e.len,fun i t h=>let ⟨v,h1,h2⟩:=e.val i t h;⟨v,h1,h2.mono s.ff⟩,fun i sl h ho=>?_,e.disG,fun i qb h=>?_⟩
 .obtain ⟨a,o,h1,h2,h3,h4,h5⟩:=e.ownG i sl h ho;exact ⟨a,o,h1,s.hh.st a _ h2 h5.noTbl,s.off h3 h2 fun xs=>h5.noTup,h4,h5.mono s.ff⟩
 .obtain ⟨a,ws,d⟩:=e.dl i qb h;refine ⟨a,ws,d.up rfl s.ff (fun b hb=>?_) (fun b hb=>?_) (fun b hb=>(d.fr b hb).2.2) d.one⟩
  .obtain ⟨o,h1,h2,_⟩:=d.some' hb;rw [s.hh.st b o h1 h2,h1]
  .obtain ⟨o,h1,h2,h3,_⟩:=d.some' hb;exact s.off (d.fr b hb).1 h1 h3
theorem DS (U:List Sl) (i j:Nat):(U.modify i Sl.frz)[j]?=if i=j then (U[j]?).map Sl.frz else U[j]?:=by
 rw [List.getElem?_modify];by_cases h:i=j
 .simp only [h,if_true];cases U[j]?<;>rfl
 .simp only [h,if_false];cases U[j]?<;>rfl
theorem EnvS.frz1 (e:EnvS X F0 H0 U O F H) (i:Nat):∃ F',EnvS X F0 H0 (U.modify i Sl.frz) O F' H/\Same F F':=by
 by_cases ho:∃ s,U[i]?=some s/\s.isOwn=true
 .obtain ⟨sl,ho,hw⟩:=ho;obtain ⟨a,ob,h1,h2,h3,h4,h5⟩:=e.ownG i sl ho hw;have hs:Same F (aP F a ob):=gU h3;obtain ⟨t0,ef,r0⟩:=(h5.mono hs).frz (a:=a) cC;have get:∀ (j:Nat) (s:Sl),(U.modify i Sl.frz)[j]?=some s->(j=i/\s=.val t0)\/(j≠i/\U[j]?=some s):=fun j s h=>by
   rw [DS] at h;by_cases hj:i=j
   .subst hj;rw [if_pos rfl,ho] at h;rw [<- ef];exact .inl ⟨rfl,(dE h).symm⟩
   .rw [if_neg hj] at h;exact .inr ⟨Ne.symm hj,h⟩
  refine ⟨aP F a ob,⟨⟨e.st.hh,e.st.ff.trans hs,fun b o q=>?_,fun b z=>?_⟩,e.t0,by rw [List.length_modify];exact e.len,fun j t h=>?_,fun j u h hu=>?_,fun j l u w b hjl hj hl hu hw'=>?_,fun j qb h=>?_⟩,hs⟩
  .by_cases hb:b=a
   .subst hb;rw [cC] at q;cases q;exact h2
   .rw [aR hb] at q;exact e.st.fh b o q
  .by_cases hb:b=a
   .subst hb;exact .inr (.inl h4)
   .rw [aR hb] at z;exact e.st.nw b z
  .rcases get j _ h with ⟨rfl,q⟩ | ⟨_,q⟩
   .cases q;exact ⟨.ref a,h1,r0⟩
   .obtain ⟨v,q1,q2⟩:=e.val j t q;exact ⟨v,q1,q2.mono hs⟩
  .rcases get j _ h with ⟨rfl,q⟩ | ⟨hj,q⟩
   .subst q;cases hu
   .obtain ⟨b,o,q1,q2,q3,q4,q5⟩:=e.ownG j u q hu;have hne:b≠a:=fun z=>by subst z;exact e.disG i j sl u b (Ne.symm hj) ho q hw hu h1 q1
    exact ⟨b,o,q1,q2,by rw [aR hne];exact q3,q4,q5.mono hs⟩
  .rcases get j _ hj with ⟨_,q⟩ | ⟨_,q⟩
   .subst q;cases hu
   .rcases get l _ hl with ⟨_,q'⟩ | ⟨_,q'⟩
    .subst q';cases hw'
    .exact e.disG j l u w b hjl q q' hu hw'
  .rcases get j _ h with ⟨_,q⟩ | ⟨hj,q⟩
   .cases q
   .obtain ⟨a',ws,d⟩:=e.dl j qb q;have hne:∀ b,V.ref b∈fI a' ws->b≠a:=fun b hb z=>by subst z;exact (d.fr b hb).2.2 i sl ho hw h1
    refine ⟨a',ws,d.up rfl hs (fun b hb=>rfl) (fun b hb=>by rw [aR (hne b hb)];exact (d.fr b hb).1) (fun b hb l u hl hu=>?_) fun l u hl hu=>?_⟩
    .rcases get l _ hl with ⟨_,q'⟩ | ⟨_,q'⟩
     .subst q';cases hu
     .exact (d.fr b hb).2.2 l u q' hu
    .rcases get l _ hl with ⟨_,q'⟩ | ⟨_,q'⟩
     .subst q';cases hu
     .exact d.one l u q' hu
 .refine ⟨F,?_,Same.refl F⟩;have:U.modify i Sl.frz=U:=by
   apply List.ext_getElem?;intro j;rw [DS];by_cases hj:i=j
   .subst hj;rw [if_pos rfl];cases q:U[i]? with
    | none=>rfl
    | some s =>
     cases s with
     | own ts=>exact absurd ⟨_,q,rfl⟩ ho
     | dk ts=>exact absurd ⟨_,q,rfl⟩ ho
     | dt ts=>exact absurd ⟨_,q,rfl⟩ ho
     | _=>rfl
   .rw [if_neg hj]
  rw [this];exact e
theorem EnvS.frz:∀ (is:List Nat) {U:List Sl} {F:Hp},EnvS X F0 H0 U O F H->∃ F',EnvS X F0 H0 (aQ is U) O F' H/\Same F F'
 | [],_,F,e=>⟨F,e,Same.refl F⟩
 | i::is,U,F,e=>by obtain ⟨F1,e1,s1⟩:=e.frz1 i;obtain ⟨F2,e2,s2⟩:=EnvS.frz is e1;exact ⟨F2,e2,s1.trans s2⟩
theorem bS {α:Type} {l:List α} {i j:Nat} {x y:α} (h:(l.set i x)[j]?=some y):(j=i/\y=x)\/(j≠i/\l[j]?=some y):=by
 rw [List.getElem?_set] at h;split at h
 .rename_i hj;split at h
  .cases h;exact .inl ⟨hj.symm,rfl⟩
  .cases h
 .rename_i hj;exact .inr ⟨Ne.symm hj,h⟩
theorem EnvS.setV1 (e:EnvS X F0 H0 U O F H) (i:Nat) {t:T} {v:V} (r:Rep X.K F t v):EnvS X F0 H0 (U.set i (.val t)) (O.set i (some v)) F H:=by
 refine ⟨e.st,e.t0,by rw [iD,iD];exact e.len,fun j u h=>?_,fun j u h hu=>?_,fun j l u w b hjl hj hl hu hw=>?_,fun j qb h=>?_⟩
 .rcases bS h with ⟨rfl,q⟩ | ⟨hj,q⟩
  .cases q;refine ⟨v,?_,r⟩;have hlt:j<(U.set j (.val t)).length:=(ome h).1;rw [iD,e.len] at hlt;rw [iC hlt]
  .obtain ⟨w,q1,q2⟩:=e.val j u q;exact ⟨w,by rw [fZ (Ne.symm hj)];exact q1,q2⟩
 .rcases bS h with ⟨rfl,q⟩ | ⟨hj,q⟩
  .subst q;cases hu
  .obtain ⟨a,o,q1,q2⟩:=e.ownG j u q hu;exact ⟨a,o,by rw [fZ (Ne.symm hj)];exact q1,q2⟩
 .rcases bS hj with ⟨_,q⟩ | ⟨hji,q⟩
  .subst q;cases hu
  .rcases bS hl with ⟨_,q'⟩ | ⟨hli,q'⟩
   .subst q';cases hw
   .rw [fZ (Ne.symm hji),fZ (Ne.symm hli)];exact e.disG j l u w b hjl q q' hu hw
 .rcases bS h with ⟨_,q⟩ | ⟨hj,q⟩
  .cases q
  .obtain ⟨a',ws,d⟩:=e.dl j qb q;refine ⟨a',ws,d.up (fZ (Ne.symm hj)) (Same.refl F) (fun b hb=>rfl) (fun b hb=>(d.fr b hb).1) (fun b hb l u hl hu=>?_) fun l u hl hu=>?_⟩
   .rcases bS hl with ⟨_,q'⟩ | ⟨hli,q'⟩
    .subst q';cases hu
    .rw [fZ (Ne.symm hli)];exact (d.fr b hb).2.2 l u q' hu
   .rcases bS hl with ⟨_,q'⟩ | ⟨hli,q'⟩
    .subst q';cases hu
    .exact d.one l u q' hu
theorem EnvS.setG (e:EnvS X F0 H0 U O F H) (i:Nat) {p:Addr} (hp:H p=none) (r:Own X.K F s o):EnvS X F0 H0 (U.set i s) (O.set i (some (.ref p))) F (aP H p o):=by
 have hs:Same H (aP H p o):=gU hp;have nop:∀ {j:Nat} {u:Sl} {a:Addr},U[j]?=some u->u.isOwn=true->O[j]?=some (some (.ref a))->a≠p:=fun {j u a} q hu q1=>by obtain ⟨a',o',g1,g2,_⟩:=e.ownG j u q hu;rw [q1] at g1;cases g1;exact cS g2 hp
 refine ⟨e.st.newH hp,e.t0,by rw [iD,iD];exact e.len,fun j u h=>?_,fun j u h hu=>?_,fun j l u w b hjl hj hl hu hw=>?_,fun j qb h=>?_⟩
 .rcases bS h with ⟨_,q⟩ | ⟨hj,q⟩
  .subst q;exact r.elim
  .obtain ⟨w,q1,q2⟩:=e.val j u q;exact ⟨w,by rw [fZ (Ne.symm hj)];exact q1,q2⟩
 .rcases bS h with ⟨rfl,q⟩ | ⟨hj,q⟩
  .subst q;have hlt:j<(U.set j u).length:=(ome h).1;rw [iD,e.len] at hlt;exact ⟨p,o,by rw [iC hlt],cC,e.st.fh.free hp,e.st.hh.free hp,r⟩
  .obtain ⟨a,o',q1,q2,q3⟩:=e.ownG j u q hu;exact ⟨a,o',by rw [fZ (Ne.symm hj)];exact q1,hs a _ q2,q3⟩
 .intro hb hb';rcases bS hj with ⟨rfl,q⟩ | ⟨hji,q⟩
  .rcases bS hl with ⟨rfl,q'⟩ | ⟨hli,q'⟩
   .exact hjl rfl
   .rw [fZ (Ne.symm hli)] at hb';have hlt:j<O.length:=by have:=(ome hj).1;rw [iD,e.len] at this;exact this
    rw [iC hlt] at hb;cases hb;exact nop q' hw hb' rfl
  .rw [fZ (Ne.symm hji)] at hb;rcases bS hl with ⟨rfl,q'⟩ | ⟨hli,q'⟩
   .have hlt:l<O.length:=by have:=(ome hl).1;rw [iD,e.len] at this;exact this
    rw [iC hlt] at hb';cases hb';exact nop q hu hb rfl
   .rw [fZ (Ne.symm hli)] at hb';exact e.disG j l u w b hjl q q' hu hw hb hb'
 .rcases bS h with ⟨_,q⟩ | ⟨hj,q⟩
  .subst q;exact r.elim
  .obtain ⟨a',ws,d⟩:=e.dl j qb q;have hne:∀ b,V.ref b∈fI a' ws->b≠p:=fun b hb=>let ⟨o,h1,_⟩:=d.some' hb;cS h1 hp
   refine ⟨a',ws,d.up (fZ (Ne.symm hj)) (Same.refl F) (fun b hb=>by rw [aR (hne b hb)]) (fun b hb=>(d.fr b hb).1) (fun b hb l u hl hu z=>?_) fun l u hl hu=>?_⟩
   .rcases bS hl with ⟨rfl,q'⟩ | ⟨hli,q'⟩
    .have hlt:l<O.length:=by have:=(ome hl).1;rw [iD,e.len] at this;exact this
     rw [iC hlt] at z;cases z;exact hne _ hb rfl
    .rw [fZ (Ne.symm hli)] at z;exact (d.fr b hb).2.2 l u q' hu z
   .rcases bS hl with ⟨_,q'⟩ | ⟨hli,q'⟩
    .subst q';rw [r.noDl] at hu;cases hu
    .exact d.one l u q' hu
theorem EnvS.setO (e:EnvS X F0 H0 U O F H) (i:Nat) {ts:List T} {p:Addr} {vs:List V} (hp:H p=none) (r:aF X.K F ts vs):EnvS X F0 H0 (U.set i (.own ts)) (O.set i (some (.ref p))) F (aP H p (.lst vs)):=e.setG i hp ⟨vs,rfl,r⟩
theorem EnvS.growG (e:EnvS X F0 H0 U O F H) {i:Nat} {s':Sl} {a:Addr} (ho:U[i]?=some s) (hs:s.isOwn=true) (ha:O[i]?=some (some (.ref a))) (h3:F a=none) (h4:H0 a=none) (r:Own X.K F s' o):EnvS X F0 H0 (U.set i s') O F (aP H a o):=by
 refine ⟨⟨(by obtain ⟨a2,o2,g1,g2,_,_,g5⟩:=e.ownG i s ho hs;rw [ha] at g1;cases g1;exact e.st.hh.aP h4 g2 g5.noTbl g5.noFrz),e.st.ff,fun b u q=>by rw [aR (cS q h3)];exact e.st.fh b u q,e.st.nw⟩,e.t0,by rw [iD];exact e.len,fun j u h=>?_,fun j w h hw=>?_,fun j l w z b hjl hj hl hw hz=>?_,fun j qb h=>?_⟩
 .rcases bS h with ⟨_,q⟩ | ⟨hj,q⟩
  .subst q;exact r.elim
  .exact e.val j u q
 .rcases bS h with ⟨rfl,q⟩ | ⟨hj,q⟩
  .subst q;exact ⟨a,o,ha,cC,h3,h4,r⟩
  .obtain ⟨b,z,q1,q2,q3,q4,q5⟩:=e.ownG j w q hw;have hne:b≠a:=fun z=>by subst z;exact e.disG i j s w b (Ne.symm hj) ho q hs hw ha q1
   exact ⟨b,z,q1,by rw [aR hne];exact q2,q3,q4,q5⟩
 .rcases bS hj with ⟨rfl,q⟩ | ⟨hji,q⟩
  .rcases bS hl with ⟨rfl,q'⟩ | ⟨hli,q'⟩
   .exact absurd rfl hjl
   .exact e.disG j l s z b hjl ho q' hs hz
  .rcases bS hl with ⟨rfl,q'⟩ | ⟨hli,q'⟩
   .exact e.disG j l w s b hjl q ho hw hs
   .exact e.disG j l w z b hjl q q' hw hz
 .rcases bS h with ⟨_,q⟩ | ⟨hj,q⟩
  .subst q;exact r.elim
  .obtain ⟨a',ws,d⟩:=e.dl j qb q;refine ⟨a',ws,d.up rfl (Same.refl F) (fun b hb=>aR fun z=>by subst z;exact (d.fr b hb).2.2 i s ho hs ha) (fun b hb=>(d.fr b hb).1) (fun b hb l u hl hu=>?_) fun l u hl hu=>?_⟩
   .rcases bS hl with ⟨rfl,q'⟩ | ⟨hli,q'⟩
    .exact (d.fr b hb).2.2 l s ho hs
    .exact (d.fr b hb).2.2 l u q' hu
   .rcases bS hl with ⟨_,q'⟩ | ⟨hli,q'⟩
    .subst q';rw [r.noDl] at hu;cases hu
    .exact d.one l u q' hu
theorem EnvS.grow (e:EnvS X F0 H0 U O F H) {i:Nat} {ts us:List T} {a:Addr} {vs:List V} (ho:U[i]?=some (.own ts)) (ha:O[i]?=some (some (.ref a))) (h3:F a=none) (h4:H0 a=none) (r:aF X.K F us vs):EnvS X F0 H0 (U.set i (.own us)) O F (aP H a (.lst vs)):=e.growG ho rfl ha h3 h4 ⟨vs,rfl,r⟩
theorem EnvS.setAll (hN:X.N=c.nm):∀ {is:List Nat} {us:List T} {vs:List V} {U U':List Sl} {O:L2.St},EnvS X F0 H0 U O F H->aF X.K F us vs->setAll is us U=some U'->EnvS X F0 H0 U' (nI is vs O) F H/\vs.length=is.length
 | [],[],_,U,U',O,e,r,h=>by cases r;cases h;exact ⟨e,rfl⟩
 | [],_::_,_,_,_,_,_,_,h=>by cases h
 | _::_,[],_,_,_,_,_,_,h=>by cases h
 | i::is,u::us,vs,U,U',O,e,r,h=>by obtain ⟨v,ws,rfl,r1,r2⟩:=r;obtain ⟨q1,q2⟩:=EnvS.setAll hN (is:=is) (e.setV1 i r1) r2 h;exact ⟨q1,by simp [q2]⟩
end
def eZ (X:Cx) (F0 H0 F:Hp) (D:Ends):Out->Prop
 | .nx U'=>∀ O' F' H',EnvS X F0 H0 U' O' F' H'->Same F F'->D.nx O' H'
 | .rt t=>∀ v F' H',Step F0 H0 F' H'->Rep X.K F' t v->D.rt v H'
def spS (X:Cx) (F0 H0:Hp) (f:List Sl->Option Out):TS:=fun D O H=>∃ U F o,EnvS X F0 H0 U O F H/\f U=some o/\eZ X F0 H0 F D o
theorem eZ.up {X:Cx} {F0 H0 F F':Hp} {D:Ends} {o:Out} (s:Same F F') (h:eZ X F0 H0 F D o):eZ X F0 H0 F' D o:=by
 cases o with
 | nx U=>exact fun O' G' H' e s'=>h O' G' H' e (s.trans s')
 | rt t=>exact h
end
section
structure Fx (X:Cx) (c:Tc):Prop where
 hN:X.N=c.nm
 loc:∀ x,(c.sc.names.lookup x=some .local\/c.sc.names.lookup x=some .cell)->Loc X.env.scope x
 fn:∀ x,X.fn x=true
 xe:X.xe=fun _ _=>False
section
variable {X:Cx} {c:Tc} {G:Glo} {k n:Nat} {F0 H0:Hp}
theorem Fx.at (fx:Fx X c) {x:Str} {i:Nat} (hl:c.sc.names.lookup x=some .local\/c.sc.names.lookup x=some .cell) (hi:bY c.nm x=some i):At X x i:=⟨by rw [fx.hN];exact jI hi,fx.loc x hl,.inl (fx.fn x)⟩
theorem Fx.ats (fx:Fx X c):∀ {xs:List Str} {is:List Nat},(xs.all fun x=>bZ x&&(c.sc.names.lookup x==some .local||c.sc.names.lookup x==some .cell))=true->jF (bY c.nm) xs=some is->Ats X xs is
 | [],_,_,h=>by cases h;exact .nil
 | x::xs,is,hl,h=>by rw [List.all_cons,bU] at hl;obtain ⟨i,h1,h⟩:=obs h;obtain ⟨js,h2,h⟩:=obs h;cases h;have q:=hl.1;simp only [Bool.and_eq_true,Bool.or_eq_true,beq_iff_eq] at q;exact .cons (fx.at q.2 h1) (fx.ats hl.2 h2)
theorem vG {e:Expr} {e':E} (h:trV n c e=some e') (hl:∀ a b s p,e≠.ListComp a b s p) (t:Option Expr) (l:Nat) (env:PySem.Env):swapsWith e t l env=pure false:=by
 cases n with
 | zero=>cases h
 | succ n =>
  cases e with
  | ListComp a b s p=>exact absurd rfl (hl a b s p)
  | SetComp _ _ _ _=>cases h
  | DictComp _ _ _ _ _=>cases h
  | _=>rfl
theorem SN:MtM X "list.extend" (fun x vs H Q=>∃ l b xs zs,x=.ref l/\vs=[.ref b]/\H l=some (.lst xs)/\Ls X.K H b zs/\xs.length+zs.length<=sizeLine/\Q .non (aP H l (.lst (xs++zs)))):=by
 intro pj s O H x vs v us Q I rx rv h;obtain ⟨l,b,xs,zs,rfl,rfl,hH,hB,hz,q⟩:=h;cases rx;obtain ⟨u,rfl,ru⟩:=rv.one;cases ru;obtain ⟨z,qc,n,r,hl,e⟩:=I.lstM hH;obtain ⟨z2,its2,n2,r2,e2⟩:=hB.ok I;have hl2:=r2.length;have hsz:qc.toArray.size+its2.toArray.size<=sizeLine:=by rw [cR,cR];lia
 have hlong:¬ (!qc.toArray.isEmpty&&Builtin.List.listTooLong (qc.toArray.size+its2.toArray.size))=true:=by rw [LF hsz,Bool.and_false];exact dI
 refine call_meets F.slot_list_extend ⟨_,e,rfl⟩ F.entry_list_extend (F.args_list_extend_2 _ _)
  (AutoSeq1.list_extend_list_list_0 l qc.toArray n b its2.toArray n2 hlong (by rw [cR];lia) (by lia)) ⟨e,e2,?_⟩
 refine ⟨.non,_,I.lset (its':=qc++its2) hH e (by simp) (r.append r2) ?_,rfl,q⟩;rw [dW];lia
theorem SO {a b:Expr} {pos:Pos} {f g:Env->Option T} (ha:Oke X c a f) (hb:Oke X c b g):PE X (.BinOp a .Add b pos) (spN X c (fun r=>(f r).bind fun x=>(g r).bind fun y=>dN x y)):=by
 refine fM (yI zM ha hb) fun O H Q q=>?_;obtain ⟨r,F,ts,e,ht,q⟩:=q;obtain ⟨t1,e1,ht⟩:=obs ht;obtain ⟨t2,e2,ht⟩:=obs ht;refine ⟨r,F,t1,e,e1,fun v1 F1 H1 s1 r1=>⟨r,F1,t2,e.step s1,e2,fun v2 F2 H2 s2 r2=>?_⟩⟩;have key:∃ us ws,t1=.lst us/\t2=.lst ws/\us.length+ws.length<=SZ/\ts=us++ws:=by
  cases t1 with
  | lst us =>
   cases t2 with
   | lst ws =>
    simp only [dN] at ht;split at ht
    .rename_i hz;cases ht;exact ⟨_,_,rfl,rfl,hz,rfl⟩
    .cases ht
   | _=>simp [dN] at ht
  | _=>cases t2<;>simp only [dN] at ht<;>(try split at ht)<;>cases ht
 obtain ⟨us,ws,rfl,rfl,hz,rfl⟩:=key;obtain ⟨l,vs,rfl,g1,g2⟩:=r1;obtain ⟨l',vs',rfl,g3,g4⟩:=r2;refine ⟨l,l',vs,vs',rfl,rfl,Ls.same (s2.ff.trans s2.fh) g1,Ls.same s2.fh g3,by rw [g2.length,g4.length,<- jX];exact hz,fun p hp=>?_⟩;exact q p _ F2 H2 (s1.trans s2) hp ((g2.mono s2.ff).app g4)
theorem rY {y:E} {t:T} (h:fresh y=false\/∀ ts,t≠.lst ts):dZ y t=.val t:=by
 unfold dZ;rcases h with h | h
 .rw [h]
 .cases fresh y with
  | false=>rfl
  | true=>cases t with
   | lst ts=>exact absurd rfl (h ts)
   | _=>rfl
theorem SQ {y:E} {ts:List T} (h:fresh y=true):dZ y (.lst ts)=.own ts:=by unfold dZ;rw [h]
theorem SR (gd:Gd X c G k) (fx:Fx X c) {x:Str} {e:Expr} {y:E} {py pos:Pos} {i:Nat} (hl:c.sc.names.lookup x=some .local\/c.sc.names.lookup x=some .cell) (hi:bY c.nm x=some i) (h:trV (n+1) c e=some y) (hfl:fresh y=true->qU e=true) :
  PS X (.Assign [.Name x py] e pos) (spS X F0 H0 (evS G (.asg i y))):=by
 have S:=kA G k n;have at_:=fx.at hl hi;intro pj s O H D I q;obtain ⟨U,F,o,en,hf,hw⟩:=q;rw [evS] at hf;obtain ⟨F1,e1,s1⟩:=en.frz (aJ y);obtain ⟨t,ht,hf⟩:=obs hf;cases hf;have val:dZ y t=.val t->vF X c i (evE G y) D O H:=fun hs=>⟨_,F1,t,e1.env fx.hN,ht,fun v F' H' st r=>hw _ F' H' (by rw [hs];exact (e1.step st).setV1 i r) (s1.trans st.ff)⟩;have valN:dZ y t=.val t->(∀ a b s p,e≠.ListComp a b s p)->wpAny (model X.prog X.w) X.A (exec (.Assign [.Name x py] e pos) X.env) (SP X pj D) X.xe s:=fun hs hne =>
  qM gd.nd at_.ix at_.loc (DR S gd h) (vG h hne _ _ _) at_.fn pj s O H D I (by obtain ⟨r,F2,t2,a1,a2,a3⟩:=val hs;exact ⟨r,F2,t2,a1,a2,a3⟩)
 have own:∀ {ts:List T},t=.lst ts->fresh y=true->(∀ a b s p,e≠.ListComp a b s p)->PE X e (spN X c (evE G y))->wpAny (model X.prog X.w) X.A (exec (.Assign [.Name x py] e pos) X.env) (SP X pj D) X.xe s:=fun {ts} et hfr hne hp=>by subst et;refine qM gd.nd at_.ix at_.loc hp (vG h hne _ _ _) at_.fn pj s O H D I ⟨_,F1,ts,e1.env fx.hN,ht,fun p vs F' H1 st hp r=>hw _ F' _ ?_ (s1.trans st.ff)⟩;rw [SQ hfr];exact (e1.step st).setO i hp r
 cases e with
 | ListComp a b sc p =>
  have hy:fresh y=false:=by
   obtain ⟨tg,iter,ifs,rfl,xs,ki,h0,h1,hcs,hr⟩:=DN h
   match ifs,hr with
   | [],hr =>obtain ⟨z,h2,hr⟩:=obs hr;cases hr;rfl
   | [t],hr =>obtain ⟨z,h2,hr⟩:=obs hr;obtain ⟨w,h3,hr⟩:=obs hr;cases hr;rfl
   | _::_::_,hr=>cases hr
  exact (DO S gd h).2 at_ pj s O H D I (val (rY (.inl hy)))
 | List es p =>
  have h':=h;obtain ⟨zs,h1,h'⟩:=obs h';cases h';have ee:evE G (.lst zs)=fun r=>if zs.length<=1000 then (aG G zs r).map .lst else none:=by funext r;rw [evE]
  have hlst:∃ ts,t=.lst ts:=by
   rw [ee] at ht;dsimp only at ht;split at ht
   .obtain ⟨ts,_,rfl⟩:=oms ht;exact ⟨ts,rfl⟩
   .cases ht
  obtain ⟨ts,rfl⟩:=hlst;exact own rfl rfl (fun _ _ _ _ z=>by cases z) (by rw [ee];exact AO (S.l gd h1) fun r ts q=>rX q)
 | BinOp a op b p =>
  have h':=h;obtain ⟨o,h0,h'⟩:=obs h';obtain ⟨x1,h1,h'⟩:=obs h';obtain ⟨y1,h2,h'⟩:=obs h';cases h';by_cases hadd:op=.Add
  .subst hadd;cases h0;by_cases hlst:∃ ts,t=.lst ts
   .obtain ⟨ts,rfl⟩:=hlst;have ee:evE G (.bin .add x1 y1)=fun r=>(evE G x1 r).bind fun s=>(evE G y1 r).bind fun t=>dN s t:=by funext r;rw [evE];try rfl
    exact own rfl rfl (fun _ _ _ _ z=>by cases z) (by rw [ee];exact SO (S.v gd h1) (S.v gd h2))
   .exact valN (rY (.inr fun ts z=>hlst ⟨ts,z⟩)) (fun _ _ _ _ z=>by cases z)
  .refine valN (rY (.inl ?_)) (fun _ _ _ _ z=>by cases z);cases op<;>first | exact absurd rfl hadd | (cases h0;done) | (cases h0;rfl)
 | _ =>
  refine valN (rY (.inl ?_)) (fun _ _ _ _ z=>by cases z);cases hfr:fresh y with
  | false=>rfl
  | true=>cases hfl hfr
end
end
section
variable {x:Str} {a:Expr} {pos:Pos} {xs:List Str} {is:List Nat}
section
variable {X:Cx} {c:Tc} {G:Glo} {k n:Nat} {F0 H0:Hp}
theorem gW (h:bZ x=true):(x==("__debug__":Str))=false/\(x==("__classdict__":Str))=false:=by unfold bZ at h;simp only [Bool.and_eq_true,Bool.not_eq_true'] at h;exact ⟨h.1.1.1,h.1.1.2⟩
theorem SS (gd:Gd X c G k) (fx:Fx X c) {y:E} {px apos cpos:Pos} {i:Nat} (hv:dG c.sc x=true) (hp:bZ x=true) (hi:bY c.nm x=some i) (h:trV n c a=some y) (hl:(apos.endLine==cpos.line)=true) :
  PS X (.Expr (.Call (.Attribute (.Name x px) "append" apos) [a] [] cpos) pos) (spS X F0 H0 (evS G (.app i y))):=by
 have S:=kA G k n;have hN:X.N[i]?=some x:=by rw [fx.hN];exact jI hi
 have hs:=iT h X.env;refine oE (tE (oB F.plainAttrs_list F.slot_list_append F.type_list_append tO (lO hN (gd.vis x hv) (gW hp).1 (gW hp).2) (jY (S.v gd h) hs) rfl (by rw [hs];rfl) hl hs rfl) rfl) fun D O H q=>?_;obtain ⟨U,F,o,en,hf,hw⟩:=q;rw [evS] at hf;obtain ⟨F1,e1,s1⟩:=en.frz (aJ y);obtain ⟨t,ht,hf⟩:=obs hf;split at hf
 .rename_i ts ho;split at hf
  .rename_i hz;cases hf;obtain ⟨b,vs,q1,q2,q3,q4,q5⟩:=e1.own i ts ho;refine ⟨.ref b,q1,.inl ⟨rfl,_,SqL.of q2⟩,_,F1,[t],e1.env fx.hN,fA.mpr ⟨t,ht,rfl⟩,fun ws F' H' st r=>?_⟩;obtain ⟨v,r',rfl,r1,r2⟩:=r;cases r2;have e2:=e1.step st;obtain ⟨b',vs',p1,p2,p3,p4,p5⟩:=e2.own i ts ho;rw [q1] at p1;cases p1;refine ⟨b,vs',v,rfl,rfl,p2,by rw [p5.length,<- jX];exact hz,?_⟩;exact hw O F' _ (e2.grow ho q1 p3 p4 (p5.app (.cons r1 rfl))) (s1.trans st.ff)
  .cases hf
 .cases hf
theorem SU (gd:Gd X c G k) (fx:Fx X c) {y:E} {px apos cpos:Pos} {i:Nat} (hv:dG c.sc x=true) (hp:bZ x=true) (hi:bY c.nm x=some i) (h:trV n c a=some y) (hl:(apos.endLine==cpos.line)=true) :
  PS X (.Expr (.Call (.Attribute (.Name x px) "extend" apos) [a] [] cpos) pos) (spS X F0 H0 (evS G (.ext i y))):=by
 have S:=kA G k n;have hN:X.N[i]?=some x:=by rw [fx.hN];exact jI hi
 have hs:=iT h X.env;refine oE (tE (oB F.plainAttrs_list F.slot_list_extend F.type_list_extend SN (lO hN (gd.vis x hv) (gW hp).1 (gW hp).2) (jY (S.v gd h) hs) rfl (by rw [hs];rfl) hl hs rfl) rfl) fun D O H q=>?_;obtain ⟨U,F,o,en,hf,hw⟩:=q;rw [evS] at hf;obtain ⟨F1,e1,s1⟩:=en.frz (aJ y);obtain ⟨t,ht,hf⟩:=obs hf;split at hf
 .rename_i us ts ho;split at hf
  .rename_i hz;cases hf;obtain ⟨b,vs,q1,q2,q3,q4,q5⟩:=e1.own i ts ho;refine ⟨.ref b,q1,.inl ⟨rfl,_,SqL.of q2⟩,_,F1,[.lst us],e1.env fx.hN,fA.mpr ⟨_,ht,rfl⟩,fun ws F' H' st r=>?_⟩;obtain ⟨v,r',rfl,r1,r2⟩:=r;cases r2;obtain ⟨l,zs,rfl,g1,g2⟩:=r1;have e2:=e1.step st;obtain ⟨b',vs',p1,p2,p3,p4,p5⟩:=e2.own i ts ho;rw [q1] at p1;cases p1;refine ⟨b,l,vs',zs,rfl,rfl,p2,Ls.same st.fh g1,by rw [p5.length,g2.length,<- jX];exact hz,?_⟩;exact hw O F' _ (e2.grow ho q1 p3 p4 (p5.app g2)) (s1.trans st.ff)
  .cases hf
 .cases hf
theorem SV (gd:Gd X c G k) (fx:Fx X c) {y:E} (h:trV n c a=some y):PS X (.Return (some a) pos) (spS X F0 H0 (evS G (.ret y))):=by have S:=kA G k n;refine oE (IS (S.v gd h)) fun D O H q=>?_;obtain ⟨U,F,o,en,hf,hw⟩:=q;rw [evS] at hf;obtain ⟨F1,e1,s1⟩:=en.frz (aJ y);obtain ⟨t,ht,rfl⟩:=oms hf;exact ⟨_,F1,t,e1.env fx.hN,ht,fun v F' H' st r=>hw v F' H' (e1.st.trans st) r⟩
theorem SW (gd:Gd X c G k) (fx:Fx X c) {t:Expr} {a b:List Stmt} {z:E} {x y:List S} (h:trT n c t=some z) (ha:PSs X a (spS X F0 H0 (aE G x))) (hb:PSs X b (spS X F0 H0 (aE G y))):PS X (.If t a b pos) (spS X F0 H0 (evS G (.ite z x y))):=by
 have S:=kA G k n;refine oE (IT (S.t gd h).1 ha hb) fun D O H q=>?_;obtain ⟨U,F,o,en,hf,hw⟩:=q;rw [evS] at hf;obtain ⟨F1,e1,s1⟩:=en.frz (aJ z);obtain ⟨t,ht,hf⟩:=obs hf;cases t with
 | bl d =>
  refine ⟨_,F1,d,e1.env fx.hN,ht,fun F' H' st=>?_⟩;cases d with
  | true=>exact ⟨_,F',o,e1.step st,hf,hw.up (s1.trans st.ff)⟩
  | false=>exact ⟨_,F',o,e1.step st,hf,hw.up (s1.trans st.ff)⟩
 | _=>cases hf
theorem vH (fx:Fx X c) {tg:Expr} {b:List S} (h1:iQ tg=some xs) (h2n:eA tg=true->2<=xs.length) (hat:Ats X xs is) {J:It} {qc:List T} {U2:List Sl} {O:L2.St} {F2 H2:Hp} {D:Ends} {o:Out}
  (e2:EnvS X F0 H0 U2 O F2 H2) (wk:Walk X.K J qc F2) (hf:cP (fun x U=>(bD is x U).bind fun U'=>aE G b U') qc U2=some o) (hw:eZ X F0 H0 F2 D o) :
  ∃ W:Nat->Nat->L2.St->Hp->Prop,(∃ m,W 0 m O H2)/\∀ i m O H,W i m O H ->
 (J.stop i H/\D.nx O H)\/(J.go i H/\∃ N:L2.St->Hp->Prop,(∀ O' H',N O' H'->∃ m',m'<m/\W (i+1) m' O' H')/\∀ x H',J.yld i H x H'->gT X.K (!eA tg) is x O H' fun O2 H2=>spS X F0 H0 (aE G b) { D with nx:=N,ct:=N,bk:=D.nx } O2 H2):=by
 refine ⟨fun i m O' H'=>i<=qc.length/\m=qc.length-i/\∃ U' F',EnvS X F0 H0 U' O' F' H'/\Same F2 F'/\cP (fun x U=>(bD is x U).bind fun U'=>aE G b U') (qc.drop i) U'=some o,⟨qc.length,eK _,rfl,_,F2,e2,Same.refl F2,hf⟩,?_⟩;rintro i m O' H' ⟨hle,rfl,U',F',e',s',hlo⟩;have sm:Same F2 H':=s'.trans e'.st.fh;have wup:eZ X F0 H0 F' D o:=hw.up s';by_cases hlt:i<qc.length
 .refine .inr ⟨wk.go i H' hlt sm,?_⟩;rw [List.drop_eq_getElem_cons hlt,cP] at hlo;obtain ⟨o1,ho1,hlo⟩:=obs hlo;obtain ⟨U1,hb1,ho1⟩:=obs ho1;refine ⟨fun O'' H''=>∃ U'' F'',EnvS X F0 H0 U'' O'' F'' H''/\Same F2 F''/\cP (fun x U=>(bD is x U).bind fun U'=>aE G b U') (qc.drop (i+1)) U''=some o,fun O'' H'' hN=>⟨qc.length-(i+1),by lia,hlt,rfl,hN⟩,fun x H5 hy=>?_⟩;obtain ⟨F5,st5,r5⟩:=wk.yld i H' x H5 F' qc[i] (by simp [hlt]) s' e'.st.fh hy;have e5:=e'.step st5;have fin:∀ O6,EnvS X F0 H0 U1 O6 F5 H5->spS X F0 H0 (aE G b) { D with nx:=fun O'' H''=>∃ U'' F'',EnvS X F0 H0 U'' O'' F'' H''/\Same F2 F''/\cP (fun x U=>(bD is x U).bind fun U'=>aE G b U') (qc.drop (i+1)) U''=some o,ct:=fun O'' H''=>∃ U'' F'',EnvS X F0 H0 U'' O'' F'' H''/\Same F2 F''/\cP (fun x U=>(bD is x U).bind fun U'=>aE G b U') (qc.drop (i+1)) U''=some o,bk:=D.nx } O6 H5:=fun O6 e6=>by
   refine ⟨U1,F5,o1,e6,ho1,?_⟩;cases o1 with
   | nx U2=>exact fun O7 F7 H7 e7 s7=>⟨U2,F7,e7,s'.trans (st5.ff.trans s7),hlo⟩
   | rt t =>cases hlo;exact wup
  have hlen:=vD hat;cases htup:eA tg with
  | false =>
   have one:∃ i0,is=[i0]:=by
    cases tg with
    | Name y p =>
     cases h1
     match is,hlen with
     | [i0],_=>exact ⟨i0,rfl⟩
    | Tuple _ _ _=>cases htup
    | _=>cases h1
   obtain ⟨i0,rfl⟩:=one;cases hb1;exact fin _ (e5.setV1 i0 r5)
  | true =>
   have h2n:=h2n htup;have hb2:∃ ts,qc[i]=.tup ts/\setAll is ts U'=some U1:=by
    match is,hlen,hb1 with
    | [],hl,_=>rw [hl] at h2n;simp at h2n
    | [_],hl,_=>rw [hl] at h2n;simp at h2n
    | i0::i1::ir,_,hb1 =>
     cases hq:qc[i] with
     | tup ts=>rw [hq] at hb1;exact ⟨ts,rfl,hb1⟩
     | _=>rw [hq] at hb1;cases hb1
   obtain ⟨ts,et,hb2⟩:=hb2;rw [et] at r5;obtain ⟨a,vs,rfl,q1,q2⟩:=r5;obtain ⟨e6,hl6⟩:=e5.setAll fx.hN q2 hb2;exact ⟨a,vs,rfl,dQ st5.fh q1,hl6,fin _ e6⟩
 .have e:i=qc.length:=by lia
  subst e;rw [List.drop_length,cP] at hlo;cases hlo;exact .inl ⟨wk.stop H' sm,wup O' F' H' e' (Same.refl F')⟩
theorem SX (gd:Gd X c G k) (fx:Fx X c) {tg iter:Expr} {body:List Stmt} {ki:Ik × List E} {b:List S} (h1:iQ tg=some xs) (h2:jF (bY c.nm) xs=some is) (h3:trI n c iter=some ki)
  (ht:ki.1.pair=true->eA tg=true) (h2n:eA tg=true->2<=xs.length) (hat:Ats X xs is) (hb:PSs X body (spS X F0 H0 (aE G b))):PS X (.For tg iter body [] pos) (spS X F0 H0 (evS G (.loop is ki.1 ki.2 b))):=by
 have S:=kA G k n;refine oE (tG (by rw [fx.xe];exact PassesOwn.never) gd.calm (S.i gd h3 ht) (rV gd.nd gd.calm h1 hat) hb (DM h3 X.env)) fun D O H q=>?_;obtain ⟨U,F,o,en,hf,hw⟩:=q;rw [evS] at hf;obtain ⟨F1,e1,s1⟩:=en.frz (cJ ki.2);obtain ⟨us,hu,hf⟩:=obs hf;obtain ⟨qc,hi,hf⟩:=obs hf;refine ⟨_,F1,qc,e1.env fx.hN,fA.mpr ⟨us,hu,hi⟩,fun J F2 H2 st wk=>?_⟩;have e2:=e1.step st;exact vH fx h1 h2n hat e2 wk hf (hw.up (s1.trans st.ff))
end
end
section
variable {i:Nat} {x:Str} {pos px tp:Pos} {ke:Expr}
theorem vI {U:List Sl} {s s':Sl} (h:U[i]?=some s) (e:s.get=s'.get):aB (U.set i s')=aB U:=by
 unfold aB;rw [List.map_set];apply List.ext_getElem?;intro j;rw [List.getElem?_set];by_cases hj:i=j
 .subst hj;rw [if_pos rfl,bA];have hlt:=(ome h).1;rw [if_pos hlt,fL,h,<- e];rfl
 .rw [if_neg hj]
section
variable {X:Cx} {c:Tc} {G:Glo} {k n:Nat} {F0 H0:Hp}
theorem SY (gd:Gd X c G k) (fx:Fx X c) {py dp:Pos} (hl:c.sc.names.lookup x=some .local\/c.sc.names.lookup x=some .cell) (hi:bY c.nm x=some i) :
  PS X (.Assign [.Name x py] (.Dict [] [] dp) pos) (spS X F0 H0 (evS G (.dnew i))):=by
 have at_:=fx.at hl hi;intro pj s O H D I q;obtain ⟨U,F,o,en,hf,hw⟩:=q;rw [evS] at hf;cases hf;exact qM gd.nd at_.ix at_.loc MM rfl at_.fn pj s O H D I fun p hp=>hw _ F _ (en.setG i hp ⟨[],rfl,rfl,rfl⟩) (Same.refl F)
theorem vJ {pj:Pq} {s:Shared} {O:L2.St} {H:Hp} {b:Addr} (I:L2.Inv X pj O H s) (q2:H b=some (.dK [])):L2.Inv X pj O (aP H b (.dT [])) s:=by
 obtain ⟨z,hd,vs,rel,ob,es,ep,h1,h2,h3,_,h4,_⟩:=rC I.hok q2;cases rel;refine oF (t':=s.toks) (h':=s.heap) I (by rw [q2];exact True.intro) (Heap.SameBut.refl _ _) ⟨ob,h1⟩ ⟨eK _,hd,[],.nil,ob,es,ep,h1,h2,h3,?_,gK⟩;have:=h4.length;cases hes:es.toList with
 | nil=>rfl
 | cons _ _=>rw [hes] at this;simp at this
theorem DT {ve:Expr} {fk:Env->Option T} (gd:Gd X c G k) (fx:Fx X c) (hv:dG c.sc x=true) (hp:bZ x=true) (hi:bY c.nm x=some i) (hk:Oke X c ke fk) {tv:TE} (hve:PE X ve tv) (hs:swapsWith ve (some (.Subscript (.Name x px) ke tp)) pos.line X.env=pure false)
  {pj:Pq} {s:Shared} {O:L2.St} {H:Hp} {D:Ends} (I:L2.Inv X pj O H s) {U:List Sl} {F:Hp} (e1:EnvS X F0 H0 U O F H) {kt y:T} {s':Sl} (ht:fk (aB U)=some kt) (hput:kQ U[i]? kt y=some s')
  (hval:∀ (U':List Sl) (H':Hp) (Q:VK),EnvS X F0 H0 U' O F H'->aB U'=aB U->((kM kt).isSome=true\/∃ qb,U'[i]?=some (.dt qb)/\(U[i]?=some (.dt qb)\/qb=[]/\U[i]?=some (.dk [])))->(∀ v F2 H2,Step F H' F2 H2->Rep X.K F2 y v->Q v H2)->tv O H' Q)
  (hw:∀ O' F' H',EnvS X F0 H0 (U.set i s') O' F' H'->Same F F'->D.nx O' H'):wpAny (model X.prog X.w) X.A (exec (.Assign [.Subscript (.Name x px) ke tp] ve pos) X.env) (SP X pj D) X.xe s:=by
 have hu:X.A.units+1<cLine:=by have:=gd.hu;lia
 have hN:X.N[i]?=some x:=by rw [fx.hN];exact jI hi
 have P:=MJ (pos:=pos) hu (lO (pos:=px) hN (gd.vis x hv) (gW hp).1 (gW hp).2) hk hve hs;have dtc:∀ (U1:List Sl) (H1:Hp) (qb:List (List Kt × T)) (q:List Kt),L2.Inv X pj O H1 s->EnvS X F0 H0 U1 O F H1->aB U1=aB U->U1[i]?=some (.dt qb)->(U[i]?=some (.dt qb)\/qb=[]/\U[i]?=some (.dk []))->tkO kt=some q->qb.length<SZ->U1.set i (.dt (bV qb q y))=U.set i s' ->
   wpAny (model X.prog X.w) X.A (exec (.Assign [.Subscript (.Name x px) ke tp] ve pos) X.env) (SP X pj D) X.xe s:=fun U1 H1 qb q I1 e2 hvw ho hor hq hz hset=>by
  refine P pj s O H1 D I1 (hval U1 H1 _ e2 hvw (.inr ⟨qb,ho,hor⟩) fun v F2 H2 st2 rv=>?_);have e3:=e2.step st2;obtain ⟨b,ob,q1,q2,q3,q4,q5⟩:=e3.ownG i _ ho rfl;refine ⟨.ref b,q1,_,F2,kt,e3.env fx.hN,by rw [hvw];exact ht,fun u F3 H3 st3 rk=>?_⟩;have e4:=e3.step st3;obtain ⟨b',ob',p1,p2,p3,p4,ws,rfl,w1,w2⟩:=e4.ownG i _ ho rfl;rw [q1] at p1;cases p1;cases kt with
  | tup xs =>
   obtain ⟨kb,vs,rfl,g1,g2⟩:=rk;have ek:=lX g2 hq;subst ek;have rel:=cA.of w1 w2;have hl:ws.length=qb.length:=by have:=congrArg List.length w1;simpa using this
   refine ⟨b,_,rfl,fQ.t p2 (st3.fh _ _ g1) (by rw [hl,<- jX];exact hz),?_⟩;have rel2:=rel.put q (rv.mono st3.ff);have:=e4.growG (s':=.dt (bV qb q y)) (o:=.dT (eG ws q v)) ho rfl q1 p3 p4 ⟨_,rfl,rel2.keys,rel2.vals⟩;rw [hset] at this;exact hw _ _ _ this (st2.ff.trans st3.ff)
  | _=>cases hq
 cases hsl:U[i]? with
 | none=>rw [hsl] at hput;cases hput
 | some sl =>
  rw [hsl] at hput;cases sl with
  | dk qb =>
   cases hkk:kM kt with
   | some q =>
    simp only [kQ,hkk] at hput;split at hput
    .rename_i hz;cases hput;refine P pj s O H D I (hval U H _ e1 rfl (.inl (by rw [hkk];rfl)) fun v F2 H2 st2 rv=>?_);have e3:=e1.step st2;obtain ⟨b,ob,q1,q2,q3,q4,q5⟩:=e3.ownG i _ hsl rfl;refine ⟨.ref b,q1,_,F2,kt,e3.env fx.hN,ht,fun u F3 H3 st3 rk=>?_⟩;have e4:=e3.step st3;obtain ⟨b',ob',p1,p2,p3,p4,ws,rfl,w1,w2⟩:=e4.ownG i _ hsl rfl;rw [q1] at p1;cases p1;have ek:=uD rk hkk;subst ek;have rel:=cA.of w1 w2;have hl:ws.length=qb.length:=by have:=congrArg List.length w1;simpa using this
     refine ⟨b,_,rfl,fQ.k p2 (by rw [hl,<- jX];exact hz),?_⟩;have rel2:=rel.put q (rv.mono st3.ff);exact hw _ _ _ (e4.growG (s':=.dk (bV qb q y)) (o:=.dK (eG ws q v)) hsl rfl q1 p3 p4 ⟨_,rfl,rel2.keys,rel2.vals⟩) (st2.ff.trans st3.ff)
    .cases hput
   | none =>
    cases qb with
    | cons _ _=>simp only [kQ,hkk] at hput;cases hput
    | nil =>
     simp only [kQ,hkk] at hput;obtain ⟨q,hq,rfl⟩:=oms hput;obtain ⟨b,ob,q1,q2,q3,q4,ws,rfl,w1,w2⟩:=e1.ownG i _ hsl rfl;have hws:ws=[]:=by cases ws with | nil=>rfl | cons _ _=>simp at w1
     subst hws;have I1:=vJ I q2;have e2:=e1.growG (s':=.dt []) (o:=.dT []) hsl rfl q1 q3 q4 ⟨[],rfl,rfl,rfl⟩;have hlt:=(ome hsl).1;have hg:(U.set i (.dt []))[i]?=some (Sl.dt []):=by rw [iC hlt]
     exact dtc _ _ [] q I1 e2 (vI hsl rfl) hg (.inr ⟨rfl,hsl⟩) hq (by decide) (by rw [List.set_set];rfl)
  | dt qb =>
   simp only [kQ] at hput;obtain ⟨q,hq,hput⟩:=obs hput;split at hput
   .rename_i hz;cases hput;exact dtc U H qb q I e1 rfl hsl (.inl hsl) hq hz rfl
   .cases hput
  | _=>cases hput
theorem TC (gd:Gd X c G k) (fx:Fx X c) {ve:Expr} {y z:E} (hv:dG c.sc x=true) (hp:bZ x=true) (hi:bY c.nm x=some i) (h1:trV n c ke=some y) (h2:trV n c ve=some z) (hc:tW ve=false) :
  PS X (.Assign [.Subscript (.Name x px) ke tp] ve pos) (spS X F0 H0 (evS G (.dput i y z))):=by
 have S:=kA G k n;intro pj s O H D I q;obtain ⟨U,F,o,en,hf,hw⟩:=q;rw [evS] at hf;obtain ⟨F1,e1,s1⟩:=en.frz (aJ z++aJ y);obtain ⟨vt,g1,hf⟩:=obs hf;obtain ⟨kt,g2,hf⟩:=obs hf;obtain ⟨s',g3,rfl⟩:=oms hf;refine DT gd fx hv hp hi (S.v gd h1) (S.v gd h2) (vG h2 (fun a b s p z=>by subst z;cases hc) _ _ _) I e1 g2 g3 (fun U' H' Q e2 hvw _ hQ=>?_) fun O' F' H' e' s'=>hw O' F' H' e' (s1.trans s');exact ⟨_,F1,vt,e2.env fx.hN,by rw [hvw];exact g1,hQ⟩
theorem TD (hu:X.A.units+1<cLine):MtR X "dict.get" (fun x xs H Q=>∃ a y d o,x=.ref a/\xs=[y,d]/\cB H a y o/\Q (o.getD d) H):=by intro pj s O H x xs v us Q I rx rs h;obtain ⟨a,y,d,o,rfl,rfl,g,q⟩:=h;cases rx;obtain ⟨u,w,rfl,r1,r2⟩:=tJ rs;exact zS hu I g r1 r2 fun w' s' I' rw'=>⟨_,H,I',rw',q⟩
theorem TF (gd:Gd X c G k) (fx:Fx X c) {kg:Expr} {y z:E} {p1 apos cpos q1 q2 bp:Pos} {u1 u2:Nat} (hv:dG c.sc x=true) (hp:bZ x=true) (hi:bY c.nm x=some i) (h1:trV n c ke=some y) (h2:trV n c kg=some z) (hl:(apos.endLine==cpos.line)=true) :
  PS X (.Assign [.Subscript (.Name x px) ke tp] (.BinOp (.Call (.Attribute (.Name x p1) "get" apos) [kg,.Constant (.int 0) u1 q1] [] cpos) .Add (.Constant (.int 1) u2 q2) bp) pos) (spS X F0 H0 (evS G (.dinc i y z))):=by
 have S:=kA G k n;have hu:X.A.units+1<cLine:=by have:=gd.hu;lia
 have hN:X.N[i]?=some x:=by rw [fx.hN];exact jI hi
 have hs:starEach [kg,.Constant (.int 0) u1 q1] X.env=(false,eval kg X.env)::starEach [.Constant (.int 0) u1 q1] X.env:=kU h2 _ X.env;have hA:=oH (c:=c) (S.v gd h2) (oH (c:=c) (AN (c:=c) (a:=.Constant (.int 0) u1 q1) (t:=.int 0) tD fun _=>rfl) uF rfl) hs;have hG:=oB (cpos:=cpos) (apos:=apos) PySem.F.plainAttrs_dict PySem.F.slot_dict_get PySem.F.type_dict_get (TD hu) (lO (pos:=p1) hN (gd.vis x hv) (gW hp).1 (gW hp).2) hA rfl (by rw [hs];rfl) hl hs rfl;have hV:=IA (pos:=bp) hG (tD (i:=1) (j:=u2) (pos:=q2));intro pj s O H D I q;obtain ⟨U,F,o,en,hf,hw⟩:=q;rw [evS] at hf;obtain ⟨F1,e1,s1⟩:=en.frz (aJ z++aJ y);obtain ⟨gt,g1,hf⟩:=obs hf;obtain ⟨vt,g2,hf⟩:=obs hf;obtain ⟨kt,g3,hf⟩:=obs hf;split at hf
 .rename_i hko;obtain ⟨s',g4,rfl⟩:=oms hf;refine DT gd fx hv hp hi (S.v gd h1) hV rfl I e1 g3 g4 (fun U' H' Q e2 hvw hor hQ=>?_) fun O' F' H' e' s'=>hw O' F' H' e' (s1.trans s');have hkn:¬ (kM kt).isSome=true:=fun z=>by
   cases kt with
   | tup _=>cases z
   | _=>cases hko
  rcases hor with h | ⟨qb,hsl,hor⟩
  .exact absurd h hkn
  have g5:∃ q m,tkO gt=some q/\(eF qb q).getD (.int 0)=.int m/\vt=.int (m+1):=by
   rcases hor with h | ⟨rfl,h⟩
   .rw [h] at g2;obtain ⟨q,hq,g2⟩:=obs (show ((tkO gt).bind fun q=>(match (eF qb q).getD (.int 0) with | .int n=>some (T.int (n+1)) | _=>none))=some vt from g2);split at g2
    .rename_i m hm;cases g2;exact ⟨q,m,hq,hm,rfl⟩
    .cases g2
   .rw [h] at g2;obtain ⟨q,hq,rfl⟩:=oms (show (tkO gt).map (fun _=>T.int 1)=some vt from g2);exact ⟨q,0,hq,rfl,rfl⟩
  obtain ⟨q,m,hq,hm,rfl⟩:=g5;obtain ⟨b,ob,a1,a2,a3,a4,ws,rfl,w1,w2⟩:=e2.ownG i _ hsl rfl;refine ⟨.ref b,a1,.inr (.inr (.inl ⟨rfl,.inr ⟨ws,a2⟩⟩)),_,F1,[gt,.int 0],e2.env fx.hN,by simp only [hvw,g1];rfl,fun vs F2 H2 st2 r2=>?_⟩;obtain ⟨v1,vr,rfl,r3,r4⟩:=r2;obtain ⟨v2,vr,rfl,r5,r6⟩:=r4;cases r6;cases r5;have e3:=e2.step st2;obtain ⟨b',ob',p1,p2,p3,p4,ws',rfl,w1',w2'⟩:=e3.ownG i _ hsl rfl;rw [a1] at p1;cases p1;cases gt with
  | tup xs =>
   obtain ⟨kb,us,rfl,k1,k2⟩:=r3;have ek:=lX k2 hq;subst ek;have hm':(cM ws' q).getD (.int 0)=.int m:=by
    rcases (cA.of w1' w2').val q with ⟨h1,h2⟩ | ⟨t,v,h1,h2,h3⟩
    .rw [h1] at hm;cases hm;rw [h2];rfl
    .rw [h1] at hm;cases (show t=.int m from hm);cases h3;rw [h2];rfl
   refine ⟨b,.ref kb,.int 0,cM ws' q,rfl,rfl,cB.t p2 (st2.fh _ _ k1),?_⟩;rw [hm'];exact ⟨m,1,rfl,rfl,hQ _ F2 H2 st2 rfl⟩
  | _=>cases hq
 .cases hf
end
end
section
open PySem W Spec PyProof.Rows L2
variable {Q:Vq} {qb:Kq}
section
variable {prog:Program} {w:World} {K:Type} [DecidableEq K] {knd:HeapKind prog w K} {A:Around} {E:Vq} {s:Shared}
theorem TH {d a:Addr} {xs:List (K × Addr × Value)} {k:K} {v:Value} (hu:knd.room A) (hkey:knd.is s.heap k a) (hm:s.heap.DictOfH knd d xs) (hsz:xs.length<=sizeLine)
  (h1:∀ p,atKey xs k=some p->Q p.2 { s with toks:=s.toks+knd.draws k })
  (h2:atKey xs k=none->∀ h',h'.DictOfH knd d (storedH xs k a v)->Heap.SameBut d s.heap h'->Q v { s with heap:=h',toks:=s.toks+knd.draws k }) :
  wpAny (model prog w) A (dictSetDefault d (.ref a) v) Q E s:=by
 obtain ⟨o,es,ep,ho,hc,hd,he,his,hn⟩:=hm;unfold dictSetDefault;refine fR (aA (knd.pyHash hu hkey ?_));refine aA (wpAny_dictFind_heap (s:={ s with toks:=s.toks+knd.draws k }) hu hkey ho hd he his hn ?_ ?_)
 .intro hno;have hnot:k∉xs.map (·.1):=not_mem_keys_of_get hno;refine aA (wpAny_rule (aA (wpAny_updateDictKeys (hz:=by have e:=size_of_entries he;lia) (s:={ s with toks:=s.toks+knd.draws k }) ho hd (aI (h2 (atKey_none_of_get hno) _ ⟨_,_,ep+1,Heap.get?_update_self _ ho (Obj.isFreed_of_dict (Obj.data_mapDictKeys hd _)),
   hc.mapDictKeys _,Obj.data_mapDictKeys hd _,?_,?_,?_⟩ (kF ..))))))
  .rw [storedH_new (atKey_none_of_get hno)];simp [he,entryOfKey]
  .rw [storedH_new (atKey_none_of_get hno)];intro x hx;rcases oma hx with hx | hx
   .exact knd.keeps (his x hx) ho hd (kF ..)
   .rw [nZ] at hx;subst hx;exact knd.keeps hkey ho hd (kF ..)
  .rw [storedH_new (atKey_none_of_get hno),eP,List.nodup_append];refine ⟨hn,by simp,fun x hx y hy=>?_⟩;rw [aS,List.map_nil,nZ] at hy;subst hy;exact fun e=>hnot (e▸hx)
 .intro j p hj;refine aA (mM (s:={ s with toks:=s.toks+knd.draws k }) ho hd ?_);rw [entry_at he j,hj];exact aA (wpAny_rule (aI (h1 p (atKey_of_get hn hj))))
end
section
variable {X:Cx}
theorem TJ (hu:X.A.units+1<cLine):MtR X "dict.setdefault" (fun x xs H Q=>∃ a b qb k d,x=.ref a/\xs=[.ref b,d]/\H a=some (.dT qb)/\H b=some (.tup (k.map kV))/\qb.length<sizeLine /\
  (∀ v,cM qb k=some v->Q v H)/\(cM qb k=none->Q d (aP H a (.dT (eG qb k d))))):=by
 intro pj s O H x xs v us Q I rx rs h;obtain ⟨a,b,qb,k,d,rfl,rfl,ha,hb,hl,q1,q2⟩:=h;cases rx;obtain ⟨u,w,rfl,r1,r2⟩:=rs.two;cases r1;obtain ⟨z,hd,xs,rel,dd⟩:=zQ I.hok ha;have hz:xs.length<=sizeLine:=by rw [<- Paired.length rel];exact z
 have hl':(eG qb k d).length<=sizeLine:=by have:=pK qb k d;lia
 have hty:s.TypeIs (.ref a) "dict":=dd.typeIs;refine fF PySem.F.slot_dict_setdefault hty PySem.F.entry_dict_setdefault ?_ (PySem.F.args_dict_setdefault_3 _ _ _);unfold Builtin.«dict.setdefault»;refine aA ?_;unfold Builtin.Dict.keyAndDefault;refine aA (wpAny_notOrdered_dict hty ?_);show wpAny _ _ (pure (a,Value.ref b,some w)) _ _ s;refine aI ?_;show wpAny _ _ (if (a==sysModules)=true then _ else (dictSetDefault a (.ref b) w >>= _)) _ _ s;rw [if_neg (by rw [hd];exact dI)];have rv:=rel.val k;refine aA (TH (tupleKind_room_in1 hu) (lW I.hok hb) dd hz (fun p hp=>aI ⟨_,rfl,?_⟩) fun hn h' dd' hs=>aI ⟨_,rfl,?_⟩)
 .rw [hp] at rv;cases hv:cM qb k with
  | none=>rw [hv] at rv;exact rv.elim
  | some v=>rw [hv] at rv;exact ⟨v,H,I.tok _,rv,q1 v hv⟩
 .rw [hn] at rv;cases hv:cM qb k with
  | some v=>rw [hv] at rv;exact rv.elim
  | none =>obtain ⟨q,es,ep,hq,h2,h3,h4,_,h5⟩:=dd';refine ⟨d,aP H a (.dT (eG qb k d)),oF I (by rw [ha];exact True.intro) hs ⟨q,hq⟩ (show aN X.prog X.w _ h' a (.dT (eG qb k d)) from ⟨hl',hd,_,(rel.put k hb r2).keeps fun c ys ec=>?_,q,es,ep,hq,h2,h3,h4,h5⟩),r2,q2 hv⟩;rw [aR (kJ ec ha (fun z=>nomatch z))];exact ec
end
section
variable {prog:Program} {w:World} {A:Around} {E:Vq} {s:Shared} {d j v:Addr} {en:Array DictEntry} {ep i:Nat}
theorem TK (hv:s.heap.IsValuesView v d) (r:dC s.heap d en ep)
  (q:Q (.ref s.heap.objs.size) { s with heap:=s.heap.push { cls:=.type "dict_valueiterator",data:=.fields #[.ref d,.int 0 0,.int en.size 0,.int ep 0] } }):wpAny (model prog w) A (pyIter (.ref v)) Q E s:=by
 obtain ⟨ov,hov,hcv,hdv⟩:=id hv;obtain ⟨o,a,b,c⟩:=id r;refine wpAny_pyIter_slot hv.typeIs PySem.F.slot_dict_values_iter (fF PySem.F.slot_dict_values_iter hv.typeIs PySem.F.entry_dict_values_iter ?_ (PySem.F.args_dict_values_iter_1 _));unfold Builtin.«dict_values.__iter__»;refine aA (aI (aA ?_));unfold Builtin.Dict_items.dictOf;refine aA (eM hov hdv (x:=.ref d) rfl (aI (aA ?_)));unfold Builtin.Dict_items.newIterator;refine aA (mM a c (aA (wpAny_dictEpoch a c ?_)));simp only [show Builtin.Dict_items.ownsTuple "dict_valueiterator"=false by decide,pB,if_false];refine iP (aI ⟨_,rfl, "dict_valueiterator",_,⟨_,cX _ rfl,rfl⟩,PySem.F.slot_dict_valueiterator_next.lookup,?_⟩);simpa [rawInt] using q
theorem TL {Q:Option Value->Shared->Prop} (t:s.heap.IsValIter j d i en.size ep) (r:dC s.heap d en ep) (hi:i<en.size)
  (q:∀ g,g.IsValIter j d (i+1) en.size ep->Heap.SameBut j s.heap g->Q (some en[i].val) { s with heap:=g }):wpAny (model prog w) A (pyNext (.ref j)) Q E s:=by
 obtain ⟨o,a,b,c⟩:=id t;obtain ⟨od,ad,bd,cd⟩:=id r;unfold pyNext;refine aA (lL (iO (name:=Str.ofString "__next__") t.typeIs PySem.F.slot_dict_valueiterator_next (fF PySem.F.slot_dict_valueiterator_next t.typeIs PySem.F.entry_dict_valueiterator_next ?_ (PySem.F.args_dict_valueiterator_next_1 _))));refine aA (aI (aA (aA ?_)))
 first | refine aA (qH t.typeIs (aI (aA (lJ a c ?_)))) | refine aA (wpAny_typeNameOf_valiter t.typeIs (aI (aA (lJ a c ?_))))
 simp only [show Builtin.Dict_items.ownsTuple "dict_valueiterator"=false by decide,pB,if_false];refine (show wpAny _ _ (if (Value.ref d==Value.none)=true then _ else _) _ _ s from ?_);rw [if_neg (show ¬ ((Value.ref d==Value.none)=true) from dI)];refine aA (aI (aA (mM ad cd ?_)));rw [if_neg (by simp)];refine aA (aI (aA (wpAny_dictEpoch ad cd ?_)));rw [if_neg (by simp)];refine aI ?_;simp only [show ¬ ((i:Int)<0) from by lia,if_false,Int.toNat_natCast,Array.getElem?_eq_getElem hi];refine aA ?_
 first | refine aA (qH t.typeIs (aI (aA (wpAny_isOneOf_valiter t.typeIs ?_)))) | refine aA (wpAny_typeNameOf_valiter t.typeIs (aI (aA (wpAny_isOneOf_valiter t.typeIs ?_))))
 refine (show wpAny _ _ (setField (.ref j) 1 (rawInt ((i:Int)+1)) >>= _) _ _ s from wpAny_bind (wpAny_setField a c (by simp) ?_));have t':(s.heap.update j (Obj.mapFields (·.setIfInBounds 1 (rawInt ((i:Int)+1))))).IsValIter j d (i+1) en.size ep :=
  ⟨_,Heap.get?_update_self _ a (Obj.isFreed_of_fields (nW c _)),(Obj.cls_mapFields ..).trans b,by rw [nW c];simp [rawInt]⟩
 refine aA (fR (aA (wpAny_isOneOf_valiter (s:={ s with heap:=s.heap.update j (Obj.mapFields (·.setIfInBounds 1 (rawInt ((i:Int)+1)))) }) t'.typeIs (aA (wpAny_isOneOf_valiter (s:={ s with heap:=s.heap.update j (Obj.mapFields (·.setIfInBounds 1 (rawInt ((i:Int)+1)))) }) t'.typeIs ?_)))));show wpAny _ _ (pure en[i].val) _ _ _;exact aI (aI ⟨_,rfl,aI (q _ t' (kF ..))⟩)
theorem TM {Q:Option Value->Shared->Prop} (hh:A.handled=none) (t:s.heap.IsValIter j d en.size en.size ep) (r:dC s.heap d en ep) (q:∀ g,Heap.ExtBut j s.heap g->Q none { s with heap:=g }):wpAny (model prog w) A (pyNext (.ref j)) Q E s:=by
 obtain ⟨o,a,b,c⟩:=id t;obtain ⟨od,ad,bd,cd⟩:=id r;unfold pyNext;refine aA (lL (iO (name:=Str.ofString "__next__") t.typeIs PySem.F.slot_dict_valueiterator_next (fF PySem.F.slot_dict_valueiterator_next t.typeIs PySem.F.entry_dict_valueiterator_next ?_ (PySem.F.args_dict_valueiterator_next_1 _))));refine aA (aI (aA (aA ?_)))
 first | refine aA (qH t.typeIs (aI (aA (lJ a c ?_)))) | refine aA (wpAny_typeNameOf_valiter t.typeIs (aI (aA (lJ a c ?_))))
 simp only [show Builtin.Dict_items.ownsTuple "dict_valueiterator"=false by decide,pB,if_false];refine (show wpAny _ _ (if (Value.ref d==Value.none)=true then _ else _) _ _ s from ?_);rw [if_neg (show ¬ ((Value.ref d==Value.none)=true) from dI)];refine aA (aI (aA (mM ad cd ?_)));rw [if_neg (by simp)];refine aA (aI (aA (wpAny_dictEpoch ad cd ?_)));rw [if_neg (by simp)];refine aI ?_;simp only [show ¬ ((en.size:Int)<0) from by lia,if_false,Int.toNat_natCast,Array.getElem?_eq_none (Nat.le_refl en.size)];refine aA ?_
 first | refine aA (qH t.typeIs (aI ?_)) | refine aA (wpAny_typeNameOf_valiter t.typeIs (aI ?_))
 refine (show wpAny _ _ (setField (.ref j) 0 .none >>= _) _ _ s from wpAny_bind (wpAny_setField a c (by simp) ?_));refine (show wpAny _ _ (newExc (.type "StopIteration") [] >>= _) _ _ _ from aA ?_);simp only [newExc,newTuple];refine aA (iP ?_ (by size_fits));refine wpAny_bind (m:=firstArgMember _ _) (wpAny_of_eq (a:=Value.none) (by first | rfl | (simp only [firstArgMember];rfl)) (wpAny_newObj_type ?_ (by size_fits)));simp only [raiseNew];refine aA (wpAny_handled ?_);rw [show A.in1.handled=none from hh];refine aA (aI (wpAny_throw ?_));exact aA (wpAny_isInstance (T:="StopIteration") (b:=true) ⟨_,cX _ rfl,rfl⟩ isSubtype_stop (aI (q _ (((kF ..).extBut.push _).push _))))
end
def Itv (ws:Kq) (a:Addr) (ob:Obj):It :=
 ⟨fun i H=>H a=some (.frz ob (.dT ws))/\i<ws.length,fun i H x H'=>H'=H/\(ws.map (·.2))[i]?=some x,fun i H=>H a=some (.frz ob (.dT ws))/\i=ws.length⟩
section
variable {P:Program} {w:World} {K:W.Frag} {H:Hp} {h:Heap} {a:Addr} {X:Cx} {tg:Expr}
theorem TN {xs:List (List Key × Addr × Value)} (r:KT H qb xs):∀ (i:Nat) (x:V),(qb.map (·.2))[i]?=some x->∃ q,xs[i]?=some q/\aC x q.2.2:=by
 induction r with
 | nil=>intro i x hx;cases i<;>cases hx
 | @cons p q ps qs h t ih =>
  intro i x hx;cases i with
  | zero=>cases hx;exact ⟨_,rfl,h.2.2⟩
  | succ i=>exact ih i x hx
theorem DU {ob:Obj} {en:Array DictEntry} {ep:Nat} (ok:aN P w H h a (.dT qb)) (e:h.get? a=some ob) (hd:ob.data=.dict en ep):dC h a en ep/\en.size=qb.length/\∀ (i:Nat) (x:V),(qb.map (·.2))[i]?=some x->∃ e',en[i]?=some e'/\aC x e'.val:=by obtain ⟨z,_,xs,rel,o,es,ep',ho,hc,hdt,he,_⟩:=ok;rw [e] at ho;cases ho;rw [hd] at hdt;cases hdt;refine ⟨⟨ob,e,hc,hd⟩,by rw [size_of_entries he,Paired.length rel],fun i x hx=>?_⟩;rw [entry_at he i];obtain ⟨q,h1,h2⟩:=TN rel i x hx;exact ⟨_,by rw [h1];rfl,h2⟩
theorem TQ {ws:Kq} {ob:Obj} {en:Array DictEntry} {ep:Nat} (a it:Addr) (hd:ob.data=.dict en ep):Turn P w K tg (Itv ws a ob) [it] it (fun i h=>h.IsValIter it a i en.size ep) where
 mem:=by simp
 obj:=fun i h st b hb=>by
  have e:b=it:=by simpa using hb
  subst e;obtain ⟨o,e,c,d⟩:=st;exact ⟨o,e,fun v z=>by rw [d] at z;cases z⟩
 keep:=fun i h h' st k=>let ⟨o,e,r⟩:=st;⟨o,k it (by simp) o e,r⟩
 item:=by
  intro X hP hw hK hc i pj s O H E I hf st hg;subst hP hw hK;obtain ⟨hH,hi⟩:=hg;obtain ⟨e,ok⟩:=(show aN X.prog X.w H s.heap a (.frz ob (.dT ws)) from I.hok a _ hH);obtain ⟨rwd,hz,hen⟩:=DU ok e hd;obtain ⟨f0,f1,f2,f3,f4,f5⟩:=hf it (by simp);have hx:(ws.map (·.2))[i]?=some ((ws.map (·.2))[i]'(by simpa using hi)):=List.getElem?_eq_getElem _;obtain ⟨e',h1,h2⟩:=hen i _ hx;have hlt:i<en.size:=by lia
  refine TL st rwd hlt fun h' st' sb=>?_;rw [nS hlt] at h1;cases h1;have I1:Inv X pj O H { s with heap:=h' }:=I.turned (t':=s.toks) (fun b o hb e=>(sb.2 b hb).trans e) f0 f1 f3 f4 f5;obtain ⟨o,e,c,d⟩:=id st';exact ⟨_,rfl,pD (s:={ s with heap:=h' }) e c d (by decide) ⟨_,H,I1,h2,⟨rfl,hx⟩,st',fun b hb=>(hf b hb).1⟩⟩
 done:=by intro X hP hw hK hc i pj s O H E I hf st hg;subst hP hw hK;obtain ⟨hH,hi⟩:=hg;obtain ⟨e,ok⟩:=(show aN X.prog X.w H s.heap a (.frz ob (.dT ws)) from I.hok a _ hH);obtain ⟨rwd,hz,hen⟩:=DU ok e hd;obtain ⟨f0,f1,f2,f3,f4,f5⟩:=hf it (by simp);rw [hi,<- hz] at st;exact TM (I.ok.hd hc) st rwd fun h' eb=>⟨rfl,I.turned (t':=s.toks) (fun b o hb e=>eb b o hb e) f0 f1 f3 f4 f5⟩
 self:=fun _ _ _ _ _ st h=>wpAny_pyIter_valiter st h
theorem TR {o:Expr} {apos cpos:Pos} {td:TE} (ho:PE X o td) (hbase:attributeBase o "values" X.env (eval o X.env)=eval o X.env) (hl:(apos.endLine==cpos.line)=true) :
  PI X tg (.Call (.Attribute o "values" apos) [] [] cpos) (fun O H R=>td O H fun x H1=>∃ a ws,x=.ref a/\H1 a=some (.dT ws)/\∀ ob,R (Itv ws a ob) (aP H1 a (.frz ob (.dT ws)))):=by
 intro pj s O H R I h;refine wpAny_Call_method hbase rfl hl PySem.F.plainAttrs_dict PySem.F.slot_dict_values PySem.F.type_dict_values (thn (ho pj s O H _ I h) fun u s1 ⟨x,H1,I1,rx,a,ws,ex,d,q1⟩=>?_);subst ex;obtain rfl:u=Value.ref a:=rx;obtain ⟨t1,t2,_⟩:=zR I1 (.inr ⟨ws,.inl d⟩);refine ⟨t1,t2,?_⟩;refine Calls.callWith_builtin rfl (PyProof.Rows.evalArgs_empty ?_);have ok:=(show aN X.prog X.w H1 s1.heap a (.dT ws) from I1.hok a _ d);obtain ⟨z,hd,xs,rel,ob,es,ep,hob,hc,hdt,he,hn⟩:=id ok;refine fF PySem.F.slot_dict_values t1 PySem.F.entry_dict_values ?_ (PySem.F.args_dict_values_1 _);unfold Builtin.«dict.values»;refine aA ?_;unfold Builtin.Dict.noArgs;refine aA (wpAny_notOrdered_dict t1 ?_);show wpAny _ _ (pure a) _ _ s1;refine aI ?_;show wpAny _ _ (Builtin.Dict.showsAll a >>= _) _ _ s1;unfold Builtin.Dict.showsAll;rw [if_neg (by rw [hd];exact dI)];refine aA (aI (aA (iP (aI ⟨_,rfl,?_⟩))));have hob1:(s1.heap.push { cls:=.type "dict_values",data:=.fields #[.ref a] }).get? a=some ob:=aU _ hob;refine TK (en:=es) (ep:=ep) ⟨_,cX _ rfl,rfl,rfl⟩ ⟨ob,hob1,hc,hdt⟩ ?_;have I2:Inv X pj O (aP H1 a (.frz ob (.dT ws))) s1:=by
  refine oF (t':=s1.toks) (h':=s1.heap) I1 (by rw [d];exact True.intro) (Heap.SameBut.refl _ _) ⟨ob,hob⟩ (show aN X.prog X.w _ _ _ (.frz ob (.dT ws)) from ⟨hob,ok.stay (fun _ _ _ e=>e) (fun b e=>?_) fun b ys e=>?_⟩)
  .rw [aR (kJ e d (fun z=>nomatch z))];exact e
  .rw [aR (kJ e d (fun z=>nomatch z))];exact e
 have I3:=(I2.kept (t':=s1.toks) (h':=s1.heap.push { cls:=.type "dict_values",data:=.fields #[.ref a] }) fun b o e=>aU _ e);refine ⟨_,[_],_,_,_,rfl,I3.kept (t':=s1.toks) fun b o e=>aU _ e,TQ a _ hdt,⟨_,cX _ rfl,rfl,rfl⟩,fun b hb=>?_,q1 ob⟩;rw [omg hb];exact I3.fpOk (aV _) (I3.hok.fresh (aV _))
end
end
section
variable {p1 pos:Pos} {x:Str}
section
variable {K:W.Frag} {F H:Hp} {q:List Kt} {b:Addr} {y:T} {v:V} {vs:List V}
theorem bM.at:∀ {qb:Qq} {ws:Kq} {i:Nat} {p:List Kt × List T},bM K F H qb ws->qb[i]?=some p->∃ w b vs,ws[i]?=some w/\w.2=.ref b/\H b=some (.lst vs)/\aF K F p.2 vs
 | _,_,i,_,.nil,h=>by cases i<;>cases h
 | _,_,0,_,.cons r t,h=>by cases h;obtain ⟨_,b,vs,h1,h2,h3⟩:=r;exact ⟨_,b,vs,rfl,h1,h2,h3⟩
 | _,_,i+1,_,.cons r t,h=>bM.at (i:=i) t h
theorem bM.any {qb:Qq} {ws:Kq} (r:bM K F H qb ws) (k:List Kt):(ws.any fun kv=>decide (kv.1=k))=qb.any fun kv=>decide (kv.1=k):=by
 induction r with
 | nil=>rfl
 | cons h t ih=>rw [gJ,gJ,ih,h.1]
theorem bM.val {qb:Qq} {ws:Kq} (r:bM K F H qb ws) (h:cM ws q=some v):v∈ws.map (·.2)/\∃ p b vs,p∈qb/\v=.ref b/\H b=some (.lst vs)/\aF K F p.2 vs:=by
 induction r with
 | nil=>cases h
 | @cons p w ps ws' r t ih =>
  by_cases e:w.1=q
  .rw [iR e] at h;cases h;obtain ⟨_,b,vs,h1,h2,h3⟩:=r;exact ⟨cW,p,b,vs,cW,h1,h2,h3⟩
  .rw [iS e] at h;obtain ⟨h1,p',b,vs,h2,h3⟩:=ih h;exact ⟨cL _ h1,p',b,vs,cL _ h2,h3⟩
theorem bM.skip:∀ {qb:Qq} {ws:Kq},bM K F H qb ws->q∉ws.map (·.1)->V.ref b∉ws.map (·.2)->bM K F (aP H b (.lst vs)) (apP qb q y) ws
 | _,_,.nil,_,_=>.nil
 | _,_,.cons (a:=p) (b:=w) r t,h1,h2=>by obtain ⟨e,b',vs',g1,g2,g3⟩:=r;rw [aS,oX,not_or] at h1 h2;unfold apP;rw [aS,if_neg fun z=>h1.1 (z.symm.trans e.symm)];refine .cons ⟨e,b',vs',g1,?_,g3⟩ (bM.skip t h1.2 h2.2);rw [aR fun z=>h2.1 (by rw [g1,z])];exact g2
theorem bM.app:∀ {qb:Qq} {ws:Kq},bM K F H qb ws->(ws.map (·.1)).Nodup->(ws.map (·.2)).Nodup->cM ws q=some (.ref b)->H b=some (.lst vs)->Rep K F y v->bM K F (aP H b (.lst (vs++[v]))) (apP qb q y) ws
 | _,_,.nil,_,_,h,_,_=>by cases h
 | _,_,.cons (a:=p) (b:=w) r t,n1,n2,h,hb,ry=>by
  obtain ⟨e,b',vs',g1,g2,g3⟩:=r;rw [aS,cK] at n1 n2;by_cases ew:w.1=q
  .rw [iR ew] at h;have hw:=dE h;rw [g1] at hw;cases hw;rw [hb] at g2;cases g2;unfold apP;rw [aS,if_pos (e.symm.trans ew)];refine .cons ⟨e,b,_,g1,cC,g3.app (.cons ry rfl)⟩ (bM.skip t (by rw [<- ew];exact n1.1) (by rw [<- g1];exact n2.1))
  .rw [iS ew] at h;have hm:=(bM.val t h).1;unfold apP;rw [aS,if_neg fun z=>ew (e.trans z)];refine .cons ⟨e,b',vs',g1,?_,g3⟩ (bM.app t n1.2 n2.2 h hb ry);rw [aR fun z=>n2.1 (by rw [g1,z];exact hm)];exact g2
end
section
variable {X:Cx} {c:Tc} {F0 H0:Hp} {U:List Sl} {O:L2.St} {F H H':Hp} {i:Nat} {qb kvs':Qq} {a:Addr} {ws ws':Kq}
theorem EnvS.dlSet (e:EnvS X F0 H0 U O F H) (hone:∀ (j:Nat) (s:Sl),U[j]?=some s->s.isDl=true->j=i) (hst:SameT H0 H') (hF:Same F H')
  (hown:∀ (j:Nat) (s:Sl) (b:Addr),j≠i->U[j]?=some s->s.isOwn=true->O[j]?=some (some (.ref b))->H' b=H b) (d':DlAt X.K F H' H0 (U.set i (.dl kvs')) O i kvs' a ws'):EnvS X F0 H0 (U.set i (.dl kvs')) O F H':=by
 refine ⟨⟨hst,e.st.ff,hF,e.st.nw⟩,e.t0,by rw [iD];exact e.len,fun j u h=>?_,fun j u h hu=>?_,fun j l u w b hjl hj hl hu hw=>?_,fun j kk h=>?_⟩
 .rcases bS h with ⟨_,q⟩ | ⟨hj,q⟩
  .cases q
  .exact e.val j u q
 .rcases bS h with ⟨_,q⟩ | ⟨hj,q⟩
  .subst q;cases hu
  .obtain ⟨b,o,q1,q2,q3⟩:=e.ownG j u q hu;exact ⟨b,o,q1,(hown j u b hj q hu q1).trans q2,q3⟩
 .rcases bS hj with ⟨_,q⟩ | ⟨_,q⟩
  .subst q;cases hu
  .rcases bS hl with ⟨_,q'⟩ | ⟨_,q'⟩
   .subst q';cases hw
   .exact e.disG j l u w b hjl q q' hu hw
 .rcases bS h with ⟨rfl,q⟩ | ⟨hj,q⟩
  .cases q;exact ⟨a,ws',d'⟩
  .exact absurd (hone j _ q rfl) hj
theorem vK (hone:∀ (j:Nat) (s:Sl),U[j]?=some s->s.isDl=true->j=i):∀ (j:Nat) (s:Sl),(U.set i (.dl kvs'))[j]?=some s->s.isDl=true->j=i:=fun j s h hs=>by
 rcases bS h with ⟨q,_⟩ | ⟨_,q⟩
 .exact q
 .exact hone j s q hs
theorem EnvS.toDl (e:EnvS X F0 H0 U O F H) (h:U[i]?=some (.dt [])) (hone:∀ (j:Nat) (s:Sl),U[j]?=some s->s.isDl=true->j=i):EnvS X F0 H0 (U.set i (.dl [])) O F H:=by
 obtain ⟨b,o,q1,q2,q3,q4,ws,rfl,w1,w2⟩:=e.ownG i _ h rfl;have hws:ws=[]:=by cases ws with | nil=>rfl | cons _ _=>simp at w1
 subst hws;refine e.dlSet (a:=b) (ws':=[]) hone e.st.hh e.st.fh (fun _ _ _ _ _ _ _=>rfl) ⟨q1,q2,.nil,by simp [fI],gK,fun c hc=>?_,vK hone⟩;rw [fI,List.map_nil,nZ] at hc;cases hc;refine ⟨q3,q4,fun j s hj hs z=>?_⟩;rcases bS hj with ⟨_,q⟩ | ⟨hji,q⟩
 .subst q;cases hs
 .exact e.disG j i s _ b hji q h hs rfl z q1
theorem TU {ws:Kq} {k:List Key} {v:V} (h:cM ws k=none):eG ws k v=ws++[(k,v)]:=by unfold eG;rw [if_neg (by rw [mY,h];exact dI)]
theorem EnvS.dlNew (e:EnvS X F0 H0 U O F H) (h:U[i]?=some (.dl qb)) (d:DlAt X.K F H H0 U O i qb a ws) {q:List Kt} {p:Addr} (hp:H p=none) (hv:cM ws q=none) :
  EnvS X F0 H0 (U.set i (.dl (qb++[(q,[])]))) O F (aP (aP H p (.lst [])) a (.dT (ws++[(q,.ref p)])))/\DlAt X.K F (aP (aP H p (.lst [])) a (.dT (ws++[(q,.ref p)]))) H0 (U.set i (.dl (qb++[(q,[])]))) O i (qb++[(q,[])]) a (ws++[(q,.ref p)]):=by
 have hap:a≠p:=cS d.obj hp;have hfa:=d.fr a cW;have hbp:∀ b,V.ref b∈fI a ws->b≠p:=fun b hb=>let ⟨o,h1,_⟩:=d.some' hb;cS h1 hp
 have hba:∀ b,V.ref b∈ws.map (·.2)->b≠a:=fun b hb z=>by subst z;exact (cK.mp d.nd).1 hb
 have hown:∀ (j:Nat) (s:Sl) (b:Addr),U[j]?=some s->s.isOwn=true->O[j]?=some (some (.ref b))->b≠p/\b≠a:=fun j s b hj hs hb=>by obtain ⟨b',o,g1,g2,_⟩:=e.ownG j s hj hs;rw [hb] at g1;cases g1;exact ⟨cS g2 hp,fun z=>by subst z;exact hfa.2.2 j s hj hs hb⟩
 have d':DlAt X.K F (aP (aP H p (.lst [])) a (.dT (ws++[(q,.ref p)]))) H0 (U.set i (.dl (qb++[(q,[])]))) O i (qb++[(q,[])]) a (ws++[(q,.ref p)]):=by
  have fe:fI a (ws++[(q,.ref p)])=fI a ws++[V.ref p]:=by simp [fI]
  refine ⟨d.ix,cC,Paired.snoc (d.rep.up (Same.refl F) fun b hb=>by rw [aR (hba b hb),aR (hbp b (cL _ hb))]) ⟨rfl,p,[],rfl,by rw [aR (Ne.symm hap),cC],rfl⟩,?_,?_,fun b hb=>?_,vK d.one⟩
  .rw [fe,List.nodup_append];refine ⟨d.nd,by simp,fun u hu w hw=>?_⟩;rw [omg hw];intro z;subst z;exact hbp p hu rfl
  .rw [eP,List.nodup_append];refine ⟨d.kn,by simp,fun u hu w hw=>?_⟩;rw [aS,List.map_nil,nZ] at hw;rw [hw];intro z;subst z;exact MP hv hu
  .rw [fe] at hb;have own':∀ {b:Addr},(∀ (j:Nat) (s:Sl),U[j]?=some s->s.isOwn=true->O[j]?≠some (some (.ref b)))->∀ (j:Nat) (s:Sl),(U.set i (.dl (qb++[(q,[])])))[j]?=some s->s.isOwn=true->O[j]?≠some (some (.ref b)):=fun hh j s hj hs=>by
    rcases bS hj with ⟨_,z⟩ | ⟨_,z⟩
    .subst z;cases hs
    .exact hh j s z hs
   rcases oma hb with hb | hb
   .obtain ⟨g1,g2,g3⟩:=d.fr b hb;exact ⟨g1,g2,own' g3⟩
   .rw [nZ] at hb;cases hb;exact ⟨e.st.fh.free hp,e.st.hh.free hp,own' fun j s hj hs z=>(hown j s p hj hs z).1 rfl⟩
 refine ⟨e.dlSet d.one ((e.st.hh.trans (rB (gU hp))).aP hfa.2.1 (o1:=.dT ws) (by rw [aR hap];exact d.obj) rfl fun _ _ z=>nomatch z) (fun b u z=>?_) (fun j s b _ hj hs hb=>?_) d',d'⟩
 .rw [aR (cS z hfa.1),aR (cS (e.st.fh b u z) hp)];exact e.st.fh b u z
 .obtain ⟨g1,g2⟩:=hown j s b hj hs hb;rw [aR g2,aR g1]
theorem EnvS.dlApp (e:EnvS X F0 H0 U O F H) (h:U[i]?=some (.dl qb)) (d:DlAt X.K F H H0 U O i qb a ws) {q:List Kt} {b:Addr} {vs:List V} {y:T} {v:V} (hv:cM ws q=some (.ref b)) (hb:H b=some (.lst vs)) (r:Rep X.K F y v) :
  EnvS X F0 H0 (U.set i (.dl (apP qb q y))) O F (aP H b (.lst (vs++[v]))):=by
 have hbw:=(d.rep.val hv).1;have hbf:V.ref b∈fI a ws:=cL _ hbw;obtain ⟨g1,g2,g3⟩:=d.fr b hbf;have hab:a≠b:=kJ d.obj hb fun z=>nomatch z;refine e.dlSet (a:=a) (ws':=ws) d.one (e.st.hh.aP g2 hb rfl fun _ _ z=>nomatch z) (fun c u z=>by rw [aR (cS z g1)];exact e.st.fh c u z) (fun j s c _ hj hs hc=>aR fun z=>by subst z;exact g3 j s hj hs hc)
  ⟨d.ix,by rw [aR hab];exact d.obj,d.rep.app d.kn (cK.mp d.nd).2 hv hb r,d.nd,d.kn,fun c hc=>⟨(d.fr c hc).1,(d.fr c hc).2.1,fun j s hj hs=>?_⟩,vK d.one⟩
 rcases bS hj with ⟨_,z⟩ | ⟨_,z⟩
 .subst z;cases hs
 .exact (d.fr c hc).2.2 j s z hs
end
section
variable {X:Cx} {c:Tc} {G:Glo} {k n:Nat} {F0 H0:Hp}
theorem DV {ke ve:Expr} {ap1 cp1 ap2 cp2 lp:Pos} {i:Nat} {fk fv:Env->Option T} (gd:Gd X c G k) (fx:Fx X c) (hv:dG c.sc x=true) (hp:bZ x=true) (hi:bY c.nm x=some i) (hk:Oke X c ke fk) (hve:Oke X c ve fv)
  (hs1:starEach [ke,.List [] lp] X.env=(false,eval ke X.env)::starEach [.List [] lp] X.env) (hs2:starEach [ve] X.env=[(false,eval ve X.env)]) (hl1:(ap1.endLine==cp1.line)=true) (hl2:(ap2.endLine==cp2.line)=true)
  {pj:Pq} {s:Shared} {O:L2.St} {H:Hp} {D:Ends} (I:L2.Inv X pj O H s) {U:List Sl} {F:Hp} (e1:EnvS X F0 H0 U O F H) {qb:Qq} (hsl:U[i]?=some (.dl qb)) (hz:qb.length<SZ) {kt y:T} {q:List Kt} (h1:fk (aB U)=some kt) (hq:tkO kt=some q) (h2:fv (aB U)=some y)
  (hz2:((sdP qb q).all fun p=>decide (p.2.length<SZ))=true)
  (hw:∀ O' F' H',EnvS X F0 H0 (U.set i (.dl (apP (sdP qb q) q y))) O' F' H'->Same F F'->D.nx O' H') :
  wpAny (model X.prog X.w) X.A (exec (.Expr (.Call (.Attribute (.Call (.Attribute (.Name x p1) "setdefault" ap1) [ke,.List [] lp] [] cp1) "append" ap2) [ve] [] cp2) pos) X.env) (SP X pj D) X.xe s:=by
 have hu:X.A.units+1<cLine:=by have:=gd.hu;lia
 have hN:X.N[i]?=some x:=by rw [fx.hN];exact jI hi
 have hA:=tL hk (tL (yL (pos:=lp) (tK (X:=X))) tK) hs1;have hG:=oB (cpos:=cp1) (apos:=ap1) PySem.F.plainAttrs_dict PySem.F.slot_dict_setdefault PySem.F.type_dict_setdefault (TJ hu) (lO (pos:=p1) hN (gd.vis x hv) (gW hp).1 (gW hp).2) hA rfl (by rw [hs1];rfl) hl1 hs1 rfl;have P:=tE (pos:=pos) (oB (cpos:=cp2) (apos:=ap2) PySem.F.plainAttrs_list PySem.F.slot_list_append PySem.F.type_list_append tO hG (jY hve hs2) rfl (by rw [hs2];rfl) hl2 hs2 rfl) rfl;refine P pj s O H D I ?_;obtain ⟨a,ws,d⟩:=e1.dl i qb hsl;refine ⟨.ref a,d.ix,.inr (.inr (.inl ⟨rfl,.inr ⟨ws,d.obj⟩⟩)),aB U,F,kt,e1.env fx.hN,h1,fun kv F2 H2 st2 rk=>⟨eK _,fun p hpn=>?_⟩⟩;have e2:=e1.step st2;obtain ⟨a2,ws2,d2⟩:=e2.dl i qb hsl;have ea:a2=a:=by have:=d2.ix;rw [d.ix] at this;cases this;rfl
 subst ea;have last:∀ (U3:List Sl) (kvs3:Qq) (ws3:Kq) (H3:Hp) (b:V),EnvS X F0 H0 U3 O F2 H3->U3[i]?=some (.dl kvs3)->kvs3=sdP qb q->aB U3=aB U->DlAt X.K F2 H3 H0 U3 O i kvs3 a2 ws3->cM ws3 q=some b->U3.set i (.dl (apP kvs3 q y))=U.set i (.dl (apP (sdP qb q) q y)) ->
   tyV X.K "list" b H3/\spL X c (fun r=>(fv r).bind fun x=>some [x]) O H3 fun xs H4=>yZ b xs H4 fun _ H'=>D.nx O H':=fun U3 kvs3 ws3 H3 b e3 hs3 ek hvw d3 hb hset=>by
  obtain ⟨hm,p',b',vs,hmem,rfl,hl,hr⟩:=d3.rep.val hb;refine ⟨.inl ⟨rfl,_,SqL.of hl⟩,aB U3,F2,[y],e3.env fx.hN,by rw [hvw];exact fA.mpr ⟨y,h2,rfl⟩,fun us F4 H4 st4 r4=>?_⟩;obtain ⟨v,r',rfl,r1,r2⟩:=r4;cases r2;have e4:=e3.step st4;obtain ⟨a4,ws4,d4⟩:=e4.dl i kvs3 hs3;have ea:a4=a2:=by have:=d4.ix;rw [d3.ix] at this;cases this;rfl
  subst ea;have ew:ws4=ws3:=by have:=d4.obj;rw [st4.hh.st _ _ d3.obj rfl] at this;cases this;rfl
  subst ew;have hl4:H4 b'=some (.lst vs):=st4.hh.st _ _ hl rfl;have hlen:vs.length<sizeLine:=by rw [hr.length,<- jX];subst ek;exact iF (oml hz2 p' hmem)
  refine ⟨b',vs,v,rfl,rfl,hl4,hlen,hw O F4 _ ?_ (st2.ff.trans st4.ff)⟩;rw [<- hset];exact e4.dlApp hs3 d4 hb hl4 r1
 cases kt with
 | tup xs =>
  obtain ⟨kb,us,rfl,g1,g2⟩:=rk;have ek:=lX g2 hq;subst ek;have hkb:aP H2 p (.lst []) kb=some (.tup (q.map kV)):=by rw [aR (cS (st2.fh _ _ g1) hpn)];exact st2.fh _ _ g1
  have hda:aP H2 p (.lst []) a2=some (.dT ws2):=by rw [aR (cS d2.obj hpn)];exact d2.obj
  have hlen:ws2.length<sizeLine:=by rw [<- Paired.length d2.rep,<- jX];exact hz
  refine ⟨a2,kb,ws2,q,.ref p,rfl,rfl,hda,hkb,hlen,fun v hv=>?_,fun hn=>?_⟩
  .have e3:=e2.step ((Step.refl e2.st.fh).newH (o:=.lst []) hpn);obtain ⟨a3,ws3,d3⟩:=e3.dl i qb hsl;have ea:a3=a2:=by have:=d3.ix;rw [d2.ix] at this;cases this;rfl
   subst ea;have ew:ws3=ws2:=by have:=d3.obj;rw [hda] at this;cases this;rfl
   subst ew;have hany:(qb.any fun p=>decide (p.1=q))=true:=by rw [<- d2.rep.any,mY,hv];rfl
   have es:qb=sdP qb q:=by unfold sdP;rw [if_pos hany]
   exact last U qb ws3 _ v e3 hsl es rfl d3 hv (by rw [<- es])
  .have hany:¬ (qb.any fun p=>decide (p.1=q))=true:=by rw [<- d2.rep.any,mY,hn];exact dI
   have es:qb++[(q,[])]=sdP qb q:=by unfold sdP;rw [if_neg hany]
   rw [TU hn];obtain ⟨e3,d3⟩:=e2.dlNew hsl d2 hpn hn;have hlt:=(ome hsl).1;exact last _ _ _ _ _ e3 (iC hlt) es (vI hsl rfl) d3 (by rw [zN _ _ _ _ hn,if_pos rfl]) (by rw [List.set_set,es])
 | _=>cases hq
theorem DW {pj:Pq} {s:Shared} {O:L2.St} {H F:Hp} {U:List Sl} {i:Nat} {qb:List (Kt × T)} (I:L2.Inv X pj O H s) (e1:EnvS X F0 H0 U O F H) (hsl:U[i]?=some (.dk qb)) (hc:(qb.isEmpty&&!U.any Sl.isDl)=true) :
  ∃ H',L2.Inv X pj O H' s/\EnvS X F0 H0 (U.set i (.dl [])) O F H':=by
 rw [bU] at hc;cases qb with
 | cons _ _=>cases hc.1
 | nil =>
  obtain ⟨b,ob,q1,q2,q3,q4,ws,rfl,w1,w2⟩:=e1.ownG i _ hsl rfl;have hws:ws=[]:=by cases ws with | nil=>rfl | cons _ _=>simp at w1
  subst hws;have I1:=vJ I q2;have e2:=e1.growG (s':=.dt []) (o:=.dT []) hsl rfl q1 q3 q4 ⟨[],rfl,rfl,rfl⟩;have hlt:=(ome hsl).1;have hone:∀ (j:Nat) (s:Sl),(U.set i (.dt []))[j]?=some s->s.isDl=true->j=i:=fun j s hj hs=>by
   rcases bS hj with ⟨q,_⟩ | ⟨_,q⟩
   .exact q
   .have h:=hc.2;rw [Bool.not_eq_true',List.any_eq_false] at h;exact absurd hs (h s (fT q))
  have e3:=e2.toDl (iC hlt) hone;rw [List.set_set] at e3;exact ⟨_,I1,e3⟩
theorem TV (gd:Gd X c G k) (fx:Fx X c) {ke ve:Expr} {y z:E} {ap1 cp1 ap2 cp2 lp:Pos} {i:Nat} (hv:dG c.sc x=true) (hp:bZ x=true) (hi:bY c.nm x=some i) (h1:trV n c ke=some y) (h2:trV n c ve=some z) (hl1:(ap1.endLine==cp1.line)=true) (hl2:(ap2.endLine==cp2.line)=true) :
  PS X (.Expr (.Call (.Attribute (.Call (.Attribute (.Name x p1) "setdefault" ap1) [ke,.List [] lp] [] cp1) "append" ap2) [ve] [] cp2) pos) (spS X F0 H0 (evS G (.dapp i y z))):=by
 have S:=kA G k n;intro pj s O H D I q;obtain ⟨U,F,o,en,hf,hw⟩:=q;rw [evS] at hf;obtain ⟨F1,e1,s1⟩:=en.frz (aJ y++aJ z);obtain ⟨kt,g1,hf⟩:=obs hf;obtain ⟨q,hq,hf⟩:=obs hf;obtain ⟨kvs3,hsd,hf⟩:=obs hf;obtain ⟨vt,g2,hf⟩:=obs hf;split at hf
 .rename_i hz2;cases hf;have hs1:=kU h1 [.List [] lp] X.env;have hs2:=iT h2 X.env;unfold sdS at hsd;split at hsd
  .rename_i qb hsl;split at hsd
   .rename_i hc;cases hsd;obtain ⟨H1,I1,e3⟩:=DW I e1 hsl hc;have hlt:=(ome hsl).1;have hvw:aB ((aQ (aJ y++aJ z) U).set i (.dl []))=aB (aQ (aJ y++aJ z) U):=vI hsl rfl;refine DV (qb:=[]) gd fx hv hp hi (S.v gd h1) (S.v gd h2) hs1 hs2 hl1 hl2 I1 e3 (iC hlt) (by decide) (by rw [hvw];exact g1) hq (by rw [hvw];exact g2) hz2 fun O' F' H' e' s'=>?_;rw [List.set_set] at e';exact hw O' F' H' e' (s1.trans s')
   .cases hsd
  .rename_i qb hsl;split at hsd
   .rename_i hz;cases hsd;exact DV gd fx hv hp hi (S.v gd h1) (S.v gd h2) hs1 hs2 hl1 hl2 I e1 hsl hz g1 hq g2 hz2 fun O' F' H' e' s'=>hw O' F' H' e' (s1.trans s')
   .cases hsd
  .cases hsd
 .cases hf
open Classical in
theorem TW (gd:Gd X c G k) (fx:Fx X c) {tg:Expr} {body:List Stmt} {xs:List Str} {is:List Nat} {b:List S} {i:Nat} {apos cpos:Pos} (h1:iQ tg=some xs) (htp:eA tg=false) (hat:Ats X xs is) (hv:dG c.sc x=true) (hp:bZ x=true) (hi:bY c.nm x=some i) (hl:(apos.endLine==cpos.line)=true)
  (hb:PSs X body (spS X F0 H0 (aE G b))):PS X (.For tg (.Call (.Attribute (.Name x p1) "values" apos) [] [] cpos) body [] pos) (spS X F0 H0 (evS G (.vloop is i b))):=by
 have hN:X.N[i]?=some x:=by rw [fx.hN];exact jI hi
 have P:=tG (pos:=pos) (by rw [fx.xe];exact PassesOwn.never) gd.calm (TR (tg:=tg) (apos:=apos) (cpos:=cpos) (lO (pos:=p1) hN (gd.vis x hv) (gW hp).1 (gW hp).2) rfl hl) (rV gd.nd gd.calm h1 hat) hb (fun _=>rfl);intro pj s O H D I q;obtain ⟨U,F,o,en,hf,hw⟩:=q;have core:∀ (H:Hp) (U:List Sl) (qb:Qq),L2.Inv X pj O H s->EnvS X F0 H0 U O F H->U[i]?=some (.dl qb)->cP (fun x U=>(bD is x U).bind fun U'=>aE G b U') (qb.map fun p=>T.lst p.2) (U.set i .no)=some o ->
   wpAny (model X.prog X.w) X.A (exec (.For tg (.Call (.Attribute (.Name x p1) "values" apos) [] [] cpos) body [] pos) X.env) (SP X pj D) X.xe s:=fun H U qb I en hsl hf=>by
  refine P pj s O H D I ?_;obtain ⟨a,ws,d⟩:=en.dl i qb hsl;refine ⟨.ref a,d.ix,a,ws,rfl,d.obj,fun ob=>?_⟩;have hfa:=d.fr a cW;have hva:V.ref a∉ws.map (·.2):=(cK.mp d.nd).1
  let F2:Hp:=fun c=>if c=a then some (.frz ob (.dT ws)) else if V.ref c∈ws.map (·.2) then H c else F c
  have fa:F2 a=some (.frz ob (.dT ws)):=if_pos rfl;have fv:∀ c,V.ref c∈ws.map (·.2)->F2 c=H c:=fun c hc=>by show (if c=a then _ else if V.ref c∈ws.map (·.2) then _ else _)=_;rw [if_neg (fun z=>by subst z;exact hva hc),if_pos hc]
  have fo:∀ c,V.ref c∉fI a ws->F2 c=F c:=fun c hc=>by show (if c=a then _ else if V.ref c∈ws.map (·.2) then _ else _)=_;rw [if_neg (fun z=>hc (by rw [z];exact cW)),if_neg fun z=>hc (cL _ z)]
  have sF:Same F F2:=fun c u h=>by rw [fo c fun z=>by rw [(d.fr c z).1] at h;cases h];exact h
  have cas:∀ c,c=a\/V.ref c∈ws.map (·.2)\/V.ref c∉fI a ws:=fun c=>by
   by_cases h1:c=a
   .exact .inl h1
   .by_cases h2:V.ref c∈ws.map (·.2)
    .exact .inr (.inl h2)
    .refine .inr (.inr fun z=>?_);rcases omc z with z | z
     .cases z;exact h1 rfl
     .exact h2 z
  have e2:EnvS X F0 H0 (U.set i .no) O F2 (aP H a (.frz ob (.dT ws))):=by
   refine ⟨⟨en.st.hh.aP hfa.2.1 d.obj rfl (fun _ _ z=>nomatch z),en.st.ff.trans sF,fun c u h=>?_,fun c h=>?_⟩,en.t0,by rw [iD];exact en.len,fun j u h=>?_,fun j u h hu=>?_,fun j l u w b hjl hj hl hu hw=>?_,fun j kk h=>?_⟩
   .rcases cas c with z | z | z
    .subst z;rw [fa] at h;cases h;exact cC
    .rw [fv c z] at h;rw [aR fun y=>by subst y;exact hva z];exact h
    .rw [fo c z] at h;rw [aR fun y=>by subst y;exact z cW];exact en.st.fh c u h
   .rcases cas c with z | z | z
    .subst z;exact .inr (.inl hfa.2.1)
    .exact .inr (.inl (d.fr c (cL _ z)).2.1)
    .rw [fo c z] at h;exact en.st.nw c h
   .rcases bS h with ⟨_,q⟩ | ⟨hj,q⟩
    .cases q
    .obtain ⟨w,q1,q2⟩:=en.val j u q;exact ⟨w,q1,q2.mono sF⟩
   .rcases bS h with ⟨_,q⟩ | ⟨hj,q⟩
    .subst q;cases hu
    .obtain ⟨b,o,q1,q2,q3,q4,q5⟩:=en.ownG j u q hu;have hn:V.ref b∉fI a ws:=fun z=>(d.fr b z).2.2 j u q hu q1;exact ⟨b,o,q1,by rw [aR fun y=>by subst y;exact hn cW];exact q2,by rw [fo b hn];exact q3,q4,q5.mono sF⟩
   .rcases bS hj with ⟨_,q⟩ | ⟨_,q⟩
    .subst q;cases hu
    .rcases bS hl with ⟨_,q'⟩ | ⟨_,q'⟩
     .subst q';cases hw
     .exact en.disG j l u w b hjl q q' hu hw
   .rcases bS h with ⟨_,q⟩ | ⟨hj,q⟩
    .cases q
    .exact absurd (d.one j _ q rfl) hj
  have hlen:ws.length=qb.length:=(Paired.length d.rep).symm;have wk:Walk X.K (Itv ws a ob) (qb.map fun p=>T.lst p.2) F2:={
   go:=fun j H' hj sm=>⟨sm _ _ fa,by rw [hlen];simpa using hj⟩
   yld:=fun j H' v H5 F' t ht sF' fh y=>by obtain ⟨rfl,y⟩:=y;refine ⟨F',Step.refl fh,?_⟩;rw [fL] at ht;obtain ⟨p,hp,rfl⟩:=oms ht;obtain ⟨w,c,vs,h1,h2,h3,h4⟩:=d.rep.at hp;rw [fL,h1] at y;cases y;have hm:V.ref c∈ws.map (·.2):=cO.mpr ⟨w,fT h1,h2⟩;exact ⟨c,vs,h2,Ls.of (sF' _ _ ((fv c hm).trans h3)),(h4.mono sF).mono sF'⟩
   stop:=fun H' sm=>⟨sm _ _ fa,by rw [hlen];simp⟩ }
  exact vH fx h1 (fun z=>by rw [htp] at z;cases z) hat e2 wk hf (hw.up sF)
 rw [evS] at hf;split at hf
 .rename_i qb hsl;exact core H U qb I en hsl hf
 .rename_i qb hsl;split at hf
  .rename_i hc;cases hf;obtain ⟨H1,I1,e3⟩:=DW I en hsl hc;refine core H1 _ [] I1 e3 (iC (ome hsl).1) ?_;rw [List.set_set];rfl
  .cases hf
 .cases hf
end
end
section
open PySem W Spec PyProof.Rows L2
variable {qb:Kq}
def Itk (ws:Kq) (a:Addr) (ob:Obj):It :=
 ⟨fun i H=>H a=some (.frz ob (.dT ws))/\i<ws.length,fun i H x H'=>H'=H/\∃ b k,(ws.map (·.1))[i]?=some k/\x=.ref b/\H b=some (.tup (k.map kV)),fun i H=>H a=some (.frz ob (.dT ws))/\i=ws.length⟩
section
variable {P:Program} {w:World} {K:W.Frag} {H:Hp} {h:Heap} {a:Addr} {X:Cx} {tg:Expr}
theorem TX {xs:List (List Key × Addr × Value)} (r:KT H qb xs):∀ (i:Nat) (k:List Key),(qb.map (·.1))[i]?=some k->∃ q,xs[i]?=some q/\H q.2.1=some (.tup (k.map kV)):=by
 induction r with
 | nil=>intro i x hx;cases i<;>cases hx
 | @cons p q ps qs h t ih =>
  intro i x hx;cases i with
  | zero=>cases hx;exact ⟨_,rfl,h.2.1⟩
  | succ i=>exact ih i x hx
theorem DX {ob:Obj} {en:Array DictEntry} {ep:Nat} (ok:aN P w H h a (.dT qb)) (e:h.get? a=some ob) (hd:ob.data=.dict en ep):dC h a en ep/\en.size=qb.length/\∀ (i:Nat) (k:List Key),(qb.map (·.1))[i]?=some k->∃ e' b,en[i]?=some e'/\e'.key=.ref b/\H b=some (.tup (k.map kV)):=by obtain ⟨z,_,xs,rel,o,es,ep',ho,hc,hdt,he,_⟩:=ok;rw [e] at ho;cases ho;rw [hd] at hdt;cases hdt;refine ⟨⟨ob,e,hc,hd⟩,by rw [size_of_entries he,Paired.length rel],fun i x hx=>?_⟩;rw [entry_at he i];obtain ⟨q,h1,h2⟩:=TX rel i x hx;exact ⟨_,q.2.1,by rw [h1];rfl,rfl,h2⟩
theorem TY {ws:Kq} {ob:Obj} {en:Array DictEntry} {ep:Nat} (a it:Addr) (hd:ob.data=.dict en ep):Turn P w K tg (Itk ws a ob) [it] it (fun i h=>h.IsKeyIter it a i en.size ep) where
 mem:=by simp
 obj:=fun i h st b hb=>by
  have e:b=it:=by simpa using hb
  subst e;obtain ⟨o,e,c,d⟩:=st;exact ⟨o,e,fun v z=>by rw [d] at z;cases z⟩
 keep:=fun i h h' st k=>let ⟨o,e,r⟩:=st;⟨o,k it (by simp) o e,r⟩
 item:=by
  intro X hP hw hK hc i pj s O H E I hf st hg;subst hP hw hK;obtain ⟨hH,hi⟩:=hg;obtain ⟨e,ok⟩:=(show aN X.prog X.w H s.heap a (.frz ob (.dT ws)) from I.hok a _ hH);obtain ⟨rwd,hz,hen⟩:=DX ok e hd;obtain ⟨f0,f1,f2,f3,f4,f5⟩:=hf it (by simp);have hx:(ws.map (·.1))[i]?=some ((ws.map (·.1))[i]'(by simpa using hi)):=List.getElem?_eq_getElem _;obtain ⟨e',b,h1,h2,h3⟩:=hen i _ hx;have hlt:i<en.size:=by lia
  refine BM st rwd hlt fun h' st' sb=>?_;rw [nS hlt] at h1;cases h1;have I1:Inv X pj O H { s with heap:=h' }:=I.turned (t':=s.toks) (fun b o hb e=>(sb.2 b hb).trans e) f0 f1 f3 f4 f5;obtain ⟨o,e,c,d⟩:=id st';exact ⟨_,rfl,pD (s:={ s with heap:=h' }) e c d (by decide) ⟨.ref b,H,I1,h2,⟨rfl,b,_,hx,rfl,h3⟩,st',fun b hb=>(hf b hb).1⟩⟩
 done:=by intro X hP hw hK hc i pj s O H E I hf st hg;subst hP hw hK;obtain ⟨hH,hi⟩:=hg;obtain ⟨e,ok⟩:=(show aN X.prog X.w H s.heap a (.frz ob (.dT ws)) from I.hok a _ hH);obtain ⟨rwd,hz,hen⟩:=DX ok e hd;obtain ⟨f0,f1,f2,f3,f4,f5⟩:=hf it (by simp);rw [hi,<- hz] at st;exact BN (I.ok.hd hc) st rwd fun h' eb=>⟨rfl,I.turned (t':=s.toks) (fun b o hb e=>eb b o hb e) f0 f1 f3 f4 f5⟩
 self:=fun _ _ _ _ _ st h=>wpAny_pyIter_keyiter st h
theorem TZ {o:Expr} {td:TE} (ho:PE X o td):PI X tg o (fun O H R=>td O H fun x H1=>∃ a ws,x=.ref a/\H1 a=some (.dT ws)/\∀ ob,R (Itk ws a ob) (aP H1 a (.frz ob (.dT ws)))):=by
 intro pj s O H R I h;refine thn (ho pj s O H _ I h) fun u s1 ⟨x,H1,I1,rx,a,ws,ex,d,q1⟩=>?_;subst ex;obtain rfl:u=Value.ref a:=rx;have ok:=(show aN X.prog X.w H1 s1.heap a (.dT ws) from I1.hok a _ d);obtain ⟨z,hd,xs,rel,ob,es,ep,hob,hc,hdt,he,hn⟩:=id ok;refine BK (en:=es) (ep:=ep) hd ⟨ob,hob,hc,hdt⟩ ?_;have I2:Inv X pj O (aP H1 a (.frz ob (.dT ws))) s1:=by
  refine oF (t':=s1.toks) (h':=s1.heap) I1 (by rw [d];exact True.intro) (Heap.SameBut.refl _ _) ⟨ob,hob⟩ (show aN X.prog X.w _ _ _ (.frz ob (.dT ws)) from ⟨hob,ok.stay (fun _ _ _ e=>e) (fun b e=>?_) fun b ys e=>?_⟩)
  .rw [aR (kJ e d (fun z=>nomatch z))];exact e
  .rw [aR (kJ e d (fun z=>nomatch z))];exact e
 refine ⟨_,[_],_,_,_,rfl,I2.kept (t':=s1.toks) fun b o e=>aU _ e,TY a _ hdt,⟨_,cX _ rfl,rfl,rfl⟩,fun b hb=>?_,q1 ob⟩;rw [omg hb];exact I2.fpOk (aV _) (I2.hok.fresh (aV _))
end
section
variable {X:Cx} {c:Tc} {G:Glo} {k n:Nat} {F0 H0:Hp}
theorem DY {K:W.Frag} {F:Hp}:∀ ks:List Key,aF K F (ks.map kT) (ks.map kV)
 | []=>rfl
 | k::ks=>⟨_,_,rfl,by rcases k with i | _ | x<;>rfl,DY ks⟩
theorem UA (gd:Gd X c G k) (fx:Fx X c) {tg:Expr} {body:List Stmt} {xs:List Str} {is:List Nat} {b:List S} {x:Str} {i:Nat} {p1 pos:Pos} (h1:iQ tg=some xs) (h2n:2<=xs.length) (hat:Ats X xs is) (hv:dG c.sc x=true) (hp:bZ x=true) (hi:bY c.nm x=some i)
  (hb:PSs X body (spS X F0 H0 (aE G b))):PS X (.For tg (.Name x p1) body [] pos) (spS X F0 H0 (evS G (.kloop is i b))):=by
 have hN:X.N[i]?=some x:=by rw [fx.hN];exact jI hi
 have P:=tG (pos:=pos) (by rw [fx.xe];exact PassesOwn.never) gd.calm (TZ (tg:=tg) (lO (pos:=p1) hN (gd.vis x hv) (gW hp).1 (gW hp).2)) (rV gd.nd gd.calm h1 hat) hb (fun _=>rfl);intro pj s O H D I q;obtain ⟨U,F,o,en,hf,hw⟩:=q;rw [evS] at hf;split at hf
 .cases hf
 rename_i hdl;rw [Bool.not_eq_true] at hdl;have nodl:∀ (U':List Sl),(∀ (j:Nat) (u:Sl),U'[j]?=some u->u.isDl=true->U[j]?=some u)->∀ (j:Nat) (u:Sl),U'[j]?=some u->u.isDl=true->False:=fun U' hU j u hj hu=>by rw [List.any_eq_false] at hdl;exact hdl u (fT (hU j u hj hu)) hu
 have core:∀ (H:Hp) (U1:List Sl) (qb:List (List Kt × T)),L2.Inv X pj O H s->EnvS X F0 H0 U1 O F H->(∀ (j:Nat) (u:Sl),U1[j]?=some u->u.isDl=true->U[j]?=some u)->U1[i]?=some (.dt qb)->cP (fun x U=>(bD is x U).bind fun U'=>aE G b U') (qb.map fun p=>tkT p.1) (U1.set i (.val (.dt (qb.map (·.1)) (qb.map (·.2)))))=some o ->
   wpAny (model X.prog X.w) X.A (exec (.For tg (.Name x p1) body [] pos) X.env) (SP X pj D) X.xe s:=fun H U1 qb I en hU hsl hf=>by
  refine P pj s O H D I ?_;obtain ⟨a,ob0,a1,a2,a3,a4,ws,rfl,w1,w2⟩:=en.ownG i _ hsl rfl;refine ⟨.ref a,a1,a,ws,rfl,a2,fun ob=>?_⟩;have sF:Same F (aP F a (.frz ob (.dT ws))):=gU a3;have e2:EnvS X F0 H0 (U1.set i (.val (.dt (qb.map (·.1)) (qb.map (·.2))))) O (aP F a (.frz ob (.dT ws))) (aP H a (.frz ob (.dT ws))):=by
   refine ⟨⟨en.st.hh.aP a4 a2 rfl (fun _ _ z=>nomatch z),en.st.ff.trans sF,zJ en.st.fh,fun c h=>?_⟩,en.t0,by rw [iD];exact en.len,fun j u h=>?_,fun j u h hu=>?_,fun j l u w b hjl hj hl hu hw=>?_,fun j kk h=>?_⟩
   .by_cases z:c=a
    .subst z;exact .inr (.inl a4)
    .rw [aR z] at h;exact en.st.nw c h
   .rcases bS h with ⟨rfl,q⟩ | ⟨hj,q⟩
    .cases q;exact ⟨.ref a,a1,a,ws,rfl,.inr ⟨ob,cC⟩,w1,w2.mono sF⟩
    .obtain ⟨w,q1,q2⟩:=en.val j u q;exact ⟨w,q1,q2.mono sF⟩
   .rcases bS h with ⟨_,q⟩ | ⟨hj,q⟩
    .subst q;cases hu
    .obtain ⟨b,o,q1,q2,q3,q4,q5⟩:=en.ownG j u q hu;have hne:b≠a:=fun z=>by subst z;exact en.disG i j _ u b (Ne.symm hj) hsl q rfl hu a1 q1
     exact ⟨b,o,q1,by rw [aR hne];exact q2,by rw [aR hne];exact q3,q4,q5.mono sF⟩
   .rcases bS hj with ⟨_,q⟩ | ⟨_,q⟩
    .subst q;cases hu
    .rcases bS hl with ⟨_,q'⟩ | ⟨_,q'⟩
     .subst q';cases hw
     .exact en.disG j l u w b hjl q q' hu hw
   .rcases bS h with ⟨_,q⟩ | ⟨hj,q⟩
    .cases q
    .exact (nodl U1 hU j _ q rfl).elim
  have hlen:qb.length=ws.length:=by have:=congrArg List.length w1;simpa using this.symm
  have wk:Walk X.K (Itk ws a ob) (qb.map fun p=>tkT p.1) (aP F a (.frz ob (.dT ws))):={
   go:=fun j H' hj sm=>⟨sm _ _ cC,by rw [<- hlen];simpa using hj⟩
   yld:=fun j H' v H5 F' t ht sF' fh y=>by
    obtain ⟨rfl,b,k,y1,rfl,y2⟩:=y;rw [fL] at ht;obtain ⟨p,hp,rfl⟩:=oms ht;rw [w1,fL,hp] at y1;cases y1;obtain ⟨F1,st,hF⟩:=CA fh (as:=[b]) fun c hc=>by rw [omg hc];exact ⟨_,y2⟩
    exact ⟨F1,st,b,_,rfl,(hF b (.head _)).trans y2,DY _⟩
   stop:=fun H' sm=>⟨sm _ _ cC,by rw [<- hlen];simp⟩ }
  exact vH fx h1 (fun _=>h2n) hat e2 wk hf (hw.up sF)
 obtain ⟨qb,hk,hf⟩:=obs hf;cases hsl:U[i]? with
 | none=>rw [hsl] at hk;cases hk
 | some sl =>
  rw [hsl] at hk;cases sl with
  | dt kvs'=>cases hk;exact core H U qb I en (fun _ _ h _=>h) hsl hf
  | dk kvs' =>
   replace hk:(if kvs'.isEmpty=true then some [] else none)=some qb:=hk;split at hk
   .rename_i he;cases hk;cases kvs' with
    | cons _ _=>cases he
    | nil =>
     obtain ⟨b,ob,q1,q2,q3,q4,ws,rfl,w1,w2⟩:=en.ownG i _ hsl rfl;have hws:ws=[]:=by cases ws with | nil=>rfl | cons _ _=>simp at w1
     subst hws;have hlt:=(ome hsl).1;refine core (aP H b (.dT [])) (U.set i (.dt [])) [] (vJ I q2) (en.growG (s':=.dt []) (o:=.dT []) hsl rfl q1 q3 q4 ⟨[],rfl,rfl,rfl⟩) (fun j u h hu=>?_) (iC hlt) (by rw [List.set_set];exact hf);rcases bS h with ⟨_,q⟩ | ⟨_,q⟩
     .subst q;cases hu
     .exact q
   .cases hk
  | _=>cases hk
end
end
section
variable {e:Expr} {y:Str}
section
variable {X:Cx} {c:Tc} {G:Glo} {k:Nat} {F0 H0:Hp}
theorem UB:PSs X [] (spS X F0 H0 (aE G [])):=by refine zL IN fun D O H q=>?_;obtain ⟨U,F,o,en,hf,hw⟩:=q;rw [aE] at hf;cases hf;exact hw _ F H en (Same.refl F)
theorem UC {st:Stmt} {rest:List Stmt} {s:S} {ss:List S} (h1:PS X st (spS X F0 H0 (evS G s))) (h2:PSs X rest (spS X F0 H0 (aE G ss))):PSs X (st::rest) (spS X F0 H0 (aE G (s::ss))):=by
 refine zL (IP h1 h2) fun D O H q=>?_;obtain ⟨U,F,o,en,hf,hw⟩:=q;rw [aE] at hf;obtain ⟨o1,ho1,hf⟩:=obs hf;refine ⟨U,F,o1,en,ho1,?_⟩;cases o1 with
 | nx U'=>exact fun O' F' H' e s'=>⟨U',F',o,e,hf,hw.up s'⟩
 | rt t=>cases hf;exact hw
theorem UD (h:qW e=true):∃ p,e=.Dict [] [] p:=by
 cases e with
 | Dict ks vs p =>
  match ks,vs,h with
  | [],[],_=>exact ⟨p,rfl⟩
  | _::_,_,h=>cases h
  | [],_::_,h=>cases h
 | _=>cases h
theorem UE {x:Str} {k':Expr} (h:qV x e=some k'):∃ p1 apos cpos u1 q1 u2 q2 bp,e=.BinOp (.Call (.Attribute (.Name x p1) "get" apos) [k',.Constant (.int 0) u1 q1] [] cpos) .Add (.Constant (.int 1) u2 q2) bp/\(apos.endLine==cpos.line)=true:=by
 unfold qV at h;split at h
 .split at h
  .rename_i hc;simp only [Bool.and_eq_true] at hc;cases h;have e:=cV hc.1.1;subst e;have e:=cV hc.1.2;subst e;exact ⟨_,_,_,_,_,_,_,_,rfl,hc.2⟩
  .cases h
 .cases h
theorem DZ {x:Str × Str × Pos × Pos × List Expr × Pos} (h:tX e=some x):e=.Call (.Attribute (.Name x.1 x.2.2.1) x.2.1 x.2.2.2.1) x.2.2.2.2.1 [] x.2.2.2.2.2:=by
 cases e with
 | Call f es ks cpos =>
  cases f with
  | Attribute o m apos =>
   cases o with
   | Name y p =>
    cases ks with
    | nil=>cases h;rfl
    | cons _ _=>cases h
   | _=>cases h
  | _=>cases h
 | _=>cases h
theorem UF (h:emL e=true):∃ p,e=.List [] p:=by
 cases e with
 | List l p =>
  cases l with
  | nil=>exact ⟨p,rfl⟩
  | cons _ _=>cases h
 | _=>cases h
theorem UG {o k':Expr} (h:sdC o=some (y,k')):∃ p1 apos cpos lp,o=.Call (.Attribute (.Name y p1) "setdefault" apos) [k',.List [] lp] [] cpos/\(apos.endLine==cpos.line)=true:=by
 obtain ⟨⟨z,m,p,apos,es,cpos⟩,h1,h⟩:=obs h;have e:=DZ h1;subst e;rcases es with _ | ⟨k,_ | ⟨l,_ | ⟨_,_⟩⟩⟩
 .cases h
 .cases h
 .replace h:(if emL l&&(m==("setdefault":Str)&&apos.endLine==cpos.line) then some (z,k) else none)=some (y,k'):=h;split at h
  .rename_i hc;rw [bU,bU] at hc;cases h;obtain ⟨lp,rfl⟩:=UF hc.1;have e:=cV hc.2.1;subst e;exact ⟨_,_,_,lp,rfl,hc.2.2⟩
  .cases h
 .cases h
theorem UH (h:zF e=some y):∃ p1,e=.Name y p1:=by
 cases e with
 | Name z p =>
  replace h:(if z==("_law_sorts":Str) then some z else none)=some y:=h;split at h
  .cases h;exact ⟨p,rfl⟩
  .cases h
 | _=>cases h
theorem UI (h:valC e=some y):∃ p1 apos cpos,e=.Call (.Attribute (.Name y p1) "values" apos) [] [] cpos/\(apos.endLine==cpos.line)=true:=by
 obtain ⟨⟨z,m,p,apos,es,cpos⟩,h1,h⟩:=obs h;have e:=DZ h1;subst e;rcases es with _ | ⟨_,_⟩
 .replace h:(if m==("values":Str)&&apos.endLine==cpos.line then some z else none)=some y:=h;split at h
  .rename_i hc;rw [bU] at hc;cases h;have e:=cV hc.1;subst e;exact ⟨_,_,_,rfl,hc.2⟩
  .cases h
 .cases h
theorem EA (gd:Gd X c G k) (fx:Fx X c):∀ n,(∀ st s,trS n c st=some s->PS X st (spS X F0 H0 (evS G s)))/\(∀ sts ss,jG n c sts=some ss->PSs X sts (spS X F0 H0 (aE G ss)))
 | 0=>⟨fun _ _ h=>(by (cases h;done)),fun _ _ h=>(by (cases h;done))⟩
 | n+1=>by
  obtain ⟨i1,i2⟩:=EA gd fx n;refine ⟨fun st s h=>?_,fun sts ss h=>?_⟩
  .cases st with
   | Assign tgs e pos =>
    match tgs,h with
    | [],h=>(cases h;done)
    | t::_::_,h =>
     cases t with
     | Subscript o _ _=>cases o<;>(cases h;done)
     | _=>(cases h;done)
    | [t],h =>
     cases t with
     | Name x px =>
      replace h:(if bZ x&&(c.sc.names.lookup x==some .local||c.sc.names.lookup x==some .cell) then (bY c.nm x).bind fun i=>if qW e then some (S.dnew i) else ((trV n c e).bind fun y=>if fresh y&&!qU e then none else some (S.asg i y)) else none)=some s:=h;split at h
      .rename_i hc;simp only [Bool.and_eq_true,Bool.or_eq_true,beq_iff_eq] at hc;obtain ⟨i,h1,g1⟩:=obs h;clear h;by_cases hd:qW e=true
       .rw [if_pos hd] at g1;cases g1;obtain ⟨dp,rfl⟩:=UD hd;exact SY gd fx hc.2 h1
       .rw [if_neg hd] at g1;obtain ⟨y,h2,g2⟩:=obs g1;clear g1;by_cases hfl:(fresh y&&!qU e)=true
        .rw [if_pos hfl] at g2;cases g2
        .rw [if_neg hfl] at g2;cases g2;cases n with
         | zero=>cases h2
         | succ m =>
          exact SR gd fx hc.2 h1 h2 fun hfr=>by rw [hfr,Bool.true_and] at hfl;simpa using hfl
      .cases h
     | Subscript o ke tp =>
      cases o with
      | Name x px =>
       replace h:(if dG c.sc x&&bZ x&&!pH ke then (bY c.nm x).bind fun i=>(trV n c ke).bind fun y=>(match qV x e with
   | some k'=>(trV n c k').bind fun y'=>some (S.dinc i y y')
   | none=>if tW e then none else (trV n c e).bind fun z=>some (S.dput i y z)) else none)=some s:=h
       split at h
       .rename_i hc;simp only [Bool.and_eq_true] at hc;obtain ⟨i,h1,g1⟩:=obs h;obtain ⟨y,h2,g2⟩:=obs g1;clear g1 h;split at g2
        .rename_i k' hinc;obtain ⟨z,h3,g3⟩:=obs g2;cases g3;obtain ⟨p1,apos,cpos,u1,q1,u2,q2,bp,rfl,hl⟩:=UE hinc;exact TF gd fx hc.1.1 hc.1.2 h1 h2 h3 hl
        .split at g2
         .cases g2
         .rename_i hcomp;obtain ⟨z,h3,g3⟩:=obs g2;cases g3;exact TC gd fx hc.1.1 hc.1.2 h1 h2 h3 (by simpa using hcomp)
       .cases h
      | _=>(cases h;done)
     | _=>(cases h;done)
   | Expr e pos =>
    cases e with
    | Constant cst kk p =>
     cases cst with
     | str x=>(cases h;done)
     | _=>(cases h;done)
    | Call f es ks cpos =>
     cases f with
     | Attribute o m apos =>
      match es,ks,h with
      | [a],[],h =>
       have key:(∀ x p,o≠.Name x p)->PS X (.Expr (.Call (.Attribute o m apos) [a] [] cpos) pos) (spS X F0 H0 (evS G s)):=fun hn=>by
        replace h:(if apos.endLine==cpos.line&&m==("append":Str) then (sdC o).bind fun p=>if dG c.sc p.1&&bZ p.1 then (bY c.nm p.1).bind fun i=>(trV n c p.2).bind fun x=>(trV n c a).bind fun y=>some (S.dapp i x y) else none else none)=some s:=by
         cases o with
         | Name x p=>exact absurd rfl (hn x p)
         | _=>exact h
        split at h
        .rename_i hc;rw [bU] at hc;obtain ⟨⟨y,ke⟩,h1,h⟩:=obs h;split at h
         .rename_i hv;rw [bU] at hv;obtain ⟨i,h2,h⟩:=obs h;obtain ⟨z,h3,h⟩:=obs h;obtain ⟨w,h4,h⟩:=obs h;cases h;obtain ⟨p1,ap,cp,lp,rfl,hl⟩:=UG h1;have hm:=cV hc.2;subst hm;exact TV gd fx hv.1 hv.2 h2 h3 h4 hl hc.1
         .cases h
        .cases h
       cases o with
       | Name x px =>
         replace h:(if apos.endLine==cpos.line&&dG c.sc x&&bZ x then (bY c.nm x).bind fun i=>(trV n c a).bind fun y=>(if m==("append":Str) then some (S.app i y) else if m==("extend":Str) then some (S.ext i y) else none) else none)=some s:=h;split at h
         .rename_i hc;simp only [Bool.and_eq_true] at hc;obtain ⟨i,h1,g1⟩:=obs h;obtain ⟨y,h2,g2⟩:=obs g1;clear g1 h;by_cases hm:(m==("append":Str))=true
          .rw [if_pos hm] at g2;have hm:=cV hm;subst hm;cases g2;exact SS gd fx hc.1.2 hc.2 h1 h2 hc.1.1
          .rw [if_neg hm] at g2;by_cases hm:(m==("extend":Str))=true
           .rw [if_pos hm] at g2;have hm:=cV hm;subst hm;cases g2;exact SU gd fx hc.1.2 hc.2 h1 h2 hc.1.1
           .rw [if_neg hm] at g2;cases g2
         .cases h
       | _=>exact key fun _ _ z=>by cases z
      | [],_,h=>cases o<;>(cases h;done)
      | [_],_::_,h=>cases o<;>(cases h;done)
      | _::_::_,_,h=>cases o<;>(cases h;done)
     | _=>(cases h;done)
    | _=>(cases h;done)
   | Return e pos =>
    cases e with
    | none=>(cases h;done)
    | some e =>obtain ⟨y,h2,g⟩:=obs h;cases g;exact SV gd fx h2
   | If t a b pos =>obtain ⟨z,h1,g⟩:=obs h;obtain ⟨x,h2,g⟩:=obs g;obtain ⟨y,h3,g⟩:=obs g;cases g;exact SW gd fx h1 (i2 _ _ h2) (i2 _ _ h3)
   | For tg iter body els pos =>
    cases els with
    | cons _ _=>(cases h;done)
    | nil =>
     obtain ⟨xs,h1,g⟩:=obs h;obtain ⟨is,h2,g⟩:=obs g;split at g
     .rename_i y hval;obtain ⟨i,h3,g⟩:=obs g;obtain ⟨b,h4,g⟩:=obs g;split at g
      .rename_i hc;simp only [Bool.and_eq_true] at hc;obtain ⟨⟨⟨c1,c2⟩,c3⟩,c4⟩:=hc;cases g;obtain ⟨p1,ap,cp,rfl,hl⟩:=UI hval;exact TW gd fx h1 (by simpa using c1) (fx.ats c4 h2) c2.1 c2.2 h3 hl (i2 _ _ h4)
      .cases g
     .split at g
      .rename_i y hkey;obtain ⟨i,h3,g⟩:=obs g;obtain ⟨b,h4,g⟩:=obs g;split at g
       .rename_i hc;simp only [Bool.and_eq_true] at hc;obtain ⟨⟨⟨c1,c2⟩,c3⟩,c4⟩:=hc;cases g;obtain ⟨p1,rfl⟩:=UH hkey;exact UA gd fx h1 (iF c1) (fx.ats c4 h2) c2.1 c2.2 h3 (i2 _ _ h4)
       .cases g
      .obtain ⟨ki,h3,g⟩:=obs g;obtain ⟨b,h4,g⟩:=obs g;split at g
       .rename_i hc;simp only [Bool.and_eq_true] at hc;obtain ⟨⟨⟨c1,c2⟩,c3⟩,c4⟩:=hc;cases g;refine SX gd fx h1 h2 h3 (fun e=>?_) (fun e=>?_) (fx.ats c4 h2) (i2 _ _ h4)
        .rw [e] at c1;simpa using c1
        .rw [e] at c2;simpa using c2
       .cases g
   | _=>(cases h;done)
  .cases sts with
   | nil=>cases (show some ([]:List S)=some ss from h);exact UB
   | cons st rest =>obtain ⟨x,h1,h⟩:=obs h;obtain ⟨xs,h2,h⟩:=obs h;cases h;exact UC (i1 _ _ h1) (i2 _ _ h2)
end
section
variable {P:Program} {w:World} {K:W.Frag} {mg:Str->Option Value} {base:Heap} {R:Pr}
structure FnD (K:W.Frag) (mg:Str->Option Value) (f:Str) (D:Fd) (st:Stmt) (a:Addr) (fd:FuncData) (ps:List Str):Prop where
 qu:∃ x qual,Fun K x qual st a fd
 sc:FnScope (fV (bK st)) ps (bK st)
 np:ps.length=D.np
 ns:(fV (bK st)).length=D.ns
 tr:jG 60 ⟨bK st,fV (bK st)⟩ (iG st)=some D.body
 mg:mg f=some (.ref a)
 kp:W.keepIn K (.ref a)=true
 bi:Binds K fd ps []
theorem UJ {X:Cx} {D:Fd} {N:List Str} {ts:List T} {vs:List V} {F H:Hp} (hN:N.length=D.ns) (fh:Same F H) (tb:Tbk X.K F H) (r:aF X.K F ts vs):EnvS X F H (cU D ts) (L2.start N vs) F H:=by
 have hl:=r.length;have none:∀ i s,(cU D ts)[i]?=some s->¬ i<ts.length->s=.no:=fun i s h hi=>by
  unfold cU at h;rw [oZ (by simpa using hi)] at h;rw [List.getElem?_replicate] at h;split at h
  .cases h;rfl
  .cases h
 have some':∀ i s,(cU D ts)[i]?=some s->i<ts.length->∃ t,ts[i]?=some t/\s=.val t:=fun i s h hi=>by unfold cU at h;rw [pA (by simpa using hi),List.getElem?_map] at h;obtain ⟨t,h1,h2⟩:=oms h;exact ⟨t,h1,h2.symm⟩
 have noown:∀ i (u:Sl),(cU D ts)[i]?=some u->u.isOwn=true->False:=fun i u h hu=>by
  by_cases hi:i<ts.length
  .obtain ⟨t,_,e⟩:=some' i _ h hi;subst e;cases hu
  .have:=none i _ h hi;subst this;cases hu
 refine ⟨Step.refl fh,tb,?_,fun i t h=>?_,fun i u h hu=>(noown i u h hu).elim,fun i j u _ a _ h _ hu=>(noown i u h hu).elim,fun i kk h=>?_⟩
 .unfold cU L2.start;simp only [List.length_append,List.length_map,List.length_replicate];rw [hl,hN]
 .by_cases hi:i<ts.length
  .obtain ⟨u,h1,e⟩:=some' i _ h hi;cases e;obtain ⟨v,h2,h3⟩:=r.get h1;refine ⟨v,?_,h3⟩;unfold L2.start;rw [qK (by rw [bA,hl];exact hi),fL,h2];rfl
  .cases none i _ h hi
 .by_cases hi:i<ts.length
  .obtain ⟨t,_,e⟩:=some' i _ h hi;cases e
  .cases none i _ h hi
def Kn (P:Program) (w:World) (K:W.Frag) (mg:Str->Option Value) (base:Heap) (R:Pr) (n:Nat) (f:Str):Prop :=
 ∃ (a:Addr) (fd:FuncData) (ps:List Str),FnOk P w K mg base CX0 n a fd ps (spT K (run R n f))/\mg f=some (.ref a)/\W.keepIn K (.ref a)=true/\Binds K fd ps []
abbrev vL (P:Program) (w:World) (K:W.Frag) (mg:Str->Option Value) (base:Heap) (R:Pr) (n:Nat):Prop:=∀ m,m<=n->∀ f D,tZ f=true->R.fn f=some D->Kn P w K mg base R m f
theorem UK {a:Addr} {fd:FuncData} {ps:List Str} {f:Str}:FnOk P w K mg base CX0 0 a fd ps (spT K (run R 0 f)):=by
 have no:∀ vs H Q E,¬ spT K (run R 0 f) vs H Q E:=fun vs H Q E h=>by obtain ⟨F,ts,t,_,_,_,h,_⟩:=h;cases h
 exact ⟨fun vs H Q E h=>absurd h (no vs H Q E),fun A outer s H args us vs Q E _ _ _ _ h=>absurd h (no vs H Q E)⟩
theorem UL {n:Nat} (ih:vL P w K mg base R n) (nob:∀ x∈bnames,mg x=none)
  {st:Stmt} {ps:List Str} (sc:FnScope (fV (bK st)) ps (bK st)) {qual:Str} {a:Addr} {cdv:Value} {A:Around} {outer:List PySem.Env} {s:Shared} {H:Hp} {E:XK} (hr:Room n (A.deeper (envOfC qual (bK st) s.heap.objs.size a cdv))) :
  Gd (lP CX0 P w K mg base (fV (bK st)) qual (bK st) a cdv A outer s H E).nox ⟨bK st,fV (bK st)⟩ (glo R (run R n)) n:={
   room:=hr
   calm:=rfl
   nob:=nob
   call:=fun g ts t hp hg=>by
    have hD:∃ D',R.fn g=some D':=by
     cases n with
     | zero=>cases hg
     | succ m =>have hg:run R (m+1) g ts=some t:=hg;rw [run] at hg;obtain ⟨D',h1,_⟩:=obs hg;exact ⟨D',h1⟩
    obtain ⟨D',hD⟩:=hD;exact ih n (aV n) g D' hp hD
   vis:=fun x h=>by
    show (bK st).names.lookup x=_\/(bK st).names.lookup x=_\/(bK st).names.lookup x=_;have h:dG (bK st) x=true:=h;unfold dG at h;cases e:(bK st).names.lookup x with
    | none=>rw [e] at h;cases h
    | some q =>
     rw [e] at h;cases q with
     | «local»=>exact .inl rfl
     | cell=>exact .inr (.inl rfl)
     | free=>exact .inr (.inr rfl)
     | _=>cases h
   gl:=fun x h=>by show (bK st).names.lookup x=_;simpa [glB] using h
   cap:=fun x h=>h
   nd:=sc.nd }
theorem EB {n:Nat} (ih:vL P w K mg base R n) (nob:∀ x∈bnames,mg x=none)
  {f:Str} {D:Fd} {st:Stmt} {a:Addr} {fd:FuncData} {ps:List Str} (hf:R.fn f=some D) (d:FnD K mg f D st a fd ps):FnOk P w K mg base CX0 (n+1) a fd ps (spT K (run R (n+1) f)):=by
  obtain ⟨x,qual,FU⟩:=d.qu;have inv:∀ {ts:List T} {t:T},run R (n+1) f ts=some t->ts.length=D.np/\aY (aE (glo R (run R n)) D.body (cU D ts))=some t:=fun {ts t} h=>by
   rw [run,hf] at h;simp only [aT] at h;split at h
   .rename_i e;exact ⟨e,h⟩
   .cases h
  refine FU.ok d.sc (fun vs H Q E h=>?_) (fun cdv A outer s H vs Q E hr h=>?_)
  .obtain ⟨F,ts,t,fh,tb,r,h,_⟩:=h;rw [r.length,(inv h).1,d.np]
  obtain ⟨F,ts,t,fh,tb,r,h,q⟩:=h;obtain ⟨hl,he⟩:=inv h;have gd:=UL (outer:=outer) (H:=H) (E:=E) ih nob d.sc hr;have fx:Fx (lP CX0 P w K mg base (fV (bK st)) qual (bK st) a cdv A outer s H E).nox ⟨bK st,fV (bK st)⟩:=⟨rfl,fun x h=>h,fun _=>rfl,rfl⟩;refine ⟨_,(EA (F0:=F) (H0:=H) gd fx 60).2 _ _ d.tr,?_⟩;cases ho:aE (glo R (run R n)) D.body (cU D ts) with
  | none=>rw [ho] at he;cases he
  | some o =>
   refine ⟨cU D ts,F,o,UJ d.ns fh tb r,ho,?_⟩;rw [ho] at he;cases o with
   | nx U=>cases he;exact fun O' F' H' e _=>q .non F' H' e.st rfl
   | rt t=>cases he;exact fun v F' H' s r=>q v F' H' s r
theorem EC (L:∀ f D,R.fn f=some D->∃ st a fd ps,FnD K mg f D st a fd ps)
  (nob:∀ x∈bnames,mg x=none):∀ n,vL P w K mg base R n
 | 0=>fun m hm f D hp hf=>by
  obtain rfl:m=0:=by lia
  obtain ⟨st,a,fd,ps,d⟩:=L f D hf;exact ⟨a,fd,ps,UK,d.mg,d.kp,d.bi⟩
 | n+1=>fun m hm f D hp hf=>by
  have ih:=EC L nob n;by_cases hmn:m<=n
  .exact ih m hmn f D hp hf
  .obtain rfl:m=n+1:=by lia
   obtain ⟨st,a,fd,ps,d⟩:=L f D hf;exact ⟨a,fd,ps,EB ih nob hf d,d.mg,d.kp,d.bi⟩
end
end
section
theorem UM {P:Program} {w:World} {K:W.Frag} {mg mb:Str->Option Value} {CX:CXT} {k:Nat} {fa a:Addr} {fd:FuncData} {x:Str} {sp:Sp} {s₁:Shared} {vs:List Value} {ns:List Int}
  (KX:K.In s₁.heap) (hns:s₁.heap.Ns mainGlobals mg) (hb:s₁.heap.Ns builtinsNs mb) (hbb:∀ x:Str,x≠"__name__"->mb x=bootBuiltins x) (hlim:s₁.heap.NoLimit) (hg:s₁.gens=#[])
  (ha:s₁.heap.get? a=some { cls:=.type "list",data:=.seq vs.toArray }) (hi:IntsAre vs ns) (hl:ns.length<=sizeLine) (hr:Room k callerA)
  (F:∀ base:Heap,K.In base->base.Ns mainGlobals mg->FnOk P w K mg base CX k fa fd [x] sp) (hbind:∀ (s:Shared) (u:Value),BindsTo s fd ⟨[u],[]⟩ [(x,u)])
  (hsp:∀ H:Hp,Only H->Ls K H a (ns.map V.int)->sp [.ref a] H (fun v _=>v=.bl true) fun _ _ _=>False)
  (hCX:∀ H e s',CX [] H s₁ (fun _ _ _=>False) e s'->False) :
  codeAny (model P w) callerA (.call (.ref fa) ⟨[.ref a],[]⟩) (fun r s'=>r=.ok (.ret (.bool true))/\OldK s₁.heap s'.heap/\s'.os=s₁.os/\AllBare s'.gens) s₁:=by
 have rv:=zA hi;have lenV:=hi.length;have core:∀ H:Hp,Only H->Ls K H a (ns.map V.int)->HOk P w H s₁.heap->(∀ b,H b≠none->b=a)->(H a≠none->K.lookup a=none) ->
   codeAny (model P w) callerA (.call (.ref fa) ⟨[.ref a],[]⟩) (fun r s'=>r=.ok (.ret (.bool true))/\OldK s₁.heap s'.heap/\s'.os=s₁.os/\AllBare s'.gens) s₁:=by
  intro H hO hS hok hA hK;have base_of:∀ {b:Addr} {o:Obj},s₁.heap.get? b=some o->H b=none->(kK s₁.heap H).get? b=some o:=fun e n=>HU e n;have noA:∀ {b:Addr} {o:Obj} {es:Array DictEntry} {ep:Nat},s₁.heap.get? b=some o->o.data=.dict es ep->H b=none:=fun {b o es ep} e d=>by
   cases q:H b with
   | none=>rfl
   | some u =>have e':b=a:=hA b (by rw [q];simp);subst e';rw [ha] at e;cases e;have d':Data.seq vs.toArray _=Data.dict es ep:=d;cases d'
  have nsK:∀ {b:Addr} {m:Str->Option Value},s₁.heap.Ns b m->(kK s₁.heap H).Ns b m:=fun {b m} ⟨o,es,ep,e,d,r⟩=>⟨o,es,ep,base_of e (noA e d),d,r⟩;have hKb:K.In (kK s₁.heap H):=fun b o e=>base_of (KX b o e) (by
   cases q:H b with
   | none=>rfl
   | some u =>have e':b=a:=hA b (by rw [q];simp);subst e';rw [hK (by rw [q];simp)] at e;cases e)
  have hM:Mod K mg (kK s₁.heap H):=⟨hKb,nsK hns,⟨mb,nsK hb,hbb⟩,let ⟨mc,h1,h2⟩:=hlim;⟨mc,nsK h1,h2⟩⟩;have e0:Env0 P w K mg (kK s₁.heap H) callerA [] s₁ H:=⟨rfl,hM,fun b o e=>HV e,Nat.le_of_eq (HS _ _),trivial,fun b hb=>absurd (show b∈([]:List Addr) from hb) (by simp),hok,.of_eq hg⟩;refine codeAny_mono ((F _ hKb (nsK hns)).run callerA [] s₁ H ⟨[.ref a],[]⟩ [.ref a] [.ref a] _ _ hr e0 (hbind s₁ (.ref a)) (.cons rfl .nil) (hsp H hO hS)) fun r s' h=>?_;cases r with
  | error e=>exact (hCX H e s' h).elim
  | ok fl =>
   cases fl with
   | next=>exact False.elim h
   | brk=>exact False.elim h
   | cont=>exact False.elim h
   | ret u =>
    obtain ⟨v,H',os,bare,un,hok',r',q⟩:=h;have q':v=.bl true:=q;subst q';obtain rfl:u=Value.bool true:=r';refine ⟨rfl,OldK.of_keep fun b o e=>?_,os,bare⟩;cases q:H b with
    | none=>exact un.keep b o e q (by intro z;exact absurd (show b∈([]:List Addr) from z) (by simp)) (by simp)
    | some u =>
     rcases hO b with z | ⟨ob,xs,z⟩
     .rw [q] at z;cases z
     .have z2:=un.frzs b ob _ z;obtain ⟨e1,_⟩:=hok b _ z;obtain ⟨e2,_⟩:=hok' b _ z2;rw [e] at e1;cases e1;exact e2
 cases hk:K.lookup a with
 | some o =>have e:=KX a o hk;rw [ha] at e;cases e;refine core (fun _=>none) (fun _=>.inl rfl) (.inr ⟨vs.toArray,_,hk,by rw [lH,lenV];exact hl,by simpa using rv⟩) (fun b u z=>by have z':(none:Option HO)=some u:=z;cases z') (fun b z=>absurd rfl z) fun z=>absurd rfl z
 | none =>
  refine core (fun b=>if b=a then some (.frz { cls:=.type "list",data:=.seq vs.toArray } (.lst (ns.map V.int))) else none) (fun b=>?_) (.inl (.inr ⟨{ cls:=.type "list",data:=.seq vs.toArray },if_pos rfl⟩)) (fun b u z=>?_) (fun b z=>?_) fun _=>hk
  .by_cases hb:b=a
   .exact .inr ⟨_,_,if_pos hb⟩
   .exact .inl (if_neg hb)
  .by_cases hb:b=a
   .have z':=(if_pos hb).symm.trans z;cases z';subst hb;exact ⟨ha,by rw [bA];exact hl,vs,_,rv,ha⟩
   .have z':=(if_neg hb).symm.trans z;cases z'
  .by_cases hb:b=a
   .exact hb
   .exact absurd (if_neg hb) z
end
section
variable {h:Heap} {x:Str} {st:Stmt} {fs:List (Str × Stmt)} {bs:List Str}
def oP (h:Heap) (ns:Addr) (x:Str):Option (Option Value):=match h.get? ns with
 | some ⟨_,_,.dict es _,_⟩=>(match es.toList.find? (·.key.isStr x) with
   | some e=>some (some e.val)
   | none=>if es.toList.any (·.refKey) then none else some none)
 | _=>none
structure FnV where
 name:Str
 qual:Str
 params:Arguments
 body:FuncBody
 scope:Scope
 globals:Addr
 closure:List (Str × Addr)
 defaults:Value
 builtins:Addr
def fnV (f:FuncData):FnV:=⟨f.name,f.qualname,f.params,f.body,f.scope,f.globals,f.closure,f.defaults,f.builtins⟩
def rZ (x:Str) (st:Stmt):FnV:=fnV (W.fnOf x x (kL st) (iG st) (bK st) .none .none .none .none none .none .none)
def vM (h:Heap) (cd:Value) (q:Str):Bool:=match cd with
 | .ref c=>(match h.get? c with
   | some ⟨_,_,.fields vs,_⟩=>(match vs.toList with | _::.str n _::_=>n==q | _=>false)
   | _=>false)
 | _=>false
def sA (h:Heap) (x:Str):Option (FnV × Bool):=match oP h mainGlobals x with
 | some (some (.ref a))=>(match h.get? a with
   | some ⟨_,_,.func f,_⟩=>some (fnV f,vM h f.code x)
   | _=>none)
 | _=>none
def kW (fs bs:List Str) (h:Heap):List (Option (FnV × Bool)) × List (Option (Option Value)):=(fs.map (sA h),bs.map (oP h mainGlobals))
def kX (fs:List (Str × Stmt)) (bs:List Str):List (Option (FnV × Bool)) × List (Option (Option Value)):=(fs.map fun p=>some (rZ p.1 p.2,true),bs.map fun _=>some none)
def ED (fs:List (Str × Stmt)) (bs:List Str):PySem.W.Hook :=
 ⟨_,fun s=>kW (fs.map (·.1)) bs s.heap,fun _=>kX fs bs,fun _ h=>∃ h0:Heap,(∀ b o,h0.get? b=some o->h.get? b=some o)/\kW (fs.map (·.1)) bs h0=kX fs bs,
  fun _ s e=>⟨s.heap,fun _ _ e=>e,e⟩,fun _ _ _ ⟨h0,a,b⟩ k=>⟨h0,fun c o e=>k c o (a c o e),b⟩⟩
def KH (h:Heap):W.Frag:=(List.range h.objs.size).filterMap fun a=>(h.get? a).map fun o=>(a,o)
theorem UN {a:Addr} {o:Obj} (e:h.get? a=some o):a<h.objs.size:=by
 by_cases hl:a<h.objs.size
 .exact hl
 .have:h.objs[a]?=none:=Array.getElem?_eq_none (Nat.le_of_not_lt hl);unfold Heap.get? at e;rw [this] at e;cases e
theorem EE {f:Addr->Option Obj} {a:Addr}:∀ l:List Addr,((l.filterMap fun b=>(f b).map fun o=>(b,o)).lookup a)=if a∈l then f a else none
 | []=>rfl
 | b::l=>by
  have ih:=EE (f:=f) (a:=a) l;rw [jD];by_cases hab:a=b
  .subst hab;cases hf:f a with
   | none=>simp only [Option.map_none];rw [ih,hf];simp
   | some o=>simp only [fB];rw [List.lookup_cons];simp
  .cases hf:f b with
   | none=>simp only [Option.map_none];rw [ih];simp [hab]
   | some o =>simp only [fB];rw [List.lookup_cons,show (a==b)=false by simpa using hab,ih];simp [hab]
theorem sB (h:Heap) (a:Addr):(KH h).lookup a=h.get? a:=by
 unfold KH;rw [EE];split
 .rfl
 .rename_i hn;cases e:h.get? a with
  | none=>rfl
  | some o=>exact absurd (List.mem_range.mpr (UN e)) hn
theorem UO {h':Heap} (k:∀ b o,h.get? b=some o->h'.get? b=some o):(KH h).In h':=fun a o e=>k a o (by rw [<- sB];exact e)
theorem vN {ns:Addr}:W.nsIn (KH h) ns x=oP h ns x:=by unfold W.nsIn oP;rw [sB];rfl
theorem UP {cd:Value} {q:Str}:W.codeIn (KH h) cd q=vM h cd q:=by
 unfold W.codeIn vM;cases cd with
 | ref c=>simp only [sB];rfl
 | _=>rfl
theorem EF (e:sA h x=some (rZ x st,true)):∃ f fd,W.nsIn (KH h) mainGlobals x=some (some (.ref f))/\Fun (KH h) x x st f fd:=by
 unfold sA at e;split at e
 .rename_i a ha;split at e
  .rename_i oc od f sl ho;have e:=dE e;have e1:=aW Prod.fst e;have e2:=aW Prod.snd e;dsimp only at e1 e2;obtain ⟨n,q,p,b,sc,g,cl,df,kd,doc,pm,an,cd,ct,bi⟩:=f;unfold rZ fnV at e1;dsimp only [W.fnOf] at e1;obtain ⟨rfl,rfl,rfl,rfl,rfl,rfl,rfl,rfl,rfl⟩:=FnV.mk.inj e1;have hl:(KH h).lookup a=some ⟨oc,od,.func (W.fnOf q q (kL st) (iG st) (bK st) .none kd doc pm an cd ct),sl⟩:=by rw [sB];exact ho
   refine ⟨a,_,by rw [vN];exact ha,LK hl (by rw [UP];exact e2) ?_⟩;simp only [W.keepIn,hl]
  .cases e
 .cases e
theorem EG (e:kW (fs.map (·.1)) bs h=kX fs bs) {p:Str × Stmt} (hp:p∈fs):sA h p.1=some (rZ p.1 p.2,true):=by have e1:=aW Prod.fst e;unfold kW kX at e1;dsimp only at e1;rw [cH] at e1;exact List.map_inj_left.mp e1 p hp
theorem EH (e:kW (fs.map (·.1)) bs h=kX fs bs) (hx:x∈bs):oP h mainGlobals x=some none:=by have e1:=aW Prod.snd e;unfold kW kX at e1;dsimp only at e1;exact List.map_inj_left.mp e1 x hx
structure St (x:Str) (D:Fd) (st:Stmt) (ps:List Str):Prop where
 sc:FnScope (fV (bK st)) ps (bK st)
 np:ps.length=D.np
 ns:(fV (bK st)).length=D.ns
 tr:jG 60 ⟨bK st,fV (bK st)⟩ (iG st)=some D.body
 bi:∀ (kV doc pm:Value) (an:Option Addr) (cdv ct:Value) (us:List Value),us.length=ps.length->bindArgs (W.fnOf x x (kL st) (iG st) (bK st) .none kV doc pm an cdv ct) ⟨us,[]⟩=pure (ps.zip us)
abbrev Tab:=List (Str × Fd × Stmt × List Str)
def Tab.fns (t:Tab):List (Str × Fd):=t.map fun p=>(p.1,p.2.1)
def Tab.sts (t:Tab):List (Str × Stmt):=t.map fun p=>(p.1,p.2.2.1)
def Tab.pr (t:Tab):Pr:=⟨fun f=>t.fns.lookup f⟩
theorem EI {α:Type}:∀ {l:List (Str × α)} {f:Str} {D:α},l.lookup f=some D->(f,D)∈l
 | [],_,_,h=>by cases h
 | (g,E)::l,f,D,h=>by
  rw [iE] at h;split at h
  .rename_i e;cases h;rw [cV e];exact cW
  .exact cL _ (EI h)
theorem UQ {F H:Hp} (e:oP h mainGlobals "_law_spoilt"=some none):Tbk (KH h) F H:=fun p q=>by unfold zI at q;rw [vN,e] at q;cases q
theorem UR {l:PySem.W.OpenLaw} {n k:Nat} {q:Program} {loose:List Str} {XP:(Str->Option Value)->Heap->Prop} {d:DefRec} {R:Pr}
  (hn:l.most=some n) (hn2:n<=sizeLine) (hdf:d.params.defaults=[]) (hr:Room k callerA)
  (F:∀ (w:World) (mg:Str->Option Value) (fa:Addr) (h0 h:Heap),(KH h0).In h->kW (fs.map (·.1)) bs h0=kX fs bs->h.Ns mainGlobals mg->mg d.name=some (.ref fa) ->
   ∃ fd:FuncData,(∀ (s:Shared) (u:Value),BindsTo s fd ⟨[u],[]⟩ [(x,u)])/\∀ base:Heap,(KH h0).In base->base.Ns mainGlobals mg->FnOk l.prog w (KH h0) mg base CX0 k fa fd [x] (spT (KH h0) (run R k "law")))
  (hsp:("_law_spoilt":Str)∈bs) (law:∀ ns:List Int,ns.length<=n->run R k "law" [.lst (ns.map .int)]=some (.bl true)) :
  PySem.W.WalkO q loose XP (ED fs bs).says l.row.toRowW d [] (fun f vs=>PySem.call f vs):=by
 refine Att.attach_call hn hdf fun w s₀ s₁ mg mb fa o pm cd doc a vs ns G Y ho hd hcd hmg hobj hints hlen hg=>?_;obtain ⟨h0,k0,e0⟩:=Y;have KX:=UO k0;obtain ⟨fd,hb,hF⟩:=F w mg fa h0 _ KX e0 G.T.g hmg;exact UM KX G.T.g G.T.b G.T.builtins G.T.nolimit hg hobj hints (cG hlen hn2) hr hF hb (fun H hO hS=>by
  have ri:∀ ns:List Int,aF (KH h0) H (ns.map .int) (ns.map V.int):=fun ns=>by
   induction ns with
   | nil=>exact rfl
   | cons i r ih=>exact ⟨_,_,rfl,rfl,ih⟩
  exact ⟨H,[.lst (ns.map .int)],.bl true,Same.refl H,UQ (EH e0 hsp),⟨_,_,rfl,⟨a,_,rfl,hS,ri ns⟩,rfl⟩,law ns hlen,fun v F' H' _ r=>r⟩) fun H e s' z=>z
theorem US {P:Program} {w:World} {mg:Str->Option Value} {fa:Addr} {h0:Heap} {tab:Tab} {D:Fd} {k:Nat} (hst:∀ p∈tab,St p.1 p.2.1 p.2.2.1 p.2.2.2) (KX:(KH h0).In h)
  (e0:kW (tab.sts.map (·.1)) ("_law_spoilt"::bnames) h0=kX tab.sts ("_law_spoilt"::bnames)) (G:h.Ns mainGlobals mg) (hfa:mg "law"=some (.ref fa)) (hl:(("law":Str),D,st,[x])∈tab) (hD:tab.fns.lookup ("law":Str)=some D) :
  ∃ fd:FuncData,(∀ (s:Shared) (u:Value),BindsTo s fd ⟨[u],[]⟩ [(x,u)])/\∀ base:Heap,(KH h0).In base->base.Ns mainGlobals mg->FnOk P w (KH h0) mg base CX0 (k+1) fa fd [x] (spT (KH h0) (run tab.pr (k+1) "law")):=by
 have nob:∀ x∈bnames,mg x=none:=fun x hx=>PySem.W.mg_none_of KX G (by rw [vN];exact EH e0 (cL _ hx));have one:∀ p∈tab,∃ a fd,FnD (KH h0) mg p.1 p.2.1 p.2.2.1 a fd p.2.2.2:=fun p hp=>by obtain ⟨f,fd,h1,F⟩:=EF (EG (p:=(p.1,p.2.2.1)) e0 (cO.mpr ⟨p,hp,rfl⟩));have S:=hst p hp;exact ⟨f,fd,⟨_,_,F⟩,S.sc,S.np,S.ns,S.tr,W.mg_of KX G h1,F.kp,F.binds S.bi⟩
 have L:∀ f D,tab.pr.fn f=some D->∃ st a fd ps,FnD (KH h0) mg f D st a fd ps:=fun f D hf=>by obtain ⟨p,hp,e⟩:=omm (EI (show tab.fns.lookup f=some D from hf));cases e;obtain ⟨a,fd,M⟩:=one p hp;exact ⟨_,_,_,_,M⟩
 obtain ⟨f,fd,h1,F⟩:=EF (EG (p:=(("law":Str),st)) e0 (cO.mpr ⟨(("law":Str),D,st,[x]),hl,rfl⟩));have hm:=W.mg_of KX G h1;rw [hfa] at hm;cases hm;have S:=hst _ hl;have M:FnD (KH h0) mg "law" D st fa fd [x]:=⟨⟨_,_,F⟩,S.sc,S.np,S.ns,S.tr,hfa,F.kp,F.binds S.bi⟩;refine ⟨fd,fun s u=>?_,fun base _ _=>EB (EC L nob k) nob hD M⟩;obtain ⟨oc,od,kV,doc,pm,an,cdv,ct,osl,rfl,_,_⟩:=F.ex;exact .of_eq (S.bi kV doc pm an cdv ct [u] rfl)
theorem EJ:∀ (ps:List Str) (us:List Value),us.length=ps.length->∀ n∈ps,((ps.zip us).lookup n).isNone=false
 | p::ps,u::us,hl,n,hn=>by
  rw [List.zip_cons_cons,iE];cases e:n==p with
  | true=>rfl
  | false=>exact EJ ps us (by simpa using hl) n ((omc hn).resolve_left fun z=>by subst z;simp at e)
theorem EK:∀ (ps:List Str) (us:List Value),us.length=ps.length->ps.Nodup->ps.filterMap (fun n=>((ps.zip us).lookup n).map (n,·))=ps.zip us
 | [],us,_,_=>by cases us<;>rfl
 | p::ps,u::us,hl,hn=>by
  rw [cK] at hn;rw [List.zip_cons_cons,jD,iE,jN];simp only [fB];congr 1;refine Eq.trans (zH fun n h=>?_) (EK ps us (by simpa using hl) hn.2);rw [iE];cases e:n==p with
  | true=>rw [cV e] at h;exact absurd h hn.1
  | false=>rfl
theorem UT {fd:FuncData} {as:List Arg} {us:List Value} (h:fd.params=⟨[],as,none,[],[],none,[]⟩) (hd:fd.defaults=.none) (hn:(as.map (·.arg)).Nodup) (hl:us.length=(as.map (·.arg)).length):bindArgs fd ⟨us,[]⟩=pure ((as.map (·.arg)).zip us):=by
 have e1:((as.map (·.arg)).filter fun n=>(((as.map (·.arg)).zip us).lookup n).isNone)=[]:=List.filter_eq_nil_iff.mpr fun n hn=>by rw [EJ _ us hl n hn];simp
 have e2:=EK _ us hl hn;have e3:seqItems? Value.none=(pure none:Sem _):=rfl;unfold bindArgs;rw [h,hd];dsimp only;generalize as.map (·.arg)=ps at hn hl e1 e2 ⊢;simp only [bH,List.nil_append,List.append_nil,List.forIn_nil,pure_bind,e3,Option.getD_none,List.length_nil,hl,gt_iff_lt,Nat.lt_irrefl,decide_false,Bool.false_and,Bool.false_eq_true,if_false,Nat.zero_sub,List.drop_zero,Nat.sub_zero,List.take_length,e1,List.isEmpty_nil,Bool.not_true,List.drop_length,List.zip_nil_left,e2]
 done
noncomputable def vO (D:Fd) (st:Stmt) (ps:List Str):Bool :=
 (bK st).kind==.function&&!(bK st).isCoroutine&&!(bK st).isGenerator&&decide ((fV (bK st)).Nodup)&&decide ((fV (bK st)).take ps.length=ps) &&
 (ps.all fun x=>(bK st).names.lookup x==some .local||(bK st).names.lookup x==some .cell)&&((bK st).names.all fun y=>!(y.2==.free)) &&
 decide (ps.length=D.np)&&decide ((fV (bK st)).length=D.ns) &&
 (match kL st with | ⟨[],as,none,[],[],none,[]⟩=>decide (as.map (·.arg)=ps) | _=>false)
theorem UU {D:Fd} {ps:List Str} (h:vO D st ps=true) (tr:jG 60 ⟨bK st,fV (bK st)⟩ (iG st)=some D.body):St x D st ps:=by
 unfold vO at h;simp only [Bool.and_eq_true,Bool.not_eq_true',decide_eq_true_eq,beq_iff_eq] at h;obtain ⟨⟨⟨⟨⟨⟨⟨⟨⟨h1,h2⟩,h3⟩,h4⟩,h5⟩,h6⟩,h7⟩,h8⟩,h9⟩,h10⟩:=h;have hnd:ps.Nodup:=by rw [<- h5];exact h4.sublist (List.take_sublist _ _)
 refine ⟨⟨h1,h2,h3,h4,h5,fun y hy=>by simpa using oml h6 y hy,fun y hy=>by simpa using oml h7 y hy⟩,h8,h9,tr,fun kV doc pm an cdv ct us hl=>?_⟩;split at h10
 .rename_i as ha;rw [qL] at h10;subst h10;exact UT ha rfl hnd hl
 .cases h10
end
end Ev
namespace Ev.K04
open PySem
section
variable {P:Pr}
noncomputable def gX:Fd:=⟨3,4,[.asg 3 (.comp (.idx (.var 0) (.cst (.int 0))) 1 .plain [.idx (.var 0) (.cst (.int 1))] none),
  .ret (.blt .toTuple (.comp (.idx (.var 2) (.mth .index (.var 4) (.var 0))) 1 .plain [.var 2] none))]⟩
noncomputable def gD:Fd:=⟨3,4,[.asg 3 (.idx (.var 1) (.cst (.int 0))),
  .ite (.cmp .eq (.var 3) (.cst (.str "not"))) [.ret (.call "opposite" [.call "holds" [.var 0,.idx (.var 1) (.cst (.int 1)),.var 2]])] [],
  .ite (.lor (.cmp .eq (.var 3) (.cst (.str "and"))) (.cmp .eq (.var 3) (.cst (.str "or")))) [.ret (.call "joined" [.cmp .eq (.var 3) (.cst (.str "or")),.comp (.call "holds" [.var 1,.var 0,.var 3]) 1 .plain [.sli (.var 1) (some (.cst (.int 1))) none] none])] [],
  .ite (.cmp .eq (.var 3) (.cst (.str "empty"))) [.ret (.cmp .eq (.call "worths_of" [.var 0,.var 2,.sli (.var 1) (some (.cst (.int 1))) none]) (.tup [.cst .non]))] [],
  .ite (.cmp .eq (.var 3) (.cst (.str "is"))) [.ret (.call "compared" [.var 3,.bin .add (.call "worths_of" [.var 0,.var 2,.sli (.var 1) (some (.cst (.int 1))) (some (.cst (.int 2)))]) (.sli (.var 1) (some (.cst (.int 2))) none)])] [],
  .ret (.call "compared" [.var 3,.call "worths_of" [.var 0,.var 2,.sli (.var 1) (some (.cst (.int 1))) none]])]⟩
noncomputable def nJ:Fd:=⟨1,1,[.ite (.cmp .isN (.var 0) (.cst .non)) [.ret (.cst .non)] [],
  .ret (.lnot (.var 0))]⟩
noncomputable def vP:List S:=[.ite (.cmp .isin (.var 0) (.var 1)) [.ret (.var 0)] [],
  .ite (.cmp .isin (.cst .non) (.var 1)) [.ret (.cst .non)] [],
  .ret (.lnot (.var 0))]
noncomputable def pS:Fd:=⟨2,2,vP⟩
noncomputable def kB:Fd:=⟨2,2,[.ite (.cmp .isin (.cst .non) (.var 1)) [.ret (.cst .non)] [],
  .ite (.cmp .eq (.var 0) (.cst (.str "is"))) [.ret (.cmp .eq (.idx (.var 1) (.cst (.int 0))) (.idx (.var 1) (.cst (.int 1))))] [],
  .ret (.cmp .lt (.idx (.var 1) (.cst (.int 0))) (.idx (.var 1) (.cst (.int 1))))]⟩
noncomputable def oQ:Fd:=⟨2,2,[.ite (.cmp .lt (.var 1) (.blt .len (.var 0))) [.ret (.idx (.var 0) (.var 1))] [],
  .ret (.cst (.int 0))]⟩
noncomputable def sC:Fd:=⟨2,3,[.asg 2 (.bin .mod (.bin .mul (.bin .add (.bin .add (.call "_law_cell_at" [.var 0,.var 1]) (.bin .mul (.cst (.int 7919)) (.var 1))) (.cst (.int 1))) (.cst (.int 48271))) (.cst (.int 2147483647))),
  .ret (.bin .mod (.bin .add (.bin .add (.bin .mul (.var 2) (.var 2)) (.bin .mul (.cst (.int 7)) (.var 2))) (.var 1)) (.cst (.int 2147483629)))]⟩
noncomputable def iI:Fd:=⟨2,3,[.asg 2 (.bin .mod (.bin .mul (.bin .add (.bin .add (.var 0) (.bin .mul (.cst (.int 104729)) (.var 1))) (.cst (.int 17))) (.cst (.int 69621))) (.cst (.int 2147483647))),
  .ret (.bin .mod (.bin .add (.bin .add (.bin .mul (.var 2) (.var 2)) (.bin .mul (.cst (.int 3)) (.var 2))) (.var 1)) (.cst (.int 2147483629)))]⟩
noncomputable def nK:Fd:=⟨1,1,[.ret (.comp (.idx (.var 0) (.cst (.int 0))) 1 .plain [.idx (.var 0) (.cst (.int 1))] none)]⟩
noncomputable def vQ:List S:=[.ret (.idx (.comp (.var 0) 1 .plain [.var 0] (some (.cmp .eq (.idx (.var 0) (.cst (.int 0))) (.var 2)))) (.cst (.int 0)))]
noncomputable def vR:Fd:=⟨2,2,vQ⟩
noncomputable def oR:Fd:=⟨2,2,[.ret (.blt .toTuple (.comp (.idx (.var 2) (.mth .index (.call "_law_names" [.var 1]) (.var 0))) 1 .plain [.idx (.var 0) (.cst (.int 2))] none))]⟩
noncomputable def pU:Fd:=⟨3,4,[.asg 3 (.blt .toTuple (.comp (.idx (.var 2) (.mth .index (.call "_law_names" [.var 1]) (.var 0))) 1 .plain [.var 2] none)),
  .ret (.idx (.lst [.var 3,.cst .non]) (.blt .toInt (.cmp .isin (.cst .non) (.var 3))))]⟩
noncomputable def vS:List S:=[.ret (.idx (.var 1) (.mth .index (.comp (.idx (.var 0) (.cst (.int 0))) 1 .plain [.var 0] none) (.var 2)))]
noncomputable def vT:Fd:=⟨3,3,vS⟩
noncomputable def iU:Fd:=⟨3,9,[.asg 3 (.idx (.var 0) (.cst (.int 1))),
  .asg 4 (.idx (.var 3) (.bin .mod (.bin .fdiv (.var 1) (.cst (.int 8))) (.blt .len (.var 3)))),
  .asg 5 (.bin .mod (.var 1) (.cst (.int 8))),
  .ite (.land (.cmp .gt (.var 2) (.cst (.int 1))) (.cmp .gt (.var 5) (.cst (.int 4)))) [.asg 6 (.comp (.call "_law_test" [.var 1,.bin .fdiv (.call "_law_drawn" [.var 2,.var 0]) (.cst (.int 4)),.bin .sub (.var 3) (.cst (.int 1))]) 1 .plain [.tup [.cst (.int 1),.cst (.int 2)]] none),
  .ret (.idx (.lst [.tup [.cst (.str "not"),.idx (.var 6) (.cst (.int 0))],.tup [.cst (.str "and"),.idx (.var 6) (.cst (.int 0)),.idx (.var 6) (.cst (.int 1))],.tup [.cst (.str "or"),.idx (.var 6) (.cst (.int 0)),.idx (.var 6) (.cst (.int 1))]]) (.bin .sub (.var 5) (.cst (.int 5))))] [],
  .ite (.cmp .eq (.var 5) (.cst (.int 0))) [.ret (.tup [.cst (.str "empty"),.idx (.var 4) (.cst (.int 0))])] [],
  .asg 7 (.comp (.idx (.var 0) (.cst (.int 0))) 1 .plain [.var 3] (some (.cmp .eq (.idx (.var 0) (.cst (.int 1))) (.idx (.var 5) (.cst (.int 1)))))),
  .ite (.cmp .eq (.var 5) (.cst (.int 1))) [.ret (.tup [.cst (.str "below"),.idx (.var 4) (.cst (.int 0)),.idx (.var 7) (.bin .mod (.bin .fdiv (.var 1) (.cst (.int 64))) (.blt .len (.var 7)))])] [],
  .asg 8 (.idx (.lst [.tup [.cst (.int 0),.cst (.int 1),.cst (.int 2),.cst (.int 3),.neg (.cst (.int 5)),.cst (.int 999)],.tup [.cst (.str ""),.cst (.str "a"),.cst (.str "b"),.cst (.str "ab"),.cst (.str "x9"),.cst (.str "zzzzzz")]]) (.blt .toInt (.cmp .eq (.idx (.var 4) (.cst (.int 1))) (.cst (.str "text"))))),
  .ret (.tup [.cst (.str "is"),.idx (.var 4) (.cst (.int 0)),.idx (.var 8) (.bin .mod (.bin .fdiv (.var 1) (.cst (.int 64))) (.cst (.int 6)))])]⟩
noncomputable def sD:List S:=[.asg 6 (.bin .fdiv (.call "_law_drawn" [.var 1,.bin .add (.cst (.int 10)) (.var 4)]) (.cst (.int 4))),
  .ite (.cmp .gt (.bin .mod (.var 6) (.cst (.int 4))) (.cst (.int 0))) [.app 3 (.tup [.var 5,.idx (.var 2) (.bin .mod (.bin .fdiv (.var 6) (.cst (.int 4))) (.cst (.int 6))),.cmp .gt (.bin .mod (.bin .fdiv (.var 6) (.cst (.int 32))) (.cst (.int 3))) (.cst (.int 0))])] []]
noncomputable def kY:Fd:=⟨2,10,[.asg 2 (.tup [.cst (.str "whole"),.cst (.str "whole"),.cst (.str "text"),.cst (.str "whole"),.cst (.str "text"),.cst (.str "whole")]),
  .asg 3 (.lst [.tup [.cst (.str "id"),.idx (.var 2) (.bin .mod (.var 1) (.cst (.int 6))),.cst (.bl false)]]),
  .loop [4,5] .enum [.tup [.cst (.str "n"),.cst (.str "t"),.cst (.str "u")]] sD,
  .asg 7 (.comp (.idx (.var 0) (.cst (.int 0))) 1 .plain [.var 3] (some (.lnot (.tru (.idx (.var 0) (.cst (.int 2))))))),
  .asg 8 (.tup [.cst (.str "id")]),
  .ite (.land (.cmp .eq (.bin .mod (.bin .fdiv (.var 1) (.cst (.int 8))) (.cst (.int 4))) (.cst (.int 0))) (.cmp .gt (.blt .len (.var 7)) (.cst (.int 1)))) [.asg 8 (.idx (.lst [.tup [.cst (.str "id"),.idx (.var 7) (.cst (.int 1))],.tup [.idx (.var 7) (.cst (.int 1)),.cst (.str "id")]]) (.bin .mod (.bin .fdiv (.var 1) (.cst (.int 32))) (.cst (.int 2))))] [],
  .asg 9 (.bin .mod (.bin .fdiv (.var 1) (.cst (.int 64))) (.blt .len (.var 3))),
  .ret (.tup [.var 0,.blt .toTuple (.bin .add (.sli (.var 3) (some (.var 9)) none) (.sli (.var 3) none (some (.var 9)))),.var 8,.tup []])]⟩
noncomputable def mD:Fd:=⟨2,6,[.asg 2 (.lst [.tup []]),
  .loop [3] .plain [.var 1] [.asg 4 (.lst []),
  .loop [5] .plain [.var 2] [.asg 4 (.bin .add (.var 4) (.comp (.bin .add (.var 6) (.tup [.idx (.var 0) (.cst (.int 0))])) 1 .plain [.idx (.var 0) (.cst (.int 1))] (some (.land (.cmp .eq (.idx (.var 0) (.cst (.int 1))) (.var 4)) (.cmp .notin (.idx (.var 0) (.cst (.int 0))) (.var 6))))))],
  .asg 2 (.var 4)],
  .ret (.var 2)]⟩
noncomputable def kC:Fd:=⟨3,11,[.asg 3 (.idx (.var 0) (.bin .mod (.bin .fdiv (.var 2) (.cst (.int 8))) (.blt .len (.var 0)))),
  .asg 4 (.comp (.idx (.comp (.idx (.var 0) (.cst (.int 1))) 1 .plain [.idx (.var 4) (.cst (.int 1))] (some (.cmp .eq (.idx (.var 0) (.cst (.int 0))) (.var 1)))) (.cst (.int 0))) 1 .plain [.idx (.var 3) (.cst (.int 2))] none),
  .asg 5 (.call "_law_pairs" [.var 1,.var 4]),
  .ite (.land (.cmp .lt (.bin .mod (.var 2) (.cst (.int 8))) (.cst (.int 5))) (.cmp .ne (.var 5) (.lst []))) [.asg 6 (.idx (.var 5) (.bin .mod (.bin .fdiv (.var 2) (.cst (.int 64))) (.blt .len (.var 5)))),
  .asg 7 (.idx (.tup [.cst (.str "along"),.cst (.str "stop"),.cst (.str "late"),.cst (.str "gap"),.cst (.str "along"),.cst (.str "gap")]) (.bin .mod (.bin .fdiv (.var 2) (.cst (.int 1024))) (.cst (.int 6)))),
  .asg 8 (.comp (.var 0) 1 .plain [.idx (.var 1) (.cst (.int 1))] (some (.land (.cmp .isin (.idx (.var 0) (.cst (.int 0))) (.var 7)) (.lnot (.tru (.idx (.var 0) (.cst (.int 2)))))))),
  .ite (.land (.cmp .ne (.var 8) (.lst [])) (.cmp .eq (.var 7) (.cst (.str "gap")))) [.asg 7 (.cst (.str "late"))] [],
  .ret (.tup [.cst (.str "refers"),.var 6,.idx (.var 3) (.cst (.int 0)),.var 7])] [],
  .asg 9 (.comp (.idx (.var 0) (.cst (.int 0))) 1 .plain [.idx (.var 1) (.cst (.int 1))] none),
  .ite (.cmp .eq (.bin .mod (.var 2) (.cst (.int 8))) (.cst (.int 5))) [.asg 10 (.bin .mod (.bin .fdiv (.var 2) (.cst (.int 64))) (.blt .len (.var 9))),
  .ret (.tup [.cst (.str "unlike"),.sli (.bin .add (.sli (.var 9) (some (.var 10)) none) (.sli (.var 9) none (some (.var 10)))) none (some (.bin .add (.cst (.int 1)) (.bin .mod (.bin .fdiv (.var 2) (.cst (.int 1024))) (.cst (.int 2)))))])] [],
  .ret (.tup [.cst (.str "check"),.call "_law_test" [.var 1,.bin .fdiv (.var 2) (.cst (.int 64)),.bin .add (.cst (.int 1)) (.bin .mod (.bin .fdiv (.var 2) (.cst (.int 1024))) (.cst (.int 3)))]])]⟩
noncomputable def sE:Fd:=⟨1,11,[.asg 1 (.lst [.cst (.str "item"),.cst (.str "user"),.cst (.str "box"),.cst (.str "log")]),
  .asg 2 (.bin .mod (.var 0) (.cst (.int 4))),
  .asg 1 (.sli (.bin .add (.sli (.var 1) (some (.var 2)) none) (.sli (.var 1) none (some (.var 2)))) none (some (.idx (.tup [.cst (.int 2),.cst (.int 1),.cst (.int 3),.cst (.int 4),.cst (.int 2),.cst (.int 3)]) (.bin .mod (.bin .fdiv (.var 0) (.cst (.int 4))) (.cst (.int 6)))))),
  .asg 4 (.comp (.call "_law_bare" [.var 1,.bin .fdiv (.call "_law_drawn" [.var 2,.var 0]) (.cst (.int 4))]) 2 .enum [.var 1] none),
  .asg 5 (.tup []),
  .loop [3,6] .enum [.var 4] [.asg 7 (.bin .fdiv (.call "_law_drawn" [.var 0,.bin .add (.cst (.int 20)) (.var 3)]) (.cst (.int 4))),
  .asg 8 (.lst []),
  .loop [9] .range [.idx (.tup [.cst (.int 1),.cst (.int 2),.cst (.int 0),.cst (.int 1),.cst (.int 3)]) (.bin .mod (.var 7) (.cst (.int 5)))] [.app 8 (.call "_law_rule" [.var 4,.var 6,.bin .fdiv (.call "_law_drawn" [.var 7,.var 9]) (.cst (.int 4))])],
  .asg 10 (.blt .toTuple (.comp (.bin .add (.tup [.idx (.var 0) (.cst (.int 0)),.blt .toTuple (.idx (.var 0) (.cst (.int 1)))]) (.sli (.var 0) (some (.cst (.int 2))) none)) 1 .plain [.var 8] none)),
  .asg 5 (.bin .add (.var 5) (.tup [.bin .add (.sli (.var 6) none (some (.cst (.int 3)))) (.tup [.var 10])]))],
  .ret (.var 5)]⟩
noncomputable def iJ:Fd:=⟨2,2,[.ite (.land (.tru (.idx (.var 0) (.cst (.int 2)))) (.cmp .eq (.bin .mod (.var 1) (.cst (.int 4))) (.cst (.int 0)))) [.ret (.cst .non)] [],
  .ite (.cmp .eq (.idx (.var 0) (.cst (.int 1))) (.cst (.str "text"))) [.ret (.idx (.lst [.cst (.str "a"),.cst (.str "b"),.cst (.str ""),.cst (.str "ab"),.cst (.str "a"),.cst (.str "x9")]) (.bin .mod (.bin .fdiv (.var 1) (.cst (.int 4))) (.cst (.int 6))))] [],
  .ret (.idx (.lst [.cst (.int 0),.cst (.int 1),.cst (.int 2),.cst (.int 3),.cst (.int 1),.cst (.int 2),.cst (.int 4),.neg (.cst (.int 5))]) (.bin .mod (.bin .fdiv (.var 1) (.cst (.int 4))) (.cst (.int 8))))]⟩
noncomputable def vU:List S:=[.ret (.blt .toTuple (.comp (.call "_law_worth" [.var 1,.bin .fdiv (.call "_law_drawn" [.var 3,.var 0]) (.cst (.int 4))]) 2 .enum [.idx (.var 0) (.cst (.int 1))] none))]
noncomputable def sG:Fd:=⟨2,2,vU⟩
theorem cE {n:Nat} {f:Str} {D:Fd} {ts:List T} (h:P.fn f=some D) (hl:ts.length=D.np):run P (n+1) f ts=aY (aE (glo P (run P n)) D.body (cU D ts)):=by rw [run,h];simp [hl]
noncomputable def dH (a k:Int):Int:=((a+104729*k+17)*69621%2147483647*((a+104729*k+17)*69621%2147483647)+3*((a+104729*k+17)*69621%2147483647)+k)%2147483629
noncomputable def mE (a k:Int):Int:=((a+7919*k+1)*48271%2147483647*((a+7919*k+1)*48271%2147483647)+7*((a+7919*k+1)*48271%2147483647)+k)%2147483629
theorem vV {a:Int} (h0:0<=a) (h1:a<2147483647):mU a=true:=by unfold mU;rw [bX (by lia),bX (by lia)];rfl
theorem EL (a:Int):mU (a%2147483647)=true:=vV (mL _ (by decide)) (mK _ (by decide))
theorem mF (h:P.fn "_law_drawn"=some iI) (n:Nat) (a k:Int):run P (n+1) "_law_drawn" [.int a,.int k]=some (.int (dH a k)):=by rw [cE h rfl];simp [iI,aE,evS,evE,cU,aB,aQ,aJ,Sl.get,Sl.frz,bI,dN,lS,cZ,dZ,fresh,aY,glo,SZ,EL,vV,dH]
noncomputable def iV (ns:List Int) (k:Nat):Int:=ns.getD k 0
theorem gY {xs:List T} {k:Nat} {t:T} (h:xs[k]?=some t):dA xs (k:Int)=some t:=by have hk:k<xs.length:=(ome h).1;unfold dA ixI;rw [if_pos (by lia),if_pos (by lia)];simpa using h
theorem UV (h:P.fn "_law_cell_at"=some oQ) (n:Nat) (ns:List Int) (k:Nat):run P (n+1) "_law_cell_at" [.lst (ns.map .int),.int (k:Int)]=some (.int (iV ns k)):=by
 rw [cE h rfl];by_cases hk:k<ns.length
 .have e:dA (ns.map T.int) (k:Int)=some (.int (iV ns k)):=gY (by simp [iV,hk]);have hd:decide ((k:Int)<(ns.length:Int))=true:=bX (by lia);simp [oQ,aE,evS,evE,cU,aB,aQ,aJ,Sl.get,Sl.frz,aY,bB,aK,bO,glo,ltC,hk,e]
 .have e:iV ns k=0:=by simp [iV,List.getD_eq_getElem?_getD,List.getElem?_eq_none (Nat.le_of_not_lt hk)]
  simp [oQ,aE,evS,evE,cU,aB,aQ,aJ,Sl.get,Sl.frz,aY,bB,aK,bO,glo,ltC,hk,e]
theorem UW (hc:P.fn "_law_cell_at"=some oQ) (h:P.fn "_law_mixed"=some sC) (n:Nat) (ns:List Int) (k:Nat):run P (n+2) "_law_mixed" [.lst (ns.map .int),.int (k:Int)]=some (.int (mE (iV ns k) k)):=by rw [cE h rfl];have e:=UV hc n ns k;simp [sC,aE,evS,evE,aG,cU,aB,aQ,aJ,cJ,Sl.get,Sl.frz,bI,dN,lS,cZ,dZ,fresh,aY,glo,SZ,EL,vV,mE,e]
structure Col where
 n:Str
 k:Str
 g:Bool
noncomputable def Col.t (c:Col):T:=.tup [.str c.n,.str c.k,.bl c.g]
noncomputable def kinds6:List Str:=["whole", "whole", "text", "whole", "text", "whole"]
noncomputable def fJ (i:Int):Str:=kinds6.getD (i%6).toNat "whole"
theorem UX {xs:List T} {m:Nat} (hm:xs.length=m) (h0:0<m) (i:Int):dA xs (i%(m:Int))=some (xs.getD (i%(m:Int)).toNat .non):=by have h1:0<=i%(m:Int):=mL _ (by lia);have h2:i%(m:Int)<(m:Int):=mK _ (by lia);unfold dA ixI;rw [if_pos h1,if_pos (by lia)];simp only [aT,List.getD_eq_getElem?_getD];rw [bW (by lia)];rfl
theorem EM (i:Int):dA [.str "whole",.str "whole",.str "text",.str "whole",.str "text",.str "whole"] (i%6)=some (.str (fJ i)):=by
 have h1:0<=i%6:=mL _ (by decide);have h2:i%6<6:=mK _ (by decide);have e:=UX (xs:=[.str "whole",.str "whole",.str "text",.str "whole",.str "text",.str "whole"]) (m:=6) rfl (by decide) i;have e':((6:Nat):Int)=6:=rfl;rw [e'] at e;rw [e,fJ,kinds6];have:(i%6).toNat=0\/(i%6).toNat=1\/(i%6).toNat=2\/(i%6).toNat=3\/(i%6).toNat=4\/(i%6).toNat=5:=by lia
 rcases this with z | z | z | z | z | z<;>rw [z]<;>rfl
noncomputable def kD (k j:Int) (nm:Str):List Col:=if 0<dH k (10+j)/4%4 then [⟨nm,fJ (dH k (10+j)/4/4),decide (0<dH k (10+j)/4/32%3)⟩] else []
noncomputable def bT (k:Int):List Col:=[⟨"id",fJ k,false⟩]++(kD k 0 "n"++(kD k 1 "t"++kD k 2 "u"))
end
section
variable {G:Glo} {ss:List S} {U:List Sl} {t:T}
theorem bP {s:S} {U':List Sl} (h:evS G s U=some (.nx U')):aE G (s::ss) U=aE G ss U':=by rw [aE,h];rfl
theorem kE {s:S} (h:evS G s U=some (.rt t)):aE G (s::ss) U=some (.rt t):=by rw [aE,h];rfl
theorem bC {i:Nat} {e:E} {U':List Sl} (h0:aQ (aJ e) U=U) (h1:evE G e (aB U)=some t) (h2:U.set i (dZ e t)=U'):aE G (.asg i e::ss) U=aE G ss U':=bP (by rw [evS,h0,h1,<- h2];rfl)
theorem cF {e:E} (h0:aQ (aJ e) U=U) (h1:evE G e (aB U)=some t):aE G (.ret e::ss) U=some (.rt t):=kE (by rw [evS,h0,h1];rfl)
theorem cQ {c:E} {a:List S} (h0:aQ (aJ c) U=U) (h1:evE G c (aB U)=some (.bl false)):aE G (.ite c a []::ss) U=aE G ss U:=bP (by rw [evS,h0,h1];rfl)
theorem fP {c:E} {a b:List S} (h0:aQ (aJ c) U=U) (h1:evE G c (aB U)=some (.bl true)) (h2:aE G a U=some (.rt t)):aE G (.ite c a b::ss) U=some (.rt t):=kE (by rw [evS,h0,h1];exact h2)
theorem iW {α:Type} {enc:α->T} {f:T->Option (Option T)} (g:α->Option T):∀ {l:List α},(∀ a∈l,f (enc a)=some (g a))->dP f (l.map enc)=some (l.filterMap g)
 | [],_=>rfl
 | a::l,h=>by rw [aS,dP,h a cW,iW g fun b hb=>h b (cL _ hb),jD];cases g a<;>rfl
noncomputable def eV (cs:List Col):List Str:=cs.filterMap fun c=>if c.g then none else some c.n
noncomputable def iK (k:Int) (cs:List Col):List Str:=if k/8%4=0/\1<(eV cs).length then (if k/32%2=0 then ["id",(eV cs).getD 1 "id"] else [(eV cs).getD 1 "id", "id"]) else ["id"]
noncomputable def eY {α:Type} (cs:List α) (b:Nat):List α:=cs.drop b++cs.take b
theorem pV (k j:Int) (nm:Str):(kD k j nm).length<=1:=by unfold kD;split<;>simp
theorem EN (k:Int):1<=(bT k).length/\(bT k).length<=4:=by have h1:=pV k 0 "n";have h2:=pV k 1 "t";have h3:=pV k 2 "u";unfold bT;simp only [List.length_append,List.length_cons,List.length_nil];lia
theorem vW (xs:List T) (b:Nat) (h:b<=xs.length):cut xs (some (b:Int)) none=xs.drop b:=by
 unfold cut gP;have e:min ((b:Int)).toNat xs.length=b:=by lia
 simp only [show ¬ ((b:Int)<0) by lia,if_false,e];rw [List.take_of_length_le];simp
theorem vX (xs:List T) (b:Nat) (h:b<=xs.length):cut xs none (some (b:Int))=xs.take b:=by
 unfold cut gP;have e:min ((b:Int)).toNat xs.length=b:=by lia
 simp only [show ¬ ((b:Int)<0) by lia,if_false,e];simp
noncomputable def gE (nm:Str) (cs:List Col) (key:List Str) (rules:List T):T:=.tup [.str nm,.tup (cs.map Col.t),.tup (key.map .str),.tup rules]
abbrev kd6:T:=.tup [.str "whole",.str "whole",.str "text",.str "whole",.str "text",.str "whole"]
theorem UY {nm:T} {k j:Int} {x:Str} {cs:List Col} {s4 s5 s6:Sl} (e:G.call "_law_drawn" [.int k,.int (10+j)]=some (.int (dH k (10+j)))) (hl:cs.length<=10) :
  ((bD [4,5] (.tup [.int j,.str x]) [.val nm,.val (.int k),.val kd6,.own (cs.map Col.t),s4,s5,s6,.no,.no,.no]).bind fun U'=>aE G sD U') =
   some (.nx [.val nm,.val (.int k),.val kd6,.own ((cs++kD k j x).map Col.t),.val (.int j),.val (.str x),.val (.int (dH k (10+j)/4)),.no,.no,.no]):=by
 show aE G sD [.val nm,.val (.int k),.val kd6,.own (cs.map Col.t),.val (.int j),.val (.str x),s6,.no,.no,.no]=_;generalize hq:dH k (10+j)=q at e;refine (bC (t:=.int (q/4)) (U':=[.val nm,.val (.int k),.val kd6,.own (cs.map Col.t),.val (.int j),.val (.str x),.val (.int (q/4)),.no,.no,.no]) rfl (by simp [evE,aG,aB,Sl.get,bI,dN,cT,e]) rfl).trans ?_;unfold kD;rw [hq];have hc:evE G (.cmp .gt (.bin .mod (.var 6) (.cst (.int 4))) (.cst (.int 0))) (aB [.val nm,.val (.int k),.val kd6,.own (cs.map Col.t),.val (.int j),.val (.str x),.val (.int (q/4)),.no,.no,.no])=some (.bl (decide (0<q/4%4))):=rfl;by_cases h:0<q/4%4
 .rw [if_pos h];have hz:(cs.map Col.t).length<16777216:=by rw [bA];lia
  have e3:evE G (.tup [.var 5,.idx (.var 2) (.bin .mod (.bin .fdiv (.var 6) (.cst (.int 4))) (.cst (.int 6))),.cmp .gt (.bin .mod (.bin .fdiv (.var 6) (.cst (.int 32))) (.cst (.int 3))) (.cst (.int 0))]) (aB [.val nm,.val (.int k),.val kd6,.own (cs.map Col.t),.val (.int j),.val (.str x),.val (.int (q/4)),.no,.no,.no])=some (Col.t ⟨x,fJ (q/4/4),decide (0<q/4/32%3)⟩):=by simp [evE,aG,aB,Sl.get,bI,cZ,cT,aK,EM,bB,Col.t]
  have e4:aE G [.app 3 (.tup [.var 5,.idx (.var 2) (.bin .mod (.bin .fdiv (.var 6) (.cst (.int 4))) (.cst (.int 6))),.cmp .gt (.bin .mod (.bin .fdiv (.var 6) (.cst (.int 32))) (.cst (.int 3))) (.cst (.int 0))])] [.val nm,.val (.int k),.val kd6,.own (cs.map Col.t),.val (.int j),.val (.str x),.val (.int (q/4)),.no,.no,.no]=some (.nx [.val nm,.val (.int k),.val kd6,.own ((cs++[(⟨x,fJ (q/4/4),decide (0<q/4/32%3)⟩:Col)]).map Col.t),.val (.int j),.val (.str x),.val (.int (q/4)),.no,.no,.no]):=by refine (bP (U':=[.val nm,.val (.int k),.val kd6,.own ((cs++[(⟨x,fJ (q/4/4),decide (0<q/4/32%3)⟩:Col)]).map Col.t),.val (.int j),.val (.str x),.val (.int (q/4)),.no,.no,.no]) ?_).trans rfl;rw [evS];refine Eq.trans (aW (fun o=>Option.bind o _) e3) ?_;show (if (cs.map Col.t).length<SZ then _ else none)=_;rw [if_pos hz,eP];rfl
  exact (bP (U':=[.val nm,.val (.int k),.val kd6,.own ((cs++[(⟨x,fJ (q/4/4),decide (0<q/4/32%3)⟩:Col)]).map Col.t),.val (.int j),.val (.str x),.val (.int (q/4)),.no,.no,.no]) (by rw [evS];refine Eq.trans (aW (fun o=>Option.bind o _) (hc.trans (by rw [bX h]))) ?_;exact e4)).trans rfl
 .rw [if_neg h,eO];exact (cQ rfl (hc.trans (by rw [dJ h]))).trans rfl
theorem UZ {P:Pr} (hd:P.fn "_law_drawn"=some iI) (n:Nat) (nm:T) (k:Int) :
  ∃ a b c,cP (fun x U=>(bD [4,5] x U).bind fun U'=>aE (glo P (run P (n+1))) sD U')
   [.tup [.int 0,.str "n"],.tup [.int 1,.str "t"],.tup [.int 2,.str "u"]]
   [.val nm,.val (.int k),.val kd6,.own [Col.t ⟨"id",fJ k,false⟩],.no,.no,.no,.no,.no,.no] =
   some (.nx [.val nm,.val (.int k),.val kd6,.own ((bT k).map Col.t),.val a,.val b,.val c,.no,.no,.no]):=by
 have c0:=pV k 0 "n";have c1:=pV k 1 "t";have st:=fun (j:Int) (x:Str) (cs:List Col) (s4 s5 s6:Sl) (hl:cs.length<=10)=>UY (G:=glo P (run P (n+1))) (nm:=nm) (k:=k) (j:=j) (x:=x) (cs:=cs) (s4:=s4) (s5:=s5) (s6:=s6) (mF hd n k (10+j)) hl;refine ⟨.int 2,.str "u",.int (dH k (10+2)/4),?_⟩;rw [cP,show [Col.t ⟨"id",fJ k,false⟩]=([⟨"id",fJ k,false⟩]:List Col).map Col.t from rfl,st 0 "n" _ _ _ _ (by simp)];dsimp only [aT];rw [cP,st 1 "t" _ _ _ _ (by simp;lia)];dsimp only [aT];rw [cP,st 2 "u" _ _ _ _ (by simp;lia)];dsimp only [aT];rw [cP,bT,kH,kH]
end
section
theorem VA (cs:List Col):(cs.filterMap fun c=>if c.g then none else some (T.str c.n))=(eV cs).map T.str:=by
 unfold eV
 induction cs with
 | nil=>rfl
 | cons c cs ih=>simp only [List.filterMap_cons];cases c.g<;>simp [ih]
theorem dR (a:T) (r:List T):dA (a::r) 0=some a:=by simp [dA,ixI]
theorem cN (a b:T) (r:List T):dA (a::b::r) 1=some b:=by have:=gY (xs:=a::b::r) (k:=1) (t:=b) rfl;exact this
theorem gZ (a b c:T) (r:List T):dA (a::b::c::r) 2=some c:=by have:=gY (xs:=a::b::c::r) (k:=2) (t:=c) rfl;exact this
theorem VB (a b c d:T) (r:List T):dA (a::b::c::d::r) 3=some d:=by have:=gY (xs:=a::b::c::d::r) (k:=3) (t:=d) rfl;exact this
theorem VC (i:Int):i%2=0\/i%2=1:=by lia
theorem EO {G:Glo} {i:Nat} {e:E} {ss:List S} {U U0 U':List Sl} {t:T} (h0:aQ (aJ e) U=U0) (h1:evE G e (aB U0)=some t) (h2:U0.set i (dZ e t)=U'):aE G (.asg i e::ss) U=aE G ss U':=bP (by rw [evS,h0,h1,<- h2];rfl)
noncomputable def bareT2:List S:=kY.body.drop 3
section
variable {G:Glo} {nm CL KT PL:T} {k:Int} {s4 s5 s6:Sl} {l p:Nat}
theorem VD {by_:Nat} {cs:List T} {id1:Str} {key:List Str} (hcs:CL=.lst cs) (hl:0<cs.length) (hz:cs.length<=1000) (hb:k/64%(cs.length:Int)=(by_:Int)) (hbl:by_<=cs.length)
  (lp:bO .len PL=some (.int (p:Int))) (ip:1<p->aK PL (.int 1)=some (.str id1)) (hk:key=if k/8%4=0/\1<p then (if k/32%2=0 then ([("id":Str),id1]:List Str) else ([id1, "id"]:List Str)) else (["id"]:List Str)) :
  aE G (bareT2.drop 1) [.val nm,.val (.int k),.val KT,.val CL,s4,s5,s6,.val PL,.no,.no]=some (.rt (.tup [nm,.tup (cs.drop by_++cs.take by_),.tup (key.map .str),.tup []])):=by
 refine (bC (t:=.tup [.str "id"]) (U':=[.val nm,.val (.int k),.val KT,.val CL,s4,s5,s6,.val PL,.val (.tup [.str "id"]),.no]) rfl (by simp [evE,aG]) rfl).trans ?_;have hc:evE G (.land (.cmp .eq (.bin .mod (.bin .fdiv (.var 1) (.cst (.int 8))) (.cst (.int 4))) (.cst (.int 0))) (.cmp .gt (.blt .len (.var 7)) (.cst (.int 1)))) (aB [.val nm,.val (.int k),.val KT,.val CL,s4,s5,s6,.val PL,.val (.tup [.str "id"]),.no])=some (.bl (decide (k/8%4=0/\1<p))):=by
  have e1:evE G (.cmp .eq (.bin .mod (.bin .fdiv (.var 1) (.cst (.int 8))) (.cst (.int 4))) (.cst (.int 0))) (aB [.val nm,.val (.int k),.val KT,.val CL,s4,s5,s6,.val PL,.val (.tup [.str "id"]),.no])=some (.bl (k/8%4==0)):=rfl;rw [evE,e1];by_cases h1:k/8%4=0
  .rw [show (k/8%4==0)=true by simpa using h1];simp [evE,aB,Sl.get,lp,bB,h1];lia
  .rw [show (k/8%4==0)=false by simpa using h1];simp [h1]
 have mid:aE G (bareT2.drop 2) [.val nm,.val (.int k),.val KT,.val CL,s4,s5,s6,.val PL,.val (.tup [.str "id"]),.no]=aE G (bareT2.drop 3) [.val nm,.val (.int k),.val KT,.val CL,s4,s5,s6,.val PL,.val (.tup (key.map .str)),.no]:=by
  by_cases h:k/8%4=0/\1<p
  .rw [if_pos h] at hk;have i1:=ip h.2;have e8:evE G (.idx (.lst [.tup [.cst (.str "id"),.idx (.var 7) (.cst (.int 1))],.tup [.idx (.var 7) (.cst (.int 1)),.cst (.str "id")]]) (.bin .mod (.bin .fdiv (.var 1) (.cst (.int 32))) (.cst (.int 2)))) (aB [.val nm,.val (.int k),.val KT,.val CL,s4,s5,s6,.val PL,.val (.tup [.str "id"]),.no])=dA [.tup [.str "id",.str id1],.tup [.str id1,.str "id"]] (k/32%2):=by have il:∀ l i,aK (.lst l) (.int i)=dA l i:=fun _ _=>rfl;simp [evE,aG,aB,Sl.get,i1,bI,cZ,cT,il]
   refine bP ?_;rw [evS];refine Eq.trans (aW (fun o=>Option.bind o _) (hc.trans (by rw [bX h]))) ?_;refine (bC (t:=.tup (key.map .str)) rfl (e8.trans ?_) rfl).trans rfl;rw [hk];rcases VC (k/32) with z | z
   .rw [z,if_pos rfl];exact dR _ _
   .rw [z,if_neg (by decide)];exact cN _ _ _
  .rw [if_neg h] at hk;subst hk;exact cQ rfl (hc.trans (by rw [dJ h]))
 refine (show aE G (bareT2.drop 2) _=_ from mid).trans ?_;subst hcs;refine (bC (t:=.int (by_:Int)) (U':=[.val nm,.val (.int k),.val KT,.val (.lst cs),s4,s5,s6,.val PL,.val (.tup (key.map .str)),.val (.int (by_:Int))]) rfl (by have lc:bO .len (.lst cs)=some (.int (cs.length:Int)):=rfl;simp [evE,aB,Sl.get,lc,bI,cZ,cT,hl,hb]) rfl).trans (cF rfl ?_);have hz1:cs.length-by_+min by_ cs.length<=16777216:=by lia
 simp [evE,aG,evO,aB,Sl.get,asI,gQ,vW _ _ hbl,vX _ _ hbl,bI,dN,SZ,hz1,bO]
end
theorem VE {P:Pr} (hd:P.fn "_law_drawn"=some iI) (hb:P.fn "_law_bare"=some kY) (n:Nat) (nm:Str) (k:Int) :
  run P (n+2) "_law_bare" [.str nm,.int k]=some (gE nm (eY (bT k) (k/64%((bT k).length:Int)).toNat) (iK k (bT k)) []):=by
 rw [cE hb rfl];obtain ⟨a,b,c,el⟩:=UZ hd n (.str nm) k;show aY (aE (glo P (run P (n+1))) kY.body [.val (.str nm),.val (.int k),.no,.no,.no,.no,.no,.no,.no,.no])=_;generalize glo P (run P (n+1))=G at *;have hlen:=EN k;have hm0:0<=k/64%((bT k).length:Int):=mL _ (by lia);have hm1:k/64%((bT k).length:Int)<((bT k).length:Int):=mK _ (by lia);generalize hby:(k/64%((bT k).length:Int)).toNat=by_ at *;have hbi:k/64%((bT k).length:Int)=(by_:Int):=by lia
 generalize hC:bT k=cs at *;have hbl:by_<=cs.length:=by rw [hbi] at hm1;lia
 have p1:aE G kY.body [.val (.str nm),.val (.int k),.no,.no,.no,.no,.no,.no,.no,.no]=aE G (kY.body.drop 2) [.val (.str nm),.val (.int k),.val kd6,.own [Col.t ⟨"id",fJ k,false⟩],.no,.no,.no,.no,.no,.no] :=
  (bC (t:=kd6) (U':=[.val (.str nm),.val (.int k),.val kd6,.no,.no,.no,.no,.no,.no,.no]) rfl (by simp [evE,aG,kd6]) rfl).trans (bC (t:=.lst [Col.t ⟨"id",fJ k,false⟩]) rfl (by simp [evE,aG,aB,Sl.get,kd6,bI,cZ,aK,EM,Col.t]) rfl)
 have p2:aE G (kY.body.drop 2) [.val (.str nm),.val (.int k),.val kd6,.own [Col.t ⟨"id",fJ k,false⟩],.no,.no,.no,.no,.no,.no]=aE G bareT2 [.val (.str nm),.val (.int k),.val kd6,.own (cs.map Col.t),.val a,.val b,.val c,.no,.no,.no]:=bP (by rw [evS];simp only [cJ,aJ,List.append_nil,aQ,aG,evE,List.length_cons,List.length_nil];simp only [Nat.reduceAdd,Nat.reduceLeDiff,if_true,fB,aT,items,fH];exact el);have e7:evE G (.comp (.idx (.var 0) (.cst (.int 0))) 1 .plain [.var 3] (some (.lnot (.tru (.idx (.var 0) (.cst (.int 2))))))) (aB [.val (.str nm),.val (.int k),.val kd6,.val (.lst (cs.map Col.t)),.val a,.val b,.val c,.no,.no,.no])=some (.lst ((eV cs).map .str)):=by
  have hz':cs.length<=16777216:=by lia
  simp [evE,aG,evO,aB,Sl.get,items,cI,bnd,SZ,hz'];rw [iW (enc:=Col.t) (fun c=>if c.g then none else some (T.str c.n)) (fun c _=>by cases hg:c.g<;>simp [Col.t,hg,aK,dR,gZ,gR]),VA]
 have p3:aE G bareT2 [.val (.str nm),.val (.int k),.val kd6,.own (cs.map Col.t),.val a,.val b,.val c,.no,.no,.no]=aE G (bareT2.drop 1) [.val (.str nm),.val (.int k),.val kd6,.val (.lst (cs.map Col.t)),.val a,.val b,.val c,.val (.lst ((eV cs).map .str)),.no,.no]:=EO rfl e7 rfl;rw [p1,p2,p3];have hk:=VD (G:=G) (nm:=.str nm) (KT:=kd6) (CL:=.lst (cs.map Col.t)) (cs:=cs.map Col.t) (PL:=.lst ((eV cs).map .str)) (k:=k) (s4:=.val a) (s5:=.val b) (s6:=.val c) (p:=(eV cs).length) (by_:=by_) (id1:=(eV cs).getD 1 "id") (key:=iK k cs) rfl (by rw [List.length_map];lia) (by rw [List.length_map];lia) (by rw [List.length_map];exact hbi) (by rw [List.length_map];exact hbl) (by simp [bO]) (fun h2=>gY (xs:=(eV cs).map T.str) (k:=1) (by rw [List.getElem?_map,List.getElem?_eq_getElem h2,List.getD_eq_getElem?_getD,List.getElem?_eq_getElem h2];rfl)) rfl;rw [hk,gE,eY,eP,List.map_drop,List.map_take];rfl
end
section
variable {cs:List Col}
theorem EQ {α:Type} {enc:α->T} {f:T->List Sl->Option Out} (I:List α->List Sl->Prop):∀ (l done:List α) (U:List Sl),I done U ->
  (∀ l1 a l2,l=l1++a::l2->∀ U,I (done++l1) U->∃ U',f (enc a) U=some (.nx U')/\I (done++l1++[a]) U')->∃ U',cP f (l.map enc) U=some (.nx U')/\I (done++l) U'
 | [],done,U,h,_=>⟨U,rfl,by rw [eO];exact h⟩
 | a::l,done,U,h,hs=>by
  obtain ⟨U1,e1,h1⟩:=hs [] a l rfl U (by rw [eO];exact h);rw [eO] at h1;obtain ⟨U2,e2,h2⟩:=EQ I l (done++[a]) U1 h1 fun l1 b l2 e U hd=>by have:=hs (a::l1) b l2 (by rw [e];rfl) U (by simpa using hd);simpa using this
  refine ⟨U2,?_,by rw [kH] at h2;exact h2⟩;rw [aS,cP,e1];exact e2
theorem fW {α:Type} {enc:α->T} {f:T->List Sl->Option Out} (I:List α->List Sl->Prop) (l:List α) (U:List Sl) (h:I [] U)
  (hs:∀ l1 a l2,l=l1++a::l2->∀ U,I l1 U->∃ U',f (enc a) U=some (.nx U')/\I (l1++[a]) U'):∃ U',cP f (l.map enc) U=some (.nx U')/\I l U':=by
 have:=EQ I l [] U h fun l1 a l2 e U hd=>by have:=hs l1 a l2 e U (by simpa using hd);simpa using this
 simpa using this
theorem jJ {α:Type} {enc:α->T} {cs:List α} (h:cs≠[]) (i:Int):∃ c∈cs,dA (cs.map enc) (i%(cs.length:Int))=some (enc c):=by
 have hl:0<cs.length:=by cases cs with | nil=>exact absurd rfl h | cons _ _=>simp
 have h1:0<=i%(cs.length:Int):=mL _ (by lia);have h2:i%(cs.length:Int)<(cs.length:Int):=mK _ (by lia);obtain ⟨j,hj⟩:∃ j:Nat,i%(cs.length:Int)=(j:Int):=⟨(i%(cs.length:Int)).toNat,by lia⟩;rw [hj] at h2 ⊢;have hj':j<cs.length:=by lia
 refine ⟨cs[j],gH _,gY ?_⟩;rw [fL,bW hj'];rfl
inductive Tst where
 | emp (c:Str) | bel (a b:Str) | isI (c:Str) (i:Int) | isS (c x:Str) | neg (t:Tst) | cnj (a b:Tst) | dsj (a b:Tst)
noncomputable def Tst.t:Tst->T
 | .emp c=>.tup [.str "empty",.str c]
 | .bel a b=>.tup [.str "below",.str a,.str b]
 | .isI c i=>.tup [.str "is",.str c,.int i]
 | .isS c x=>.tup [.str "is",.str c,.str x]
 | .neg t=>.tup [.str "not",t.t]
 | .cnj a b=>.tup [.str "and",a.t,b.t]
 | .dsj a b=>.tup [.str "or",a.t,b.t]
noncomputable def pW:List Int:=[0,1,2,3,-5,999]
noncomputable def Tst.ok:Nat->Tst->Prop
 | d,.emp c=>1<=d/\c.length<=6
 | d,.bel a b=>1<=d/\a.length<=6/\b.length<=6
 | d,.isI c i=>1<=d/\c.length<=6 /\ -1000<i/\i<1000/\i∈pW
 | d,.isS c x=>1<=d/\c.length<=6/\x.length<=6/\zC x=true
 | d+1,.neg t=>t.ok d
 | d+1,.cnj a b=>a.ok d/\b.ok d
 | d+1,.dsj a b=>a.ok d/\b.ok d
 | 0,_=>False
noncomputable def Tst.fit:Nat->Tst->Prop
 | d,.emp _=>1<=d/\True
 | d,.bel _ _=>1<=d/\True
 | d,.isI _ _=>1<=d/\True
 | d,.isS _ _=>1<=d/\True
 | d+1,.neg t=>t.fit d
 | d+1,.cnj a b=>a.fit d/\b.fit d
 | d+1,.dsj a b=>a.fit d/\b.fit d
 | 0,_=>False
theorem Tst.ok.fit:∀ {d:Nat} {t:Tst},t.ok d->t.fit d
 | d+1,.emp _,h=>⟨mP (eK d),trivial⟩
 | 0,.emp _,h=>absurd h.1 (by lia)
 | d+1,.bel _ _,h=>⟨mP (eK d),trivial⟩
 | 0,.bel _ _,h=>absurd h.1 (by lia)
 | d+1,.isI _ _,h=>⟨mP (eK d),trivial⟩
 | 0,.isI _ _,h=>absurd h.1 (by lia)
 | d+1,.isS _ _,h=>⟨mP (eK d),trivial⟩
 | 0,.isS _ _,h=>absurd h.1 (by lia)
 | d+1,.neg t,h=>Tst.ok.fit (t:=t) h
 | d+1,.cnj a b,h=>⟨Tst.ok.fit h.1,Tst.ok.fit h.2⟩
 | d+1,.dsj a b,h=>⟨Tst.ok.fit h.1,Tst.ok.fit h.2⟩
 | 0,.neg _,h=>nomatch h
 | 0,.cnj _ _,h=>nomatch h
 | 0,.dsj _ _,h=>nomatch h
noncomputable def Tst.inn (cs:List Col):Tst->Prop
 | .emp c=>∃ o∈cs,o.n=c
 | .bel a b=>∃ o∈cs,∃ p∈cs,o.n=a/\p.n=b/\o.k=p.k
 | .isI c _=>∃ o∈cs,o.n=c/\(o.k==("text":Str))=false
 | .isS c _=>∃ o∈cs,o.n=c/\(o.k==("text":Str))=true
 | .neg t=>t.inn cs
 | .cnj a b=>a.inn cs/\b.inn cs
 | .dsj a b=>a.inn cs/\b.inn cs
noncomputable def Sh (x:Str):Prop:=x.length<=6
noncomputable def oS (cs:List Col):Prop:=cs≠[]/\cs.length<=4/\∀ c∈cs,Sh c.n/\c.k.length<=6
noncomputable def pX:List Str:=["", "a", "b", "ab", "x9", "zzzzzz"]
theorem VF:∀ x∈pX,zC x=true:=by decide +kernel
theorem VG:∀ x∈pX,x.length<=6:=by decide +kernel
theorem ER:∀ i∈pW,-1000<i/\i<1000:=by decide
theorem VH (k:Int):∃ i∈pW,dA [.int 0,.int 1,.int 2,.int 3,.int (-5),.int 999] (k%6)=some (.int i):=by obtain ⟨c,hc,e⟩:=jJ (enc:=T.int) (cs:=pW) (by simp [pW]) k;exact ⟨c,hc,e⟩
theorem VI (k:Int):∃ x∈pX,dA [.str "",.str "a",.str "b",.str "ab",.str "x9",.str "zzzzzz"] (k%6)=some (.str x):=by obtain ⟨c,hc,e⟩:=jJ (enc:=T.str) (cs:=pX) (by simp [pX]) k;exact ⟨c,hc,e⟩
noncomputable def alike (cs:List Col) (c:Col):List Str:=cs.filterMap fun o=>if o.k==c.k then some o.n else none
theorem VJ (cs:List Col) (c:Col):(cs.filterMap fun o=>if o.k==c.k then some (T.str o.n) else none)=(alike cs c).map T.str:=by
 unfold alike
 induction cs with
 | nil=>rfl
 | cons o cs ih=>simp only [List.filterMap_cons];split<;>simp_all
theorem VL {c:Col} {x:Str} (h:x∈alike cs c):∃ o∈cs,o.n=x/\o.k=c.k:=by
 unfold alike at h;obtain ⟨o,ho,e⟩:=kG.mp h;split at e
 .rename_i hk;cases e;exact ⟨o,ho,rfl,cV hk⟩
 .cases e
theorem ES {c:Col} (h:c∈cs):alike cs c≠[]:=by intro e;have:c.n∈alike cs c:=kG.mpr ⟨c,h,by simp⟩;rw [e] at this;cases this
end
section
variable {G:Glo} {k:Int} {s0 s3 s6 s7 s8:Sl} {cs:List Col}
noncomputable def dU (nm:T) (cs:List Col) (key rules:T):T:=.tup [nm,.tup (cs.map Col.t),key,rules]
noncomputable def teB:List S:=iU.body.drop 3
noncomputable def teC:List S:=iU.body.drop 4
theorem sH {j:Int} {s1 s2 s4:Sl}:evE G (.cmp .eq (.var 5) (.cst (.int j))) (aB [s0,s1,s2,s3,s4,.val (.int k),s6,s7,s8])=some (.bl (k==j)):=rfl
theorem sI {c:Col} {s1 s2 s5:Sl}:evE G (.idx (.var 4) (.cst (.int 0))) (aB [s0,s1,s2,s3,.val c.t,s5,s6,s7,s8])=some (.str c.n):=by simp [evE,aB,Sl.get,Col.t,aK,dR]
theorem ET (hc:oS cs) {c:Col} (hm:c∈cs) (TB:T) (k d:Int) :
  ∃ t:Tst,aE G teC [.val TB,.val (.int k),.val (.int d),.val (.tup (cs.map Col.t)),.val c.t,.val (.int (k%8)),.no,.no,.no]=some (.rt t.t)/\(∀ n,t.ok (n+1))/\t.inn cs:=by
 have hl:cs.length<=16777216:=by have:=hc.2.1;lia
 have hcm:=hc.2.2 c hm;by_cases h0:k%8=0
 .exact ⟨.emp c.n,fP rfl (sH.trans (by rw [h0];rfl)) (cF rfl (by rw [evE,aG,aG,sI];rfl)),fun n=>⟨by lia,hcm.1⟩,c,hm,rfl⟩
 .have e7:evE G (.comp (.idx (.var 0) (.cst (.int 0))) 1 .plain [.var 3] (some (.cmp .eq (.idx (.var 0) (.cst (.int 1))) (.idx (.var 5) (.cst (.int 1)))))) (aB [.val TB,.val (.int k),.val (.int d),.val (.tup (cs.map Col.t)),.val c.t,.val (.int (k%8)),.no,.no,.no])=some (.lst ((alike cs c).map .str)):=by
   simp [evE,aG,evO,aB,Sl.get,bB,aK,items,cI,bnd,SZ,hl];rw [iW (enc:=Col.t) (fun o=>if o.k==c.k then some (T.str o.n) else none) (fun o _=>by cases hk:(o.k==c.k)<;>simp [Col.t,dR,cN,eqC,dpP,eqT,hk]),VJ]
  have pre:aE G teC [.val TB,.val (.int k),.val (.int d),.val (.tup (cs.map Col.t)),.val c.t,.val (.int (k%8)),.no,.no,.no]=aE G (teC.drop 2) [.val TB,.val (.int k),.val (.int d),.val (.tup (cs.map Col.t)),.val c.t,.val (.int (k%8)),.no,.val (.lst ((alike cs c).map .str)),.no] :=
   (cQ rfl (sH.trans (by rw [show (k%8==0)=false by simpa using h0]))).trans (bC rfl e7 rfl)
  rw [pre];generalize T.tup (cs.map Col.t)=CT;by_cases h1:k%8=1
  .obtain ⟨x,hx,e⟩:=jJ (enc:=T.str) (ES hm) (k/64);have hp:0<(alike cs c).length:=by
    have:=ES hm;cases q:alike cs c with
    | nil=>exact absurd q this
    | cons _ _=>simp
   obtain ⟨o,ho,rfl,hk⟩:=VL hx;refine ⟨.bel c.n o.n,fP rfl (sH.trans (by rw [h1];rfl)) (cF rfl ?_),fun n=>⟨by lia,hcm.1,(hc.2.2 o ho).1⟩,c,hm,o,ho,rfl,rfl,hk.symm⟩;have e':evE G (.idx (.var 7) (.bin .mod (.bin .fdiv (.var 1) (.cst (.int 64))) (.blt .len (.var 7)))) (aB [.val TB,.val (.int k),.val (.int d),.val CT,.val c.t,.val (.int (k%8)),.no,.val (.lst ((alike cs c).map .str)),.no])=some (.str o.n):=by simp [evE,aB,Sl.get,bO,bI,cZ,cT,hp,aK,e]
   rw [evE,aG,aG,aG,sI,e'];rfl
  .have pre2:aE G (teC.drop 2) [.val TB,.val (.int k),.val (.int d),.val CT,.val c.t,.val (.int (k%8)),.no,.val (.lst ((alike cs c).map .str)),.no]=aE G (teC.drop 3) [.val TB,.val (.int k),.val (.int d),.val CT,.val c.t,.val (.int (k%8)),.no,.val (.lst ((alike cs c).map .str)),.no]:=cQ rfl (sH.trans (by rw [show (k%8==1)=false by simpa using h1]));rw [pre2];generalize T.lst ((alike cs c).map T.str)=AL;obtain ⟨i,hi,ei⟩:=VH (k/64);obtain ⟨x,hx,ex⟩:=VI (k/64);cases ht:(c.k==("text":Str)) with
   | true =>refine ⟨.isS c.n x,(bC (t:=.tup [.str "",.str "a",.str "b",.str "ab",.str "x9",.str "zzzzzz"]) (U':=[.val TB,.val (.int k),.val (.int d),.val CT,.val c.t,.val (.int (k%8)),.no,.val AL,.val (.tup [.str "",.str "a",.str "b",.str "ab",.str "x9",.str "zzzzzz"])]) rfl (by simp [evE,aG,aB,Sl.get,Col.t,aK,cN,bB,eqC,dpP,eqT,ht,bO]) rfl).trans (cF rfl ?_),fun n=>⟨by lia,hcm.1,VG x hx,VF x hx⟩,c,hm,rfl,ht⟩;rw [evE,aG,aG,aG,sI];simp [evE,aG,aB,Sl.get,bI,cZ,cT,aK,ex,Tst.t]
   | false =>refine ⟨.isI c.n i,(bC (t:=.tup [.int 0,.int 1,.int 2,.int 3,.int (-5),.int 999]) (U':=[.val TB,.val (.int k),.val (.int d),.val CT,.val c.t,.val (.int (k%8)),.no,.val AL,.val (.tup [.int 0,.int 1,.int 2,.int 3,.int (-5),.int 999])]) rfl (by simp [evE,aG,aB,Sl.get,Col.t,aK,dR,cN,bB,eqC,dpP,eqT,ht,bO]) rfl).trans (cF rfl ?_),fun n=>⟨by lia,hcm.1,(ER i hi).1,(ER i hi).2,hi⟩,c,hm,rfl,ht⟩;rw [evE,aG,aG,aG,sI];simp [evE,aG,aB,Sl.get,bI,cZ,cT,aK,ei,Tst.t]
theorem EU {TB CT ct:T} {D:Int} {l:Nat} (i1:aK TB (.int 1)=some CT) (l1:bO .len CT=some (.int (l:Int))) (hp:0<l) (i2:aK CT (.int (k/8%(l:Int)))=some ct) :
  aE G iU.body [.val TB,.val (.int k),.val (.int D),.no,.no,.no,.no,.no,.no]=aE G teB [.val TB,.val (.int k),.val (.int D),.val CT,.val ct,.val (.int (k%8)),.no,.no,.no] :=
 (bC (t:=CT) (U':=[.val TB,.val (.int k),.val (.int D),.val CT,.no,.no,.no,.no,.no]) rfl (by simp [evE,aB,Sl.get,i1]) rfl).trans ((bC (t:=ct) (U':=[.val TB,.val (.int k),.val (.int D),.val CT,.val ct,.no,.no,.no,.no]) rfl (by simp [evE,aB,Sl.get,l1,bI,cZ,cT,hp,i2]) rfl).trans (bC (t:=.int (k%8)) rfl (by simp [evE,aB,Sl.get,bI,cZ]) rfl))
theorem vY {D:Int} {s4:Sl}:evE G (.land (.cmp .gt (.var 2) (.cst (.int 1))) (.cmp .gt (.var 5) (.cst (.int 4)))) (aB [s0,.val (.int k),.val (.int D),s3,s4,.val (.int (k%8)),s6,s7,s8])=some (.bl (decide (1<D)&&decide (4<k%8))):=by cases h1:decide (1<D)<;>simp [evE,aB,Sl.get,bB,h1]
theorem VM {P:Pr} (hd:P.fn "_law_drawn"=some iI) (ht:P.fn "_law_test"=some iU) (hc:oS cs) (nm key rules:T) :
  ∀ (d:Nat) (n:Nat) (k:Int),∃ t:Tst,run P (n+d+2) "_law_test" [dU nm cs key rules,.int k,.int ((d+1:Nat):Int)]=some t.t/\t.ok (d+1)/\t.inn cs:=by
 have i1:aK (dU nm cs key rules) (.int 1)=some (.tup (cs.map Col.t)):=by simp [dU,aK,cN]
 have l1:bO .len (.tup (cs.map Col.t))=some (.int (cs.length:Int)):=by simp [bO]
 have hp:0<cs.length:=by cases cs with | nil=>exact absurd rfl hc.1 | cons _ _=>simp
 have i2:∀ k:Int,∃ c∈cs,aK (.tup (cs.map Col.t)) (.int (k/8%(cs.length:Int)))=some c.t:=fun k=>by obtain ⟨c,hm,ec⟩:=jJ (enc:=Col.t) hc.1 (k/8);exact ⟨c,hm,ec⟩
 intro d
 induction d with
 | zero =>intro n k;rw [cE ht rfl];show ∃ t:Tst,aY (aE (glo P (run P (n+1))) iU.body [.val (dU nm cs key rules),.val (.int k),.val (.int 1),.no,.no,.no,.no,.no,.no])=_/\_;obtain ⟨c,hm,ec⟩:=i2 k;obtain ⟨t,e,h,hin⟩:=ET (G:=glo P (run P (n+1))) hc hm (dU nm cs key rules) k 1;refine ⟨t,?_,h 0,hin⟩;rw [EU i1 l1 hp ec];exact aW aY ((cQ rfl (vY.trans rfl)).trans e)
 | succ d ih =>
  intro n k;rw [show n+(d+1)+2=(n+d+2)+1 by lia,cE ht rfl];obtain ⟨c,hm,ec⟩:=i2 k;have e1:(glo P (run P (n+d+2))).call "_law_drawn" [.int k,.int 1]=_:=mF hd (n+d+1) k 1;have e2:(glo P (run P (n+d+2))).call "_law_drawn" [.int k,.int 2]=_:=mF hd (n+d+1) k 2;obtain ⟨t1,r1,o1,n1⟩:=ih n (dH k 1/4);obtain ⟨t2,r2,o2,n2⟩:=ih n (dH k 2/4);have hd1:((d+1+1:Nat):Int)-1=((d+1:Nat):Int):=by lia
  rw [<- hd1] at r1 r2;clear hd1 ih;generalize hD:((d+1+1:Nat):Int)=D at *;have hD1:decide (1<D)=true:=bX (by lia);have r1:(glo P (run P (n+d+2))).call "_law_test" [dU nm cs key rules,.int (dH k 1/4),.int (D-1)]=some t1.t:=r1;have r2:(glo P (run P (n+d+2))).call "_law_test" [dU nm cs key rules,.int (dH k 2/4),.int (D-1)]=some t2.t:=r2;show ∃ t:Tst,aY (aE (glo P (run P (n+d+2))) iU.body [.val (dU nm cs key rules),.val (.int k),.val (.int D),.no,.no,.no,.no,.no,.no])=_/\_;rw [EU i1 l1 hp ec];obtain ⟨t,e,h,hin⟩:=ET (G:=glo P (run P (n+d+2))) hc hm (dU nm cs key rules) k D;generalize glo P (run P (n+d+2))=G at *;generalize dU nm cs key rules=TB at *;generalize T.tup (cs.map Col.t)=CT at *;generalize c.t=ct at *;by_cases h4:4<k%8
  .have h4':decide (4<k%8)=true:=bX h4;have e6:evE G (.comp (.call "_law_test" [.var 1,.bin .fdiv (.call "_law_drawn" [.var 2,.var 0]) (.cst (.int 4)),.bin .sub (.var 3) (.cst (.int 1))]) 1 .plain [.tup [.cst (.int 1),.cst (.int 2)]] none) (aB [.val TB,.val (.int k),.val (.int D),.val CT,.val ct,.val (.int (k%8)),.no,.no,.no])=some (.lst [t1.t,t2.t]):=by simp [evE,aG,evO,aB,Sl.get,bI,pG,cT,items,cI,dP,bnd,SZ,e1,e2,r1,r2]
   have pre:∀ u:T,evE G (.idx (.lst [.tup [.cst (.str "not"),.idx (.var 6) (.cst (.int 0))],.tup [.cst (.str "and"),.idx (.var 6) (.cst (.int 0)),.idx (.var 6) (.cst (.int 1))],.tup [.cst (.str "or"),.idx (.var 6) (.cst (.int 0)),.idx (.var 6) (.cst (.int 1))]]) (.bin .sub (.var 5) (.cst (.int 5)))) (aB [.val TB,.val (.int k),.val (.int D),.val CT,.val ct,.val (.int (k%8)),.val (.lst [t1.t,t2.t]),.no,.no])=some u->aE G teB [.val TB,.val (.int k),.val (.int D),.val CT,.val ct,.val (.int (k%8)),.no,.no,.no]=some (.rt u):=fun u hu =>fP rfl (vY.trans (by rw [hD1,h4'];rfl)) ((bC rfl e6 rfl).trans (cF rfl hu));have hk:k%8=5\/k%8=6\/k%8=7:=by lia
   have ev:evE G (.idx (.lst [.tup [.cst (.str "not"),.idx (.var 6) (.cst (.int 0))],.tup [.cst (.str "and"),.idx (.var 6) (.cst (.int 0)),.idx (.var 6) (.cst (.int 1))],.tup [.cst (.str "or"),.idx (.var 6) (.cst (.int 0)),.idx (.var 6) (.cst (.int 1))]]) (.bin .sub (.var 5) (.cst (.int 5)))) (aB [.val TB,.val (.int k),.val (.int D),.val CT,.val ct,.val (.int (k%8)),.val (.lst [t1.t,t2.t]),.no,.no])=dA [.tup [.str "not",t1.t],.tup [.str "and",t1.t,t2.t],.tup [.str "or",t1.t,t2.t]] (k%8-5):=by simp [evE,aG,aB,Sl.get,aK,dR,cN,bI,pG]
   rcases hk with hk | hk | hk
   .exact ⟨.neg t1,aW aY (pre _ (ev.trans (by rw [hk];exact dR _ _))),o1,n1⟩
   .exact ⟨.cnj t1 t2,aW aY (pre _ (ev.trans (by rw [hk];exact cN _ _ _))),⟨o1,o2⟩,n1,n2⟩
   .exact ⟨.dsj t1 t2,aW aY (pre _ (ev.trans (by rw [hk];exact gZ _ _ _ _))),⟨o1,o2⟩,n1,n2⟩
  .refine ⟨t,aW aY ((cQ rfl (vY.trans (by rw [hD1,dJ h4];rfl))).trans e),h (d+1),hin⟩
end
section
variable {cs:List Col} {row dk:List Str}
noncomputable def aZ (xs:List Str):T:=.tup (xs.map .str)
noncomputable def EV (xs:List Str):Prop:=∀ x∈xs,Sh x
noncomputable def CSh (cs:List Col) (xs:List Str):Prop:=∀ x∈xs,Sh x/\∃ c∈cs,c.n=x
theorem EW {x:Str}:∀ (xs:List Str),(xs.map T.str).any (fun z=>eqT z (.str x))=xs.any fun y=>y==x
 | []=>rfl
 | y::ys=>by rw [aS,gJ,gJ,EW ys,eqT]
theorem VN (y x:Str):dpP (.str y) (.str x)=0:=rfl
theorem VO (x:Str) (xs:List Str):dpI (.str x) (xs.map .str)=true:=by unfold dpI;rw [lI];intro z hz;obtain ⟨y,_,rfl⟩:=omm hz;rw [VN];rfl
theorem EX (x:Str) (xs:List Str):inC (.str x) (.tup (xs.map .str))=some (xs.any fun y=>y==x):=by simp only [inC,VO,if_true,EW]
noncomputable def gN (cs:List Col) (kd:Str) (row:List Str):List (List Str):=cs.filterMap fun o=>if (o.k==kd)&&!(row.any fun y=>y==o.n) then some (row++[o.n]) else none
theorem VP (cs:List Col) (kd:Str) (row:List Str):(cs.filterMap fun o=>if (o.k==kd)&&!(row.any fun y=>y==o.n) then some (aZ (row++[o.n])) else none)=(gN cs kd row).map aZ:=by unfold gN;rw [List.map_filterMap];congr;funext o;split<;>rfl
theorem VQ (cs:List Col) (kd:Str) (row:List Str):(gN cs kd row).length<=cs.length:=List.length_filterMap_le _ _
theorem VR (hc:oS cs) {kd:Str} {r:List Str} (hr:CSh cs row) (h:r∈gN cs kd row):CSh cs r/\r.length=row.length+1:=by
 unfold gN at h;obtain ⟨o,ho,e⟩:=kG.mp h;split at e
 .cases e;refine ⟨fun x hx=>?_,by simp⟩;rcases oma hx with q | q
  .exact hr x q
  .rw [omg q];exact ⟨(hc.2.2 o ho).1,o,ho,rfl⟩
 .cases e
noncomputable def Rows (cs:List Col) (j:Nat) (ps:List (List Str)):Prop:=ps.length<=4 ^ j/\∀ p∈ps,CSh cs p/\p.length=j
noncomputable def Kds (cs:List Col) (p ks:List Str):Prop:=p.length=ks.length/\∀ q∈p.zip ks,∃ c∈cs,c.n=q.1/\c.k=q.2
theorem VS {kd:Str} {r:List Str} (hr:Kds cs row dk) (h:r∈gN cs kd row):Kds cs r (dk++[kd]):=by
 unfold gN at h;obtain ⟨o,ho,e⟩:=kG.mp h;split at e
 .next hc =>
  cases e;rw [bU] at hc;refine ⟨by rw [dW,dW,hr.1];rfl,fun q hq=>?_⟩;rw [List.zip_append hr.1] at hq;rcases oma hq with z | z
  .exact hr.2 q z
  .rw [omg z];exact ⟨o,ho,rfl,cV hc.1⟩
 .cases e
theorem VT {G:Glo} (hc:oS cs) (nm key rules kt s2:T) (kd:Str) (j:Nat) (hj:j<=1) (ps:List (List Str)) (hp:Rows cs j ps) (hdk:∀ p∈ps,Kds cs p dk) (s3:Sl) :
  ∃ (qs:List (List Str)) (s5:Sl),cP (fun x U=>(bD [5] x U).bind fun U'=>aE G [.asg 4 (.bin .add (.var 4) (.comp (.bin .add (.var 6) (.tup [.idx (.var 0) (.cst (.int 0))])) 1 .plain [.idx (.var 0) (.cst (.int 1))] (some (.land (.cmp .eq (.idx (.var 0) (.cst (.int 1))) (.var 4)) (.cmp .notin (.idx (.var 0) (.cst (.int 0))) (.var 6))))))] U')
   (ps.map aZ) [.val (dU nm cs key rules),.val kt,.val s2,.val (.str kd),.own [],s3] =
   some (.nx [.val (dU nm cs key rules),.val kt,.val s2,.val (.str kd),.own (qs.map aZ),s5])/\Rows cs (j+1) qs/\∀ q∈qs,Kds cs q (dk++[kd]):=by
 have hl4:=hc.2.1;have hl:cs.length<=16777216:=by lia
 have h4j:4 ^ j<=4:=by rcases (by lia:j=0\/j=1) with rfl | rfl<;>decide
 have hpl:ps.length<=4:=cG hp.1 h4j;obtain ⟨U',e,qs,s5,rfl,h1,h2⟩:=fW (enc:=aZ) (f:=fun x U=>(bD [5] x U).bind fun U'=>aE G [.asg 4 (.bin .add (.var 4) (.comp (.bin .add (.var 6) (.tup [.idx (.var 0) (.cst (.int 0))])) 1 .plain [.idx (.var 0) (.cst (.int 1))] (some (.land (.cmp .eq (.idx (.var 0) (.cst (.int 1))) (.var 4)) (.cmp .notin (.idx (.var 0) (.cst (.int 0))) (.var 6))))))] U')
  (fun done U=>∃ qs s5,U=[.val (dU nm cs key rules),.val kt,.val s2,.val (.str kd),.own (qs.map aZ),s5]/\qs.length<=4*done.length/\∀ q∈qs,(CSh cs q/\q.length=j+1)/\Kds cs q (dk++[kd]))
  ps [.val (dU nm cs key rules),.val kt,.val s2,.val (.str kd),.own [],s3] ⟨[],s3,rfl,by simp,fun q hq=>by cases hq⟩ (by
   rintro done row rest hsp U ⟨qs,s5,rfl,h1,h2⟩;have hrow:row∈ps:=by rw [hsp];simp
   have hdl:done.length<=ps.length:=by rw [hsp];simp
   have hrs:=(hp.2 row hrow).1;have hml:=VQ cs kd row;have hz:qs.length+(gN cs kd row).length<=16777216:=by lia
   have hrl:row.length+1<=16777216:=by rw [(hp.2 row hrow).2];lia
   refine ⟨[.val (dU nm cs key rules),.val kt,.val s2,.val (.str kd),.own ((qs++gN cs kd row).map aZ),.val (aZ row)],?_,qs++gN cs kd row,_,rfl,?_,?_⟩
   .simp [aE,evS,evE,aG,evO,aB,aQ,aJ,cJ,jV,Sl.get,Sl.frz,bI,dN,dZ,fresh,bB,aK,items,cI,bD,bnd,SZ,dU,cN,hl];rw [iW (enc:=Col.t) (fun o=>if (o.k==kd)&&!(row.any fun y=>y==o.n) then some (aZ (row++[o.n])) else none) (fun o _=>by
     cases hk:(o.k==kd) with
     | false=>simp [Col.t,dR,cN,eqC,dpP,eqT,hk]
     | true =>have hin:=EX o.n row;cases ha:(row.any fun y=>y==o.n)<;>rw [ha] at hin<;>simp [Col.t,dR,cN,eqC,dpP,eqT,hk,aZ,hin,hrl]),VP]
    simp [hz]
   .simp only [List.length_append,List.length_cons,List.length_nil];lia
   .intro q hq;rcases oma hq with z | z
    .exact h2 q z
    .have:=VR hc hrs z;exact ⟨⟨this.1,by rw [this.2,(hp.2 row hrow).2]⟩,VS (hdk row hrow) z⟩)
 refine ⟨qs,s5,e,⟨?_,fun q hq=>(h2 q hq).1⟩,fun q hq=>(h2 q hq).2⟩;have:=hp.1;rw [Nat.pow_succ];lia
end
section
theorem VU {P:Pr} (h:P.fn "_law_pairs"=some mD) (n:Nat) {cs:List Col} (hc:oS cs) (nm key rules:T) (ks:List Str) (hk:ks.length<=2) :
  ∃ ps,run P (n+1) "_law_pairs" [dU nm cs key rules,.lst (ks.map .str)]=some (.lst (ps.map aZ))/\Rows cs ks.length ps/\∀ p∈ps,Kds cs p ks:=by
 rw [cE h rfl];unfold mD;dsimp only;rw [bP (U':=[.val (dU nm cs key rules),.val (.lst (ks.map .str)),.own ([[]].map aZ),.no,.no,.no]) (by simp [evS,evE,aG,cU,aQ,aJ,cJ,dZ,fresh,aZ])];obtain ⟨U',e,ps,s2,s3,s4,s5,rfl,h1,h2⟩:=fW (enc:=T.str) (f:=fun x U=>(bD [3] x U).bind fun U'=>aE (glo P (run P n)) [.asg 4 (.lst []),
  .loop [5] .plain [.var 2] [.asg 4 (.bin .add (.var 4) (.comp (.bin .add (.var 6) (.tup [.idx (.var 0) (.cst (.int 0))])) 1 .plain [.idx (.var 0) (.cst (.int 1))] (some (.land (.cmp .eq (.idx (.var 0) (.cst (.int 1))) (.var 4)) (.cmp .notin (.idx (.var 0) (.cst (.int 0))) (.var 6))))))],
  .asg 2 (.var 4)] U')
  (fun done U=>∃ ps s2 s3 s4 s5,U=[.val (dU nm cs key rules),.val (.lst (ks.map .str)),s2,s3,s4,s5]/\(s2=.own (ps.map aZ)\/s2=.val (.lst (ps.map aZ)))/\Rows cs done.length ps/\∀ p∈ps,Kds cs p done)
  ks [.val (dU nm cs key rules),.val (.lst (ks.map .str)),.own ([[]].map aZ),.no,.no,.no] ⟨[[]],_,_,_,_,rfl,.inl rfl,⟨by simp,fun p hp=>by rw [omg hp];exact ⟨fun x hx=>(by cases hx),rfl⟩⟩,fun p hp=>by rw [omg hp];exact ⟨rfl,fun q hq=>(by cases hq)⟩⟩ (by
   rintro done kd rest hsp U ⟨ps,s2,s3,s4,s5,rfl,h1,h2,h3⟩;have hdl:done.length<=1:=by rw [hsp] at hk;simp at hk;lia
   have hfz:Sl.frz s2=.val (.lst (ps.map aZ)):=by rcases h1 with rfl | rfl<;>rfl
   obtain ⟨qs,s5',el,hq,hq3⟩:=VT (G:=glo P (run P n)) hc nm key rules (.lst (ks.map .str)) (.lst (ps.map aZ)) kd done.length hdl ps h2 h3 s5;refine ⟨[.val (dU nm cs key rules),.val (.lst (ks.map .str)),.val (.lst (qs.map aZ)),.val (.str kd),.val (.lst (qs.map aZ)),s5'],?_,qs,_,_,_,_,rfl,.inr rfl,by rw [dW];exact hq,hq3⟩;simp only [bD,aT,jP,jQ];rw [bP (U':=[.val (dU nm cs key rules),.val (.lst (ks.map .str)),s2,.val (.str kd),.own [],s5]) (by simp [evS,evE,aG,aQ,aJ,cJ,dZ,fresh])];rw [bP (s:=.loop _ _ _ _) (U':=[.val (dU nm cs key rules),.val (.lst (ks.map .str)),.val (.lst (ps.map aZ)),.val (.str kd),.own (qs.map aZ),s5']) (by rw [evS];simp only [cJ,aJ,List.append_nil,aQ,aG,evE,aB,List.modify_succ_cons,List.modify_zero_cons,hfz,bG,Sl.get,bH];simp only [bJ,bE,bF,aT,items];exact el)];simp [aE,evS,evE,aB,aQ,aJ,Sl.get,Sl.frz,dZ,fresh])
 rw [bP (s:=.loop _ _ _ _) (U':=[.val (dU nm cs key rules),.val (.lst (ks.map .str)),s2,s3,s4,s5]) (by rw [evS];simp only [cJ,aJ,List.append_nil,aQ,aG,evE,aB,List.modify_succ_cons,List.modify_zero_cons,bG,Sl.get,Sl.frz,bH];simp only [bJ,bE,bF,aT,items];exact e)];refine ⟨ps,?_,h2⟩;rcases h1 with rfl | rfl<;>simp [aE,evS,evE,aB,aQ,aJ,Sl.get,Sl.frz,aY]
end
section
structure Bt where
 nm:Str
 cs:List Col
 key:List Str
 rs:List T
noncomputable def Bt.t (b:Bt):T:=gE b.nm b.cs b.key b.rs
structure Bt.ok (b:Bt):Prop where
 cs:oS b.cs
 k1:b.key.length<=2
 inn:∀ x∈b.key,∃ c∈b.cs,c.n=x
 kn:b.key≠[]
 nd:(b.cs.map (·.n)).Nodup
 kg:∀ x∈b.key,∃ c∈b.cs,c.n=x/\c.g=false
 kd:b.key.Nodup
inductive Rl where
 | ref (cs:List Str) (t w:Str) | unl (cs:List Str) | chk (t:Tst)
noncomputable def Rl.raw:Rl->T
 | .ref cs t w=>.tup [.str "refers",aZ cs,.str t,.str w]
 | .unl cs=>.tup [.str "unlike",.lst (cs.map .str)]
 | .chk t=>.tup [.str "check",t.t]
noncomputable def Rl.t:Rl->T
 | .ref cs t w=>.tup [.str "refers",aZ cs,.str t,.str w]
 | .unl cs=>.tup [.str "unlike",aZ cs]
 | .chk t=>.tup [.str "check",t.t]
noncomputable def Rl.ok:Rl->Prop
 | .ref cs t w=>EV cs/\cs.length<=4/\True
 | .unl cs=>EV cs/\cs.length<=4
 | .chk t=>t.ok 3
noncomputable def Rl.fits (ns:List Str) (cs:List Col):Rl->Prop
 | .ref ks t _=>(∀ x∈ks,∃ c∈cs,c.n=x)/\t∈ns
 | .unl ks=>∀ x∈ks,∃ c∈cs,c.n=x
 | .chk t=>t.inn cs
noncomputable def gF (cs:List Col) (x:Str):List Str:=cs.filterMap fun c=>if c.n==x then some c.k else none
noncomputable def kds (cs:List Col) (key:List Str):List Str:=key.map fun x=>(gF cs x).headD ""
noncomputable def Rl.kin (G:List (Str × List Col × List Str)) (cs:List Col):Rl->Prop
 | .ref qa g _=>∃ t∈G,t.1=g/\Kds cs qa (kds t.2.1 t.2.2)
 | _=>True
theorem VV (cs:List Col) (x:Str):(cs.filterMap fun c=>if c.n==x then some (T.str c.k) else none)=(gF cs x).map T.str:=by unfold gF;rw [List.map_filterMap];congr;funext o;split<;>rfl
theorem VW {cs:List Col} {x:Str} (h:∃ c∈cs,c.n=x):∃ y r,gF cs x=y::r:=by
 obtain ⟨c,hc,rfl⟩:=h;have:c.k∈gF cs c.n:=kG.mpr ⟨c,hc,by simp⟩;cases q:gF cs c.n with
 | nil=>rw [q] at this;cases this
 | cons y r=>exact ⟨y,r,rfl⟩
noncomputable def vZ:List Str:=["along", "stop", "late", "gap", "along", "gap"]
theorem VX (k:Int):∃ x∈vZ,dA [.str "along",.str "stop",.str "late",.str "gap",.str "along",.str "gap"] (k%6)=some (.str x):=by obtain ⟨c,hc,e⟩:=jJ (enc:=T.str) (cs:=vZ) (by simp [vZ]) k;exact ⟨c,hc,e⟩
noncomputable def oU (cs:List Col) (p:List Str):List Col:=cs.filterMap fun c=>if (p.any fun y=>y==c.n)&&!c.g then some c else none
theorem VY (cs:List Col) (p:List Str):(cs.filterMap fun c=>if (p.any fun y=>y==c.n)&&!c.g then some c.t else none)=(oU cs p).map Col.t:=by unfold oU;rw [List.map_filterMap];congr;funext o;split<;>rfl
theorem VZ {α:Type} (f:α->T) (l:List α):eW (l.map f) []=l.isEmpty:=by cases l<;>rfl
theorem WA (cs:List Col):(cs.filterMap fun c=>some (T.str c.n))=(cs.map (·.n)).map T.str:=by
 induction cs with
 | nil=>rfl
 | cons c cs ih=>simp [ih]
theorem EY (xs:List T) (j:Nat):cut xs none (some (j:Int))=xs.take j:=by
 unfold cut gP;simp only [show ¬ ((j:Int)<0) by lia,if_false,Int.toNat_natCast,Nat.sub_zero,List.drop_zero];by_cases h:j<=xs.length
 .rw [Nat.min_eq_left h]
 .rw [Nat.min_eq_right (by lia),List.take_of_length_le (by lia),List.take_of_length_le (by lia)]
theorem Tst.up:∀ {d:Nat} {t:Tst},t.ok d->t.ok (d+1)
 | 0,_,h=>by cases ‹Tst›<;>simp [Tst.ok] at h
 | d+1,.emp c,h=>⟨by lia,h.2⟩
 | d+1,.bel a b,h=>⟨by lia,h.2⟩
 | d+1,.isI c i,h=>⟨by lia,h.2⟩
 | d+1,.isS c x,h=>⟨by lia,h.2⟩
 | d+1,.neg t,h=>Tst.up (d:=d) (t:=t) h
 | d+1,.cnj a b,h=>⟨Tst.up (d:=d) (t:=a) h.1,Tst.up (d:=d) (t:=b) h.2⟩
 | d+1,.dsj a b,h=>⟨Tst.up (d:=d) (t:=a) h.1,Tst.up (d:=d) (t:=b) h.2⟩
theorem nL {G:Glo} {c:E} {a b ss:List S} {U U':List Sl} (h0:aQ (aJ c) U=U) (h1:evE G c (aB U)=some (.bl true)) (h2:aE G a U=some (.nx U')):aE G (.ite c a b::ss) U=aE G ss U':=bP (by rw [evS,h0,h1];exact h2)
section
variable {G:Glo} {BL bt gt KL PL NL ST pt:T} {k:Int} {s6 s7 s8 s9 s10:Sl}
noncomputable def ruD:List S:=kC.body.drop 3
noncomputable def ruE:List S:=kC.body.drop 4
theorem WB:evE G (.cmp .lt (.bin .mod (.var 2) (.cst (.int 8))) (.cst (.int 5))) (aB [.val BL,.val bt,.val (.int k),.val gt,.val KL,.val PL,s6,s7,s8,s9,s10])=some (.bl (decide (k%8<5))):=rfl
theorem EZ:evE G (.cmp .eq (.bin .mod (.var 2) (.cst (.int 8))) (.cst (.int 5))) (aB [.val BL,.val bt,.val (.int k),.val gt,.val KL,.val PL,s6,s7,s8,s9,s10])=some (.bl (k%8==5)):=rfl
theorem WC {w w' gn:Str} {cl:Nat} (hc:evE G (.land (.cmp .lt (.bin .mod (.var 2) (.cst (.int 8))) (.cst (.int 5))) (.cmp .ne (.var 5) (.lst []))) (aB [.val BL,.val bt,.val (.int k),.val gt,.val KL,.val PL,.no,.no,.no,.no,.no])=some (.bl true))
  (l5:bO .len PL=some (.int (cl:Int))) (hcl:0<cl) (i5:aK PL (.int (k/64%(cl:Int)))=some pt) (iw:dA [.str "along",.str "stop",.str "late",.str "gap",.str "along",.str "gap"] (k/1024%6)=some (.str w))
  (e8:evE G (.comp (.var 0) 1 .plain [.idx (.var 1) (.cst (.int 1))] (some (.land (.cmp .isin (.idx (.var 0) (.cst (.int 0))) (.var 7)) (.lnot (.tru (.idx (.var 0) (.cst (.int 2))))))))  (aB [.val BL,.val bt,.val (.int k),.val gt,.val KL,.val PL,.val pt,.val (.str w),.no,.no,.no])=some ST)
  (v:Bool) (hne:neC ST (.lst [])=some (.bl v)) (hw:w'=if v&&(w=="gap") then ("late":Str) else w) (ig:aK gt (.int 0)=some (.str gn)) :
  aE G ruD [.val BL,.val bt,.val (.int k),.val gt,.val KL,.val PL,.no,.no,.no,.no,.no]=some (.rt (.tup [.str "refers",pt,.str gn,.str w'])):=by
 refine fP rfl hc ?_;refine (bC (t:=pt) (U':=[.val BL,.val bt,.val (.int k),.val gt,.val KL,.val PL,.val pt,.no,.no,.no,.no]) rfl (by simp [evE,aB,Sl.get,l5,bI,cZ,cT,hcl,i5]) rfl).trans ?_;refine (bC (t:=.str w) (U':=[.val BL,.val bt,.val (.int k),.val gt,.val KL,.val PL,.val pt,.val (.str w),.no,.no,.no]) rfl (by simp [evE,aG,aB,Sl.get,bI,cZ,cT,aK,iw]) rfl).trans ?_;refine (bC (t:=ST) (U':=[.val BL,.val bt,.val (.int k),.val gt,.val KL,.val PL,.val pt,.val (.str w),.val ST,.no,.no]) rfl e8 rfl).trans ?_;have hcd:evE G (.land (.cmp .ne (.var 8) (.lst [])) (.cmp .eq (.var 7) (.cst (.str "gap")))) (aB [.val BL,.val bt,.val (.int k),.val gt,.val KL,.val PL,.val pt,.val (.str w),.val ST,.no,.no])=some (.bl (v&&(w=="gap"))):=by cases v<;>simp [evE,aG,aB,Sl.get,bB,hne,eqC,dpP,eqT]
 cases q:(v&&(w==("gap":Str))) with
 | true =>rw [q] at hw hcd;subst hw;exact (nL (U':=[.val BL,.val bt,.val (.int k),.val gt,.val KL,.val PL,.val pt,.val (.str "late"),.val ST,.no,.no]) rfl hcd (bC (t:=.str "late") rfl rfl rfl)).trans (cF rfl (by simp [evE,aG,aB,Sl.get,ig]))
 | false =>rw [q] at hw hcd;subst hw;exact (cQ rfl hcd).trans (cF rfl (by simp [evE,aG,aB,Sl.get,ig]))
end
theorem WD {P:Pr} (hd:P.fn "_law_drawn"=some iI) (ht:P.fn "_law_test"=some iU) (hp:P.fn "_law_pairs"=some mD) (h:P.fn "_law_rule"=some kC) (n:Nat)
  {bs:List Bt} (hb:∀ b∈bs,b.ok) {b:Bt} (hm:b∈bs) (k:Int):∃ r:Rl,run P (n+6) "_law_rule" [.lst (bs.map Bt.t),b.t,.int k]=some r.raw/\r.kin (bs.map fun b=>(b.nm,b.cs,b.key)) b.cs/\r.ok/\r.fits (bs.map (·.nm)) b.cs:=by
 rw [cE h rfl];show ∃ r:Rl,aY (aE (glo P (run P (n+5))) kC.body [.val (.lst (bs.map Bt.t)),.val b.t,.val (.int k),.no,.no,.no,.no,.no,.no,.no,.no])=_/\_;have hne:bs≠[]:=by intro e;rw [e] at hm;cases hm
 obtain ⟨g,hg,eg⟩:=jJ (enc:=Bt.t) hne (k/8);have hbo:=hb b hm;have hgo:=hb g hg;have hbl:0<bs.length:=by cases bs with | nil=>exact absurd rfl hne | cons _ _=>simp
 have hgl:g.cs.length<=16777216:=by have:=hgo.cs.2.1;lia
 have hbcl:b.cs.length<=16777216:=by have:=hbo.cs.2.1;lia
 have hkl:g.key.length<=16777216:=by have:=hgo.k1;lia
 have hb0:0<b.cs.length:=by have:=hbo.cs.1;cases q:b.cs with | nil=>exact absurd q this | cons _ _=>simp
 obtain ⟨ps,ep,hps,hkd⟩:=VU hp (n+4) hbo.cs (.str b.nm) (.tup (b.key.map .str)) (.tup b.rs) (g.key.map fun x=>(gF g.cs x).headD "") (by rw [bA];exact hgo.k1);have ep:(glo P (run P (n+5))).call "_law_pairs" [b.t,.lst ((g.key.map fun x=>(gF g.cs x).headD "").map .str)]=some (.lst (ps.map aZ)):=ep;have tests:∀ d:Nat,d<=2->∃ t:Tst,(glo P (run P (n+5))).call "_law_test" [b.t,.int (k/64),.int ((d+1:Nat):Int)]=some t.t/\t.ok 3/\t.inn b.cs:=fun d hd2=>by
  obtain ⟨t,e,o,hin⟩:=VM hd ht hbo.cs (.str b.nm) (.tup (b.key.map .str)) (.tup b.rs) d (n+3-d) (k/64);rw [show n+3-d+d+2=n+5 by lia] at e;refine ⟨t,e,?_,hin⟩;rcases (by lia:d=0\/d=1\/d=2) with rfl | rfl | rfl
  .exact Tst.up (Tst.up o)
  .exact Tst.up o
  .exact o
 generalize glo P (run P (n+5))=G at *;have lB:bO .len (.lst (bs.map Bt.t))=some (.int (bs.length:Int)):=by simp [bO]
 have iB:aK (.lst (bs.map Bt.t)) (.int (k/8%(bs.length:Int)))=some g.t:=eg;have ib1:aK b.t (.int 1)=some (.tup (b.cs.map Col.t)):=by simp [Bt.t,gE,aK,cN]
 have ig0:aK g.t (.int 0)=some (.str g.nm):=by simp [Bt.t,gE,aK,dR]
 have ig1:aK g.t (.int 1)=some (.tup (g.cs.map Col.t)):=by simp [Bt.t,gE,aK,cN]
 have ig2:aK g.t (.int 2)=some (.tup (g.key.map .str)):=by simp [Bt.t,gE,aK,gZ]
 generalize T.lst (bs.map Bt.t)=BL at *;generalize b.t=bt at *;generalize g.t=gt at *;have e4:evE G (.comp (.idx (.comp (.idx (.var 0) (.cst (.int 1))) 1 .plain [.idx (.var 4) (.cst (.int 1))] (some (.cmp .eq (.idx (.var 0) (.cst (.int 0))) (.var 1)))) (.cst (.int 0))) 1 .plain [.idx (.var 3) (.cst (.int 2))] none) (aB [.val BL,.val bt,.val (.int k),.val gt,.no,.no,.no,.no,.no,.no,.no])=some (.lst ((g.key.map fun x=>(gF g.cs x).headD "").map .str)):=by
  simp [evE,aG,evO,aB,Sl.get,items,cI,bnd,SZ,bB,ig1,ig2,hkl];rw [iW (enc:=T.str) (fun x=>some (T.str ((gF g.cs x).headD ""))) (fun x hx=>by
   obtain ⟨y,r,ey⟩:=VW (hgo.inn x hx);simp [hgl];rw [iW (enc:=Col.t) (fun c=>if c.n==x then some (T.str c.k) else none) (fun c _=>by cases hk:(c.n==x)<;>simp [Col.t,aK,dR,cN,eqC,dpP,eqT,hk]),VV,ey];simp [aK,dR])]
  simp [List.filterMap_eq_map']
 generalize T.lst ((g.key.map fun x=>(gF g.cs x).headD "").map T.str)=KL at *;have pre:∀ PL:T,G.call "_law_pairs" [bt,KL]=some PL->aE G kC.body [.val BL,.val bt,.val (.int k),.no,.no,.no,.no,.no,.no,.no,.no]=aE G ruD [.val BL,.val bt,.val (.int k),.val gt,.val KL,.val PL,.no,.no,.no,.no,.no]:=fun PL hPL =>
  (bC (t:=gt) (U':=[.val BL,.val bt,.val (.int k),.val gt,.no,.no,.no,.no,.no,.no,.no]) rfl (by simp [evE,aB,Sl.get,lB,bI,cZ,cT,hbl,iB]) rfl).trans
   ((bC (t:=KL) (U':=[.val BL,.val bt,.val (.int k),.val gt,.val KL,.no,.no,.no,.no,.no,.no]) rfl e4 rfl).trans (bC (t:=PL) rfl (by simp [evE,aG,aB,Sl.get,hPL]) rfl))
 rw [pre _ ep];have hcd:evE G (.land (.cmp .lt (.bin .mod (.var 2) (.cst (.int 8))) (.cst (.int 5))) (.cmp .ne (.var 5) (.lst []))) (aB [.val BL,.val bt,.val (.int k),.val gt,.val KL,.val (.lst (ps.map aZ)),.no,.no,.no,.no,.no])=some (.bl (decide (k%8<5)&&!ps.isEmpty)):=by
  rw [evE,WB];cases decide (k%8<5) with
  | false=>rfl
  | true=>cases ps<;>simp [evE,aG,aB,Sl.get,bB,neC,dpP,dO,eqT,eW]
 cases hw:(decide (k%8<5)&&!ps.isEmpty) with
 | true =>
  rw [hw] at hcd;rw [bU] at hw;have hpn:ps≠[]:=by intro e;rw [e] at hw;simp at hw
  obtain ⟨p,hp',epi⟩:=jJ (enc:=aZ) hpn (k/64);have hpl:0<ps.length:=by cases q:ps with | nil=>exact absurd q hpn | cons _ _=>simp
  obtain ⟨w,hwm,ew⟩:=VX (k/1024);have hpo:=hps.2 p hp';have e8:evE G (.comp (.var 0) 1 .plain [.idx (.var 1) (.cst (.int 1))] (some (.land (.cmp .isin (.idx (.var 0) (.cst (.int 0))) (.var 7)) (.lnot (.tru (.idx (.var 0) (.cst (.int 2))))))))  (aB [.val BL,.val bt,.val (.int k),.val gt,.val KL,.val (.lst (ps.map aZ)),.val (aZ p),.val (.str w),.no,.no,.no])=some (.lst ((oU b.cs p).map Col.t)):=by
   simp [evE,aG,evO,aB,Sl.get,items,cI,bnd,SZ,bB,ib1,hbcl];rw [iW (enc:=Col.t) (fun c=>if (p.any fun y=>y==c.n)&&!c.g then some c.t else none) (fun c _=>by have hin:=EX c.n p;cases ha:(p.any fun y=>y==c.n)<;>rw [ha] at hin<;>cases hgg:c.g<;>simp [Col.t,aK,dR,gZ,aZ,hin,hgg,gR]),VY]
  have hne2:neC (.lst ((oU b.cs p).map Col.t)) (.lst [])=some (.bl (!(oU b.cs p).isEmpty)):=by unfold neC;rw [if_pos (by simp [dpP,dO]),eqT,VZ]
  have key:=WC (G:=G) (w:=w) hcd (by simp [bO]) hpl epi ew e8 _ hne2 rfl ig0;refine ⟨.ref p g.nm (if (!(oU b.cs p).isEmpty)&&(w=="gap") then ("late":Str) else w),aW aY key,⟨_,cO.mpr ⟨g,hg,rfl⟩,rfl,hkd p hp'⟩,⟨fun x hx=>(hpo.1 x hx).1,?_,trivial⟩,fun x hx=>(hpo.1 x hx).2,cO.mpr ⟨g,hg,rfl⟩⟩
  .rw [hpo.2,bA];have:=hgo.k1;lia
 | false =>
  rw [hw] at hcd;generalize T.lst (ps.map aZ)=PL at *;have e9:evE G (.comp (.idx (.var 0) (.cst (.int 0))) 1 .plain [.idx (.var 1) (.cst (.int 1))] none) (aB [.val BL,.val bt,.val (.int k),.val gt,.val KL,.val PL,.no,.no,.no,.no,.no])=some (.lst ((b.cs.map (·.n)).map .str)):=by simp [evE,aG,evO,aB,Sl.get,items,cI,bnd,SZ,ib1,hbcl];rw [iW (enc:=Col.t) (fun c=>some (T.str c.n)) (fun c _=>by simp [Col.t,aK,dR]),WA];simp
  have pre2:aE G ruD [.val BL,.val bt,.val (.int k),.val gt,.val KL,.val PL,.no,.no,.no,.no,.no]=aE G (ruE.drop 1) [.val BL,.val bt,.val (.int k),.val gt,.val KL,.val PL,.no,.no,.no,.val (.lst ((b.cs.map (·.n)).map .str)),.no] :=
   (cQ rfl hcd).trans (bC rfl e9 rfl)
  rw [pre2];by_cases h5:k%8=5
  .obtain ⟨j,hj⟩:∃ j:Nat,k/64%(b.cs.length:Int)=(j:Int):=⟨(k/64%(b.cs.length:Int)).toNat,by have:=mL (k/64) (show (b.cs.length:Int)≠0 by lia);lia⟩;have hx1:k/64%(b.cs.length:Int)<(b.cs.length:Int):=mK _ (by lia);obtain ⟨m,hm2⟩:∃ m:Nat,1+k/1024%2=(m:Int):=⟨(1+k/1024%2).toNat,by lia⟩;have hjl:j<=((b.cs.map (·.n)).map T.str).length:=by simp;lia
   have hz:b.cs.length-j+min j b.cs.length<=16777216:=by lia
   have e10:evE G (.tup [.cst (.str "unlike"),.sli (.bin .add (.sli (.var 9) (some (.var 10)) none) (.sli (.var 9) none (some (.var 10)))) none (some (.bin .add (.cst (.int 1)) (.bin .mod (.bin .fdiv (.var 2) (.cst (.int 1024))) (.cst (.int 2)))))]) (aB [.val BL,.val bt,.val (.int k),.val gt,.val KL,.val PL,.no,.no,.no,.val (.lst ((b.cs.map (·.n)).map .str)),.val (.int (j:Int))])=some (Rl.unl ((eY (b.cs.map (·.n)) j).take m)).raw:=by have q1:=vW _ _ hjl;have q2:=vX _ _ hjl;simp only [List.map_map] at q1 q2;simp [evE,aG,evO,aB,Sl.get,bI,dN,cZ,cT,asI,gQ,hm2,q1,q2,SZ,hz,EY,Rl.raw,eY]
   refine ⟨.unl ((eY (b.cs.map (·.n)) j).take m),congrArg aY (fP rfl (EZ.trans (by rw [h5];rfl)) ((bC (t:=.int (j:Int)) (U':=[.val BL,.val bt,.val (.int k),.val gt,.val KL,.val PL,.no,.no,.no,.val (.lst ((b.cs.map (·.n)).map .str)),.val (.int (j:Int))]) rfl (by simp [evE,aB,Sl.get,bO,bI,cZ,cT,hb0,hj]) rfl).trans (cF rfl e10))),trivial,⟨fun x hx=>?_,?_⟩,fun x hx=>?_⟩
   .have hx':=oY hx;unfold eY at hx';have hx2:x∈b.cs.map (·.n):=by
     rcases oma hx' with z | z
     .exact List.mem_of_mem_drop z
     .exact oY z
    obtain ⟨c,hc,rfl⟩:=omm hx2;exact (hbo.cs.2.2 c hc).1
   .unfold eY;simp only [List.length_take,List.length_append,List.length_drop,List.length_map];have:=hbo.cs.2.1;lia
   .have hx':=oY hx;unfold eY at hx';have hx2:x∈b.cs.map (·.n):=by
     rcases oma hx' with z | z
     .exact List.mem_of_mem_drop z
     .exact oY z
    exact omm hx2
  .obtain ⟨d,hd2,hdz⟩:∃ d:Nat,d<=2/\1+k/1024%3=((d+1:Nat):Int):=⟨(k/1024%3).toNat,by lia,by lia⟩;obtain ⟨t,e,o,hin⟩:=tests d hd2;exact ⟨.chk t,congrArg aY ((cQ rfl (EZ.trans (by rw [show (k%8==5)=false by simpa using h5]))).trans (cF rfl (by simp only [Int.natCast_add,Int.cast_ofNat_Int] at e hdz;simp [evE,aG,aB,Sl.get,bI,dN,cZ,cT,hdz,e,Rl.raw]))),trivial,o,hin⟩
end
section
variable {cs:List Col}
structure Tb where
 nm:Str
 cs:List Col
 key:List Str
 rs:List Rl
noncomputable def Tb.t (b:Tb):T:=gE b.nm b.cs b.key (b.rs.map Rl.t)
structure Tb.ok (b:Tb):Prop where
 cl:b.cs.length<=4
 k1:b.key.length<=2
 rl:b.rs.length<=4
 rs:∀ r∈b.rs,r.ok
 kn:b.key≠[]
 nd:(b.cs.map (·.n)).Nodup
 inn:∀ x∈b.key,∃ c∈b.cs,c.n=x
 kg:∀ x∈b.key,∃ c∈b.cs,c.n=x/\c.g=false
 kd:b.key.Nodup
theorem FA (i:Int):(fJ i).length<=6:=by
 have all:∀ x∈kinds6,x.length<=6:=by decide +kernel
 unfold fJ;rw [eN];cases e:kinds6[(i%6).toNat]? with
 | none=>decide +kernel
 | some x=>exact all x (fT e)
theorem WE (k:Int):∀ c∈bT k,c.n.length<=6/\c.k.length<=6:=by
 have hc:∀ (j:Int) (nm:Str),nm.length<=6->∀ c∈kD k j nm,c.n.length<=6/\c.k.length<=6:=fun j nm hn c h=>by
  unfold kD at h;split at h
  .rw [omg h];exact ⟨hn,FA _⟩
  .cases h
 intro c h;unfold bT at h;rcases oma h with h | h
 .rw [omg h];exact ⟨(by decide +kernel:("id":Str).length<=6),FA _⟩
 .rcases oma h with h | h
  .exact hc _ _ (by decide +kernel) c h
  .rcases oma h with h | h
   .exact hc _ _ (by decide +kernel) c h
   .exact hc _ _ (by decide +kernel) c h
theorem wA {α:Type} {l:List α} {b:Nat} {x:α}:x∈eY l b↔x∈l:=by
 unfold eY;rw [qJ];constructor
 .rintro (h | h)
  .exact List.mem_of_mem_drop h
  .exact oY h
 .intro h;rw [<- List.take_append_drop b l,qJ] at h;exact h.symm
theorem sJ {α:Type} (l:List α) (b:Nat):(eY l b).length=l.length:=by unfold eY;simp only [List.length_append,List.length_drop,List.length_take];lia
theorem WF {x:Str} (h:x∈eV cs):∃ c∈cs,c.n=x:=by
 unfold eV at h;obtain ⟨c,hc,e⟩:=kG.mp h;split at e
 .cases e
 .cases e;exact ⟨c,hc,rfl⟩
theorem WG (k:Int):∃ c∈bT k,c.n="id":=⟨⟨"id",fJ k,false⟩,by unfold bT;simp,rfl⟩
noncomputable def mkB (nm:Str) (k:Int):Bt:=⟨nm,eY (bT k) (k/64%((bT k).length:Int)).toNat,iK k (bT k),[]⟩
theorem WH (k:Int):∀ x∈iK k (bT k),∃ c∈bT k,c.n=x:=by
 intro x hx;have hid:=WG k;unfold iK at hx;split at hx
 .rename_i h;have hg:∃ c∈bT k,c.n=(eV (bT k)).getD 1 "id":=by refine WF ?_;rw [eN,bW h.2];exact gH _
  split at hx<;>simp only [List.mem_cons,List.not_mem_nil,or_false] at hx<;>rcases hx with rfl | rfl<;>assumption
 .rw [omg hx];exact hid
theorem WI {x:Str} (h:x∈eV cs):∃ c∈cs,c.n=x/\c.g=false:=by
 unfold eV at h;obtain ⟨c,hc,e⟩:=kG.mp h;cases hg:c.g with
 | true=>rw [hg] at e;cases e
 | false=>rw [hg] at e;exact ⟨c,hc,dE e,hg⟩
theorem WJ (k:Int):∀ x∈iK k (bT k),∃ c∈bT k,c.n=x/\c.g=false:=by
 intro x hx;have hid:∃ c∈bT k,c.n="id"/\c.g=false:=⟨⟨"id",fJ k,false⟩,by unfold bT;simp,rfl,rfl⟩;unfold iK at hx;split at hx
 .rename_i h;have hg:∃ c∈bT k,c.n=(eV (bT k)).getD 1 "id"/\c.g=false:=by refine WI ?_;rw [eN,bW h.2];exact gH _
  split at hx<;>simp only [List.mem_cons,List.not_mem_nil,or_false] at hx<;>rcases hx with rfl | rfl<;>assumption
 .rw [omg hx];exact hid
theorem FB:∀ cs:List Col,(eV cs).Sublist (cs.map (·.n))
 | []=>.slnil
 | c::cs=>by
  have ih:=FB cs;unfold eV at ih ⊢;rw [jD,aS];cases c.g with
  | true=>exact ih.cons _
  | false=>exact ih.cons₂ _
theorem WK (k:Int) (cs:List Col):(iK k cs).length<=2:=by unfold iK;split<;>(try split)<;>simp
theorem FC (k:Int):((bT k).map (·.n)).Nodup:=by
 have e1:(("id":Str)=="n")=false/\(("id":Str)=="t")=false/\(("id":Str)=="u")=false/\(("n":Str)=="t")=false/\(("n":Str)=="u")=false/\(("t":Str)=="u")=false:=by decide +kernel
 obtain ⟨a1,a2,a3,a4,a5,a6⟩:=e1;have b1:=ne_of_beq_false a1;have b2:=ne_of_beq_false a2;have b3:=ne_of_beq_false a3;have b4:=ne_of_beq_false a4;have b5:=ne_of_beq_false a5;have b6:=ne_of_beq_false a6;unfold bT kD;split<;>split<;>split<;>simp [b1,b2,b3,b4,b5,b6]
theorem WL (k:Int):(iK k (bT k)).Nodup:=by
 have nd:(eV (bT k)).Nodup:=(FC k).sublist (FB _);obtain ⟨r,er⟩:∃ r,eV (bT k)=("id":Str)::r:=⟨_,rfl⟩;unfold iK;split
 .rename_i h;rw [er] at nd h ⊢;cases r with
  | nil=>simp at h
  | cons x r =>
   have hx:("id":Str)≠x:=fun e=>(cK.mp nd).1 (by rw [e];exact .head _);split
   .exact cK.mpr ⟨fun z=>hx (omg z),cK.mpr ⟨(fun z=>nomatch z),gK⟩⟩
   .exact cK.mpr ⟨fun z=>hx (omg z).symm,cK.mpr ⟨(fun z=>nomatch z),gK⟩⟩
 .exact cK.mpr ⟨(fun z=>nomatch z),gK⟩
theorem WM (nm:Str) (k:Int):(mkB nm k).ok where
 kd:=WL k
 kg:=fun x hx=>by obtain ⟨c,hc,e⟩:=WJ k x hx;exact ⟨c,wA.mpr hc,e⟩
 cs:=by have h:=EN k;refine ⟨fun e=>?_,by show (eY _ _).length<=4;rw [sJ];exact h.2,fun c hc=>WE k c (wA.mp hc)⟩;have e':(eY (bT k) (k/64%((bT k).length:Int)).toNat).length=([]:List Col).length:=aW List.length e;rw [sJ] at e';simp at e';rw [e'] at h;simp at h
 k1:=WK k _
 inn:=fun x hx=>by obtain ⟨c,hc,e⟩:=WH k x hx;exact ⟨c,wA.mpr hc,e⟩
 kn:=by show iK k (bT k)≠[];unfold iK;split<;>(try split)<;>simp
 nd:=by show ((eY (bT k) _).map (·.n)).Nodup;have h:=FC k;unfold eY;rw [eP];rw [<- List.take_append_drop (k/64%((bT k).length:Int)).toNat (bT k),eP] at h;exact (List.perm_append_comm.nodup_iff).mp h
theorem pY {α:Type} (enc:α->T):∀ (l:List α) (i:Nat),fH (l.map enc) i=(l.zipIdx i).map fun p=>.tup [.int (p.2:Int),enc p.1]
 | [],_=>rfl
 | a::l,i=>by rw [aS,fH,pY enc l (i+1),List.zipIdx_cons,aS]
theorem wB:∀ (l:List T) (i:Nat),(fH l i).length=l.length
 | [],_=>rfl
 | a::l,i=>by rw [fH,fS,fS,wB l (i+1)]
theorem WN {G:Glo} (r:Rl) (e:Env):evE G (.bin .add (.tup [.idx (.var 0) (.cst (.int 0)),.blt .toTuple (.idx (.var 0) (.cst (.int 1)))]) (.sli (.var 0) (some (.cst (.int 2))) none)) (some r.raw::e)=some r.t:=by
 cases r with
 | ref cs t w=>simp [evE,aG,evO,bI,dN,aK,bO,asI,gQ,SZ,Rl.raw,Rl.t,dR,cN,cut,gP,aZ]
 | unl cs=>simp [evE,aG,evO,bI,dN,aK,bO,asI,gQ,SZ,Rl.raw,Rl.t,dR,cN,cut,gP,aZ]
 | chk t=>cases t<;>simp [evE,aG,evO,bI,dN,aK,bO,asI,gQ,SZ,Rl.raw,Rl.t,Tst.t,dR,cN,cut,gP]
theorem WO {P:Pr} (hd:P.fn "_law_drawn"=some iI) (ht:P.fn "_law_test"=some iU) (hp:P.fn "_law_pairs"=some mD) (hr:P.fn "_law_rule"=some kC) (n:Nat)
  {bs:List Bt} (hb:∀ b∈bs,b.ok) {b:Bt} (hm:b∈bs) (k d c:Int) (s1 s2 s3 s5:T) (m:Nat) (hm3:m<=3) (s9 s10:Sl) :
  ∃ (rs:List Rl) (s9':Sl),cP (fun x U=>(bD [9] x U).bind fun U'=>aE (glo P (run P (n+6))) [.app 8 (.call "_law_rule" [.var 4,.var 6,.bin .fdiv (.call "_law_drawn" [.var 7,.var 9]) (.cst (.int 4))])] U')
   ((List.range m).map fun (i:Nat)=>T.int (i:Int)) [.val (.int k),.val s1,.val s2,.val s3,.val (.lst (bs.map Bt.t)),.val s5,.val b.t,.val (.int d),.own [],s9,s10] =
   some (.nx [.val (.int k),.val s1,.val s2,.val s3,.val (.lst (bs.map Bt.t)),.val s5,.val b.t,.val (.int d),.own (rs.map Rl.raw),s9',s10])/\rs.length=m/\∀ r∈rs,r.kin (bs.map fun b=>(b.nm,b.cs,b.key)) b.cs/\r.ok/\r.fits (bs.map (·.nm)) b.cs:=by
 obtain ⟨U',e,rs,s9',rfl,h1,h2⟩:=fW (enc:=fun (i:Nat)=>T.int (i:Int)) (f:=fun x U=>(bD [9] x U).bind fun U'=>aE (glo P (run P (n+6))) [.app 8 (.call "_law_rule" [.var 4,.var 6,.bin .fdiv (.call "_law_drawn" [.var 7,.var 9]) (.cst (.int 4))])] U')
  (fun done U=>∃ rs s9',U=[.val (.int k),.val s1,.val s2,.val s3,.val (.lst (bs.map Bt.t)),.val s5,.val b.t,.val (.int d),.own (rs.map Rl.raw),s9',s10]/\rs.length=done.length/\∀ r∈rs,r.kin (bs.map fun b=>(b.nm,b.cs,b.key)) b.cs/\r.ok/\r.fits (bs.map (·.nm)) b.cs)
  (List.range m) [.val (.int k),.val s1,.val s2,.val s3,.val (.lst (bs.map Bt.t)),.val s5,.val b.t,.val (.int d),.own [],s9,s10] ⟨[],s9,rfl,rfl,fun r h=>by cases h⟩ (by
   rintro done i rest hsp U ⟨rs,s9',rfl,h1,h2⟩;obtain ⟨r,er,hro⟩:=WD hd ht hp hr n hb hm (dH d i/4);have ed:=mF hd (n+5) d i;have hdl:done.length<=3:=by have:=aW List.length hsp;simp at this;lia
   have hz:rs.length<16777216:=by lia
   refine ⟨[.val (.int k),.val s1,.val s2,.val s3,.val (.lst (bs.map Bt.t)),.val s5,.val b.t,.val (.int d),.own ((rs++[r]).map Rl.raw),.val (.int i),s10],?_,rs++[r],_,rfl,by simp [h1],fun q hq=>?_⟩
   .simp [aE,evS,evE,aG,aB,aQ,aJ,cJ,Sl.get,Sl.frz,bI,cT,bD,glo,SZ,ed,er,hz]
   .rcases oma hq with z | z
    .exact h2 q z
    .rw [omg z];exact hro)
 exact ⟨rs,s9',e,by rw [h1];simp,h2⟩
end
section
noncomputable def names4:List Str:=["item", "user", "box", "log"]
noncomputable def sK:List Int:=[2,1,3,4,2,3]
noncomputable def sL:List Int:=[1,2,0,1,3]
theorem WP:∀ c∈sK,1<=c/\c<=4:=by decide
theorem WQ:∀ c∈sL,0<=c/\c<=3:=by decide
theorem WR (k:Int):∃ i∈sK,dA [.int 2,.int 1,.int 3,.int 4,.int 2,.int 3] (k%6)=some (.int i):=by obtain ⟨c,hc,e⟩:=jJ (enc:=T.int) (cs:=sK) (by simp [sK]) k;exact ⟨c,hc,e⟩
theorem WS (k:Int):∃ i∈sL,dA [.int 1,.int 2,.int 0,.int 1,.int 3] (k%5)=some (.int i):=by obtain ⟨c,hc,e⟩:=jJ (enc:=T.int) (cs:=sL) (by simp [sL]) k;exact ⟨c,hc,e⟩
theorem wC {α β:Type} (f:α->β) (l:List α):(l.filterMap fun a=>some (f a))=l.map f:=by
 induction l with
 | nil=>rfl
 | cons a l ih=>simp [ih]
theorem wD (G:Glo) (elt:E) (n:Nat) (k:Ik) (src:List E) (cond:Option E) (r:Env):evE G (.comp elt n k src cond) r=(aG G src r).bind fun xs=>(cI k xs).bind fun qc =>
   (dP (fun x=>(bnd n x r).bind fun r'=>(evO G cond r').bind fun c=>match c with
    | none=>(evE G elt r').map some
    | some (.bl true)=>(evE G elt r').map some
    | some (.bl false)=>some none
    | some _=>none) qc).map .lst:=by rw [evE];try rfl
theorem WT (G:Glo) (i:Nat) (r:Env):evE G (.var i) r=(r[i]?).join:=by rw [evE]
theorem gG (G:Glo) (f:Bn) (a:E) (r:Env):evE G (.blt f a) r=(evE G a r).bind fun x=>bO f x:=by rw [evE]
theorem WU (q:Nat) (h:q<=3):items .range [.int (q:Int)]=some ((List.range q).map fun (i:Nat)=>T.int (i:Int)):=by simp only [items,kP,Int.toNat_natCast];rw [if_pos (by lia)]
theorem hJ {G:Glo} {is:List Nat} {k:Ik} {src:List E} {body:List S} {U U0:List Sl} {xs qc:List T} {o:Out} (h0:aQ (cJ src) U=U0) (h1:aG G src (aB U0)=some xs) (h2:items k xs=some qc)
  (h3:cP (fun x U=>(bD is x U).bind fun U'=>aE G body U') qc U0=some o):evS G (.loop is k src body) U=some o:=by
 rw [evS,h0,h1,bQ,h2,bQ];exact h3
noncomputable def wE:List S:=[.asg 7 (.bin .fdiv (.call "_law_drawn" [.var 0,.bin .add (.cst (.int 20)) (.var 3)]) (.cst (.int 4))),
  .asg 8 (.lst []),
  .loop [9] .range [.idx (.tup [.cst (.int 1),.cst (.int 2),.cst (.int 0),.cst (.int 1),.cst (.int 3)]) (.bin .mod (.var 7) (.cst (.int 5)))] [.app 8 (.call "_law_rule" [.var 4,.var 6,.bin .fdiv (.call "_law_drawn" [.var 7,.var 9]) (.cst (.int 4))])],
  .asg 10 (.blt .toTuple (.comp (.bin .add (.tup [.idx (.var 0) (.cst (.int 0)),.blt .toTuple (.idx (.var 0) (.cst (.int 1)))]) (.sli (.var 0) (some (.cst (.int 2))) none)) 1 .plain [.var 8] none)),
  .asg 5 (.bin .add (.var 5) (.tup [.bin .add (.sli (.var 6) none (some (.cst (.int 3)))) (.tup [.var 10])]))]
set_option maxRecDepth 1000000 in
theorem WV {P:Pr} (hd:P.fn "_law_drawn"=some iI) (ht:P.fn "_law_test"=some iU) (hp:P.fn "_law_pairs"=some mD) (hr:P.fn "_law_rule"=some kC) (n:Nat)
  {bs:List Bt} (hbo:∀ b∈bs,b.ok) {b:Bt} (hbm:b∈bs) (k:Int) (s1:T) (s2:Int) (i:Nat) (S:List Tb) (hS:S.length<=4) (s7 s8 s9 s10:Sl) :
  ∃ (rs:List Rl) (s9':Sl),aE (glo P (run P (n+6))) wE [.val (.int k),.val s1,.val (.int s2),.val (.int (i:Int)),.val (.lst (bs.map Bt.t)),.val (.tup (S.map Tb.t)),.val b.t,s7,s8,s9,s10] =
   some (.nx [.val (.int k),.val s1,.val (.int s2),.val (.int (i:Int)),.val (.lst (bs.map Bt.t)),.val (.tup ((S++[(⟨b.nm,b.cs,b.key,rs⟩:Tb)]).map Tb.t)),.val b.t,.val (.int (dH k (20+i)/4)),.val (.lst (rs.map Rl.raw)),s9',.val (.tup (rs.map Rl.t))])/\rs.length<=3/\∀ r∈rs,r.kin (bs.map fun b=>(b.nm,b.cs,b.key)) b.cs/\r.ok/\r.fits (bs.map (·.nm)) b.cs:=by
 have e1:=mF hd (n+5) k (20+i);obtain ⟨c,hc,ecn⟩:=WS (dH k (20+i)/4);have hcm:=WQ c hc;obtain ⟨q,rfl⟩:∃ q:Nat,c=(q:Int):=⟨c.toNat,by lia⟩;have hq3:q<=3:=by lia
 obtain ⟨rs,s9',el,hrl,hro⟩:=WO hd ht hp hr n hbo hbm k (dH k (20+i)/4) 0 s1 (.int s2) (.int (i:Int)) (.tup (S.map Tb.t)) q hq3 s9 s10;have hz1:rs.length<=16777216:=by lia
 have hz2:S.length+1<=16777216:=by lia
 refine ⟨rs,s9',?_,by lia,hro⟩;unfold wE;rw [bP (U':=[.val (.int k),.val s1,.val (.int s2),.val (.int (i:Int)),.val (.lst (bs.map Bt.t)),.val (.tup (S.map Tb.t)),.val b.t,.val (.int (dH k (20+i)/4)),s8,s9,s10]) (by simp [evS,evE,aG,aB,aQ,aJ,cJ,Sl.get,Sl.frz,bI,dN,cT,dZ,fresh,glo,SZ,e1])];rw [bP (U':=[.val (.int k),.val s1,.val (.int s2),.val (.int (i:Int)),.val (.lst (bs.map Bt.t)),.val (.tup (S.map Tb.t)),.val b.t,.val (.int (dH k (20+i)/4)),.own [],s9,s10]) (by simp [evS,evE,aG,aQ,aJ,cJ,dZ,fresh])];rw [bP (s:=.loop _ _ _ _) (U':=[.val (.int k),.val s1,.val (.int s2),.val (.int (i:Int)),.val (.lst (bs.map Bt.t)),.val (.tup (S.map Tb.t)),.val b.t,.val (.int (dH k (20+i)/4)),.own (rs.map Rl.raw),s9',s10]) (by refine hJ (qc:=(List.range q).map fun (i:Nat)=>T.int (i:Int)) (xs:=[.int (q:Int)]) (U0:=[.val (.int k),.val s1,.val (.int s2),.val (.int (i:Int)),.val (.lst (bs.map Bt.t)),.val (.tup (S.map Tb.t)),.val b.t,.val (.int (dH k (20+i)/4)),.own [],s9,s10]) (by simp [cJ,aJ,aQ,Sl.frz]) ?_ (WU q hq3) el;simp [evE,aG,aB,Sl.get,bI,cZ,aK,ecn])];rw [bP (U':=[.val (.int k),.val s1,.val (.int s2),.val (.int (i:Int)),.val (.lst (bs.map Bt.t)),.val (.tup (S.map Tb.t)),.val b.t,.val (.int (dH k (20+i)/4)),.val (.lst (rs.map Rl.raw)),s9',.val (.tup (rs.map Rl.t))]) (by
  simp only [evS,aB,aQ,aJ,cJ,jV,List.append_nil,List.nil_append,List.cons_append,List.filterMap_cons,List.filterMap_nil,Nat.reduceLeDiff,if_false,List.modify_succ_cons,List.modify_zero_cons,Sl.frz,bG,bH,Sl.get];rw [gG,wD];simp only [aG,WT,bJ,bE,bF,aT,cI,items,List.length_map,SZ,hz1,if_true];rw [iW (enc:=Rl.raw) (fun r=>some r.t) (fun r _=>by simp only [bnd,if_true,aT,evO];rw [WN];rfl),wC];simp [dZ,fresh,bO])]
 simp [aE,evS,evE,aG,evO,aB,aQ,aJ,cJ,jV,Sl.get,Sl.frz,bI,dN,dZ,fresh,asI,gQ,SZ,Bt.t,gE,cut,gP,hz2,Tb.t]
theorem WW {P:Pr} (hd:P.fn "_law_drawn"=some iI) (ht:P.fn "_law_test"=some iU) (hp:P.fn "_law_pairs"=some mD) (hr:P.fn "_law_rule"=some kC)
  (hb:P.fn "_law_bare"=some kY) (h:P.fn "_law_schema"=some sE) (n:Nat) (k:Int) :
  ∃ S:List Tb,run P (n+7) "_law_schema" [.int k]=some (.tup (S.map Tb.t))/\S.length<=4/\(∀ b∈S,b.ok)/\0<S.length/\(S.map (·.nm)).Nodup/\(∀ b∈S,b.rs.length<=3/\∀ r∈b.rs,r.fits (S.map (·.nm)) b.cs)/\∀ b∈S,∀ r∈b.rs,r.kin (S.map fun b=>(b.nm,b.cs,b.key)) b.cs:=by
 rw [cE h rfl];obtain ⟨c,hc,ec⟩:=WR (k/4);have hc':=WP c hc;obtain ⟨m,rfl⟩:∃ m:Nat,c=(m:Int):=⟨c.toNat,by lia⟩;have hk0:0<=k%4:=mL _ (by decide);have hk1:k%4<4:=mK _ (by decide);obtain ⟨j,hj⟩:∃ j:Nat,k%4=(j:Int):=⟨(k%4).toNat,by lia⟩;have hjl:j<=(names4.map T.str).length:=by simp [names4];lia
 generalize hN:(eY names4 j).take m=N;have hNl:N.length<=4:=by rw [<- hN,List.length_take,sJ];simp [names4];lia
 have hNp:0<N.length:=by rw [<- hN,List.length_take,sJ];simp [names4];lia
 unfold sE;dsimp only;rw [bP (U':=[.val (.int k),.own (names4.map .str),.no,.no,.no,.no,.no,.no,.no,.no,.no]) (by simp [evS,evE,aG,cU,aQ,aJ,cJ,dZ,fresh,names4])];rw [bP (U':=[.val (.int k),.own (names4.map .str),.val (.int (j:Int)),.no,.no,.no,.no,.no,.no,.no,.no]) (by simp [evS,evE,aB,aQ,aJ,Sl.get,Sl.frz,bI,cZ,dZ,fresh,hj])];rw [bP (U':=[.val (.int k),.val (.lst (N.map .str)),.val (.int (j:Int)),.no,.no,.no,.no,.no,.no,.no,.no]) (by
  have hz:(names4.map T.str).length-j+min j (names4.map T.str).length<=16777216:=by simp [names4];lia
  have hz':names4.length-j+min j names4.length<=16777216:=by simpa using hz
  simp only [evS,evE,aG,evO,aB,aQ,aJ,cJ,jV,List.append_nil,List.nil_append,List.cons_append,List.modify_succ_cons,List.modify_zero_cons,Sl.frz,bG,bH,Sl.get,bJ,bE,bF,aT,fB,asI,gQ,vW _ _ hjl,vX _ _ hjl];simp [bI,dN,cZ,cT,dZ,fresh,aK,SZ,hz',ec,EY,eY,<- hN])]
 generalize hB:(N.zipIdx 0).map (fun p=>mkB p.1 (dH k p.2/4))=bs;have hbl:bs.length=N.length:=by rw [<- hB];simp
 have hbo:∀ b∈bs,b.ok:=fun b hb'=>by rw [<- hB] at hb';obtain ⟨p,hp',rfl⟩:=omm hb';exact WM _ _
 rw [bP (U':=[.val (.int k),.val (.lst (N.map .str)),.val (.int (j:Int)),.no,.val (.lst (bs.map Bt.t)),.no,.no,.no,.no,.no,.no]) (by
  have hz:N.length<=16777216:=by lia
  simp only [evS,evE,aG,evO,aB,aQ,aJ,cJ,jV,List.append_nil,List.nil_append,List.cons_append,List.filterMap_cons,List.filterMap_nil,Nat.reduceLeDiff,if_true,if_false,Nat.reduceSub,List.modify_succ_cons,List.modify_zero_cons,Sl.frz,bG,bH,Sl.get,bJ,bE,bF,aT,cI,items,wB,List.length_map,SZ,hz];rw [pY T.str N 0,iW (enc:=fun (p:Str × Nat)=>T.tup [.int (p.2:Int),.str p.1]) (fun p=>some (mkB p.1 (dH k p.2/4)).t) (fun p _=>by have e1:=mF hd (n+5) k p.2;have e2:=VE hd hb (n+4) p.1 (dH k p.2/4);simp [bnd,bI,cT,glo,e1,e2,mkB,Bt.t]),wC];simp [dZ,fresh,<- hB])]
 rw [bP (U':=[.val (.int k),.val (.lst (N.map .str)),.val (.int (j:Int)),.no,.val (.lst (bs.map Bt.t)),.val (.tup []),.no,.no,.no,.no,.no]) (by simp [evS,evE,aG,aQ,aJ,cJ,dZ,fresh])];obtain ⟨U',e,S,s3,s6,s7,s8,s9,s10,rfl,h1,h2,h3,h4,h5,h6⟩:=fW (enc:=fun (p:Bt × Nat)=>T.tup [.int (p.2:Int),p.1.t]) (f:=fun x U=>(bD [3,6] x U).bind fun U'=>aE (glo P (run P (n+6))) wE U')
  (fun done U=>∃ (S:List Tb),∃ s3 s6 s7 s8 s9 s10,U=[.val (.int k),.val (.lst (N.map .str)),.val (.int (j:Int)),s3,.val (.lst (bs.map Bt.t)),.val (.tup (S.map Tb.t)),s6,s7,s8,s9,s10]/\S.length=done.length/\(∀ b∈S,b.ok)/\S.map (·.nm)=done.map (·.1.nm)/\(∀ b∈S,b.rs.length<=3/\∀ r∈b.rs,r.fits (bs.map (·.nm)) b.cs)/\(∀ b∈S,∀ r∈b.rs,r.kin (bs.map fun b=>(b.nm,b.cs,b.key)) b.cs)/\(S.map fun b=>(b.nm,b.cs,b.key))=done.map fun p=>(p.1.nm,p.1.cs,p.1.key))
  (bs.zipIdx 0) [.val (.int k),.val (.lst (N.map .str)),.val (.int (j:Int)),.no,.val (.lst (bs.map Bt.t)),.val (.tup []),.no,.no,.no,.no,.no] ⟨[],_,_,_,_,_,_,rfl,rfl,(fun b hb'=>by cases hb'),rfl,(fun b hb'=>by cases hb'),(fun b hb'=>by cases hb'),rfl⟩ (by
   rintro done ⟨b,i⟩ rest hsp U ⟨S,s3,s6,s7,s8,s9,s10,rfl,h1,h2,h3,h4,h5,h6⟩;have hbm:b∈bs:=by
    have:(b,i)∈bs.zipIdx 0:=by rw [hsp];simp
    have:=List.mem_zipIdx' this;rw [this.2];exact gH _
   have hdl:done.length<=4:=by have:=aW List.length hsp;simp at this;lia
   obtain ⟨rs,s9',est,hrl,hro⟩:=WV hd ht hp hr n hbo hbm k (.lst (N.map .str)) (j:Int) i S (by lia) s7 s8 s9 s10;refine ⟨[.val (.int k),.val (.lst (N.map .str)),.val (.int (j:Int)),.val (.int (i:Int)),.val (.lst (bs.map Bt.t)),.val (.tup ((S++[(⟨b.nm,b.cs,b.key,rs⟩:Tb)]).map Tb.t)),.val b.t,.val (.int (dH k (20+i)/4)),.val (.lst (rs.map Rl.raw)),s9',.val (.tup (rs.map Rl.t))],?_,S++[(⟨b.nm,b.cs,b.key,rs⟩:Tb)],_,_,_,_,_,_,rfl,by simp [h1],fun x hx=>?_,by simp [h3],fun x hx=>?_,fun x hx=>?_,by rw [List.map_append,List.map_append,h6];rfl⟩
   .simp only [bD,setAll,aT,jP,jQ];exact est
   .rcases oma hx with z | z
    .exact h2 x z
    .rw [omg z];have bo:=hbo b hbm;exact ⟨bo.cs.2.1,bo.k1,by show rs.length<=4;lia,fun r hr=>(hro r hr).2.1,bo.kn,bo.nd,bo.inn,bo.kg,bo.kd⟩
   .rcases oma hx with z | z
    .exact h4 x z
    .rw [omg z];exact ⟨by show rs.length<=3;lia,fun r hr=>(hro r hr).2.2⟩
   .rcases oma hx with z | z
    .exact h5 x z
    .rw [omg z];exact fun r hr=>(hro r hr).1)
 rw [bP (s:=.loop _ _ _ _) (U':=[.val (.int k),.val (.lst (N.map .str)),.val (.int (j:Int)),s3,.val (.lst (bs.map Bt.t)),.val (.tup (S.map Tb.t)),s6,s7,s8,s9,s10]) (by rw [evS];simp only [cJ,aJ,List.append_nil,aQ,aG,evE,aB,List.modify_succ_cons,List.modify_zero_cons,bG,Sl.get,Sl.frz,bH];simp only [bJ,bE,bF,aT,items,pY];exact e)];refine ⟨S,by simp [aE,evS,evE,aB,aQ,aJ,Sl.get,Sl.frz,aY],by rw [h1];simp;lia,h2,by rw [h1];simp;lia,?_,?_,?_⟩
 .have e1:(bs.zipIdx 0).map (·.1.nm)=N:=by
   have z:(bs.zipIdx 0).map (·.1.nm)=((bs.zipIdx 0).map Prod.fst).map (·.nm):=by rw [cH];rfl
   rw [z,List.zipIdx_map_fst,<- hB,cH];have y:(N.zipIdx 0).map ((·.nm)∘fun p=>mkB p.1 (dH k p.2/4))=(N.zipIdx 0).map Prod.fst:=rfl;rw [y,List.zipIdx_map_fst]
  rw [h3,e1,<- hN];have all:∀ j:Fin 4,∀ m:Fin 5,((eY names4 j.val).take m.val).Nodup:=by decide +kernel
  exact all ⟨j,by lia⟩ ⟨m,by lia⟩
 .have e2:S.map (·.nm)=bs.map (·.nm):=by
   have z:(bs.zipIdx 0).map (·.1.nm)=((bs.zipIdx 0).map Prod.fst).map (·.nm):=by rw [cH];rfl
   rw [h3,z,List.zipIdx_map_fst]
  rw [e2];exact h4
 .have e2:(S.map fun b=>(b.nm,b.cs,b.key))=bs.map fun b=>(b.nm,b.cs,b.key):=by
   rw [h6];have z:((bs.zipIdx 0).map fun p=>(p.1.nm,p.1.cs,p.1.key))=((bs.zipIdx 0).map Prod.fst).map fun b=>(b.nm,b.cs,b.key):=by rw [cH];rfl
   rw [z,List.zipIdx_map_fst]
  rw [e2];exact h5
end
section
variable {ps:List (Col × T)}
noncomputable def Wok (c:Col) (w:T):Prop:=w=.non\/((c.k==("text":Str))=true/\∃ x,w=.str x)\/((c.k==("text":Str))=false/\∃ i,w=.int i)
noncomputable def rowS:List Str:=["a", "b", "", "ab", "a", "x9"]
noncomputable def rowI:List Int:=[0,1,2,3,1,2,4,-5]
theorem FD (k:Int):∃ x,dA [.str "a",.str "b",.str "",.str "ab",.str "a",.str "x9"] (k%6)=some (.str x):=by obtain ⟨c,_,e⟩:=jJ (enc:=T.str) (cs:=rowS) (by simp [rowS]) k;exact ⟨c,e⟩
theorem FE (k:Int):∃ x,dA [.int 0,.int 1,.int 2,.int 3,.int 1,.int 2,.int 4,.int (-5)] (k%8)=some (.int x):=by obtain ⟨c,_,e⟩:=jJ (enc:=T.int) (cs:=rowI) (by simp [rowI]) k;exact ⟨c,e⟩
theorem WX {P:Pr} (h:P.fn "_law_worth"=some iJ) (n:Nat) (c:Col) (k:Int):∃ w,run P (n+1) "_law_worth" [c.t,.int k]=some w/\Wok c w:=by
 rw [cE h rfl];obtain ⟨x,ex⟩:=FD (k/4);obtain ⟨i,ei⟩:=FE (k/4);cases hg:c.g with
 | true =>
  cases h4:(k%4==0) with
  | true=>exact ⟨.non,by simp [iJ,aE,evS,evE,aG,cU,aB,aQ,aJ,cJ,Sl.get,Sl.frz,bI,cZ,cT,aY,bB,aK,gR,glo,Col.t,gZ,hg,h4,eqC,dpP,eqT],.inl rfl⟩
  | false =>
   cases ht:(c.k==("text":Str)) with
   | true=>exact ⟨.str x,by simp [iJ,aE,evS,evE,aG,cU,aB,aQ,aJ,cJ,Sl.get,Sl.frz,bI,cZ,cT,aY,bB,aK,gR,glo,Col.t,cN,gZ,hg,h4,eqC,dpP,eqT,ht,ex],.inr (.inl ⟨ht,x,rfl⟩)⟩
   | false=>exact ⟨.int i,by simp [iJ,aE,evS,evE,aG,cU,aB,aQ,aJ,cJ,Sl.get,Sl.frz,bI,cZ,cT,aY,bB,aK,gR,glo,Col.t,cN,gZ,hg,h4,eqC,dpP,eqT,ht,ei],.inr (.inr ⟨ht,i,rfl⟩)⟩
 | false =>
  cases ht:(c.k==("text":Str)) with
  | true=>exact ⟨.str x,by simp [iJ,aE,evS,evE,aG,cU,aB,aQ,aJ,cJ,Sl.get,Sl.frz,bI,cZ,cT,aY,bB,aK,gR,glo,Col.t,cN,gZ,hg,eqC,dpP,eqT,ht,ex],.inr (.inl ⟨ht,x,rfl⟩)⟩
  | false=>exact ⟨.int i,by simp [iJ,aE,evS,evE,aG,cU,aB,aQ,aJ,cJ,Sl.get,Sl.frz,bI,cZ,cT,aY,bB,aK,gR,glo,Col.t,cN,gZ,hg,eqC,dpP,eqT,ht,ei],.inr (.inr ⟨ht,i,rfl⟩)⟩
theorem jK (G:Glo) (elt:E) (n:Nat) (k:Ik) (src:List E) (r:Env):evE G (.comp elt n k src none) r=(aG G src r).bind fun xs=>(cI k xs).bind fun qc =>
   (dP (fun x=>(bnd n x r).bind fun r'=>(evE G elt r').map some) qc).map .lst:=by
 rw [wD];simp only [evO,aT]
noncomputable def nmT (p:Col × T):T:=.str p.1.n
theorem FF:∀ {ps:List (Col × T)} {p:Col × T},p∈ps->(ps.map (·.1.n)).Nodup->∃ i:Nat,kO (.str p.1.n) (ps.map nmT)=some i/\(ps.map (·.2))[i]?=some p.2
 | [],_,h,_=>by cases h
 | q::ps,p,h,hn=>by
  rw [aS,cK] at hn;by_cases hq:q.1.n=p.1.n
  .have:q=p:=by
    rcases omc h with e | hp
    .exact e.symm
    .exact absurd (cO.mpr ⟨p,hp,hq.symm⟩) hn.1
   subst this;refine ⟨0,?_,rfl⟩;simp [kO,nmT,eqT]
  .rcases omc h with e | hp
   .exact absurd (by rw [e]) hq
   .obtain ⟨i,e1,e2⟩:=FF hp hn.2;refine ⟨i+1,?_,by simpa using e2⟩;have hb:(q.1.n==p.1.n)=false:=by simpa using hq
    simp [kO,nmT,eqT,hb];simpa [nmT] using e1
theorem WY:∀ ps:List (Col × T),(ps.map nmT).all flat=true
 | []=>rfl
 | p::ps=>by simp [nmT,flat]
theorem wF {p:Col × T} (h:p∈ps) (hn:(ps.map (·.1.n)).Nodup):∃ i:Int,jE .index (.lst (ps.map nmT)) (.str p.1.n)=some (.int i)/\dA (ps.map (·.2)) i=some p.2:=by obtain ⟨i,e1,e2⟩:=FF h hn;refine ⟨(i:Int),?_,gY e2⟩;simp only [jE];rw [if_pos (by rw [WY];rfl),e1];rfl
theorem kZ {α:Type} {enc:α->T} {f:T->Option (Option T)} (g:α->T) {l:List α} (h:∀ a∈l,f (enc a)=some (some (g a))):dP f (l.map enc)=some (l.map g):=by rw [iW (fun a=>some (g a)) h,wC]
noncomputable def hW (nm:T) (ps:List (Col × T)) (key rules:T):T:=dU nm (ps.map (·.1)) key rules
theorem FG {P:Pr} (h:P.fn "_law_names"=some nK) (n:Nat) (ps:List (Col × T)) (hl:ps.length<=4) (nm key rules:T):run P (n+1) "_law_names" [hW nm ps key rules]=some (.lst (ps.map nmT)):=by
 rw [cE h rfl];have hl':ps.length<=16777216:=by lia
 have e:=kZ (enc:=fun p:Col × T=>p.1.t) (f:=fun x=>(aK x (.int 0)).map some) nmT (l:=ps) (fun p _=>by simp [Col.t,aK,dR,nmT]);simp [nK,aE,evS,evE,aG,evO,cU,aB,aQ,aJ,cJ,jV,Sl.get,Sl.frz,aY,aK,items,cI,bnd,glo,SZ,hW,dU,cN,hl',Function.comp_def] at e ⊢;simp [e]
theorem wG {P:Pr} (h:P.fn "worths_of"=some gX) (n:Nat) (hl:ps.length<=4) (hn:(ps.map (·.1.n)).Nodup) (nm key rules:T) {qs:List (Col × T)} (hq:∀ q∈qs,q∈ps) (hql:qs.length<=4) :
  run P (n+1) "worths_of" [hW nm ps key rules,.tup (ps.map (·.2)),.tup (qs.map nmT)]=some (.tup (qs.map (·.2))):=by
 rw [cE h rfl];have hl':ps.length<=16777216:=by lia
 have hl2:qs.length<=16777216:=by lia
 have e:=kZ (enc:=fun p:Col × T=>p.1.t) (f:=fun x=>(aK x (.int 0)).map some) nmT (l:=ps) (fun p _=>by simp [Col.t,aK,dR,nmT]);have e2:=kZ (enc:=nmT) (f:=fun x=>((jE .index (.lst (ps.map nmT)) x).bind fun y=>aK (.tup (ps.map (·.2))) y).map some) (fun q=>q.2) (l:=qs) (fun q hq'=>by obtain ⟨i,e1,e2⟩:=wF (hq q hq') hn;simp only [nmT,e1,aT,aK,e2,fB]);unfold gX;dsimp only;rw [bP (U':=[.val (hW nm ps key rules),.val (.tup (ps.map (·.2))),.val (.tup (qs.map nmT)),.val (.lst (ps.map nmT))]) (by simp [evS,evE,aG,evO,cU,aB,aQ,aJ,cJ,jV,Sl.get,Sl.frz,dZ,fresh,aK,items,cI,bnd,SZ,hW,dU,cN,hl',Function.comp_def] at e ⊢;simp [e])];have ee:evE (glo P (run P n)) (.blt .toTuple (.comp (.idx (.var 2) (.mth .index (.var 4) (.var 0))) 1 .plain [.var 2] none)) (aB [Sl.val (hW nm ps key rules),.val (.tup (ps.map (·.2))),.val (.tup (qs.map nmT)),.val (.lst (ps.map nmT))])=some (.tup (qs.map (·.2))):=by rw [gG,jK];simp only [aG,evE,aB,bG,bH,Sl.get,bJ,bE,bF,aT,cI,items,List.length_map,bnd,if_true];rw [if_pos (show qs.length<=SZ from hl2)];simp only [aT];rw [e2];rfl
 rw [kE (t:=.tup (qs.map (·.2))) (by rw [evS];rw [show aQ (aJ (.blt .toTuple (.comp (.idx (.var 2) (.mth .index (.var 4) (.var 0))) 1 .plain [.var 2] none))) [Sl.val (hW nm ps key rules),.val (.tup (ps.map (·.2))),.val (.tup (qs.map nmT)),.val (.lst (ps.map nmT))]=[Sl.val (hW nm ps key rules),.val (.tup (ps.map (·.2))),.val (.tup (qs.map nmT)),.val (.lst (ps.map nmT))] from rfl,ee];rfl)];rfl
end
section
variable {a b v u:T} {P:Pr}
noncomputable def val (ps:List (Col × T)) (x:Str):T:=match ps.find? (fun p=>p.1.n==x) with | some p=>p.2 | none=>.non
theorem iX:∀ {ps:List (Col × T)} {p:Col × T},p∈ps->(ps.map (·.1.n)).Nodup->val ps p.1.n=p.2
 | [],_,h,_=>by cases h
 | q::ps,p,h,hn=>by
  rw [aS,cK] at hn;by_cases hq:q.1.n=p.1.n
  .have:q=p:=by
    rcases omc h with e | hp
    .exact e.symm
    .exact absurd (cO.mpr ⟨p,hp,hq.symm⟩) hn.1
   subst this;simp [val]
  .rcases omc h with e | hp
   .exact absurd (by rw [e]) hq
   .have e:=iX hp hn.2;have hb:(q.1.n==p.1.n)=false:=by simpa using hq
    unfold val at e ⊢;rw [List.find?_cons,hb];exact e
noncomputable def eE:T->Bool
 | .non=>true
 | _=>false
noncomputable def ltV:T->T->Bool
 | .int a,.int b=>decide (a<b)
 | .str a,.str b=>decide (a.cps.toList<b.cps.toList)
 | _,_=>false
noncomputable def and3:Option Bool->Option Bool->Option Bool
 | some false,_=>some false
 | none,some false=>some false
 | none,_=>none
 | some true,b=>b
noncomputable def or3:Option Bool->Option Bool->Option Bool
 | some true,_=>some true
 | none,some true=>some true
 | none,_=>none
 | some false,b=>b
noncomputable def dB:Option Bool->T
 | none=>.non
 | some b=>.bl b
noncomputable def hv (ps:List (Col × T)):Tst->Option Bool
 | .emp c=>some (eE (val ps c))
 | .bel a b=>if eE (val ps a)||eE (val ps b) then none else some (ltV (val ps a) (val ps b))
 | .isI c i=>if eE (val ps c) then none else some (eqT (val ps c) (.int i))
 | .isS c x=>if eE (val ps c) then none else some (eqT (val ps c) (.str x))
 | .neg t=>(hv ps t).map not
 | .cnj a b=>and3 (hv ps a) (hv ps b)
 | .dsj a b=>or3 (hv ps a) (hv ps b)
theorem wH (ha:flat a=true) (hb:flat b=true):inC .non (.tup [a,b])=some (eE a||eE b):=by cases a<;>cases b<;>first | rfl | (exact absurd ha dI) | (exact absurd hb dI)
theorem FH (h:P.fn "compared"=some kB) (n:Nat) {w:Str} (ha:flat a=true) (hb:flat b=true) (hn:(eE a||eE b)=true):run P (n+1) "compared" [.str w,.tup [a,b]]=some .non:=by rw [cE h rfl];simp [kB,aE,evS,evE,cU,aB,aQ,aJ,Sl.get,Sl.frz,aY,bB,aK,glo,wH ha hb,hn]
theorem WZ:(("is":Str)=="is")=true:=by decide +kernel
theorem XA (h:P.fn "compared"=some kB) (n:Nat) (ha:flat a=true) (hb:flat b=true) (hn:(eE a||eE b)=false) (ho:dpP a b<=30):run P (n+1) "compared" [.str "is",.tup [a,b]]=some (.bl (eqT a b)):=by
 rw [cE h rfl];have e:eqC a b=some (.bl (eqT a b)):=by unfold eqC;rw [if_pos ho]
 have e2:eqC (.str "is") (.str "is")=some (.bl true):=(show eqC (.str "is") (.str "is")=some (.bl (("is":Str)=="is")) from rfl).trans (by rw [WZ]);simp [kB,aE,evS,evE,cU,aB,aQ,aJ,Sl.get,Sl.frz,aY,bB,aK,glo,wH ha hb,hn,dR,cN,e,e2]
theorem XB:(("below":Str)=="is")=false:=by decide +kernel
theorem XC (h:P.fn "compared"=some kB) (n:Nat) (ha:flat a=true) (hb:flat b=true) (hn:(eE a||eE b)=false) (ho:ltC a b=some (.bl (ltV a b))):run P (n+1) "compared" [.str "below",.tup [a,b]]=some (.bl (ltV a b)):=by rw [cE h rfl];have e2:eqC (.str "below") (.str "is")=some (.bl false):=(show eqC (.str "below") (.str "is")=some (.bl (("below":Str)=="is")) from rfl).trans (by rw [XB]);simp [kB,aE,evS,evE,cU,aB,aQ,aJ,Sl.get,Sl.frz,aY,bB,aK,glo,wH ha hb,hn,dR,cN,ho,e2]
theorem XD (h:P.fn "opposite"=some nJ) (n:Nat) (a:Option Bool):run P (n+1) "opposite" [dB a]=some (dB (a.map not)):=by
 rw [cE h rfl];cases a with
 | none=>simp [nJ,aE,evS,evE,cU,aB,aQ,aJ,Sl.get,Sl.frz,aY,bB,glo,dB]
 | some b=>cases b<;>simp [nJ,aE,evS,evE,cU,aB,aQ,aJ,Sl.get,Sl.frz,aY,bB,glo,dB]
theorem in3 (s:Bool) (a b:Option Bool):inC (.bl s) (.lst [dB a,dB b])=some (decide (a=some s)||decide (b=some s)):=by cases s<;>rcases a with _ | _ | _<;>rcases b with _ | _ | _<;>rfl
theorem in3n (a b:Option Bool):inC .non (.lst [dB a,dB b])=some (decide (a=none)||decide (b=none)):=by rcases a with _ | _ | _<;>rcases b with _ | _ | _<;>rfl
theorem FI (h:P.fn "joined"=some pS) (n:Nat) (s:Bool) (a b:Option Bool):run P (n+1) "joined" [.bl s,.lst [dB a,dB b]]=some (dB (if s then or3 a b else and3 a b)):=by
 rw [cE h rfl];generalize glo P (run P n)=G;show aY (aE G vP [.val (.bl s),.val (.lst [dB a,dB b])])=_;unfold vP;have c1:evE G (.cmp .isin (.var 0) (.var 1)) (aB [.val (.bl s),.val (.lst [dB a,dB b])])=some (.bl (decide (a=some s)||decide (b=some s))):=by show (inC (.bl s) (.lst [dB a,dB b])).map T.bl=_;rw [in3];rfl
 have c2:evE G (.cmp .isin (.cst .non) (.var 1)) (aB [.val (.bl s),.val (.lst [dB a,dB b])])=some (.bl (decide (a=none)||decide (b=none))):=by show (inC .non (.lst [dB a,dB b])).map T.bl=_;rw [in3n];rfl
 have r1:aE G [.ret (.var 0)] [.val (.bl s),.val (.lst [dB a,dB b])]=some (.rt (.bl s)):=cF rfl rfl;have r2:aE G [.ret (.cst .non)] [.val (.bl s),.val (.lst [dB a,dB b])]=some (.rt .non):=cF rfl rfl;have r3:aE G [.ret (.lnot (.var 0))] [.val (.bl s),.val (.lst [dB a,dB b])]=some (.rt (.bl (!s))):=cF rfl rfl;cases k1:(decide (a=some s)||decide (b=some s)) with
 | true =>rw [k1] at c1;rw [fP rfl c1 r1];cases s<;>rcases a with _ | _ | _<;>rcases b with _ | _ | _<;>first | rfl | (cases k1;done)
 | false =>
  rw [k1] at c1;rw [cQ rfl c1];cases k2:(decide (a=none)||decide (b=none)) with
  | true =>rw [k2] at c2;rw [fP rfl c2 r2];cases s<;>rcases a with _ | _ | _<;>rcases b with _ | _ | _<;>first | rfl | (cases k1;done) | (cases k2;done)
  | false =>rw [k2] at c2;rw [cQ rfl c2,r3];cases s<;>rcases a with _ | _ | _<;>rcases b with _ | _ | _<;>first | rfl | (cases k1;done) | (cases k2;done)
theorem ws1:(("not":Str)=="not")=true/\(("and":Str)=="not")=false/\(("or":Str)=="not")=false/\(("empty":Str)=="not")=false/\(("is":Str)=="not")=false/\(("below":Str)=="not")=false:=by decide +kernel
theorem ws2:(("and":Str)=="and")=true/\(("or":Str)=="and")=false/\(("empty":Str)=="and")=false/\(("is":Str)=="and")=false/\(("below":Str)=="and")=false:=by decide +kernel
theorem ws3:(("or":Str)=="or")=true/\(("and":Str)=="or")=false/\(("empty":Str)=="or")=false/\(("is":Str)=="or")=false/\(("below":Str)=="or")=false:=by decide +kernel
theorem ws4:(("empty":Str)=="empty")=true/\(("is":Str)=="empty")=false/\(("below":Str)=="empty")=false:=by decide +kernel
theorem ws5:(("is":Str)=="is")=true/\(("below":Str)=="is")=false/\(("is":Str)=="below")=false/\(("below":Str)=="below")=true:=by decide +kernel
theorem eqs (a b:Str):eqC (.str a) (.str b)=some (.bl (a==b)):=rfl
theorem Wok.flat {c:Col} {w:T} (h:Wok c w):Ev.flat w=true:=by rcases h with rfl | ⟨_,x,rfl⟩ | ⟨_,x,rfl⟩<;>rfl
theorem pZ {ps:List (Col × T)} {o:Col} (h:o∈ps.map (·.1)):∃ p∈ps,p.1=o:=by obtain ⟨p,hp,e⟩:=omm h;exact ⟨p,hp,e⟩
theorem XE {p q:Col × T} (hp:Wok p.1 p.2) (hq:Wok q.1 q.2) (hk:p.1.k=q.1.k) (h:(eE p.2||eE q.2)=false):ltC p.2 q.2=some (.bl (ltV p.2 q.2)):=by
 rcases hp with e | ⟨h1,x,e⟩ | ⟨h1,x,e⟩<;>rcases hq with f | ⟨h2,y,f⟩ | ⟨h2,y,f⟩<;>rw [e,f] at h ⊢
 all_goals first | rfl | (exfalso;rw [hk,h2] at h1;cases h1;done) | (cases h;done)
theorem eq1N {w:T} (h:Ev.flat w=true):eqC (.tup [w]) (.tup [.non])=some (.bl (eE w)):=by cases w<;>first | rfl | (exact absurd h dI)
theorem ix0 (a:T) (r:List T):aK (.tup (a::r)) (.int 0)=some a:=dR a r
section
variable {G:Glo} {X tt R:T} {w:Str}
theorem wI (hw:aK tt (.int 0)=some (.str w)):aE G gD.body [.val X,.val tt,.val R,.no]=aE G (gD.body.drop 1) [.val X,.val tt,.val R,.val (.str w)] :=
 bC (t:=.str w) rfl (show (aK tt (.int 0))=_ from hw) rfl
theorem h_c (u:Str) (b:Bool) (h:(w==u)=b):evE G (.cmp .eq (.var 3) (.cst (.str u))) (aB [.val X,.val tt,.val R,.val (.str w)])=some (.bl b):=by rw [<- h];rfl
theorem h_ao (b:Bool) (h:((w=="and")||(w=="or"))=b):evE G (.lor (.cmp .eq (.var 3) (.cst (.str "and"))) (.cmp .eq (.var 3) (.cst (.str "or")))) (aB [.val X,.val tt,.val R,.val (.str w)])=some (.bl b):=by
 rw [evE,h_c "and" _ rfl];subst h;cases w==("and":Str) with
 | true=>rfl
 | false=>exact h_c (G:=G) (X:=X) (tt:=tt) (R:=R) "or" _ rfl
theorem wJ (hw:aK tt (.int 0)=some (.str w)) (n1:(w=="not")=false) (n2:(w=="and")=false) (n3:(w=="or")=false):aE G gD.body [.val X,.val tt,.val R,.no]=aE G (gD.body.drop 3) [.val X,.val tt,.val R,.val (.str w)] :=
 (wI hw).trans ((cQ rfl (h_c "not" _ n1)).trans (cQ rfl (h_ao false (by rw [n2,n3];rfl))))
theorem XF {c:Str} {b:Bool} (e:G.call "worths_of" [X,R,.tup [.str c]]=some a) (he:eqC a (.tup [.non])=some (.bl b)) (ht:tt=.tup [.str "empty",.str c]):aE G gD.body [.val X,.val tt,.val R,.no]=some (.rt (.bl b)):=by subst ht;refine (wJ (ix0 _ _) ws1.2.2.2.1 ws2.2.2.1 ws3.2.2.1).trans (fP rfl (h_c "empty" _ ws4.1) (cF rfl ?_));have e1:evE G (.call "worths_of" [.var 0,.var 2,.sli (.var 1) (some (.cst (.int 1))) none]) (aB [.val X,.val (.tup [.str "empty",.str c]),.val R,.val (.str "empty")])=some a:=e;rw [evE,e1];exact he
theorem FJ {c:Str} (e:G.call "worths_of" [X,R,.tup [.str c]]=some (.tup [a])) (e2:G.call "compared" [.str "is",.tup [a,v]]=some u) (ht:tt=.tup [.str "is",.str c,v]):aE G gD.body [.val X,.val tt,.val R,.no]=some (.rt u):=by subst ht;refine (wJ (ix0 _ _) ws1.2.2.2.2.1 ws2.2.2.2.1 ws3.2.2.2.1).trans ((cQ rfl (h_c "empty" _ ws4.2.1)).trans (fP rfl (h_c "is" _ ws5.1) (cF rfl ?_)));have e1:evE G (.call "worths_of" [.var 0,.var 2,.sli (.var 1) (some (.cst (.int 1))) (some (.cst (.int 2)))]) (aB [.val X,.val (.tup [.str "is",.str c,v]),.val R,.val (.str "is")])=some (.tup [a]):=e;rw [evE,aG,aG,evE.eq_3,e1];exact e2
theorem FK {a b:Str} (e:G.call "worths_of" [X,R,.tup [.str a,.str b]]=some v) (e2:G.call "compared" [.str "below",v]=some u) (ht:tt=.tup [.str "below",.str a,.str b]):aE G gD.body [.val X,.val tt,.val R,.no]=some (.rt u):=by subst ht;refine (wJ (ix0 _ _) ws1.2.2.2.2.2 ws2.2.2.2.2 ws3.2.2.2.2).trans ((cQ rfl (h_c "empty" _ ws4.2.2)).trans ((cQ rfl (h_c "is" _ ws5.2.1)).trans (cF rfl ?_)));have e1:evE G (.call "worths_of" [.var 0,.var 2,.sli (.var 1) (some (.cst (.int 1))) none]) (aB [.val X,.val (.tup [.str "below",.str a,.str b]),.val R,.val (.str "below")])=some v:=e;rw [evE,aG,aG,e1];exact e2
theorem XG {t:T} (e:G.call "holds" [X,t,R]=some v) (e2:G.call "opposite" [v]=some u) (ht:tt=.tup [.str "not",t]):aE G gD.body [.val X,.val tt,.val R,.no]=some (.rt u):=by subst ht;refine (wI (ix0 _ _)).trans (fP rfl (h_c "not" _ ws1.1) (cF rfl ?_));have e1:evE G (.call "holds" [.var 0,.idx (.var 1) (.cst (.int 1)),.var 2]) (aB [.val X,.val (.tup [.str "not",t]),.val R,.val (.str "not")])=some v:=e;rw [evE,aG,e1];exact e2
theorem FL {x y v':T} (hn:(w=="not")=false) (h:((w=="and")||(w=="or"))=true) (e:G.call "holds" [X,x,R]=some v) (e':G.call "holds" [X,y,R]=some v') (e2:G.call "joined" [.bl (w=="or"),.lst [v,v']]=some u) (ht:tt=.tup [.str w,x,y]):aE G gD.body [.val X,.val tt,.val R,.no]=some (.rt u):=by
 subst ht;refine (wI (ix0 _ _)).trans ((cQ rfl (h_c "not" _ hn)).trans (fP rfl (h_ao true h) (cF rfl ?_)));rw [evE,aG,aG,aG,jK];have s1:aG G [.sli (.var 1) (some (.cst (.int 1))) none] (aB [.val X,.val (.tup [.str w,x,y]),.val R,.val (.str w)])=some [.tup [x,y]]:=rfl;have s2:cI .plain [.tup [x,y]]=some [x,y]:=rfl;rw [s1,bQ,s2,bQ];have s3:(dP (fun q=>(bnd 1 q (aB [.val X,.val (.tup [.str w,x,y]),.val R,.val (.str w)])).bind fun r'=>(evE G (.call "holds" [.var 1,.var 0,.var 3]) r').map some) [x,y])=some [v,v']:=by
  have f:∀ q u,G.call "holds" [X,q,R]=some u->((bnd 1 q (aB [.val X,.val (.tup [.str w,x,y]),.val R,.val (.str w)])).bind fun r'=>(evE G (.call "holds" [.var 1,.var 0,.var 3]) r').map some)=some (some u):=fun q u hq=>by show (G.call "holds" [X,q,R]).map some=_;rw [hq];rfl
  rw [dP,f x v e,dP,f y v' e'];rfl
 rw [s3];exact e2
end
theorem XH (h:P.fn "holds"=some gD) (hw:P.fn "worths_of"=some gX) (hc:P.fn "compared"=some kB) (ho:P.fn "opposite"=some nJ) (hj:P.fn "joined"=some pS)
  {ps:List (Col × T)} (hl:ps.length<=4) (hn:(ps.map (·.1.n)).Nodup) (hp:∀ p∈ps,Wok p.1 p.2) (nm key rules:T) :
  ∀ (d n:Nat) (t:Tst),t.fit d->t.inn (ps.map (·.1))->run P (n+d+1) "holds" [hW nm ps key rules,t.t,.tup (ps.map (·.2))]=some (dB (hv ps t)):=by
 have one:∀ (m:Nat) (p:Col × T),p∈ps->run P (m+1) "worths_of" [hW nm ps key rules,.tup (ps.map (·.2)),.tup [.str p.1.n]]=some (.tup [p.2]):=fun m p hpm=>wG hw m hl hn nm key rules (qs:=[p]) (fun q hq=>by rw [omg hq];exact hpm) (by simp);intro d
 induction d with
 | zero =>intro n t hk _;cases t<;>first | exact absurd hk.1 (by lia) | exact nomatch hk
 | succ d ih =>
  intro n t hk hi;rw [show n+(d+1)+1=(n+d+1)+1 by lia,cE h rfl];show aY (aE (glo P (run P (n+d+1))) gD.body [.val (hW nm ps key rules),.val t.t,.val (.tup (ps.map (·.2))),.no])=_;have isV:∀ (p:Col × T) (v:T),p∈ps->flat v=true->eE v=false->dpP p.2 v<=30->t.t=.tup [.str "is",.str p.1.n,v]->hv ps t=(if eE p.2 then none else some (eqT p.2 v))->aY (aE (glo P (run P (n+d+1))) gD.body [.val (hW nm ps key rules),.val t.t,.val (.tup (ps.map (·.2))),.no])=some (dB (hv ps t)):=fun p v hpm fv nv hd ht hvt=>by
   have f1:=(hp p hpm).flat;rw [hvt];cases hz:eE p.2 with
   | true=>exact aW aY (FJ (one _ p hpm) (FH hc (n+d) (w:="is") f1 fv (by rw [hz];rfl)) ht)
   | false=>exact aW aY (FJ (one _ p hpm) (XA hc (n+d) f1 fv (by rw [hz,nv];rfl) hd) ht)
  cases t with
  | emp c =>obtain ⟨o,hm,rfl⟩:=hi;obtain ⟨p,hpm,rfl⟩:=pZ hm;rw [hv,iX hpm hn];exact aW aY (XF (one _ p hpm) (eq1N (hp p hpm).flat) rfl)
  | bel a b =>
   obtain ⟨o,hm,o',hm',rfl,rfl,hkk⟩:=hi;obtain ⟨p,hpm,rfl⟩:=pZ hm;obtain ⟨q,hqm,rfl⟩:=pZ hm';have e:=wG hw (n+d) hl hn nm key rules (qs:=[p,q]) (fun r hr=>by
    rcases omc hr with rfl | hr
    .exact hpm
    .rw [omg hr];exact hqm) (by simp)
   have f1:=(hp p hpm).flat;have f2:=(hp q hqm).flat;rw [hv,iX hpm hn,iX hqm hn];cases hz:(eE p.2||eE q.2) with
   | true=>exact aW aY (FK e (FH hc (n+d) (w:="below") f1 f2 hz) rfl)
   | false=>exact aW aY (FK e (XC hc (n+d) f1 f2 hz (XE (hp p hpm) (hp q hqm) hkk hz)) rfl)
  | isI c i =>obtain ⟨o,hm,rfl,hkt⟩:=hi;obtain ⟨p,hpm,rfl⟩:=pZ hm;exact isV p (.int i) hpm rfl rfl (by rcases hp p hpm with hq | ⟨h1,x,hq⟩ | ⟨h1,x,hq⟩<;>rw [hq]<;>exact eK 30) rfl (by rw [hv,iX hpm hn])
  | isS c i =>obtain ⟨o,hm,rfl,hkt⟩:=hi;obtain ⟨p,hpm,rfl⟩:=pZ hm;exact isV p (.str i) hpm rfl rfl (by rcases hp p hpm with hq | ⟨h1,x,hq⟩ | ⟨h1,x,hq⟩<;>rw [hq]<;>exact eK 30) rfl (by rw [hv,iX hpm hn])
  | neg t=>exact aW aY (XG (ih n t hk hi) (XD ho (n+d) (hv ps t)) rfl)
  | cnj a b=>exact aW aY (FL (w:="and") ws1.2.1 (by rw [ws2.1];rfl) (ih n a hk.1 hi.1) (ih n b hk.2 hi.2) (by rw [ws3.2.1];exact FI hj (n+d) false (hv ps a) (hv ps b)) rfl)
  | dsj a b=>exact aW aY (FL (w:="or") ws1.2.2.1 (by rw [ws3.1,Bool.or_true]) (ih n a hk.1 hi.1) (ih n b hk.2 hi.2) (by rw [ws3.1];exact FI hj (n+d) true (hv ps a) (hv ps b)) rfl)
end
end Ev.K04
section
section
end
end
namespace Ev.K04
open PySem
section
noncomputable def C0 (acc:List Kt) (k:Kt):Bool:=acc.any fun x=>decide (x=k)
end
section
variable {c:Col} {b:Tb} {ps:List (Col × T)}
noncomputable def wL:List S:=[.loop [2] .plain [.var 0] [.ite (.cmp .eq (.idx (.var 2) (.cst (.int 0))) (.var 1)) [.ret (.var 2)] []],
  .ret (.cst .non)]
noncomputable def qA:Fd:=⟨2,3,wL⟩
noncomputable def wM:List S:=[.loop [3,4] .zip [.var 0,.var 1] [.ite (.cmp .eq (.idx (.var 3) (.cst (.int 0))) (.var 2)) [.ret (.var 4)] []],
  .ret (.tup [])]
noncomputable def qB:Fd:=⟨3,5,wM⟩
noncomputable def lin:List S:=[.asg 7 (.call "_law_row" [.var 4,.bin .fdiv (.call "_law_drawn" [.var 1,.bin .add (.bin .mul (.cst (.int 10)) (.var 3)) (.var 6)]) (.cst (.int 4))]),
  .dput 5 (.call "_law_key" [.var 4,.var 7]) (.var 7)]
noncomputable def wN:Fd:=⟨2,8,[.asg 2 (.tup []),
  .loop [3,4] .enum [.var 0] [.dnew 5,
  .loop [6] .range [.bin .mod (.bin .fdiv (.var 1) (.idx (.tup [.cst (.int 1),.cst (.int 5),.cst (.int 25),.cst (.int 125)]) (.var 3))) (.cst (.int 5))] lin,
  .asg 2 (.bin .add (.var 2) (.tup [.blt .toTuple (.comp (.idx (.var 6) (.var 0)) 1 .plain [.blt .sorted (.var 5)] none)]))],
  .ret (.var 2)]⟩
structure RowOk (b:Tb) (ps:List (Col × T)):Prop where
 cs:ps.map (·.1)=b.cs
 wk:∀ p∈ps,Wok p.1 p.2
 ng:∀ p∈ps,p.1.g=false->p.2≠.non
noncomputable def aD (ps:List (Col × T)):T:=.tup (ps.map (·.2))
noncomputable def kk (t:T):Kt:=(kM t).getD (.inl 0)
noncomputable def aO (b:Tb) (ps:List (Col × T)):List Kt:=b.key.map fun x=>kk (val ps x)
theorem wO {w:T} (h:Wok c w):kM w=some (kk w)/\kT (kk w)=w:=by rcases h with rfl | ⟨_,x,rfl⟩ | ⟨_,i,rfl⟩<;>exact ⟨rfl,rfl⟩
theorem XI {w u:T} (h1:Wok c w) (h2:Wok c u) (n1:w≠.non) (n2:u≠.non):lQ (kk w) (kk u)=true:=by
 rcases h1 with rfl | ⟨e1,x,rfl⟩ | ⟨e1,i,rfl⟩
 .exact absurd rfl n1
 .rcases h2 with rfl | ⟨e2,y,rfl⟩ | ⟨e2,j,rfl⟩
  .exact absurd rfl n2
  .rfl
  .rw [e1] at e2;cases e2
 .rcases h2 with rfl | ⟨e2,y,rfl⟩ | ⟨e2,j,rfl⟩
  .exact absurd rfl n2
  .rw [e1] at e2;cases e2
  .rfl
theorem XJ {P:Pr} (h:P.fn "_law_worth"=some iJ) (n:Nat) (c:Col) (k:Int) (hg:c.g=false):∃ w,run P (n+1) "_law_worth" [c.t,.int k]=some w/\w≠.non:=by
 rw [cE h rfl];obtain ⟨x,ex⟩:=FD (k/4);obtain ⟨i,ei⟩:=FE (k/4);cases ht:(c.k==("text":Str)) with
 | true=>exact ⟨.str x,by simp [iJ,aE,evS,evE,aG,cU,aB,aQ,aJ,cJ,Sl.get,Sl.frz,bI,cZ,cT,aY,bB,aK,gR,glo,Col.t,cN,gZ,hg,eqC,dpP,eqT,ht,ex],by simp⟩
 | false=>exact ⟨.int i,by simp [iJ,aE,evS,evE,aG,cU,aB,aQ,aJ,cJ,Sl.get,Sl.frz,bI,cZ,cT,aY,bB,aK,gR,glo,Col.t,cN,gZ,hg,eqC,dpP,eqT,ht,ei],by simp⟩
theorem FM {α:Type} {enc:α->T} {Q:α->T->Prop} {f:T->Option (Option T)}:∀ (l:List α),(∀ a∈l,∃ w,f (enc a)=some (some w)/\Q a w)->∃ ps:List (α × T),ps.map (·.1)=l/\dP f (l.map enc)=some (ps.map (·.2))/\∀ p∈ps,Q p.1 p.2
 | [],_=>⟨[],rfl,rfl,fun p h=>by cases h⟩
 | a::l,h=>by
  obtain ⟨w,e,hw⟩:=h a cW;obtain ⟨ps,e1,e2,h2⟩:=FM (Q:=Q) l fun c hc=>h c (cL _ hc);refine ⟨(a,w)::ps,by simp [e1],?_,fun p hp=>?_⟩
  .simp only [bG,dP,e,e2,aT]
  .rcases omc hp with rfl | hp
   .exact hw
   .exact h2 p hp
theorem FN {Q:Col->T->Prop} {f:T->Option (Option T)}:∀ (cs:List Col) (i:Nat),(∀ c∈cs,∀ j:Nat,∃ w,f (.tup [.int (j:Int),c.t])=some (some w)/\Q c w) ->
  ∃ ps:List (Col × T),ps.map (·.1)=cs/\dP f (fH (cs.map Col.t) i)=some (ps.map (·.2))/\∀ p∈ps,Q p.1 p.2
 | [],_,_=>⟨[],rfl,rfl,fun p h=>by cases h⟩
 | c::cs,i,h=>by
  obtain ⟨w,e,hw⟩:=h c cW i;obtain ⟨ps,e1,e2,h2⟩:=FN cs (i+1) fun c hc=>h c (cL _ hc);refine ⟨(c,w)::ps,by simp [e1],?_,fun p hp=>?_⟩
  .simp only [bG,fH,dP,e,e2,aT]
  .rcases omc hp with rfl | hp
   .exact hw
   .exact h2 p hp
theorem FO {P:Pr} (hd:P.fn "_law_drawn"=some iI) (hw:P.fn "_law_worth"=some iJ) (h:P.fn "_law_row"=some sG) (n:Nat) (hb:b.ok) (k:Int) :
  ∃ ps,run P (n+2) "_law_row" [b.t,.int k]=some (aD ps)/\RowOk b ps:=by
 rw [cE h rfl];have hl:b.cs.length<=16777216:=by have:=hb.cl;lia
 obtain ⟨ps,e1,e2,h2⟩:=FN (Q:=fun c w=>Wok c w/\(c.g=false->w≠.non)) (f:=fun x=>(bnd 2 x (aB [Sl.val b.t,Sl.val (.int k)])).bind fun r'=>(evE (glo P (run P (n+1))) (.call "_law_worth" [.var 1,.bin .fdiv (.call "_law_drawn" [.var 3,.var 0]) (.cst (.int 4))]) r').map some) b.cs 0 (fun c _ j=>by
  have e1:=mF hd n k (j:Int);obtain ⟨w,e2,hw'⟩:=WX hw n c (dH k (j:Int)/4);refine ⟨w,?_,hw',fun hg=>?_⟩
  .simp [bnd,evE,aG,aB,Sl.get,glo,e1,e2,bI,cT]
  .obtain ⟨u,e3,hu⟩:=XJ hw n c (dH k (j:Int)/4) hg;rw [e2] at e3;cases e3;exact hu)
 refine ⟨ps,?_,e1,fun p hp=>(h2 p hp).1,fun p hp=>(h2 p hp).2⟩;show aY (aE (glo P (run P (n+1))) vU [Sl.val b.t,Sl.val (.int k)])=_;unfold vU;rw [cF (t:=aD ps) rfl (by
  rw [gG,jK];have s1:aG (glo P (run P (n+1))) [.idx (.var 0) (.cst (.int 1))] (aB [Sl.val b.t,Sl.val (.int k)])=some [.tup (b.cs.map Col.t)]:=by simp [aG,evE,aB,Sl.get,aK,Tb.t,gE,cN]
  have s2:cI .enum [.tup (b.cs.map Col.t)]=some (fH (b.cs.map Col.t) 0):=by simp [cI,items,wB,hl]
  rw [s1,bQ,s2,bQ,e2];rfl)]
 rfl
theorem wP {ps:List (Col × T)}:∀ {ks:List Str},(∀ k∈ks,∃ p∈ps,p.1.n=k)->∃ qs:List (Col × T),qs.map nmT=ks.map .str/\qs.map (·.1.n)=ks/\(∀ q∈qs,q∈ps)/\qs.length=ks.length
 | [],_=>⟨[],rfl,rfl,fun q h=>absurd h (by simp),rfl⟩
 | k::ks,h=>by
  obtain ⟨p,hp,e⟩:=h k cW;obtain ⟨qs,e1,e0,e2,e3⟩:=wP fun k hk=>h k (cL _ hk);refine ⟨p::qs,by simp [nmT,e,e1],by simp [e,e0],fun q hq=>?_,by simp [e3]⟩;rcases omc hq with rfl | hq
  .exact hp
  .exact e2 q hq
theorem RowOk.col (h:RowOk b ps) (hc:c∈b.cs):∃ p∈ps,p.1=c:=by rw [<- h.cs] at hc;obtain ⟨p,hp,e⟩:=omm hc;exact ⟨p,hp,e⟩
theorem RowOk.nd {b:Tb} {ps:List (Col × T)} (h:RowOk b ps) (hb:b.ok):(ps.map (·.1.n)).Nodup:=by have:=hb.nd;rw [<- h.cs,cH] at this;exact this
theorem RowOk.len (h:RowOk b ps) (hb:b.ok):ps.length<=4:=by have:=aW List.length h.cs;rw [bA] at this;rw [this];exact hb.cl
theorem RowOk.tab (h:RowOk b ps):b.t=hW (.str b.nm) ps (.tup (b.key.map .str)) (.tup (b.rs.map Rl.t)):=by rw [hW,h.cs];rfl
theorem XM {P:Pr} (hn:P.fn "_law_names"=some nK) (h:P.fn "_law_key"=some oR) (n:Nat) (hb:b.ok) (hp:RowOk b ps):run P (n+2) "_law_key" [b.t,aD ps]=some (tkT (aO b ps)):=by
 have hl:=hp.len hb;have hnd:=hp.nd hb;obtain ⟨qs,q1,q0,q2,q3⟩:=wP (ps:=ps) (ks:=b.key) fun x hx=>by obtain ⟨c,hc,e⟩:=hb.inn x hx;obtain ⟨p,hp',rfl⟩:=hp.col hc;exact ⟨p,hp',e⟩
 have hz:qs.length<=16777216:=by have:=hb.k1;lia
 rw [cE h rfl];show aY (aE (glo P (run P (n+1))) oR.body [.val b.t,.val (aD ps)])=_;have i2:aK b.t (.int 2)=some (.tup (qs.map nmT)):=by rw [q1,Tb.t,gE,aK,gZ]
 have cn:(glo P (run P (n+1))).call "_law_names" [b.t]=some (.lst (ps.map nmT)):=by rw [hp.tab];exact FG hn n ps hl _ _ _
 have ek:aO b ps=qs.map fun q=>kk q.2:=by unfold aO;rw [<- q0,cH];exact iZ fun q hq=>by show kk (val ps q.1.n)=kk q.2;rw [iX (q2 q hq) hnd]
 have et:tkT (aO b ps)=.tup (qs.map (·.2)):=by unfold tkT;rw [ek,cH];exact aW T.tup (iZ fun q hq=>(wO (hp.wk q (q2 q hq))).2)
 rw [et];generalize b.t=X at *;unfold oR;dsimp only;rw [cF (t:=.tup (qs.map (·.2))) rfl (by
  rw [gG,jK];have s1:aG (glo P (run P (n+1))) [.idx (.var 0) (.cst (.int 2))] (aB [Sl.val X,Sl.val (aD ps)])=some [.tup (qs.map nmT)]:=by simp [aG,evE,aB,Sl.get,i2]
  have s2:cI .plain [.tup (qs.map nmT)]=some (qs.map nmT):=by simp [cI,items,hz]
  rw [s1,bQ,s2,bQ,kZ (fun q=>q.2) fun q hq'=>by obtain ⟨i,e1,e2⟩:=wF (q2 q hq') hnd;simp only [bnd,if_true,aT,evE,aG,aB,Sl.get,bG,bH,bJ,bE,bF,cn];rw [show nmT q=.str q.1.n from rfl,e1];simp only [aT,aD,aK,e2,fB]];rfl)]
 rfl
theorem wQ (hb:b.ok) {qs:List (Col × T)} (hp:RowOk b ps) (hq:RowOk b qs):Ev.alike (aO b ps) (aO b qs)=true:=by
 have:∀ ks:List Str,(∀ x∈ks,∃ c∈b.cs,c.n=x/\c.g=false)->Ev.alike (ks.map fun x=>kk (val ps x)) (ks.map fun x=>kk (val qs x))=true:=by
  intro ks
  induction ks with
  | nil=>intro _;rfl
  | cons x ks ih =>
   intro h;obtain ⟨c,hc,e,hg⟩:=h x cW;obtain ⟨p,hp1,hp2⟩:=hp.col hc;obtain ⟨q,hq1,hq2⟩:=hq.col hc;have v1:val ps x=p.2:=by rw [<- e,<- hp2];exact iX hp1 (hp.nd hb)
   have v2:val qs x=q.2:=by rw [<- e,<- hq2];exact iX hq1 (hq.nd hb)
   rw [aS,aS,Ev.alike,bU,v1,v2];have w1:=hp.wk p hp1;have w2:=hq.wk q hq1;rw [hp2] at w1;rw [hq2] at w2;exact ⟨XI w1 w2 (hp.ng p hp1 (by rw [hp2];exact hg)) (hq.ng q hq1 (by rw [hq2];exact hg)),ih fun y hy=>h y (cL _ hy)⟩
 exact this b.key hb.kg
theorem XN (hb:b.ok) (ps:List (Col × T)):aO b ps≠[]:=by unfold aO;intro e;exact hb.kn (List.map_eq_nil_iff.mp e)
theorem lE:∀ ks:List Kt,gO (ks.map kT)=some ks
 | []=>rfl
 | k::ks=>by rw [aS,gO,lE ks];rcases k with _ | _ | _<;>rfl
end
section
variable {qb:List (List Kt × T)} {k:List Kt} {v:T} {b:Tb}
noncomputable def slD:List (List Kt × T)->Sl
 | []=>.dk []
 | p::r=>.dt (p::r)
noncomputable def dD:List (List Kt × T)->T
 | []=>.dk [] []
 | p::r=>.dt ((p::r).map (·.1)) ((p::r).map (·.2))
theorem XO (l:List (List Kt × T)):Sl.frz (slD l)=.val (dD l):=by cases l<;>rfl
theorem XQ:∃ p r,bV qb k v=p::r:=by
 unfold bV;cases qb with
 | nil=>exact ⟨_,_,rfl⟩
 | cons a l=>split<;>exact ⟨_,_,rfl⟩
theorem FP (qb:List (List Kt × T)) (k:List Kt) (v:T) (h:qb.length<=100):kQ (some (slD qb)) (tkT k) v=some (slD (bV qb k v)):=by
 have hk:tkO (tkT k)=some k:=lE k;have hz:qb.length<SZ:=by show qb.length<16777216;lia
 cases qb with
 | nil =>show (tkO (tkT k)).map (fun q=>Sl.dt [(q,v)])=some (slD (bV [] k v));rw [hk];rfl
 | cons a l =>show ((tkO (tkT k)).bind fun q=>if (a::l).length<SZ then some (.dt (bV (a::l) q v)) else none)=some (slD (bV (a::l) k v));rw [hk,bQ,if_pos hz];obtain ⟨p,r,e⟩:=XQ (qb:=a::l) (k:=k) (v:=v);rw [e];rfl
theorem wR {p:List Kt × T} (h:p∈bV qb k v):p∈qb\/p=(k,v):=by
 unfold bV at h;split at h
 .obtain ⟨q,hq,rfl⟩:=omm h;by_cases e:q.1=k
  .rw [if_pos e,e];exact .inr rfl
  .rw [if_neg e];exact .inl hq
 .rcases oma h with h | h
  .exact .inl h
  .exact .inr (omg h)
theorem FQ (h:(qb.map (·.1)).Nodup):((bV qb k v).map (·.1)).Nodup:=by
 unfold bV;split
 .rw [cH];have:(qb.map ((·.1)∘fun kv=>if kv.1=k then (kv.1,v) else kv))=qb.map (·.1):=iZ fun q _=>by show (if q.1=k then (q.1,v) else q).1=q.1;split<;>rfl
  rw [this];exact h
 .rename_i hn;rw [eP];refine List.nodup_append.mpr ⟨h,by simp,fun a ha c hc e=>?_⟩;have hc:c=k:=omg hc;subst hc;subst e;obtain ⟨q,hq,rfl⟩:=omm ha;exact hn (List.any_eq_true.mpr ⟨q,hq,by simp⟩)
theorem wS:(bV qb k v).length<=qb.length+1:=by
 unfold bV;split
 .rw [bA];lia
 .rw [List.length_append];simp
theorem wT:∀ {qb:List (List Kt × T)} {k:List Kt},k∈qb.map (·.1)->∃ v,fG (qb.map (·.1)) (qb.map (·.2)) k=some v/\(k,v)∈qb
 | p::qb,k,h=>by
  rw [aS,aS,fG];by_cases e:p.1=k
  .rw [if_pos e,<- e];exact ⟨p.2,rfl,cW⟩
  .rw [if_neg e];obtain ⟨v,h1,h2⟩:=wT (qb:=qb) ((omc h).resolve_left fun z=>e z.symm);exact ⟨v,h1,cL _ h2⟩
structure Book (b:Tb) (qb:List (List Kt × T)):Prop where
 nd:(qb.map (·.1)).Nodup
 rw:∀ p∈qb,∃ ps,RowOk b ps/\p=(aO b ps,aD ps)
theorem Book.srt (hb:b.ok) (h:Book b qb) (h5:qb.length<=5):bO .sorted (dD qb)=some (.lst ((dF (qb.map (·.1))).map tkT)):=by
 cases qb with
 | nil=>rfl
 | cons p r =>
  show kN ((p::r).map (·.1))=_;unfold kN pF;rw [if_pos]
  .rfl
  .refine ⟨by rw [bA];lia,h.nd,lI.mpr fun x hx=>?_⟩;obtain ⟨q,hq,rfl⟩:=omm hx;obtain ⟨ps,h1,rfl⟩:=h.rw q hq;rw [bU];constructor
   .cases e:aO b ps with
    | nil=>exact absurd e (XN hb ps)
    | cons _ _=>rfl
   .refine lI.mpr fun y hy=>?_;obtain ⟨q',hq',rfl⟩:=omm hy;obtain ⟨ps',h2,rfl⟩:=h.rw q' hq';exact wQ hb h1 h2
theorem FR (Q:List (Col × T)->Prop) (hQ:∀ p∈qb,∃ ps,Q ps/\p=(aO b ps,aD ps)) :
  ∃ R:List (List (Col × T)),dP (fun x=>(aK (dD qb) x).map some) ((dF (qb.map (·.1))).map tkT)=some (R.map aD)/\(∀ ps∈R,Q ps)/\R.map (aO b)=dF (qb.map (·.1)):=by
 obtain ⟨pr,p1,p2,p3⟩:=FM (enc:=tkT) (Q:=fun k w=>∃ ps,Q ps/\w=aD ps/\aO b ps=k) (f:=fun x=>(aK (dD qb) x).map some) (dF (qb.map (·.1))) fun k hk'=>by
  have hk:=kS.mp hk';obtain ⟨v,h1,h2⟩:=wT hk;obtain ⟨ps,h3,e⟩:=hQ _ h2;injection e with e1 e2;refine ⟨v,?_,ps,h3,e2,e1.symm⟩;cases qb with
  | nil=>cases hk
  | cons p r =>show ((gO (k.map kT)).bind fun k=>fG ((p::r).map (·.1)) ((p::r).map (·.2)) k).map some=_;rw [lE,bQ,h1];rfl
 obtain ⟨R,r1,r2,r3⟩:∃ R:List (List (Col × T)),pr.map (·.2)=R.map aD/\(∀ ps∈R,Q ps)/\R.map (aO b)=pr.map (·.1):=by
  clear p1 p2
  induction pr with
  | nil=>exact ⟨[],rfl,(fun ps h=>by cases h),rfl⟩
  | cons p pr ih =>
   obtain ⟨ps,h1,h2,h3⟩:=p3 p cW;obtain ⟨R,r1,r2,r3⟩:=ih fun q hq=>p3 q (cL _ hq);refine ⟨ps::R,by rw [aS,aS,r1,h2],fun q hq=>?_,by rw [aS,aS,r3,h3]⟩;rcases omc hq with rfl | hq
   .exact h1
   .exact r2 q hq
 exact ⟨R,by rw [p2,r1],r2,by rw [r3,p1]⟩
theorem Book.pw (hb:b.ok) (h:Book b qb):(dF (qb.map (·.1))).Pairwise fun x y=>bL x y=true:=by refine uO h.nd fun x hx y hy=>?_;obtain ⟨q,hq,rfl⟩:=omm hx;obtain ⟨q',hq',rfl⟩:=omm hy;obtain ⟨ps,h1,rfl⟩:=h.rw q hq;obtain ⟨ps',h2,rfl⟩:=h.rw q' hq';exact wQ hb h1 h2
theorem XR {i:Nat} (h:i<4):∃ d:Int,dA [.int 1,.int 5,.int 25,.int 125] (i:Int)=some (.int d)/\0<d/\d<1073741824:=by
 match i,h with
 | 0,_=>exact ⟨1,gY rfl,by decide,by decide⟩
 | 1,_=>exact ⟨5,gY rfl,by decide,by decide⟩
 | 2,_=>exact ⟨25,gY rfl,by decide,by decide⟩
 | 3,_=>exact ⟨125,gY rfl,by decide,by decide⟩
noncomputable def lex:E:=.bin .add (.var 2) (.tup [.blt .toTuple (.comp (.idx (.var 6) (.var 0)) 1 .plain [.blt .sorted (.var 5)] none)])
noncomputable def sM:List S:=[.dnew 5,.loop [6] .range [.bin .mod (.bin .fdiv (.var 1) (.idx (.tup [.cst (.int 1),.cst (.int 5),.cst (.int 25),.cst (.int 125)]) (.var 3))) (.cst (.int 5))] lin,.asg 2 lex]
theorem sN (G:Glo) (o:Bo) (a b:E) (r:Env):evE G (.bin o a b) r=(evE G a r).bind fun x=>(evE G b r).bind fun y=>bI o x y:=by rw [evE]
theorem XS:mU 10=true:=by decide
section
variable {P:Pr} (hd:P.fn "_law_drawn"=some iI) (hw:P.fn "_law_worth"=some iJ) (hr:P.fn "_law_row"=some sG) (hn:P.fn "_law_names"=some nK) (hk:P.fn "_law_key"=some oR)
include hd hw hr hn hk
theorem XT (n:Nat) (hb:b.ok) (S Z:T) (N:Int) (i j:Nat) (hB:Book b qb) (h5:qb.length<=4) (s7:Sl) :
  ∃ kvs' s7',aE (glo P (run P (n+2))) lin [.val S,.val (.int N),.val Z,.val (.int (i:Int)),.val b.t,slD qb,.val (.int (j:Int)),s7]=some (.nx [.val S,.val (.int N),.val Z,.val (.int (i:Int)),.val b.t,slD kvs',.val (.int (j:Int)),s7'])/\Book b kvs'/\kvs'.length<=qb.length+1:=by
 obtain ⟨ps,e1,hp⟩:=FO hd hw hr n hb (dH N (10*i+j)/4);have e2:=mF hd (n+1) N (10*i+j);have e3:=XM hn hk n hb hp;refine ⟨bV qb (aO b ps) (aD ps),.val (aD ps),?_,⟨FQ hB.nd,fun p h=>?_⟩,wS⟩
 .unfold lin;rw [bC (t:=aD ps) (U':=[.val S,.val (.int N),.val Z,.val (.int (i:Int)),.val b.t,slD qb,.val (.int (j:Int)),.val (aD ps)]) rfl (by simp [evE,aG,aB,Sl.get,glo,bI,dN,lS,XS,cT,e2,e1]) rfl];have e4:evS (glo P (run P (n+2))) (.dput 5 (.call "_law_key" [.var 4,.var 7]) (.var 7)) [.val S,.val (.int N),.val Z,.val (.int (i:Int)),.val b.t,slD qb,.val (.int (j:Int)),.val (aD ps)]=some (.nx [.val S,.val (.int N),.val Z,.val (.int (i:Int)),.val b.t,slD (bV qb (aO b ps) (aD ps)),.val (.int (j:Int)),.val (aD ps)]):=by
   have hf:aQ (aJ (.var 7)++aJ (.call "_law_key" [.var 4,.var 7])) [Sl.val S,.val (.int N),.val Z,.val (.int (i:Int)),.val b.t,slD qb,.val (.int (j:Int)),.val (aD ps)]=[Sl.val S,.val (.int N),.val Z,.val (.int (i:Int)),.val b.t,slD qb,.val (.int (j:Int)),.val (aD ps)]:=rfl;have v1:evE (glo P (run P (n+2))) (.var 7) (aB [Sl.val S,.val (.int N),.val Z,.val (.int (i:Int)),.val b.t,slD qb,.val (.int (j:Int)),.val (aD ps)])=some (aD ps):=by simp [evE,aB,Sl.get]
   have v2:evE (glo P (run P (n+2))) (.call "_law_key" [.var 4,.var 7]) (aB [Sl.val S,.val (.int N),.val Z,.val (.int (i:Int)),.val b.t,slD qb,.val (.int (j:Int)),.val (aD ps)])=some (tkT (aO b ps)):=by simp [evE,aG,aB,Sl.get,glo,e3]
   rw [evS,hf,v1,bQ,v2,bQ];show ((kQ (some (slD qb)) (tkT (aO b ps)) (aD ps)).map _)=_;rw [FP qb _ _ (by lia)];rfl
  rw [bP e4,aE]
 .rcases wR h with h | h
  .exact hB.rw p h
  .exact ⟨ps,hp,h⟩
theorem XU (n:Nat) (hb:b.ok) (S:T) (N:Int) (i:Nat) (hi:i<4) (Z:List T) (hZ:Z.length<=4) (s5 s6 s7:Sl) :
  ∃ (R:List (List (Col × T))) (s5' s6' s7':Sl),aE (glo P (run P (n+2))) sM [.val S,.val (.int N),.val (.tup Z),.val (.int (i:Int)),.val b.t,s5,s6,s7]=some (.nx [.val S,.val (.int N),.val (.tup (Z++[.tup (R.map aD)])),.val (.int (i:Int)),.val b.t,s5',s6',s7'])/\R.length<=4/\(∀ ps∈R,RowOk b ps)/\(R.map (aO b)).Pairwise (fun x y=>bL x y=true):=by
 obtain ⟨d,ed,d0,d1⟩:=XR hi;obtain ⟨m,em,m4⟩:∃ m:Nat,N/d%5=(m:Int)/\m<=4:=⟨(N/d%5).toNat,by lia,by lia⟩;obtain ⟨U',el,qb,s6',s7',rfl,hB,hl⟩:=fW (enc:=fun j:Nat=>T.int (j:Int)) (f:=fun x U=>(bD [6] x U).bind fun U'=>aE (glo P (run P (n+2))) lin U')
  (fun done U=>∃ qb s6 s7,U=[.val S,.val (.int N),.val (.tup Z),.val (.int (i:Int)),.val b.t,slD qb,s6,s7]/\Book b qb/\qb.length<=done.length)
  (List.range m) [.val S,.val (.int N),.val (.tup Z),.val (.int (i:Int)),.val b.t,slD [],s6,s7] ⟨[],s6,s7,rfl,⟨gK,fun p h=>by cases h⟩,aV _⟩ (by
   rintro l1 j l2 hsp U ⟨qb,s6,s7,rfl,hB,hl⟩;have hl4:qb.length<=4:=by have:=aW List.length hsp;simp at this;lia
   obtain ⟨kvs',s7',e,hB',hl'⟩:=XT hd hw hr hn hk n hb S (.tup Z) N i j hB hl4 s7;refine ⟨[.val S,.val (.int N),.val (.tup Z),.val (.int (i:Int)),.val b.t,slD kvs',.val (.int (j:Int)),s7'],?_,kvs',.val (.int (j:Int)),s7',rfl,hB',by simp;lia⟩;simp only [bD,aT,jP,jQ];exact e)
 have hl4:qb.length<=4:=by simp at hl;lia
 obtain ⟨R,p2,r2,r3⟩:=FR (RowOk b) hB.rw;have hRl:R.length<=4:=by have e1:=aW List.length r3;rw [bA,oN,bA] at e1;lia
 refine ⟨R,.val (dD qb),s6',s7',?_,hRl,r2,by rw [r3];exact hB.pw hb⟩;unfold sM;rw [bP (s:=.dnew 5) (U':=[.val S,.val (.int N),.val (.tup Z),.val (.int (i:Int)),.val b.t,slD [],s6,s7]) (by rw [evS];rfl)];rw [bP (hJ (xs:=[.int (m:Int)]) (qc:=(List.range m).map fun (j:Nat)=>T.int (j:Int)) (U0:=[.val S,.val (.int N),.val (.tup Z),.val (.int (i:Int)),.val b.t,slD [],s6,s7]) rfl (by
  simp [aG,evE,aB,Sl.get,aK,ed,bI,cT,cZ,d0,d1,em]) (by
  simp only [items,kP,Int.toNat_natCast];rw [if_pos (by lia)]) el)]
 have hsz:(dF (qb.map (·.1))).length<=16777216:=by rw [oN,bA];lia
 have hz:Z.length+1<=16777216:=by lia
 rw [EO (i:=2) (e:=lex) (U0:=[.val S,.val (.int N),.val (.tup Z),.val (.int (i:Int)),.val b.t,.val (dD qb),s6',s7']) (t:=.tup (Z++[.tup (R.map aD)])) (U':=[.val S,.val (.int N),.val (.tup (Z++[.tup (R.map aD)])),.val (.int (i:Int)),.val b.t,.val (dD qb),s6',s7']) (by
   show [Sl.val S,.val (.int N),.val (.tup Z),.val (.int (i:Int)),.val b.t,Sl.frz (Sl.frz (slD qb)),s6',s7']=_;rw [XO];rfl) (by
   have ec:evE (glo P (run P (n+2))) (.comp (.idx (.var 6) (.var 0)) 1 .plain [.blt .sorted (.var 5)] none) (aB [Sl.val S,.val (.int N),.val (.tup Z),.val (.int (i:Int)),.val b.t,.val (dD qb),s6',s7'])=some (.lst (R.map aD)):=by
    rw [jK];have s1:aG (glo P (run P (n+2))) [.blt .sorted (.var 5)] (aB [Sl.val S,.val (.int N),.val (.tup Z),.val (.int (i:Int)),.val b.t,.val (dD qb),s6',s7'])=some [.lst ((dF (qb.map (·.1))).map tkT)]:=by simp [aG,evE,aB,Sl.get,hB.srt hb (by lia)]
    have s2:cI .plain [.lst ((dF (qb.map (·.1))).map tkT)]=some ((dF (qb.map (·.1))).map tkT):=by simp [cI,items,hsz]
    have ef:(fun x=>(bnd 1 x (aB [Sl.val S,.val (.int N),.val (.tup Z),.val (.int (i:Int)),.val b.t,.val (dD qb),s6',s7'])).bind fun r'=>(evE (glo P (run P (n+2))) (.idx (.var 6) (.var 0)) r').map some)=fun x=>(aK (dD qb) x).map some:=by funext x;simp [bnd,evE,aB,Sl.get]
    rw [s1,bQ,s2,bQ,ef,p2];rfl
   unfold lex;rw [sN];rw [show evE (glo P (run P (n+2))) (.tup [.blt .toTuple (.comp (.idx (.var 6) (.var 0)) 1 .plain [.blt .sorted (.var 5)] none)]) (aB [Sl.val S,.val (.int N),.val (.tup Z),.val (.int (i:Int)),.val b.t,.val (dD qb),s6',s7'])=some (.tup [.tup (R.map aD)]) by rw [evE,aG,gG,ec];rfl];simp [evE,aB,Sl.get,bI,dN,hz]) rfl,aE]
theorem XV (hl:P.fn "_law_loose"=some wN) (n:Nat) {S:List Tb} (hS:∀ b∈S,b.ok) (h4:S.length<=4) (N:Int) :
  ∃ Z:List (Tb × List (List (Col × T))),run P (n+3) "_law_loose" [.tup (S.map Tb.t),.int N]=some (.tup (Z.map fun z=>.tup (z.2.map aD)))/\Z.map (·.1)=S/\∀ z∈Z,z.2.length<=4/\(∀ ps∈z.2,RowOk z.1 ps)/\(z.2.map (aO z.1)).Pairwise (fun x y=>bL x y=true):=by
 rw [cE hl rfl];show ∃ Z:List (Tb × List (List (Col × T))),aY (aE (glo P (run P (n+2))) [.asg 2 (.tup []),.loop [3,4] .enum [.var 0] sM,.ret (.var 2)] [.val (.tup (S.map Tb.t)),.val (.int N),.no,.no,.no,.no,.no,.no])=_/\_;rw [bC (t:=.tup []) (U':=[.val (.tup (S.map Tb.t)),.val (.int N),.val (.tup []),.no,.no,.no,.no,.no]) rfl (by simp [evE,aG]) rfl];obtain ⟨U',el,Z,s3,s4,s5,s6,s7,rfl,h1,h2⟩:=fW (enc:=fun (p:Tb × Nat)=>T.tup [.int (p.2:Int),p.1.t]) (f:=fun x U=>(bD [3,4] x U).bind fun U'=>aE (glo P (run P (n+2))) sM U')
  (fun done U=>∃ (Z:List (Tb × List (List (Col × T)))),∃ s3 s4 s5 s6 s7,U=[.val (.tup (S.map Tb.t)),.val (.int N),.val (.tup (Z.map fun z=>.tup (z.2.map aD))),s3,s4,s5,s6,s7]/\Z.map (·.1)=done.map (·.1)/\∀ z∈Z,z.2.length<=4/\(∀ ps∈z.2,RowOk z.1 ps)/\(z.2.map (aO z.1)).Pairwise (fun x y=>bL x y=true))
  (S.zipIdx 0) [.val (.tup (S.map Tb.t)),.val (.int N),.val (.tup []),.no,.no,.no,.no,.no] ⟨[],.no,.no,.no,.no,.no,rfl,rfl,fun z h=>by cases h⟩ (by
   rintro done ⟨b,i⟩ rest hsp U ⟨Z,s3,s4,s5,s6,s7,rfl,h1,h2⟩;have hm:(b,i)∈S.zipIdx 0:=by rw [hsp];simp
   have hb:b∈S:=by have:=List.mem_zipIdx' hm;rw [this.2];exact gH _
   have hi:i<4:=by have:=(List.mem_zipIdx' hm).1;lia
   have hzl:Z.length<=4:=by have e1:=aW List.length h1;have e2:=aW List.length hsp;simp at e1 e2;lia
   obtain ⟨R,s5',s6',s7',e,r1,r2,r3⟩:=XU hd hw hr hn hk n (hS b hb) (.tup (S.map Tb.t)) N i hi (Z.map fun z=>.tup (z.2.map aD)) (by rw [bA];exact hzl) s5 s6 s7;refine ⟨[.val (.tup (S.map Tb.t)),.val (.int N),.val (.tup ((Z++[(b,R)]).map fun z=>.tup (z.2.map aD))),.val (.int (i:Int)),.val b.t,s5',s6',s7'],?_,Z++[(b,R)],_,_,_,_,_,rfl,by simp [h1],fun z hz=>?_⟩
   .simp only [bD,setAll,aT,jP,jQ];rw [e,eP];rfl
   .rcases oma hz with z' | z'
    .exact h2 z z'
    .rw [omg z'];exact ⟨r1,r2,r3⟩)
 refine ⟨Z,?_,by rw [h1,List.zipIdx_map_fst],h2⟩;rw [bP (hJ (xs:=[.tup (S.map Tb.t)]) (qc:=(S.zipIdx 0).map fun (p:Tb × Nat)=>T.tup [.int (p.2:Int),p.1.t]) (U0:=[.val (.tup (S.map Tb.t)),.val (.int N),.val (.tup []),.no,.no,.no,.no,.no]) rfl (by simp [aG,evE,aB,Sl.get]) (by simp only [items,pY]) el)];rw [cF (t:=.tup (Z.map fun z=>.tup (z.2.map aD))) rfl (by simp [evE,aB,Sl.get])];rfl
end
end
section
abbrev Zt:=Tb × List (List (Col × T))
noncomputable def aM (Z:List Zt):T:=.tup (Z.map fun z=>z.1.t)
noncomputable def rwT (z:Zt):T:=.tup (z.2.map aD)
noncomputable def stT (Z:List Zt):T:=.tup (Z.map rwT)
theorem sO:∀ Z:List Zt,dS (Z.map fun z=>z.1.t) (Z.map rwT)=Z.map fun z=>.tup [z.1.t,rwT z]
 | []=>rfl
 | z::Z=>by rw [aS,aS,aS,dS,sO Z]
theorem t0 (b:Tb):aK b.t (.int 0)=some (.str b.nm):=by rw [Tb.t,gE,aK,dR]
theorem t1 (b:Tb):aK b.t (.int 1)=some (.tup (b.cs.map Col.t)):=by rw [Tb.t,gE,aK,cN]
theorem wU {α:Type} {enc:α->T} {nm:α->Str} {f:T->List Sl->Option Out} {I:List Sl->Prop} {r:α->T} (x:Str) (hit:∀ a U,I U->nm a=x->f (enc a) U=some (.rt (r a))) (miss:∀ a U,I U->nm a≠x->∃ U',f (enc a) U=some (.nx U')/\I U') :
  ∀ {l:List α} {a:α},a∈l->(l.map nm).Nodup->nm a=x->∀ U,I U->cP f (l.map enc) U=some (.rt (r a))
 | b::l,a,ha,nd,e,U,h=>by
  rw [aS] at nd;obtain ⟨n1,n2⟩:=cK.mp nd;rw [aS,cP];by_cases hb:nm b=x
  .rcases omc ha with rfl | ha
   .rw [hit _ U h hb];rfl
   .exact absurd (cO.mpr ⟨a,ha,e.trans hb.symm⟩) n1
  .rcases omc ha with rfl | ha
   .exact absurd e hb
   .obtain ⟨U',h1,h2⟩:=miss b U h hb;rw [h1];exact wU x hit miss ha n2 e U' h2
theorem XW {P:Pr} (h:P.fn "table_of"=some qA) (n:Nat) {Z:List Zt} {z:Zt} (hz:z∈Z) (nd:(Z.map (·.1.nm)).Nodup):run P (n+1) "table_of" [aM Z,.str z.1.nm]=some z.1.t:=by
 rw [cE h rfl];show aY (aE (glo P (run P n)) wL [.val (aM Z),.val (.str z.1.nm),.no])=_;unfold wL;have el:=wU (enc:=fun z:Zt=>z.1.t) (nm:=fun z:Zt=>z.1.nm) (r:=fun z:Zt=>z.1.t) (I:=fun U=>∃ s2,U=[Sl.val (aM Z),.val (.str z.1.nm),s2])
  (f:=fun x U=>(bD [2] x U).bind fun U'=>aE (glo P (run P n)) [.ite (.cmp .eq (.idx (.var 2) (.cst (.int 0))) (.var 1)) [.ret (.var 2)] []] U') z.1.nm
  (fun a U ⟨s2,hU⟩ e=>by subst hU;show aE (glo P (run P n)) [.ite (.cmp .eq (.idx (.var 2) (.cst (.int 0))) (.var 1)) [.ret (.var 2)] []] [.val (aM Z),.val (.str z.1.nm),.val a.1.t]=_;exact fP rfl (by simp [evE,aB,Sl.get,t0,bB,eqs,e]) (cF rfl (by simp [evE,aB,Sl.get])))
  (fun a U ⟨s2,hU⟩ e=>by subst hU;refine ⟨[.val (aM Z),.val (.str z.1.nm),.val a.1.t],?_,_,rfl⟩;show aE (glo P (run P n)) [.ite (.cmp .eq (.idx (.var 2) (.cst (.int 0))) (.var 1)) [.ret (.var 2)] []] [.val (aM Z),.val (.str z.1.nm),.val a.1.t]=_;rw [cQ rfl (by simp [evE,aB,Sl.get,t0,bB,eqs,e]),aE])
  hz nd rfl [Sl.val (aM Z),.val (.str z.1.nm),.no] ⟨_,rfl⟩
 rw [kE (hJ (xs:=[aM Z]) (qc:=Z.map fun z=>z.1.t) (U0:=[Sl.val (aM Z),.val (.str z.1.nm),.no]) rfl (by simp [aG,evE,aB,Sl.get]) rfl el)];rfl
theorem wV {P:Pr} (h:P.fn "rows_of"=some qB) (n:Nat) {Z:List Zt} {z:Zt} (hz:z∈Z) (nd:(Z.map (·.1.nm)).Nodup):run P (n+1) "rows_of" [aM Z,stT Z,.str z.1.nm]=some (rwT z):=by
 rw [cE h rfl];show aY (aE (glo P (run P n)) wM [.val (aM Z),.val (stT Z),.val (.str z.1.nm),.no,.no])=_;unfold wM;have el:=wU (enc:=fun z:Zt=>T.tup [z.1.t,rwT z]) (nm:=fun z:Zt=>z.1.nm) (r:=rwT) (I:=fun U=>∃ s3 s4,U=[Sl.val (aM Z),.val (stT Z),.val (.str z.1.nm),s3,s4])
  (f:=fun x U=>(bD [3,4] x U).bind fun U'=>aE (glo P (run P n)) [.ite (.cmp .eq (.idx (.var 3) (.cst (.int 0))) (.var 2)) [.ret (.var 4)] []] U') z.1.nm
  (fun a U ⟨s3,s4,hU⟩ e=>by subst hU;show aE (glo P (run P n)) [.ite (.cmp .eq (.idx (.var 3) (.cst (.int 0))) (.var 2)) [.ret (.var 4)] []] [.val (aM Z),.val (stT Z),.val (.str z.1.nm),.val a.1.t,.val (rwT a)]=_;exact fP rfl (by simp [evE,aB,Sl.get,t0,bB,eqs,e]) (cF rfl (by simp [evE,aB,Sl.get])))
  (fun a U ⟨s3,s4,hU⟩ e=>by subst hU;refine ⟨[.val (aM Z),.val (stT Z),.val (.str z.1.nm),.val a.1.t,.val (rwT a)],?_,_,_,rfl⟩;show aE (glo P (run P n)) [.ite (.cmp .eq (.idx (.var 3) (.cst (.int 0))) (.var 2)) [.ret (.var 4)] []] [.val (aM Z),.val (stT Z),.val (.str z.1.nm),.val a.1.t,.val (rwT a)]=_;rw [cQ rfl (by simp [evE,aB,Sl.get,t0,bB,eqs,e]),aE])
  hz nd rfl [Sl.val (aM Z),.val (stT Z),.val (.str z.1.nm),.no,.no] ⟨_,_,rfl⟩
 rw [kE (hJ (xs:=[aM Z,stT Z]) (qc:=Z.map fun z=>T.tup [z.1.t,rwT z]) (U0:=[Sl.val (aM Z),.val (stT Z),.val (.str z.1.nm),.no,.no]) rfl (by simp [aG,evE,aB,Sl.get]) (by show some (dS (Z.map fun z=>z.1.t) (Z.map rwT))=_;rw [sO]) el)];rfl
theorem fX (G:Glo) (a b:E) (r:Env):evE G (.idx a b) r=(evE G a r).bind fun x=>(evE G b r).bind fun y=>aK x y:=by rw [evE]
theorem XX (G:Glo) (m:Mt) (a b:E) (r:Env):evE G (.mth m a b) r=(evE G a r).bind fun x=>(evE G b r).bind fun y=>jE m x y:=by rw [evE]
theorem FS {z:Zt}:∀ {Z:List Zt},z∈Z->(Z.map (·.1.nm)).Nodup->∃ i:Nat,kO (.str z.1.nm) (Z.map fun z=>T.str z.1.nm)=some i/\(Z.map rwT)[i]?=some (rwT z)
 | y::Z,h,nd=>by
  rw [aS] at nd;obtain ⟨n1,n2⟩:=cK.mp nd;rw [aS,kO];by_cases e:y.1.nm=z.1.nm
  .rcases omc h with rfl | h
   .exact ⟨0,by simp [eqT],rfl⟩
   .exact absurd (cO.mpr ⟨z,h,e.symm⟩) n1
  .rcases omc h with rfl | h
   .exact absurd rfl e
   .obtain ⟨i,h1,h2⟩:=FS h n2;refine ⟨i+1,?_,by simpa using h2⟩;rw [h1];simp [eqT,e]
theorem XY {P:Pr} (h:P.fn "_law_rows"=some vT) (n:Nat) {Z:List Zt} (h4:Z.length<=4) {z:Zt} (hz:z∈Z) (nd:(Z.map (·.1.nm)).Nodup):run P (n+1) "_law_rows" [aM Z,stT Z,.str z.1.nm]=some (rwT z):=by
 rw [cE h rfl];obtain ⟨i,h1,h2⟩:=FS hz nd;have hz':Z.length<=16777216:=by lia
 show aY (aE (glo P (run P n)) vS [.val (aM Z),.val (stT Z),.val (.str z.1.nm)])=_;unfold vS;have ec:evE (glo P (run P n)) (.comp (.idx (.var 0) (.cst (.int 0))) 1 .plain [.var 0] none) (aB [Sl.val (aM Z),.val (stT Z),.val (.str z.1.nm)])=some (.lst (Z.map fun z=>T.str z.1.nm)):=by
  rw [jK];have s1:aG (glo P (run P n)) [.var 0] (aB [Sl.val (aM Z),.val (stT Z),.val (.str z.1.nm)])=some [aM Z]:=by simp [aG,evE,aB,Sl.get]
  have s2:cI .plain [aM Z]=some (Z.map fun z=>z.1.t):=by simp [cI,items,aM,hz']
  rw [s1,bQ,s2,bQ,kZ (fun z:Zt=>T.str z.1.nm) fun a _=>by simp [bnd,evE,aB,Sl.get,t0]];rfl
 have hf:((Z.map fun z=>T.str z.1.nm).all flat)=true:=by rw [lI];intro t ht;obtain ⟨a,_,rfl⟩:=omm ht;rfl
 have em:jE .index (.lst (Z.map fun z=>T.str z.1.nm)) (.str z.1.nm)=some (.int (i:Int)):=by simp only [jE];rw [if_pos (by rw [hf];rfl),h1];rfl
 rw [cF (t:=rwT z) rfl (by rw [fX,XX,ec];simp only [evE,aB,bG,bH,Sl.get,bJ,bE,bF,aT,em];show dA (Z.map rwT) (i:Int)=_;exact gY h2)];rfl
end
section
end
section
structure Tr where
 nm:Str
 j:Nat
 k:List Kt
noncomputable def trT (x:Tr):T:=.tup [.str x.nm,.int (x.j:Int),tkT x.k]
noncomputable def code (x:Tr):List Kt:=.inr (some x.nm)::.inl (x.j:Int)::x.k
theorem wW (a b:Kt):eqT (kT a) (kT b)=decide (a=b):=by
 rcases a with i | _ | x<;>rcases b with j | _ | y<;>simp only [kT,eqT]
 all_goals first | (simp;done) | (by_cases e:i=j<;>simp [e]) | (by_cases e:x=y<;>simp [e])
theorem FT:∀ a b:List Kt,eW (a.map kT) (b.map kT)=decide (a=b)
 | [],[]=>by rw [List.map_nil,eW];rfl
 | [],_::_=>by rw [List.map_cons,List.map_nil,eW]<;>simp
 | _::_,[]=>by rw [List.map_cons,List.map_nil,eW]<;>simp
 | x::a,y::b=>by rw [aS,aS,eW,wW,FT a b];by_cases e:x=y<;>by_cases f:a=b<;>simp [e,f]
theorem sP (a b:List Kt):eqT (tkT a) (tkT b)=decide (a=b):=by rw [tkT,tkT,eqT,FT]
theorem XZ (a b:Kt):dpP (kT a) (kT b)=0:=by rcases a with _ | _ | _<;>rcases b with _ | _ | _<;>rfl
theorem FV:∀ a b:List Kt,dO (a.map kT) (b.map kT)=0
 | [],_=>by rw [List.map_nil,dO];simp
 | _::_,[]=>by rw [List.map_nil,dO];simp
 | x::a,y::b=>by rw [aS,aS,dO,XZ,FV a b];rfl
theorem sQ (a b:List Kt):dpP (tkT a) (tkT b)=1:=by rw [tkT,tkT,dpP,FV]
theorem FW:∀ {a b:List Kt},Ev.alike a b=true->dY (a.map kT) (b.map kT)=some (bL a b)
 | [],[],_=>rfl
 | [],_::_,h=>by cases h
 | _::_,[],h=>by cases h
 | x::a,y::b,h=>by
  rw [Ev.alike,bU] at h;rw [aS,aS,dY];show (if eqT (kT x) (kT y)=true then dY (a.map kT) (b.map kT) else ltD (kT x) (kT y))=_;rw [wW,bL];by_cases e:x=y
  .rw [if_pos (bX e),if_pos e];exact FW h.2
  .rw [if_neg (by simpa using e),if_neg e];rcases x with i | _ | x<;>rcases y with j | _ | y<;>first | rfl | (exact absurd h.1 dI)
theorem FX {a b:Str} (h:a≠b):(Sum.inr (some a):Kt)≠.inr (some b):=fun z=>h (dE (Sum.inr.inj z))
theorem j_ne {a b:Nat} (h:a≠b):(Sum.inl (a:Int):Kt)≠.inl (b:Int):=fun z=>h (by have:=Sum.inl.inj z;lia)
theorem wX (x y:Tr):bL (code x) (code y)=if x.nm=y.nm then (if x.j=y.j then bL x.k y.k else kLt (.inl (x.j:Int)) (.inl (y.j:Int))) else kLt (.inr (some x.nm)) (.inr (some y.nm)):=by
 show (if (Sum.inr (some x.nm):Kt)=.inr (some y.nm) then (if (Sum.inl (x.j:Int):Kt)=.inl (y.j:Int) then bL x.k y.k else kLt (.inl (x.j:Int)) (.inl (y.j:Int))) else kLt (.inr (some x.nm)) (.inr (some y.nm)))=_;by_cases e:x.nm=y.nm
 .rw [if_pos (by rw [e]),if_pos e];by_cases f:x.j=y.j
  .rw [if_pos (by rw [f]),if_pos f]
  .rw [if_neg (j_ne f),if_neg f]
 .rw [if_neg (FX e),if_neg e]
theorem FY {x y:Tr} (h:x.nm=y.nm->Ev.alike x.k y.k=true):ltD (trT x) (trT y)=some (bL (code x) (code y)):=by
 show dY [.str x.nm,.int (x.j:Int),tkT x.k] [.str y.nm,.int (y.j:Int),tkT y.k]=_;rw [wX,dY];show (if (x.nm==y.nm)=true then dY [.int (x.j:Int),tkT x.k] [.int (y.j:Int),tkT y.k] else ltD (.str x.nm) (.str y.nm))=_;by_cases e:x.nm=y.nm
 .rw [if_pos (mO.mpr e),if_pos e,dY];show (if ((x.j:Int)==(y.j:Int))=true then dY [tkT x.k] [tkT y.k] else ltD (.int (x.j:Int)) (.int (y.j:Int)))=_;by_cases f:x.j=y.j
  .rw [if_pos (by rw [f];exact jN _),if_pos f,dY];show (if eqT (tkT x.k) (tkT y.k)=true then dY [] [] else dY (x.k.map kT) (y.k.map kT))=_;rw [sP,FW (h e)];by_cases g:x.k=y.k
   .rw [if_pos (bX g),g,nH];rfl
   .rw [if_neg (by simpa using g)]
  .have f':¬ (x.j:Int)=(y.j:Int):=by lia
   rw [if_neg (by simpa using f'),if_neg f];rfl
 .rw [if_neg (by simpa using e),if_neg e];rfl
theorem wY:∀ {a b c:List Kt},bL a b=true->bL b c=true->bL a c=true
 | [],_,_,h,_=>by cases h
 | _::_,[],_,h,_=>by cases h
 | _::_,_::_,[],_,h=>by cases h
 | x::a,y::b,z::c,h1,h2=>by
  rw [bL] at h1 h2 ⊢;by_cases e:x=y
  .rw [if_pos e] at h1;by_cases f:y=z
   .rw [if_pos f] at h2;rw [if_pos (e.trans f)];exact wY h1 h2
   .rw [if_neg f] at h2;rw [if_neg (fun g=>f (e.symm.trans g)),e];exact h2
  .rw [if_neg e] at h1;by_cases f:y=z
   .rw [if_neg (fun g=>e (g.trans f.symm)),<- f];exact h1
   .rw [if_neg f] at h2;have h3:=BF h1 h2;rw [if_neg fun g=>by rw [g,BE] at h3;cases h3];exact h3
theorem YA {x y:Tr} (h:x.nm=y.nm->Ev.alike x.k y.k=true) (hn:x≠y):bL (code y) (code x)=!bL (code x) (code y):=by
 rw [wX,wX];by_cases e:x.nm=y.nm
 .rw [if_pos e.symm,if_pos e];by_cases f:x.j=y.j
  .rw [if_pos f.symm,if_pos f];refine pP (h e) fun g=>hn ?_;obtain ⟨a,b,c⟩:=x;obtain ⟨a',b',c'⟩:=y;cases e;cases f;cases g;rfl
  .rw [if_neg (fun z=>f z.symm),if_neg f];exact uL rfl (j_ne f)
 .rw [if_neg (fun z=>e z.symm),if_neg e];exact uL rfl (FX e)
structure TrOk (l:List Tr):Prop where
 len:l.length<=60
 nd:l.Nodup
 al:∀ x∈l,∀ y∈l,x.nm=y.nm->Ev.alike x.k y.k=true
theorem TrOk.cd {l:List Tr} (h:TrOk l) {x y:Tr} (hx:x∈l) (hy:y∈l):cD (trT x) (trT y)=bL (code x) (code y):=by unfold cD;rw [FY (h.al x hx y hy)];cases bL (code x) (code y)<;>rfl
theorem TrOk.tot {l:List Tr} (h:TrOk l):(l.map trT).Pairwise fun x y=>cD y x=!cD x y:=by refine List.pairwise_map.mpr (List.Pairwise.imp_of_mem (fun {x y} hx hy hn=>?_) h.nd);rw [h.cd hx hy,h.cd hy hx];exact YA (h.al x hx y hy) hn
theorem TrOk.tr {l:List Tr} (h:TrOk l):∀ x∈l.map trT,∀ y∈l.map trT,∀ z∈l.map trT,cD x y=true->cD y z=true->cD x z=true:=fun x hx y hy z hz=>by obtain ⟨x',mx,rfl⟩:=omm hx;obtain ⟨y',my,rfl⟩:=omm hy;obtain ⟨z',mz,rfl⟩:=omm hz;rw [h.cd mx my,h.cd my mz,h.cd mx mz];exact wY
theorem TrOk.okN {l:List Tr} (h:TrOk l):OkN (l.map trT):=by
 refine ⟨by rw [bA];exact h.len,fun x hx y hy=>?_,fun x hx y hy=>?_,⟨1,fun x hx=>?_⟩,h.tot,h.tr⟩
 .obtain ⟨x',mx,rfl⟩:=omm hx;obtain ⟨y',my,rfl⟩:=omm hy;show dO [.str x'.nm,.int (x'.j:Int),tkT x'.k] [.str y'.nm,.int (y'.j:Int),tkT y'.k]+1<=20;rw [dO,dO,dO,sQ,dO]<;>first | (simp [dpP];done) | simp
 .obtain ⟨x',mx,rfl⟩:=omm hx;obtain ⟨y',my,rfl⟩:=omm hy;exact ⟨_,FY (h.al x' mx y' my)⟩
 .obtain ⟨x',mx,rfl⟩:=omm hx;exact ⟨_,_,rfl,rfl⟩
theorem TrOk.sorted {l:List Tr} (h:TrOk l):bO .sorted (.lst (l.map trT))=some (.lst (fU (l.map trT))):=by
 cases l with
 | nil=>simp [bO,mT,kN,pF,dF,fU]
 | cons x l =>have e:mT ((x::l).map trT)=none:=rfl;show (match (mT ((x::l).map trT)).bind kN with | some r=>some r | none=>lT ((x::l).map trT))=_;rw [e];show lT _=_;unfold lT;rw [if_pos h.okN]
theorem TrOk.perm {l m:List Tr} (h:TrOk l) (p:l.Perm m):TrOk m/\fU (l.map trT)=fU (m.map trT):=by have hm:TrOk m:=⟨by rw [<- p.length_eq];exact h.len,p.nodup_iff.mp h.nd,fun x hx y hy=>h.al x (p.mem_iff.mpr hx) y (p.mem_iff.mpr hy)⟩;refine ⟨hm,uU (pQ h.tot h.tr) (pQ hm.tot hm.tr) (fun x hx y hy h1 h2=>?_) ((jH _).trans ((p.map trT).trans (jH _).symm))⟩;obtain ⟨x',mx,rfl⟩:=omm ((jH _).mem_iff.mp hx);obtain ⟨y',my,rfl⟩:=omm ((jH _).mem_iff.mp hy);rw [h.cd mx my] at h1;rw [h.cd my mx] at h2;have:=wY h1 h2;rw [nH] at this;cases this
end
section
section
variable {α κ:Type} [DecidableEq κ] (W:α->κ)
noncomputable def cls (R:List α) (q:κ):List α:=R.filter fun r=>decide (W r=q)
theorem FZ:∀ (D:List κ) (R:List α),D.Nodup->(∀ r∈R,W r∈D)->(D.flatMap (cls W R)).Perm R
 | [],R,_,h=>by
  cases R with
  | nil=>exact .refl _
  | cons r R=>exact absurd (h r List.mem_cons_self) (by simp)
 | q::D,R,nd,h=>by
  rw [cK] at nd;rw [gI];have e:D.flatMap (cls W R)=D.flatMap (cls W (R.filter fun r=>!decide (W r=q))):=by
   have:∀ D':List κ,(∀ x∈D',x≠q)->D'.flatMap (cls W R)=D'.flatMap (cls W (R.filter fun r=>!decide (W r=q))):=fun D'=>by
    induction D' with
    | nil=>intro _;rfl
    | cons x D' ih =>
     intro hx;rw [gI,gI,ih fun y hy=>hx y (cL _ hy)];congr 1;unfold cls;rw [List.filter_filter];refine List.filter_congr fun r _=>?_;by_cases e:W r=x
     .have:¬ x=q:=hx x cW;simp [e,this]
     .simp [e]
   exact this D fun x hx z=>nd.1 (z▸hx)
  rw [e];refine (List.Perm.append_left _ (FZ D (R.filter fun r=>!decide (W r=q)) nd.2 fun r hr=>?_)).trans (List.filter_append_perm _ R);obtain ⟨h1,h2⟩:=iN.mp hr;rcases omc (h r h1) with z | z
  .rw [z] at h2;simp at h2
  .exact z
noncomputable def two (R:List α):List α:=R.filter fun r=>decide (1<(cls W R (W r)).length)
theorem YB {D:List κ} {R:List α} (nd:D.Nodup) (h:∀ r∈R,W r∈D):(D.flatMap fun q=>if 1<(cls W R q).length then cls W R q else []).Perm (two W R):=by
 have e:(D.flatMap fun q=>if 1<(cls W R q).length then cls W R q else [])=D.flatMap (cls W (two W R)):=by
  clear nd h
  induction D with
  | nil=>rfl
  | cons q D ih =>
   rw [gI,gI,ih];congr 1;show _=(two W R).filter _;unfold two;rw [List.filter_filter];split
   .rename_i hq;refine List.filter_congr fun r _=>?_;by_cases e:W r=q
    .simp [e,hq]
    .simp [e]
   .rename_i hq;refine (List.filter_eq_nil_iff.mpr fun r _=>?_).symm;by_cases e:W r=q
    .simp [e,hq]
    .simp [e]
 rw [e];exact FZ W D (two W R) nd fun r hr=>h r (iN.mp hr).1
end
section
variable {α:Type} (W:α->List Kt) (key:α->T)
noncomputable def grp (R:List α) (D:List (List Kt)):Qq:=D.map fun q=>(q,(cls W R q).map key)
theorem GA (R:List α) (D:List (List Kt)) (q:List Kt):((grp W key R D).any fun p=>decide (p.1=q))=true↔q∈D:=by
 rw [List.any_eq_true];constructor
 .rintro ⟨p,hp,e⟩;obtain ⟨x,hx,rfl⟩:=omm hp;have:x=q:=iF e;exact this▸hx
 .exact fun h=>⟨_,cO.mpr ⟨q,h,rfl⟩,bX rfl⟩
theorem wZ (R:List α) (r:α) (q:List Kt):cls W (R++[r]) q=cls W R q++(if W r=q then [r] else []):=by unfold cls;rw [List.filter_append,iM];by_cases e:W r=q<;>simp [e]
theorem YC {R:List α} {q:List Kt} (h:∀ r∈R,W r≠q):cls W R q=[]:=List.filter_eq_nil_iff.mpr fun r hr=>by simpa using h r hr
theorem YD {R:List α} {D:List (List Kt)} (nd:D.Nodup) (h:∀ r∈R,W r∈D) (r:α) :
  ∃ D',D'.Nodup/\(∀ x∈R++[r],W x∈D')/\D'.length<=D.length+1/\apP (sdP (grp W key R D) (W r)) (W r) (key r)=grp W key (R++[r]) D':=by
 unfold sdP;rcases Classical.em (W r∈D) with hq | hq
 .refine ⟨D,nd,fun x hx=>?_,Nat.le_succ _,?_⟩
  .rcases oma hx with hx | hx
   .exact h x hx
   .rw [omg hx];exact hq
  .rw [if_pos ((GA W key R D _).mpr hq)];unfold apP grp;rw [cH];refine iZ fun q _=>?_;show (if q=W r then (q,(cls W R q).map key++[key r]) else (q,(cls W R q).map key))=(q,(cls W (R++[r]) q).map key);rw [wZ];by_cases e:q=W r
   .rw [if_pos e,if_pos e.symm,eP];rfl
   .rw [if_neg e,if_neg (fun z=>e z.symm),eO]
 .refine ⟨D++[W r],?_,fun x hx=>?_,by simp,?_⟩
  .refine List.nodup_append.mpr ⟨nd,by simp,fun a ha b hb=>?_⟩;rw [omg hb];exact fun z=>hq (z▸ha)
  .rcases oma hx with hx | hx
   .exact qJ.mpr (.inl (h x hx))
   .rw [omg hx];simp
  .rw [if_neg fun z=>hq ((GA W key R D _).mp z)];unfold apP grp;rw [eP,eP,cH];have e1:cls W (R++[r]) (W r)=[r]:=by rw [wZ,YC W fun x hx z=>hq (by rw [<- z];exact h x hx),if_pos rfl];rfl
   have e2:[(W r,([]:List T))].map (fun p=>if p.1=W r then (p.1,p.2++[key r]) else p)=[W r].map fun q=>(q,(cls W (R++[r]) q).map key):=by simp [e1]
   rw [e2];congr 1;refine iZ fun q hqD=>?_;have hne:¬ q=W r:=fun z=>hq (z▸hqD);show (if q=W r then (q,(cls W R q).map key++[key r]) else (q,(cls W R q).map key))=(q,(cls W (R++[r]) q).map key);rw [if_neg hne,wZ,if_neg (fun z=>hne z.symm),eO]
theorem YE (R:List α) (D:List (List Kt)):((grp W key R D).flatMap fun p=>if 1<p.2.length then p.2 else [])=(D.flatMap fun q=>if 1<(cls W R q).length then cls W R q else []).map key:=by
 unfold grp
 induction D with
 | nil=>rfl
 | cons q D ih =>rw [aS,gI,gI,ih,eP];congr 1;show (if 1<((cls W R q).map key).length then (cls W R q).map key else [])=_;rw [bA];split<;>rfl
end
end
section
variable {b:Tb} {qa:List Str} {P:Pr}
noncomputable def xA:List S:=[.ret (.call "worths_of" [.var 0,.var 1,.idx (.var 0) (.cst (.int 2))])]
noncomputable def mG:Fd:=⟨2,2,xA⟩
noncomputable def oV:Fd:=⟨3,4,[.asg 3 (.call "table_of" [.var 0,.var 2]),
  .ret (.blt .dict (.comp (.tup [.call "key_of" [.var 4,.var 0],.var 0]) 1 .plain [.call "rows_of" [.var 0,.var 1,.var 2]] none))]⟩
noncomputable def xB:List S:=[.ret (.cmp .notF (.call "holds" [.var 0,.idx (.var 2) (.cst (.int 1)),.var 1]) (.cst (.bl false)))]
noncomputable def xC:Fd:=⟨3,3,xB⟩
noncomputable def nM:Fd:=⟨3,4,[.asg 3 (.call "worths_of" [.var 0,.var 2,.idx (.var 1) (.cst (.int 1))]),
  .ite (.cmp .isin (.cst .non) (.var 3)) [.ret (.cst .non)] [],
  .ret (.var 3)]⟩
noncomputable def rbB:List S:=[.asg 5 (.call "key_referred_to" [.var 0,.var 1,.var 4]),
  .ite (.cmp .notN (.var 5) (.cst .non)) [.app 3 (.tup [.tup [.idx (.var 0) (.cst (.int 0)),.call "key_of" [.var 0,.var 4]],.var 1,.tup [.idx (.var 1) (.cst (.int 2)),.var 5]])] []]
noncomputable def xD:List S:=[.asg 3 (.lst []),
  .loop [4] .plain [.var 2] rbB,
  .ret (.var 3)]
noncomputable def sR:Fd:=⟨3,6,xD⟩
noncomputable def bkI:List S:=[.app 2 (.tup [.idx (.var 3) (.cst (.int 0)),.var 4,.var 6])]
noncomputable def xE:Fd:=⟨2,7,[.asg 2 (.lst []),
  .loop [3] .plain [.var 0] [.loop [4,5] .enum [.idx (.var 3) (.cst (.int 3))] [.loop [6] .plain [.call "keys_that_break" [.var 0,.var 1,.var 3,.var 5]] bkI]],
  .ret (.blt .toTuple (.blt .sorted (.var 2)))]⟩
noncomputable def sS:Fd:=⟨4,5,[.asg 4 (.call "rows_of" [.var 0,.var 1,.idx (.var 2) (.cst (.int 0))]),
  .ite (.cmp .eq (.idx (.var 3) (.cst (.int 0))) (.cst (.str "check"))) [.ret (.comp (.call "key_of" [.var 3,.var 0]) 1 .plain [.var 4] (some (.lnot (.tru (.call "is_kept" [.var 3,.var 0,.var 4])))))] [],
  .ite (.cmp .eq (.idx (.var 3) (.cst (.int 0))) (.cst (.str "unlike"))) [.ret (.call "keys_alike" [.var 2,.var 3,.var 4])] [],
  .ret (.call "keys_referring_to_none" [.var 0,.var 1,.var 2,.var 3])]⟩
noncomputable def kaB:List S:=[.asg 5 (.call "worths_of" [.var 0,.var 4,.idx (.var 1) (.cst (.int 1))]),
  .ite (.cmp .notin (.cst .non) (.var 5)) [.dapp 3 (.var 5) (.call "key_of" [.var 0,.var 4])] []]
noncomputable def kaV:List S:=[.ite (.cmp .gt (.blt .len (.var 7)) (.cst (.int 1))) [.ext 6 (.var 7)] []]
noncomputable def xF:List S:=[.dnew 3,
  .loop [4] .plain [.var 2] kaB,
  .asg 6 (.lst []),
  .vloop [7] 3 kaV,
  .ret (.var 6)]
noncomputable def xG:Fd:=⟨3,8,xF⟩
noncomputable def qC:Fd:=⟨4,6,[.asg 4 (.call "rows_by_key" [.var 0,.var 1,.idx (.var 3) (.cst (.int 2))]),
  .asg 5 (.call "references_by" [.var 2,.var 3,.call "rows_of" [.var 0,.var 1,.idx (.var 2) (.cst (.int 0))]]),
  .ret (.comp (.idx (.var 0) (.cst (.int 1))) 3 .plain [.var 5] (some (.cmp .notin (.idx (.var 2) (.cst (.int 1))) (.var 7))))]⟩
abbrev Row:=List (Col × T)
noncomputable def wK (qa:List Str) (ps:Row):List Kt:=qa.map fun x=>kk (val ps x)
noncomputable def eR (k:List Kt):Bool:=k.any fun x=>decide (x=.inr none)
noncomputable def kyT (b:Tb) (ps:Row):T:=tkT (aO b ps)
noncomputable def woT (qa:List Str) (ps:Row):T:=if eR (wK qa ps)=true then .non else tkT (wK qa ps)
theorem xH (k:List Kt):inC .non (tkT k)=some (eR k):=by
 have h1:dpI .non (k.map kT)=true:=by unfold dpI;rw [List.all_map];exact lI.mpr fun x _=>by rcases x with _ | _ | _<;>rfl
 have h2:((k.map kT).any fun z=>eqT z .non)=eR k:=by rw [List.any_map,eR];congr;funext x;exact wW x (.inr none)
 show (if dpI .non (k.map kT)=true then some ((k.map kT).any fun z=>eqT z .non) else none)=_;rw [if_pos h1,h2]
theorem GB (hb:b.ok) {ps:Row} (hp:RowOk b ps) (hc:∀ x∈qa,∃ c∈b.cs,c.n=x):∃ qs:Row,qs.map nmT=qa.map .str/\(∀ q∈qs,q∈ps)/\qs.length=qa.length/\T.tup (qs.map (·.2))=tkT (wK qa ps):=by
 have hnd:=hp.nd hb;obtain ⟨qs,q1,q0,q2,q3⟩:=wP (ps:=ps) (ks:=qa) fun x hx=>by obtain ⟨c,hc,e⟩:=hc x hx;obtain ⟨p,hp',rfl⟩:=hp.col hc;exact ⟨p,hp',e⟩
 refine ⟨qs,q1,q2,q3,?_⟩;have ek:wK qa ps=qs.map fun q=>kk q.2:=by unfold wK;rw [<- q0,cH];exact iZ fun q hq=>by show kk (val ps q.1.n)=kk q.2;rw [iX (q2 q hq) hnd]
 unfold tkT;rw [ek,cH];exact aW T.tup (iZ fun q hq=>((wO (hp.wk q (q2 q hq))).2).symm)
theorem xI (h:P.fn "worths_of"=some gX) (n:Nat) (hb:b.ok) {ps:Row} (hp:RowOk b ps) (hc:∀ x∈qa,∃ c∈b.cs,c.n=x) (h4:qa.length<=4):run P (n+1) "worths_of" [b.t,aD ps,aZ qa]=some (tkT (wK qa ps)):=by obtain ⟨qs,q1,q2,q3,q4⟩:=GB hb hp hc;rw [hp.tab,aZ,<- q1,<- q4];exact wG h n (hp.len hb) (hp.nd hb) _ _ _ q2 (by lia)
theorem t2 (b:Tb):aK b.t (.int 2)=some (aZ b.key):=by rw [Tb.t,gE,aK,gZ];rfl
theorem t3 (b:Tb):aK b.t (.int 3)=some (.tup (b.rs.map Rl.t)):=by rw [Tb.t,gE,aK,VB]
theorem oW (hw:P.fn "worths_of"=some gX) (h:P.fn "key_of"=some mG) (n:Nat) (hb:b.ok) {ps:Row} (hp:RowOk b ps):run P (n+2) "key_of" [b.t,aD ps]=some (kyT b ps):=by rw [cE h rfl];have e:(glo P (run P (n+1))).call "worths_of" [b.t,aD ps,aZ b.key]=some (kyT b ps):=xI hw n hb hp hb.inn (by have:=hb.k1;lia);show aY (aE (glo P (run P (n+1))) xA [.val b.t,.val (aD ps)])=_;unfold xA;generalize glo P (run P (n+1))=G at *;rw [cF (t:=kyT b ps) rfl (by simp only [evE,aG,aB,Sl.get,bG,bH,bJ,bE,bF,aT,t2,e])];rfl
theorem YF (hw:P.fn "worths_of"=some gX) (h:P.fn "key_referred_to"=some nM) (n:Nat) (hb:b.ok) {ps:Row} (hp:RowOk b ps) (hc:∀ x∈qa,∃ c∈b.cs,c.n=x) (h4:qa.length<=4) {r:T} (hr:aK r (.int 1)=some (aZ qa)) :
  run P (n+2) "key_referred_to" [b.t,r,aD ps]=some (woT qa ps):=by
 rw [cE h rfl];have e:(glo P (run P (n+1))).call "worths_of" [b.t,aD ps,aZ qa]=some (tkT (wK qa ps)):=xI hw n hb hp hc h4;show aY (aE (glo P (run P (n+1))) nM.body [.val b.t,.val r,.val (aD ps),.no])=_;generalize glo P (run P (n+1))=G at *;unfold nM;dsimp only;rw [bC (t:=tkT (wK qa ps)) (U':=[.val b.t,.val r,.val (aD ps),.val (tkT (wK qa ps))]) rfl (by simp only [evE,aG,aB,Sl.get,bG,bH,bJ,bE,bF,aT,hr,e]) rfl];have ec:evE G (.cmp .isin (.cst .non) (.var 3)) (aB [.val b.t,.val r,.val (aD ps),.val (tkT (wK qa ps))])=some (.bl (eR (wK qa ps))):=by simp only [evE,aB,Sl.get,bG,bH,bJ,bE,bF,aT,bB,xH,fB]
 unfold woT;cases hN:eR (wK qa ps) with
 | true=>rw [hN] at ec;rw [fP rfl ec (cF (t:=.non) rfl (by rw [evE])),if_pos rfl];rfl
 | false=>rw [hN] at ec;rw [cQ rfl ec,cF (t:=tkT (wK qa ps)) rfl (by simp only [evE,aB,Sl.get,bG,bH,bJ,bE,bF]),if_neg (by simp)];rfl
theorem GC {α β:Type} (c:α->Bool) (f:α->β):∀ l:List α,(l.filterMap fun a=>if c a=true then some (f a) else none)=(l.filter c).map f
 | []=>rfl
 | a::l=>by rw [jD,iM,GC c f l];cases c a<;>rfl
theorem nN {G:Glo} {elt cond:E} {src:List E} {r:Env} {n:Nat} {α:Type} {enc:α->T} {R:List α} (c:α->Bool) (f:α->T) {xs:List T} (h1:aG G src r=some xs) (h2:cI .plain xs=some (R.map enc))
  (hb:∀ a∈R,∃ r',bnd n (enc a) r=some r'/\evE G cond r'=some (.bl (c a))/\(c a=true->evE G elt r'=some (f a))):evE G (.comp elt n .plain src (some cond)) r=some (.lst ((R.filter c).map f)):=by
 rw [wD,h1,bQ,h2,bQ,iW (enc:=enc) (fun a=>if c a=true then some (f a) else none) fun a ha=>by
  obtain ⟨r',e1,e2,e3⟩:=hb a ha;rw [e1,bQ,evO,e2,Option.map_some,bQ];cases hc:c a with
  | true=>rw [if_pos rfl];simp only [e3 hc,fB]
  | false=>rfl]
 rw [GC];rfl
theorem qD (R:List Row) (h4:R.length<=5):cI .plain [.tup (R.map aD)]=some (R.map aD):=by
 have hz:R.length<=16777216:=by lia
 simp [cI,items,hz]
noncomputable def eB (b:Tb) (r:T) (g:Str) (qa:List Str) (ps:Row):T:=.tup [.tup [.str b.nm,kyT b ps],r,.tup [.str g,tkT (wK qa ps)]]
noncomputable def ful (qa:List Str) (R:List Row):List Row:=R.filter fun ps=>!eR (wK qa ps)
theorem YG (qa:List Str) (ps:Row):bB .notN (woT qa ps) .non=some (.bl (!eR (wK qa ps))):=by unfold woT;cases eR (wK qa ps)<;>rfl
theorem YH (hw:P.fn "worths_of"=some gX) (hk:P.fn "key_of"=some mG) (hkr:P.fn "key_referred_to"=some nM) (h:P.fn "references_by"=some sR) (n:Nat) (hb:b.ok) {R:List Row} (h4R:R.length<=5) (hR:∀ ps∈R,RowOk b ps) (hc:∀ x∈qa,∃ c∈b.cs,c.n=x) (h4:qa.length<=4) {r:T} {g:Str} (hr:aK r (.int 1)=some (aZ qa)) (hr2:aK r (.int 2)=some (.str g)) :
  run P (n+3) "references_by" [b.t,r,.tup (R.map aD)]=some (.lst ((ful qa R).map (eB b r g qa))):=by
 rw [cE h rfl];have ek:∀ ps∈R,(glo P (run P (n+2))).call "key_of" [b.t,aD ps]=some (kyT b ps):=fun ps hp=>oW hw hk n hb (hR ps hp);have er:∀ ps∈R,(glo P (run P (n+2))).call "key_referred_to" [b.t,r,aD ps]=some (woT qa ps):=fun ps hp=>YF hw hkr n hb (hR ps hp) hc h4 hr;show aY (aE (glo P (run P (n+2))) xD [.val b.t,.val r,.val (.tup (R.map aD)),.no,.no,.no])=_;unfold xD;generalize glo P (run P (n+2))=G at *;rw [bC (t:=.lst []) (U':=[.val b.t,.val r,.val (.tup (R.map aD)),.own [],.no,.no]) rfl (by rw [evE];rfl) rfl];obtain ⟨U',el,s4,s5,rfl⟩:=fW (enc:=aD) (f:=fun x U=>(bD [4] x U).bind fun U'=>aE G rbB U')
  (fun done U=>∃ s4 s5,U=[.val b.t,.val r,.val (.tup (R.map aD)),.own ((ful qa done).map (eB b r g qa)),s4,s5])
  R [.val b.t,.val r,.val (.tup (R.map aD)),.own [],.no,.no] ⟨_,_,rfl⟩ (by
   rintro l1 ps l2 hsp U ⟨s4,s5,rfl⟩;have hm:ps∈R:=by rw [hsp];simp
   refine ⟨[.val b.t,.val r,.val (.tup (R.map aD)),.own ((ful qa (l1++[ps])).map (eB b r g qa)),.val (aD ps),.val (woT qa ps)],?_,_,_,rfl⟩;simp only [bD,aT,jP,jQ];unfold rbB;rw [bC (t:=woT qa ps) (U':=[.val b.t,.val r,.val (.tup (R.map aD)),.own ((ful qa l1).map (eB b r g qa)),.val (aD ps),.val (woT qa ps)]) rfl (by simp only [evE,aG,aB,Sl.get,bG,bH,bJ,bE,bF,aT,er ps hm]) rfl];have ec:evE G (.cmp .notN (.var 5) (.cst .non)) (aB [.val b.t,.val r,.val (.tup (R.map aD)),.own ((ful qa l1).map (eB b r g qa)),.val (aD ps),.val (woT qa ps)])=some (.bl (!eR (wK qa ps))):=by simp only [evE,aB,Sl.get,bG,bH,bJ,bE,bF,aT,YG]
   have ef:ful qa (l1++[ps])=ful qa l1++if eR (wK qa ps)=true then [] else [ps]:=by unfold ful;rw [List.filter_append,iM];cases eR (wK qa ps)<;>rfl
   rw [ef];cases hN:eR (wK qa ps) with
   | true =>rw [hN] at ec;rw [cQ rfl ec,aE,if_pos rfl,eO]
   | false =>
    rw [hN] at ec;have hl:((ful qa l1).map (eB b r g qa)).length<SZ:=by have h1:=aW List.length hsp;have h2:(ful qa l1).length<=l1.length:=nX _ _;simp at h1;rw [bA];show _<16777216;lia
    have ew:woT qa ps=tkT (wK qa ps):=by unfold woT;rw [hN];rfl
    rw [if_neg (by simp),List.map_append];rw [nL (U':=[.val b.t,.val r,.val (.tup (R.map aD)),.own ((ful qa l1).map (eB b r g qa)++[eB b r g qa ps]),.val (aD ps),.val (woT qa ps)]) rfl ec (by
     rw [bP (U':=[.val b.t,.val r,.val (.tup (R.map aD)),.own ((ful qa l1).map (eB b r g qa)++[eB b r g qa ps]),.val (aD ps),.val (woT qa ps)]) (by
      rw [evS];have e1:evE G (.tup [.tup [.idx (.var 0) (.cst (.int 0)),.call "key_of" [.var 0,.var 4]],.var 1,.tup [.idx (.var 1) (.cst (.int 2)),.var 5]]) (aB [.val b.t,.val r,.val (.tup (R.map aD)),.own ((ful qa l1).map (eB b r g qa)),.val (aD ps),.val (woT qa ps)])=some (eB b r g qa ps):=by simp only [evE,aG,aB,Sl.get,bG,bH,bJ,bE,bF,aT,t0,hr2,ek ps hm,List.length_cons,List.length_nil,Nat.zero_add,Nat.reduceAdd,Nat.reduceLeDiff,if_true,fB,ew,eB]
      rw [show aQ (aJ (.tup [.tup [.idx (.var 0) (.cst (.int 0)),.call "key_of" [.var 0,.var 4]],.var 1,.tup [.idx (.var 1) (.cst (.int 2)),.var 5]])) [.val b.t,.val r,.val (.tup (R.map aD)),.own ((ful qa l1).map (eB b r g qa)),.val (aD ps),.val (woT qa ps)]=[.val b.t,.val r,.val (.tup (R.map aD)),.own ((ful qa l1).map (eB b r g qa)),.val (aD ps),.val (woT qa ps)] from rfl,e1,bQ];show (if ((ful qa l1).map (eB b r g qa)).length<SZ then _ else none)=_;rw [if_pos hl];rfl),aE]),aE]
    rfl)
 rw [bP (hJ (xs:=[.tup (R.map aD)]) (qc:=R.map aD) (U0:=[.val b.t,.val r,.val (.tup (R.map aD)),.own [],.no,.no]) rfl (by simp only [evE,aG,aB,Sl.get,bG,bH,bJ,bE,bF,aT]) rfl el)];rw [kE (t:=.lst ((ful qa R).map (eB b r g qa))) (by rw [evS,show aQ (aJ (.var 3)) [.val b.t,.val r,.val (.tup (R.map aD)),.own ((ful qa R).map (eB b r g qa)),s4,s5]=[.val b.t,.val r,.val (.tup (R.map aD)),.val (.lst ((ful qa R).map (eB b r g qa))),s4,s5] from rfl];simp only [evE,aB,Sl.get,bG,bH,bJ,bE,bF,fB])];rfl
theorem YI {qb:List (List Kt × T)} {k q:List Kt} {v:T}:((bV qb k v).any fun p=>decide (p.1=q))=((qb.any fun p=>decide (p.1=q))||decide (k=q)):=by
 unfold bV;split
 .rename_i h;have e:((qb.map fun kv=>if kv.1=k then (kv.1,v) else kv).any fun p=>decide (p.1=q))=qb.any fun p=>decide (p.1=q):=by rw [List.any_map];congr;funext p;show decide ((if p.1=k then (p.1,v) else p).1=q)=_;split<;>rfl
  rw [e];by_cases z:k=q
  .subst z;rw [h];rfl
  .simp [z]
 .rw [List.any_append,gJ,List.any_nil,Bool.or_false]
theorem xJ (q:List Kt):∀ (l acc:List (List Kt × T)),((l.foldl (fun acc p=>bV acc p.1 p.2) acc).any fun p=>decide (p.1=q))=((acc.any fun p=>decide (p.1=q))||l.any fun p=>decide (p.1=q))
 | [],acc=>by simp
 | p::l,acc=>by rw [List.foldl_cons,xJ q l,YI,gJ,Bool.or_assoc]
theorem GD (b:Tb):∀ R:List Row,lU (R.map fun ps=>.tup [kyT b ps,aD ps])=some (R.map fun ps=>(aO b ps,aD ps))
 | []=>rfl
 | ps::R=>by rw [aS,lU,GD b R];show ((gO ((aO b ps).map kT)).map fun k=>(k,aD ps)).bind _=_;rw [lE];rfl
noncomputable def dX (b:Tb) (R:List Row):T:=.dt ((dM (R.map fun ps=>(aO b ps,aD ps))).map (·.1)) ((dM (R.map fun ps=>(aO b ps,aD ps))).map (·.2))
theorem GE (b:Tb) {R:List Row} (h:R.length<=1000):bO .dict (.lst (R.map fun ps=>.tup [kyT b ps,aD ps]))=some (dX b R):=by have e:=GD b R;unfold dX;generalize (R.map fun ps=>T.tup [kyT b ps,aD ps])=X at *;simp only [bO,e];exact if_pos (by rw [bA];exact h)
noncomputable def gks (b:Tb) (R:List Row) (k:List Kt):Bool:=R.any fun ps=>decide (aO b ps=k)
theorem YJ (b:Tb) (R:List Row) (k:List Kt):inC (tkT k) (dX b R)=some (gks b R k):=by show (gO (k.map kT)).map _=_;rw [lE];show some _=some _;congr 1;dsimp only;rw [List.any_map];have:=xJ k (R.map fun ps=>(aO b ps,aD ps)) [];rw [List.any_nil,Bool.false_or,List.any_map] at this;exact this
theorem YK (hw:P.fn "worths_of"=some gX) (hk:P.fn "key_of"=some mG) (htb:P.fn "table_of"=some qA) (hro:P.fn "rows_of"=some qB) (h:P.fn "rows_by_key"=some oV) (n:Nat) {Z:List Zt} {z:Zt} (hz:z∈Z) (nd:(Z.map (·.1.nm)).Nodup) (hb:z.1.ok) (h4:z.2.length<=5) (hR:∀ ps∈z.2,RowOk z.1 ps) :
  run P (n+3) "rows_by_key" [aM Z,stT Z,.str z.1.nm]=some (dX z.1 z.2):=by
 rw [cE h rfl];have e1:(glo P (run P (n+2))).call "table_of" [aM Z,.str z.1.nm]=some z.1.t:=XW htb (n+1) hz nd;have e2:(glo P (run P (n+2))).call "rows_of" [aM Z,stT Z,.str z.1.nm]=some (rwT z):=wV hro (n+1) hz nd;have e3:∀ ps∈z.2,(glo P (run P (n+2))).call "key_of" [z.1.t,aD ps]=some (kyT z.1 ps):=fun ps hp=>oW hw hk n hb (hR ps hp);show aY (aE (glo P (run P (n+2))) oV.body [.val (aM Z),.val (stT Z),.val (.str z.1.nm),.no])=_;generalize glo P (run P (n+2))=G at *;unfold oV;dsimp only;rw [bC (t:=z.1.t) (U':=[.val (aM Z),.val (stT Z),.val (.str z.1.nm),.val z.1.t]) rfl (by simp only [evE,aG,aB,Sl.get,bG,bH,bJ,bE,bF,aT,e1]) rfl];rw [cF (t:=dX z.1 z.2) rfl (by
  rw [gG,jK];have s1:aG G [.call "rows_of" [.var 0,.var 1,.var 2]] (aB [.val (aM Z),.val (stT Z),.val (.str z.1.nm),.val z.1.t])=some [.tup (z.2.map aD)]:=by simp only [evE,aG,aB,Sl.get,bG,bH,bJ,bE,bF,aT,e2];rfl
  rw [s1,bQ,qD z.2 h4,bQ,kZ (fun ps=>.tup [kyT z.1 ps,aD ps]) fun ps hp=>by simp only [bnd,if_true,aT,evE,aG,aB,Sl.get,bG,bH,bJ,bE,bF,e3 ps hp,List.length_cons,List.length_nil,Nat.zero_add,Nat.reduceAdd,Nat.reduceLeDiff,fB]];exact GE z.1 (cG h4 (by decide)))]
 rfl
noncomputable def mH (g:Zt) (qa:List Str) (R:List Row):List Row:=R.filter fun ps=>!eR (wK qa ps)&&!gks g.1 g.2 (wK qa ps)
theorem YL (hw:P.fn "worths_of"=some gX) (hk:P.fn "key_of"=some mG) (hkr:P.fn "key_referred_to"=some nM) (htb:P.fn "table_of"=some qA) (hro:P.fn "rows_of"=some qB) (hbk:P.fn "rows_by_key"=some oV) (hrb:P.fn "references_by"=some sR) (h:P.fn "keys_referring_to_none"=some qC) (n:Nat)
  {Z:List Zt} (nd:(Z.map (·.1.nm)).Nodup) (hZ:∀ z∈Z,z.1.ok/\z.2.length<=5/\∀ ps∈z.2,RowOk z.1 ps) {z g:Zt} (hz:z∈Z) (hg:g∈Z) {qa:List Str} (hc:∀ x∈qa,∃ c∈z.1.cs,c.n=x) (h4:qa.length<=4) {w:Str} :
  run P (n+4) "keys_referring_to_none" [aM Z,stT Z,z.1.t,(Rl.ref qa g.1.nm w).t]=some (.lst ((mH g qa z.2).map (kyT z.1))):=by
 rw [cE h rfl];obtain ⟨hb,hl,hR⟩:=hZ z hz;obtain ⟨hgb,hgl,hgR⟩:=hZ g hg;have i1:aK (Rl.ref qa g.1.nm w).t (.int 1)=some (aZ qa):=by rw [Rl.t,aK,cN]
 have i2:aK (Rl.ref qa g.1.nm w).t (.int 2)=some (.str g.1.nm):=by rw [Rl.t,aK,gZ]
 have e1:(glo P (run P (n+3))).call "rows_by_key" [aM Z,stT Z,.str g.1.nm]=some (dX g.1 g.2):=YK hw hk htb hro hbk n hg nd hgb hgl hgR;have e2:(glo P (run P (n+3))).call "rows_of" [aM Z,stT Z,.str z.1.nm]=some (rwT z):=wV hro (n+2) hz nd;have e3:(glo P (run P (n+3))).call "references_by" [z.1.t,(Rl.ref qa g.1.nm w).t,rwT z]=some (.lst ((ful qa z.2).map (eB z.1 (Rl.ref qa g.1.nm w).t g.1.nm qa))):=YH hw hk hkr hrb n hb hl hR hc h4 i1 i2;show aY (aE (glo P (run P (n+3))) qC.body [.val (aM Z),.val (stT Z),.val z.1.t,.val (Rl.ref qa g.1.nm w).t,.no,.no])=_;generalize glo P (run P (n+3))=G at *;generalize (Rl.ref qa g.1.nm w).t=r at *;unfold qC;dsimp only;rw [bC (t:=dX g.1 g.2) (U':=[.val (aM Z),.val (stT Z),.val z.1.t,.val r,.val (dX g.1 g.2),.no]) rfl (by simp only [evE,aG,aB,Sl.get,bG,bH,bJ,bE,bF,aT,i2,e1]) rfl];rw [bC (t:=.lst ((ful qa z.2).map (eB z.1 r g.1.nm qa))) (U':=[.val (aM Z),.val (stT Z),.val z.1.t,.val r,.val (dX g.1 g.2),.val (.lst ((ful qa z.2).map (eB z.1 r g.1.nm qa)))]) rfl (by simp only [evE,aG,aB,Sl.get,bG,bH,bJ,bE,bF,aT,t0,e2,e3]) rfl];have hfl:(ful qa z.2).length<=5:=cG (nX _ _) hl;have ee:(ful qa z.2).filter (fun ps=>!gks g.1 g.2 (wK qa ps))=mH g qa z.2:=by unfold ful mH;rw [List.filter_filter];refine List.filter_congr fun ps _=>Bool.and_comm _ _
 rw [cF (t:=.lst ((mH g qa z.2).map (kyT z.1))) rfl (by
  rw [<- ee];refine nN (enc:=eB z.1 r g.1.nm qa) (fun ps=>!gks g.1 g.2 (wK qa ps)) (kyT z.1) (xs:=[.lst ((ful qa z.2).map (eB z.1 r g.1.nm qa))]) (by simp only [evE,aG,aB,Sl.get,bG,bH,bJ,bE,bF,aT]) (by
   have hz:(ful qa z.2).length<=16777216:=by lia
   simp [cI,items,hz]) fun ps _=>?_
  refine ⟨some (.tup [.str z.1.nm,kyT z.1 ps])::some r::some (.tup [.str g.1.nm,tkT (wK qa ps)])::aB [.val (aM Z),.val (stT Z),.val z.1.t,.val r,.val (dX g.1 g.2),.val (.lst ((ful qa z.2).map (eB z.1 r g.1.nm qa)))],rfl,?_,fun _=>?_⟩
  .simp only [evE,aB,Sl.get,bG,bH,bJ,bE,bF,aT,aK,cN,bB,YJ,fB]
  .simp only [evE,bE,bF,aT,aK,cN])]
 rfl
end
section
variable {qb:Qq} {U:List Sl} {i:Nat} {qa:List Str}
noncomputable def slL:Qq->Sl
 | []=>.dk []
 | p::r=>.dl (p::r)
theorem YM (h:qb≠[]):slL qb=.dl qb:=by cases qb with | nil=>exact absurd rfl h | cons _ _=>rfl
theorem YN (qb:Qq) (q:List Kt) (y:T):apP (sdP qb q) q y≠[]:=by
 unfold apP sdP;intro e;have e:=List.map_eq_nil_iff.mp e;split at e
 .rename_i h;rw [e] at h;cases h
 .simp at e
theorem YO {q:List Kt} (h3:U[i]?=some (slL qb)) (hd:qb=[]->U.any Sl.isDl=false) (hz:qb.length<SZ):sdS U i q=some (sdP qb q):=by
 unfold sdS;rw [h3];cases qb with
 | nil =>show (if (true&&!U.any Sl.isDl)=true then some [(q,([]:List T))] else none)=_;rw [hd rfl];rfl
 | cons p r =>show (if (p::r).length<SZ then some (sdP (p::r) q) else none)=_;rw [if_pos hz]
theorem YQ {G:Glo} {ke ve:E} {q:List Kt} {y:T} (hf:aQ (aJ ke++aJ ve) U=U) (h1:evE G ke (aB U)=some (tkT q)) (h2:evE G ve (aB U)=some y) (h3:U[i]?=some (slL qb)) (hd:qb=[]->U.any Sl.isDl=false) (hz:qb.length<SZ) (h4:∀ p∈qb,p.2.length<SZ) :
  evS G (.dapp i ke ve) U=some (.nx (U.set i (slL (apP (sdP qb q) q y)))):=by
 have hk:tkO (tkT q)=some q:=lE q;have ha:((sdP qb q).all fun p=>decide (p.2.length<SZ))=true:=by
  rw [lI];intro p hp;refine bX ?_;unfold sdP at hp;split at hp
  .exact h4 p hp
  .rcases oma hp with hp | hp
   .exact h4 p hp
   .rw [omg hp];exact Nat.zero_lt_succ _
 rw [evS,hf,h1,bQ,hk,bQ,YO h3 hd hz,bQ,h2,bQ,if_pos ha,YM (YN qb q y)]
theorem YR {G:Glo} {is:List Nat} {body:List S} (h3:U[i]?=some (slL qb)) (hd:qb=[]->U.any Sl.isDl=false) :
  evS G (.vloop is i body) U=cP (fun x U=>(bD is x U).bind fun U'=>aE G body U') (qb.map fun p=>T.lst p.2) (U.set i .no):=by
 rw [evS,h3];cases qb with
 | nil =>show (if (true&&!U.any Sl.isDl)=true then some (Out.nx (U.set i .no)) else none)=_;rw [hd rfl];rfl
 | cons p r=>rfl
noncomputable def lng (p:List Kt × List T):List T:=if 1<p.2.length then p.2 else []
theorem YS (h:∀ p∈qb,p.2.length<=5):(qb.flatMap lng).length<=5*qb.length:=by
 induction qb with
 | nil=>simp
 | cons p r ih =>
  rw [gI,dW,fS];have h1:=ih fun q hq=>h q (cL _ hq);have h2:(lng p).length<=5:=by
   have:=h p cW;unfold lng;split
   .exact this
   .simp
  lia
theorem GF {R:List Row} (h4:R.length<=5) (qa:List Str) (key:Row->T) (D:List (List Kt)):∀ p∈grp (wK qa) key R D,p.2.length<=5:=fun p hp=>by obtain ⟨q,_,rfl⟩:=omm hp;show ((cls (wK qa) R q).map key).length<=5;rw [bA];exact cG (nX _ _) h4
theorem YT (qa:List Str) (l1:List Row) (ps:Row):ful qa (l1++[ps])=ful qa l1++if eR (wK qa ps)=true then [] else [ps]:=by unfold ful;rw [List.filter_append,iM];cases eR (wK qa ps)<;>rfl
theorem GG {R:List Row}:(ful qa R).length<=R.length:=nX _ _
theorem YU {P:Pr} (hw:P.fn "worths_of"=some gX) (hk:P.fn "key_of"=some mG) (h:P.fn "keys_alike"=some xG) (n:Nat) {b:Tb} (hb:b.ok) {R:List Row} (h4R:R.length<=5) (hR:∀ ps∈R,RowOk b ps) (hc:∀ x∈qa,∃ c∈b.cs,c.n=x) (h4:qa.length<=4) {r:T} (hr:aK r (.int 1)=some (aZ qa)) :
  ∃ L:List Row,L.Perm (two (wK qa) (ful qa R))/\run P (n+3) "keys_alike" [b.t,r,.tup (R.map aD)]=some (.lst (L.map (kyT b))):=by
 have ek:∀ ps∈R,(glo P (run P (n+2))).call "key_of" [b.t,aD ps]=some (kyT b ps):=fun ps hp=>oW hw hk n hb (hR ps hp);have er:∀ ps∈R,(glo P (run P (n+2))).call "worths_of" [b.t,aD ps,aZ qa]=some (tkT (wK qa ps)):=fun ps hp=>xI hw (n+1) hb (hR ps hp) hc h4;rw [cE h rfl];show ∃ L:List Row,_/\aY (aE (glo P (run P (n+2))) xF [.val b.t,.val r,.val (.tup (R.map aD)),.no,.no,.no,.no,.no])=_;unfold xF;generalize glo P (run P (n+2))=G at *;obtain ⟨U',el,D,s4,s5,rfl,nd,cov,hDl,n4,n5⟩:=fW (enc:=aD) (f:=fun x U=>(bD [4] x U).bind fun U'=>aE G kaB U')
  (fun done U=>∃ D s4 s5,U=[.val b.t,.val r,.val (.tup (R.map aD)),slL (grp (wK qa) (kyT b) (ful qa done) D),s4,s5,.no,.no]/\D.Nodup/\(∀ x∈ful qa done,wK qa x∈D)/\D.length<=done.length/\s4.isDl=false/\s5.isDl=false)
  R [.val b.t,.val r,.val (.tup (R.map aD)),.dk [],.no,.no,.no,.no] ⟨[],.no,.no,rfl,gK,(fun x hx=>by cases hx),aV _,rfl,rfl⟩ (by
   rintro l1 ps l2 hsp U ⟨D,s4,s5,rfl,nd,cov,hDl,n4,n5⟩;have hm:ps∈R:=by rw [hsp];simp
   have hl1:l1.length<=5:=by have h1:=aW List.length hsp;simp at h1;lia
   have hfl:(ful qa l1).length<=5:=cG GG hl1;generalize hK:grp (wK qa) (kyT b) (ful qa l1) D=qb;have hkl:qb.length<=5:=by rw [<- hK];unfold grp;rw [bA];lia
   simp only [bD,aT,jP,jQ];unfold kaB;have s1:∀ ss,aE G (.asg 5 (.call "worths_of" [.var 0,.var 4,.idx (.var 1) (.cst (.int 1))])::ss) [.val b.t,.val r,.val (.tup (R.map aD)),slL qb,.val (aD ps),s5,.no,.no]=aE G ss [.val b.t,.val r,.val (.tup (R.map aD)),slL qb,.val (aD ps),.val (tkT (wK qa ps)),.no,.no]:=fun ss =>bC (t:=tkT (wK qa ps)) rfl (by simp only [evE,aG,aB,Sl.get,bG,bH,bJ,bE,bF,aT,hr,er ps hm]) rfl;rw [s1,YT];have ec:evE G (.cmp .notin (.cst .non) (.var 5)) (aB [.val b.t,.val r,.val (.tup (R.map aD)),slL qb,.val (aD ps),.val (tkT (wK qa ps)),.no,.no])=some (.bl (!eR (wK qa ps))):=by simp only [evE,aB,Sl.get,bG,bH,bJ,bE,bF,aT,bB,xH,fB]
   cases hN:eR (wK qa ps) with
   | true =>
    rw [hN] at ec;refine ⟨_,(cQ rfl ec).trans (by rw [aE]),D,.val (aD ps),.val (tkT (wK qa ps)),?_,nd,?_,?_,rfl,rfl⟩
    .rw [if_pos rfl,eO,hK]
    .rw [if_pos rfl,eO];exact cov
    .rw [dW];lia
   | false =>
    rw [hN] at ec;obtain ⟨D',nd',cov',hD',eg⟩:=YD (wK qa) (kyT b) nd cov ps;rw [hK] at eg;have e4:=YQ (G:=G) (i:=3) (ke:=.var 5) (ve:=.call "key_of" [.var 0,.var 4]) (q:=wK qa ps) (y:=kyT b ps) (qb:=qb) (U:=[.val b.t,.val r,.val (.tup (R.map aD)),slL qb,.val (aD ps),.val (tkT (wK qa ps)),.no,.no]) rfl
     (by simp only [evE,aB,Sl.get,bG,bH,bJ,bE,bF]) (by simp only [evE,aG,aB,Sl.get,bG,bH,bJ,bE,bF,aT,ek ps hm]) rfl (fun z=>by rw [z];rfl) (by show _<16777216;lia) (fun p hp=>by have:=GF hfl qa (kyT b) D p (by rw [hK];exact hp);show _<16777216;lia)
    rw [eg] at e4;refine ⟨_,(nL rfl ec (by rw [bP e4,aE])).trans (by rw [aE]),D',.val (aD ps),.val (tkT (wK qa ps)),?_,nd',?_,?_,rfl,rfl⟩
    .rw [if_neg (by simp)];rfl
    .rw [if_neg (by simp)];exact cov'
    .rw [dW,List.length_singleton];lia)
 have hfl:(ful qa R).length<=5:=cG GG h4R;have hgl:=GF hfl qa (kyT b) D;have hkl:(grp (wK qa) (kyT b) (ful qa R) D).length<=5:=by unfold grp;rw [bA];lia
 refine ⟨_,YB (wK qa) nd cov,?_⟩;rw [<- YE];generalize hK:grp (wK qa) (kyT b) (ful qa R) D=qb at *;rw [bP (s:=.dnew 3) (U':=[.val b.t,.val r,.val (.tup (R.map aD)),.dk [],.no,.no,.no,.no]) (by rw [evS];rfl)];rw [bP (hJ (xs:=[.tup (R.map aD)]) (qc:=R.map aD) (U0:=[.val b.t,.val r,.val (.tup (R.map aD)),.dk [],.no,.no,.no,.no]) rfl (by simp only [evE,aG,aB,Sl.get,bG,bH,bJ,bE,bF,aT]) rfl el)];rw [bC (t:=.lst []) (U':=[.val b.t,.val r,.val (.tup (R.map aD)),slL qb,s4,s5,.own [],.no]) rfl (by rw [evE];rfl) rfl];obtain ⟨U2,el2,s7,rfl⟩:=fW (enc:=fun p:List Kt × List T=>T.lst p.2) (f:=fun x U=>(bD [7] x U).bind fun U'=>aE G kaV U')
  (fun done U=>∃ s7,U=[.val b.t,.val r,.val (.tup (R.map aD)),.no,s4,s5,.own (done.flatMap lng),s7])
  qb [.val b.t,.val r,.val (.tup (R.map aD)),.no,s4,s5,.own [],.no] ⟨_,rfl⟩ (by
   rintro l1 p l2 hsp U ⟨s7,rfl⟩;have hp4:=hgl p (by rw [hsp];simp);have hl1:l1.length<=5:=by have h1:=aW List.length hsp;simp at h1;lia
   have hll:=YS (qb:=l1) fun q hq=>hgl q (by rw [hsp];simp [hq]);refine ⟨[.val b.t,.val r,.val (.tup (R.map aD)),.no,s4,s5,.own ((l1++[p]).flatMap lng),.val (.lst p.2)],?_,_,rfl⟩;simp only [bD,aT,jP,jQ];have ea:(l1++[p]).flatMap lng=l1.flatMap lng++lng p:=by rw [List.flatMap_append,gI,List.flatMap_nil,eO]
   rw [ea];unfold kaV;have ec:evE G (.cmp .gt (.blt .len (.var 7)) (.cst (.int 1))) (aB [.val b.t,.val r,.val (.tup (R.map aD)),.no,s4,s5,.own (l1.flatMap lng),.val (.lst p.2)])=some (.bl (decide ((1:Int)<(p.2.length:Int)))):=by simp only [evE,aB,Sl.get,bG,bH,bJ,bE,bF,aT,bO,bB]
   by_cases hq:1<p.2.length
   .rw [bX (by lia)] at ec;have hln:lng p=p.2:=by unfold lng;rw [if_pos hq]
    rw [hln];refine (nL (U':=[.val b.t,.val r,.val (.tup (R.map aD)),.no,s4,s5,.own (l1.flatMap lng++p.2),.val (.lst p.2)]) rfl ec ?_).trans (by rw [aE]);rw [bP (U':=[.val b.t,.val r,.val (.tup (R.map aD)),.no,s4,s5,.own (l1.flatMap lng++p.2),.val (.lst p.2)]) (by
     rw [evS,show aQ (aJ (.var 7)) [.val b.t,.val r,.val (.tup (R.map aD)),.no,s4,s5,.own (l1.flatMap lng),.val (.lst p.2)]=[.val b.t,.val r,.val (.tup (R.map aD)),.no,s4,s5,.own (l1.flatMap lng),.val (.lst p.2)] from rfl];have e7:evE G (.var 7) (aB [.val b.t,.val r,.val (.tup (R.map aD)),.no,s4,s5,.own (l1.flatMap lng),.val (.lst p.2)])=some (.lst p.2):=by simp only [evE,aB,Sl.get,bG,bH,bJ,bE,bF]
     rw [e7,bQ];show (if (l1.flatMap lng).length+p.2.length<=16777216 then _ else none)=_;rw [if_pos (by lia)];rfl),aE]
   .rw [dJ (by lia)] at ec;have hln:lng p=[]:=by unfold lng;rw [if_neg hq]
    rw [hln,eO];exact (cQ rfl ec).trans (by rw [aE]))
 rw [bP ((YR (qb:=qb) rfl fun z=>by subst z;show (false||(false||(false||(false||(s4.isDl||(s5.isDl||(false||(false||false))))))))=false;rw [n4,n5];rfl).trans el2)];rw [kE (t:=.lst (qb.flatMap lng)) (by rw [evS,show aQ (aJ (.var 6)) [.val b.t,.val r,.val (.tup (R.map aD)),.no,s4,s5,.own (qb.flatMap lng),s7]=[.val b.t,.val r,.val (.tup (R.map aD)),.no,s4,s5,.val (.lst (qb.flatMap lng)),s7] from rfl];simp only [evE,aB,Sl.get,bG,bH,bJ,bE,bF,fB])];rfl
theorem rw1:(("check":Str)=="check")=true/\(("unlike":Str)=="check")=false/\(("refers":Str)=="check")=false/\(("unlike":Str)=="unlike")=true/\(("refers":Str)=="unlike")=false/\(("unlike":Str)=="refers")=false/\(("refers":Str)=="refers")=true:=by decide +kernel
theorem YV (a:Option Bool):bB .notF (dB a) (.bl false)=some (.bl (!decide (a=some false))):=by rcases a with _ | _ | _<;>rfl
noncomputable def xK (t:Tst) (R:List Row):List Row:=R.filter fun ps=>decide (hv ps t=some false)
theorem YW {P:Pr} (hh:P.fn "holds"=some gD) (hwo:P.fn "worths_of"=some gX) (hcm:P.fn "compared"=some kB) (hop:P.fn "opposite"=some nJ) (hj:P.fn "joined"=some pS) (h:P.fn "is_kept"=some xC) (n:Nat) {b:Tb} (hb:b.ok) {ps:Row} (hp:RowOk b ps) {t:Tst} (hto:t.fit 3) (hti:t.inn b.cs) :
  run P (n+5) "is_kept" [b.t,aD ps,(Rl.chk t).t]=some (.bl (!decide (hv ps t=some false))):=by
 rw [cE h rfl];have eh:=XH hh hwo hcm hop hj (hp.len hb) (hp.nd hb) hp.wk (.str b.nm) (.tup (b.key.map .str)) (.tup (b.rs.map Rl.t)) 3 n t hto (by rw [hp.cs];exact hti);rw [<- hp.tab] at eh;have eh':(glo P (run P (n+4))).call "holds" [b.t,t.t,aD ps]=some (dB (hv ps t)):=eh;have i1:aK (Rl.chk t).t (.int 1)=some t.t:=by rw [Rl.t,aK,cN]
 show aY (aE (glo P (run P (n+4))) xB [.val b.t,.val (aD ps),.val (Rl.chk t).t])=_;unfold xB;generalize glo P (run P (n+4))=G at *;rw [cF (t:=.bl (!decide (hv ps t=some false))) rfl (by simp only [evE,aG,aB,Sl.get,bG,bH,bJ,bE,bF,aT,i1,eh',YV])];rfl
structure Prg (P:Pr):Prop where
 hh:P.fn "holds"=some gD
 hwo:P.fn "worths_of"=some gX
 hcm:P.fn "compared"=some kB
 hop:P.fn "opposite"=some nJ
 hj:P.fn "joined"=some pS
 htb:P.fn "table_of"=some qA
 hro:P.fn "rows_of"=some qB
 hk:P.fn "key_of"=some mG
 hkp:P.fn "is_kept"=some xC
 hkr:P.fn "key_referred_to"=some nM
 hbk:P.fn "rows_by_key"=some oV
 hrb:P.fn "references_by"=some sR
 hkn:P.fn "keys_referring_to_none"=some qC
 hka:P.fn "keys_alike"=some xG
 hkb:P.fn "keys_that_break"=some sS
structure Sto (Z:List Zt):Prop where
 l4:Z.length<=4
 nd:(Z.map (·.1.nm)).Nodup
 ok:∀ z∈Z,z.1.ok/\z.2.length<=5/\∀ ps∈z.2,RowOk z.1 ps
 fit:∀ z∈Z,∀ r∈z.1.rs,r.fits (Z.map (·.1.nm)) z.1.cs
 lr:(Z.map fun z=>z.1.rs.length).sum<=12
 pw:∀ z∈Z,(z.2.map (aO z.1)).Pairwise (fun x y=>bL x y=true)
inductive Brk (Z:List Zt) (z:Zt):Rl->List Row->Prop where
 | chk (t:Tst):Brk Z z (.chk t) (xK t z.2)
 | unl (qa:List Str):Brk Z z (.unl qa) (two (wK qa) (ful qa z.2))
 | ref (qa:List Str) (g:Zt) (w:Str) (hg:g∈Z):Brk Z z (.ref qa g.1.nm w) (mH g qa z.2)
theorem YX {P:Pr} (p:Prg P) (n:Nat) {Z:List Zt} (H:Sto Z) {z:Zt} (hz:z∈Z) {r:Rl} (hok:r.ok) (hfit:r.fits (Z.map (·.1.nm)) z.1.cs) {B:List Row} (hB:Brk Z z r B) :
  ∃ L:List Row,L.Perm B/\run P (n+6) "keys_that_break" [aM Z,stT Z,z.1.t,r.t]=some (.lst (L.map (kyT z.1))):=by
 obtain ⟨hb,h4,hR⟩:=H.ok z hz;have e1:(glo P (run P (n+5))).call "rows_of" [aM Z,stT Z,.str z.1.nm]=some (rwT z):=wV p.hro (n+4) hz H.nd;have body:∀ (i0:Str) (u:T),aK r.t (.int 0)=some (.str i0)->aE (glo P (run P (n+5))) (sS.body.drop 1) [.val (aM Z),.val (stT Z),.val z.1.t,.val r.t,.val (rwT z)]=some (.rt u)->run P (n+6) "keys_that_break" [aM Z,stT Z,z.1.t,r.t]=some u:=fun i0 u hi hu=>by rw [cE p.hkb rfl];show aY (aE (glo P (run P (n+5))) (.asg 4 (.call "rows_of" [.var 0,.var 1,.idx (.var 2) (.cst (.int 0))])::sS.body.drop 1) [.val (aM Z),.val (stT Z),.val z.1.t,.val r.t,.no])=_;rw [bC (t:=rwT z) (U':=[.val (aM Z),.val (stT Z),.val z.1.t,.val r.t,.val (rwT z)]) rfl (by simp only [evE,aG,aB,Sl.get,bG,bH,bJ,bE,bF,aT,t0,e1]) rfl,hu];rfl
 have test:∀ (i0 w:Str),aK r.t (.int 0)=some (.str i0)->evE (glo P (run P (n+5))) (.cmp .eq (.idx (.var 3) (.cst (.int 0))) (.cst (.str w))) (aB [.val (aM Z),.val (stT Z),.val z.1.t,.val r.t,.val (rwT z)])=some (.bl (i0==w)):=fun i0 w hi=>by simp only [evE,aB,Sl.get,bG,bH,bJ,bE,bF,aT,hi,bB,eqs]
 cases hB with
 | chk t =>
  have i0:aK (Rl.chk t).t (.int 0)=some (.str "check"):=by rw [Rl.t,aK,dR]
  refine ⟨_,.refl _,body "check" _ i0 (fP rfl ((test _ _ i0).trans (by rw [rw1.1])) (cF rfl ?_))⟩;have e2:∀ ps∈z.2,(glo P (run P (n+5))).call "key_of" [z.1.t,aD ps]=some (kyT z.1 ps):=fun ps hp=>oW p.hwo p.hk (n+3) hb (hR ps hp);have e3:∀ ps∈z.2,(glo P (run P (n+5))).call "is_kept" [z.1.t,aD ps,(Rl.chk t).t]=some (.bl (!decide (hv ps t=some false))):=fun ps hp=>YW p.hh p.hwo p.hcm p.hop p.hj p.hkp n hb (hR ps hp) hok.fit hfit;generalize glo P (run P (n+5))=G at *;refine nN (enc:=aD) (fun ps=>decide (hv ps t=some false)) (kyT z.1) (xs:=[.tup (z.2.map aD)]) (by simp only [evE,aG,aB,Sl.get,bG,bH,bJ,bE,bF,aT];rfl) (qD _ h4) fun ps hp=>?_;refine ⟨some (aD ps)::aB [.val (aM Z),.val (stT Z),.val z.1.t,.val (Rl.chk t).t,.val (rwT z)],rfl,?_,fun _=>?_⟩
  .simp only [evE,aG,aB,Sl.get,bG,bH,bJ,bE,bF,aT,e3 ps hp,gR,fB,Bool.not_not]
  .simp only [evE,aG,aB,Sl.get,bG,bH,bJ,bE,bF,aT,e2 ps hp]
 | unl qa =>
  have i0:aK (Rl.unl qa).t (.int 0)=some (.str "unlike"):=by rw [Rl.t,aK,dR]
  have i1:aK (Rl.unl qa).t (.int 1)=some (aZ qa):=by rw [Rl.t,aK,cN]
  obtain ⟨L,hL,e2⟩:=YU p.hwo p.hk p.hka (n+2) hb h4 hR hfit hok.2 i1;have e2':(glo P (run P (n+5))).call "keys_alike" [z.1.t,(Rl.unl qa).t,rwT z]=some (.lst (L.map (kyT z.1))):=e2;refine ⟨L,hL,body "unlike" _ i0 ((cQ rfl ((test _ _ i0).trans (by rw [rw1.2.1]))).trans (fP rfl ((test _ _ i0).trans (by rw [rw1.2.2.2.1])) (cF rfl ?_)))⟩;generalize glo P (run P (n+5))=G at *;simp only [evE,aG,aB,Sl.get,bG,bH,bJ,bE,bF,aT,e2']
 | ref qa g w hg =>
  have i0:aK (Rl.ref qa g.1.nm w).t (.int 0)=some (.str "refers"):=by rw [Rl.t,aK,dR]
  have e2:(glo P (run P (n+5))).call "keys_referring_to_none" [aM Z,stT Z,z.1.t,(Rl.ref qa g.1.nm w).t]=some (.lst ((mH g qa z.2).map (kyT z.1))):=YL p.hwo p.hk p.hkr p.htb p.hro p.hbk p.hrb p.hkn (n+1) H.nd H.ok hz hg hfit.1 hok.2.1;refine ⟨_,.refl _,body "refers" _ i0 ((cQ rfl ((test _ _ i0).trans (by rw [rw1.2.2.1]))).trans ((cQ rfl ((test _ _ i0).trans (by rw [rw1.2.2.2.2.1]))).trans (cF rfl ?_)))⟩;generalize glo P (run P (n+5))=G at *;simp only [evE,aG,aB,Sl.get,bG,bH,bJ,bE,bF,aT,e2]
end
section
theorem YY {P:Pr} (hn:P.fn "_law_names"=some nK) (h:P.fn "_law_worths"=some pU) (n:Nat) {b:Tb} (hb:b.ok) {ps:Row} (hp:RowOk b ps) {qa:List Str} (hc:∀ x∈qa,∃ c∈b.cs,c.n=x) (h4:qa.length<=4):run P (n+2) "_law_worths" [b.t,aD ps,aZ qa]=some (woT qa ps):=by
 obtain ⟨qs,q1,q2,q3,q4⟩:=GB hb hp hc;have hnd:=hp.nd hb;have hz:qs.length<=16777216:=by lia
 rw [cE h rfl];have cn:(glo P (run P (n+1))).call "_law_names" [b.t]=some (.lst (ps.map nmT)):=by rw [hp.tab];exact FG hn n ps (hp.len hb) _ _ _
 show aY (aE (glo P (run P (n+1))) pU.body [.val b.t,.val (aD ps),.val (aZ qa),.no])=_;generalize glo P (run P (n+1))=G at *;generalize b.t=X at *;unfold pU;dsimp only;rw [bC (t:=tkT (wK qa ps)) (U':=[.val X,.val (aD ps),.val (aZ qa),.val (tkT (wK qa ps))]) rfl (by
  rw [gG,jK];have s1:aG G [.var 2] (aB [Sl.val X,.val (aD ps),.val (aZ qa),.no])=some [.tup (qs.map nmT)]:=by simp only [evE,aG,aB,Sl.get,bG,bH,bJ,bE,bF,aT,aZ,q1]
  have s2:cI .plain [.tup (qs.map nmT)]=some (qs.map nmT):=by simp [cI,items,hz]
  rw [s1,bQ,s2,bQ,kZ (fun q=>q.2) fun q hq'=>by obtain ⟨i,e1,e2⟩:=wF (q2 q hq') hnd;simp only [bnd,if_true,aT,evE,aG,aB,Sl.get,bG,bH,bJ,bE,bF,cn];rw [show nmT q=.str q.1.n from rfl,e1];simp only [aT,aD,aK,e2,fB]];show some (T.tup (qs.map (·.2)))=_;rw [q4]) rfl]
 rw [cF (t:=woT qa ps) rfl (by
  simp only [evE,aG,aB,Sl.get,bG,bH,bJ,bE,bF,aT,bB,xH,fB,bO,List.length_cons,List.length_nil,Nat.zero_add,Nat.reduceAdd,Nat.reduceLeDiff,if_true];unfold woT;cases eR (wK qa ps) with
  | true=>rw [if_pos rfl,if_pos rfl,aK,cN]
  | false=>rw [if_neg (by simp),if_neg (by simp),aK,dR])]
 rfl
theorem GH {g:Zt}:∀ {Z:List Zt},g∈Z->(Z.map (·.1.nm)).Nodup->(Z.filter fun z=>z.1.nm==g.1.nm)=[g]
 | y::Z,h,nd=>by
  rw [aS] at nd;obtain ⟨n1,n2⟩:=cK.mp nd;rw [iM];by_cases e:y.1.nm=g.1.nm
  .rcases omc h with rfl | h
   .rw [if_pos (mO.mpr rfl),List.filter_eq_nil_iff.mpr fun z hz q=>n1 (cO.mpr ⟨z,hz,cV q⟩)]
   .exact absurd (cO.mpr ⟨g,h,e.symm⟩) n1
  .rw [if_neg (by simpa using e)];rcases omc h with rfl | h
   .exact absurd rfl e
   .exact GH h n2
theorem YZ {P:Pr} (h:P.fn "_law_table"=some vR) (n:Nat) {Z:List Zt} (H:Sto Z) {g:Zt} (hg:g∈Z):run P (n+1) "_law_table" [aM Z,.str g.1.nm]=some g.1.t:=by
 rw [cE h rfl];show aY (aE (glo P (run P n)) vQ [.val (aM Z),.val (.str g.1.nm)])=_;unfold vQ;generalize glo P (run P n)=G;have ec:=nN (G:=G) (elt:=.var 0) (cond:=.cmp .eq (.idx (.var 0) (.cst (.int 0))) (.var 2)) (src:=[.var 0]) (r:=aB [.val (aM Z),.val (.str g.1.nm)]) (n:=1) (enc:=fun z:Zt=>z.1.t) (R:=Z) (fun z=>z.1.nm==g.1.nm) (fun z=>z.1.t) (xs:=[aM Z]) (by
  simp only [evE,aG,aB,Sl.get,bG,bH,bE,bF,aT]) (by
  have hz:Z.length<=16777216:=by have:=H.l4;lia
  simp [cI,items,aM,hz]) fun z _=>⟨some z.1.t::aB [.val (aM Z),.val (.str g.1.nm)],rfl,by
   simp only [evE,aB,Sl.get,bG,bH,bJ,bE,bF,aT,t0,bB,eqs],fun _=>by
   simp only [evE,bE,bF]⟩
 rw [GH hg H.nd] at ec;rw [cF (t:=g.1.t) rfl (by rw [fX,ec,evE,bQ,bQ];show dA [g.1.t] 0=_;rw [dR])];rfl
theorem ZA {G:Glo} {a b:E} {r:Env} (h:evE G a r=some (.bl false)):evE G (.land a b) r=some (.bl false):=by rw [evE,h];rfl
theorem ZB {G:Glo} {a b:E} {r:Env} (h:evE G a r=some (.bl true)):evE G (.land a b) r=evE G b r:=by rw [evE,h];rfl
end
section
noncomputable def iA (Z:List Zt) (z:Zt):Rl->List Row
 | .chk t=>xK t z.2
 | .unl qa=>two (wK qa) (ful qa z.2)
 | .ref qa g _=>match Z.find? fun y=>y.1.nm==g with
  | some y=>mH y qa z.2
  | none=>[]
theorem mI {Z:List Zt} {z:Zt} {r:Rl} (hfit:r.fits (Z.map (·.1.nm)) z.1.cs):Brk Z z r (iA Z z r)/\(iA Z z r).Sublist z.2:=by
 cases r with
 | chk t=>exact ⟨.chk t,List.filter_sublist⟩
 | unl qa=>exact ⟨.unl qa,List.filter_sublist.trans List.filter_sublist⟩
 | ref qa g w =>
  obtain ⟨_,hg⟩:=hfit;obtain ⟨g',hg',rfl⟩:=omm hg;rw [iA];cases e:Z.find? fun y=>y.1.nm==g'.1.nm with
  | none=>exact absurd (List.find?_eq_none.mp e g' hg') (by simp)
  | some y =>
   have h1:=List.mem_of_find?_eq_some e;have h2:y.1.nm=g'.1.nm:=by have:=List.find?_some e;exact cV this
   rw [<- h2];exact ⟨.ref qa y w h1,List.filter_sublist⟩
theorem lF:∀ {Z:List Zt} {z y:Zt},z∈Z->y∈Z->(Z.map (·.1.nm)).Nodup->z.1.nm=y.1.nm->z=y
 | a::Z,z,y,hz,hy,nd,e=>by
  rw [aS,cK] at nd;rcases omc hz with h1 | hz
  .rcases omc hy with h2 | hy
   .exact h1.trans h2.symm
   .exact absurd (cO.mpr ⟨y,hy,by rw [<- e,h1]⟩) nd.1
  .rcases omc hy with h2 | hy
   .exact absurd (cO.mpr ⟨z,hz,by rw [e,h2]⟩) nd.1
   .exact lF hz hy nd.2 e
noncomputable def trO (z:Zt) (j:Nat) (ps:Row):Tr:=⟨z.1.nm,j,aO z.1 ps⟩
noncomputable def iY (Z:List Zt) (z:Zt) (p:Rl × Nat):List Tr:=(iA Z z p.1).map (trO z p.2)
noncomputable def nP (Z:List Zt) (z:Zt):List Tr:=(z.1.rs.zipIdx 0).flatMap (iY Z z)
noncomputable def due (Z:List Zt):List Tr:=Z.flatMap (nP Z)
theorem xL {α β:Type} {f:α->List β} {n:Nat}:∀ {l:List α},(∀ a∈l,(f a).length<=n)->(l.flatMap f).length<=n*l.length
 | [],_=>by simp
 | a::l,h=>by have h1:=h a cW;have h2:=xL (l:=l) fun b hb=>h b (cL _ hb);rw [gI,dW,fS,Nat.mul_add,Nat.mul_one];lia
theorem jL {α:Type} {l:List α} {p:α × Nat} (h:p∈l.zipIdx 0):p.1∈l:=by have:=List.mem_zipIdx' h;rw [this.2];exact gH _
section
variable {Z:List Zt} (H:Sto Z)
include H
theorem GI {z:Zt} (hz:z∈Z) {p:Rl × Nat} (hp:p.1∈z.1.rs):(iY Z z p).length<=5:=by rw [iY,bA];exact cG (mI (H.fit z hz _ hp)).2.length_le (H.ok z hz).2.1
theorem ZC {z:Zt} (hz:z∈Z):(nP Z z).length<=5*z.1.rs.length:=by have h1:=xL (f:=iY Z z) (n:=5) (l:=z.1.rs.zipIdx 0) fun p hp=>GI H hz (jL hp);rw [List.length_zipIdx] at h1;exact h1
theorem xM:∀ {l:List Zt},(∀ z∈l,z∈Z)->(l.flatMap (nP Z)).length<=5*(l.map fun z=>z.1.rs.length).sum
 | [],_=>by simp
 | z::l,h=>by have h1:=ZC H (h z cW);have h2:=xM (l:=l) fun y hy=>h y (cL _ hy);rw [gI,dW,aS,sZ];lia
theorem GJ:(due Z).length<=60:=by have h1:=xM H (l:=Z) fun z hz=>hz;have h2:=H.lr;unfold due;lia
theorem ZD {l1 l2:List Zt} {z:Zt} (e:Z=l1++z::l2):(l1.flatMap (nP Z)).length<=60:=by
 have h1:=xM H (l:=l1) fun y hy=>by rw [e];simp [hy]
 have h2:=H.lr;rw [e,eP,List.sum_append,aS,sZ] at h2;lia
theorem xN {z:Zt} (hz:z∈Z) {p:Rl × Nat} (hp:p.1∈z.1.rs) {x:Tr} (hx:x∈iY Z z p):x.nm=z.1.nm/\x.j=p.2/\∃ ps∈z.2,x.k=aO z.1 ps:=by obtain ⟨ps,h1,rfl⟩:=omm hx;exact ⟨rfl,rfl,ps,(mI (H.fit z hz _ hp)).2.subset h1,rfl⟩
theorem sT {z:Zt} (hz:z∈Z) {x:Tr} (hx:x∈nP Z z):x.nm=z.1.nm/\∃ ps∈z.2,x.k=aO z.1 ps:=by obtain ⟨p,hp,hx⟩:=jC.mp hx;obtain ⟨h1,_,h2⟩:=xN H hz (jL hp) hx;exact ⟨h1,h2⟩
theorem ZE:TrOk (due Z):=by
 refine ⟨cG (GJ H) (by lia),?_,fun x hx y hy e=>?_⟩
 .refine List.pairwise_flatMap.mpr ⟨fun z hz=>List.pairwise_flatMap.mpr ⟨fun p hp=>?_,?_⟩,?_⟩
  .refine List.pairwise_map.mpr ?_;have h1:(iA Z z p.1).Pairwise fun a b=>bL (aO z.1 a) (aO z.1 b)=true:=(List.pairwise_map.mp (H.pw z hz)).sublist (mI (H.fit z hz _ (jL hp))).2;refine List.Pairwise.imp ?_ h1;intro a b hab e;have ek:aO z.1 a=aO z.1 b:=aW Tr.k e;rw [ek,nH] at hab;cases hab
  .have h1:(z.1.rs.zipIdx 0).Pairwise fun a b=>a.2≠b.2:=by have:=List.nodup_range' (s:=0) (n:=z.1.rs.length);rw [<- List.zipIdx_map_snd] at this;exact List.pairwise_map.mp this
   refine List.Pairwise.imp_of_mem (fun {a b} ha hb hab x hx y hy e=>hab ?_) h1;rw [<- (xN H hz (jL ha) hx).2.1,<- (xN H hz (jL hb) hy).2.1,e]
  .refine List.Pairwise.imp_of_mem (fun {a b} ha hb hab x hx y hy e=>hab ?_) (List.pairwise_map.mp H.nd);rw [<- (sT H ha hx).1,<- (sT H hb hy).1,e]
 .obtain ⟨z,hz,hx⟩:=jC.mp hx;obtain ⟨y',hy',hy⟩:=jC.mp hy;obtain ⟨n1,ps,hp,k1⟩:=sT H hz hx;obtain ⟨n2,qs,hq,k2⟩:=sT H hy' hy;have ez:z=y':=lF hz hy' H.nd (by rw [<- n1,<- n2,e]);subst ez;rw [k1,k2];obtain ⟨hb,_,hR⟩:=H.ok z hz;exact wQ hb (hR ps hp) (hR qs hq)
end
theorem sum3:∀ {l:List Zt},l.length<=4->(∀ z∈l,z.1.rs.length<=3)->(l.map fun z=>z.1.rs.length).sum<=3*l.length
 | [],_,_=>by simp
 | z::l,h4,h=>by rw [fS] at h4;have h1:=h z cW;have h2:=sum3 (l:=l) (by lia) fun y hy=>h y (cL _ hy);rw [aS,sZ,fS];lia
theorem ZF {Z:List Zt} (h4:Z.length<=4) (nd:(Z.map (·.1.nm)).Nodup) (hSo:∀ b∈Z.map (·.1),b.ok) (hSf:∀ b∈Z.map (·.1),b.rs.length<=3/\∀ r∈b.rs,r.fits ((Z.map (·.1)).map (·.nm)) b.cs) (hZ:∀ z∈Z,z.2.length<=5/\(∀ ps∈z.2,RowOk z.1 ps)/\(z.2.map (aO z.1)).Pairwise (fun x y=>bL x y=true)):Sto Z:=by
 refine ⟨h4,nd,fun z hz=>⟨hSo z.1 (cO.mpr ⟨z,hz,rfl⟩),(hZ z hz).1,(hZ z hz).2.1⟩,fun z hz r hr=>?_,?_,fun z hz=>(hZ z hz).2.2⟩
 .have:=(hSf z.1 (cO.mpr ⟨z,hz,rfl⟩)).2 r hr;rw [cH] at this;exact this
 .have:=sum3 h4 fun z hz=>(hSf z.1 (cO.mpr ⟨z,hz,rfl⟩)).1;lia
noncomputable def bkM:List S:=[.loop [6] .plain [.call "keys_that_break" [.var 0,.var 1,.var 3,.var 5]] bkI]
noncomputable def bkO:List S:=[.loop [4,5] .enum [.idx (.var 3) (.cst (.int 3))] bkM]
theorem ZG {G:Glo} {St Sr r:T} {z:Zt} {j:Nat} {L:List Row} (hL:L.length<=5) (X:List Tr) (hX:X.length<=100) (s6:Sl) (hc:G.call "keys_that_break" [St,Sr,z.1.t,r]=some (.lst (L.map (kyT z.1)))) :
  ∃ s6',aE G bkM [.val St,.val Sr,.own (X.map trT),.val z.1.t,.val (.int (j:Int)),.val r,s6]=some (.nx [.val St,.val Sr,.own ((X++L.map (trO z j)).map trT),.val z.1.t,.val (.int (j:Int)),.val r,s6']):=by
 obtain ⟨U',el,s6',rfl⟩:=fW (enc:=kyT z.1) (f:=fun x U=>(bD [6] x U).bind fun U'=>aE G bkI U')
  (fun done U=>∃ s6,U=[.val St,.val Sr,.own ((X++done.map (trO z j)).map trT),.val z.1.t,.val (.int (j:Int)),.val r,s6])
  L [.val St,.val Sr,.own (X.map trT),.val z.1.t,.val (.int (j:Int)),.val r,s6] ⟨s6,by rw [List.map_nil,eO]⟩ (by
   rintro l1 ps l2 hsp U ⟨s6,rfl⟩;have hl:((X++l1.map (trO z j)).map trT).length<SZ:=by have h1:=aW List.length hsp;simp at h1;rw [bA,dW,bA];show _<16777216;lia
   refine ⟨[.val St,.val Sr,.own ((X++(l1++[ps]).map (trO z j)).map trT),.val z.1.t,.val (.int (j:Int)),.val r,.val (kyT z.1 ps)],?_,_,rfl⟩;simp only [bD,aT,jP,jQ];have ee:(X++(l1++[ps]).map (trO z j)).map trT=(X++l1.map (trO z j)).map trT++[trT (trO z j ps)]:=by rw [eP (f:=trO z j),<- kH,eP (l₁:=X++l1.map (trO z j))];rfl
   rw [ee];generalize (X++l1.map (trO z j)).map trT=Y at *;unfold bkI;rw [bP (U':=[.val St,.val Sr,.own (Y++[trT (trO z j ps)]),.val z.1.t,.val (.int (j:Int)),.val r,.val (kyT z.1 ps)]) (by
    rw [evS,show aQ (aJ (.tup [.idx (.var 3) (.cst (.int 0)),.var 4,.var 6])) [.val St,.val Sr,.own Y,.val z.1.t,.val (.int (j:Int)),.val r,.val (kyT z.1 ps)]=[.val St,.val Sr,.own Y,.val z.1.t,.val (.int (j:Int)),.val r,.val (kyT z.1 ps)] from rfl];have e1:evE G (.tup [.idx (.var 3) (.cst (.int 0)),.var 4,.var 6]) (aB [.val St,.val Sr,.own Y,.val z.1.t,.val (.int (j:Int)),.val r,.val (kyT z.1 ps)])=some (trT (trO z j ps)):=by simp only [evE,aG,aB,Sl.get,bG,bH,bJ,bE,bF,aT,t0,List.length_cons,List.length_nil,Nat.zero_add,Nat.reduceAdd,Nat.reduceLeDiff,if_true,fB];rfl
    rw [e1,bQ];show (if Y.length<SZ then _ else none)=_;rw [if_pos hl];rfl),aE])
 refine ⟨s6',?_⟩;unfold bkM;rw [bP (hJ (xs:=[.lst (L.map (kyT z.1))]) (qc:=L.map (kyT z.1)) (U0:=[.val St,.val Sr,.own (X.map trT),.val z.1.t,.val (.int (j:Int)),.val r,s6]) rfl (by simp only [evE,aG,aB,Sl.get,bG,bH,bJ,bE,bF,aT,hc]) rfl el),aE]
theorem ZH {P:Pr} (p:Prg P) (h:P.fn "breaks"=some xE) (n:Nat) {Z:List Zt} (H:Sto Z):run P (n+7) "breaks" [aM Z,stT Z]=some (.tup (fU ((due Z).map trT))):=by
 rw [cE h rfl];have ek:∀ z∈Z,∀ r∈z.1.rs,∃ L:List Row,L.Perm (iA Z z r)/\(glo P (run P (n+6))).call "keys_that_break" [aM Z,stT Z,z.1.t,r.t]=some (.lst (L.map (kyT z.1))):=fun z hz r hr=>YX p n H hz ((H.ok z hz).1.rs r hr) (H.fit z hz r hr) (mI (H.fit z hz _ hr)).1;show aY (aE (glo P (run P (n+6))) [.asg 2 (.lst []),.loop [3] .plain [.var 0] bkO,.ret (.blt .toTuple (.blt .sorted (.var 2)))] [.val (aM Z),.val (stT Z),.no,.no,.no,.no,.no])=_;generalize glo P (run P (n+6))=G at *;rw [bC (t:=.lst []) (U':=[.val (aM Z),.val (stT Z),.own [],.no,.no,.no,.no]) rfl (by rw [evE];rfl) rfl];obtain ⟨U',el,X,s3,s4,s5,s6,rfl,hX⟩:=fW (enc:=fun z:Zt=>z.1.t) (f:=fun x U=>(bD [3] x U).bind fun U'=>aE G bkO U')
  (fun done U=>∃ (X:List Tr) (s3 s4 s5 s6:Sl),U=[.val (aM Z),.val (stT Z),.own (X.map trT),s3,s4,s5,s6]/\X.Perm (done.flatMap (nP Z)))
  Z [.val (aM Z),.val (stT Z),.own [],.no,.no,.no,.no] ⟨[],_,_,_,_,rfl,.refl _⟩ (by
   rintro l1 z l2 hsp U ⟨X,s3,s4,s5,s6,rfl,hX⟩;have hz:z∈Z:=by rw [hsp];simp
   have hXl:X.length<=60:=by rw [hX.length_eq];exact ZD H hsp
   obtain ⟨U',el,Y,s4',s5',s6',rfl,hY⟩:=fW (enc:=fun (p:Rl × Nat)=>T.tup [.int (p.2:Int),p.1.t]) (f:=fun x U=>(bD [4,5] x U).bind fun U'=>aE G bkM U')
    (fun done U=>∃ (Y:List Tr) (s4 s5 s6:Sl),U=[.val (aM Z),.val (stT Z),.own (Y.map trT),.val z.1.t,s4,s5,s6]/\Y.Perm (X++done.flatMap (iY Z z)))
    (z.1.rs.zipIdx 0) [.val (aM Z),.val (stT Z),.own (X.map trT),.val z.1.t,s4,s5,s6] ⟨X,_,_,_,rfl,by rw [List.flatMap_nil,eO]⟩ (by
     rintro m1 p m2 hsp2 U ⟨Y,s4,s5,s6,rfl,hY⟩;have hp:p∈z.1.rs.zipIdx 0:=by rw [hsp2];simp
     have hr:=jL hp;obtain ⟨L,hL,eL⟩:=ek z hz p.1 hr;have hLl:L.length<=5:=by rw [hL.length_eq];exact cG (mI (H.fit z hz _ hr)).2.length_le (H.ok z hz).2.1
     have hYl:Y.length<=100:=by rw [hY.length_eq,dW];have h1:=xL (f:=iY Z z) (n:=5) (l:=m1) fun q hq=>GI H hz (jL (by rw [hsp2];simp [hq]));have h2:=aW List.length hsp2;have h3:=(H.ok z hz).1.rl;simp at h2;lia
     obtain ⟨s6',e⟩:=ZG (j:=p.2) hLl Y hYl s6 eL;refine ⟨[.val (aM Z),.val (stT Z),.own ((Y++L.map (trO z p.2)).map trT),.val z.1.t,.val (.int (p.2:Int)),.val p.1.t,s6'],?_,Y++L.map (trO z p.2),_,_,_,rfl,?_⟩
     .simp only [bD,setAll,aT,jP,jQ];exact e
     .rw [List.flatMap_append,gI,List.flatMap_nil,eO,<- kH];exact hY.append (hL.map _))
   refine ⟨[.val (aM Z),.val (stT Z),.own (Y.map trT),.val z.1.t,s4',s5',s6'],?_,Y,_,_,_,_,rfl,?_⟩
   .simp only [bD,aT,jP,jQ];unfold bkO;rw [bP (hJ (xs:=[.tup (z.1.rs.map Rl.t)]) (qc:=(z.1.rs.zipIdx 0).map fun (p:Rl × Nat)=>T.tup [.int (p.2:Int),p.1.t]) (U0:=[.val (aM Z),.val (stT Z),.own (X.map trT),.val z.1.t,s4,s5,s6]) rfl (by simp only [evE,aG,aB,Sl.get,bG,bH,bJ,bE,bF,aT,t3]) (by simp only [items,pY]) el),aE]
   .rw [List.flatMap_append,gI,List.flatMap_nil,eO];exact hY.trans (hX.append_right _))
 rw [bP (hJ (xs:=[aM Z]) (qc:=Z.map fun z=>z.1.t) (U0:=[.val (aM Z),.val (stT Z),.own [],.no,.no,.no,.no]) rfl (by simp only [evE,aG,aB,Sl.get,bG,bH,bE,bF,aT]) rfl el)];obtain ⟨hok,he⟩:=(ZE H).perm (show (due Z).Perm X from hX.symm);rw [kE (t:=.tup (fU ((due Z).map trT))) (by
  rw [evS,show aQ (aJ (.blt .toTuple (.blt .sorted (.var 2)))) [.val (aM Z),.val (stT Z),.own (X.map trT),s3,s4,s5,s6]=[.val (aM Z),.val (stT Z),.val (.lst (X.map trT)),s3,s4,s5,s6] from rfl];rw [gG,gG];have e2:evE G (.var 2) (aB [.val (aM Z),.val (stT Z),.val (.lst (X.map trT)),s3,s4,s5,s6])=some (.lst (X.map trT)):=by simp only [evE,aB,Sl.get,bG,bH,bJ,bE,bF]
  rw [e2,bQ,hok.sorted,he];rfl)]
 rfl
end
section
noncomputable def fE (nm:Str) (k:List Kt) (z:Zt):Zt:=if z.1.nm=nm then (z.1,z.2.filter fun ps=>!decide (aO z.1 ps=k)) else z
noncomputable def les (nm:Str) (k:List Kt) (Z:List Zt):List Zt:=Z.map (fE nm k)
theorem lG (nm:Str) (k:List Kt) (z:Zt):(fE nm k z).1=z.1:=by unfold fE;split<;>rfl
theorem sU (nm:Str) (k:List Kt) (z:Zt):(fE nm k z).2.Sublist z.2:=by
 unfold fE;split
 .exact List.filter_sublist
 .exact List.Sublist.refl _
theorem xO (nm:Str) (k:List Kt) (Z:List Zt):(les nm k Z).map (·.1)=Z.map (·.1):=by unfold les;rw [cH];exact iZ fun z _=>lG nm k z
theorem GK {Z:List Zt} (H:Sto Z) (nm:Str) (k:List Kt):Sto (les nm k Z):=by
 have hn:(les nm k Z).map (·.1.nm)=Z.map (·.1.nm):=by have:=aW (List.map Tb.nm) (xO nm k Z);rw [cH,cH] at this;exact this
 have hr:((les nm k Z).map fun z=>z.1.rs.length)=Z.map fun z=>z.1.rs.length:=by have:=aW (List.map fun b:Tb=>b.rs.length) (xO nm k Z);rw [cH,cH] at this;exact this
 have hm:∀ {P:Zt->Prop},(∀ z∈Z,P (fE nm k z))->∀ z∈les nm k Z,P z:=fun h z hz=>by obtain ⟨y,hy,rfl⟩:=omm hz;exact h y hy
 refine ⟨by unfold les;rw [bA];exact H.l4,by rw [hn];exact H.nd,hm fun z hz=>?_,hm fun z hz=>?_,by rw [hr];exact H.lr,hm fun z hz=>?_⟩
 .obtain ⟨h1,h2,h3⟩:=H.ok z hz;rw [lG];exact ⟨h1,cG (sU nm k z).length_le h2,fun ps hp=>h3 ps ((sU nm k z).subset hp)⟩
 .rw [lG,hn];exact H.fit z hz
 .rw [lG];exact (H.pw z hz).sublist ((sU nm k z).map _)
theorem qE {Z:List Zt} {x:Tr}:x∈due Z↔∃ y∈Z,∃ p∈y.1.rs.zipIdx 0,∃ qs∈iA Z y p.1,x=trO y p.2 qs:=by
 constructor
 .intro h;obtain ⟨y,hy,h⟩:=jC.mp h;obtain ⟨p,hp,h⟩:=jC.mp h;obtain ⟨qs,hq,e⟩:=omm h;exact ⟨y,hy,p,hp,qs,hq,e.symm⟩
 .rintro ⟨y,hy,p,hp,qs,hq,rfl⟩;exact jC.mpr ⟨y,hy,jC.mpr ⟨p,hp,cO.mpr ⟨qs,hq,rfl⟩⟩⟩
theorem ZI {Z:List Zt} (H:Sto Z) {nm:Str} {k:List Kt} {x:Tr} (hx:x∈due (les nm k Z)):¬ (x.nm=nm/\x.k=k):=by
 rintro ⟨e1,e2⟩;obtain ⟨y,hy,p,hp,qs,hq,rfl⟩:=qE.mp hx;have hs:=(mI ((GK H nm k).fit y hy _ (jL hp))).2.subset hq;obtain ⟨z,hz,rfl⟩:=omm hy;have e3:z.1.nm=nm:=by rw [<- e1];show _=(fE nm k z).1.nm;rw [lG]
 have e4:aO z.1 qs=k:=by rw [<- e2];show _=aO (fE nm k z).1 qs;rw [lG]
 unfold fE at hs;rw [if_pos e3] at hs;have:=(iN.mp hs).2;rw [e4,bX rfl] at this;cases this
theorem ZJ {Z:List Zt} {nm:Str} {k:List Kt} {y:Zt} (hy:y∈les nm k Z) {p:Rl × Nat} (hp:p∈y.1.rs.zipIdx 0) {t:Tst} (e:p.1=.chk t) {qs:Row} (hq:qs∈iA (les nm k Z) y p.1):trO y p.2 qs∈due Z:=by obtain ⟨z,hz,rfl⟩:=omm hy;rw [e] at hq;obtain ⟨h1,h2⟩:=iN.mp (show qs∈xK t (fE nm k z).2 from hq);rw [lG] at hp;refine qE.mpr ⟨z,hz,p,hp,qs,?_,by unfold trO;rw [lG]⟩;rw [e];exact iN.mpr ⟨(sU nm k z).subset h1,h2⟩
theorem ZK {α κ:Type} [DecidableEq κ] {W:α->κ} {R:List α} {r:α} (h:r∈two W R):1<(two W R).length:=by
 have h1:=iF (iN.mp h).2;have e:(two W R).filter (fun x=>decide (W x=W r))=cls W R (W r):=by
  unfold two;rw [List.filter_filter];unfold cls;refine List.filter_congr fun x _=>?_;by_cases hx:W x=W r
  .rw [bX hx,hx,Bool.true_and];exact bX h1
  .rw [dJ hx,Bool.false_and]
 exact eJ h1 (e▸nX _ _)
end
section
theorem sV {Z:List Zt} (H:Sto Z) {z:Zt} (hz:z∈Z):(z.2.map (aO z.1)).Nodup:=List.Pairwise.imp (fun {a b} h e=>by rw [e,nH] at h;cases h) (H.pw z hz)
theorem xP {b:Tb} {R:List Row} (nd:(R.map (aO b)).Nodup) {x y:Row} (hx:x∈R) (hy:y∈R) (e:aO b x=aO b y):x=y:=by
 induction R with
 | nil=>cases hx
 | cons a l ih =>
  rw [aS,cK] at nd;rcases omc hx with a1 | a1
  .rcases omc hy with a2 | a2
   .rw [a1,a2]
   .exact absurd (cO.mpr ⟨y,a2,by rw [<- e,a1]⟩) nd.1
  .rcases omc hy with a2 | a2
   .exact absurd (cO.mpr ⟨x,a1,by rw [e,a2]⟩) nd.1
   .exact ih nd.2 a1 a2
theorem xQ {Z:List Zt} (H:Sto Z) {y:Zt} (hy:y∈Z) {p:Rl × Nat} (hp:p∈y.1.rs.zipIdx 0) {qa:List Str} {g:Zt} (hg:g∈Z) {w:Str} (e:p.1=.ref qa g.1.nm w) {qs:Row} (hq:qs∈y.2) :
  trO y p.2 qs∈due Z↔(!eR (wK qa qs)&&!gks g.1 g.2 (wK qa qs))=true:=by
 have hb:iA Z y p.1=mH g qa y.2:=by
  rw [e,iA];cases h:Z.find? fun z=>z.1.nm==g.1.nm with
  | none=>exact absurd (List.find?_eq_none.mp h g hg) (by simp)
  | some z =>have h2:=List.find?_some h;have:=lF (List.mem_of_find?_eq_some h) hg H.nd (cV h2);rw [this]
 constructor
 .intro h;obtain ⟨y',hy',h⟩:=jC.mp h;obtain ⟨p',hp',h⟩:=jC.mp h;obtain ⟨qs',hq',ee⟩:=omm h;have ey:=lF hy' hy H.nd (aW Tr.nm ee);subst ey;have ep:p'=p:=by have h1:=List.mem_zipIdx' hp';have h2:=List.mem_zipIdx' hp;have e2:p'.2=p.2:=aW Tr.j ee;refine Prod.ext ?_ e2;rw [h1.2,h2.2];congr 1
  subst ep;rw [hb] at hq';obtain ⟨h1,h2⟩:=iN.mp hq';have hk:aO y'.1 qs'=aO y'.1 qs:=aW Tr.k ee;have:qs'=qs:=xP (sV H hy') h1 hq hk;rw [<- this];exact h2
 .intro h;refine jC.mpr ⟨y,hy,jC.mpr ⟨p,hp,cO.mpr ⟨qs,?_,rfl⟩⟩⟩;rw [hb];exact iN.mpr ⟨hq,h⟩
noncomputable def eI (nm:Str) (R:List Row) (z:Zt):Zt:=if z.1.nm=nm then (z.1,R) else z
noncomputable def mor (nm:Str) (R:List Row) (Z:List Zt):List Zt:=Z.map (eI nm R)
theorem nQ (nm:Str) (R:List Row) (z:Zt):(eI nm R z).1=z.1:=by unfold eI;split<;>rfl
theorem GL (nm:Str) (R:List Row) (Z:List Zt):(mor nm R Z).map (·.1)=Z.map (·.1):=by unfold mor;rw [cH];exact iZ fun z _=>nQ nm R z
theorem GM {Z:List Zt} (H:Sto Z) {g:Zt} (hg:g∈Z) {R:List Row} (h5:R.length<=5) (hR:∀ ps∈R,RowOk g.1 ps) (hp:(R.map (aO g.1)).Pairwise fun x y=>bL x y=true):Sto (mor g.1.nm R Z):=by
 have hn:(mor g.1.nm R Z).map (·.1.nm)=Z.map (·.1.nm):=by have:=aW (List.map Tb.nm) (GL g.1.nm R Z);rw [cH,cH] at this;exact this
 have hr:((mor g.1.nm R Z).map fun z=>z.1.rs.length)=Z.map fun z=>z.1.rs.length:=by have:=aW (List.map fun b:Tb=>b.rs.length) (GL g.1.nm R Z);rw [cH,cH] at this;exact this
 have hm:∀ {P:Zt->Prop},(∀ z∈Z,P (eI g.1.nm R z))->∀ z∈mor g.1.nm R Z,P z:=fun h z hz=>by obtain ⟨y,hy,rfl⟩:=omm hz;exact h y hy
 have hc:∀ z∈Z,eI g.1.nm R z=(g.1,R)\/eI g.1.nm R z=z:=fun z hz=>by
  unfold eI;split
  .next e=>rw [lF hz hg H.nd e];exact .inl rfl
  .exact .inr rfl
 refine ⟨by unfold mor;rw [bA];exact H.l4,by rw [hn];exact H.nd,hm fun z hz=>?_,hm fun z hz=>?_,by rw [hr];exact H.lr,hm fun z hz=>?_⟩
 .rcases hc z hz with e | e
  .rw [e];exact ⟨(H.ok g hg).1,h5,hR⟩
  .rw [e];exact H.ok z hz
 .rw [nQ,hn];exact H.fit z hz
 .rcases hc z hz with e | e
  .rw [e];exact hp
  .rw [e];exact H.pw z hz
theorem ZL {Z:List Zt} (H:Sto Z) {g:Zt} (hg:g∈Z) {R:List Row} (h5:R.length<=5) (hR:∀ ps∈R,RowOk g.1 ps) (hpw:(R.map (aO g.1)).Pairwise fun x y=>bL x y=true) {m:Row} (hm:m∈R) (hsub:∀ ps∈R,ps∈g.2\/ps=m)
  {y:Zt} (hy:y∈Z) {p:Rl × Nat} (hp:p∈y.1.rs.zipIdx 0) {qa:List Str} {w:Str} (e:p.1=.ref qa g.1.nm w) {qs:Row} (hq:qs∈y.2) (hk:aO g.1 m=wK qa qs) (hd:trO y p.2 qs∈due Z):trO y p.2 qs∉due (mor g.1.nm R Z):=by
 intro hx;have H':=GM H hg h5 hR hpw;have hlost:=(xQ H hy hp hg e hq).mp hd;rw [bU,Bool.not_eq_true',Bool.not_eq_true'] at hlost;obtain ⟨y',hy',p',hp',qs',hq',ee⟩:=qE.mp hx;have hs:=(mI (H'.fit y' hy' _ (jL hp'))).2.subset hq';have hgm:(g.1,R)∈mor g.1.nm R Z:=cO.mpr ⟨g,hg,by unfold eI;rw [if_pos rfl]⟩;obtain ⟨z,hz,rfl⟩:=omm hy';have ez:z=y:=lF hz hy H.nd (by have:=aW Tr.nm ee;rw [show (trO y p.2 qs).nm=y.1.nm from rfl,show (trO (eI g.1.nm R z) p'.2 qs').nm=(eI g.1.nm R z).1.nm from rfl,nQ] at this;exact this.symm);subst ez;have ek:aO z.1 qs=aO z.1 qs':=by have:=aW Tr.k ee;rw [show (trO z p.2 qs).k=aO z.1 qs from rfl,show (trO (eI g.1.nm R z) p'.2 qs').k=aO (eI g.1.nm R z).1 qs' from rfl,nQ] at this;exact this
 have eq:qs'=qs:=by
  by_cases en:z.1.nm=g.1.nm
  .have eg:=lF hz hg H.nd en;subst eg;unfold eI at hs;rw [if_pos rfl] at hs;rcases hsub qs' hs with h | h
   .exact xP (sV H hz) h hq ek.symm
   .rw [h,hk] at ek;have:gks z.1 z.2 (wK qa qs)=true:=List.any_eq_true.mpr ⟨qs,hq,bX ek⟩;rw [this] at hlost;cases hlost.2
  .unfold eI at hs;rw [if_neg en] at hs;exact xP (sV H hz) hs hq ek.symm
 subst eq;have hp2:p∈(eI g.1.nm R z).1.rs.zipIdx 0:=by rw [nQ];exact hp
 have h1:=(xQ H' hy' hp2 hgm e hs).mp (by
  have:trO (eI g.1.nm R z) p.2 qs'=trO z p.2 qs':=by unfold trO;rw [nQ]
  rw [this];exact hx)
 rw [bU,Bool.not_eq_true',Bool.not_eq_true'] at h1;have:gks g.1 R (wK qa qs')=true:=List.any_eq_true.mpr ⟨m,hm,bX hk⟩;rw [show gks (g.1,R).1 (g.1,R).2 (wK qa qs')=gks g.1 R (wK qa qs') from rfl,this] at h1;cases h1.2
end
section
noncomputable def lsB:List S:=[.ite (.cmp .eq (.idx (.var 5) (.cst (.int 0))) (.var 2)) [.asg 6 (.blt .toTuple (.comp (.var 0) 1 .plain [.var 6] (some (.cmp .ne (.call "key_of" [.var 6,.var 0]) (.var 4)))))] [],
  .asg 4 (.bin .add (.var 4) (.tup [.var 6]))]
noncomputable def xR:Fd:=⟨4,7,[.asg 4 (.tup []),
  .loop [5,6] .zip [.var 0,.var 1] lsB,
  .ret (.var 4)]⟩
theorem aL {α β:Type} {f:α->Option β} {x:Option α} {a:α} (h:x=some a):x.bind f=f a:=by rw [h];rfl
theorem fK (G:Glo) (f:Str) (es:List E) (r:Env):evE G (.call f es) r=(aG G es r).bind fun xs=>G.call f xs:=by rw [evE]
theorem ZM {G:Glo} {Z:List Zt} (H:Sto Z) {z:Zt} (hz:z∈Z) {nm:Str} {k:List Kt} {A B:T} {X:List T} (hX:X.length<=100) (hc:∀ ps∈z.2,G.call "key_of" [z.1.t,aD ps]=some (kyT z.1 ps)) :
  aE G lsB [.val A,.val B,.val (.str nm),.val (tkT k),.val (.tup X),.val z.1.t,.val (rwT z)]=some (.nx [.val A,.val B,.val (.str nm),.val (tkT k),.val (.tup (X++[rwT (fE nm k z)])),.val z.1.t,.val (rwT (fE nm k z))]):=by
 have last:∀ R:T,aE G (lsB.drop 1) [.val A,.val B,.val (.str nm),.val (tkT k),.val (.tup X),.val z.1.t,.val R]=some (.nx [.val A,.val B,.val (.str nm),.val (tkT k),.val (.tup (X++[R])),.val z.1.t,.val R]):=fun R=>by refine (bC (t:=.tup (X++[R])) (U':=[.val A,.val B,.val (.str nm),.val (tkT k),.val (.tup (X++[R])),.val z.1.t,.val R]) rfl ?_ rfl).trans rfl;rw [evE];refine (aL (a:=T.tup X) rfl).trans ((aL (a:=T.tup [R]) rfl).trans ?_);show (if X.length+[R].length<=SZ then some (T.tup (X++[R])) else none)=_;rw [if_pos (by unfold SZ;simp;lia)]
 have he:evE G (.cmp .eq (.idx (.var 5) (.cst (.int 0))) (.var 2)) (aB [.val A,.val B,.val (.str nm),.val (tkT k),.val (.tup X),.val z.1.t,.val (rwT z)])=some (.bl (z.1.nm==nm)):=by rw [evE];exact (aL (a:=T.str z.1.nm) rfl).trans ((aL (a:=T.str nm) rfl).trans rfl)
 by_cases e:z.1.nm=nm
 .have el:fE nm k z=(z.1,z.2.filter fun ps=>!decide (aO z.1 ps=k)):=by unfold fE;rw [if_pos e]
  rw [el];refine (nL (U':=[.val A,.val B,.val (.str nm),.val (tkT k),.val (.tup X),.val z.1.t,.val (rwT (z.1,z.2.filter fun ps=>!decide (aO z.1 ps=k)))]) rfl (by rw [he,e,jN]) ?_).trans (last _);refine (bC (t:=rwT (z.1,z.2.filter fun ps=>!decide (aO z.1 ps=k))) (U':=[.val A,.val B,.val (.str nm),.val (tkT k),.val (.tup X),.val z.1.t,.val (rwT (z.1,z.2.filter fun ps=>!decide (aO z.1 ps=k)))]) rfl ?_ rfl).trans rfl;rw [gG];refine (aL (a:=T.lst ((z.2.filter fun ps=>!decide (aO z.1 ps=k)).map aD)) ?_).trans rfl;refine nN (enc:=aD) (fun ps=>!decide (aO z.1 ps=k)) aD (xs:=[rwT z]) rfl (qD z.2 (H.ok z hz).2.1) fun ps hp=>⟨some (aD ps)::[some A,some B,some (.str nm),some (tkT k),some (.tup X),some z.1.t,some (rwT z)],rfl,?_,fun _=>rfl⟩;rw [evE,fK];refine (aL (a:=kyT z.1 ps) ((aL (a:=[z.1.t,aD ps]) rfl).trans (hc ps hp))).trans ((aL (a:=tkT k) rfl).trans ?_);show neC (kyT z.1 ps) (tkT k)=_;unfold neC kyT;rw [sQ,if_pos (by decide),sP]
 .have el:fE nm k z=z:=by unfold fE;rw [if_neg e]
  rw [el];exact (cQ rfl (by rw [he,sY.mpr e])).trans (last _)
theorem ZN {P:Pr} (hw:P.fn "worths_of"=some gX) (hk:P.fn "key_of"=some mG) (h:P.fn "_law_less"=some xR) (n:Nat) {Z:List Zt} (H:Sto Z) (nm:Str) (k:List Kt) :
  run P (n+3) "_law_less" [aM Z,stT Z,.str nm,tkT k]=some (stT (les nm k Z)):=by
 rw [cE h rfl];have hc:∀ z∈Z,∀ ps∈z.2,(glo P (run P (n+2))).call "key_of" [z.1.t,aD ps]=some (kyT z.1 ps):=fun z hz ps hp=>oW hw hk n (H.ok z hz).1 ((H.ok z hz).2.2 ps hp);have h0:aE (glo P (run P (n+2))) [.asg 4 (.tup []),.loop [5,6] .zip [.var 0,.var 1] lsB,.ret (.var 4)] [.val (aM Z),.val (stT Z),.val (.str nm),.val (tkT k),.no,.no,.no]=some (.rt (stT (les nm k Z))):=by
  generalize glo P (run P (n+2))=G at *;refine (bC (t:=.tup []) (U':=[.val (aM Z),.val (stT Z),.val (.str nm),.val (tkT k),.val (.tup []),.no,.no]) rfl rfl rfl).trans ?_;obtain ⟨U',el,s5,s6,rfl⟩:=fW (enc:=fun z:Zt=>T.tup [z.1.t,rwT z]) (f:=fun x U=>(bD [5,6] x U).bind fun U'=>aE G lsB U')
   (fun done U=>∃ (s5 s6:Sl),U=[.val (aM Z),.val (stT Z),.val (.str nm),.val (tkT k),.val (.tup ((done.map (fE nm k)).map rwT)),s5,s6])
   Z [.val (aM Z),.val (stT Z),.val (.str nm),.val (tkT k),.val (.tup []),.no,.no] ⟨_,_,rfl⟩ (by
    rintro l1 z l2 hsp U ⟨s5,s6,rfl⟩;have hz:z∈Z:=by rw [hsp];simp
    have hX:((l1.map (fE nm k)).map rwT).length<=100:=by have h1:=aW List.length hsp;have h2:=H.l4;rw [bA,bA];simp at h1;lia
    refine ⟨_,ZM H hz hX (hc z hz),.val z.1.t,.val (rwT (fE nm k z)),?_⟩;rw [eP,eP];rfl)
  refine (bP (hJ (xs:=[aM Z,stT Z]) (qc:=Z.map fun y=>T.tup [y.1.t,rwT y]) (U0:=[.val (aM Z),.val (stT Z),.val (.str nm),.val (tkT k),.val (.tup []),.no,.no]) rfl rfl (by show some (dS (Z.map fun z=>z.1.t) (Z.map rwT))=_;rw [sO]) el)).trans ?_;exact cF rfl rfl
 exact (aW aY h0).trans rfl
theorem ZO (nm:Str) (k:List Kt) (Z:List Zt):aM (les nm k Z)=aM Z:=by unfold aM;have:=aW (List.map Tb.t) (xO nm k Z);rw [cH,cH] at this;exact aW T.tup this
end
section
theorem GN {α β:Type} {f:α->List β} {l:List α} {a:α} (h:a∈l):(f a).Sublist (l.flatMap f):=by obtain ⟨l1,l2,rfl⟩:=List.append_of_mem h;rw [List.flatMap_append,gI];exact (List.sublist_append_left _ _).trans (List.sublist_append_right _ _)
noncomputable def sW (Z:List Zt) (nm:Str) (j:Nat):Nat:=((due Z).filter fun x=>decide (x.nm=nm/\x.j=j)).length
theorem ZP {Z:List Zt} {y:Zt} (hy:y∈Z) {p:Rl × Nat} (hp:p∈y.1.rs.zipIdx 0) {qa:List Str} (e:p.1=.unl qa) {qs:Row} (hq:qs∈iA Z y p.1):1<sW Z y.1.nm p.2:=by
 have h1:(iY Z y p).Sublist (due Z):=(GN (f:=iY Z y) hp).trans (GN (f:=nP Z) hy);have h2:(iY Z y p).filter (fun x=>decide (x.nm=y.1.nm/\x.j=p.2))=iY Z y p:=List.filter_eq_self.mpr fun x hx=>by obtain ⟨qs,_,rfl⟩:=omm hx;exact bX ⟨rfl,rfl⟩
 have h3:=(h1.filter fun x=>decide (x.nm=y.1.nm/\x.j=p.2)).length_le;rw [h2] at h3;have h4:1<(iA Z y p.1).length:=by rw [e] at hq ⊢;exact ZK (show qs∈two (wK qa) (ful qa y.2) from hq)
 refine eJ h4 ?_;have h5:(iY Z y p).length=(iA Z y p.1).length:=bA _;unfold sW;lia
end
section
variable {qb:List (List Kt × T)}
theorem GO (a b:Tr):eqT (trT a) (trT b)=true↔a=b:=by obtain ⟨n,j,k⟩:=a;obtain ⟨n',j',k'⟩:=b;have h:eqT (trT ⟨n,j,k⟩) (trT ⟨n',j',k'⟩)=(n==n'&&(((j:Int)==(j':Int))&&(eqT (tkT k) (tkT k')&&true))):=rfl;rw [h,sP,Bool.and_true,bU,bU,mO,mO,decide_eq_true_iff,Tr.mk.injEq];exact ⟨fun ⟨h1,h2,h3⟩=>⟨h1,by lia,h3⟩,fun ⟨h1,h2,h3⟩=>⟨h1,by lia,h3⟩⟩
theorem ZQ (a b:Tr):dpP (trT a) (trT b)<=2:=by show max (dpP (.str a.nm) (.str b.nm)) (max (dpP (.int (a.j:Int)) (.int (b.j:Int))) (max (dpP (tkT a.k) (tkT b.k)) 0))+1<=2;rw [sQ];show max 0 (max 0 (max 1 0))+1<=2;decide
noncomputable def qF:T->Tr
 | .tup [.str a,.int j,.tup ks]=>⟨a,j.toNat,(gO ks).getD []⟩
 | _=>⟨"",0,[]⟩
theorem GP (x:Tr):qF (trT x)=x:=by show (⟨x.nm,((x.j:Int)).toNat,(gO (x.k.map kT)).getD []⟩:Tr)=x;rw [lE,xZ];rfl
noncomputable def ord (l:List Tr):List Tr:=(fU (l.map trT)).map qF
theorem xS (l:List Tr):(ord l).Perm l:=by have h:=(jH (l.map trT)).map qF;rw [cH,show qF∘trT=id from funext GP,List.map_id] at h;exact h
theorem ZR (l:List Tr):fU (l.map trT)=(ord l).map trT:=by unfold ord;rw [cH];refine ((iZ fun t ht=>?_).trans (List.map_id _)).symm;obtain ⟨x,_,rfl⟩:=omm ((jH (l.map trT)).subset ht);show trT (qF (trT x))=trT x;rw [GP]
theorem nR {x:Tr} {l:List Tr}:x∈ord l↔x∈l:=(xS l).mem_iff
noncomputable def sm (Z:List Zt):T:=.tup ((ord (due Z)).map trT)
open Classical in
theorem xU (x:Tr) (l:List Tr):inC (trT x) (.tup (l.map trT))=some (decide (x∈l)):=by
 have hd:dpI (trT x) (l.map trT)=true:=by unfold dpI;rw [List.all_map];exact lI.mpr fun y _=>bX (cG (ZQ y x) (by decide))
 show (if dpI (trT x) (l.map trT) then some ((l.map trT).any fun z=>eqT z (trT x)) else none)=_;rw [if_pos hd,List.any_map];refine aW some (Bool.eq_iff_iff.mpr ⟨fun h=>?_,fun h=>?_⟩)
 .obtain ⟨y,hy,e⟩:=List.any_eq_true.mp h;have:=(GO y x).mp e;subst this;exact bX hy
 .exact List.any_eq_true.mpr ⟨x,iF h,(GO x x).mpr rfl⟩
noncomputable def qT (x:Tr):List Kt:=[.inr (some x.nm),.inl (x.j:Int)]
noncomputable def cnQ (L:List Tr) (q:List Kt):Nat:=(L.filter fun x=>decide (qT x=q)).length
theorem GQ {k:List Kt} {v:T} {q:List Kt}:∀ {qb:List (List Kt × T)},eF (qb.map fun kv=>if kv.1=k then (kv.1,v) else kv) q=if k=q then (if (qb.any fun kv=>decide (kv.1=k))=true then some v else none) else eF qb q
 | []=>by simp [eF]
 | p::r=>by
  rw [aS,eF,gJ,eF,GQ (qb:=r)];by_cases e:p.1=k
  .rw [if_pos e];by_cases f:k=q
   .rw [if_pos (show (p.1,v).1=q from e.trans f),if_pos f,bX e,Bool.true_or,if_pos rfl]
   .rw [if_neg (show ¬ (p.1,v).1=q from fun z=>f (e▸z)),if_neg f,if_neg f,if_neg fun z=>f (e▸z)]
  .rw [if_neg e,dJ e,Bool.false_or];by_cases f:k=q
   .rw [if_neg fun z=>e (z.trans f.symm),if_pos f,if_pos f]
   .rw [if_neg f,if_neg f]
theorem GR {k:List Kt} {v:T} {q:List Kt}:∀ {qb:List (List Kt × T)},(qb.any fun kv=>decide (kv.1=k))=false->eF (qb++[(k,v)]) q=if k=q then some v else eF qb q
 | [],_=>rfl
 | p::r,h=>by
  rw [gJ,Bool.or_eq_false_iff] at h;rw [List.cons_append,eF,eF,GR h.2];by_cases e:p.1=q
  .rw [if_pos e,if_pos e,if_neg fun z=>of_decide_eq_false h.1 (e.trans z.symm)]
  .rw [if_neg e,if_neg e]
theorem ZT {k:List Kt} {v:T} {q:List Kt}:eF (bV qb k v) q=if k=q then some v else eF qb q:=by
 unfold bV;cases h:qb.any fun kv=>decide (kv.1=k) with
 | true=>rw [if_pos rfl,GQ,h,if_pos rfl]
 | false=>rw [if_neg dI,GR h]
theorem GS {q:List Kt}:∀ {qb:List (List Kt × T)},fG (qb.map (·.1)) (qb.map (·.2)) q=eF qb q
 | []=>rfl
 | p::r=>by rw [aS,aS,fG,eF,GS (qb:=r)]
structure Cn (L:List Tr) (qb:List (List Kt × T)):Prop where
 vl:∀ q,(eF qb q).getD (.int 0)=.int (cnQ L q:Int)
 ky:∀ p∈qb,∃ x∈L,p.1=qT x
 ln:qb.length<=L.length
theorem ZU:Cn [] []:=⟨fun q=>rfl,fun p h=>(nomatch h),aV _⟩
theorem Cn.put {L:List Tr} (h:Cn L qb) (x:Tr):Cn (L++[x]) (bV qb (qT x) (.int ((cnQ L (qT x):Int)+1))):=by
 refine ⟨fun q=>?_,fun p hp=>?_,?_⟩
 .have ec:cnQ (L++[x]) q=cnQ L q+if qT x=q then 1 else 0:=by
   unfold cnQ;rw [List.filter_append,dW];by_cases e:qT x=q
   .rw [if_pos e,iM,bX e];rfl
   .rw [if_neg e,iM,dJ e];rfl
  rw [ZT,ec];by_cases e:qT x=q
  .rw [if_pos e,if_pos e,e];rfl
  .rw [if_neg e,if_neg e,h.vl];rfl
 .rcases wR hp with hp | hp
  .obtain ⟨y,hy,e⟩:=h.ky p hp;exact ⟨y,List.mem_append_left _ hy,e⟩
  .exact ⟨x,fY _ (.head _),by rw [hp]⟩
 .rw [dW];exact cG wS (Nat.add_le_add_right h.ln 1)
theorem Cn.look {L:List Tr} (h:Cn L qb) {p:List Kt × T} (hp:p∈qb):fG (qb.map (·.1)) (qb.map (·.2)) p.1=some (.int (cnQ L p.1:Int)):=by obtain ⟨v,e,_⟩:=wT (cO.mpr ⟨p,hp,rfl⟩);have:=h.vl p.1;rw [GS] at e ⊢;rw [e] at this ⊢;exact aW some this
theorem ZV {G:Glo} {U:List Sl} {i:Nat} {k:E} {q:List Kt} {n:Int} (hf:aQ (aJ k++aJ k) U=U) (h1:evE G k (aB U)=some (tkT q)) (h3:U[i]?=some (slD qb)) (hn:(eF qb q).getD (.int 0)=.int n) (hz:qb.length<=100) :
  evS G (.dinc i k k) U=some (.nx (U.set i (slD (bV qb q (.int (n+1)))))):=by
 have hk:tkO (tkT q)=some q:=lE q;have hi:incS (some (slD qb)) (tkT q)=some (.int (n+1)):=by
  cases qb with
  | nil =>cases hn;show (tkO (tkT q)).map (fun _=>T.int 1)=_;rw [hk];rfl
  | cons a l =>show ((tkO (tkT q)).bind fun q=>(match (eF (a::l) q).getD (.int 0) with | .int n=>some (T.int (n+1)) | _=>none))=_;rw [hk,bQ,hn]
 rw [evS,hf,h1,bQ,h3,hi,bQ,bQ,hk,FP _ _ _ hz];rfl
end
section
variable {qb:List (List Kt × T)}
structure Cal (G:Glo) (Z:List Zt) (c:Int):Prop where
 tb:∀ g∈Z,G.call "_law_table" [aM Z,.str g.1.nm]=some g.1.t
 ls:∀ nm k,G.call "_law_less" [aM Z,stT Z,.str nm,tkT k]=some (stT (les nm k Z))
 br:∀ Z',Sto Z'->aM Z'=aM Z->G.call "breaks" [aM Z,stT Z']=some (sm Z')
 rw:∀ y∈Z,G.call "_law_rows" [aM Z,stT Z,.str y.1.nm]=some (rwT y)
 ky:∀ y∈Z,∀ qs,RowOk y.1 qs->G.call "key_of" [y.1.t,aD qs]=some (kyT y.1 qs)
 wo:∀ y∈Z,∀ qs∈y.2,∀ qa g w,Rl.ref qa g w∈y.1.rs->G.call "_law_worths" [y.1.t,aD qs,aZ qa]=some (woT qa qs)
 ro:∀ g∈Z,∃ m,G.call "_law_row" [g.1.t,.int c]=some (aD m)/\RowOk g.1 m
noncomputable abbrev e4 (N:T) (Z:List Zt) (L:List Sl):List Sl:=.val N::.val (aM Z)::.val (stT Z)::.val (sm Z)::L
noncomputable abbrev e8 (N:T) (Z:List Zt) (s4:Sl) (y:Zt) (p:Rl × Nat) (qs:Row) (L:List Sl):List Sl:=e4 N Z (s4::.val (.str y.1.nm)::.val (.int (p.2:Int))::.val (kyT y.1 qs)::.val p.1.t::L)
theorem GT {α:Type} {l:List α} {p:α × Nat} (h:p∈l.zipIdx 0):l[p.2]?=some p.1:=by have:=List.mem_zipIdx' h;rw [bW this.1];exact aW some this.2.symm
theorem mJ (G:Glo) (o:Co) (a b:E) (r:Env):evE G (.cmp o a b) r=(evE G a r).bind fun x=>(evE G b r).bind fun y=>bB o x y:=by rw [evE]
theorem xV {G:Glo} {Z:List Zt} {y:Zt} {p:Rl × Nat} (hp:p∈y.1.rs.zipIdx 0) (tb:G.call "_law_table" [aM Z,.str y.1.nm]=some y.1.t) {e0 e1 e2:E} {ρ:Env} (h1:aG G [e0,e1] ρ=some [aM Z,.str y.1.nm]) (h2:evE G e2 ρ=some (.int (p.2:Int))) :
  evE G (.idx (.idx (.call "_law_table" [e0,e1]) (.cst (.int 3))) e2) ρ=some p.1.t:=by
 rw [fX,fX,fK];refine (aL (a:=T.tup (y.1.rs.map Rl.t)) ((aL (a:=y.1.t) ((aL h1).trans tb)).trans ((aL (a:=T.int 3) (by rw [evE])).trans (t3 y.1)))).trans ((aL h2).trans ?_);exact gY (by rw [fL,GT hp];rfl)
noncomputable def wrd:Rl->Str
 | .ref _ _ _=>"refers"
 | .unl _=>"unlike"
 | .chk _=>"check"
theorem rl0 (r:Rl):aK r.t (.int 0)=some (.str (wrd r)):=by cases r<;>rfl
theorem sX {G:Glo} {e:E} {ρ:Env} {r:Rl} (h:evE G e ρ=some r.t) (w:Str):evE G (.cmp .eq (.idx e (.cst (.int 0))) (.cst (.str w))) ρ=some (.bl (wrd r==w)):=by rw [mJ,fX];exact (aL (a:=T.str (wrd r)) ((aL h).trans ((aL (a:=T.int 0) (by rw [evE])).trans (rl0 r)))).trans (aL (a:=T.str w) (by rw [evE]))
theorem GU (l:List Tr) (h:l.length<=100):cI .plain [.tup (l.map trT)]=some (l.map trT):=by show (if (l.map trT).length<=SZ then some (l.map trT) else none)=_;exact if_pos (by rw [bA];exact cG h (by decide))
theorem ZW (l:List Tr) (h:l.length<=100):cI .plain [.lst (l.map trT)]=some (l.map trT):=GU l h
open Classical in
theorem ZX {G:Glo} {elt cond:E} {src:List E} {r:Env} {n:Nat} {α:Type} {enc:α->T} {R:List α} (P:α->Prop) {xs:List T} (h1:aG G src r=some xs) (h2:cI .plain xs=some (R.map enc))
  (hb:∀ a∈R,∃ r' b,bnd n (enc a) r=some r'/\evE G cond r'=some (.bl b)/\(b=true->P a)/\evE G elt r'=some (enc a)):∃ L:List α,(∀ a∈L,a∈R/\P a)/\L.length<=R.length/\evE G (.comp elt n .plain src (some cond)) r=some (.lst (L.map enc)):=by
 refine ⟨R.filter fun a=>decide (∃ r',bnd n (enc a) r=some r'/\evE G cond r'=some (.bl true)),fun a ha=>?_,nX _ _,nN (fun a=>decide (∃ r',bnd n (enc a) r=some r'/\evE G cond r'=some (.bl true))) enc h1 h2 fun a ha=>?_⟩
 .obtain ⟨h,hc⟩:=iN.mp ha;obtain ⟨r',e1,e2⟩:=iF hc;obtain ⟨r2,b,g1,g2,g3,_⟩:=hb a h;rw [e1] at g1;cases g1;rw [e2] at g2;cases g2;exact ⟨h,g3 rfl⟩
 .obtain ⟨r2,b,g1,g2,g3,g4⟩:=hb a ha;refine ⟨r2,g1,?_,fun _=>g4⟩;rw [g2];refine aW (fun b=>some (T.bl b)) ?_;cases b with
  | true=>exact (bX ⟨r2,g1,g2⟩).symm
  | false =>refine (dJ fun z=>?_).symm;obtain ⟨r',e1,e2⟩:=z;rw [g1] at e1;cases e1;rw [g2] at e2;cases e2
noncomputable def tr3:E:=.tup [.var 5,.var 6,.var 7]
noncomputable def lCc:E:=.comp (.var 0) 1 .plain [.var 9] (some (.cmp .eq (.idx (.idx (.idx (.call "_law_table" [.var 2,.idx (.var 0) (.cst (.int 0))]) (.cst (.int 3))) (.idx (.var 0) (.cst (.int 1)))) (.cst (.int 0))) (.cst (.str "check"))))
noncomputable def lCn:E:=.comp (.var 0) 1 .plain [.var 11] (some (.cmp .notin (.var 0) (.var 4)))
noncomputable def lC:List S:=[.asg 9 (.call "breaks" [.var 1,.call "_law_less" [.var 1,.var 2,.var 5,.var 7]]),
  .ite (.cmp .isin tr3 (.var 9)) [.ret (.cst (.bl false))] [],
  .asg 11 lCc,
  .ite (.cmp .ne lCn (.lst [])) [.ret (.cst (.bl false))] []]
noncomputable def lA:List S:=[.asg 8 (.idx (.idx (.call "_law_table" [.var 1,.var 5]) (.cst (.int 3))) (.var 6)),
  .dinc 4 (.tup [.var 5,.var 6]) (.tup [.var 5,.var 6]),
  .ite (.cmp .eq (.idx (.var 8) (.cst (.int 0))) (.cst (.str "check"))) lC []]
theorem xW {Z:List Zt} (H:Sto Z) {x:Tr} (hx:x∈due Z):∃ y∈Z,∃ p∈y.1.rs.zipIdx 0,∃ qs∈y.2,qs∈iA Z y p.1/\x=trO y p.2 qs:=by obtain ⟨y,hy,p,hp,qs,hq,e⟩:=qE.mp hx;exact ⟨y,hy,p,hp,qs,(mI (H.fit y hy _ (jL hp))).2.subset hq,hq,e⟩
theorem GV {Z:List Zt} (H:Sto Z):(ord (due Z)).length<=100:=by rw [(xS _).length_eq];exact cG (GJ H) (by decide)
section
variable {G:Glo} {Z:List Zt} {c:Int} (H:Sto Z) (C:Cal G Z c)
include H C
open Classical in
theorem ZY {N:T} {y:Zt} (hy:y∈Z) {p:Rl × Nat} (hp:p∈y.1.rs.zipIdx 0) {qs:Row} (s4 s9 s10 s11 s12 s13 s14 s15 s16 s17 s18:Sl) :
  ∃ t9 t11:T,aE G lC (e4 N Z [s4,.val (.str y.1.nm),.val (.int (p.2:Int)),.val (tkT (aO y.1 qs)),.val p.1.t,s9,s10,s11,s12,s13,s14,s15,s16,s17,s18]) =
   some (.nx (e4 N Z [s4,.val (.str y.1.nm),.val (.int (p.2:Int)),.val (tkT (aO y.1 qs)),.val p.1.t,.val t9,s10,.val t11,s12,s13,s14,s15,s16,s17,s18])):=by
 have H':=GK H y.1.nm (aO y.1 qs);have eb:=C.br _ H' (ZO y.1.nm (aO y.1 qs) Z);have el:=C.ls y.1.nm (aO y.1 qs);have hl:=GV H';have hno:trO y p.2 qs∉ord (due (les y.1.nm (aO y.1 qs) Z)):=fun z=>ZI H (nR.mp z) ⟨rfl,rfl⟩;have hck:∀ x∈ord (due (les y.1.nm (aO y.1 qs) Z)),∃ z∈Z,∃ p'∈z.1.rs.zipIdx 0,x.nm=z.1.nm/\x.j=p'.2/\((wrd p'.1==("check":Str))=true->x∈due Z):=fun x hx=>by
  obtain ⟨y',hy',p',hp',qs',hq',rfl⟩:=qE.mp (nR.mp hx);obtain ⟨z,hz,e⟩:=omm hy';have ef:y'.1=z.1:=by rw [<- e,lG]
  refine ⟨z,hz,p',by rw [<- ef];exact hp',by show y'.1.nm=_;rw [ef],rfl,fun hw=>?_⟩;cases hr:p'.1 with
  | chk t=>exact ZJ hy' hp' hr hq'
  | unl qa=>rw [hr] at hw;cases (show (("unlike":Str)=="check")=true from hw).symm.trans rw1.2.1
  | ref qa g w=>rw [hr] at hw;cases (show (("refers":Str)=="check")=true from hw).symm.trans rw1.2.2.1
 have ex:trT (trO y p.2 qs)=.tup [.str y.1.nm,.int (p.2:Int),tkT (aO y.1 qs)]:=rfl;unfold sm at eb;generalize ord (due (les y.1.nm (aO y.1 qs) Z))=D at *;generalize tkT (aO y.1 qs)=K at *;unfold lC;refine ⟨.tup (D.map trT),?_⟩;obtain ⟨L,hL,hLl,ec⟩:=ZX (G:=G) (elt:=.var 0) (cond:=.cmp .eq (.idx (.idx (.idx (.call "_law_table" [.var 2,.idx (.var 0) (.cst (.int 0))]) (.cst (.int 3))) (.idx (.var 0) (.cst (.int 1)))) (.cst (.int 0))) (.cst (.str "check"))) (src:=[.var 9])
  (r:=aB (e4 N Z [s4,.val (.str y.1.nm),.val (.int (p.2:Int)),.val K,.val p.1.t,.val (.tup (D.map trT)),s10,s11,s12,s13,s14,s15,s16,s17,s18])) (n:=1) (enc:=trT) (R:=D) (fun x=>x∈due Z) (xs:=[.tup (D.map trT)]) rfl (GU D hl) fun x hx=>by
   obtain ⟨z,hz,p',hp',e1,e2,h3⟩:=hck x hx;refine ⟨_,wrd p'.1==("check":Str),rfl,sX (r:=p'.1) (xV hp' (C.tb z hz) ?_ ?_) _,h3,rfl⟩
   .show some [aM Z,T.str x.nm]=_;rw [e1]
   .show some (T.int (x.j:Int))=_;rw [e2]
 refine ⟨.lst (L.map trT),?_⟩;refine (bC (t:=.tup (D.map trT)) (U':=(e4 N Z [s4,.val (.str y.1.nm),.val (.int (p.2:Int)),.val K,.val p.1.t,.val (.tup (D.map trT)),s10,s11,s12,s13,s14,s15,s16,s17,s18])) rfl ?_ rfl).trans ?_
 .rw [fK,aG,aG,fK];exact (aL (a:=[aM Z,stT (les y.1.nm (aO y.1 qs) Z)]) ((aL (a:=aM Z) rfl).trans ((aL (a:=[stT (les y.1.nm (aO y.1 qs) Z)]) ((aL (a:=stT (les y.1.nm (aO y.1 qs) Z)) ((aL (a:=[aM Z,stT Z,.str y.1.nm,K]) rfl).trans el)).trans rfl)).trans rfl))).trans eb
 refine (cQ rfl ?_).trans ?_
 .rw [mJ];refine (aL (a:=trT (trO y p.2 qs)) (by rw [ex];rfl)).trans ((aL (a:=T.tup (D.map trT)) rfl).trans ?_);show (inC (trT (trO y p.2 qs)) (.tup (D.map trT))).map T.bl=_;rw [xU,dJ hno];rfl
 refine (bC (t:=.lst (L.map trT)) (U':=(e4 N Z [s4,.val (.str y.1.nm),.val (.int (p.2:Int)),.val K,.val p.1.t,.val (.tup (D.map trT)),s10,.val (.lst (L.map trT)),s12,s13,s14,s15,s16,s17,s18])) rfl ec rfl).trans ?_;refine (cQ rfl ?_).trans rfl;rw [mJ];refine (aL (a:=T.lst []) ?_).trans ((aL (a:=T.lst []) rfl).trans rfl);refine (nN (enc:=trT) (R:=L) (fun _=>false) trT (xs:=[.lst (L.map trT)]) rfl (ZW L (cG hLl hl)) fun x hx=>⟨_,rfl,?_,fun z=>nomatch z⟩).trans (by rw [List.filter_eq_nil_iff.mpr fun _ _=>dI];rfl);rw [mJ];refine (aL (a:=trT x) rfl).trans ((aL (a:=sm Z) rfl).trans ?_);show (inC (trT x) (.tup ((ord (due Z)).map trT))).map (fun b=>T.bl (!b))=_;rw [xU,bX (nR.mpr (hL x hx).2)];rfl
theorem ZZ {N:T} {x:Tr} (hx:x∈due Z) {n:Int} (hn:(eF qb (qT x)).getD (.int 0)=.int n) (hl:qb.length<=100) (s5 s6 s7 s8 s9 s10 s11 s12 s13 s14 s15 s16 s17 s18:Sl) :
  ∃ (t5 t6 t7 t8:T) (s9' s11':Sl),(s9.isDl=false->s9'.isDl=false)/\(s11.isDl=false->s11'.isDl=false)/\((bD [5,6,7] (trT x) (e4 N Z [slD qb,s5,s6,s7,s8,s9,s10,s11,s12,s13,s14,s15,s16,s17,s18])).bind fun U=>aE G lA U) =
   some (.nx (e4 N Z [slD (bV qb (qT x) (.int (n+1))),.val t5,.val t6,.val t7,.val t8,s9',s10,s11',s12,s13,s14,s15,s16,s17,s18])):=by
 obtain ⟨y,hy,p,hp,qs,hq,_,rfl⟩:=xW H hx;refine ⟨.str y.1.nm,.int (p.2:Int),tkT (aO y.1 qs),p.1.t,?_⟩;have e0:evE G (.idx (.idx (.call "_law_table" [.var 1,.var 5]) (.cst (.int 3))) (.var 6)) (aB (e4 N Z [slD qb,.val (.str y.1.nm),.val (.int (p.2:Int)),.val (tkT (aO y.1 qs)),s8,s9,s10,s11,s12,s13,s14,s15,s16,s17,s18]))=some p.1.t:=xV hp (C.tb y hy) rfl rfl;have e1:∀ ss,aE G (.asg 8 (.idx (.idx (.call "_law_table" [.var 1,.var 5]) (.cst (.int 3))) (.var 6))::.dinc 4 (.tup [.var 5,.var 6]) (.tup [.var 5,.var 6])::ss) (e4 N Z [slD qb,.val (.str y.1.nm),.val (.int (p.2:Int)),.val (tkT (aO y.1 qs)),s8,s9,s10,s11,s12,s13,s14,s15,s16,s17,s18]) =
   aE G ss (e4 N Z [slD (bV qb (qT (trO y p.2 qs)) (.int (n+1))),.val (.str y.1.nm),.val (.int (p.2:Int)),.val (tkT (aO y.1 qs)),.val p.1.t,s9,s10,s11,s12,s13,s14,s15,s16,s17,s18]):=fun ss =>
  (bC (U':=(e4 N Z [slD qb,.val (.str y.1.nm),.val (.int (p.2:Int)),.val (tkT (aO y.1 qs)),.val p.1.t,s9,s10,s11,s12,s13,s14,s15,s16,s17,s18])) rfl e0 rfl).trans (bP (ZV (q:=qT (trO y p.2 qs)) (qb:=qb) rfl rfl rfl hn hl))
 have e2:evE G (.cmp .eq (.idx (.var 8) (.cst (.int 0))) (.cst (.str "check"))) (aB (e4 N Z [slD (bV qb (qT (trO y p.2 qs)) (.int (n+1))),.val (.str y.1.nm),.val (.int (p.2:Int)),.val (tkT (aO y.1 qs)),.val p.1.t,s9,s10,s11,s12,s13,s14,s15,s16,s17,s18]))=some (.bl (wrd p.1==("check":Str))):=sX rfl _;cases hw:wrd p.1==("check":Str) with
 | true =>rw [hw] at e2;obtain ⟨t9,t11,e3⟩:=ZY H C (N:=N) hy hp (qs:=qs) (slD (bV qb (qT (trO y p.2 qs)) (.int (n+1)))) s9 s10 s11 s12 s13 s14 s15 s16 s17 s18;exact ⟨.val t9,.val t11,fun _=>rfl,fun _=>rfl,(e1 _).trans ((nL rfl e2 e3).trans rfl)⟩
 | false =>rw [hw] at e2;exact ⟨s9,s11,id,id,(e1 _).trans ((cQ rfl e2).trans rfl)⟩
theorem A0 (N:T):∃ qb s5 s6 s7 s8 s9 s11,Cn (ord (due Z)) qb/\[s5,s6,s7,s8,s9,s11].any Sl.isDl=false/\cP (fun x U=>(bD [5,6,7] x U).bind fun U'=>aE G lA U') ((ord (due Z)).map trT) (e4 N Z [.dk [],.no,.no,.no,.no,.no,.no,.no,.no,.no,.no,.no,.no,.no,.no]) =
  some (.nx (e4 N Z [slD qb,s5,s6,s7,s8,s9,.no,s11,.no,.no,.no,.no,.no,.no,.no])):=by
 obtain ⟨U',el,qb,s5,s6,s7,s8,s9,s11,rfl,hc,hd⟩:=fW (enc:=trT) (f:=fun x U=>(bD [5,6,7] x U).bind fun U'=>aE G lA U')
  (fun done U=>∃ qb s5 s6 s7 s8 s9 s11,U=(e4 N Z [slD qb,s5,s6,s7,s8,s9,.no,s11,.no,.no,.no,.no,.no,.no,.no])/\Cn done qb/\[s5,s6,s7,s8,s9,s11].any Sl.isDl=false)
  (ord (due Z)) (e4 N Z [.dk [],.no,.no,.no,.no,.no,.no,.no,.no,.no,.no,.no,.no,.no,.no]) ⟨[],_,_,_,_,_,_,rfl,ZU,rfl⟩ (by
   rintro l1 x l2 hsp U ⟨qb,s5,s6,s7,s8,s9,s11,rfl,hc,hd⟩;simp only [List.any_cons,List.any_nil,Bool.or_false,Bool.or_eq_false_iff] at hd;have hx:x∈due Z:=nR.mp (by rw [hsp];exact fY _ (.head _));have hl:qb.length<=100:=by have h1:=hc.ln;have h2:=GV H;rw [hsp,dW] at h2;lia
   obtain ⟨t5,t6,t7,t8,s9',s11',d9,d11,e⟩:=ZZ H C (N:=N) hx (hc.vl (qT x)) hl s5 s6 s7 s8 s9 .no s11 .no .no .no .no .no .no .no;refine ⟨_,e,_,_,_,_,_,_,_,rfl,hc.put x,?_⟩;simp only [List.any_cons,List.any_nil,Bool.or_false,Bool.or_eq_false_iff];exact ⟨rfl,rfl,rfl,rfl,d9 hd.2.2.2.2.1,d11 hd.2.2.2.2.2⟩)
 exact ⟨qb,s5,s6,s7,s8,s9,s11,hc,hd,el⟩
noncomputable def lK:List S:=[.ite (.land (.cmp .eq (.idx (.idx (.idx (.call "_law_table" [.var 1,.var 5]) (.cst (.int 3))) (.var 6)) (.cst (.int 0))) (.cst (.str "unlike"))) (.cmp .lt (.idx (.var 4) (.tup [.var 5,.var 6])) (.cst (.int 2)))) [.ret (.cst (.bl false))] []]
omit C in
theorem A1 (hc:Cn (ord (due Z)) qb) {q:List Kt × T} (hq:q∈qb):∃ y∈Z,∃ p∈y.1.rs.zipIdx 0,tkT q.1=.tup [.str y.1.nm,.int (p.2:Int)]/\∃ n:Nat,fG (qb.map (·.1)) (qb.map (·.2)) q.1=some (.int (n:Int))/\((wrd p.1==("unlike":Str))=true->2<=n):=by
 obtain ⟨x,hx,e⟩:=hc.ky q hq;obtain ⟨y,hy,p,hp,qs,hq',hb,rfl⟩:=xW H (nR.mp hx);refine ⟨y,hy,p,hp,by rw [e];rfl,_,hc.look hq,fun hw=>?_⟩;have hr:∃ qa,p.1=.unl qa:=by
  cases hr:p.1 with
  | unl qa=>exact ⟨qa,rfl⟩
  | chk t=>rw [hr] at hw;exact absurd (show (("check":Str)=="unlike")=true from hw) (by decide +kernel)
  | ref qa g w=>rw [hr] at hw;exact absurd (show (("refers":Str)=="unlike")=true from hw) (by decide +kernel)
 obtain ⟨qa,hr⟩:=hr;have h:=ZP hy hp hr hb;have ec:cnQ (ord (due Z)) q.1=sW Z y.1.nm p.2:=by
  unfold cnQ sW;rw [((xS (due Z)).filter _).length_eq,e];refine aW List.length (List.filter_congr fun x _=>decide_eq_decide.mpr ⟨fun z=>?_,fun z=>?_⟩)
  .have z:[Sum.inr (some x.nm),Sum.inl (x.j:Int)]=[Sum.inr (some y.1.nm),(Sum.inl (p.2:Int):Kt)]:=z;injection z with z1 z2;injection z2 with z2 _;exact ⟨dE (Sum.inr.inj z1),by have:=Sum.inl.inj z2;lia⟩
  .show [Sum.inr (some x.nm),Sum.inl (x.j:Int)]=[Sum.inr (some y.1.nm),(Sum.inl (p.2:Int):Kt)];rw [z.1,z.2]
 rw [ec];exact h
theorem A2 {N:T} (hc:Cn (ord (due Z)) qb) (s5 s6 s7 s8 s9 s10 s11 s12 s13 s14 s15 s16 s17 s18:Sl):∃ s5' s6',cP (fun x U=>(bD [5,6] x U).bind fun U'=>aE G lK U') (qb.map fun p=>tkT p.1) (e4 N Z [.val (.dt (qb.map (·.1)) (qb.map (·.2))),s5,s6,s7,s8,s9,s10,s11,s12,s13,s14,s15,s16,s17,s18]) =
  some (.nx (e4 N Z [.val (.dt (qb.map (·.1)) (qb.map (·.2))),s5',s6',s7,s8,s9,s10,s11,s12,s13,s14,s15,s16,s17,s18])):=by
 obtain ⟨U',el,s5',s6',rfl⟩:=fW (enc:=fun p:List Kt × T=>tkT p.1) (f:=fun x U=>(bD [5,6] x U).bind fun U'=>aE G lK U')
  (fun done U=>∃ s5 s6,U=(e4 N Z [.val (.dt (qb.map (·.1)) (qb.map (·.2))),s5,s6,s7,s8,s9,s10,s11,s12,s13,s14,s15,s16,s17,s18]))
  qb (e4 N Z [.val (.dt (qb.map (·.1)) (qb.map (·.2))),s5,s6,s7,s8,s9,s10,s11,s12,s13,s14,s15,s16,s17,s18]) ⟨s5,s6,rfl⟩ (by
   rintro l1 q l2 hsp U ⟨s5,s6,rfl⟩;have hq:q∈qb:=by rw [hsp];exact fY _ (.head _)
   obtain ⟨y,hy,p,hp,eq,n,en,hn⟩:=A1 H hc hq;refine ⟨(e4 N Z [.val (.dt (qb.map (·.1)) (qb.map (·.2))),.val (.str y.1.nm),.val (.int (p.2:Int)),s7,s8,s9,s10,s11,s12,s13,s14,s15,s16,s17,s18]),?_,_,_,rfl⟩;have ek:aK (.dt (qb.map (·.1)) (qb.map (·.2))) (.tup [.str y.1.nm,.int (p.2:Int)])=some (.int (n:Int)):=by rw [<- eq];show ((gO (q.1.map kT)).bind fun k=>fG (qb.map (·.1)) (qb.map (·.2)) k)=_;rw [lE];exact en
   generalize T.dt (qb.map (·.1)) (qb.map (·.2))=DD at *;rw [eq];refine (cQ rfl ?_:aE G lK (e4 N Z [.val DD,.val (.str y.1.nm),.val (.int (p.2:Int)),s7,s8,s9,s10,s11,s12,s13,s14,s15,s16,s17,s18])=_).trans rfl;have e2:evE G (.cmp .eq (.idx (.idx (.idx (.call "_law_table" [.var 1,.var 5]) (.cst (.int 3))) (.var 6)) (.cst (.int 0))) (.cst (.str "unlike"))) (aB (e4 N Z [.val DD,.val (.str y.1.nm),.val (.int (p.2:Int)),s7,s8,s9,s10,s11,s12,s13,s14,s15,s16,s17,s18]))=some (.bl (wrd p.1==("unlike":Str))):=sX (xV hp (C.tb y hy) rfl rfl) _;cases hw:wrd p.1==("unlike":Str) with
   | false=>rw [hw] at e2;exact ZA e2
   | true =>rw [hw] at e2;refine (ZB e2).trans ?_;rw [mJ,fX];refine (aL (a:=T.int (n:Int)) ((aL (a:=DD) rfl).trans ((aL (a:=T.tup [.str y.1.nm,.int (p.2:Int)]) rfl).trans ek))).trans ((aL (a:=T.int 2) rfl).trans ?_);show some (T.bl (decide ((n:Int)<2)))=_;rw [dJ (by have:=hn hw;lia)])
 exact ⟨s5',s6',el⟩
omit H C in
theorem A3 {U:List Sl} {i:Nat} {is:List Nat} {body:List S} {o:Out} (h3:U[i]?=some (slD qb)) (hd:U.any Sl.isDl=false) (h:cP (fun x U=>(bD is x U).bind fun U'=>aE G body U') (qb.map fun p=>tkT p.1) (U.set i (.val (.dt (qb.map (·.1)) (qb.map (·.2)))))=some o):evS G (.kloop is i body) U=some o:=by rw [evS,hd,if_neg dI,h3,show zD (some (slD qb))=some qb by cases qb<;>rfl];exact h
end
end
section
variable {key:List Str}
noncomputable def bkL (key:List Str) (ks:List Kt):List (Kt × T):=(key.zip ks).map fun p=>(.inr (some p.1),kT p.2)
noncomputable abbrev bkD (k:List Str) (l:List Kt):T:=.dk ((bkL k l).map (·.1)) ((bkL k l).map (·.2))
theorem GW:∀ (key:List Str) (ks:List Kt),dS (key.map .str) (ks.map kT)=(key.zip ks).map fun p=>.tup [.str p.1,kT p.2]
 | [],_=>rfl
 | _::_,[]=>rfl
 | x::key,k::ks=>by rw [aS,aS,dS,GW key ks];rfl
theorem GX:∀ l:List (Str × Kt),mV (l.map fun p=>.tup [.str p.1,kT p.2])=some (l.map fun p=>(.inr (some p.1),kT p.2))
 | []=>rfl
 | p::l=>by rw [aS,mV,GX l];rfl
theorem GY {κ:Type} [DecidableEq κ]:∀ {l acc:List (κ × T)},((acc++l).map (·.1)).Nodup->l.foldl (fun acc p=>bV acc p.1 p.2) acc=acc++l
 | [],acc,_=>by rw [eO];rfl
 | p::l,acc,h=>by
  have e:bV acc p.1 p.2=acc++[p]:=by unfold bV;refine if_neg fun z=>?_;obtain ⟨q,hq,e⟩:=List.any_eq_true.mp z;rw [eP,List.nodup_append] at h;exact h.2.2 q.1 (cO.mpr ⟨q,hq,rfl⟩) p.1 (.head _) (iF e)
  rw [List.foldl_cons,e,GY (by rw [kH];exact h),kH];rfl
theorem A4 {ks:List Kt} (hd:key.Nodup) (hl:key.length=ks.length):((bkL key ks).map (·.1)).Nodup:=by unfold bkL;rw [cH,show ((fun x:Kt × T=>x.1)∘fun p:Str × Kt=>((Sum.inr (some p.1):Kt),kT p.2))=(fun x=>(Sum.inr (some x):Kt))∘(·.1) from rfl,<- cH,List.map_fst_zip (Nat.le_of_eq hl)];exact List.Pairwise.map _ (fun a b h e=>h (dE (Sum.inr.inj e))) hd
theorem A5 {ks:List Kt} (hn:key≠[]) (hd:key.Nodup) (hl:key.length=ks.length) (h4:key.length<=4):(lV (aZ key) (tkT ks)).bind (fun x=>bO .dict x)=some (.dk ((bkL key ks).map (·.1)) ((bkL key ks).map (·.2))):=by
 have e1:lV (aZ key) (tkT ks)=some (.lst ((key.zip ks).map fun p=>.tup [.str p.1,kT p.2])):=by show (if (key.map T.str).length<=1000 then some (T.lst (dS (key.map .str) (ks.map kT))) else none)=_;rw [if_pos (by rw [bA];lia),GW]
 have e2:lU ((key.zip ks).map fun p=>T.tup [.str p.1,kT p.2])=none:=by
  cases key with
  | nil=>exact absurd rfl hn
  | cons x key =>
   cases ks with
   | nil=>cases hl
   | cons k ks=>rfl
 have e3:=GX (key.zip ks);have e4:dM (bkL key ks)=bkL key ks:=GY (acc:=[]) (A4 hd hl);have e5:(bkL key ks).length<=1000:=by unfold bkL;rw [bA,List.length_zip];lia
 rw [e1,bQ];generalize ((key.zip ks).map fun p=>T.tup [.str p.1,kT p.2])=X at *;simp only [bO,e2,e3,aT];show (if (bkL key ks).length<=1000 then some (T.dk ((dM (bkL key ks)).map (·.1)) ((dM (bkL key ks)).map (·.2))) else none)=_;rw [if_pos e5,e4]
noncomputable def lkB (key:List Str) (ks:List Kt) (x:Str):Option T:=fG ((bkL key ks).map (·.1)) ((bkL key ks).map (·.2)) (.inr (some x))
theorem xX (x y:Str) (k:Kt) (key:List Str) (ks:List Kt):lkB (y::key) (k::ks) x=if y=x then some (kT k) else lkB key ks x:=by
 show (if (Sum.inr (some y):Kt)=.inr (some x) then some (kT k) else lkB key ks x)=_;by_cases e:y=x
 .rw [if_pos e,if_pos (by rw [e])]
 .rw [if_neg e,if_neg fun z=>e (dE (Sum.inr.inj z))]
theorem GZ {x:Str}:∀ {key:List Str} {ks:List Kt},x∉key->lkB key ks x=none
 | [],_,_=>rfl
 | _::_,[],_=>rfl
 | y::key,k::ks,h=>by rw [xX,if_neg fun z=>h (by rw [z];exact .head _)];exact GZ fun z=>h (.tail _ z)
theorem HA {x:Str} {k:Kt}:∀ {key:List Str} {ks:List Kt} {i:Nat},key.Nodup->key[i]?=some x->ks[i]?=some k->lkB key ks x=some (kT k)
 | [],_,_,_,h,_=>by simp at h
 | _::_,[],_,_,_,h=>by simp at h
 | y::key,k'::ks,0,_,h1,h2=>by cases h1;cases h2;rw [xX,if_pos rfl]
 | y::key,k'::ks,i+1,hd,h1,h2=>by
  have h1:key[i]?=some x:=by simpa using h1
  rw [xX,if_neg fun z=>(cK.mp hd).1 (by rw [z];exact fT h1)];exact HA (cK.mp hd).2 h1 (by simpa using h2)
noncomputable def mkR (key:List Str) (ks:List Kt) (m:Row):Row:=m.map fun q=>(q.1,(lkB key ks q.1.n).getD q.2)
theorem HB:∀ {cs:List Col},(cs.map (·.n)).Nodup->∀ {c:Col},c∈cs->(gF cs c.n).headD ""=c.k
 | d::cs,nd,c,hc=>by
  rw [aS,cK] at nd;unfold gF;rw [jD];by_cases e:d.n=c.n
  .have:d=c:=by
    rcases omc hc with h | h
    .exact h.symm
    .exact absurd (cO.mpr ⟨c,h,e.symm⟩) nd.1
   subst this;rw [if_pos (jN _)];rfl
  .rw [if_neg fun z=>e (cV z)];rcases omc hc with h | h
   .exact absurd (by rw [h]) e
   .exact HB nd.2 h
theorem A6 {g y:Tb} (hg:g.ok) (hy:y.ok) {m qs:Row} (hm:RowOk g m) (hq:RowOk y qs) {qa:List Str} (hk:Kds y.cs qa (kds g.cs g.key)) (hn:eR (wK qa qs)=false) :
  RowOk g (mkR g.key (wK qa qs) m)/\aO g (mkR g.key (wK qa qs) m)=wK qa qs:=by
 have hl:qa.length=g.key.length:=by rw [hk.1];unfold kds;rw [bA]
 have hlw:g.key.length=(wK qa qs).length:=by unfold wK;rw [bA,hl]
 have at_:∀ (i:Nat) x,g.key[i]?=some x->∃ w,(wK qa qs)[i]?=some (kk w)/\lkB g.key (wK qa qs) x=some w/\w≠.non/\∀ c∈g.cs,c.n=x->Wok c w:=fun i x hx=>by
  have hi:=(ome hx).1;have hci:i<qa.length:=by lia
  have e1:(wK qa qs)[i]?=some (kk (val qs qa[i])):=by unfold wK;rw [fL,bW hci];rfl
  obtain ⟨c',hc',n',k'⟩:=hk.2 (qa[i],(gF g.cs x).headD "") (by refine fT (i:=i) ?_;rw [List.getElem?_zip_eq_some];refine ⟨bW hci,?_⟩;unfold kds;rw [fL,hx];rfl);replace n':c'.n=qa[i]:=n';replace k':c'.k=(gF g.cs x).headD "":=k';obtain ⟨p,hp,e⟩:=hq.col hc';have ev:val qs qa[i]=p.2:=by rw [<- n',<- e];exact iX hp (hq.nd hy)
  rw [ev] at e1;have hw:=hq.wk p hp;have hkt:=(wO hw).2;have hnn:p.2≠.non:=fun z=>by rw [z] at e1;have:eR (wK qa qs)=true:=List.any_eq_true.mpr ⟨.inr none,fT e1,by decide⟩;rw [hn] at this;cases this
  refine ⟨p.2,e1,by rw [HA hg.kd hx e1,hkt],hnn,fun c hc en=>?_⟩;have ek:p.1.k=c.k:=by rw [e,k',<- en];exact HB hg.nd hc
  unfold Wok at hw ⊢;rw [<- ek];exact hw
 have val_m:∀ q∈m,Wok q.1 ((lkB g.key (wK qa qs) q.1.n).getD q.2)/\(q.1.g=false->(lkB g.key (wK qa qs) q.1.n).getD q.2≠.non):=fun q hqm=>by
  by_cases h:q.1.n∈g.key
  .obtain ⟨i,hi⟩:=List.mem_iff_getElem?.mp h;obtain ⟨w,_,e2,e3,e4⟩:=at_ i _ hi;rw [e2];exact ⟨e4 q.1 (by rw [<- hm.cs];exact cO.mpr ⟨q,hqm,rfl⟩) rfl,fun _=>e3⟩
  .rw [GZ h];exact ⟨hm.wk q hqm,hm.ng q hqm⟩
 have hrow:RowOk g (mkR g.key (wK qa qs) m):=by
  refine ⟨?_,fun p hp=>?_,fun p hp=>?_⟩
  .unfold mkR;rw [cH,<- hm.cs];rfl
  .obtain ⟨q,hqm,rfl⟩:=omm hp;exact (val_m q hqm).1
  .obtain ⟨q,hqm,rfl⟩:=omm hp;exact (val_m q hqm).2
 refine ⟨hrow,List.ext_getElem? fun i=>?_⟩;unfold aO;rw [fL];cases hx:g.key[i]? with
 | none =>rw [nY (by rw [<- hlw];exact List.getElem?_eq_none_iff.mp hx)];rfl
 | some x =>
  obtain ⟨w,e1,e2,_⟩:=at_ i x hx;obtain ⟨c,hc,en⟩:=hg.inn x (fT hx);obtain ⟨p,hp,e⟩:=hrow.col hc;have ev:val (mkR g.key (wK qa qs) m) x=p.2:=by rw [<- en,<- e];exact iX hp (hrow.nd hg)
  obtain ⟨q,hqm,rfl⟩:=omm hp;have e5:q.1.n=x:=by rw [<- en,<- e]
  show some (kk (val (mkR g.key (wK qa qs) m) x))=_;rw [ev,e1];show some (kk ((lkB g.key (wK qa qs) q.1.n).getD q.2))=_;rw [e5,e2];rfl
end
section
theorem HC {p:List Kt × T}:∀ {l acc:List (List Kt × T)},p∈l.foldl (fun acc p=>bV acc p.1 p.2) acc->p∈acc\/p∈l
 | [],_,h=>.inl h
 | q::l,acc,h=>by
  rcases HC (l:=l) h with h | h
  .rcases wR h with h | h
   .exact .inl h
   .exact .inr (by rw [h];exact .head _)
  .exact .inr (.tail _ h)
theorem HD:∀ {l acc:List (List Kt × T)},(acc.map (·.1)).Nodup->((l.foldl (fun acc p=>bV acc p.1 p.2) acc).map (·.1)).Nodup/\(l.foldl (fun acc p=>bV acc p.1 p.2) acc).length<=acc.length+l.length
 | [],_,h=>⟨h,aV _⟩
 | q::l,acc,h=>by obtain ⟨h1,h2⟩:=HD (l:=l) (FQ (k:=q.1) (v:=q.2) h);have:=wS (qb:=acc) (k:=q.1) (v:=q.2);rw [fS];exact ⟨h1,by rw [List.foldl_cons];lia⟩
theorem A7 {g:Zt} (hok:g.1.ok) (hR:∀ ps∈g.2,RowOk g.1 ps) (h4:g.2.length<=4) {m:Row} (hm:RowOk g.1 m) (hk:gks g.1 g.2 (aO g.1 m)=false) :
  ∃ R:List Row,R.length<=5/\(∀ ps∈R,RowOk g.1 ps)/\(R.map (aO g.1)).Pairwise (fun x y=>bL x y=true)/\m∈R/\(∀ ps∈R,ps∈g.2\/ps=m) /\
   ∃ ks:List (List Kt),ks.length<=5/\bO .sorted (dX g.1 (g.2++[m]))=some (.lst (ks.map tkT))/\dP (fun x=>(aK (dX g.1 (g.2++[m])) x).map some) (ks.map tkT)=some (R.map aD):=by
 have hall:∀ ps∈g.2++[m],(ps∈g.2\/ps=m)/\RowOk g.1 ps:=fun ps h=>by
  rcases oma h with h | h
  .exact ⟨.inl h,hR ps h⟩
  .rw [omg h];exact ⟨.inr rfl,hm⟩
 have hent:∀ p∈dM ((g.2++[m]).map fun ps=>(aO g.1 ps,aD ps)),∃ ps,((ps∈g.2\/ps=m)/\RowOk g.1 ps)/\p=(aO g.1 ps,aD ps):=fun p hp=>by
  rcases HC hp with h | h
  .cases h
  .obtain ⟨ps,h1,rfl⟩:=omm h;exact ⟨ps,hall ps h1,rfl⟩
 have hany:=xJ (aO g.1 m) ((g.2++[m]).map fun ps=>(aO g.1 ps,aD ps)) [];obtain ⟨hnd,hln⟩:=HD (l:=(g.2++[m]).map fun ps=>(aO g.1 ps,aD ps)) (acc:=[]) gK;have hmk:aO g.1 m∈(dM ((g.2++[m]).map fun ps=>(aO g.1 ps,aD ps))).map (·.1):=by have:((g.2++[m]).map fun ps=>(aO g.1 ps,aD ps)).any (fun p=>decide (p.1=aO g.1 m))=true:=List.any_eq_true.mpr ⟨_,cO.mpr ⟨m,fY _ (.head _),rfl⟩,bX rfl⟩;rw [this,Bool.or_true] at hany;obtain ⟨p,hp,e⟩:=List.any_eq_true.mp hany;exact cO.mpr ⟨p,hp,iF e⟩
 have eD:dX g.1 (g.2++[m])=dD (dM ((g.2++[m]).map fun ps=>(aO g.1 ps,aD ps))):=by
  unfold dX;cases e:dM ((g.2++[m]).map fun ps=>(aO g.1 ps,aD ps)) with
  | nil=>rw [e] at hmk;cases hmk
  | cons _ _=>rfl
 replace hnd:((dM ((g.2++[m]).map fun ps=>(aO g.1 ps,aD ps))).map (·.1)).Nodup:=hnd;replace hln:(dM ((g.2++[m]).map fun ps=>(aO g.1 ps,aD ps))).length<=5:=by refine cG hln ?_;rw [bA,dW];show 0+(g.2.length+1)<=5;lia
 rw [eD];generalize dM ((g.2++[m]).map fun ps=>(aO g.1 ps,aD ps))=qb at *;have hB:Book g.1 qb:=⟨hnd,fun p hp=>let ⟨ps,h,e⟩:=hent p hp;⟨ps,h.2,e⟩⟩;obtain ⟨R,r1,r2,r3⟩:=FR (b:=g.1) _ hent;have hRl:R.length<=5:=by have e1:=aW List.length r3;rw [bA,oN,bA] at e1;lia
 refine ⟨R,hRl,fun ps h=>(r2 ps h).2,by rw [r3];exact hB.pw hok,?_,fun ps h=>(r2 ps h).1,dF (qb.map (·.1)),by rw [oN,bA];exact hln,hB.srt hok hln,r1⟩;have hmem:aO g.1 m∈R.map (aO g.1):=by rw [r3];exact kS.mpr hmk
 obtain ⟨ps,h1,h2⟩:=omm hmem;rcases (r2 ps h1).1 with h | h
 .have:gks g.1 g.2 (aO g.1 m)=true:=List.any_eq_true.mpr ⟨ps,h,bX h2⟩;rw [hk] at this;cases this
 .rw [<- h];exact h1
theorem rQ {b:Tb}:∀ {R:List Row},(R.map (aO b)).Nodup->∀ {qs:Row},qs∈R->R.filter (fun ps=>decide (aO b ps=aO b qs))=[qs]
 | r::R,nd,qs,h=>by
  rw [aS,cK] at nd;rw [iM];rcases omc h with e | h
  .subst e;rw [bX rfl,if_pos rfl,List.filter_eq_nil_iff.mpr fun ps hp z=>nd.1 (by rw [<- iF z];exact cO.mpr ⟨ps,hp,rfl⟩)]
  .rw [dJ fun z=>nd.1 (by rw [z];exact cO.mpr ⟨qs,h,rfl⟩)];exact rQ nd.2 h
theorem A8 (a b:List Kt):bB .eq (tkT a) (tkT b)=some (.bl (decide (a=b))):=by show (if dpP (tkT a) (tkT b)<=30 then some (T.bl (eqT (tkT a) (tkT b))) else none)=_;rw [if_pos (by rw [sQ];decide),sP]
end
section
variable {ks:List (List Kt)}
theorem A9 {G:Glo} {ρ:Env} {a k d:E} {ks:List Kt} {vs:List T} {x:Str} {w:T} (h1:evE G a ρ=some (.dk ks vs)) (h2:evE G k ρ=some (.str x)) (h3:evE G d ρ=some w):evE G (.dgt a k d) ρ=some ((fG ks vs (.inr (some x))).getD w):=by rw [evE,h1,bQ,h2,bQ,h3];rfl
theorem B0 (G:Glo) (a b:E) (r:Env):evE G (.zl a b) r=(evE G a r).bind fun x=>(evE G b r).bind fun y=>lV x y:=by rw [evE]
theorem B1 {G:Glo} {a b:E} {r:Env} {x y:T} (h1:evE G a r=some x) (h2:evE G b r=some y):evE G (.tup [a,b]) r=some (.tup [x,y]):=by rw [evE,if_pos (by show 2<=1000;decide),aG,h1,bQ,aG,h2,bQ,aG];rfl
noncomputable def lNa:E:=.blt .dict (.comp (.tup [.call "key_of" [.var 15,.var 0],.var 0]) 1 .plain [.bin .add (.var 18) (.tup [.var 15])] none)
noncomputable def lNb:E:=.blt .toTuple (.comp (.idx (.var 17) (.var 0)) 1 .plain [.blt .sorted (.var 16)] none)
noncomputable def lN:List S:=[.ite (.cmp .eq (.idx (.var 10) (.cst (.int 0))) (.idx (.var 8) (.cst (.int 2)))) [.asg 16 lNa,.asg 18 lNb] [],.asg 17 (.bin .add (.var 17) (.tup [.var 18]))]
noncomputable def lM:E:=.blt .toTuple (.comp (.dgt (.var 18) (.idx (.var 0) (.cst (.int 0))) (.var 1)) 2 .zip [.idx (.var 14) (.cst (.int 1)),.var 15] none)
noncomputable def lRb:List S:=[.asg 13 (.idx (.comp (.var 0) 1 .plain [.call "_law_rows" [.var 1,.var 2,.var 5]] (some (.cmp .eq (.call "key_of" [.var 13,.var 0]) (.var 8)))) (.cst (.int 0))),
  .asg 14 (.call "_law_table" [.var 1,.idx (.var 8) (.cst (.int 2))]),
  .asg 15 (.call "_law_row" [.var 14,.call "_law_mixed" [.var 0,.cst (.int 2)]]),
  .asg 16 (.blt .dict (.zl (.idx (.var 14) (.cst (.int 2))) (.call "_law_worths" [.var 12,.var 13,.idx (.var 8) (.cst (.int 1))]))),
  .asg 15 lM,
  .asg 17 (.tup []),
  .loop [10,18] .zip [.var 1,.var 2] lN,
  .ret (.cmp .notin tr3 (.call "breaks" [.var 1,.var 17]))]
noncomputable def lR:List S:=[.asg 12 (.call "_law_table" [.var 1,.var 5]),
  .asg 8 (.idx (.idx (.var 12) (.cst (.int 3))) (.var 6)),
  .ite (.cmp .eq (.idx (.var 8) (.cst (.int 0))) (.cst (.str "refers"))) lRb []]
theorem xY {X:List T} {t:T} (h:X.length<=100):bI .add (.tup X) (.tup [t])=some (.tup (X++[t])):=by show (if X.length+1<=SZ then some (T.tup (X++[t])) else none)=_;exact if_pos (cG (mP h) (by decide))
section
variable {G:Glo} {Z:List Zt} {c:Int} (H:Sto Z) (C:Cal G Z c)
include H C
theorem B2 {N r:T} {g:Zt} (hg:g∈Z) (h4:g.2.length<=4) (hr:aK r (.int 2)=some (.str g.1.nm)) {m:Row} (hm:RowOk g.1 m) {R:List Row} (hks:ks.length<=5) (e1:bO .sorted (dX g.1 (g.2++[m]))=some (.lst (ks.map tkT)))
  (e2:dP (fun x=>(aK (dX g.1 (g.2++[m])) x).map some) (ks.map tkT)=some (R.map aD)) {z:Zt} (hz:z∈Z) {X:List T} (hX:X.length<=100) (s4 s5 s6 s7 s9 s10 s11 s12 s13 s16 s18:Sl) :
  ∃ s16' s18',((bD [10,18] (.tup [z.1.t,rwT z]) (e4 N Z [s4,s5,s6,s7,.val r,s9,s10,s11,s12,s13,.val g.1.t,.val (aD m),s16,.val (.tup X),s18])).bind fun U=>aE G lN U) =
   some (.nx (e4 N Z [s4,s5,s6,s7,.val r,s9,.val z.1.t,s11,s12,s13,.val g.1.t,.val (aD m),s16',.val (.tup (X++[rwT (eI g.1.nm R z)])),s18'])):=by
 have ec:evE G (.cmp .eq (.idx (.var 10) (.cst (.int 0))) (.idx (.var 8) (.cst (.int 2)))) (aB (e4 N Z [s4,s5,s6,s7,.val r,s9,.val z.1.t,s11,s12,s13,.val g.1.t,.val (aD m),s16,.val (.tup X),.val (rwT z)]))=some (.bl (z.1.nm==g.1.nm)):=by rw [mJ,fX,fX];exact (aL (a:=T.str z.1.nm) ((aL (a:=z.1.t) rfl).trans ((aL (a:=T.int 0) rfl).trans (t0 z.1)))).trans ((aL (a:=T.str g.1.nm) ((aL (a:=r) rfl).trans ((aL (a:=T.int 2) rfl).trans hr))).trans rfl)
 cases hw:z.1.nm==g.1.nm with
 | false =>
  rw [hw] at ec;have en:¬ z.1.nm=g.1.nm:=fun e=>by rw [e,jN] at hw;cases hw
  refine ⟨s16,.val (rwT z),(cQ rfl ec:aE G lN (e4 N Z [s4,s5,s6,s7,.val r,s9,.val z.1.t,s11,s12,s13,.val g.1.t,.val (aD m),s16,.val (.tup X),.val (rwT z)])=_).trans ?_⟩;refine (bC (t:=.tup (X++[rwT (eI g.1.nm R z)])) rfl ?_ rfl).trans rfl;rw [sN,show eI g.1.nm R z=z from if_neg en];exact (aL (a:=T.tup X) rfl).trans ((aL (a:=T.tup [rwT z]) rfl).trans (xY hX))
 | true =>
  rw [hw] at ec;have eg:=lF hz hg H.nd (cV hw);subst eg;have hall:∀ ps∈z.2++[m],RowOk z.1 ps:=fun ps h=>by
   rcases oma h with h | h
   .exact (H.ok z hz).2.2 ps h
   .rw [omg h];exact hm
  have hl5:(z.2++[m]).length<=5:=by rw [dW];exact mP h4
  have ea:evE G lNa (aB (e4 N Z [s4,s5,s6,s7,.val r,s9,.val z.1.t,s11,s12,s13,.val z.1.t,.val (aD m),s16,.val (.tup X),.val (rwT z)]))=some (dX z.1 (z.2++[m])):=by
   unfold lNa;rw [gG,jK];refine (aL (a:=T.lst ((z.2++[m]).map fun ps=>.tup [kyT z.1 ps,aD ps])) ((aL (a:=[T.tup ((z.2++[m]).map aD)]) ?_).trans ((aL (qD _ hl5)).trans ?_))).trans (GE z.1 (cG hl5 (by decide)))
   .rw [aG,sN];refine (aL (a:=T.tup ((z.2++[m]).map aD)) ((aL (a:=T.tup (z.2.map aD)) rfl).trans ((aL (a:=T.tup [aD m]) rfl).trans ?_))).trans rfl;rw [eP];exact xY (by rw [bA];exact cG h4 (by decide))
   .rw [kZ (enc:=aD) (fun ps=>T.tup [kyT z.1 ps,aD ps]) fun ps hp=>?_]
    .rfl
    .refine (aL (a:=some (aD ps)::aB (e4 N Z [s4,s5,s6,s7,.val r,s9,.val z.1.t,s11,s12,s13,.val z.1.t,.val (aD m),s16,.val (.tup X),.val (rwT z)])) rfl).trans ?_;rw [B1 (x:=kyT z.1 ps) (y:=aD ps) ?_ rfl]
     .rfl
     .rw [fK];exact (aL (a:=[z.1.t,aD ps]) rfl).trans (C.ky z hz ps (hall ps hp))
  have eb:evE G lNb (aB (e4 N Z [s4,s5,s6,s7,.val r,s9,.val z.1.t,s11,s12,s13,.val z.1.t,.val (aD m),.val (dX z.1 (z.2++[m])),.val (.tup X),.val (rwT z)]))=some (.tup (R.map aD)):=by
   unfold lNb;rw [gG,jK];refine (aL (a:=T.lst (R.map aD)) ((aL (a:=[T.lst (ks.map tkT)]) ?_).trans ((aL (a:=ks.map tkT) ?_).trans ?_))).trans rfl
   .rw [aG,gG];exact (aL (a:=T.lst (ks.map tkT)) ((aL (a:=dX z.1 (z.2++[m])) rfl).trans e1)).trans rfl
   .show (if (ks.map tkT).length<=SZ then some (ks.map tkT) else none)=_;exact if_pos (by rw [bA];exact cG hks (by decide))
   .refine (aW (fun f=>(dP f (ks.map tkT)).map T.lst) (?_:_=fun x=>(aK (dX z.1 (z.2++[m])) x).map some)).trans (by rw [e2];rfl);funext x;refine (aL (a:=some x::aB (e4 N Z [s4,s5,s6,s7,.val r,s9,.val z.1.t,s11,s12,s13,.val z.1.t,.val (aD m),.val (dX z.1 (z.2++[m])),.val (.tup X),.val (rwT z)])) rfl).trans ?_;rw [fX];exact aW (Option.map some) ((aL (a:=dX z.1 (z.2++[m])) rfl).trans (aL (a:=x) rfl))
  refine ⟨.val (dX z.1 (z.2++[m])),.val (.tup (R.map aD)),(nL (U':=(e4 N Z [s4,s5,s6,s7,.val r,s9,.val z.1.t,s11,s12,s13,.val z.1.t,.val (aD m),.val (dX z.1 (z.2++[m])),.val (.tup X),.val (.tup (R.map aD))])) rfl ec ?_:aE G lN (e4 N Z [s4,s5,s6,s7,.val r,s9,.val z.1.t,s11,s12,s13,.val z.1.t,.val (aD m),s16,.val (.tup X),.val (rwT z)])=_).trans ?_⟩
  .exact (bC rfl ea rfl).trans ((bC rfl eb rfl).trans rfl)
  .refine (bC (t:=.tup (X++[rwT (eI z.1.nm R z)])) rfl ?_ rfl).trans rfl;rw [sN,show eI z.1.nm R z=(z.1,R) from if_pos rfl];exact (aL (a:=T.tup X) rfl).trans ((aL (a:=T.tup [.tup (R.map aD)]) rfl).trans (xY hX))
theorem B3 {N r:T} {g:Zt} (hg:g∈Z) (h4:g.2.length<=4) (hr:aK r (.int 2)=some (.str g.1.nm)) {m:Row} (hm:RowOk g.1 m) {R:List Row} (hks:ks.length<=5) (e1:bO .sorted (dX g.1 (g.2++[m]))=some (.lst (ks.map tkT)))
  (e2:dP (fun x=>(aK (dX g.1 (g.2++[m])) x).map some) (ks.map tkT)=some (R.map aD)) (s4 s5 s6 s7 s9 s10 s11 s12 s13 s16 s18:Sl) :
  ∃ s10' s16' s18',cP (fun x U=>(bD [10,18] x U).bind fun U'=>aE G lN U') (Z.map fun z=>.tup [z.1.t,rwT z]) (e4 N Z [s4,s5,s6,s7,.val r,s9,s10,s11,s12,s13,.val g.1.t,.val (aD m),s16,.val (.tup []),s18]) =
   some (.nx (e4 N Z [s4,s5,s6,s7,.val r,s9,s10',s11,s12,s13,.val g.1.t,.val (aD m),s16',.val (stT (mor g.1.nm R Z)),s18'])):=by
 obtain ⟨U',el,s10',s16',s18',rfl⟩:=fW (enc:=fun z:Zt=>T.tup [z.1.t,rwT z]) (f:=fun x U=>(bD [10,18] x U).bind fun U'=>aE G lN U')
  (fun done U=>∃ s10 s16 s18,U=(e4 N Z [s4,s5,s6,s7,.val r,s9,s10,s11,s12,s13,.val g.1.t,.val (aD m),s16,.val (.tup ((done.map (eI g.1.nm R)).map rwT)),s18]))
  Z (e4 N Z [s4,s5,s6,s7,.val r,s9,s10,s11,s12,s13,.val g.1.t,.val (aD m),s16,.val (.tup []),s18]) ⟨_,_,_,rfl⟩ (by
   rintro l1 z l2 hsp U ⟨s10,s16,s18,rfl⟩;have hz:z∈Z:=by rw [hsp];exact fY _ (.head _)
   have hX:((l1.map (eI g.1.nm R)).map rwT).length<=100:=by have:=H.l4;rw [hsp,dW] at this;rw [bA,bA];lia
   obtain ⟨s16',s18',e⟩:=B2 H C (N:=N) hg h4 hr hm hks e1 e2 hz hX s4 s5 s6 s7 s9 s10 s11 s12 s13 s16 s18;refine ⟨_,e,.val z.1.t,s16',s18',?_⟩;rw [eP,eP];rfl)
 exact ⟨s10',s16',s18',el⟩
open Classical in
theorem B4 {N:T} (hN:G.call "_law_mixed" [N,.int 2]=some (.int c)) (h4:∀ z∈Z,z.2.length<=4) (hki:∀ y∈Z,∀ r∈y.1.rs,r.kin (Z.map fun z=>(z.1.nm,z.1.cs,z.1.key)) y.1.cs) {x:Tr} (hx:x∈due Z) (s4 s5 s6 s7 s8 s9 s10 s11 s12 s13 s14 s15 s16 s17 s18:Sl) :
  ((bD [5,6,7] (trT x) (e4 N Z [s4,s5,s6,s7,s8,s9,s10,s11,s12,s13,s14,s15,s16,s17,s18])).bind fun U=>aE G lR U)=some (.rt (.bl true)) \/
  ∃ s5' s6' s7' s8' s12',((bD [5,6,7] (trT x) (e4 N Z [s4,s5,s6,s7,s8,s9,s10,s11,s12,s13,s14,s15,s16,s17,s18])).bind fun U=>aE G lR U) =
   some (.nx (e4 N Z [s4,s5',s6',s7',s8',s9,s10,s11,s12',s13,s14,s15,s16,s17,s18])):=by
 obtain ⟨y,hy,p,hp,qs,hq,hb,rfl⟩:=xW H hx;have ty:∀ ss,aE G (.asg 12 (.call "_law_table" [.var 1,.var 5])::.asg 8 (.idx (.idx (.var 12) (.cst (.int 3))) (.var 6))::ss) (e4 N Z [s4,.val (.str y.1.nm),.val (.int (p.2:Int)),.val (kyT y.1 qs),s8,s9,s10,s11,s12,s13,s14,s15,s16,s17,s18]) =
   aE G ss (e8 N Z s4 y p qs [s9,s10,s11,.val y.1.t,s13,s14,s15,s16,s17,s18]):=fun ss=>by
  refine (bC (t:=y.1.t) rfl ?_ rfl).trans (bC (t:=p.1.t) rfl ?_ rfl)
  .rw [fK];exact (aL (a:=[aM Z,.str y.1.nm]) rfl).trans (C.tb y hy)
  .rw [fX,fX];refine (aL (a:=T.tup (y.1.rs.map Rl.t)) ((aL (a:=y.1.t) rfl).trans ((aL (a:=T.int 3) rfl).trans (t3 y.1)))).trans ((aL (a:=T.int (p.2:Int)) rfl).trans ?_);exact gY (by rw [fL,GT hp];rfl)
 have ec:evE G (.cmp .eq (.idx (.var 8) (.cst (.int 0))) (.cst (.str "refers"))) (aB (e8 N Z s4 y p qs [s9,s10,s11,.val y.1.t,s13,s14,s15,s16,s17,s18]))=some (.bl (wrd p.1==("refers":Str))):=sX rfl _;cases hw:wrd p.1==("refers":Str) with
 | false =>rw [hw] at ec;exact .inr ⟨_,_,_,_,_,(ty _).trans ((cQ rfl ec).trans rfl)⟩
 | true =>
  rw [hw] at ec;refine .inl ((ty _).trans (fP rfl ec ?_));obtain ⟨qa,gn,w,er⟩:∃ qa gn w,p.1=.ref qa gn w:=by
   cases hr:p.1 with
   | ref qa gn w=>exact ⟨qa,gn,w,rfl⟩
   | chk t=>rw [hr] at hw;exact absurd (show (("check":Str)=="refers")=true from hw) (by decide +kernel)
   | unl qa=>rw [hr] at hw;exact absurd (show (("unlike":Str)=="refers")=true from hw) (by decide +kernel)
  have hpr:p.1∈y.1.rs:=jL hp;have hfit:=H.fit y hy _ hpr;have hki':=hki y hy _ hpr;have hrs:=hpr;rw [er] at hfit hki' hrs;obtain ⟨g,hg,eg⟩:=omm hfit.2;replace eg:g.1.nm=gn:=eg;subst eg;obtain ⟨t,ht,et,hkd⟩:=hki';obtain ⟨g',hg',rfl⟩:=omm ht;have:=lF hg' hg H.nd et;subst this;replace hkd:Kds y.1.cs qa (kds g'.1.cs g'.1.key):=hkd;have hlost:=(xQ H hy hp hg er hq).mp hx;rw [bU,Bool.not_eq_true',Bool.not_eq_true'] at hlost;obtain ⟨m0,em,hm0⟩:=C.ro g' hg;obtain ⟨hm,hkm⟩:=A6 (H.ok g' hg).1 (H.ok y hy).1 hm0 ((H.ok y hy).2.2 qs hq) hkd hlost.1;have hkl:g'.1.key.length=(wK qa qs).length:=by unfold wK;rw [bA,hkd.1];unfold kds;rw [bA]
  have ebk:=A5 (H.ok g' hg).1.kn (H.ok g' hg).1.kd hkl (cG (H.ok g' hg).1.k1 (by decide));obtain ⟨R,r1,r2,r3,r4,r5,ks,k1,k2,k3⟩:=A7 (H.ok g' hg).1 (H.ok g' hg).2.2 (h4 g' hg) hm (by rw [hkm];exact hlost.2);have hgone:=ZL H hg r1 r2 r3 r4 r5 hy hp er hq hkm hx;have H':=GM H hg r1 r2 r3;have hro:=C.wo y hy qs hq qa _ w hrs;rw [show woT qa qs=tkT (wK qa qs) by unfold woT;rw [hlost.1];rfl] at hro;have hr2:aK p.1.t (.int 2)=some (.str g'.1.nm):=by rw [er];rfl
  have hr1:aK p.1.t (.int 1)=some (aZ qa):=by rw [er];rfl
  have hz:(m0.map fun q=>T.tup [q.1.t,q.2]).length<=SZ:=by rw [bA];exact cG (hm0.len (H.ok g' hg).1) (by decide)
  unfold lRb;refine (bC (t:=aD qs) (U':=(e8 N Z s4 y p qs [s9,s10,s11,.val y.1.t,.val (aD qs),s14,s15,s16,s17,s18])) rfl ?_ rfl).trans ?_
  .rw [fX];refine (aL (a:=T.lst [aD qs]) ?_).trans ((aL (a:=T.int 0) rfl).trans rfl);refine (nN (enc:=aD) (R:=y.2) (fun ps=>decide (aO y.1 ps=aO y.1 qs)) aD (xs:=[rwT y]) ?_ (qD y.2 (H.ok y hy).2.1) fun ps hps=>⟨_,rfl,?_,fun _=>rfl⟩).trans (by rw [rQ (sV H hy) hq];rfl)
   .rw [aG,fK];exact (aL (a:=rwT y) ((aL (a:=[aM Z,stT Z,.str y.1.nm]) rfl).trans (C.rw y hy))).trans rfl
   .rw [mJ,fK];exact (aL (a:=kyT y.1 ps) ((aL (a:=[y.1.t,aD ps]) rfl).trans (C.ky y hy ps ((H.ok y hy).2.2 ps hps)))).trans ((aL (a:=kyT y.1 qs) rfl).trans (A8 _ _))
  refine (bC (t:=g'.1.t) (U':=(e8 N Z s4 y p qs [s9,s10,s11,.val y.1.t,.val (aD qs),.val g'.1.t,s15,s16,s17,s18])) rfl ?_ rfl).trans ?_
  .rw [fK,aG,aG,fX];exact (aL (a:=[aM Z,.str g'.1.nm]) ((aL (a:=aM Z) rfl).trans ((aL (a:=[T.str g'.1.nm]) ((aL (a:=T.str g'.1.nm) ((aL (a:=p.1.t) rfl).trans ((aL (a:=T.int 2) rfl).trans hr2))).trans rfl)).trans rfl))).trans (C.tb g' hg)
  refine (bC (t:=aD m0) (U':=(e8 N Z s4 y p qs [s9,s10,s11,.val y.1.t,.val (aD qs),.val g'.1.t,.val (aD m0),s16,s17,s18])) rfl ?_ rfl).trans ?_
  .rw [fK,aG,aG,fK];exact (aL (a:=[g'.1.t,.int c]) ((aL (a:=g'.1.t) rfl).trans ((aL (a:=[T.int c]) ((aL (a:=T.int c) ((aL (a:=[N,.int 2]) rfl).trans hN)).trans rfl)).trans rfl))).trans em
  refine (bC (t:=bkD g'.1.key (wK qa qs)) (U':=(e8 N Z s4 y p qs [s9,s10,s11,.val y.1.t,.val (aD qs),.val g'.1.t,.val (aD m0),.val (bkD g'.1.key (wK qa qs)),s17,s18])) rfl ?_ rfl).trans ?_
  .rw [gG,B0,fX,fK];refine (aW (fun o=>o.bind fun x=>bO .dict x) (?_:_=lV (aZ g'.1.key) (tkT (wK qa qs)))).trans ebk;refine (aL (a:=aZ g'.1.key) ((aL (a:=g'.1.t) rfl).trans ((aL (a:=T.int 2) rfl).trans (t2 g'.1)))).trans (aL (a:=tkT (wK qa qs)) ?_);rw [aG,aG,aG,fX];exact (aL (a:=[y.1.t,aD qs,aZ qa]) ((aL (a:=y.1.t) rfl).trans ((aL (a:=[aD qs,aZ qa]) ((aL (a:=aD qs) rfl).trans ((aL (a:=[aZ qa]) ((aL (a:=aZ qa) ((aL (a:=p.1.t) rfl).trans ((aL (a:=T.int 1) rfl).trans hr1))).trans rfl)).trans rfl))).trans rfl))).trans hro
  refine (bC (t:=aD (mkR g'.1.key (wK qa qs) m0)) (U':=(e8 N Z s4 y p qs [s9,s10,s11,.val y.1.t,.val (aD qs),.val g'.1.t,.val (aD (mkR g'.1.key (wK qa qs) m0)),.val (bkD g'.1.key (wK qa qs)),s17,s18])) rfl ?_ rfl).trans ?_
  .unfold lM;rw [gG,jK];refine (aL (a:=T.lst (m0.map fun q=>(lkB g'.1.key (wK qa qs) q.1.n).getD q.2)) ((aL (a:=[T.tup (g'.1.cs.map Col.t),aD m0]) ?_).trans ((aL (a:=m0.map fun q=>T.tup [q.1.t,q.2]) ?_).trans ?_))).trans (by unfold mkR aD;rw [cH];rfl)
   .rw [aG,fX];exact (aL (a:=T.tup (g'.1.cs.map Col.t)) ((aL (a:=g'.1.t) rfl).trans ((aL (a:=T.int 1) rfl).trans (t1 g'.1)))).trans rfl
   .have ez:dS (g'.1.cs.map Col.t) (m0.map (·.2))=m0.map fun q=>T.tup [q.1.t,q.2]:=by
     rw [<- hm0.cs];clear hm0 em hm hkm hz r4 r5 k2 k3 r2 r3 hgone H'
     induction m0 with
     | nil=>rfl
     | cons q m ih=>rw [aS,aS,aS,dS,ih];rfl
    show ((some (dS (g'.1.cs.map Col.t) (m0.map (·.2)))).bind fun qc=>if qc.length<=SZ then some qc else none)=_;rw [ez,bQ,if_pos hz]
   .rw [kZ (enc:=fun q:Col × T=>T.tup [q.1.t,q.2]) (fun q=>(lkB g'.1.key (wK qa qs) q.1.n).getD q.2) fun q hqm=>?_]
    .rfl
    .refine (aL (a:=some q.1.t::some q.2::aB (e8 N Z s4 y p qs [s9,s10,s11,.val y.1.t,.val (aD qs),.val g'.1.t,.val (aD m0),.val (bkD g'.1.key (wK qa qs)),s17,s18])) rfl).trans ?_;show (evE G (.dgt (.var 18) (.idx (.var 0) (.cst (.int 0))) (.var 1)) _).map some=_;refine (aW (Option.map some) (?_:_=some ((lkB g'.1.key (wK qa qs) q.1.n).getD q.2))).trans rfl;refine A9 (ks:=(bkL g'.1.key (wK qa qs)).map (·.1)) (vs:=(bkL g'.1.key (wK qa qs)).map (·.2)) (x:=q.1.n) (w:=q.2) ?_ ?_ ?_<;>rfl
  generalize mkR g'.1.key (wK qa qs) m0=m at *;refine (bC (t:=.tup []) (U':=(e8 N Z s4 y p qs [s9,s10,s11,.val y.1.t,.val (aD qs),.val g'.1.t,.val (aD m),.val (bkD g'.1.key (wK qa qs)),.val (.tup []),s18])) rfl rfl rfl).trans ?_;obtain ⟨s10',s16',s18',el⟩:=B3 H C (N:=N) hg (h4 g' hg) hr2 hm k1 k2 k3 s4 (.val (.str y.1.nm)) (.val (.int (p.2:Int))) (.val (kyT y.1 qs)) s9 s10 s11 (.val y.1.t) (.val (aD qs)) (.val (bkD g'.1.key (wK qa qs))) s18;refine (bP (hJ (xs:=[aM Z,stT Z]) (qc:=Z.map fun z=>T.tup [z.1.t,rwT z]) rfl rfl (by show some (dS (Z.map fun z=>z.1.t) (Z.map rwT))=_;rw [sO]) el)).trans ?_;refine cF rfl ?_;rw [mJ,fK];refine (aL (a:=trT (trO y p.2 qs)) rfl).trans ((aL (a:=sm (mor g'.1.nm R Z)) ((aL (a:=[aM Z,stT (mor g'.1.nm R Z)]) rfl).trans (C.br _ H' ?_))).trans ?_)
  .unfold aM mor;rw [cH];exact aW T.tup (iZ fun z _=>by show (eI _ _ z).1.t=_;rw [nQ])
  .show (inC (trT (trO y p.2 qs)) (.tup ((ord (due (mor g'.1.nm R Z))).map trT))).map (fun b=>T.bl (!b))=_;rw [xU,dJ fun z=>hgone (nR.mp z)];rfl
theorem HE {N:T} (hN:G.call "_law_mixed" [N,.int 2]=some (.int c)) (h4:∀ z∈Z,z.2.length<=4) (hki:∀ y∈Z,∀ r∈y.1.rs,r.kin (Z.map fun z=>(z.1.nm,z.1.cs,z.1.key)) y.1.cs) (s4 s9 s10 s11 s13 s14 s15 s16 s17 s18:Sl) :
  ∀ (L:List Tr),(∀ x∈L,x∈due Z)->∀ s5 s6 s7 s8 s12,∃ o,cP (fun x U=>(bD [5,6,7] x U).bind fun U'=>aE G lR U') (L.map trT) (e4 N Z [s4,s5,s6,s7,s8,s9,s10,s11,s12,s13,s14,s15,s16,s17,s18])=some o/\(o=.rt (.bl true)\/∃ U,o=.nx U)
 | [],_,s5,s6,s7,s8,s12=>⟨_,rfl,.inr ⟨_,rfl⟩⟩
 | x::L,h,s5,s6,s7,s8,s12=>by
  rw [aS,cP];rcases B4 H C hN h4 hki (h x (.head _)) s4 s5 s6 s7 s8 s9 s10 s11 s12 s13 s14 s15 s16 s17 s18 with e | ⟨s5',s6',s7',s8',s12',e⟩
  .rw [e];exact ⟨_,rfl,.inl rfl⟩
  .rw [e];exact HE hN h4 hki s4 s9 s10 s11 s13 s14 s15 s16 s17 s18 L (fun y hy=>h y (.tail _ hy)) s5' s6' s7' s8' s12'
end
end
section
noncomputable def qG:Fd:=⟨1,19,[.asg 1 (.call "_law_schema" [.call "_law_mixed" [.var 0,.cst (.int 0)]]),
  .asg 2 (.call "_law_loose" [.var 1,.call "_law_mixed" [.var 0,.cst (.int 1)]]),
  .asg 3 (.call "breaks" [.var 1,.var 2]),.dnew 4,.loop [5,6,7] .plain [.var 3] lA,.kloop [5,6] 4 lK,.loop [5,6,7] .plain [.var 3] lR,.ret (.cst (.bl true))]⟩
theorem B5 {G:Glo} {Z:List Zt} {c:Int} (H:Sto Z) (C:Cal G Z c) (h4:∀ z∈Z,z.2.length<=4) (hki:∀ y∈Z,∀ r∈y.1.rs,r.kin (Z.map fun z=>(z.1.nm,z.1.cs,z.1.key)) y.1.cs) {N:T} {a b:Int} (em0:G.call "_law_mixed" [N,.int 0]=some (.int a)) (em1:G.call "_law_mixed" [N,.int 1]=some (.int b)) (em2:G.call "_law_mixed" [N,.int 2]=some (.int c))
  (es:G.call "_law_schema" [.int a]=some (aM Z)) (ez:G.call "_law_loose" [aM Z,.int b]=some (stT Z)) :
  aE G qG.body [.val N,.no,.no,.no,.no,.no,.no,.no,.no,.no,.no,.no,.no,.no,.no,.no,.no,.no,.no]=some (.rt (.bl true)):=by
 unfold qG;refine (bC (t:=aM Z) (U':=[.val N,.val (aM Z),.no,.no,.no,.no,.no,.no,.no,.no,.no,.no,.no,.no,.no,.no,.no,.no,.no]) rfl ?_ rfl).trans ?_
 .rw [fK,aG,fK];exact (aL (a:=[T.int a]) ((aL (a:=T.int a) ((aL (a:=[N,T.int 0]) rfl).trans em0)).trans rfl)).trans es
 refine (bC (t:=stT Z) (U':=[.val N,.val (aM Z),.val (stT Z),.no,.no,.no,.no,.no,.no,.no,.no,.no,.no,.no,.no,.no,.no,.no,.no]) rfl ?_ rfl).trans ?_
 .rw [fK,aG,aG,fK];exact (aL (a:=[aM Z,T.int b]) ((aL (a:=aM Z) rfl).trans ((aL (a:=[T.int b]) ((aL (a:=T.int b) ((aL (a:=[N,T.int 1]) rfl).trans em1)).trans rfl)).trans rfl))).trans ez
 refine (bC (t:=sm Z) (U':=(e4 N Z [.no,.no,.no,.no,.no,.no,.no,.no,.no,.no,.no,.no,.no,.no,.no])) rfl ?_ rfl).trans ?_
 .rw [fK];exact (aL (a:=[aM Z,stT Z]) rfl).trans (C.br Z H rfl)
 refine (bP (U':=(e4 N Z [.dk [],.no,.no,.no,.no,.no,.no,.no,.no,.no,.no,.no,.no,.no,.no])) (by rw [evS];rfl)).trans ?_;obtain ⟨qb,s5,s6,s7,s8,s9,s11,hc,hd,e1⟩:=A0 H C N;refine (bP (hJ (xs:=[sm Z]) (qc:=(ord (due Z)).map trT) rfl rfl rfl e1)).trans ?_;obtain ⟨s5',s6',e2⟩:=A2 H C (N:=N) hc s5 s6 s7 s8 s9 .no s11 .no .no .no .no .no .no .no;refine (bP (A3 (qb:=qb) rfl ?_ e2)).trans ?_
 .simp only [List.any_cons,List.any_nil,Bool.or_false,Bool.or_eq_false_iff] at hd ⊢;exact ⟨rfl,rfl,rfl,rfl,by cases qb<;>rfl,hd.1,hd.2.1,hd.2.2.1,hd.2.2.2.1,hd.2.2.2.2.1,rfl,hd.2.2.2.2.2,rfl,rfl,rfl,rfl,rfl,rfl,rfl⟩
 obtain ⟨o,e3,ho⟩:=HE H C em2 h4 hki (.val (.dt (qb.map (·.1)) (qb.map (·.2)))) s9 .no s11 .no .no .no .no .no .no (ord (due Z)) (fun x hx=>nR.mp hx) s5' s6' s7 s8 .no;have e4:=hJ (is:=[5,6,7]) (src:=[.var 3]) (k:=.plain) (body:=lR) (xs:=[sm Z]) (qc:=(ord (due Z)).map trT) (U:=(e4 N Z [.val (.dt (qb.map (·.1)) (qb.map (·.2))),s5',s6',s7,s8,s9,.no,s11,.no,.no,.no,.no,.no,.no,.no])) rfl rfl rfl e3;rcases ho with rfl | ⟨U,rfl⟩
 .exact kE e4
 .exact (bP e4).trans (kE (by rw [evS,evE];rfl))
theorem B6 {P:Pr} (hc:P.fn "_law_cell_at"=some oQ) (hm:P.fn "_law_mixed"=some sC) (hd:P.fn "_law_drawn"=some iI) (ht:P.fn "_law_test"=some iU) (hp:P.fn "_law_pairs"=some mD) (hr:P.fn "_law_rule"=some kC)
  (hb:P.fn "_law_bare"=some kY) (hs:P.fn "_law_schema"=some sE) (hw:P.fn "_law_worth"=some iJ) (hrw:P.fn "_law_row"=some sG) (hlo:P.fn "_law_loose"=some wN) (hnm:P.fn "_law_names"=some nK) (hky:P.fn "_law_key"=some oR) (htb:P.fn "_law_table"=some vR) (hwo:P.fn "_law_worths"=some pU) (p:Prg P) (hbr:P.fn "breaks"=some xE)
  (hls:P.fn "_law_less"=some xR) (hro:P.fn "_law_rows"=some vT) (hl:P.fn "law"=some qG) (ns:List Int) :
  run P 20 "law" [.lst (ns.map .int)]=some (.bl true):=by
 obtain ⟨S,es,hSl,hSo,hSp,hSn,hSf,hSk⟩:=WW hd ht hp hr hb hs 12 (mE (iV ns 0) 0);have em:∀ k:Nat,(glo P (run P 19)).call "_law_mixed" [.lst (ns.map .int),.int (k:Int)]=some (.int (mE (iV ns k) k)):=fun k=>UW hc hm 17 ns k;obtain ⟨Z,ez,hZS,hZ⟩:=XV hd hw hrw hnm hky hlo 16 hSo hSl (mE (iV ns 1) 1);subst hZS;have eS:T.tup ((Z.map (·.1)).map Tb.t)=aM Z:=by rw [cH];rfl
 have es':(glo P (run P 19)).call "_law_schema" [.int (mE (iV ns 0) 0)]=some (aM Z):=by rw [<- eS];exact es
 have ez':(glo P (run P 19)).call "_law_loose" [aM Z,.int (mE (iV ns 1) 1)]=some (stT Z):=by rw [<- eS];exact ez
 have h4:∀ z∈Z,z.2.length<=4:=fun z hz=>(hZ z hz).1;have H:Sto Z:=ZF (by simpa using hSl) (by rw [List.map_map] at hSn;exact hSn) hSo hSf fun z hz=>⟨Nat.le_trans (hZ z hz).1 (by decide),(hZ z hz).2⟩;have C:Cal (glo P (run P 19)) Z (mE (iV ns 2) 2):=⟨fun g hg=>YZ htb 18 H hg,fun nm k=>ZN p.hwo p.hk hls 16 H nm k,
  fun Z' H' e=>by rw [<- e];exact (ZH p hbr 12 H').trans (by unfold sm;rw [ZR]),
  fun y hy=>XY hro 18 H.l4 hy H.nd,fun y hy qs hq=>oW p.hwo p.hk 17 (H.ok y hy).1 hq,
  fun y hy qs hq qa g w hr=>YY hnm hwo 17 (H.ok y hy).1 ((H.ok y hy).2.2 qs hq) (H.fit y hy _ hr).1 ((H.ok y hy).1.rs _ hr).2.1,
  fun g hg=>FO hd hw hrw 17 (H.ok g hg).1 _⟩
 have h0:=B5 H C h4 (fun y hy r hr=>by have:=hSk y.1 (cO.mpr ⟨y,hy,rfl⟩) r hr;rw [cH] at this;exact this) (em 0) (em 1) (em 2) es' ez';rw [cE hl rfl];exact (aW aY h0).trans rfl
end
end Ev.K04
section
lay_quick PySem.Challenge.pw_dealtables_k21_whole_what_breaks
namespace Ev
open PySem Spec PyProof.Rows L2 K04
noncomputable def pT:Program:=PySem.W.Fast.tw14374366623818008388
theorem HF:PySem.Challenge.pw_dealtables_k21_whole_what_breaks=pT:=PySem.W.Fast.te14374366623818008388
noncomputable def top (i:Nat):Stmt:=pT.main.body.getD i (.Pass ⟨0,0,0,0⟩)
noncomputable def tab:Tab:=("table_of",qA,top 1,["schema", "name"])::("worths_of",gX,top 2,["table", "row", "names"])::("holds",gD,top 4,["table", "test", "row"])::("opposite",nJ,top 5,["answer"])::("joined",pS,top 6,["settling", "answers"])::("compared",kB,top 7,["word", "worths"])::("key_of",mG,top 9,["table", "row"])::("rows_of",qB,top 10,["schema", "store", "name"])::("rows_by_key",oV,top 11,["schema", "store", "name"])::("is_kept",xC,top 12,["table", "row", "rule"])::("key_referred_to",nM,top 13,["table", "rule", "row"])::("references_by",sR,top 14,["table", "rule", "rows"])::("breaks",xE,top 15,["schema", "store"])::("keys_that_break",sS,top 16,["schema", "store", "table", "rule"])::("keys_alike",xG,top 17,["table", "rule", "rows"])::("keys_referring_to_none",qC,top 18,["schema", "store", "table", "rule"])::("_law_cell_at",oQ,top 20,["_law_script", "_law_k"])::("_law_mixed",sC,top 21,["_law_script", "_law_k"])::("_law_drawn",iI,top 22,["_law_number", "_law_k"])::("_law_names",nK,top 23,["_law_table_here"])::("_law_table",vR,top 24,["_law_schema_here", "_law_name"])::("_law_key",oR,top 25,["_law_table_here", "_law_row_here"])::("_law_worths",pU,top 26,["_law_table_here", "_law_row_here", "_law_columns"])::("_law_rows",vT,top 27,["_law_schema_here", "_law_store", "_law_name"])::("_law_test",iU,top 28,["_law_table_here", "_law_number", "_law_deep"])::("_law_bare",kY,top 29,["_law_name", "_law_number"])::("_law_pairs",mD,top 30,["_law_table_here", "_law_kinds"])::("_law_rule",kC,top 31,["_law_bare_here", "_law_table_here", "_law_number"])::("_law_schema",sE,top 32,["_law_number"])::("_law_worth",iJ,top 33,["_law_column", "_law_number"])::("_law_row",sG,top 34,["_law_table_here", "_law_number"])::("_law_loose",wN,top 35,["_law_schema_here", "_law_number"])::("_law_less",xR,top 36,["_law_schema_here", "_law_store", "_law_name", "_law_key_here"])::("law",qG,top 37,["_law_script"])::[]
theorem B7:(tab.all fun p=>vO p.2.1 p.2.2.1 p.2.2.2)=true:=by kernel_rfl
theorem B8:(tab.map fun p=>jG 60 ⟨bK p.2.2.1,fV (bK p.2.2.1)⟩ (iG p.2.2.1))=tab.map fun p=>some p.2.1.body:=by kernel_rfl
theorem tab_st:∀ p∈tab,St p.1 p.2.1 p.2.2.1 p.2.2.2:=fun p hp=>UU (oml B7 p hp) (List.map_inj_left.mp B8 p hp)
theorem law_mem:(("law":Str),qG,top 37,[("_law_script":Str)])∈tab:=fT (i:=33) rfl
theorem law_pure:∀ ns:List Int,ns.length<=63->run tab.pr 20 "law" [.lst (ns.map .int)]=some (.bl true):=fun ns _=>K04.B6 rfl rfl rfl rfl rfl rfl rfl rfl rfl rfl rfl rfl rfl rfl rfl ⟨rfl,rfl,rfl,rfl,rfl,rfl,rfl,rfl,rfl,rfl,rfl,rfl,rfl,rfl,rfl⟩ rfl rfl rfl rfl ns
end Ev
end
section
namespace Ev
open PySem PySem.Spec PySem.W PyProof.Rows L2
noncomputable def qT:Program:=PySem.W.view pT [1,2,4,5,6,7,9,10,11,12,13,14,15,16,17,18,20,21,22,23,24,25,26,27,28,29,30,31,32,33,34,35,36,37]
noncomputable def xT (s:Shared):Bool:=xlAt qT [] s&&recOk [] s
noncomputable def sts:List (Str × Stmt):=("table_of",top 1)::("worths_of",top 2)::("holds",top 4)::("opposite",top 5)::("joined",top 6)::("compared",top 7)::("key_of",top 9)::("rows_of",top 10)::("rows_by_key",top 11)::("is_kept",top 12)::("key_referred_to",top 13)::("references_by",top 14)::("breaks",top 15)::("keys_that_break",top 16)::("keys_alike",top 17)::("keys_referring_to_none",top 18)::("_law_cell_at",top 20)::("_law_mixed",top 21)::("_law_drawn",top 22)::("_law_names",top 23)::("_law_table",top 24)::("_law_key",top 25)::("_law_worths",top 26)::("_law_rows",top 27)::("_law_test",top 28)::("_law_bare",top 29)::("_law_pairs",top 30)::("_law_rule",top 31)::("_law_schema",top 32)::("_law_worth",top 33)::("_law_row",top 34)::("_law_loose",top 35)::("_law_less",top 36)::("law",top 37)::[]
noncomputable def hkT:Hook:=ED sts ("_law_spoilt"::bnames)
noncomputable def hdL (w:World):=(openEnds treeTable pT w 2132).map fun s=>(openSeen qT [] (importedModules pT.main.body) xT true s,kW (sts.map (·.1)) ("_law_spoilt"::bnames) s.heap)
noncomputable def hdR (w:World):=some (openGood qT [],kX sts ("_law_spoilt"::bnames))
lay_quick Ev.hdL Ev.hdR
theorem B9:∀ w,PySem.W.Fast.tw16613198539260469538 w=PySem.W.Fast.tw4742246816059606431 w:=fun w=>by kernel_rfl
theorem hd_left':LeftO PySem.Challenge.pw_dealtables_k21_whole_what_breaks qT [] xT hkT.obs hkT.val 2132:=by rw [HF];exact fun w=>((congrFun PySem.W.Fast.te16613198539260469538 w).trans (B9 w)).trans (congrFun PySem.W.Fast.te4742246816059606431 w).symm
theorem nm_law:("law":Str)=⟨#[108,97,119]⟩:=by decide +kernel
noncomputable def dL:DefRec:=⟨⟨#[108,97,119]⟩,kL (top 37),iG (top 37),bK (top 37),(match top 37 with | .FunctionDef _ _ _ _ _ _ _ _ _ p=>p | _=>⟨0,0,0,0⟩)⟩
theorem hd_def:defOf qT ("law":Str)=some (dL,[]):=by rw [nm_law];kernel_rfl
theorem hd_the:Program.theDef PySem.Challenge.pw_dealtables_k21_whole_what_breaks ("law":Str)=some (dL.params,dL.body,dL.scope):=by rw [HF,nm_law];kernel_rfl
end Ev
open PySem PySem.W PyProof.Rows
set_option maxRecDepth 100000 in
set_option maxHeartbeats 0 in
theorem PySem.Challenge.cw_dealtables_k21_whole_what_breaks_holds : PySem.Challenge.rw_dealtables_k21_whole_what_breaks.Holds := by
 w_on;o_law
 refine PySem.W.holds_open (q:=Ev.qT) (loose:=[]) (Xt:=Ev.xT) (XP:=XL Ev.qT []) (Yf:=Ev.hkT.obs) (Ya:=Ev.hkT.val) (YP:=Ev.hkT.says) (N:=2132) Ev.hd_left' Ev.hkT.of Ev.hkT.keeps (fun s e=>xl_of s (Bool.and_eq_true_iff.mp e).1) XL.keeps Ev.hd_def Ev.hd_the rfl (fun s e=>recFacts_of (Bool.and_eq_true_iff.mp e).2) rfl (by assumption) (by first | k_qdec | decide +kernel) ⟨rfl,rfl,rfl,rfl,rfl,by decide +kernel⟩ ?hw ?hc
 case hw=>w_witness2
 case hc=>exact Ev.UR (l:=PySem.Challenge.rw_dealtables_k21_whole_what_breaks) (n:=63) (k:=20) (x:="_law_script") (fs:=Ev.tab.sts) (R:=Ev.tab.pr) rfl (by decide) rfl ⟨rfl,by decide,by decide⟩ (fun w mg fa h0 h KX e0 G hmg=>Ev.US Ev.tab_st KX e0 G (by rw [Ev.nm_law];exact hmg) Ev.law_mem rfl) (.head _) Ev.law_pure
end
