import PyProof.Rows.All
import Wide.All
import OpenK.AllK
import Wide.FinOn
import Lean
import PyProof.EqAt
import PyProof.EqKinds
import PyProof.TupleCall
import PySem.Syntax
import PySem.Builtin.Str.Common
import PySem.Eval
import PyProof.CompFree
import PyProof.Cells
import PyProof.NeKinds
import PyProof.FString5
import PyProof.Draws
import PyProof.EnumMake
import PyProof.TupleIter
import PyProof.EnumFor
import KE.KSortTup
import KE.KDictSum
import KE.KItemsList
import PyProof.Rows.SetFrom
import PyProof.Rows.SetListFold
import PyProof.IsiH_list
import PyProof.AttrMiss
import KE.KDictOf
import PyProof.ZipIter
import PyProof.DictValues
import PySem.Challenge.RW_dealtables_k20_breaks
set_option Elab.async false
set_option linter.all false
set_option maxRecDepth 100000
set_option maxHeartbeats 8000000
noncomputable section
section
open PySem Spec PyProof.Rows
def zxz:=@Heap.get?_push_of_some
def zx0:=@Option.bind_some
def zx1:=@wpAny_bind
def zx4:=@List.map_cons
def zx5:=@wpAny_pure
def zx6:=@List.getElem?_eq_getElem
def zx7:=@Bool.and_eq_true
def zx8:=@List.mem_cons_of_mem
def zx9:=@Heap.get?_push_size
def zya:=@List.length_map
def zyb:=@List.getD_eq_getElem?_getD
def zyc:=@List.mem_cons_self
def zyd:=@List.size_toArray
def zye:=@Nat.le_refl
def zyf:=@Heap.lt_size
def zyg:=@Bool.false_ne_true
def zyh:=@List.append_nil
def zyi:=@Nat.lt_of_lt_of_le
def zyj:=@List.length_append
def zyk:=@Option.some.inj
def zyl:=@Heap.size_push
def zym:=@congrArg
def zyn:=@Array.length_toList
def zyo:=@decide_eq_true
def zyp:=@Nat.ne_of_lt
def zyq:=@List.length_cons
def zyr:=@Nat.le_trans
def zys:=@decide_eq_false
def zyt:=@Nat.zero_le
def zyu:=@List.getElem?_set_ne
def zyv:=@List.getElem?_map
def zyw:=@wpAny_call_entry
def zyx:=@List.map_append
def zyy:=@List.filterMap_cons
def zyz:=@wpAny_newObj_type
def zy0:=@List.lookup_cons
def zy1:=@wpAny_callSpecial?_slot
def zy2:=@List.mem_append_right
def zy3:=@List.map_map
def zy4:=@List.getElem?_append_left
def zy5:=@Bool.false_eq_true
def zy6:=@of_decide_eq_true
def zy7:=@List.getElem?_append_right
def zy8:=@List.mem_of_getElem?
def zy9:=@Nat.lt_irrefl
def zzb:=@List.append_assoc
def zzd:=@List.mem_range
def zze:=@decide_eq_true_eq
def zzf:=@List.length_take
def zzg:=@Array.getElem?_toList
def zzh:=@Nat.succ_le_succ
def zzi:=@wpAny_mono
theorem xgz {α:Type _} {a:α} {l:List α}:(a::l)[0]?=some a:=rfl
theorem xgs {α:Type _} {a:α} {l:List α} {i:Nat}:(a::l)[i+1]?=l[i]?:=rfl
theorem xbs {α β:Type _} {a:α} {f:α->Option β}:(some a).bind f=f a:=rfl
theorem xjs {α:Type _} {a:Option α}:(some a).join=a:=rfl
theorem xmc {α β:Type _} {a:α} {l:List α} {f:α->β}:(a::l).map f=f a::l.map f:=rfl
theorem xmn {α β:Type _} {f:α->β}:[].map f=[]:=rfl
theorem xms {α β:Type _} {a:α} {f:α->β}:(some a).map f=some (f a):=rfl
theorem xss {α:Type _} {a b:α} {l:List α} {n:Nat}:(a::l).set (n+1) b=a::l.set n b:=rfl
theorem xsz {α:Type _} {a b:α} {l:List α}:(a::l).set 0 b=b::l:=rfl
end
theorem obs {α β:Type} {o:Option α} {f:α->Option β} {b:β}:o.bind f=some b->∃ a,o=some a/\f a=some b:=Option.bind_eq_some_iff.mp
theorem oms {α β:Type} {o:Option α} {f:α->β} {b:β}:o.map f=some b->∃ a,o=some a/\f a=b:=Option.map_eq_some_iff.mp
theorem omc {α:Type} {a b:α} {l:List α}:a∈b::l->a=b\/a∈l:=List.mem_cons.mp
theorem oma {α:Type} {a:α} {s t:List α}:a∈s++t->a∈s\/a∈t:=List.mem_append.mp
theorem omm {α β:Type} {f:α->β} {l:List α} {b:β}:b∈l.map f->∃ a,a∈l/\f a=b:=List.mem_map.mp
theorem omg {α:Type} {a b:α}:a∈[b]->a=b:=List.mem_singleton.mp
theorem oml {α:Type} {p:α->Bool} {l:List α}:l.all p=true->∀ x,x∈l->p x=true:=List.all_eq_true.mp
theorem ome {α:Type} {l:List α} {i:Nat} {a:α}:l[i]?=some a->∃ h:i<l.length,l[i]=a:=List.getElem?_eq_some_iff.mp
section
namespace L2
open PySem Spec PyProof.Rows
section
abbrev Key:=Sum Int (Option Str)
def yar:Value->Bool
 | .none=>true
 | _=>false
theorem zhu {v:Value} (h:yar v=true):v=Value.none:=by cases v<;>first | rfl | cases h
def yc9:Key->Value->Bool
 | .inl k,v=>Value.isInt k v
 | .inr (some x),v=>Value.isStrOf x v
 | .inr none,v=>yar v
def keyH (w:World):Key->Int
 | .inl k=>hashInt k
 | .inr (some x)=>hashStr w x
 | .inr none=>4238894112
theorem zaz:∀ {k:Key} {v:Value},yc9 k v=true->(∃ i t,k=Sum.inl i/\v=Value.int i t)\/(∃ x t,k=Sum.inr (some x)/\v=Value.str x t)\/(k=Sum.inr none/\v=Value.none)
 | .inl i,v,h=>by obtain ⟨t,e⟩:=Value.isInt_shape (k:=i) (v:=v) h;exact .inl ⟨i,t,rfl,e⟩
 | .inr (some x),v,h=>by obtain ⟨t,e⟩:=Value.isStrOf_shape (x:=x) (v:=v) h;exact .inr (.inl ⟨x,t,rfl,e⟩)
 | .inr none,v,h=>.inr (.inr ⟨rfl,zhu h⟩)
theorem zl2 (i:Int) (t:Tok):yc9 (.inl i) (.int i t)=true:=by simp [yc9,Value.isInt]
theorem zl1 (x:Str) (t:Tok):yc9 (.inr (some x)) (.str x t)=true:=by simp [yc9,Value.isStrOf]
theorem zvy (a b:Int):decide ((Sum.inl a:Key)=Sum.inl b)=(a==b):=by
 by_cases e:a=b
 ·subst e;simp
 ·have h:¬ (Sum.inl a:Key)=Sum.inl b:=fun q=>e (Sum.inl.inj q);rw [zys h];exact (beq_eq_false_iff_ne.mpr e).symm
theorem zvv (a b:Str):decide ((Sum.inr (some a):Key)=Sum.inr (some b))=decide (a=b):=by
 by_cases e:a=b
 ·subst e;simp
 ·have h:¬ (Sum.inr (some a):Key)=Sum.inr (some b):=fun q=>e (zyk (Sum.inr.inj q));rw [zys h,zys e]
theorem zqe (a:Int) (b:Option Str):decide ((Sum.inl a:Key)=Sum.inr b)=false:=zys (fun q=>nomatch q)
theorem zqc (a:Option Str) (b:Int):decide ((Sum.inr a:Key)=Sum.inl b)=false:=zys (fun q=>nomatch q)
theorem zvu (a:Str):decide ((Sum.inr (some a):Key)=Sum.inr none)=false:=zys (fun q=>nomatch (Sum.inr.inj q))
theorem zvw (a:Str):decide ((Sum.inr none:Key)=Sum.inr (some a))=false:=zys (fun q=>nomatch (Sum.inr.inj q))
theorem zvx:decide ((Sum.inr none:Key)=Sum.inr none)=true:=zyo rfl
theorem zdr {prog:Program} {w:World} {A:Around} {E:Value->Shared->Prop} {s:Shared} {Q:Int->Shared->Prop} (h:Q 4238894112 { s with toks:=s.toks+1 }):wpAny (model prog w) A (PySem.pyHash .none) Q E s :=
 PySem.W.pyHash_slot (T:="NoneType") rfl PySem.F.slot_NoneType_hash PySem.F.entry_NoneType_hash (PySem.F.args_NoneType_hash_1 _) (beq_builtin_none _) (.inl rfl) (zx1 (zx5 (zx1 (wpAny_mkInt (zx5 ⟨_,_,rfl,h⟩)))))
def zat (prog:Program) (w:World):PySem.KeyKind prog w Key where
 is:=yc9
 hash:=keyH w
 inj:=fun v a b ha hb=>by rcases zaz ha with ⟨i,t,rfl,rfl⟩ | ⟨x,t,rfl,rfl⟩ | ⟨rfl,rfl⟩<;>rcases zaz hb with ⟨j,u,rfl,e⟩ | ⟨y,u,rfl,e⟩ | ⟨rfl,e⟩<;>first | (cases e;rfl) | cases e
 byValue:=fun k v h=>by rcases zaz h with ⟨i,t,rfl,rfl⟩ | ⟨x,t,rfl,rfl⟩ | ⟨rfl,rfl⟩<;>rfl
 pyHash:=fun hv h=>by
  rcases zaz hv with ⟨i,t,rfl,rfl⟩ | ⟨x,t,rfl,rfl⟩ | ⟨rfl,rfl⟩
  ·exact wpAny_pyHash_int h
  ·exact wpAny_pyHash_str h
  ·exact zdr h
 eqBool:=fun hu hv h=>by
  rcases zaz hu with ⟨i,t,rfl,rfl⟩ | ⟨x,t,rfl,rfl⟩ | ⟨rfl,rfl⟩
  ·rcases zaz hv with ⟨j,u,rfl,rfl⟩ | ⟨y,u,rfl,rfl⟩ | ⟨rfl,rfl⟩
   ·rw [zvy] at h;exact wpAny_eqBool_int h
   ·rw [zqe] at h;exact SeqAt.EqAt.int_str i t y u _ _ _ _ h
   ·rw [zqe] at h;exact SeqAt.EqAt.int_none i t _ _ _ _ h
  ·rcases zaz hv with ⟨j,u,rfl,rfl⟩ | ⟨y,u,rfl,rfl⟩ | ⟨rfl,rfl⟩
   ·rw [zqc] at h;exact SeqAt.EqAt.str_int x t j u _ _ _ _ h
   ·rw [zvv] at h;exact wpAny_eqBool_str h
   ·rw [zvu] at h;exact SeqAt.EqAt.str_none x t _ _ _ _ h
  ·rcases zaz hv with ⟨j,u,rfl,rfl⟩ | ⟨y,u,rfl,rfl⟩ | ⟨rfl,rfl⟩
   ·rw [zqc] at h;exact SeqAt.EqAt.none_int j u _ _ _ _ h
   ·rw [zvw] at h;exact SeqAt.EqAt.none_str y u _ _ _ _ h
   ·rw [zvx] at h;exact SeqAt.EqAt.same .none _ _ _ _ h
 «strs»:=fun k x t v h=>by
  rcases zaz h with ⟨i,u,rfl,e⟩ | ⟨y,u,rfl,e⟩ | ⟨rfl,e⟩
  ·exact nomatch e
  ·injection e with e1 _;subst e1;cases v<;>rfl
  ·exact nomatch e
theorem zhn (prog:Program) (w:World) (i:Int) (t:Tok):(zat prog w).is (.inl i) (.int i t)=true:=zl2 i t
theorem zhm (prog:Program) (w:World) (x:Str) (t:Tok):(zat prog w).is (.inr (some x)) (.str x t)=true:=zl1 x t
end
section
variable {b:Addr}
inductive V where
 | non | bl (b:Bool) | int (i:Int) | str (x:Str) | byt (b:Array UInt8) | flt (b:UInt64) | ref (a:Addr) | ty (n:String)
 deriving DecidableEq
def RelV:V->Value->Prop
 | .non,u=>u=Value.none
 | .bl b,u=>u=Value.bool b
 | .int i,u=>∃ t,u=Value.int i t
 | .str x,u=>∃ t,u=Value.str x t
 | .byt b,u=>∃ t,u=Value.bytes b t
 | .flt b,u=>∃ t,u=Value.float b t
 | .ref a,u=>u=Value.ref a
 | .ty n,u=>u=Value.type n
abbrev Vals:List V->List Value->Prop:=Paired RelV
theorem Vals.length {xs:List V} {us:List Value} (r:Vals xs us):xs.length=us.length:=Paired.length r
theorem Vals.get:∀ {xs:List V} {us:List Value} {i:Nat} {x:V},Vals xs us->xs[i]?=some x->∃ u,us[i]?=some u/\RelV x u
 | _,_,_,_,.nil,e=>by simp at e
 | _,_,0,_,.cons r _,e=>by simp at e;subst e;exact ⟨_,rfl,r⟩
 | _,_,i+1,x,.cons _ t,e=>by obtain ⟨u,h1,h2⟩:=Vals.get (i:=i) (x:=x) t (by simpa using e);exact ⟨u,by simpa using h1,h2⟩
theorem Vals.append:∀ {xs ys:List V} {us ws:List Value},Vals xs us->Vals ys ws->Vals (xs++ys) (us++ws)
 | _,_,_,_,.nil,s=>s
 | _,_,_,_,.cons r t,s=>.cons r (Vals.append t s)
theorem Vals.take:∀ {xs:List V} {us:List Value} (n:Nat),Vals xs us->Vals (xs.take n) (us.take n)
 | _,_,0,_=>.nil
 | _,_,_+1,.nil=>.nil
 | _,_,n+1,.cons r t=>.cons r (Vals.take n t)
theorem Vals.drop:∀ {xs:List V} {us:List Value} (n:Nat),Vals xs us->Vals (xs.drop n) (us.drop n)
 | _,_,0,r=>r
 | _,_,_+1,.nil=>.nil
 | _,_,n+1,.cons _ t=>Vals.drop n t
def RelO:Option V->Option Value->Prop
 | some v,some u=>RelV v u
 | none,none=>True
 | _,_=>False
def KV {κ:Type}:List (κ × V)->List (κ × Value)->Prop:=Paired fun (p:κ × V) (q:κ × Value)=>p.1=q.1/\RelV p.2 q.2
def kV:Key->V
 | .inl i=>.int i
 | .inr (some x)=>.str x
 | .inr none=>.non
inductive HO where
  | lst (xs:List V)
  | tup (xs:List V)
  | dK (qb:List (Key × V)) | dT (qb:List (List Key × V))
  | set (S:Int->Bool) (n:Nat)
  | ins (C dx:Addr) (fs:List (Str × V))
  | own (x:Addr)
  | xd (fs:List (Str × V))
  | met (f x:Addr)
  | rng (lo hi:Int)
  | frz (o:Obj) (u:HO)
  | tbl (ps:Array Value)
  | ext (φ:Heap->Prop)
abbrev Hp:=Addr->Option HO
def upd (H:Hp) (a:Addr) (o:HO):Hp:=fun b=>if b=a then some o else H b
theorem zag {H:Hp} {a:Addr} {o:HO}:upd H a o a=some o:=by unfold upd;rw [if_pos rfl]
theorem zad {H:Hp} {a:Addr} {o:HO} (h:b≠a):upd H a o b=H b:=by unfold upd;rw [if_neg h]
theorem zhl {H:Hp} {a:Addr} {o u:HO} (h:H a=some o) (h':H b=some u) (d:o≠u):a≠b:=by intro e;subst e;rw [h] at h';exact d (zyk h')
theorem zae {H:Hp} {a:Addr} {o:HO} (h:H a=some o) (h':H b=none):a≠b:=by intro e;subst e;rw [h] at h';cases h'
section
variable (P:Program) (w:World)
def ObjOk (H:Hp) (h:Heap) (a:Addr):HO->Prop
 | .lst xs=>xs.length<=sizeLine/\∃ (qc:List Value) (n:Nat),Vals xs qc/\h.get? a=some { cls:=.type "list",data:=.seq qc.toArray n }
 | .tup xs=>xs.length<=sizeLine/\∃ qc:List Value,Vals xs qc/\IsTup h a qc.toArray
 | .dK qb=>qb.length<=sizeLine/\(a==sysModules)=false/\∃ vs,KV qb vs/\h.DictOf (zat P w) a vs
 | .dT qb=>qb.length<=sizeLine/\(a==sysModules)=false/\∃ xs:List (List Key × Addr × Value),
   Paired (fun (p:List Key × V) (q:List Key × Addr × Value)=>p.1=q.1/\H q.2.1=some (.tup (p.1.map kV))/\RelV p.2 q.2.2) qb xs /\
   ∃ o es ep,h.get? a=some o/\o.ExactDict/\o.data=.dict es ep/\es.toList=xs.map (entryOfKey (tupleKind (zat P w)))/\(xs.map (·.1)).Nodup
 | .set S n=>h.SetOf (intKind P w) a S n
 | .ins C dx fs=>H dx=some (.own a)/\fs.length<=1000/\dx≠a/\h.get? a=some (PySem.W.instObj C dx) /\
   ∃ mA,h.Ns1 dx mA/\(∀ f,RelO (fs.lookup f) (mA f))/\PySem.Within mA (fs.map (·.1))
 | .own _=>∃ o,h.get? a=some o
 | .xd fs=>∃ mA,h.Ns1 a mA/\∀ f,RelO (fs.lookup f) (mA f)
 | .rng lo hi=>∃ t u v,h.get? a=some { cls:=.type "range",data:=.fields #[.int lo t,.int hi u,.int 1 v] }
 | .frz o u=>h.get? a=some o/\ObjOk H h a u
 | .tbl ps=>h.get? a=some { cls:=.none,data:=.fields ps }
 | .met f x=>h.get? a=some (PySem.W.methodObj (.ref f) (.ref x))
 | .ext φ=>φ h/\(∃ o,h.get? a=some o)/\∀ h1 h2:Heap,φ h1->(∀ o,h1.get? a=some o->h2.get? a=some o)->φ h2
def HOk (H:Hp) (h:Heap):Prop:=∀ a o,H a=some o->ObjOk P w H h a o
end
section
variable {P:Program} {w:World} {H H':Hp} {h h':Heap} {a:Addr} {o:HO}
theorem ObjOk.lt (x:ObjOk P w H h a o):a<h.objs.size:=by
 cases o with
 | lst xs=>obtain ⟨_,_,_,_,e⟩:=x;exact zyf e
 | tup xs=>obtain ⟨_,_,_,p⟩:=x;exact p.lt
 | dK qb=>obtain ⟨_,_,_,_,o,_,_,e,_⟩:=x;exact zyf e
 | dT qb=>obtain ⟨_,_,_,_,o,_,_,e,_⟩:=x;exact zyf e
 | set S n=>obtain ⟨o,_,_,_,e,_⟩:=x;exact zyf e
 | ins C dx fs=>obtain ⟨_,_,_,e,_⟩:=x;exact zyf e
 | own y=>obtain ⟨_,e⟩:=x;exact zyf e
 | xd fs=>obtain ⟨_,⟨_,_,_,e,_⟩,_⟩:=x;exact zyf e
 | rng lo hi=>obtain ⟨_,_,_,e⟩:=x;exact zyf e
 | frz ob u=>obtain ⟨e,_⟩:=x;exact zyf e
 | tbl ps=>exact zyf (show h.get? a=some _ from x)
 | met f y=>exact zyf (show h.get? a=some _ from x)
 | ext φ=>obtain ⟨_,⟨_,e⟩,_⟩:=x;exact zyf e
theorem Paired.mapP {α β:Type} {F G:α->β->Prop}:∀ {l₁:List α} {l₂:List β},Paired F l₁ l₂->(∀ a b,F a b->G a b)->Paired G l₁ l₂
 | _,_,.nil,_=>.nil
 | _,_,.cons r t,f=>.cons (f _ _ r) (Paired.mapP t f)
theorem ObjOk.stay (x:ObjOk P w H h a o) (k:∀ b u,(b=a\/H b=some (.own a))->h.get? b=some u->h'.get? b=some u)
  (ho:∀ b,H b=some (.own a)->H' b=some (.own a)) (ht:∀ b xs,H b=some (.tup xs)->H' b=some (.tup xs)):ObjOk P w H' h' a o:=by
 induction o with
 | lst xs=>obtain ⟨z,qc,n,r,e⟩:=x;exact ⟨z,qc,n,r,k _ _ (.inl rfl) e⟩
 | tup xs=>obtain ⟨z,qc,r,ob,e,c⟩:=x;exact ⟨z,qc,r,ob,k _ _ (.inl rfl) e,c⟩
 | dK qb=>obtain ⟨z,y,vs,r,ob,es,ep,e,c⟩:=x;exact ⟨z,y,vs,r,ob,es,ep,k _ _ (.inl rfl) e,c⟩
 | dT qb =>obtain ⟨z,y,xs,r,ob,es,ep,e,c⟩:=x;exact ⟨z,y,xs,Paired.mapP r fun p q z=>⟨z.1,ht _ _ z.2.1,z.2.2⟩,ob,es,ep,k _ _ (.inl rfl) e,c⟩
 | set S n=>obtain ⟨ob,es,ep,t,e,c⟩:=x;exact ⟨ob,es,ep,t,k _ _ (.inl rfl) e,c⟩
 | ins C dx fs =>obtain ⟨d,z,ne,e,mA,⟨od,es,ep,e2,c⟩,r⟩:=x;exact ⟨ho _ d,z,ne,k _ _ (.inl rfl) e,mA,⟨od,es,ep,k _ _ (.inr d) e2,c⟩,r⟩
 | own y=>obtain ⟨ob,e⟩:=x;exact ⟨ob,k _ _ (.inl rfl) e⟩
 | xd fs=>obtain ⟨mA,⟨od,es,ep,e,c⟩,r⟩:=x;exact ⟨mA,⟨od,es,ep,k _ _ (.inl rfl) e,c⟩,r⟩
 | rng lo hi=>obtain ⟨t,u,v,e⟩:=x;exact ⟨t,u,v,k _ _ (.inl rfl) e⟩
 | frz ob u ih=>obtain ⟨e,q⟩:=x;exact ⟨k _ _ (.inl rfl) e,ih q⟩
 | tbl ps =>have e:h.get? a=some { cls:=.none,data:=.fields ps }:=x;show h'.get? a=some { cls:=.none,data:=.fields ps };exact k a _ (.inl rfl) e
 | met f y =>have e:h.get? a=some (PySem.W.methodObj (.ref f) (.ref y)):=x;show h'.get? a=some (PySem.W.methodObj (.ref f) (.ref y));exact k a _ (.inl rfl) e
 | ext φ=>obtain ⟨p,⟨o,e⟩,st⟩:=x;exact ⟨st _ _ p fun o q=>k _ _ (.inl rfl) q,⟨o,k _ _ (.inl rfl) e⟩,st⟩
theorem HOk.lt (x:HOk P w H h) (e:H a=some o):a<h.objs.size:=(x a o e).lt
theorem HOk.fresh (x:HOk P w H h) (e:h.objs.size<=a):H a=none:=by
 cases q:H a with
 | none=>rfl
 | some u=>exact absurd (zyi (x.lt q) e) (zy9 _)
theorem HOk.kept (x:HOk P w H h) (k:∀ b u,h.get? b=some u->h'.get? b=some u):HOk P w H h':=fun a o e =>(x a o e).stay (fun b u _ q=>k b u q) (fun _ q=>q) fun _ _ q=>q
theorem HOk.laid (x:HOk P w H h) (k:∀ b u,h.get? b=some u->h'.get? b=some u) (hp:h.objs.size<=a) (new:ObjOk P w (upd H a o) h' a o):HOk P w (upd H a o) h':=fun b u e=>by
 have hn:=x.fresh hp;by_cases hb:b=a
 ·subst hb;rw [zag] at e;cases e;exact new
 ·rw [zad hb] at e;exact (x b u e).stay (fun c v _ q=>k c v q) (fun c q=>by rw [zad (zae q hn)];exact q) fun c xs q=>by rw [zad (zae q hn)];exact q
end
def Rd (H:Hp) (a:Addr) (u:HO):Prop:=H a=some u\/∃ o,H a=some (.frz o u)
theorem Rd.ok {P:Program} {w:World} {H:Hp} {h:Heap} {a:Addr} {u:HO} (r:Rd H a u) (x:HOk P w H h):ObjOk P w H h a u:=by
 rcases r with r | ⟨o,r⟩
 ·exact x a u r
 ·obtain ⟨_,q⟩:=x a _ r;exact q
def Mut:Option HO->Prop
 | some (.lst _)=>True
 | some (.dK _)=>True
 | some (.dT _)=>True
 | some (.set _ _)=>True
 | some (.ins _ _ _)=>True
 | some (.ext _)=>True
 | _=>False
section
variable {P:Program} {w:World} {H:Hp} {h h':Heap} {x e:Addr} {o':HO}
theorem HOk.write (ok:HOk P w H h) (mu:Mut (H x)) (he:e=x\/H e=some (.own x)) (k:∀ b u,b≠e->h.get? b=some u->h'.get? b=some u) (heo:∃ u,h'.get? e=some u)
  (new:ObjOk P w (upd H x o') h' x o'):HOk P w (upd H x o') h':=fun b u q=>by
 have nown:∀ c y,H c=some (.own y)->c≠x:=fun c y r z=>by subst z;rw [r] at mu;exact mu
 have ntup:∀ c xs,H c=some (.tup xs)->c≠x:=fun c xs r z=>by subst z;rw [r] at mu;exact mu
 by_cases hb:b=x
 ·subst hb;rw [zag] at q;cases q;exact new
 ·rw [zad hb] at q;by_cases hbe:b=e
  ·have q':H b=some (.own x):=by
    rcases he with z | z
    ·exact absurd (hbe.trans z) hb
    ·rw [hbe];exact z
   rw [q] at q';cases q';obtain ⟨v,hv⟩:=heo;exact ⟨v,by rw [hbe];exact hv⟩
  ·refine (ok b u q).stay (fun c v hc r=>k c v ?_ r) (fun c r=>by rw [zad (nown c b r)];exact r) fun c xs r=>by rw [zad (ntup c xs r)];exact r
   rcases hc with rfl | hc
   ·exact hbe
   ·rintro rfl;rcases he with z | z
    ·exact nown c b hc z
    ·rw [hc] at z;cases z;exact hb rfl
end
structure Un (fs ex:List Addr) (H H':Hp) (h h':Heap):Prop where
 keep:∀ b o,h.get? b=some o->H b=none->b∉fs->b∉ex->h'.get? b=some o
 slot:∀ b o,h.get? b=some o->H b=none->b∈fs->b∉ex->∃ sl,h'.get? b=some { o with slots:=sl }
 free:∀ b o,h.get? b=some o->H b=none->b∉ex->H' b=none
 there:∀ b o,h.get? b=some o->b∉ex->∃ o',h'.get? b=some o'
 tups:∀ b xs,H b=some (.tup xs)->H' b=some (.tup xs)
 frzs:∀ b o u,H b=some (.frz o u)->H' b=some (.frz o u)
 tbls:∀ b ps,H b=some (.tbl ps)->∃ ydf,H' b=some (.tbl (ps++ydf))
section
variable {fs fs' ex ex':List Addr} {H H1 H2:Hp} {h h1 h2 h':Heap} {a x e:Addr} {o:HO}
theorem Un.any (u:Un fs ex H H1 h h1) {ob:Obj} (q:h.get? b=some ob) (n:H b=none) (hx:b∉ex):∃ sl,h1.get? b=some { ob with slots:=sl }:=by
 by_cases hb:b∈fs
 ·exact u.slot b ob q n hb hx
 ·exact ⟨ob.slots,u.keep b ob q n hb hx⟩
theorem Un.kept (k:∀ b u,h.get? b=some u->h'.get? b=some u):Un fs ex H H h h' :=
 ⟨fun b ob q _ _ _=>k b ob q,fun b ob q _ _ _=>⟨ob.slots,k b ob q⟩,fun _ _ _ n _=>n,fun b ob q _=>⟨ob,k b ob q⟩,fun _ _ q=>q,fun _ _ _ q=>q,fun _ ps q=>⟨#[],by rw [q];simp⟩⟩
theorem Un.refl:Un fs ex H H h h:=Un.kept fun _ _ q=>q
theorem Un.laid (k:∀ b u,h.get? b=some u->h'.get? b=some u) (hp:h.objs.size<=a) (hn:H a=none):Un fs ex H (upd H a o) h h' where
 keep:=fun b u q _ _ _=>k b u q
 slot:=fun b u q _ _ _=>⟨u.slots,k b u q⟩
 free:=fun b u q n _=>by rw [zad (zyp (zyi (zyf q) hp))];exact n
 there:=fun b u q _=>⟨u,k b u q⟩
 tups:=fun b xs q=>by rw [zad (zae q hn)];exact q
 frzs:=fun b u xs q=>by rw [zad (zae q hn)];exact q
 tbls:=fun b ps q=>⟨#[],by rw [zad (zae q hn),q];simp⟩
theorem Un.write (mu:Mut (H x)) (he:e=x\/H e=some (.own x)) (k:∀ b u,b≠e->h.get? b=some u->h'.get? b=some u) (heo:∃ u,h'.get? e=some u):Un fs ex H (upd H x o) h h':=by
 have hx:∀ b,H b=none->b≠x:=fun b n z=>by subst z;rw [n] at mu;exact mu
 have hb:∀ b,H b=none->b≠e:=fun b n z=>by
  subst z;rcases he with r | r
  ·exact hx b n r
  ·rw [n] at r;cases r
 have hm:∀ b u,H b=some u->¬ Mut (some u)->b≠x:=fun b u q nm z=>by subst z;rw [q] at mu;exact nm mu
 refine ⟨fun b u q n _ _=>k b u (hb b n) q,fun b u q n _ _=>⟨u.slots,k b u (hb b n) q⟩,fun b u q n _=>by rw [zad (hx b n)];exact n,fun b u q _=>?_,
  fun b xs q=>by rw [zad (hm b _ q fun z=>z)];exact q,fun b u xs q=>by rw [zad (hm b _ q fun z=>z)];exact q,fun b ps q=>⟨#[],by rw [zad (hm b _ q fun z=>z),q];simp⟩⟩
 by_cases hbe:b=e
 ·subst hbe;exact heo
 ·exact ⟨u,k b u hbe q⟩
end
def trk (h:Heap) (H:Hp):List Addr:=(List.range h.objs.size).filter fun a=>(H a).isSome
def yd2 (h:Heap) (H:Hp):Heap:=PySem.W.hideAll h (trk h H)
theorem zme (h:Heap) (H:Hp):(yd2 h H).objs.size=h.objs.size:=PySem.W.hideAll_size _ _
theorem zo5 {h:Heap} {H:Hp} {o:Obj} (e:h.get? b=some o) (n:H b=none):(yd2 h H).get? b=some o :=
 PySem.W.hideAll_get _ e fun hm=>by have q:(H b).isSome=true:=(List.mem_filter.mp hm).2;rw [n] at q;simp at q
theorem zsi {h:Heap} {H:Hp} {o:Obj} (e:(yd2 h H).get? b=some o):h.get? b=some o/\H b=none:=by
 have e':h.get? b=some o:=PySem.W.of_hideAll (trk h H) e;refine ⟨e',?_⟩;cases q:H b with
 | none=>rfl
 | some x =>have hm:b∈trk h H:=List.mem_filter.mpr ⟨List.mem_range.mpr (Heap.lt_size e'),by simp [q]⟩;have z:(yd2 h H).get? b=none:=PySem.W.hideAll_none (trk h H) hm;rw [z] at e;cases e
def zti (g h:Heap) (L:Addr):List (Addr × Obj):=(List.range h.objs.size).filterMap fun a=>if a=L\/(g.get? a).isSome=true then none else (h.get? a).map fun o=>(a,o)
def rest (g h:Heap) (L d:Addr):List (Addr × Obj):=(zti g h L).filter fun p=>decide (p.1≠d)
end
section
variable {t' i:Nat} {ch:List Addr} {x:Str} {A:Around} {E:Value->Shared->Prop}
structure Mod (K:PySem.W.Frag) (mg:Str->Option Value) (base:Heap):Prop where
 kin:K.In base
 glob:base.Ns mainGlobals mg
 blt:∃ mb,base.Ns builtinsNs mb/\∀ x:Str,x≠"__name__"->mb x=bootBuiltins x
 nolimit:base.NoLimit
structure Cx where
 prog:Program
 w:World
 K:PySem.W.Frag
 mg:Str->Option Value
 base:Heap
 A:Around
 N:List Str
 s₀:Shared
 H₀:Hp
 env:Env
 outer:List Env
 stack:List Env
 ex:List Addr
 fn:Str->Bool
 calm:Bool
 pn:List (Addr × Obj)
 xe:Value->Shared->Prop
def frs (l:List Env):List Addr:=l.filterMap (·.frame)
abbrev Cx.fs (X:Cx):List Addr:=frs X.outer
def Vis (sc:Scope) (x:Str):Prop:=sc.names.lookup x=some .local\/sc.names.lookup x=some .cell\/sc.names.lookup x=some .free
def Loc (sc:Scope) (x:Str):Prop:=sc.names.lookup x=some .local\/sc.names.lookup x=some .cell
def Look (env:Env) (h:Heap) (m:Str->Option Value) (x:Str) (u:Value):Prop :=
 (env.kindOf x=some .local/\m x=some u)\/((env.kindOf x=some .cell\/env.kindOf x=some .free)/\∃ c,env.cells.lookup x=some c/\h.IsCell c (some u))
structure Cx.Ok (X:Cx):Prop where
 mod:Mod X.K X.mg X.base
 kind:X.env.scope.kind=.function
 glob:X.env.globals=mainGlobals
 blt:X.env.builtins=builtinsNs
 above:X.s₀.heap.objs.size<=X.env.locals
 inj:∀ x y c,X.env.cells.lookup x=some c->X.env.cells.lookup y=some c->x=y
 has:∀ x,(X.env.kindOf x=some .cell\/X.env.kindOf x=some .free)->∃ c,X.env.cells.lookup x=some c
 cab:∀ x c,X.fn x=true->X.env.cells.lookup x=some c->X.s₀.heap.objs.size<=c
 hd:X.calm=true->X.A.handled=none
 frames:X.A.frames=some X.stack
 stk:X.stack=X.outer\/(X.stack=X.env::X.outer/\X.env.frame=some X.env.locals)
 exf:∀ b∈X.ex,b≠X.env.locals/\∀ x c,X.env.cells.lookup x=some c->c≠b
 bs:∀ b o,X.base.get? b=some o->X.s₀.heap.get? b=some o/\X.H₀ b=none
 bsz:X.base.objs.size<=X.s₀.heap.objs.size
 noex:∀ b o,X.base.get? b=some o->b∉X.ex
 exfs:∀ b∈X.ex,b∉X.fs
 funs:X.s₀.heap.FunFrames X.base X.outer
 frf:∀ b∈X.fs,X.H₀ b=none
structure Inv (X:Cx) (pj:List (Addr × Obj)) (σ:List (Option V)) (H:Hp) (s:Shared):Prop where
 ok:X.Ok
 os:s.os=X.s₀.os
 bare:AllBare s.gens
 base:Un X.fs X.ex X.H₀ H X.s₀.heap s.heap
 loc:∃ m,s.heap.Ns X.env.locals m/\∀ (i:Nat) (x:Str) (v:V),X.N[i]?=some x->σ[i]?=some (some v)->Vis X.env.scope x->∃ u,RelV v u/\Look X.env s.heap m x u
 cell:∀ x c,X.env.cells.lookup x=some c->∃ v,s.heap.IsCell c v
 free:H X.env.locals=none
 freeC:∀ x c,X.env.cells.lookup x=some c->H c=none
 pin:∀ p∈X.pn++pj,s.heap.get? p.1=some p.2/\H p.1=none/\p.1≠X.env.locals/\p.1∉X.fs/\∀ v,p.2.data≠.cell v
 hok:HOk X.prog X.w H s.heap
 len:σ.length=X.N.length
section
variable {X:Cx} {pj:List (Addr × Obj)} {σ:List (Option V)} {H H':Hp} {s:Shared} {h':Heap}
theorem Cx.Ok.nofr (ok:X.Ok) {b:Addr} {o:Obj} (e:X.base.get? b=some o):b∉X.fs:=fun hb=>by have:=(ok.funs.mem hb).1;rw [e] at this;cases this
theorem Inv.bs (I:Inv X pj σ H s):∀ b o,X.base.get? b=some o->s.heap.get? b=some o/\H b=none:=fun b o e =>⟨I.base.keep b o (I.ok.bs b o e).1 (I.ok.bs b o e).2 (I.ok.nofr e) (I.ok.noex b o e),I.base.free b o (I.ok.bs b o e).1 (I.ok.bs b o e).2 (I.ok.noex b o e)⟩
theorem Inv.bk (I:Inv X pj σ H s):∀ b o,X.base.get? b=some o->s.heap.get? b=some o:=fun b o e=>(I.bs b o e).1
theorem Inv.mod (I:Inv X pj σ H s):Mod X.K X.mg X.base:=I.ok.mod
theorem Inv.kIn (I:Inv X pj σ H s):X.K.In s.heap:=I.ok.mod.kin.keeps I.bk
theorem Inv.lt (I:Inv X pj σ H s):X.env.locals<s.heap.objs.size:=let ⟨_,hn,_⟩:=I.loc;hn.lt
theorem Inv.sz (I:Inv X pj σ H s):X.s₀.heap.objs.size<=s.heap.objs.size:=zyr I.ok.above (Nat.le_of_lt I.lt)
theorem Inv.nofs (I:Inv X pj σ H s) {a:Addr} (h:s.heap.objs.size<=a):a∉X.fs:=fun hb=>by obtain ⟨_,o,ho,_⟩:=I.ok.funs.mem hb;exact absurd (zyi (zyf ho) (zyr I.sz h)) (zy9 _)
theorem Inv.cne (I:Inv X pj σ H s):∀ x c,X.env.cells.lookup x=some c->c≠X.env.locals:=fun x c e z=>by obtain ⟨v,o,ho,hd⟩:=I.cell x c e;obtain ⟨m,⟨o',es,ep,ho',hd',_⟩,_⟩:=I.loc;rw [z,ho'] at ho;cases ho;rw [hd'] at hd;cases hd
theorem Inv.funs (I:Inv X pj σ H s):s.heap.FunFrames X.base X.outer:=by
 have all:∀ (l:List Env),(∀ b∈frs l,b∈X.fs)->X.s₀.heap.FunFrames X.base l->s.heap.FunFrames X.base l:=by
  intro l
  induction l with
  | nil=>intro _ _;trivial
  | cons env r ih =>intro hs hl;obtain ⟨hk,⟨L,o,hf,hn,ho,hd⟩,hr⟩:=hl;have hL:L∈X.fs:=hs L (by unfold frs;rw [zyy,hf];exact zyc);obtain ⟨sl,e⟩:=I.base.slot L o ho (I.ok.frf L hL) hL fun z=>I.ok.exfs L z hL;exact ⟨hk,⟨L,_,hf,hn,e,hd⟩,ih (fun b hb=>hs b (by unfold frs;rw [zyy,hf];exact zx8 _ hb)) hr⟩
 exact all X.outer (fun _ hb=>hb) I.ok.funs
theorem Inv.stack (I:Inv X pj σ H s):s.heap.FunFrames X.base X.stack:=by
 rcases I.ok.stk with e | ⟨e,hf⟩
 ·rw [e];exact I.funs
 ·rw [e];obtain ⟨m,hn,_⟩:=I.loc;refine .cons (by rw [I.ok.kind];decide) hf hn ?_ I.funs;exact Heap.get?_none_of_le (zyr I.ok.bsz I.ok.above)
theorem Inv.stkSub (I:Inv X pj σ H s):∀ b∈frs X.stack,b∈X.env.locals::X.fs:=fun b hb=>by
 rcases I.ok.stk with e | ⟨e,hf⟩
 ·rw [e] at hb;exact zx8 _ hb
 ·rw [e] at hb;unfold frs at hb;rw [zyy,hf] at hb;exact hb
theorem Inv.stkFree (I:Inv X pj σ H s):∀ b∈frs X.stack,H b=none:=fun b hb=>by
 rcases omc (I.stkSub b hb) with e | hb
 ·rw [e];exact I.free
 ·obtain ⟨_,o,ho,_⟩:=I.ok.funs.mem hb;exact I.base.free b o ho (I.ok.frf b hb) fun z=>I.ok.exfs b z hb
theorem Inv.step {g':Array GenState} {d':Drawn} (I:Inv X pj σ H s)
  (hch:∀ b∈ch,(b∈X.ex\/X.s₀.heap.objs.size<=b)/\b≠X.env.locals/\(∀ x c,X.env.cells.lookup x=some c->c≠b)/\∀ p∈X.pn++pj,p.1≠b)
  (keep:∀ b o,b≠X.env.locals->b∉X.fs->b∉ch->s.heap.get? b=some o->H b=none->h'.get? b=some o)
  (slot:∀ b o,b≠X.env.locals->b∈X.fs->b∉ch->s.heap.get? b=some o->H b=none->∃ sl,h'.get? b=some { o with slots:=sl }) (free:∀ b o,b∉ch->s.heap.get? b=some o->H b=none->H' b=none)
  (there:∀ b o,b∉ch->s.heap.get? b=some o->∃ o',h'.get? b=some o')
  (tups:∀ b xs,H b=some (.tup xs)->H' b=some (.tup xs)) (frzs:∀ b o u,H b=some (.frz o u)->H' b=some (.frz o u)) (tbls:∀ b ps,H b=some (.tbl ps)->∃ ydf,H' b=some (.tbl (ps++ydf)))
  (ns:∀ m,s.heap.Ns X.env.locals m->h'.Ns X.env.locals m) (hok:HOk X.prog X.w H' h') (hg:AllBare g') :
  Inv X pj σ H' { s with heap:=h',gens:=g',drawn:=d',toks:=t' }:=by
 have neL:∀ b o,X.s₀.heap.get? b=some o->b≠X.env.locals:=fun b o e=>zyp (zyi (zyf e) I.ok.above);have neC:∀ b o,X.s₀.heap.get? b=some o->b∉X.ex->b∉ch:=fun b o e hx hb=>by
  rcases (hch b hb).1 with z | z
  ·exact hx z
  ·exact absurd (zyi (zyf e) z) (zy9 _)
 have cellK:∀ x c,X.env.cells.lookup x=some c->∀ v,s.heap.IsCell c v->h'.IsCell c v:=fun x c e v ⟨o,ho,hd⟩=>by
  have nch:c∉ch:=fun z=>(hch c z).2.2.1 x c e rfl;by_cases hc:c∈X.fs
  ·obtain ⟨sl,q⟩:=slot c o (I.cne x c e) hc nch ho (I.freeC x c e);exact ⟨_,q,hd⟩
  ·exact ⟨o,keep c o (I.cne x c e) hc nch ho (I.freeC x c e),hd⟩
 refine ⟨I.ok,I.os,hg,⟨fun b o e n hb hx=>?_,fun b o e n hb hx=>?_,fun b o e n hx=>?_,fun b o e hx=>?_,fun b xs e=>tups b xs (I.base.tups b xs e),fun b o xs e=>frzs b o xs (I.base.frzs b o xs e),fun b ps e=>?_⟩,?_,fun x c e=>?_,?_,fun x c e=>?_,fun p hp=>?_,hok,I.len⟩
 ·exact keep b o (neL b o e) hb (neC b o e hx) (I.base.keep b o e n hb hx) (I.base.free b o e n hx)
 ·obtain ⟨sl,e1⟩:=I.base.slot b o e n hb hx;obtain ⟨sl',e2⟩:=slot b _ (neL b o e) hb (neC b o e hx) e1 (I.base.free b o e n hx);exact ⟨sl',e2⟩
 ·obtain ⟨o',e1⟩:=I.base.there b o e hx;exact free b o' (neC b o e hx) e1 (I.base.free b o e n hx)
 ·obtain ⟨o',e1⟩:=I.base.there b o e hx;exact there b o' (neC b o e hx) e1
 ·obtain ⟨m1,e1⟩:=I.base.tbls b ps e;obtain ⟨m2,e2⟩:=tbls b _ e1;exact ⟨m1++m2,by rw [e2,Array.append_assoc]⟩
 ·obtain ⟨m,hn,hl⟩:=I.loc;refine ⟨m,ns m hn,fun i x v e1 e2 e3=>?_⟩;obtain ⟨u,r,l⟩:=hl i x v e1 e2 e3;refine ⟨u,r,?_⟩;rcases l with l | ⟨k,c,e,z⟩
  ·exact .inl l
  ·exact .inr ⟨k,c,e,cellK x c e _ z⟩
 ·obtain ⟨v,z⟩:=I.cell x c e;exact ⟨v,cellK x c e v z⟩
 ·obtain ⟨m,⟨o,_,_,ho,_⟩,_⟩:=I.loc;exact free _ o (fun z=>(hch _ z).2.1 rfl) ho I.free
 ·obtain ⟨v,o,ho,hd⟩:=I.cell x c e;exact free c o (fun z=>(hch c z).2.2.1 x c e rfl) ho (I.freeC x c e)
 ·obtain ⟨e,n,ne,nf,d⟩:=I.pin p hp;have nch:p.1∉ch:=fun z=>(hch p.1 z).2.2.2 p hp rfl;exact ⟨keep p.1 p.2 ne nf nch e n,free p.1 p.2 nch e n,ne,nf,d⟩
theorem Inv.un (I:Inv X pj σ H s) (u:Un X.fs [] H H' s.heap h') (hok:HOk X.prog X.w H' h'):Inv X pj σ H' { s with heap:=h',toks:=t' }:=by
 obtain ⟨m,⟨o,es,ep,ho,r⟩,_⟩:=id I.loc;obtain ⟨sl,hL⟩:=u.any ho I.free (by simp);exact I.step (g':=s.gens) (d':=s.drawn) (ch:=[]) (fun _ z=>nomatch z) (fun b o _ hb _ e n=>u.keep b o e n hb (by simp)) (fun b o _ hb _ e n=>u.slot b o e n hb (by simp)) (fun b o _ e n=>u.free b o e n (by simp)) (fun b o _ e=>u.there b o e (by simp)) u.tups u.frzs u.tbls (fun m' hm=>by obtain ⟨o',es',ep',ho',r'⟩:=hm;rw [ho] at ho';cases ho';exact ⟨_,es',ep',hL,r'⟩) hok I.bare
theorem Inv.call {g':Array GenState} {d':Drawn} (I:Inv X pj σ H s) (u:Un (frs X.stack) ch H H' s.heap h') (hok:HOk X.prog X.w H' h') (hg:AllBare g')
  (hch:∀ b∈ch,(b∈X.ex\/X.s₀.heap.objs.size<=b)/\b≠X.env.locals/\(∀ x c,X.env.cells.lookup x=some c->c≠b)/\∀ p∈X.pn++pj,p.1≠b) :
  Inv X pj σ H' { s with heap:=h',gens:=g',drawn:=d',toks:=t' }:=by
 obtain ⟨m,⟨o,es,ep,ho,r⟩,_⟩:=id I.loc;obtain ⟨sl,hL⟩:=u.any ho I.free fun z=>(hch _ z).2.1 rfl;exact I.step (ch:=ch) hch (fun b o hL hb hc e n=>u.keep b o e n (fun z=>(omc (I.stkSub b z)).elim hL hb) hc) (fun b o _ _ hc e n=>u.any e n hc) (fun b o hc e n=>u.free b o e n hc) (fun b o hc e=>u.there b o e hc) u.tups u.frzs u.tbls (fun m' hm=>by obtain ⟨o',es',ep',ho',r'⟩:=hm;rw [ho] at ho';cases ho';exact ⟨_,es',ep',hL,r'⟩) hok hg
theorem Inv.turned {it:Addr} (I:Inv X pj σ H s) (k:∀ b o,b≠it->s.heap.get? b=some o->h'.get? b=some o) (hn:H it=none) (hL:it≠X.env.locals)
  (h1:it∈X.ex\/X.s₀.heap.objs.size<=it) (h2:∀ x c,X.env.cells.lookup x=some c->c≠it) (h3:∀ p∈X.pn++pj,p.1≠it):Inv X pj σ H { s with heap:=h',toks:=t' }:=by
 have nit:∀ b u,H b=some u->b≠it:=fun b u e z=>by rw [z,hn] at e;cases e
 refine I.step (g':=s.gens) (d':=s.drawn) (ch:=[it]) (fun b hb=>?_) (fun b o _ _ hc e _=>k b o (fun z=>hc (by simp [z])) e) (fun b o _ _ hc e _=>⟨o.slots,k b o (fun z=>hc (by simp [z])) e⟩) (fun _ _ _ _ n=>n)
  (fun b o hc e=>⟨o,k b o (fun z=>hc (by simp [z])) e⟩) (fun _ _ e=>e) (fun _ _ _ e=>e) (fun b ps e=>⟨#[],by rw [e];simp⟩) (fun m hm=>?_) (fun b u e=>?_) I.bare
 ·have e:b=it:=by simpa using hb
  subst e;exact ⟨h1,hL,h2,h3⟩
 ·obtain ⟨o,es,ep,ho,r⟩:=hm;exact ⟨o,es,ep,k _ o (Ne.symm hL) ho,r⟩
 ·refine (I.hok b u e).stay (fun c v hc q=>k c v ?_ q) (fun _ q=>q) fun _ _ q=>q;rcases hc with z | z
  ·rw [z];exact nit b u e
  ·exact nit c _ z
theorem Inv.tok (I:Inv X pj σ H s) (t:Nat):Inv X pj σ H { s with toks:=t }:=I.un (h':=s.heap) (t':=t) Un.refl I.hok
theorem Inv.kept {t':Nat} (I:Inv X pj σ H s) (k:∀ b u,s.heap.get? b=some u->h'.get? b=some u):Inv X pj σ H { s with heap:=h',toks:=t' }:=I.un (Un.kept k) (I.hok.kept k)
theorem Inv.laid {a:Addr} {o:HO} {t':Nat} (I:Inv X pj σ H s) (k:∀ b u,s.heap.get? b=some u->h'.get? b=some u) (hp:s.heap.objs.size<=a) (new:ObjOk X.prog X.w (upd H a o) h' a o) :
  Inv X pj σ (upd H a o) { s with heap:=h',toks:=t' }:=I.un (Un.laid k hp (I.hok.fresh hp)) (I.hok.laid k hp new)
theorem Inv.write {x e:Addr} {o:HO} {t':Nat} (I:Inv X pj σ H s) (mu:Mut (H x)) (he:e=x\/H e=some (.own x)) (k:∀ b u,b≠e->s.heap.get? b=some u->h'.get? b=some u) (heo:∃ u,h'.get? e=some u)
  (new:ObjOk X.prog X.w (upd H x o) h' x o):Inv X pj σ (upd H x o) { s with heap:=h',toks:=t' }:=I.un (Un.write mu he k heo) (I.hok.write mu he k heo new)
theorem Inv.pins_of {pins':List (Addr × Obj)} (I:Inv X pj σ H s) (h:∀ p∈pins',s.heap.get? p.1=some p.2/\H p.1=none/\p.1≠X.env.locals/\p.1∉X.fs/\∀ v,p.2.data≠.cell v):Inv X pins' σ H s :=
 ⟨I.ok,I.os,I.bare,I.base,I.loc,I.cell,I.free,I.freeC,fun p hp=>(oma hp).elim (fun z=>I.pin p (List.mem_append_left _ z)) (h p),I.hok,I.len⟩
theorem zim {N:List Str} (hN:N.Nodup) {j:Nat} (a:N[i]?=some x) (b:N[j]?=some x):i=j:=by obtain ⟨h1,e1⟩:=ome a;obtain ⟨h2,e2⟩:=ome b;exact (List.getElem_inj hN).mp (e1.trans e2.symm)
theorem zf8 {M:Model} {v:V} {u:Value} {Q:Unit->Shared->Prop} (I:Inv X pj σ H s) (hN:X.N.Nodup) (hi:X.N[i]?=some x) (hx:Loc X.env.scope x) (r:RelV v u)
  (h:∀ s',Inv X pj (σ.set i (some v)) H s'->(∃ a,Heap.SameBut a s.heap s'.heap/\(a=X.env.locals\/X.env.cells.lookup x=some a))->Q () s') (hf:X.fn x=true\/X.env.scope.names.lookup x=some .local:=by first | exact .inl rfl | exact .inr rfl | assumption):wpAny M A (storeName X.env x u) Q E s:=by
 obtain ⟨m,hn,hl⟩:=id I.loc;have hcls:(X.env.scope.kind==.class||(X.env.scope.kind==.module&&X.env.locals != X.env.globals))=false:=by rw [I.ok.kind];rfl
 have hiσ:i<σ.length:=by rw [I.len];exact (ome hi).1
 have cne:=I.cne;have tracked:∀ {a:Addr} {h':Heap},(∃ o,s.heap.get? a=some o/\H a=none)->Heap.SameBut a s.heap h'->HOk X.prog X.w H h':=fun {a h'} ha hs b ob e=>by
  obtain ⟨_,_,hfree⟩:=ha;refine (I.hok b ob e).stay (fun c w' hc q=>(hs.2 c ?_).trans q) (fun _ q=>q) fun _ _ q=>q;rintro rfl;rcases hc with rfl | hc
  ·rw [hfree] at e;cases e
  ·rw [hfree] at hc;cases hc
 rcases hx with hk | hk
 ·refine wpAny_storeName_local hk hn (fun h' hn' hs=>?_) hcls;obtain ⟨oL,_,_,hoL,_⟩:=id hn;refine h _ ⟨I.ok,I.os,I.bare,⟨fun b o e n hb hx=>?_,fun b o e n hb hx=>?_,I.base.free,fun b o e hx=>?_,I.base.tups,I.base.frzs,I.base.tbls⟩,⟨_,hn',fun j y v' e1 e2 e3=>?_⟩,fun y c e=>?_,I.free,I.freeC,fun p hp=>?_,tracked ⟨oL,hoL,I.free⟩ hs,by simpa using I.len⟩ ⟨_,hs,.inl rfl⟩
  ·exact (hs.2 b (zyp (zyi (zyf e) I.ok.above))).trans (I.base.keep b o e n hb hx)
  ·obtain ⟨sl,e1⟩:=I.base.slot b o e n hb hx;exact ⟨sl,(hs.2 b (zyp (zyi (zyf e) I.ok.above))).trans e1⟩
  ·obtain ⟨o',e1⟩:=I.base.there b o e hx;exact ⟨o',(hs.2 b (zyp (zyi (zyf e) I.ok.above))).trans e1⟩
  ·by_cases hj:j=i
   ·subst hj;rw [hi] at e1;cases e1;rw [List.getElem?_set_self hiσ] at e2;cases e2;exact ⟨u,r,.inl ⟨hk,by simp⟩⟩
   ·rw [zyu (Ne.symm hj)] at e2;obtain ⟨u',r',q⟩:=hl j y v' e1 e2 e3;refine ⟨u',r',?_⟩;rcases q with ⟨k,e⟩ | ⟨k,c,e,z⟩
    ·refine .inl ⟨k,?_⟩;have:y≠x:=fun e=>hj (zim hN e1 (e▸hi));simp [this,e]
    ·exact .inr ⟨k,c,e,z.sameBut hs (cne y c e)⟩
  ·obtain ⟨w',z⟩:=I.cell y c e;exact ⟨w',z.sameBut hs (cne y c e)⟩
  ·obtain ⟨e,n,ne,nf,d⟩:=I.pin p hp;exact ⟨(hs.2 p.1 ne).trans e,n,ne,nf,d⟩
 ·have hfn:X.fn x=true:=by
   rcases hf with z | z
   ·exact z
   ·rw [z] at hk;cases hk
  obtain ⟨c,hc⟩:=I.ok.has x (.inl hk);obtain ⟨w',z⟩:=I.cell x c hc;refine wpAny_storeName_cell I.ok.kind hk hc z (fun h' hc' hs=>?_);obtain ⟨oc,hoc,hocd⟩:=id z;refine h { s with heap:=h' } ⟨I.ok,I.os,I.bare,⟨fun b o e n hb hx=>?_,fun b o e n hb hx=>?_,I.base.free,fun b o e hx=>?_,I.base.tups,I.base.frzs,I.base.tbls⟩,⟨m,hn.sameBut hs (Ne.symm (cne x c hc)),fun j y v' e1 e2 e3=>?_⟩,fun y c' e=>?_,I.free,I.freeC,fun p hp=>?_,tracked ⟨oc,hoc,I.freeC x c hc⟩ hs,by simpa using I.len⟩ ⟨c,hs,.inr hc⟩
  ·exact (hs.2 b (zyp (zyi (zyf e) (I.ok.cab x c hfn hc)))).trans (I.base.keep b o e n hb hx)
  ·obtain ⟨sl,e1⟩:=I.base.slot b o e n hb hx;exact ⟨sl,(hs.2 b (zyp (zyi (zyf e) (I.ok.cab x c hfn hc)))).trans e1⟩
  ·obtain ⟨o',e1⟩:=I.base.there b o e hx;exact ⟨o',(hs.2 b (zyp (zyi (zyf e) (I.ok.cab x c hfn hc)))).trans e1⟩
  ·by_cases hj:j=i
   ·subst hj;rw [hi] at e1;cases e1;rw [List.getElem?_set_self hiσ] at e2;cases e2;exact ⟨u,r,.inr ⟨.inl hk,c,hc,hc'⟩⟩
   ·rw [zyu (Ne.symm hj)] at e2;obtain ⟨u',r',q⟩:=hl j y v' e1 e2 e3;refine ⟨u',r',?_⟩;rcases q with q | ⟨k,c',e,z'⟩
    ·exact .inl q
    ·refine .inr ⟨k,c',e,z'.sameBut hs ?_⟩;rintro rfl;exact hj (zim hN e1 (I.ok.inj _ _ _ e hc▸hi))
  ·by_cases hcc:c'=c
   ·subst hcc;exact ⟨_,hc'⟩
   ·obtain ⟨w2,z2⟩:=I.cell y c' e;exact ⟨w2,z2.sameBut hs hcc⟩
  ·obtain ⟨e,n,ne,nf,d⟩:=I.pin p hp;refine ⟨(hs.2 p.1 ?_).trans e,n,ne,nf,d⟩;intro q;rw [q,hoc] at e;have q':oc=p.2:=zyk e;exact d w' (by rw [<- q'];exact hocd)
theorem zia {M:Model} {v:V} {u:Value} {Q:Unit->Shared->Prop} (I:Inv X pj σ H s) (hN:X.N.Nodup) (hi:X.N[i]?=some x) (hx:Loc X.env.scope x) (r:RelV v u)
  (h:∀ s',Inv X pj (σ.set i (some v)) H s'->Q () s') (hf:X.fn x=true\/X.env.scope.names.lookup x=some .local:=by first | exact .inl rfl | exact .inr rfl | assumption):wpAny M A (storeName X.env x u) Q E s :=
 zf8 I hN hi hx r (fun s' I' _=>h s' I') hf
theorem Inv.call' {s':Shared} (I:Inv X pj σ H s) (ho:s'.os=s.os) (u:Un (frs X.stack) ch H H' s.heap s'.heap) (hok:HOk X.prog X.w H' s'.heap) (hg:AllBare s'.gens)
  (hch:∀ b∈ch,(b∈X.ex\/X.s₀.heap.objs.size<=b)/\b≠X.env.locals/\(∀ x c,X.env.cells.lookup x=some c->c≠b)/\∀ p∈X.pn++pj,p.1≠b):Inv X pj σ H' s':=by
 obtain ⟨h',g',d',t',o'⟩:=s';have e:o'=s.os:=ho;subst e;exact I.call (g':=g') (t':=t') (d':=d') u hok hg hch
end
abbrev XK:=Value->Option Addr->Hp->Prop
abbrev St:=List (Option V)
abbrev VK:=V->Hp->Prop
abbrev TE:=St->Hp->VK->Prop
abbrev TT:=St->Hp->(Bool->Hp->Prop)->Prop
abbrev TA:=St->Hp->(List V->Hp->Prop)->Prop
structure Ends where
 nx:St->Hp->Prop
 rt:VK
 bk:St->Hp->Prop:=fun _ _=>False
 ct:St->Hp->Prop:=fun _ _=>False
abbrev TS:=Ends->St->Hp->Prop
def EP (X:Cx) (pj:List (Addr × Obj)) (σ:St) (Q:VK) (u:Value) (s':Shared):Prop:=∃ v H',Inv X pj σ H' s'/\RelV v u/\Q v H'
def TP (X:Cx) (pj:List (Addr × Obj)) (σ:St) (Q:Bool->Hp->Prop) (b:Bool) (s':Shared):Prop:=∃ H',Inv X pj σ H' s'/\Q b H'
def AP (X:Cx) (pj:List (Addr × Obj)) (σ:St) (Q:List V->Hp->Prop) (us:List Value) (s':Shared):Prop:=∃ vs H',Inv X pj σ H' s'/\Vals vs us/\Q vs H'
def SP (X:Cx) (pj:List (Addr × Obj)) (D:Ends) (f:Flow) (s':Shared):Prop :=
 match f with
 | .next=>∃ σ' H',Inv X pj σ' H' s'/\D.nx σ' H'
 | .brk=>∃ σ' H',Inv X pj σ' H' s'/\D.bk σ' H'
 | .cont=>∃ σ' H',Inv X pj σ' H' s'/\D.ct σ' H'
 | .ret u=>∃ v σ' H',Inv X pj σ' H' s'/\RelV v u/\D.rt v H'
def PE (X:Cx) (e:Expr) (t:TE):Prop :=
 ∀ (pj:List (Addr × Obj)) (s:Shared) (σ:St) (H:Hp) (Q:VK),Inv X pj σ H s->t σ H Q->wpAny (model X.prog X.w) X.A (eval e X.env) (EP X pj σ Q) X.xe s
def PT (X:Cx) (e:Expr) (t:TT):Prop :=
 ∀ (pj:List (Addr × Obj)) (s:Shared) (σ:St) (H:Hp) (Q:Bool->Hp->Prop),Inv X pj σ H s->t σ H Q->wpAny (model X.prog X.w) X.A (isTrue e X.env (eval e X.env)) (TP X pj σ Q) X.xe s
def PW (X:Cx) (e:Expr) (t:TT):Prop :=
 ∀ (whole:Sem Value) (pj:List (Addr × Obj)) (s:Shared) (σ:St) (H:Hp) (Q:Bool->Hp->Prop),Inv X pj σ H s->t σ H Q->wpAny (model X.prog X.w) X.A (isTrue e X.env whole) (TP X pj σ Q) X.xe s
theorem PW.pt {X:Cx} {e:Expr} {t:TT} (h:PW X e t):PT X e t:=h _
def PA (X:Cx) (es:List Expr) (t:TA):Prop :=
 ∀ (pos:Pos) (pj:List (Addr × Obj)) (s:Shared) (σ:St) (H:Hp) (Q:List V->Hp->Prop),Inv X pj σ H s->t σ H Q->wpAny (model X.prog X.w) X.A (spliced (backTo pos (starEach es X.env))) (AP X pj σ Q) X.xe s
def PS (X:Cx) (st:Stmt) (t:TS):Prop :=
 ∀ (pj:List (Addr × Obj)) (s:Shared) (σ:St) (H:Hp) (D:Ends),Inv X pj σ H s->t D σ H->wpAny (model X.prog X.w) X.A (exec st X.env) (SP X pj D) X.xe s
def PSs (X:Cx) (st:List Stmt) (t:TS):Prop :=
 ∀ (pj:List (Addr × Obj)) (s:Shared) (σ:St) (H:Hp) (D:Ends),Inv X pj σ H s->t D σ H->wpAny (model X.prog X.w) X.A (execs st X.env) (SP X pj D) X.xe s
theorem thn {α:Type} {t:Sem α} {Q Q':α->Shared->Prop} {M:Model} {s:Shared} (h:wpAny M A t Q E s) (hQ:∀ a s,Q a s->Q' a s):wpAny M A t Q' E s:=zzi h hQ fun _ _ x=>x
end
section
variable {x:Str} {E Q:Value->Shared->Prop} {pj:List (Addr × Obj)} {u:Value}
section
variable {X:Cx}
def tVar (i:Nat):TE:=fun σ H Q=>∃ v,σ[i]?=some (some v)/\Q v H
def tC (v:V):TE:=fun _ H Q=>Q v H
theorem zex {i:Nat} {pos:Pos} (hN:X.N[i]?=some x) (hv:Vis X.env.scope x) (hd:(x==("__debug__":Str))=false:=by decide) (hcd:(x==("__classdict__":Str))=false:=by decide):PE X (.Name x pos) (tVar i):=by
 intro pj s σ H Q I h;obtain ⟨v,e,h⟩:=h;obtain ⟨m,hn,hl⟩:=I.loc;obtain ⟨u,r,l⟩:=hl i x v hN e hv;have fin:EP X pj σ Q u s:=⟨v,H,I,r,h⟩;rcases l with ⟨hk,hm⟩ | ⟨hk,c,hc,hcell⟩
 ·exact wpAny_Name (wpAny_loadName_local I.ok.kind hk hn hm fin) hd
 ·rcases hk with hk | hk
  ·exact wpAny_Name (wpAny_loadName_cell I.ok.kind hk hc hcell fin) hd
  ·exact wpAny_Name (wpAny_loadName_free I.ok.kind hk hc hcell fin hcd) hd
theorem zun {i j pos}:PE X (.Constant (.int i) j pos) (tC (.int i)):=fun _ _ _ H _ I h=>wpAny_Constant_int ⟨.int i,H,I.tok _,⟨_,rfl⟩,h⟩
theorem zxb {b j pos}:PE X (.Constant (.bool b) j pos) (tC (.bl b)):=fun _ _ _ H _ I h=>Constant_bool ⟨.bl b,H,I,rfl,h⟩
theorem zum {j pos}:PE X (.Constant .none j pos) (tC .non):=fun _ _ _ H _ I h=>Constant_none ⟨.non,H,I,rfl,h⟩
theorem zui {x j pos}:PE X (.Constant (.str x) j pos) (tC (.str x)):=fun _ _ _ H _ I h=>Calls.Constant_str ⟨.str x,H,I.tok _,⟨_,rfl⟩,h⟩
def Gl (X:Cx) (x:Str):Prop:=X.env.kindOf x=some .globalImplicit
theorem zlu {s:Shared} {σ:St} {H:Hp} {pos:Pos} (I:Inv X pj σ H s) (hg:Gl X x) (hm:X.mg x=some u) (h:Q u s)
  (hd:(x==("__debug__":Str))=false:=by decide):wpAny (model X.prog X.w) X.A (eval (.Name x pos) X.env) Q E s :=
 Calls.Name_function_global I.ok.kind hg (Calls.loadGlobal_global (by rw [I.ok.glob];exact I.mod.glob.keeps I.bk) hm h) hd
theorem ze3 {s:Shared} {σ:St} {H:Hp} {pos:Pos} (I:Inv X pj σ H s) (hg:Gl X x) (hm:X.mg x=none) (hv:bootBuiltins x=some u) (h:Q u s)
  (hn:x≠"__name__":=by decide) (hd:(x==("__debug__":Str))=false:=by decide):wpAny (model X.prog X.w) X.A (eval (.Name x pos) X.env) Q E s:=by
 obtain ⟨mb,h1,h2⟩:=I.mod.blt;exact Calls.Name_function_global I.ok.kind hg (Calls.loadGlobal_builtin (by rw [I.ok.glob];exact I.mod.glob.keeps I.bk) hm (by rw [I.ok.blt];exact h1.keeps I.bk) ((h2 x hn).trans hv) h) hd
theorem zr0 {v:V} {pos:Pos} (hg:Gl X x) (hm:X.mg x=some u) (r:RelV v u) (hd:(x==("__debug__":Str))=false:=by decide):PE X (.Name x pos) (tC v) :=
 fun _ _ _ H _ I h=>zlu I hg hm ⟨v,H,I,r,h⟩ hd
theorem zr3 {v:V} {pos:Pos} (hg:Gl X x) (hm:X.mg x=none) (hv:bootBuiltins x=some u) (r:RelV v u) (hn:x≠"__name__":=by decide) (hd:(x==("__debug__":Str))=false:=by decide):PE X (.Name x pos) (tC v) :=
 fun _ _ _ H _ I h=>ze3 I hg hm hv ⟨v,H,I,r,h⟩ hn hd
variable {a b:Expr} {ta tb:TE} {pos:Pos}
variable {tA tB':TT} {rest:List Expr}
def tAnd (t u:TT):TT:=fun σ H Q=>t σ H fun c H1=>if c=true then u σ H1 Q else Q false H1
def tOr (t u:TT):TT:=fun σ H Q=>t σ H fun c H1=>if c=true then Q true H1 else u σ H1 Q
def tNot (t:TT):TT:=fun σ H Q=>t σ H fun c H1=>Q (!c) H1
theorem zrm (ha:PT X a tA):PW X (.BoolOp .And [a] pos) tA:=by
 intro wh pj s σ H Q I h;refine isTrue_and (thn (ha pj s σ H Q I h) fun c s1 e=>?_);cases c with
 | true=>exact isTrue_and_nil e
 | false=>exact e
theorem zt6 (ha:PT X a tA):PW X (.BoolOp .Or [a] pos) tA:=by
 intro wh pj s σ H Q I h;refine isTrue_or (thn (ha pj s σ H Q I h) fun c s1 e=>?_);cases c with
 | false=>exact isTrue_or_nil e
 | true=>exact e
theorem zt8 (ha:PT X a tA) (hb:PW X (.BoolOp .And (b::rest) pos) tB'):PW X (.BoolOp .And (a::b::rest) pos) (tAnd tA tB'):=by
 intro wh pj s σ H Q I h;refine isTrue_and (thn (ha pj s σ H _ I h) fun c s1 ⟨H1,I1,q1⟩=>?_);cases c with
 | true=>exact hb wh pj s1 σ H1 Q I1 q1
 | false=>exact ⟨H1,I1,q1⟩
theorem zw6 (ha:PT X a tA) (hb:PW X (.BoolOp .Or (b::rest) pos) tB'):PW X (.BoolOp .Or (a::b::rest) pos) (tOr tA tB'):=by
 intro wh pj s σ H Q I h;refine isTrue_or (thn (ha pj s σ H _ I h) fun c s1 ⟨H1,I1,q1⟩=>?_);cases c with
 | true=>exact ⟨H1,I1,q1⟩
 | false=>exact hb wh pj s1 σ H1 Q I1 q1
theorem zuc (ha:PT X a tA):PT X (.UnaryOp .Not a pos) (tNot tA):=by intro pj s σ H Q I h;exact isTrue_not (ha pj s σ H (fun c H1=>Q (!c) H1) I h)
def yf3 (ta tb:TE):TE:=fun σ H Q=>ta σ H fun x H1=>∃ c,x=.bl c/\if c=true then tb σ H1 Q else Q (.bl false) H1
def tOrV (ta tb:TE):TE:=fun σ H Q=>ta σ H fun x H1=>∃ c,x=.bl c/\if c=true then Q (.bl true) H1 else tb σ H1 Q
def ygf (ta:TE):TE:=fun σ H Q=>ta σ H fun x H1=>∃ c,x=.bl c/\Q (.bl (!c)) H1
theorem zuk {op} {t:TE} (h:PE X a t):PE X (.BoolOp op [a] pos) t:=fun pj s σ H Q I hw=>BoolOp_one (h pj s σ H Q I hw)
theorem zuo (ha:PE X a ta) (hb:PE X (.BoolOp .And (b::rest) pos) tb):PE X (.BoolOp .And (a::b::rest) pos) (yf3 ta tb):=by
 intro pj s σ H Q I h;refine BoolOp_and (thn (ha pj s σ H _ I h) fun v s1 ⟨x,H1,I1,r1,q1⟩=>?_);obtain ⟨c,rfl,q1⟩:=q1;cases r1;refine wpAny_truthy_bool ?_;cases c with
 | true=>exact hb pj s1 σ H1 Q I1 q1
 | false=>exact ⟨.bl false,H1,I1,rfl,q1⟩
theorem zw9 (ha:PE X a ta) (hb:PE X (.BoolOp .Or (b::rest) pos) tb):PE X (.BoolOp .Or (a::b::rest) pos) (tOrV ta tb):=by
 intro pj s σ H Q I h;refine BoolOp_or (thn (ha pj s σ H _ I h) fun v s1 ⟨x,H1,I1,r1,q1⟩=>?_);obtain ⟨c,rfl,q1⟩:=q1;cases r1;refine wpAny_truthy_bool ?_;cases c with
 | false=>exact hb pj s1 σ H1 Q I1 q1
 | true=>exact ⟨.bl true,H1,I1,rfl,q1⟩
theorem zul (ha:PE X a ta):PE X (.UnaryOp .Not a pos) (ygf ta):=by intro pj s σ H Q I h;refine UnaryOp_ (thn (ha pj s σ H _ I h) fun v s1 ⟨x,H1,I1,r1,q1⟩=>?_);obtain ⟨c,rfl,q1⟩:=q1;cases r1;exact not_of (wpAny_truthy_bool ⟨.bl (!c),H1,I1,rfl,q1⟩)
end
end
section
variable {K:PySem.W.Frag} {es:List Expr} {tg:Expr} {P:Program} {w:World}
def SqL (K:PySem.W.Frag) (H:Hp) (a:Addr) (xs:List V):Prop :=
 Rd H a (.lst xs) \/
  ∃ (o:Obj) (qc:Array Value) (n:Nat),K.lookup a=some o/\o.cls=.type "list"/\o.dict=none/\o.data=.seq qc n/\qc.size<=sizeLine/\Vals xs qc.toList
def SqT (K:PySem.W.Frag) (H:Hp) (a:Addr) (xs:List V):Prop :=
 Rd H a (.tup xs) \/
  ∃ (o:Obj) (qc:Array Value) (n:Nat),K.lookup a=some o/\o.cls=.type "tuple"/\o.data=.seq qc n/\qc.size<=sizeLine/\Vals xs qc.toList
def absV:Value->Option V
 | .none=>some .non
 | .bool b=>some (.bl b)
 | .int i _=>some (.int i)
 | .str x _=>some (.str x)
 | .bytes b _=>some (.byt b)
 | .float b _=>some (.flt b)
 | .ref a=>some (.ref a)
 | .type n=>some (.ty n)
 | _=>none
theorem RelV.abs {x:V} {u:Value} (r:RelV x u):absV u=some x:=by
 cases x with
 | non=>cases r;rfl
 | bl _=>cases r;rfl
 | int _=>obtain ⟨t,rfl⟩:=r;rfl
 | str _=>obtain ⟨t,rfl⟩:=r;rfl
 | byt _=>obtain ⟨t,rfl⟩:=r;rfl
 | flt _=>obtain ⟨t,rfl⟩:=r;rfl
 | ref _=>cases r;rfl
 | ty _=>cases r;rfl
theorem RelV.inj {x y:V} {u:Value} (r:RelV x u) (q:RelV y u):x=y:=zyk (r.abs.symm.trans q.abs)
theorem Vals.inj:∀ {xs ys:List V} {us:List Value},Vals xs us->Vals ys us->xs=ys
 | _,_,_,.nil,.nil=>rfl
 | _,_,_,.cons r t,.cons r' t'=>by rw [r.inj r',Vals.inj t t']
section
variable {X:Cx} {pj:List (Addr × Obj)} {σ:St} {H:Hp} {s:Shared} {a:Addr} {xs ys:List V}
theorem SqL.of (h:H a=some (.lst xs)):SqL K H a xs:=.inl (.inl h)
theorem SqT.of (h:H a=some (.tup xs)):SqT K H a xs:=.inl (.inl h)
theorem Inv.list (I:Inv X pj σ H s) (h:SqL X.K H a xs):∃ qc:List Value,Vals xs qc/\PlainL s.heap a qc.toArray/\xs.length<=sizeLine:=by
 rcases h with h | ⟨o,qc,n,hk,hc,hd,hs,hz,r⟩
 ·obtain ⟨z,qc,n,r,e⟩:=h.ok I.hok;exact ⟨qc,r,⟨_,n,e,rfl,rfl,rfl⟩,z⟩
 ·refine ⟨qc.toList,r,⟨o,n,I.kIn a o hk,hc,hd,by simpa using hs⟩,?_⟩;have e:=r.length;simp only [Array.length_toList] at e;omega
theorem Inv.tuple (I:Inv X pj σ H s) (h:SqT X.K H a xs):∃ qc:List Value,Vals xs qc/\IsTup s.heap a qc.toArray/\xs.length<=sizeLine:=by
 rcases h with h | ⟨o,qc,n,hk,hc,hs,hz,r⟩
 ·obtain ⟨z,qc,r,p⟩:=h.ok I.hok;exact ⟨qc,r,p,z⟩
 ·refine ⟨qc.toList,r,⟨o,I.kIn a o hk,hc,n,by simpa using hs⟩,?_⟩;have e:=r.length;simp only [Array.length_toList] at e;omega
theorem Inv.list_inj (I:Inv X pj σ H s) (h:SqL X.K H a xs) (h':SqL X.K H a ys):xs=ys:=by
 obtain ⟨qc,r,⟨o,n,e,_,_,d⟩,_⟩:=I.list h;obtain ⟨its',r',⟨o',n',e',_,_,d'⟩,_⟩:=I.list h';rw [e] at e';cases e';rw [d] at d';injection d' with d1 _;have:qc=its':=by simpa using congrArg Array.toList d1
 subst this;exact r.inj r'
theorem Inv.tuple_inj (I:Inv X pj σ H s) (h:SqT X.K H a xs) (h':SqT X.K H a ys):xs=ys:=by
 obtain ⟨qc,r,⟨o,e,_,n,d⟩,_⟩:=I.tuple h;obtain ⟨its',r',⟨o',e',_,n',d'⟩,_⟩:=I.tuple h';rw [e] at e';cases e';rw [d] at d';injection d' with d1 _;have:qc=its':=by simpa using congrArg Array.toList d1
 subst this;exact r.inj r'
end
abbrev Cx.wish (X:Cx) (E:Value->Shared->Prop):Cx:={ X with xe:=E }
abbrev Cx.nox (X:Cx):Cx:=X.wish fun _ _=>False
theorem Cx.Ok.wish {X:Cx} (ok:X.Ok) (E:Value->Shared->Prop):(X.wish E).Ok :=
 ⟨ok.mod,ok.kind,ok.glob,ok.blt,ok.above,ok.inj,ok.has,ok.cab,ok.hd,ok.frames,ok.stk,ok.exf,ok.bs,ok.bsz,ok.noex,ok.exfs,ok.funs,ok.frf⟩
theorem Cx.Ok.unwish {X:Cx} {E:Value->Shared->Prop} (ok:(X.wish E).Ok):X.Ok :=
 ⟨ok.mod,ok.kind,ok.glob,ok.blt,ok.above,ok.inj,ok.has,ok.cab,ok.hd,ok.frames,ok.stk,ok.exf,ok.bs,ok.bsz,ok.noex,ok.exfs,ok.funs,ok.frf⟩
section
variable {X:Cx} {pj:List (Addr × Obj)} {σ:St} {H:Hp} {s:Shared} {E:Value->Shared->Prop}
theorem Inv.wish (I:Inv X pj σ H s) (E:Value->Shared->Prop):Inv (X.wish E) pj σ H s:=⟨I.ok.wish E,I.os,I.bare,I.base,I.loc,I.cell,I.free,I.freeC,I.pin,I.hok,I.len⟩
theorem Inv.unwish (I:Inv (X.wish E) pj σ H s):Inv X pj σ H s:=⟨I.ok.unwish,I.os,I.bare,I.base,I.loc,I.cell,I.free,I.freeC,I.pin,I.hok,I.len⟩
theorem SP.unwish {D:Ends} {f:Flow} {s':Shared} (h:SP (X.wish E) pj D f s'):SP X pj D f s':=by
 cases f with
 | next=>obtain ⟨σ',H',I,q⟩:=h;exact ⟨σ',H',I.unwish,q⟩
 | brk=>obtain ⟨σ',H',I,q⟩:=h;exact ⟨σ',H',I.unwish,q⟩
 | cont=>obtain ⟨σ',H',I,q⟩:=h;exact ⟨σ',H',I.unwish,q⟩
 | ret u=>obtain ⟨v,σ',H',I,r,q⟩:=h;exact ⟨v,σ',H',I.unwish,r,q⟩
theorem PSs.nox {st:List Stmt} {t:TS} (h:PSs X.nox st t):PSs X st t:=fun pj s σ H D I hw =>zzi (h pj s σ H D (I.wish _) hw) (fun _ _ q=>q.unwish) fun _ _ z=>False.elim z
end
section
variable {X:Cx} {st:Stmt} {rest:List Stmt} {t u:TS} {e:Expr} {te:TE} {pos:Pos}
def yf4:TS:=fun D σ H=>D.nx σ H
def tSeq (t u:TS):TS:=fun D σ H=>t { D with nx:=u D } σ H
theorem zrs:PSs X [] yf4:=fun _ _ σ H _ I h=>wpAny_execs_nil ⟨σ,H,I,h⟩
theorem zog (h1:PS X st t) (h2:PSs X rest u):PSs X (st::rest) (tSeq t u):=by
 intro pj s σ H D I h;refine wpAny_execs_cons (thn (h1 pj s σ H { D with nx:=u D } I h) fun f s1 q=>?_);cases f with
 | next =>obtain ⟨σ',H',I',q⟩:=q;exact h2 pj s1 σ' H' D I' q
 | ret v=>exact q
 | brk=>exact q
 | cont=>exact q
theorem Inv.quiet {pj:List (Addr × Obj)} {σ:St} {H:Hp} {s:Shared} (I:Inv X pj σ H s):interactive X.env=false:=by simp [interactive,I.ok.kind]
def yf2 (te:TE):TS:=fun D σ H=>te σ H fun _ H1=>D.nx σ H1
theorem zhd (he:PE X e te) (hs:swapsWith e none pos.line X.env=pure false:=by rfl):PS X (.Expr e pos) (yf2 te):=by intro pj s σ H D I h;exact wpAny_Expr_any (thn (he pj s σ H _ I h) fun v s1 ⟨x,H1,I1,r1,q1⟩=>⟨σ,H1,I1,q1⟩) I.quiet hs
def tRet (te:TE):TS:=fun D σ H=>te σ H D.rt
theorem zud (he:PE X e te):PS X (.Return (some e) pos) (tRet te):=by intro pj s σ H D I h;exact wpAny_Return_some (thn (he pj s σ H _ I h) fun v s1 ⟨x,H1,I1,r1,q1⟩=>⟨x,σ,H1,I1,r1,q1⟩)
def tIfS (c:TT) (t u:TS):TS:=fun D σ H=>c σ H fun b H1=>if b=true then t D σ H1 else u D σ H1
theorem zw7 {c:Expr} {a b:List Stmt} {tc:TT} (hc:PT X c tc) (ha:PSs X a t) (hb:PSs X b u):PS X (.If c a b pos) (tIfS tc t u):=by
 intro pj s σ H D I h;refine wpAny_If (thn (hc pj s σ H _ I h) fun d s1 ⟨H1,I1,q1⟩=>?_);cases d with
 | true=>exact ha pj s1 σ H1 D I1 q1
 | false=>exact hb pj s1 σ H1 D I1 q1
end
abbrev TG:=V->St->Hp->(St->Hp->Prop)->Prop
abbrev TGs:=List V->St->Hp->(St->Hp->Prop)->Prop
def PG (X:Cx) (target:Expr) (t:TG):Prop :=
 ∀ (pj:List (Addr × Obj)) (s:Shared) (σ:St) (H:Hp) (v:V) (u:Value) (Q:St->Hp->Prop),Inv X pj σ H s->RelV v u->t v σ H Q ->
  wpAny (model X.prog X.w) X.A (assign target X.env u) (fun _ s'=>∃ σ' H',Inv X pj σ' H' s'/\Q σ' H') X.xe s
def PGs (X:Cx) (ts:List Expr) (t:TGs):Prop :=
 ∀ (pj:List (Addr × Obj)) (s:Shared) (σ:St) (H:Hp) (vs:List V) (us:List Value) (Q:St->Hp->Prop),Inv X pj σ H s->Vals vs us->t vs σ H Q ->
  wpAny (model X.prog X.w) X.A (assignInOrder ((assignEach ts X.env).map (·.2)) us) (fun _ s'=>∃ σ' H',Inv X pj σ' H' s'/\Q σ' H') X.xe s
section
variable {X:Cx} {pos:Pos}
def yet (i:Nat):TG:=fun v σ H Q=>Q (σ.set i (some v)) H
theorem zlb {i:Nat} {x:Str} (hN:X.N.Nodup) (hi:X.N[i]?=some x) (hx:Loc X.env.scope x) (hf:X.fn x=true\/X.env.scope.names.lookup x=some .local:=by first | exact .inl rfl | exact .inr rfl | assumption):PG X (.Name x pos) (yet i):=by intro pj s σ H v u Q I r h;exact wpAny_assign_Name (zia I hN hi hx r (fun s' I'=>⟨_,H,I',h⟩) hf)
def gNil:TGs:=fun vs σ H Q=>vs=[]/\Q σ H
def yfa (t:TG) (u:TGs):TGs:=fun vs σ H Q=>∃ v r,vs=v::r/\t v σ H fun σ' H'=>u r σ' H' Q
theorem zrz:PGs X [] gNil:=by intro pj s σ H vs us Q I r h;obtain ⟨e,h⟩:=h;subst e;cases r;exact assignInOrder_nil ⟨σ,H,I,h⟩
theorem zok {e:Expr} {t:TG} {u:TGs} (h1:PG X e t) (h2:PGs X es u)
  (hs:(assignEach (e::es) X.env).map (·.2)=assign e X.env::(assignEach es X.env).map (·.2):=by rfl):PGs X (e::es) (yfa t u):=by
 intro pj s σ H vs us Q I r h;obtain ⟨v,vr,e1,h⟩:=h;subst e1;cases r with
 | cons r rr =>rw [hs];refine assignInOrder_cons (thn (h1 pj s σ H _ _ _ I r h) fun _ s1 ⟨σ1,H1,I1,q1⟩=>?_);exact h2 pj s1 σ1 H1 _ _ Q I1 rr q1
def gTup (K:PySem.W.Frag) (n:Nat) (t:TGs):TG:=fun v σ H Q=>∃ a xs,v=.ref a/\SqT K H a xs/\xs.length=n/\t xs σ H Q
theorem zug {k:Nat} {t:TGs} {n:Nat} (hc:X.calm=true) (h:PGs X es t)
  (hn:(assignEach es X.env).length=n:=by rfl) (hst:(assignEach es X.env).findIdx? (·.1)=none:=by rfl):PG X (.Tuple es k pos) (gTup X.K n t):=by
 intro pj s σ H v u Q I r hw;obtain ⟨a,xs,e1,hq,hl,hw⟩:=hw;subst e1;cases r;obtain ⟨qc,rv,ht,hz⟩:=I.tuple hq;refine assign_Tuple_tuple (I.ok.hd hc) ht (by simp [hn,<- hl,rv.length]) hst fun h' hx=>?_;have I1:Inv X pj σ H { s with heap:=h' }:=I.kept (t':=s.toks) fun b o e=>hx b o (zyp (zyf e)) e;exact h pj _ σ H xs _ Q I1 (by simpa using rv) hw
def tAsg (te:TE) (g:TG):TS:=fun D σ H=>te σ H fun x H1=>g x σ H1 D.nx
theorem zih {i:Nat} {x:Str} {e:Expr} {te:TE} {pos':Pos} (hN:X.N.Nodup) (hi:X.N[i]?=some x) (hx:Loc X.env.scope x) (he:PE X e te) (hs:swapsWith e (some (.Name x pos')) pos.line X.env=pure false:=by rfl) (hf:X.fn x=true\/X.env.scope.names.lookup x=some .local:=by first | exact .inl rfl | exact .inr rfl | assumption) :
  PS X (.Assign [.Name x pos'] e pos) (tAsg te (yet i)):=by
 intro pj s σ H D I h;refine wpAny_Assign_Name (thn (he pj s σ H _ I h) fun v s1 ⟨y,H1,I1,r1,q1⟩=>?_) hs;exact zia I1 hN hi hx r1 (fun s2 I2=>⟨_,H1,I2,q1⟩) hf
end
section
variable {X:Cx} {pos:Pos}
end
structure It where
 go:Nat->Hp->Prop
 yld:Nat->Hp->V->Hp->Prop
 stop:Nat->Hp->Prop
def ycj (X:Cx) (pj:List (Addr × Obj)) (H:Hp) (b:Addr):Prop :=
 H b=none/\b≠X.env.locals/\b∉X.fs/\(b∈X.ex\/X.s₀.heap.objs.size<=b)/\(∀ x c,X.env.cells.lookup x=some c->c≠b)/\∀ p∈X.pn++pj,p.1≠b
theorem Inv.fpOk {X:Cx} {pj:List (Addr × Obj)} {σ:St} {H H':Hp} {s:Shared} {b:Addr} (I:Inv X pj σ H s) (hb:s.heap.objs.size<=b) (hn:H' b=none):ycj X pj H' b:=by
 refine ⟨hn,Nat.ne_of_gt (zyi I.lt hb),I.nofs hb,.inr (zyr I.sz hb),fun x c e z=>?_,fun p hp z=>?_⟩
 ·obtain ⟨v,q⟩:=I.cell x c e;exact absurd (zyi q.lt (by rw [z];exact hb)) (zy9 _)
 ·exact absurd (zyi (zyf (I.pin p hp).1) (by rw [z];exact hb)) (zy9 _)
structure Turn (P:Program) (w:World) (K:PySem.W.Frag) (tg:Expr) (J:It) (fp:List Addr) (it:Addr) (tn:Nat->Heap->Prop):Prop where
 mem:it∈fp
 obj:∀ i h,tn i h->∀ b∈fp,∃ o,h.get? b=some o/\∀ v,o.data≠.cell v
 keep:∀ i h h',tn i h->(∀ b∈fp,∀ o,h.get? b=some o->h'.get? b=some o)->tn i h'
 item:∀ (X:Cx),X.prog=P->X.w=w->X.K=K->X.calm=true->∀ (i:Nat) (pj:List (Addr × Obj)) (s:Shared) (σ:St) (H:Hp) (E:Value->Shared->Prop),Inv X pj σ H s->(∀ b∈fp,ycj X pj H b)->tn i s.heap->J.go i H ->
  wpAny (model P w) X.A (pyNext (.ref it)) (fun r s1=>∃ u,r=some u /\
   wpAny (model P w) X.A (letOwnedTupleGo tg (.ref it) u) (fun _ s2=>∃ x H',Inv X pj σ H' s2/\RelV x u/\J.yld i H x H'/\tn (i+1) s2.heap/\∀ b∈fp,H' b=none) E s1) E s
 done:∀ (X:Cx),X.prog=P->X.w=w->X.K=K->X.calm=true->∀ (i:Nat) (pj:List (Addr × Obj)) (s:Shared) (σ:St) (H:Hp) (E:Value->Shared->Prop),Inv X pj σ H s->(∀ b∈fp,ycj X pj H b)->tn i s.heap->J.stop i H ->
  wpAny (model P w) X.A (pyNext (.ref it)) (fun r s1=>r=none/\Inv X pj σ H s1) E s
 self:∀ (A:Around) (i:Nat) (s:Shared) (Q:Value->Shared->Prop) (E:Value->Shared->Prop),tn i s.heap->Q (.ref it) s->wpAny (model P w) A (pyIter (.ref it)) Q E s
abbrev TI:=St->Hp->(It->Hp->Prop)->Prop
def PIE (X:Cx) (pj:List (Addr × Obj)) (σ:St) (tg:Expr) (R:It->Hp->Prop) (itv:Value) (s2:Shared):Prop :=
 ∃ (it:Addr) (fp:List Addr) (tn:Nat->Heap->Prop) (J:It) (H':Hp),itv=.ref it/\Inv X pj σ H' s2/\Turn X.prog X.w X.K tg J fp it tn/\tn 0 s2.heap/\(∀ b∈fp,ycj X pj H' b)/\R J H'
def PI (X:Cx) (tg iter:Expr) (wi:TI):Prop :=
 ∀ (pj:List (Addr × Obj)) (s:Shared) (σ:St) (H:Hp) (R:It->Hp->Prop),Inv X pj σ H s->wi σ H R ->
  wpAny (model X.prog X.w) X.A (eval iter X.env) (fun v s1=>wpAny (model X.prog X.w) X.A (pyIter v) (PIE X pj σ tg R) X.xe s1) X.xe s
theorem zo9 {M:Model} {A:Around} {E:Value->Shared->Prop} {s:Shared} {it:Addr} {u:Value} {o:Obj} {n:String} {vs:Array Value} {Q:Unit->Shared->Prop} (ho:s.heap.get? it=some o) (hc:o.cls=.type n) (hd:o.data=.fields vs)
  (hn:["enumerate", "zip", "dict_itemiterator", "dict_reverseitemiterator", "odict_iterator", "itertools.zip_longest", "itertools.pairwise"].contains n=false) (hQ:Q () s):wpAny M A (letOwnedTupleGo tg (.ref it) u) Q E s:=by
 unfold letOwnedTupleGo;cases tg<;>first
  | exact zx5 hQ
  | (cases u<;>first
    | exact zx5 hQ
    | (refine zx1 (wpAny_load ho ?_)
       rw [hc,hd];show wpAny M A (if (["enumerate", "zip", "dict_itemiterator", "dict_reverseitemiterator", "odict_iterator", "itertools.zip_longest", "itertools.pairwise"].contains n&&vs[0]?==some (rawInt _))=true then _ else _) Q E s;rw [if_neg (by intro h;rw [hn,Bool.false_and] at h;cases h)];exact zx5 hQ))
def Itl (K:PySem.W.Frag) (a:Addr):It :=
 ⟨fun i H=>∃ xs x,SqL K H a xs/\xs[i]?=some x,fun i H x H'=>H'=H/\∀ xs,SqL K H a xs->xs[i]?=some x,fun i H=>∃ xs,SqL K H a xs/\xs.length<=i⟩
def Itt (K:PySem.W.Frag) (a:Addr):It :=
 ⟨fun i H=>∃ xs x,SqT K H a xs/\xs[i]?=some x,fun i H x H'=>H'=H/\∀ xs,SqT K H a xs->xs[i]?=some x,fun i H=>∃ xs,SqT K H a xs/\xs.length<=i⟩
def Itr (lo:Int) (n:Nat):It:=⟨fun i _=>i<n,fun i H x H'=>H'=H/\x=.int (lo+i),fun i _=>n<=i⟩
theorem zkh (a it:Addr):Turn P w K tg (Itl K a) [it] it (fun i h=>h.IsListIter it a i) where
 mem:=by simp
 obj:=fun i h st b hb=>by
  have e:b=it:=by simpa using hb
  subst e;obtain ⟨o,e,c,d⟩:=st;exact ⟨o,e,fun v z=>by rw [d] at z;cases z⟩
 keep:=fun i h h' st k=>st.at fun o e=>k it (by simp) o e
 item:=by intro X hP hw hK hc i pj s σ H E I hf st hg;subst hP hw hK;obtain ⟨xs,x,hq,hx⟩:=hg;obtain ⟨qc,rv,p,hz⟩:=I.list hq;obtain ⟨u,hu,ru⟩:=rv.get hx;obtain ⟨f0,f1,f2,f3,f4,f5⟩:=hf it (by simp);refine wpAny_pyNext_list_item st p.isList (x:=u) (by simpa using hu) fun h' st' sb=>?_;have I1:Inv X pj σ H { s with heap:=h' }:=I.turned (t':=s.toks) (fun b o hb e=>(sb.2 b hb).trans e) f0 f1 f3 f4 f5;obtain ⟨o,e,c,d⟩:=id st';exact ⟨u,rfl,zo9 (s:={ s with heap:=h' }) e c d (by decide) ⟨x,H,I1,ru,⟨rfl,fun ys hy=>by rw [I.list_inj hy hq];exact hx⟩,st',fun b hb=>(hf b hb).1⟩⟩
 done:=by intro X hP hw hK hc i pj s σ H E I hf st hg;subst hP hw hK;obtain ⟨xs,hq,hx⟩:=hg;obtain ⟨qc,rv,p,hz⟩:=I.list hq;obtain ⟨f0,f1,f2,f3,f4,f5⟩:=hf it (by simp);have hl:=rv.length;exact wpAny_pyNext_list_end (I.ok.hd hc) st p.isList (by simp;omega) fun h' eb=>⟨rfl,I.turned (t':=s.toks) (fun b o hb e=>eb b o hb e) f0 f1 f3 f4 f5⟩
 self:=fun _ _ _ _ _ st h=>wpAny_pyIter_listiter st h
theorem zjn (a it:Addr):Turn P w K tg (Itt K a) [it] it (fun i h=>h.IsTupleIter it a i) where
 mem:=by simp
 obj:=fun i h st b hb=>by
  have e:b=it:=by simpa using hb
  subst e;obtain ⟨o,e,c,d⟩:=st;exact ⟨o,e,fun v z=>by rw [d] at z;cases z⟩
 keep:=fun i h h' st k=>st.at fun o e=>k it (by simp) o e
 item:=by intro X hP hw hK hc i pj s σ H E I hf st hg;subst hP hw hK;obtain ⟨xs,x,hq,hx⟩:=hg;obtain ⟨qc,rv,p,hz⟩:=I.tuple hq;obtain ⟨u,hu,ru⟩:=rv.get hx;obtain ⟨f0,f1,f2,f3,f4,f5⟩:=hf it (by simp);refine wpAny_pyNext_tuple_item st (show s.heap.IsTuple a qc.toArray from p) (x:=u) (by simpa using hu) fun h' st' sb=>?_;have I1:Inv X pj σ H { s with heap:=h' }:=I.turned (t':=s.toks) (fun b o hb e=>(sb.2 b hb).trans e) f0 f1 f3 f4 f5;obtain ⟨o,e,c,d⟩:=id st';exact ⟨u,rfl,zo9 (s:={ s with heap:=h' }) e c d (by decide) ⟨x,H,I1,ru,⟨rfl,fun ys hy=>by rw [I.tuple_inj hy hq];exact hx⟩,st',fun b hb=>(hf b hb).1⟩⟩
 done:=by intro X hP hw hK hc i pj s σ H E I hf st hg;subst hP hw hK;obtain ⟨xs,hq,hx⟩:=hg;obtain ⟨qc,rv,p,hz⟩:=I.tuple hq;obtain ⟨f0,f1,f2,f3,f4,f5⟩:=hf it (by simp);have hl:=rv.length;exact wpAny_pyNext_tuple_end (I.ok.hd hc) st (show s.heap.IsTuple a qc.toArray from p) (by simp;omega) fun h' eb=>⟨rfl,I.turned (t':=s.toks) (fun b o hb e=>eb b o hb e) f0 f1 f3 f4 f5⟩
 self:=fun _ _ _ _ _ st h=>wpAny_pyIter_tupleiter st h
theorem zjo (it:Addr) (lo:Int) (n:Nat):Turn P w K tg (Itr lo n) [it] it (fun i h=>IsRangeIter h it (lo+(i:Nat)*1) ((n:Int)-(i:Nat)) 1) where
 mem:=by simp
 obj:=fun i h st b hb=>by
  have e:b=it:=by simpa using hb
  subst e;exact ⟨_,st,fun v z=>by have z':Data.fields _=Data.cell v:=z;cases z'⟩
 keep:=fun i h h' st k=>k it (by simp) _ st
 item:=by intro X hP hw hK hc i pj s σ H E I hf st hg;subst hP hw hK;obtain ⟨f0,f1,f2,f3,f4,f5⟩:=hf it (by simp);have W:=Walks.range (prog:=X.prog) (w:=X.w) (I.ok.hd hc) it lo 1 n;refine W.item i s _ _ hg st fun v h' tk hv st' kk=>?_;obtain ⟨t,rfl⟩:=hv;have I1:Inv X pj σ H { s with heap:=h',toks:=tk }:=I.turned (fun b o hb e=>kk b o (by simpa using hb) e) f0 f1 f3 f4 f5;refine ⟨_,rfl,zo9 (s:={ s with heap:=h',toks:=tk }) (n:="range_iterator") st' rfl rfl (by decide) ⟨.int (lo+i),H,I1,⟨t,?_⟩,⟨rfl,rfl⟩,st',fun b hb=>(hf b hb).1⟩⟩;rw [Int.mul_one]
 done:=by intro X hP hw hK hc i pj s σ H E I hf st hg;subst hP hw hK;obtain ⟨f0,f1,f2,f3,f4,f5⟩:=hf it (by simp);exact wpAny_pyNext_range_end (I.ok.hd hc) st (by have:n<=i:=hg;omega) fun h' eb=>⟨rfl,I.turned (t':=s.toks) (fun b o hb e=>eb b o hb e) f0 f1 f3 f4 f5⟩
 self:=fun _ _ _ _ _ st h=>wpAny_pyIter_rangeiter st h
end
section
variable {pj:List (Addr × Obj)} {s:Shared} {fp:List Addr}
section
variable {X:Cx} {tg:Expr}
theorem zoc {σ:St} {H:Hp} {R:It->Hp->Prop} {E:Value->Shared->Prop} {lo hi:Int} {t u v:Tok} {tk:Nat} (I:Inv X pj σ H s) (h1 : -(2 ^ 62)<=lo) (h2:lo<2 ^ 62) (h3 : -(2 ^ 62)<=hi) (h4:hi<2 ^ 62)
  (q:R (Itr lo (hi-lo).toNat) H):wpAny (model X.prog X.w) X.A (pyIter (.ref s.heap.objs.size)) (PIE X pj σ tg R) E { s with heap:=s.heap.push { cls:=.type "range",data:=.fields #[.int lo t,.int hi u,.int 1 v] },toks:=tk }:=by
 refine wpAny_pyIter_range (IsRange.new ..) (small_one h1 h2 h3 h4) ?_;have I1:Inv X pj σ H { s with heap:=s.heap.push { cls:=.type "range",data:=.fields #[.int lo t,.int hi u,.int 1 v] },toks:=tk }:=I.kept fun b o e=>zxz _ e;refine ⟨(s.heap.push { cls:=.type "range",data:=.fields #[.int lo t,.int hi u,.int 1 v] }).objs.size,[(s.heap.push { cls:=.type "range",data:=.fields #[.int lo t,.int hi u,.int 1 v] }).objs.size],_,_,H,rfl,
  I1.kept (t':=tk) fun b o e=>zxz _ e,zjo _ lo (hi-lo).toNat,?_,fun b hb=>?_,q⟩
 ·have e1:lo+((0:Nat):Int)*1=lo:=by simp
  have e2:(((hi-lo).toNat:Nat):Int)-((0:Nat):Int)=Builtin.Range.rangeSize lo hi 1:=by rw [rangeSize_one];split<;>omega
  show IsRangeIter _ _ (lo+((0:Nat):Int)*1) ((((hi-lo).toNat:Nat):Int)-((0:Nat):Int)) 1;rw [e1,e2];exact zx9 _ rfl
 ·have e:b=(s.heap.push { cls:=.type "range",data:=.fields #[.int lo t,.int hi u,.int 1 v] }).objs.size:=by simpa using hb
  subst e;exact I1.fpOk (zye _) (I1.hok.fresh (zye _))
def ygd (ta:TA):TI:=fun σ H R=>ta σ H fun vs H1=>∃ j:Int,vs=[.int j] /\ -(2 ^ 62)<=j/\j<2 ^ 62/\R (Itr 0 j.toNat) H1
theorem zla {a:Expr} {ta:TA} {p pos:Pos} (hg:Gl X "range") (hm:X.mg "range"=none) (ha:PA X [a] ta) (hs:starEach [a] X.env=[(false,eval a X.env)]:=by rfl):PI X tg (.Call (.Name "range" p) [a] [] pos) (ygd ta):=by
 intro pj s σ H R I h;refine Call_ (ze3 I hg hm boot_range (PyProof.Rows.callWith_type1 (thn (ha pos pj s σ H _ I h) fun us s1 ⟨vs,H1,I1,r1,q1⟩=>?_) hs rfl));obtain ⟨j,e,q1,q2,q⟩:=q1;subst e;cases r1 with
 | cons r rr =>cases rr;obtain ⟨t,rfl⟩:=r;exact call_range_1 (zoc I1 (by omega) (by omega) q1 q2 (by simpa using q))
def tFor (wi:TI) (g:TG) (tb:TS):TS:=fun D σ H=>wi σ H fun J H1=>∃ W:Nat->Nat->St->Hp->Prop,(∃ m,W 0 m σ H1)/\∀ i m σ H,W i m σ H ->
 (J.stop i H/\D.nx σ H)\/(J.go i H/\∃ N:St->Hp->Prop,(∀ σ' H',N σ' H'->∃ m',m'<m/\W (i+1) m' σ' H')/\∀ x H',J.yld i H x H'->g x σ H' fun σ2 H2=>tb { D with nx:=N,ct:=N,bk:=D.nx } σ2 H2)
def ycq (fp:List Addr) (h:Heap):List (Addr × Obj):=fp.filterMap fun b=>(h.get? b).map fun o=>(b,o)
theorem zcr {h:Heap} {b:Addr} {o:Obj} (hb:b∈fp) (e:h.get? b=some o):(b,o)∈ycq fp h:=List.mem_filterMap.mpr ⟨b,hb,by rw [e];rfl⟩
theorem zlg {h:Heap} {p:Addr × Obj} (hp:p∈ycq fp h):p.1∈fp/\h.get? p.1=some p.2:=by
 obtain ⟨b,hb,e⟩:=List.mem_filterMap.mp hp;cases q:h.get? b with
 | none=>rw [q] at e;cases e
 | some o =>rw [q] at e;have e':(b,o)=p:=zyk e;subst e';exact ⟨hb,q⟩
theorem Inv.pinned {σ:St} {H:Hp} (I:Inv X pj σ H s) (hf:∀ b∈fp,ycj X pj H b) (ho:∀ b∈fp,∃ o,s.heap.get? b=some o/\∀ v,o.data≠.cell v):Inv X (pj++ycq fp s.heap) σ H s :=
 I.pins_of fun p hp=>(oma hp).elim (fun z=>I.pin p (zy2 _ z)) fun z=>by obtain ⟨hb,e⟩:=zlg z;obtain ⟨f0,f1,f2,_⟩:=hf p.1 hb;obtain ⟨o,e',d⟩:=ho p.1 hb;rw [e] at e';cases e';exact ⟨e,f0,f1,f2,d⟩
theorem Inv.unpinned {pl:List (Addr × Obj)} {σ:St} {H:Hp} (I:Inv X (pj++pl) σ H s):Inv X pj σ H s:=I.pins_of fun p hp=>I.pin p (zy2 _ (List.mem_append_left _ hp))
theorem zp7 {iter:Expr} {body:List Stmt} {wi:TI} {g:TG} {tb:TS} {pos:Pos} (hp:PassesOwn (model X.prog X.w) X.A X.env X.xe) (hc:X.calm=true) (hi:PI X tg iter wi) (hg:PG X tg g) (hb:PSs X body tb)
  (hs:∀ x,foldedSetIterable iter X.env x=pure x:=by intro _;rfl):PS X (.For tg iter body [] pos) (tFor wi g tb):=by
 intro pj s σ H D I h;refine wpAny_For (thn (hi pj s σ H _ I h) fun v s1 h1=>thn h1 fun itv s2 h2=>?_) hs;obtain ⟨it,fp,tn,J,H2,e,I2,T,st2,f2,W,⟨m0,w0⟩,turn⟩:=h2;subst e;have stat:∀ {H':Hp},(∀ b∈fp,H' b=none)->∀ b∈fp,ycj X pj H' b:=fun hn b hb=>⟨hn b hb,(f2 b hb).2⟩;refine codeAny_forLoop_any (fun n s'=>∃ i σ' H',Inv X pj σ' H' s'/\tn i s'.heap/\(∀ b∈fp,H' b=none)/\W i n σ' H') ?_ m0 ⟨0,σ,H2,I2,st2,fun b hb=>(f2 b hb).1,w0⟩;rintro n s3 ⟨i,σ3,H3,I3,st3,fr3,w3⟩;rcases turn i n σ3 H3 w3 with ⟨stop,qn⟩ | ⟨go,N,hN,step⟩
 ·refine wpAny_passesOwn hp (thn (T.done X rfl rfl rfl hc i pj s3 σ3 H3 X.xe I3 (stat fr3) st3 stop) fun r s4 ⟨hr,I4⟩=>?_);subst hr;exact wpAny_execs_nil ⟨σ3,H3,I4,qn⟩
 ·refine wpAny_passesOwn hp (thn (T.item X rfl rfl rfl hc i pj s3 σ3 H3 X.xe I3 (stat fr3) st3 go) fun r s4 ⟨u,hr,h4⟩=>?_);subst hr;refine wpAny_passesOwn hp (thn h4 fun _ s5 ⟨x,H5,I5,r5,y5,st5,fr5⟩=>?_);have I5':=I5.pinned (stat fr5) (T.obj _ _ st5);refine wpAny_passesOwn hp (thn (hg _ s5 σ3 H5 x u _ I5' r5 (step x H5 y5)) fun _ s6 ⟨σ6,H6,I6,q6⟩=>?_);refine wpAny_passesOwn hp (thn (hb _ s6 σ6 H6 _ I6 q6) fun f s7 q7=>?_);have again:∀ {σ7:St} {H7:Hp},Inv X (pj++ycq fp s5.heap) σ7 H7 s7->N σ7 H7->∃ m,m<n/\∃ i σ' H',Inv X pj σ' H' s7/\tn i s7.heap/\(∀ b∈fp,H' b=none)/\W i m σ' H':=fun {σ7 H7} I7 n7=>by obtain ⟨m',hm,w7⟩:=hN σ7 H7 n7;refine ⟨m',hm,i+1,σ7,H7,I7.unpinned,T.keep _ _ _ st5 fun b hb o e=>(I7.pin (b,o) (zy2 _ (zy2 _ (zcr hb e)))).1,fun b hb=>?_,w7⟩;obtain ⟨o,e,d⟩:=T.obj _ _ st5 b hb;exact (I7.pin (b,o) (zy2 _ (zy2 _ (zcr hb e)))).2.1
  cases f with
  | next=>obtain ⟨σ7,H7,I7,n7⟩:=q7;exact again I7 n7
  | cont=>obtain ⟨σ7,H7,I7,n7⟩:=q7;exact again I7 n7
  | brk=>obtain ⟨σ7,H7,I7,q7⟩:=q7;exact ⟨σ7,H7,I7.unpinned,q7⟩
  | ret v=>obtain ⟨x7,σ7,H7,I7,r7,q7⟩:=q7;exact ⟨x7,σ7,H7,I7.unpinned,r7,q7⟩
end
end
section
variable {pj:List (Addr × Obj)} {op:CmpOp} {g:Int->Int->Int} {us:List Value}
abbrev R2:=V->V->Hp->VK->Prop
def OpR (X:Cx) (f:Value->Value->Sem Value) (r:R2):Prop :=
 ∀ (pj:List (Addr × Obj)) (s:Shared) (σ:St) (H:Hp) (x y:V) (v u:Value) (Q:VK),Inv X pj σ H s->RelV x v->RelV y u->r x y H Q ->
  wpAny (model X.prog X.w) X.A (f v u) (EP X pj σ Q) X.xe s
def UnR (X:Cx) (f:Value->Sem Value) (r:V->Hp->VK->Prop):Prop :=
 ∀ (pj:List (Addr × Obj)) (s:Shared) (σ:St) (H:Hp) (x:V) (v:Value) (Q:VK),Inv X pj σ H s->RelV x v->r x H Q ->
  wpAny (model X.prog X.w) X.A (f v) (EP X pj σ Q) X.xe s
def yb9 (X:Cx) (f:Value) (r:List V->Hp->VK->Prop):Prop :=
 ∀ (pj:List (Addr × Obj)) (s:Shared) (σ:St) (H:Hp) (xs:List V) (us:List Value) (Q:VK),Inv X pj σ H s->Vals xs us->r xs H Q ->
  wpAny (model X.prog X.w) X.A (call f us) (EP X pj σ Q) X.xe s
def TruR (X:Cx) (r:V->Hp->(Bool->Hp->Prop)->Prop):Prop :=
 ∀ (pj:List (Addr × Obj)) (s:Shared) (σ:St) (H:Hp) (x:V) (v:Value) (Q:Bool->Hp->Prop),Inv X pj σ H s->RelV x v->r x H Q ->
  wpAny (model X.prog X.w) X.A (truthy v) (TP X pj σ Q) X.xe s
def tOp (r:R2) (ta tb:TE):TE:=fun σ H Q=>ta σ H fun x H1=>tb σ H1 fun y H2=>r x y H2 Q
def tUn (r:V->Hp->VK->Prop) (ta:TE):TE:=fun σ H Q=>ta σ H fun x H1=>r x H1 Q
def rI (C:Int->Int->Prop) (g:Int->Int->V):R2:=fun x y H Q=>∃ i j,x=.int i/\y=.int j/\C i j/\Q (g i j) H
def rI0 (g:Int->Int->V):R2:=fun x y H Q=>∃ i j,x=.int i/\y=.int j/\Q (g i j) H
def rU (g:Int->V):V->Hp->VK->Prop:=fun x H Q=>∃ i,x=.int i/\Q (g i) H
section
variable {X:Cx} {a b c:Expr} {ta tb tc:TE} {pos:Pos}
theorem ya0 (ha:PE X a ta) (hb:PE X b tb) {s:Shared} {σ:St} {H:Hp} {R:V->V->Hp->Prop} (I:Inv X pj σ H s)
  (h:ta σ H fun x H1=>tb σ H1 fun y H2=>R x y H2) {Q:Value->Shared->Prop} {f:Value->Value->Sem Value}
  (hf:∀ v u s2 x y H2,Inv X pj σ H2 s2->RelV x v->RelV y u->R x y H2->wpAny (model X.prog X.w) X.A (f v u) Q X.xe s2) :
  wpAny (model X.prog X.w) X.A (eval a X.env) (fun v s₁=>wpAny (model X.prog X.w) X.A (eval b X.env) (fun u s₂=>wpAny (model X.prog X.w) X.A (f v u) Q X.xe s₂) X.xe s₁) X.xe s:=by
 refine thn (ha pj s σ H _ I h) fun v s1 ⟨x,H1,I1,r1,q1⟩=>?_;refine thn (hb pj s1 σ H1 _ I1 q1) fun u s2 ⟨y,H2,I2,r2,q2⟩=>?_;exact hf v u s2 x y H2 I2 r1 r2 q2
theorem zuj {op:Operator} {r:R2} (ho:OpR X (binaryOp op) r) (ha:PE X a ta) (hb:PE X b tb):PE X (.BinOp a op b pos) (tOp r ta tb):=by intro pj s σ H Q I h;exact wpAny_BinOp (ya0 ha hb I h fun v u s2 x y H2 I2 rx ry q=>ho pj s2 σ H2 x y v u Q I2 rx ry q)
theorem zw8 {op:UnaryOp} {r:V->Hp->VK->Prop} (ho:UnR X (unaryOp op) r) (ha:PE X a ta):PE X (.UnaryOp op a pos) (tUn r ta):=by intro pj s σ H Q I h;exact UnaryOp_ (thn (ha pj s σ H _ I h) fun v s1 ⟨x,H1,I1,r1,q1⟩=>ho pj s1 σ H1 x v Q I1 r1 q1)
theorem opI {f:Value->Value->Sem Value} {C:Int->Int->Prop}
  (rule:∀ (i j:Int) (t u:Tok) (s:Shared) (Q:Value->Shared->Prop) (E:Value->Shared->Prop),C i j->Q (.int (g i j) s.toks) { s with toks:=s.toks+1 }->wpAny (model X.prog X.w) X.A (f (.int i t) (.int j u)) Q E s) :
  OpR X f (rI C fun i j=>.int (g i j)):=by
 intro pj s σ H x y v u Q I rx ry h;obtain ⟨i,j,rfl,rfl,hc,q⟩:=h;obtain ⟨t,rfl⟩:=rx;obtain ⟨t',rfl⟩:=ry;exact rule i j t t' s _ _ hc ⟨.int (g i j),H,I.tok _,⟨_,rfl⟩,q⟩
theorem opI0 {f:Value->Value->Sem Value}
  (rule:∀ (i j:Int) (t u:Tok) (s:Shared) (Q:Value->Shared->Prop) (E:Value->Shared->Prop),Q (.int (g i j) s.toks) { s with toks:=s.toks+1 }->wpAny (model X.prog X.w) X.A (f (.int i t) (.int j u)) Q E s) :
  OpR X f (rI0 fun i j=>.int (g i j)):=by
 intro pj s σ H x y v u Q I rx ry h;obtain ⟨i,j,rfl,rfl,q⟩:=h;obtain ⟨t,rfl⟩:=rx;obtain ⟨t',rfl⟩:=ry;exact rule i j t t' s _ _ ⟨.int (g i j),H,I.tok _,⟨_,rfl⟩,q⟩
theorem opB0 {f:Value->Value->Sem Value} {g:Int->Int->Bool}
  (rule:∀ (i j:Int) (t u:Tok) (s:Shared) (Q:Value->Shared->Prop) (E:Value->Shared->Prop),Q (.bool (g i j)) s->wpAny (model X.prog X.w) X.A (f (.int i t) (.int j u)) Q E s) :
  OpR X f (rI0 fun i j=>.bl (g i j)):=by
 intro pj s σ H x y v u Q I rx ry h;obtain ⟨i,j,rfl,rfl,q⟩:=h;obtain ⟨t,rfl⟩:=rx;obtain ⟨t',rfl⟩:=ry;exact rule i j t t' s _ _ ⟨.bl (g i j),H,I,rfl,q⟩
def CDiv (i j:Int):Prop:=0<j/\j<1073741824
def CMul (i j:Int):Prop:=(-(2 ^ 64)<i/\i<2 ^ 64)\/(-(2 ^ 64)<j/\j<2 ^ 64)
theorem CMul.ok {i j:Int} (h:CMul i j):IntMulOk i j:=by
 rcases h with ⟨h1,h2⟩ | ⟨h1,h2⟩
 ·exact .of_left (intBits_le_64 h1 h2)
 ·exact .of_right (intBits_le_64 h1 h2)
theorem zuw:OpR X (binaryOp .Add) (rI0 fun i j=>.int (i+j)):=opI0 fun _ _ _ _ _ _ _ q=>add_int q
theorem zuu:OpR X (binaryOp .Sub) (rI0 fun i j=>.int (i-j)):=opI0 fun _ _ _ _ _ _ _ q=>sub_int q
theorem yfd:OpR X (binaryOp .Mult) (rI CMul fun i j=>.int (i*j)):=opI fun _ _ _ _ _ _ _ hc q=>mul_int q hc.ok
theorem yew:OpR X (binaryOp .FloorDiv) (rI CDiv fun i j=>.int (i/j)):=opI fun i j _ _ _ _ _ hc q=>by have h1:(0:Int)<j:=hc.1;have h2:j<1073741824:=hc.2;exact floordiv_int (by omega) (by rw [Int.fdiv_eq_ediv_of_nonneg i (by omega)];exact q) (.inl (PyProof.noPylong_small (by omega)))
theorem ye9:OpR X (binaryOp .Mod) (rI (fun _ j=>0<j) fun i j=>.int (i%j)):=opI fun i j _ _ _ _ _ hc q=>by have h1:(0:Int)<j:=hc;exact mod_int' (by omega) (by rw [Int.fmod_eq_emod_of_nonneg i (by omega)];exact q)
theorem unI {f:Value->Sem Value} {g:Int->Int}
  (rule:∀ (i:Int) (t:Tok) (s:Shared) (Q:Value->Shared->Prop) (E:Value->Shared->Prop),Q (.int (g i) s.toks) { s with toks:=s.toks+1 }->wpAny (model X.prog X.w) X.A (f (.int i t)) Q E s) :
  UnR X f (rU fun i=>.int (g i)):=by
 intro pj s σ H x v Q I rx h;obtain ⟨i,rfl,q⟩:=h;obtain ⟨t,rfl⟩:=rx;exact rule i t s _ _ ⟨.int (g i),H,I.tok _,⟨_,rfl⟩,q⟩
theorem ztk:UnR X (unaryOp .USub) (rU fun i=>.int (-i)):=unI fun _ _ _ _ _ q=>neg_int q
end
section
variable {X:Cx} {a b c:Expr} {ta tb tc:TE} {pos:Pos}
theorem zmr {σ:St} {H:Hp} {s:Shared} {Q:VK} {k k':Bool} (I:Inv X pj σ H s) (q:Q (.bl k) H) (e:k=k'):EP X pj σ Q (.bool k') s:=by subst e;exact ⟨.bl k,H,I,rfl,q⟩
theorem zxc:OpR X (compareOp .Lt) (rI0 fun i j=>.bl (decide (i<j))):=opB0 fun _ _ _ _ _ _ _ q=>lt_int q
theorem zxd:OpR X (compareOp .Gt) (rI0 fun i j=>.bl (decide (j<i))):=opB0 fun _ _ _ _ _ _ _ q=>gt_int q
theorem zle:OpR X (compareOp .Lt) (fun x y H Q=>∃ i j,x=.str i/\y=.str j/\Q (.bl (decide (i.cps.toList<j.cps.toList))) H):=by intro pj s σ H x y v u Q I rx ry h;obtain ⟨i,j,rfl,rfl,q⟩:=h;obtain ⟨t,rfl⟩:=rx;obtain ⟨t',rfl⟩:=ry;exact lt_str (zmr I q rfl)
theorem zuv:OpR X (compareOp .Is) (fun x y H Q=>y=.non/\Q (.bl (decide (x=.non))) H):=by
 intro pj s σ H x y v u Q I rx ry h;obtain ⟨rfl,q⟩:=h;cases ry;refine is_none_gen (zmr I q ?_);cases x<;>first
  | (cases rx;rfl)
  | (obtain ⟨t,rfl⟩:=rx;rfl)
theorem zsb:OpR X (compareOp .IsNot) (fun x y H Q=>y=.non/\Q (.bl (!decide (x=.non))) H):=by
 intro pj s σ H x y v u Q I rx ry h;obtain ⟨rfl,q⟩:=h;cases ry;refine isnot_none_gen (zmr I q ?_);cases x<;>first
  | (cases rx;rfl)
  | (obtain ⟨t,rfl⟩:=rx;rfl)
theorem yb4 (b:Expr) (h:op≠.In:=by decide) (h2:op≠.NotIn:=by decide):behindInMarks op b=false:=by
 have e1:(op==CmpOp.In)=false:=by cases op<;>first | rfl | exact absurd rfl h
 have e2:(op==CmpOp.NotIn)=false:=by cases op<;>first | rfl | exact absurd rfl h2
 cases b<;>simp [behindInMarks,e1,e2]
theorem zr1 {r:R2} (ho:OpR X (compareOp op) r) (ha:PE X a ta) (hb:PE X b tb) (hm:behindInMarks op b=false):PE X (.Compare a [op] [b] pos) (tOp r ta tb):=by intro pj s σ H Q I h;exact wpAny_Compare1 (ya0 ha hb I h fun v u s2 x y H2 I2 rx ry q=>ho pj s2 σ H2 x y v u Q I2 rx ry q) hm
def ygn (t:TE):TT:=fun σ H Q=>t σ H fun x H'=>∃ k,x=.bl k/\Q k H'
theorem zrr {r:R2} (ho:OpR X (compareOp op) r) (ha:PE X a ta) (hb:PE X b tb) (hm:behindInMarks op b=false):PT X (.Compare a [op] [b] pos) (ygn (tOp r ta tb)):=by
 intro pj s σ H Q I h;refine wpAny_isTrue_Compare1 (thn (ha pj s σ H _ I h) fun v s1 ⟨x,H1,I1,r1,q1⟩=>thn (hb pj s1 σ H1 _ I1 q1) fun u s2 ⟨y,H2,I2,r2,q2⟩ =>thn (ho pj s2 σ H2 x y v u _ I2 r1 r2 q2) fun c s3 ⟨z,H3,I3,r3,k,e,q3⟩=>?_) hm;subst e;cases r3;exact wpAny_truthy_bool ⟨H3,I3,q3⟩
def ygm (K:PySem.W.Frag) (x:V) (H:Hp) (k:Bool):Prop :=
 match x with
 | .non=>k=false
 | .bl b=>k=b
 | .int i=>k=(i != 0)
 | .str y=>y.length<=sizeLine/\k=((y.length:Int) != 0)
 | .byt y=>y.size<=sizeLine/\k=((y.size:Int) != 0)
 | .ref p=>(∃ xs,SqL K H p xs/\k=!xs.isEmpty)\/(∃ xs,SqT K H p xs/\k=!xs.isEmpty)\/∃ qb,H p=some (.dK qb)/\k=!qb.isEmpty
 | _=>False
theorem zj3 {κ:Type} {qb:List (κ × V)} {vs:List (κ × Value)} (r:KV qb vs):(!vs.isEmpty)=!qb.isEmpty:=by cases r<;>rfl
theorem ze4 {xs:List V} {qc:List Value} (r:Vals xs qc):(!qc.toArray.isEmpty)=!xs.isEmpty:=by cases r<;>simp
theorem yc6:(sizeLine:Nat)<2 ^ 63:=by rw [sizeLine_eq];decide
theorem ztn:TruR X (fun x H Q=>∃ k,ygm X.K x H k/\Q k H):=by
 intro pj s σ H x v Q I rx h;obtain ⟨k,e,q⟩:=h;have hl:=yc6;have hs:sizeLine=16777216:=sizeLine_eq;cases x with
 | non =>cases rx;have e':k=false:=e;subst e';exact truthy_none ⟨H,I,q⟩
 | bl b =>cases rx;have e':k=b:=e;subst e';exact wpAny_truthy_bool ⟨H,I,q⟩
 | int i =>obtain ⟨t,rfl⟩:=rx;have e':k=(i != 0):=e;subst e';exact PySem.P.truthy_int ⟨H,I,q⟩
 | str y =>obtain ⟨t,rfl⟩:=rx;obtain ⟨hy,e'⟩:y.length<=sizeLine/\k=((y.length:Int) != 0):=e;subst e';exact PySem.P.truthy_str (by omega) ⟨H,I.tok _,q⟩
 | byt y =>obtain ⟨t,rfl⟩:=rx;obtain ⟨hy,e'⟩:y.size<=sizeLine/\k=((y.size:Int) != 0):=e;subst e';exact PySem.W.truthy_bytes (by omega) ⟨H,I.tok _,q⟩
 | ref p =>
  cases rx;have e':(∃ xs,SqL X.K H p xs/\k=!xs.isEmpty)\/(∃ xs,SqT X.K H p xs/\k=!xs.isEmpty)\/∃ qb,H p=some (.dK qb)/\k=!qb.isEmpty:=e;rcases e' with ⟨xs,hx,e'⟩ | ⟨xs,hx,e'⟩ | ⟨qb,hx,e'⟩
  ·subst e';obtain ⟨qc,r,pl,hz⟩:=I.list hx;have hlen:=r.length;exact wpAny_truthy_list pl.isList (by simp only [List.size_toArray];omega) ⟨H,I.tok _,by rw [ze4 r];exact q⟩
  ·subst e';obtain ⟨qc,r,pl,hz⟩:=I.tuple hx;have hlen:=r.length;exact truthy_tuple pl (by simp only [List.size_toArray];omega) ⟨H,I.tok _,by rw [ze4 r];exact q⟩
  ·subst e';obtain ⟨hz,hS,vs,r,m⟩:qb.length<=sizeLine/\(p==sysModules)=false/\∃ vs,KV qb vs/\s.heap.DictOf (zat X.prog X.w) p vs:=I.hok p _ hx;have hlen:qb.length=vs.length:=Paired.length r;exact wpAny_truthy_dict hS m (by omega) ⟨H,I.tok _,by rw [zj3 r];exact q⟩
 | _=>exact (show False from e).elim
theorem zof (ha:PE X a ta) (he:∀ whole,isTrue a X.env whole=(do let v <- whole;standAt a.pos;holding [v] (truthy v))) :
  PT X a (fun σ H Q=>ta σ H fun x H'=>∃ k,ygm X.K x H' k/\Q k H'):=by
 intro pj s σ H Q I h;exact isTrue_plain (thn (ha pj s σ H _ I h) fun v s1 ⟨x,H1,I1,r1,q1⟩=>ztn pj s1 σ H1 x v Q I1 r1 q1) (he _)
theorem yb0 {x:V} (r:Vals [x] us):∃ u,us=[u]/\RelV x u:=by
 cases r with
 | cons r1 r2=>cases r2;exact ⟨_,rfl,r1⟩
theorem yfe {x y:V} (r:Vals [x,y] us):∃ u w',us=[u,w']/\RelV x u/\RelV y w':=by
 cases r with
 | cons r1 r2 =>
  cases r2 with
  | cons r3 r4=>cases r4;exact ⟨_,_,rfl,r1,r3⟩
theorem zgy:yb9 X (.type "int") (fun xs H Q=>(∃ i,xs=[.int i]/\Q (.int i) H)\/∃ k,xs=[.bl k]/\Q (.int (if k then 1 else 0)) H):=by
 intro pj s σ H xs us Q I r h;rcases h with ⟨i,rfl,q⟩ | ⟨k,rfl,q⟩
 ·obtain ⟨u,rfl,t,rfl⟩:=yb0 r;exact call_int_int ⟨.int i,H,I,⟨_,rfl⟩,q⟩
 ·obtain ⟨u,rfl,r1⟩:=yb0 r;cases r1;exact call_int_bool ⟨.int (if k then 1 else 0),H,I.tok _,⟨_,rfl⟩,q⟩
end
end
section
structure ObjM (h:Heap) (x dx C:Addr) (mA:Str->Option Value):Prop where
 obj:h.get? x=some (PySem.W.instObj C dx)
 ns:h.Ns1 dx mA
 ne:dx≠x
section
variable {prog:Program} {w:World} {A:Around} {E:Value->Shared->Prop} {s:Shared} {K:PySem.W.Frag} {x dx C f:Addr} {mA:Str->Option Value} {name:Str} {v:Value}
end
theorem RelO.some_of {v:V} {o:Option Value} (r:RelO (some v) o):∃ u,o=some u/\RelV v u:=by
 cases o with
 | none=>exact (show False from r).elim
 | some u=>exact ⟨u,rfl,r⟩
section
variable {P:Program} {w:World} {H H':Hp} {h h':Heap} {a C dx:Addr} {fs fs':List (Str × V)}
end
structure Cls (K:PySem.W.Frag) (C:Addr):Prop where
 pg:PySem.W.plainGet K C Str.empty=true
 hd:PySem.W.hasDictIn K C=true
 po:PySem.W.plainOver K C=true
 sa:PySem.W.findIn K (.ref C) "__setattr__"=some (some (.builtin "object.__setattr__"))
structure Con (K:PySem.W.Frag) (C:Addr) (f:Str) (v:V) (u:Value):Prop where
 at_:PySem.W.findIn K (.ref C) f=some (some u)
 rel:RelV v u
 get:PySem.W.specialIn K u "__get__"=some none
 cp:PySem.W.copiedNames.contains f=false
structure Meth (K:PySem.W.Frag) (C:Addr) (m:Str) (f:Addr):Prop where
 at_:PySem.W.findIn K (.ref C) m=some (some (.ref f))
 fn:PySem.W.isFn K (.ref f)=true
 kp:PySem.W.keepIn K (.ref f)=true
section
variable {X:Cx} {pj:List (Addr × Obj)} {σ:St} {H:Hp} {s:Shared} {a C dx:Addr} {fs:List (Str × V)} {f:Str} {v:V} {A:Around} {E:Value->Shared->Prop}
end
section
variable {X:Cx} {o e value:Expr} {f:Str} {pos pos' tpos:Pos} {ta tv:TE}
end
section
variable {X:Cx} {pj:List (Addr × Obj)} {σ:St} {H:Hp} {s:Shared} {A:Around} {E:Value->Shared->Prop} {Q:Value->Shared->Prop} {c:Value} {b:Bool}
end
end
section
variable {K:PySem.W.Frag} {us:List Value} {mg:Str->Option Value} {scope:Scope}
structure Room (k:Nat) (A:Around):Prop where
 hd:A.handled=none
 dp:A.depth+3*k+5<recursionLimit
 un:A.units+16*k+200<cLine
theorem Room.deeper {k:Nat} {A:Around} (r:Room (k+1) A) (env:Env):Room k (A.deeper env) :=
 ⟨r.hd,by have:=r.dp;show A.depth+1+3*k+5<_;omega,by have:=r.un;show A.units+3+16*k+200<_;omega⟩
theorem Room.depth {k:Nat} {A:Around} (r:Room k A):A.depth<recursionLimit:=by have:=r.dp;omega
def tNil:TA:=fun _ H Q=>Q [] H
def ygg (ta:TE) (tr:TA):TA:=fun σ H Q=>ta σ H fun x H1=>tr σ H1 fun xs H2=>Q (x::xs) H2
section
variable {X:Cx} {e:Expr} {es:List Expr} {te:TE} {t:TA} {pos:Pos}
theorem zil:PA X [] tNil:=fun _ _ _ _ H Q I h=>Calls.spliced_nil ⟨[],H,I,.nil,h⟩
theorem zd8 (ha:PE X e te) (hr:PA X es t) (hs:starEach (e::es) X.env=(false,eval e X.env)::starEach es X.env:=by rfl):PA X (e::es) (ygg te t):=by intro pos pj s σ H Q I h;rw [hs];show wpAny _ _ (spliced ((false,eval e X.env)::backTo pos (starEach es X.env))) _ _ s;refine Calls.spliced_cons (thn (ha pj s σ H _ I h) fun u s1 ⟨x,H1,I1,r1,q1⟩=>?_);exact thn (hr pos pj s1 σ H1 _ I1 q1) fun us s2 ⟨xs,H2,I2,r2,q2⟩=>⟨x::xs,H2,I2,.cons r1 r2,q2⟩
def tTup (t:TA):TE:=fun σ H Q=>t σ H fun xs H1=>xs.length<=sizeLine/\∀ p,H1 p=none->Q (.ref p) (upd H1 p (.tup xs))
def tLst (t:TA):TE:=fun σ H Q=>t σ H fun xs H1=>xs.length<=sizeLine/\∀ p,H1 p=none->Q (.ref p) (upd H1 p (.lst xs))
theorem zuh {x1} (h:PA X es t):PE X (.Tuple es x1 pos) (tTup t):=by intro pj s σ H Q I hq;refine wpAny_Tuple_spliced (thn (h pos pj s σ H _ I hq) fun us s1 ⟨xs,H1,I1,r,z,q⟩=>⟨by rw [<- r.length];exact z,?_⟩);have hf:H1 s1.heap.objs.size=none:=I1.hok.fresh (zye _);refine ⟨.ref s1.heap.objs.size,upd H1 s1.heap.objs.size (.tup xs),I1.laid (t':=s1.toks) (fun b u e=>zxz _ e) (zye _) ?_,rfl,q _ hf⟩;exact ⟨z,us,r,⟨_,zx9 _ rfl,rfl,_,rfl⟩⟩
theorem zp8 (h:PA X es t):PE X (.List es pos) (tLst t):=by intro pj s σ H Q I hq;refine wpAny_List_spliced (thn (h pos pj s σ H _ I hq) fun us s1 ⟨xs,H1,I1,r,z,q⟩=>⟨by rw [<- r.length];exact z,?_⟩);have hf:H1 s1.heap.objs.size=none:=I1.hok.fresh (zye _);refine ⟨.ref s1.heap.objs.size,upd H1 s1.heap.objs.size (.lst xs),I1.laid (t':=s1.toks) (fun b u e=>zxz _ e) (zye _) ?_,rfl,q _ hf⟩;exact ⟨z,us,0,r,zx9 _ rfl⟩
end
abbrev Sp:=List V->Hp->VK->XK->Prop
abbrev CXT:=List Env->Hp->Shared->XK->Value->Shared->Prop
structure Env0 (P:Program) (w:World) (K:PySem.W.Frag) (mg:Str->Option Value) (base:Heap) (A:Around) (outer:List Env) (s:Shared) (H:Hp):Prop where
 frames:A.frames=some outer
 mod:Mod K mg base
 bs:∀ b o,base.get? b=some o->s.heap.get? b=some o/\H b=none
 bsz:base.objs.size<=s.heap.objs.size
 funs:s.heap.FunFrames base outer
 frf:∀ b∈frs outer,H b=none
 hok:HOk P w H s.heap
 bare:AllBare s.gens
def CE (outer:List Env) (P:Program) (w:World) (H:Hp) (s:Shared) (Q:VK) (u:Value) (s':Shared):Prop :=
 ∃ v H',s'.os=s.os/\AllBare s'.gens/\Un (frs outer) [] H H' s.heap s'.heap/\HOk P w H' s'.heap/\RelV v u/\Q v H'
def CR (CX:CXT) (outer:List Env) (P:Program) (w:World) (H:Hp) (s:Shared) (Q:VK) (E:XK) (r:Result) (s':Shared):Prop :=
 match r with
 | .ok (.ret u)=>CE outer P w H s Q u s'
 | .ok _=>False
 | .error e=>CX outer H s E e s'
structure FnOk (P:Program) (w:World) (K:PySem.W.Frag) (mg:Str->Option Value) (base:Heap) (CX:CXT) (k:Nat) (f:Addr) (fd:FuncData) (ps:List Str) (sp:Sp):Prop where
 len:∀ vs H Q E,sp vs H Q E->vs.length=ps.length
 run:∀ (A:Around) (outer:List Env) (s:Shared) (H:Hp) (args:Args) (us:List Value) (vs:List V) (Q:VK) (E:XK),Room k A->Env0 P w K mg base A outer s H->BindsTo s fd args (ps.zip us)->Vals vs us->sp vs H Q E ->
  codeAny (model P w) A (.call (.ref f) args) (CR CX outer P w H s Q E) s
section
variable {X:Cx} {pj:List (Addr × Obj)} {σ:St} {H:Hp} {s s':Shared}
theorem Inv.env0 (I:Inv X pj σ H s):Env0 X.prog X.w X.K X.mg X.base X.A X.stack s H :=
 ⟨I.ok.frames,I.ok.mod,I.bs,zyr I.ok.bsz I.sz,I.stack,I.stkFree,I.hok,I.bare⟩
theorem Inv.after {Q:VK} {u:Value} (I:Inv X pj σ H s) (h:CE X.stack X.prog X.w H s Q u s'):EP X pj σ Q u s':=by obtain ⟨v,H',os,bare,un,hok,r,q⟩:=h;obtain ⟨hh,g,d,t,os'⟩:=s';obtain rfl:os'=s.os:=os;exact ⟨v,H',I.call (h':=hh) (g':=g) (d':=d) (t':=t) (ch:=[]) un hok bare (fun b z=>absurd z (by simp)),r,q⟩
end
def yfy (sp:Sp) (dvs:List V) (E:XK) (t:TA):TE:=fun σ H Q=>t σ H fun vs H1=>sp (vs++dvs) H1 Q E
def Binds (K:PySem.W.Frag) (fd:FuncData) (ps:List Str) (ds:List Value):Prop :=
 ∀ (s:Shared) (us:List Value),K.In s.heap->(us++ds).length=ps.length->BindsTo s fd ⟨us,[]⟩ (ps.zip (us++ds))
theorem Binds.all {fd:FuncData} {ps:List Str} (h:∀ us:List Value,us.length=ps.length->bindArgs fd ⟨us,[]⟩=pure (ps.zip us)):Binds K fd ps []:=fun s us _ hl=>by rw [zyh] at hl ⊢;exact .of_eq (h us hl)
def ydm (CX:CXT) (X:Cx) (E:XK):Prop:=∀ (pj:List (Addr × Obj)) (σ:St) (H:Hp) (s:Shared) (e:Value) (s':Shared),Inv X pj σ H s->CX X.stack H s E e s'->X.xe e s'
section
variable {X:Cx} {CX:CXT} {k:Nat} {f C:Addr} {fd:FuncData} {ps:List Str} {sp:Sp} {dvs:List V} {ds:List Value} {E:XK} {x m:Str} {p pos apos:Pos} {e o:Expr} {es:List Expr} {ta:TE} {t:TA}
theorem ztx {pj:List (Addr × Obj)} {σ:St} {H:Hp} {s:Shared} {Q:VK} {vs:List V} (F:FnOk X.prog X.w X.K X.mg X.base CX k f fd ps sp) (hr:Room k X.A) (hb:Binds X.K fd ps ds) (hd:Vals dvs ds) (hx:ydm CX X E)
  (I:Inv X pj σ H s) (r:Vals vs us) (h:sp (vs++dvs) H Q E):wpAny (model X.prog X.w) X.A (call (.ref f) us) (EP X pj σ Q) X.xe s:=by
 have r2:Vals (vs++dvs) (us++ds):=r.append hd;have hl:(us++ds).length=ps.length:=by rw [<- r2.length];exact F.len _ _ _ _ h
 refine wpAny_call (codeAny_mono (F.run X.A X.stack s H ⟨us,[]⟩ (us++ds) (vs++dvs) Q E hr I.env0 (hb s us I.kIn hl) r2 h) fun r s' hq=>?_);cases r with
 | error e=>exact hx pj σ H s e s' I hq
 | ok fl =>
  cases fl with
  | ret u=>exact I.after hq
  | next=>exact False.elim hq
  | brk=>exact False.elim hq
  | cont=>exact False.elim hq
theorem zr2 (F:FnOk X.prog X.w X.K X.mg X.base CX k f fd ps sp) (hr:Room k X.A) (hg:Gl X x) (hm:X.mg x=some (.ref f)) (hk:PySem.W.keepIn X.K (.ref f)=true) (hb:Binds X.K fd ps ds) (hd:Vals dvs ds) (hx:ydm CX X E)
  (ha:PA X (e::es) t) (hdb:(x==("__debug__":Str))=false:=by decide) (he:starEach (e::es) X.env=(false,eval e X.env)::starEach es X.env:=by rfl) (hpl:(backTo pos (starEach es X.env)).any (·.1)=false:=by rfl) :
  PE X (.Call (.Name x p) (e::es) [] pos) (yfy sp dvs E t):=by
 intro pj s σ H Q I h;refine wpAny_Call_Name_kw (zlu I hg hm ?_ hdb);refine PySem.W.callWith_K (h₀:=X.base) I.ok.mod.kin hk (thn (ha pos pj s σ H _ I h) fun us s1 ⟨vs,H1,I1,r,q⟩=>⟨I1.kIn,?_⟩) he hpl;exact ztx F hr hb hd hx I1 r q
structure Mk (K:PySem.W.Frag) (C f:Addr):Prop where
 makes:PySem.W.makesIn K C=true
 init:PySem.W.findIn K (.ref C) "__init__"=some (some (.ref f))
 fn:PySem.W.isFn K (.ref f)=true
 kp:PySem.W.keepIn K (.ref C)=true
end
section
variable {X:Cx} {CX:CXT} {k:Nat} {f C:Addr} {fd:FuncData} {ps ks:List Str} {sp:Sp} {E:XK} {x m:Str} {p pos apos kpos:Pos} {e o:Expr} {es:List Expr} {kws:List Keyword} {te ta:TE} {t tk:TA} {nm:Option Str}
structure KBinds (K:PySem.W.Frag) (fd:FuncData) (ps ks:List Str) (g:List Value->List Value->List Value) (gV:List V->List V->List V):Prop where
 to:∀ (s:Shared) (us ws:List Value),K.In s.heap->(g us ws).length=ps.length->BindsTo s fd ⟨us,ks.zip ws⟩ (ps.zip (g us ws))
 rel:∀ {vs:List V} {us:List Value} {zs:List V} {ws:List Value},Vals vs us->Vals zs ws->Vals (gV vs zs) (g us ws)
variable {g:List Value->List Value->List Value} {gV:List V->List V->List V}
end
structure FnScope (N P:List Str) (sc:Scope):Prop where
 kind:sc.kind=.function
 co:sc.isCoroutine=false
 gen:sc.isGenerator=false
 nd:N.Nodup
 pre:N.take P.length=P
 par:∀ x∈P,sc.names.lookup x=some .local\/sc.names.lookup x=some .cell
 nofree:∀ y∈sc.names,y.2≠.free
theorem zgz {kindOf:Str->Option NameKind} {x:Str}:∀ {binds:List (Str × Value)} {m:Str->Option Value},(∀ v,(x,v)∉binds)->bindL kindOf binds m x=m x
 | [],_,_=>rfl
 | (n,v)::r,m,h=>by
  unfold bindL;rw [zgz fun w hw=>h w (zx8 _ hw)];split
  ·have:x≠n:=by rintro rfl;exact h v zyc
   simp [this]
  ·rfl
theorem zg1 {kindOf:Str->Option NameKind} {x:Str}:∀ {binds:List (Str × Value)} {m:Str->Option Value},(∀ v,(x,v)∉binds)->bindC kindOf binds m x=m x
 | [],_,_=>rfl
 | (n,v)::r,m,h=>by
  unfold bindC;rw [zg1 fun w hw=>h w (zx8 _ hw)];split
  ·rfl
  ·have:x≠n:=by rintro rfl;exact h v zyc
   simp [this]
theorem zg0 {kindOf:Str->Option NameKind} {x:Str} {v:Value}:∀ {P:List Str} {vs:List Value} {i:Nat} {m:Str->Option Value},P.Nodup->P[i]?=some x->vs[i]?=some v->kindOf x=some .local ->
  bindL kindOf (P.zip vs) m x=some v
 | [],_,_,_,_,h,_,_=>by simp at h
 | _::_,[],_,_,_,_,h,_=>by simp at h
 | p::P,w::vs,0,m,nd,h1,h2,hk=>by simp at h1 h2;subst h1;subst h2;show bindL kindOf ((p,w)::P.zip vs) m p=_;unfold bindL;rw [zgz fun v hv=>(List.nodup_cons.mp nd).1 (List.of_mem_zip hv).1,if_pos hk];simp
 | p::P,w::vs,i+1,m,nd,h1,h2,hk=>by show bindL kindOf ((p,w)::P.zip vs) m x=_;unfold bindL;exact zg0 (i:=i) (List.nodup_cons.mp nd).2 (by simpa using h1) (by simpa using h2) hk
theorem zg2 {kindOf:Str->Option NameKind} {x:Str} {v:Value}:∀ {P:List Str} {vs:List Value} {i:Nat} {m:Str->Option Value},P.Nodup->P[i]?=some x->vs[i]?=some v->kindOf x≠some .local ->
  bindC kindOf (P.zip vs) m x=some v
 | [],_,_,_,_,h,_,_=>by simp at h
 | _::_,[],_,_,_,_,h,_=>by simp at h
 | p::P,w::vs,0,m,nd,h1,h2,hk=>by simp at h1 h2;subst h1;subst h2;show bindC kindOf ((p,w)::P.zip vs) m p=_;unfold bindC;rw [zg1 fun v hv=>(List.nodup_cons.mp nd).1 (List.of_mem_zip hv).1,if_neg hk];simp
 | p::P,w::vs,i+1,m,nd,h1,h2,hk=>by show bindC kindOf ((p,w)::P.zip vs) m x=_;unfold bindC;exact zg2 (i:=i) (List.nodup_cons.mp nd).2 (by simpa using h1) (by simpa using h2) hk
def start (N:List Str) (vs:List V):St:=vs.map some++List.replicate (N.length-vs.length) none
def yeq (CX:CXT) (P:Program) (w:World) (K:PySem.W.Frag) (mg:Str->Option Value) (base:Heap) (N:List Str) (qual:Str) (scope:Scope) (f:Addr) (cd:Value) (A:Around) (outer:List Env) (s:Shared) (H:Hp) (E:XK):Cx where
 prog:=P
 w:=w
 K:=K
 mg:=mg
 base:=base
 A:=A.deeper (envOfC qual scope s.heap.objs.size f cd)
 N:=N
 s₀:=s
 H₀:=H
 env:=envOfC qual scope s.heap.objs.size f cd
 outer:=outer
 stack:=envOfC qual scope s.heap.objs.size f cd::outer
 ex:=[]
 calm:=true
 fn:=fun _=>true
 pn:=[]
 xe:=fun e s'=>wpAny (model P w) (A.deeper (envOfC qual scope s.heap.objs.size f cd)) (leaving (envOfC qual scope s.heap.objs.size f cd) e) (fun _ s''=>CX outer H s E e s'') (fun e' s''=>CX outer H s E e' s'') s'
theorem zjh {sc:Scope} {n:Nat} {x:Str} (h:sc.names.lookup x=some .cell):∃ c,(cellsFrom n sc.names []).lookup x=some c:=by have q:=PySem.W.cellsFrom_some sc.names n [] (.inl h);exact Option.isSome_iff_exists.mp q
theorem zl8 {CX:CXT} {P:Program} {w:World} {base:Heap} {N ps:List Str} {qual:Str} {f:Addr} {cd:Value} {A:Around} {outer:List Env} {s s1:Shared} {H:Hp} {E:XK} {vs:List V}
  (S:FnScope N ps scope) (hd:A.handled=none) (e0:Env0 P w K mg base A outer s H) (hl:vs.length=ps.length) (r:Vals vs us)
  (x:InCallC s s.heap.objs.size (bindL (envOfC qual scope s.heap.objs.size f cd).kindOf (ps.zip us) fun _=>none) (cellsFrom (s.heap.objs.size+1) scope.names []) (bindC (envOfC qual scope s.heap.objs.size f cd).kindOf (ps.zip us) fun _=>none) s1) :
  Inv (yeq CX P w K mg base N qual scope f cd A outer s H E) [] (start N vs) H s1:=by
 have hpl:ps.length<=N.length:=by have:=zym List.length S.pre;rw [zzf] at this;omega
 obtain ⟨h1,tk,rfl,hk⟩:=x.done;have noA:∀ b:Addr,b∉(yeq CX P w K mg base N qual scope f cd A outer s H E).ex:=fun b z=>absurd (show b∈([]:List Addr) from z) (by simp);refine ⟨⟨e0.mod,S.kind,rfl,rfl,zye _,fun y z c h1 h2=>?_,fun y hy=>?_,fun y c _ h=>?_,fun _=>hd,Around.frames_deeper e0.frames,.inr ⟨rfl,rfl⟩,fun b z=>absurd z (noA b),e0.bs,e0.bsz,fun b _ _=>noA b,fun b z=>absurd z (noA b),e0.funs,e0.frf⟩,
  rfl,e0.bare,Un.kept hk,⟨_,x.toInCall.ns,fun i y v h1 h2 h3=>?_⟩,fun y c h=>⟨_,x.cell y c h⟩,e0.hok.fresh (Nat.le_refl _),fun y c h=>?_,fun p hp=>absurd (show p∈([]:List (Addr × Obj)) from hp) (by simp),e0.hok.kept hk,?_⟩
 ·exact name_of_addr x.apart (PySem.mem_of_lookup h1) (PySem.mem_of_lookup h2)
 ·have hy:scope.names.lookup y=some .cell\/scope.names.lookup y=some .free:=hy;rcases hy with hy | hy
  ·exact zjh hy
  ·exact absurd rfl (S.nofree _ (PySem.mem_of_lookup hy))
 ·exact Nat.le_of_lt (x.above y c (PySem.mem_of_lookup h))
 ·have hi:i<vs.length:=by
   unfold start at h2;by_cases hi:i<vs.length
   ·exact hi
   ·rw [List.getElem?_append_right (by simpa using hi)] at h2;rw [List.getElem?_replicate] at h2;split at h2<;>cases h2
  have ha:vs[i]?=some v:=by
   unfold start at h2;rw [List.getElem?_append_left (by simpa using hi),List.getElem?_map] at h2;cases e:vs[i]? with
   | none=>rw [e] at h2;cases h2
   | some a=>rw [e] at h2;cases h2;rfl
  obtain ⟨u,hu,rv⟩:=r.get ha;have hp:ps[i]?=some y:=by rw [<- S.pre,List.getElem?_take_of_lt (by omega)];exact h1
  have ndP:ps.Nodup:=by rw [<- S.pre];exact S.nd.sublist (List.take_sublist _ _)
  refine ⟨u,rv,?_⟩;rcases S.par y (zy8 hp) with k | k
  ·exact .inl ⟨k,zg0 ndP hp hu k⟩
  ·obtain ⟨c,e⟩:=zjh (n:=s.heap.objs.size+1) k;refine .inr ⟨.inl k,c,e,?_⟩;have q:=x.cell y c e;rw [zg2 ndP hp hu (by show scope.names.lookup y≠_;rw [k];decide)] at q;exact q
 ·exact e0.hok.fresh (Nat.le_of_lt (x.above y c (PySem.mem_of_lookup h)))
 ·unfold start;show _=N.length;rw [zyj,zya,List.length_replicate];omega
theorem zxt {CX:CXT} {P:Program} {w:World} {base:Heap} {k:Nat} {f:Addr} {name qual:Str} {params:Arguments} {body:List Stmt} {dV kV doc pm cdv ct oc:Value} {an od:Option Addr}
  {osl:Array (Option Value)} {N ps:List Str} {sp:Sp} (lk:K.lookup f=some ⟨oc,od,.func (PySem.W.fnOf name qual params body scope dV kV doc pm an cdv ct),osl⟩) (hcd:PySem.W.codeIn K cdv qual=true) (S:FnScope N ps scope)
  (len:∀ vs H Q E,sp vs H Q E->vs.length=ps.length)
  (hbody:∀ (A:Around) (outer:List Env) (s:Shared) (H:Hp) (vs:List V) (Q:VK) (E:XK),Room k (A.deeper (envOfC qual scope s.heap.objs.size f cdv))->sp vs H Q E ->
   ∃ t,PSs (yeq CX P w K mg base N qual scope f cdv A outer s H E) body t/\t { nx:=fun _ H'=>Q .non H',rt:=Q } (start N vs) H) :
  FnOk P w K mg base CX (k+1) f (PySem.W.fnOf name qual params body scope dV kV doc pm an cdv ct) ps sp:=by
 refine ⟨len,fun A outer s H args us vs Q E hr e0 hb r hsp=>?_⟩;have hl:=len _ _ _ _ hsp;have KX:K.In s.heap:=e0.mod.kin.keeps fun b o e=>(e0.bs b o e).1;have lim:s.heap.NoLimit:=e0.mod.nolimit.keeps fun b o e=>(e0.bs b o e).1;have hkind:∀ y∈ps.zip us,scope.names.lookup y.1=some .local\/(scope.names.lookup y.1=some .cell/\((cellsFrom (s.heap.objs.size+1) scope.names []).lookup y.1).isSome=true):=fun ⟨n,v⟩ hy=>by
  rcases S.par n (List.of_mem_zip hy).1 with q | q
  ·exact .inl q
  ·exact .inr ⟨q,PySem.W.cellsFrom_some _ _ _ (.inl q)⟩
 refine codeAny_call_function hr.depth (KX _ _ lk) rfl S.co S.gen rfl (PySem.W.codeRec_of KX hcd) (hb _ _ _ _ ?_);refine wpAny_newFunctionEnv_cells S.kind hkind fun env he s1 x=>?_;subst he;refine ⟨lim.keeps x.toInCall.keep,codeAny_func ?_⟩;obtain ⟨t,ht,hq⟩:=hbody A outer s H vs Q E (hr.deeper _) hsp;have I:Inv (yeq CX P w K mg base N qual scope f cdv A outer s H E) [] (start N vs) H s1:=zl8 S hr.hd e0 hl r x;refine zzi (ht [] s1 (start N vs) H _ I hq) (fun fl s' hs=>?_) fun e s' hs=>hs;have fin:∀ {σ':St} {H':Hp} {v:V} {u:Value},Inv (yeq CX P w K mg base N qual scope f cdv A outer s H E) [] σ' H' s'->RelV v u->Q v H'->CE outer P w H s Q u s' :=
  fun {σ' H' v u} J rv q=>⟨v,H',J.os,J.bare,J.base,J.hok,rv,q⟩
 cases fl with
 | ret u =>obtain ⟨v,σ',H',J,rv,q⟩:=hs;exact fin J rv q
 | next =>obtain ⟨σ',H',J,q⟩:=hs;exact fin (v:=V.non) (u:=Value.none) J rfl q
 | brk =>obtain ⟨_,_,_,q⟩:=hs;exact False.elim q
 | cont =>obtain ⟨_,_,_,q⟩:=hs;exact False.elim q
end
section
section
variable {X:Cx} {x:Str} {p pos:Pos} {e:Expr} {es:List Expr} {t:TA} {id T:String} {r:List V->Hp->VK->Prop}
def tCB (r:List V->Hp->VK->Prop) (t:TA):TE:=fun σ H Q=>t σ H fun vs H1=>r vs H1 Q
theorem zik (hc:yb9 X (.builtin id) r) (hg:Gl X x) (hm:X.mg x=none) (hv:bootBuiltins x=some (.builtin id)) (ha:PA X (e::es) t) (hn:x≠"__name__":=by decide) (hdb:(x==("__debug__":Str))=false:=by decide)
  (he:starEach (e::es) X.env=(false,eval e X.env)::starEach es X.env:=by rfl) (hpl:(backTo pos (starEach es X.env)).any (·.1)=false:=by rfl):PE X (.Call (.Name x p) (e::es) [] pos) (tCB r t):=by
 intro pj s σ H Q I h;refine wpAny_Call_Name_kw (ze3 I hg hm hv ?_ hn hdb);exact PyProof.Rows.callWith_builtin1 (thn (ha pos pj s σ H _ I h) fun us s1 ⟨vs,H1,I1,r1,q1⟩=>hc pj s1 σ H1 vs us Q I1 r1 q1) he hpl
theorem zlc (hc:yb9 X (.type T) r) (hg:Gl X x) (hm:X.mg x=none) (hv:bootBuiltins x=some (.type T)) (ha:PA X (e::es) t) (hn:x≠"__name__":=by decide) (hdb:(x==("__debug__":Str))=false:=by decide)
  (he:starEach (e::es) X.env=(false,eval e X.env)::starEach es X.env:=by rfl) (hpl:(backTo pos (starEach es X.env)).any (·.1)=false:=by rfl):PE X (.Call (.Name x p) (e::es) [] pos) (tCB r t):=by
 intro pj s σ H Q I h;refine wpAny_Call_Name_kw (ze3 I hg hm hv ?_ hn hdb);exact PyProof.Rows.callWith_type1 (thn (ha pos pj s σ H _ I h) fun us s1 ⟨vs,H1,I1,r1,q1⟩=>hc pj s1 σ H1 vs us Q I1 r1 q1) he hpl
end
end
end L2
namespace HT
open PySem PyProof.Rows
variable {Q:Value->Shared->Prop} {lo hi:Option Int}
section
open PySem.SeqAt
open PySem.AutoSeq1 (wpAny_loadPart')
open PySem.MeetsSeq PySem.MeetsSeq2 PySem.MeetsSeq3
end
section
variable {prog:Program} {w:World} {A:Around} {E:Value->Shared->Prop} {s:Shared}
theorem cat_tup {t b:Addr} {vs ws:List Value} (ht:IsTup s.heap t vs.toArray) (hb:IsTup s.heap b ws.toArray) (hv:vs≠[])
  (h1:ws=[]->Q (.ref t) s) (h2:ws≠[]->Q (.ref s.heap.objs.size) { s with heap:=s.heap.push { cls:=.type "tuple",data:=.seq (vs++ws).toArray } })
  (hsz:vs.length+ws.length<=sizeLine):wpAny (model prog w) A (binaryOp .Add (.ref t) (.ref b)) Q E s:=by
 obtain ⟨⟨cls,dd,data,sl⟩,ho,hc,n,hd⟩:=id ht;obtain ⟨⟨cls2,dd2,data2,sl2⟩,ho2,hc2,n2,hd2⟩:=id hb;simp only at hc hd hc2 hd2;subst hc hd hc2 hd2;have e:vs.toArray++ws.toArray=(vs++ws).toArray:=by simp
 by_cases hw:ws=[]
 ·exact concat_meets ⟨_,ho,rfl⟩ ⟨_,ho2,rfl⟩ noFill_tuple_add seq_tuple_add PySem.F.slot_tuple_add PySem.F.entry_tuple_add (PySem.F.args_tuple_add_2 _ _)
   (tuple_addW1 t b vs.toArray ws.toArray n n2 dd dd2 sl sl2 (by simpa using hv) (by simp [hw])) ⟨ho,ho2,h1 hw⟩
 ·refine concat_meets ⟨_,ho,rfl⟩ ⟨_,ho2,rfl⟩ noFill_tuple_add seq_tuple_add PySem.F.slot_tuple_add PySem.F.entry_tuple_add (PySem.F.args_tuple_add_2 _ _)
   (tuple_addW2 t b vs.toArray ws.toArray n n2 dd dd2 sl sl2 (by simpa using hv) (by simpa using hw) (by rw [List.size_toArray,List.size_toArray];exact hsz)) ⟨ho,ho2,?_⟩
  rw [e];exact h2 hw
def sIx (n d:Nat):Option Int->Nat
 | none=>d
 | some v=>if v<0 then (v+(n:Int)).toNat else min v.toNat n
theorem ztv (n d:Nat) (hd:d<=n) (o:Option Int):sIx n d o<=n:=by
 cases o with
 | none=>exact hd
 | some v =>
  show (if v<0 then (v+(n:Int)).toNat else min v.toNat n)<=n;by_cases hv:v<0
  ·rw [if_pos hv];omega
  ·rw [if_neg hv];exact Nat.min_le_right _ _
theorem zm3 (v:Int) (n d:Nat):(if v<0 then max (v+(n:Int)) 0 else min v (n:Int))=((sIx n d (some v):Nat):Int):=by
 show (if v<0 then max (v+(n:Int)) 0 else min v (n:Int))=(((if v<0 then (v+(n:Int)).toNat else min v.toNat n):Nat):Int);by_cases hv:v<0
 ·simp only [if_pos hv];omega
 ·simp only [if_neg hv];omega
theorem zj9 (lo hi:Option Int) (n:Nat):Builtin.Slice.sliceAdjust lo hi 1 (n:Int)=(((sIx n 0 lo:Nat):Int),((sIx n n hi:Nat):Int)):=by
 have h1:¬ ((1:Int)<0):=by omega
 unfold Builtin.Slice.sliceAdjust;simp only [h1,if_false];refine Prod.ext ?_ ?_
 ·cases lo with
  | none=>rfl
  | some v=>exact zm3 v n 0
 ·cases hi with
  | none=>rfl
  | some v=>exact zm3 v n n
theorem zju (i j:Nat):Builtin.Slice.slicePlaces (i:Int) (j:Int) 1=j-i:=by
 unfold Builtin.Slice.slicePlaces;have h1:(1:Int)>0:=by omega
 simp only [h1,if_true,Int.ediv_one];split<;>omega
theorem zev {v:Value} {o:Option Int} {Q:Option Int->Shared->Prop} (p:IsPart v o) (h:Q o s):wpAny (model prog w) A (Builtin.Slice.slicePartIndex v) Q E s:=by
 cases p with
 | none=>exact slicePart_none h
 | int i t=>exact slicePart_int h
theorem sliceApplied_gen {sl:Addr} {vl vu:Value} {n:Nat} {Q:Int × Int × Nat->Shared->Prop} (hs:s.heap.IsSliceOf sl vl vu .none) (pl:IsPart vl lo) (pu:IsPart vu hi)
  (h:Q (((sIx n 0 lo:Nat):Int),1,sIx n n hi-sIx n 0 lo) s):wpAny (model prog w) A (Builtin.Slice.sliceApplied (.ref sl) (pure (n:Int))) Q E s:=by
 obtain ⟨os,hos,hcs,hds⟩:=id hs;unfold Builtin.Slice.sliceApplied Builtin.Slice.sliceFields;refine zx1 (zx1 (wpAny_field hos hds (x:=vl) rfl (zx1 (wpAny_field hos hds (x:=vu) rfl (zx1 (wpAny_field hos hds (x:=.none) rfl (zx5 ?_)))))));refine zx1 (slicePart_none ?_);show wpAny _ _ (if ((1:Int)==0)=true then _ else _) _ _ s;rw [if_neg (by decide)];refine zx1 (zev pl (zx1 (zev pu (zx1 (zx5 ?_)))));show wpAny _ _ (match Builtin.Slice.sliceAdjust lo hi 1 (n:Int) with | (lo,hi)=>pure (lo,(1:Int),Builtin.Slice.slicePlaces lo hi 1)) _ _ s;rw [zj9 lo hi n];show wpAny _ _ (pure (((sIx n 0 lo:Nat):Int),(1:Int),Builtin.Slice.slicePlaces ((sIx n 0 lo:Nat):Int) ((sIx n n hi:Nat):Int) 1)) _ _ s;rw [zju];exact zx5 h
theorem zoj (xs:Array Value) (i k:Nat):((List.range k).filterMap fun (m:Nat)=>xs[((i:Int)+(m:Int)*1).toNat]?).toArray=((xs.toList.drop i).take k).toArray:=by
 have e:(fun (m:Nat)=>xs[((i:Int)+(m:Int)*1).toNat]?)=fun m=>xs[i+m]?:=by
  funext m;have:((i:Int)+(m:Int)*1).toNat=i+m:=by omega
  rw [this]
 rw [e];have:=pick_run xs i k;rw [List.filterMap_map] at this;have e2:((fun x=>xs[x]?)∘fun x=>i+x)=fun m=>xs[i+m]?:=rfl;rw [e2] at this;rw [this]
theorem getItem_tuple_cut {t sl:Addr} {items:Array Value} {vl vu:Value} (ht:IsTup s.heap t items) (hs:s.heap.IsSliceOf sl vl vu .none) (pl:IsPart vl lo) (pu:IsPart vu hi)
  (hw:¬ (sIx items.size 0 lo=0/\sIx items.size items.size hi=items.size))
  (h:Q (.ref s.heap.objs.size) { s with heap:=s.heap.push { cls:=.type "tuple",data:=.seq ((items.toList.drop (sIx items.size 0 lo)).take (sIx items.size items.size hi-sIx items.size 0 lo)).toArray } })
  (hsz:items.size<=sizeLine):wpAny (model prog w) A (getItem (.ref t) (.ref sl)) Q E s:=by
 have htake:sizeOk (.seq ((items.toList.drop (sIx items.size 0 lo)).take (sIx items.size items.size hi-sIx items.size 0 lo)).toArray):=by show ((items.toList.drop (sIx items.size 0 lo)).take (sIx items.size items.size hi-sIx items.size 0 lo)).toArray.size<=sizeLine;rw [zyd,zzf,List.length_drop,zyn];omega
 have hj:sIx items.size items.size hi<=items.size:=ztv _ _ (zye _) hi;obtain ⟨os,hos,hcs,hds⟩:=id hs;have hTs:s.TypeIs (.ref sl) "slice":=⟨os,hos,hcs⟩;unfold getItem
 try with_reducible refine wpAny_holding ?_
 first | refine zx1 (zx5 ?_) | skip
 refine zx1 (wpAny_sequenceKey ht.typeIs (by decide) ?_);refine zx1 (zy1 (name:=Str.ofString "__getitem__") ht.typeIs PyProof.Rows.slot_tuple_getitem
  (zyw PyProof.Rows.slot_tuple_getitem ht.typeIs entry_tuple_getitem ?_ (args_tuple_getitem _ _)))
 show wpAny _ _ (Builtin.Tuple.tupleItemsOf (.ref t) >>= _) _ _ s;refine zx1 (tupleItemsOf_ ht ?_);refine zx1 (wpAny_typeOf hTs ?_);rw [if_pos (by decide)];refine zx1 (sliceApplied_gen hs pl pu ?_);have hno:¬ ((((sIx items.size 0 lo:Nat):Int)==0&&(1:Int)==1&&(sIx items.size items.size hi-sIx items.size 0 lo)==items.size)=true):=by intro q;rw [zx7,zx7] at q;have q1:((sIx items.size 0 lo:Nat):Int)=0:=eq_of_beq q.1.1;have q2:sIx items.size items.size hi-sIx items.size 0 lo=items.size:=eq_of_beq q.2;exact hw ⟨by omega,by omega⟩
 show wpAny _ _ (if (((sIx items.size 0 lo:Nat):Int)==0&&(1:Int)==1&&(sIx items.size items.size hi-sIx items.size 0 lo)==items.size)=true then _ else _) _ _ s;rw [if_neg hno,zoj]
 first
  | exact zx1 (m:=Builtin.Tuple.tupleExact _) (zyz (zx5 ⟨_,rfl,zx5 h⟩) htake)
  | exact zx1 (m:=Builtin.Tuple.tupleExact _) (zyz (zx1 (zx5 (zx5 ⟨_,rfl,zx5 h⟩))) htake)
  | exact zx1 (zx1 (m:=Builtin.Tuple.tupleExact _) (zyz (zx5 (zx5 ⟨_,rfl,zx5 h⟩)) htake))
  | exact zx1 (zx1 (m:=Builtin.Tuple.tupleExact _) (zyz (zx5 ⟨_,rfl,zx5 h⟩) htake))
end
end HT
namespace L2
open PySem Spec PyProof.Rows
section
abbrev TO:=St->Hp->(Option Int->Hp->Prop)->Prop
def PO (X:Cx) (e:Option Expr) (t:TO):Prop :=
 ∀ (pj:List (Addr × Obj)) (s:Shared) (σ:St) (H:Hp) (Q:Option Int->Hp->Prop),Inv X pj σ H s->t σ H Q ->
  wpAny (model X.prog X.w) X.A (evalPart e X.env) (fun u s'=>∃ o H',Inv X pj σ H' s'/\IsPart u o/\Q o H') X.xe s
def zq0:TO:=fun _ H Q=>Q none H
def yf8 (t:TE):TO:=fun σ H Q=>t σ H fun x H1=>∃ i,x=.int i/\Q (some i) H1
theorem ze5 {ns:List Int}:∀ {us:List Value},Vals (ns.map V.int) us->IntsAre us ns:=by
 induction ns with
 | nil=>intro us r;rw [List.map_nil] at r;cases r;exact .nil
 | cons n ns ih =>
  intro us r;rw [zx4] at r;cases r with
  | cons r1 r2 =>obtain ⟨t,e⟩:=r1;subst e;exact .cons n t (ih r2)
section
variable {X:Cx} {e:Expr} {te:TE} {lo hi:Option Expr} {tl th:TO} {pos p2:Pos}
theorem zrv:PO X none zq0:=by intro pj s σ H Q I h;rw [evalPart_none];exact zx5 ⟨none,H,I,.none,h⟩
theorem zru (h:PE X e te):PO X (some e) (yf8 te):=by intro pj s σ H Q I hw;rw [evalPart_some];refine thn (h pj s σ H _ I hw) fun u s1 ⟨x,H1,I1,r1,q1⟩=>?_;obtain ⟨i,rfl,q⟩:=q1;obtain ⟨t,rfl⟩:=r1;exact ⟨some i,H1,I1,.int i t,q⟩
def SlR (X:Cx) (r:V->Option Int->Option Int->Hp->VK->Prop):Prop :=
 ∀ (pj:List (Addr × Obj)) (s:Shared) (σ:St) (H:Hp) (x:V) (v vl vu:Value) (lo hi:Option Int) (sl:Addr) (Q:VK),Inv X pj σ H s->RelV x v->s.heap.IsSliceOf sl vl vu .none->IsPart vl lo->IsPart vu hi->r x lo hi H Q ->
  ∃ T id,typeLookup (.type T) "__getitem__"=pure (some (.builtin id))/\s.TypeIs v T/\wpAny (model X.prog X.w) X.A (getItem v (.ref sl)) (EP X pj σ Q) X.xe s
def tSl (r:V->Option Int->Option Int->Hp->VK->Prop) (te:TE) (tl th:TO):TE:=fun σ H Q=>te σ H fun x H1=>tl σ H1 fun l H2=>th σ H2 fun u H3=>r x l u H3 Q
theorem zol {r:V->Option Int->Option Int->Hp->VK->Prop} (hr:SlR X r) (he:PE X e te) (hl:PO X lo tl) (hu:PO X hi th):PE X (.Subscript e (.Slice lo hi none p2) pos) (tSl r te tl th):=by intro pj s σ H Q I h;refine Subscript_ (thn (he pj s σ H _ I h) fun v s1 ⟨x,H1,I1,r1,q1⟩=>?_);refine wpAny_Slice (thn (hl pj s1 σ H1 _ I1 q1) fun vl s2 ⟨l,H2,I2,pl,q2⟩=>thn (hu pj s2 σ H2 _ I2 q2) fun vu s3 ⟨u,H3,I3,pu,q3⟩=>?_);rw [evalPart_none];refine zx5 ?_;have I4:Inv X pj σ H3 { s3 with heap:=s3.heap.push { cls:=.type "slice",data:=.fields #[vl,vu,.none] } }:=I3.kept (t':=s3.toks) fun b ob q=>zxz _ q;obtain ⟨T,id,hT,ht,hg⟩:=hr pj { s3 with heap:=s3.heap.push { cls:=.type "slice",data:=.fields #[vl,vu,.none] } } σ H3 x v vl vu l u s3.heap.objs.size Q I4 r1 (Heap.IsSliceOf.new ..) pl pu q3;show wpAny (model X.prog X.w) X.A (subscriptTail e (.Slice lo hi none p2) v (.ref s3.heap.objs.size)) (EP X pj σ Q) X.xe { s3 with heap:=s3.heap.push { cls:=.type "slice",data:=.fields #[vl,vu,.none] } };exact tail_any (ops:=[.ref s3.heap.objs.size,v]) ht hT hg (by with_unfolding_all rfl)
def yds (xs:List V) (lo hi:Option Int):List V:=(xs.drop (HT.sIx xs.length 0 lo)).take (HT.sIx xs.length xs.length hi-HT.sIx xs.length 0 lo)
theorem zem (xs:List V) (lo hi:Option Int):(yds xs lo hi).length<=xs.length:=by unfold yds;rw [zzf,List.length_drop];omega
def rSlT (K:PySem.W.Frag):V->Option Int->Option Int->Hp->VK->Prop:=fun x lo hi H Q=>∃ a xs,x=.ref a/\SqT K H a xs /\
 ¬ (HT.sIx xs.length 0 lo=0/\HT.sIx xs.length xs.length hi=xs.length)/\∀ p,H p=none->Q (.ref p) (upd H p (.tup (yds xs lo hi)))
theorem zts:SlR X (rSlT X.K):=by
 intro pj s σ H x v vl vu lo hi sl Q I rx hs pl pu h;obtain ⟨a,xs,rfl,hx,hw,q⟩:=h;cases rx;obtain ⟨qc,r,ht,hz⟩:=I.tuple hx;have hlen:qc.toArray.size=xs.length:=by rw [zyd];exact r.length.symm
 refine ⟨"tuple",_,PyProof.Rows.slot_tuple_getitem.lookup,ht.typeIs,?_⟩;refine HT.getItem_tuple_cut ht hs pl pu (by rw [hlen];exact hw) ?_ (by rw [hlen];exact hz);rw [hlen];refine ⟨.ref s.heap.objs.size,_,I.laid (t':=s.toks) (o:=.tup (yds xs lo hi)) (fun b ob q=>zxz _ q) (zye _) ?_,rfl,q _ (I.hok.fresh (zye _))⟩;exact ⟨zyr (zem xs lo hi) hz,_,(r.drop (HT.sIx xs.length 0 lo)).take (HT.sIx xs.length xs.length hi-HT.sIx xs.length 0 lo),IsTup.new _ _⟩
end
end
section
def ixN (n:Nat) (i:Int):Option Nat:=if 0<=i then (if i<n then some i.toNat else none) else if -(n:Int)<=i then some (i+n).toNat else none
def atI {α:Type} (xs:List α) (i:Int):Option α:=(ixN xs.length i).bind fun j=>xs[j]?
theorem zsv {n:Nat} {i:Int} {j:Nat} (h:ixN n i=some j):seqIndex? i n=some j/\j<n /\ -(n:Int)<=i/\i<n:=by
 unfold ixN at h;by_cases h0:0<=i
 ·rw [if_pos h0] at h;by_cases h1:i<n
  ·rw [if_pos h1] at h;have e:i.toNat=j:=zyk h;exact ⟨by rw [seqIndex_of h0 h1,e],by omega,by omega,h1⟩
  ·rw [if_neg h1] at h;cases h
 ·rw [if_neg h0] at h;by_cases h1 : -(n:Int)<=i
  ·rw [if_pos h1] at h;have e:(i+n).toNat=j:=zyk h;exact ⟨by rw [seqIndex_neg (by omega) h1,e],by omega,h1,by omega⟩
  ·rw [if_neg h1] at h;cases h
theorem znf {α:Type} {xs:List α} {i:Int} {v:α} (h:atI xs i=some v):∃ j,seqIndex? i xs.length=some j/\xs[j]?=some v/\j<xs.length /\ -(xs.length:Int)<=i/\i<xs.length:=by
 unfold atI at h;cases e:ixN xs.length i with
 | none=>rw [e] at h;cases h
 | some j =>rw [e] at h;obtain ⟨h1,h2,h3,h4⟩:=zsv e;exact ⟨j,h1,h,h2,h3,h4⟩
def zh6 (b:Expr):Prop:=∀ o i,subscripted b false o i=operate [o,i] (getItem o i)
def IxR (X:Cx) (r:R2):Prop :=
 ∀ (value slice:Expr) (pj:List (Addr × Obj)) (s:Shared) (σ:St) (H:Hp) (x y:V) (v u:Value) (Q:VK),Inv X pj σ H s->RelV x v->RelV y u->r x y H Q ->
  subscripted slice false v u=operate [v,u] (getItem v u)->wpAny (model X.prog X.w) X.A (subscriptTail value slice v u) (EP X pj σ Q) X.xe s
def MtR (X:Cx) (id:String) (r:V->List V->Hp->VK->Prop):Prop :=
 ∀ (pj:List (Addr × Obj)) (s:Shared) (σ:St) (H:Hp) (x:V) (xs:List V) (v:Value) (us:List Value) (Q:VK),Inv X pj σ H s->RelV x v->Vals xs us->r x xs H Q ->
  wpAny (model X.prog X.w) X.A (call (.builtin id) (v::us)) (EP X pj σ Q) X.xe s
section
variable {X:Cx} {a b:Expr} {ta tb:TE} {pos:Pos}
theorem zxa {r:R2} (hr:IxR X r) (ha:PE X a ta) (hb:PE X b tb) (hs:zh6 b):PE X (.Subscript a b pos) (tOp r ta tb):=by intro pj s σ H Q I h;exact Subscript_ (ya0 ha hb I h fun v u s2 x y H2 I2 rx ry q=>hr a b pj s2 σ H2 x y v u Q I2 rx ry q (hs _ _))
def rIxL (K:PySem.W.Frag):R2:=fun x y H Q=>∃ p xs i v,x=.ref p/\y=.int i/\SqL K H p xs/\atI xs i=some v/\Q v H
def rIxT (K:PySem.W.Frag):R2:=fun x y H Q=>∃ p xs i v,x=.ref p/\y=.int i/\SqT K H p xs/\atI xs i=some v/\Q v H
theorem zsu:IxR X (rIxL X.K):=by
 intro value slice pj s σ H x y v u Q I rx ry h hs;obtain ⟨p,xs,i,z,rfl,rfl,hq,he,q⟩:=h;cases rx;obtain ⟨t,rfl⟩:=ry;obtain ⟨qc,r,pl,hz⟩:=I.list hq;obtain ⟨j,h1,h2,h3,h4,h5⟩:=znf he;obtain ⟨w,ew,rw'⟩:=r.get h2;have hl:=r.length;have hn:=yc6;have fin:EP X pj σ Q w s:=⟨z,H,I,rw',q⟩;by_cases h0:0<=i
 ·have hj:i.toNat=j:=by rw [seqIndex_of h0 h5] at h1;exact zyk h1
  exact item_listR pl.isList h0 (by omega) (by rw [hj];simpa using ew) fin hs
 ·have hj:(i+(qc.toArray.size:Int)).toNat=j:=by rw [seqIndex_neg (by omega) h4] at h1;rw [zyd,<- hl];exact zyk h1
  exact subscriptTail_builtinR (x:=w) pl.isList.typeIs slot_list_getitem.lookup
   (wpAny_getItem_list_neg (Q:=fun r s'=>r=w/\EP X pj σ Q r s') pl.isList (by omega) (by rw [List.size_toArray]<;>omega) (by omega) (by rw [hj];simpa using ew) ⟨rfl,fin⟩) hs
theorem zv2:IxR X (rIxT X.K):=by
 intro value slice pj s σ H x y v u Q I rx ry h hs;obtain ⟨p,xs,i,z,rfl,rfl,hq,he,q⟩:=h;cases rx;obtain ⟨t,rfl⟩:=ry;obtain ⟨qc,r,pl,hz⟩:=I.tuple hq;obtain ⟨j,h1,h2,h3,h4,h5⟩:=znf he;obtain ⟨w,ew,rw'⟩:=r.get h2;have hl:=r.length;have hn:=yc6;have fin:EP X pj σ Q w s:=⟨z,H,I,rw',q⟩;exact subscriptTail_builtinR (x:=w) pl.typeIs slot_tuple_getitem.lookup
  (getItem_tuple (j:=j) (Q:=fun r s'=>r=w/\EP X pj σ Q r s') pl (by omega) (by omega) (by rw [List.size_toArray,<- hl];exact h1) (by simpa using ew) ⟨rfl,fin⟩) hs
theorem zgd (lo hi:Option Int) (n:Nat):(sliceBounds lo hi none n).1=((HT.sIx n 0 lo:Nat):Int)/\(sliceBounds lo hi none n).2.1=((HT.sIx n n hi:Nat):Int)/\(sliceBounds lo hi none n).2.2=1:=by
 refine ⟨?_,?_,rfl⟩
 ·cases lo with
  | none=>simp [sliceBounds,HT.sIx]
  | some i =>
   simp only [sliceBounds,HT.sIx,Option.getD_none,show (1:Int)>0 by decide,if_true];by_cases h:i<0
   ·simp only [h,if_true]<;>omega
   ·simp only [h,if_false]<;>omega
 ·cases hi with
  | none=>simp [sliceBounds,HT.sIx]
  | some i =>
   simp only [sliceBounds,HT.sIx,Option.getD_none,show (1:Int)>0 by decide,if_true];by_cases h:i<0
   ·simp only [h,if_true]<;>omega
   ·simp only [h,if_false]<;>omega
theorem zfc (qc:List Value) (lo hi:Option Int):slicePick qc.toArray lo hi none=((qc.drop (HT.sIx qc.length 0 lo)).take (HT.sIx qc.length qc.length hi-HT.sIx qc.length 0 lo)).toArray:=by obtain ⟨h1,h2,h3⟩:=zgd lo hi qc.toArray.size;unfold slicePick;rw [h1,h2,h3];simp only [sliceRange_one,pick_run,List.size_toArray]<;>rfl
def rSlL (K:PySem.W.Frag):V->Option Int->Option Int->Hp->VK->Prop:=fun x lo hi H Q=>∃ a xs,x=.ref a/\SqL K H a xs/\∀ p,H p=none->Q (.ref p) (upd H p (.lst (yds xs lo hi)))
theorem zrc:SlR X (rSlL X.K):=by intro pj s σ H x v vl vu lo hi sl Q I rx hs pl pu h;obtain ⟨a,xs,rfl,hx,q⟩:=h;cases rx;obtain ⟨qc,r,ht,hz⟩:=I.list hx;have hlen:=r.length;refine ⟨"list",_,slot_list_getitem.lookup,ht.isList.typeIs,?_⟩;refine wpAny_getItem_list_slice ht.isList hs pl pu .none (by simp) ?_ (by rw [List.size_toArray]<;>omega);rw [zfc,<- hlen];refine ⟨.ref s.heap.objs.size,_,I.laid (t':=s.toks) (o:=.lst (yds xs lo hi)) (fun b ob q=>zxz _ q) (zye _) ?_,rfl,q _ (I.hok.fresh (zye _))⟩;exact ⟨zyr (zem xs lo hi) hz,_,0,(r.drop (HT.sIx xs.length 0 lo)).take (HT.sIx xs.length xs.length hi-HT.sIx xs.length 0 lo),zx9 _ rfl⟩
def yc0:V->Bool
 | .non=>true
 | .bl _=>true
 | .int _=>true
 | .str _=>true
 | _=>false
def eqV:V->V->Bool
 | .non,.non=>true
 | .bl a,.bl b=>a==b
 | .bl a,.int b=>(if a then 1 else 0)==b
 | .int a,.bl b=>a==(if b then 1 else 0)
 | .int a,.int b=>a==b
 | .str a,.str b=>a==b
 | _,_=>false
theorem zwe {A:Around} {s:Shared} {y x:V} {u v:Value} (ry:RelV y u) (rx:RelV x v) (fy:yc0 y=true) (fx:yc0 x=true):SeqAt.EqAt A s u v (eqV y x):=by
 cases y with
 | non =>
  cases ry;cases x with
  | non=>cases rx;exact SeqAt.EqAt.same _
  | bl b=>cases rx;exact SeqAt.EqAt.none_bool b
  | int b=>obtain ⟨t,rfl⟩:=rx;exact SeqAt.EqAt.none_int b t
  | str b=>obtain ⟨t,rfl⟩:=rx;exact SeqAt.EqAt.none_str b t
  | _=>exact absurd (show false=true from fx) zyg
 | bl a =>
  cases ry;cases x with
  | non=>cases rx;exact SeqAt.EqAt.bool_none a
  | bl b=>cases rx;exact SeqAt.EqAt.bool_bool a b
  | int b=>obtain ⟨t,rfl⟩:=rx;exact SeqAt.EqAt.bool_int a b t
  | str b=>obtain ⟨t,rfl⟩:=rx;exact SeqAt.EqAt.bool_str a b t
  | _=>exact absurd (show false=true from fx) zyg
 | int a =>
  obtain ⟨t',rfl⟩:=ry;cases x with
  | non=>cases rx;exact SeqAt.EqAt.int_none a t'
  | bl b=>cases rx;exact SeqAt.EqAt.int_bool a t' b
  | int b=>obtain ⟨t,rfl⟩:=rx;exact SeqAt.EqAt.int_int a t' b t
  | str b=>obtain ⟨t,rfl⟩:=rx;exact SeqAt.EqAt.int_str a t' b t
  | _=>exact absurd (show false=true from fx) zyg
 | str a =>
  obtain ⟨t',rfl⟩:=ry;cases x with
  | non=>cases rx;exact SeqAt.EqAt.str_none a t'
  | bl b=>cases rx;exact SeqAt.EqAt.str_bool a t' b
  | int b=>obtain ⟨t,rfl⟩:=rx;exact SeqAt.EqAt.str_int a t' b t
  | str b=>obtain ⟨t,rfl⟩:=rx;exact SeqAt.EqAt.str_str a t' b t
  | _=>exact absurd (show false=true from fx) zyg
 | _=>exact absurd (show false=true from fy) zyg
def eqU (x:V) (u:Value):Bool:=match u with
 | .none=>eqV .non x
 | .bool b=>eqV (.bl b) x
 | .int i _=>eqV (.int i) x
 | .str z _=>eqV (.str z) x
 | _=>false
theorem zqm {x y:V} {u:Value} (r:RelV y u) (f:yc0 y=true):eqU x u=eqV y x:=by
 cases y with
 | non=>cases r;rfl
 | bl b=>cases r;rfl
 | int i=>obtain ⟨t,rfl⟩:=r;rfl
 | str z=>obtain ⟨t,rfl⟩:=r;rfl
 | _=>exact absurd (show false=true from f) zyg
theorem zir {A:Around} {s:Shared} {x:V} {v:Value} (rx:RelV x v) (fx:yc0 x=true):∀ {xs:List V} {us:List Value},Vals xs us->xs.all yc0=true->∀ u∈us,SeqAt.EqAt A s u v (eqU x u)
 | _,_,.nil,_=>fun u hu=>by cases hu
 | y::xs,u::us,.cons r t,f=>fun u' hu=>by
  rw [List.all_cons,zx7] at f;rcases omc hu with rfl | hu
  ·rw [zqm r f.1];exact zwe r rx f.1 fx
  ·exact zir rx fx t f.2 u' hu
theorem zdp:yb9 X (.builtin "len") (fun xs H Q=>∃ p ys,xs=[.ref p]/\(SqL X.K H p ys\/SqT X.K H p ys)/\Q (.int ys.length) H):=by
 intro pj s σ H xs us Q I r h;obtain ⟨p,ys,rfl,hq,q⟩:=h;obtain ⟨u,rfl,rx⟩:=yb0 r;cases rx;have hn:=yc6;rcases hq with hq | hq
 ·obtain ⟨qc,r',pl,hz⟩:=I.list hq;have hlen:=r'.length;exact Calls.call_len_list pl.isList (by simp only [List.size_toArray]<;>omega) ⟨.int ys.length,H,I.tok _,⟨s.toks+1,by rw [List.size_toArray,hlen]⟩,q⟩
 ·obtain ⟨qc,r',pl,hz⟩:=I.tuple hq;have hlen:=r'.length;exact len_tuple pl (by simp only [List.size_toArray]<;>omega) ⟨.int ys.length,H,I.tok _,⟨s.toks+1,by rw [List.size_toArray,hlen]⟩,q⟩
theorem zdd:yb9 X (.type "tuple") (fun xs H Q=>∃ p ys,xs=[.ref p]/\((SqL X.K H p ys/\∀ l,H l=none->Q (.ref l) (upd H l (.tup ys)))\/(SqT X.K H p ys/\Q (.ref p) H))):=by
 intro pj s σ H xs us Q I r h;obtain ⟨p,ys,rfl,h⟩:=h;obtain ⟨u,rfl,rx⟩:=yb0 r;cases rx;rcases h with ⟨hq,q⟩ | ⟨hq,q⟩
 ·obtain ⟨qc,r',pl,hz⟩:=I.list hq;have hlen:=r'.length;refine call_tuple_list pl.isList (fun h' kp=>?_) (by simp only [List.size_toArray]<;>omega);have I1:Inv X pj σ H { s with heap:=h' }:=I.kept (t':=s.toks) kp;have I2:Inv X pj σ (upd H h'.objs.size (.tup ys)) { s with heap:=h'.push { cls:=.type "tuple",data:=.seq qc.toArray } } :=
   I1.laid (t':=s.toks) (fun b o e=>zxz _ e) (zye _) (show ObjOk X.prog X.w _ _ _ (.tup ys) from ⟨hz,qc,r',IsTup.new _ _⟩)
  exact ⟨.ref h'.objs.size,_,I2,rfl,q _ (I1.hok.fresh (zye _))⟩
 ·obtain ⟨qc,r',pl,hz⟩:=I.tuple hq;exact call_tuple_same pl ⟨.ref p,H,I,rfl,q⟩
def tyV (K:PySem.W.Frag) (T:String) (x:V) (H:Hp):Prop:=match x with
 | .str _=>T="str"
 | .int _=>T="int"
 | .ref p=>(T="list"/\∃ xs,SqL K H p xs)\/(T="tuple"/\∃ o,K.lookup p=some o/\o.cls=.type "tuple"/\o.dict=none) \/
   (T="dict"/\((∃ qb,H p=some (.dK qb))\/∃ qb,H p=some (.dT qb)))\/(T="set"/\∃ S n,H p=some (.set S n))
 | _=>False
theorem ztl {pj:List (Addr × Obj)} {σ:St} {H:Hp} {s:Shared} {T:String} {x:V} {v:Value} (I:Inv X pj σ H s) (r:RelV x v) (ty:tyV X.K T x H) :
  s.TypeIs v T/\∀ a,v=.ref a->∃ ob,s.heap.get? a=some ob/\ob.dict=none:=by
 cases x with
 | str z =>obtain ⟨t,rfl⟩:=r;cases (show T="str" from ty);exact ⟨typeIs_str s z t,fun _ e=>nomatch e⟩
 | int i =>obtain ⟨t,rfl⟩:=r;cases (show T="int" from ty);exact ⟨typeIs_int s i t,fun _ e=>nomatch e⟩
 | ref p =>
  cases r;rcases ty with ⟨rfl,xs,hq⟩ | ⟨rfl,o,hk,hc,hd⟩ | ⟨rfl,hk⟩ | ⟨rfl,S,n,hk⟩
  ·obtain ⟨qc,_,pl,_⟩:=I.list hq;refine ⟨pl.isList.typeIs,fun a e=>?_⟩;cases e;obtain ⟨o,n,e,c,hd,_⟩:=pl;exact ⟨o,e,hd⟩
  ·refine ⟨⟨o,I.kIn p o hk,hc⟩,fun a e=>?_⟩;cases e;exact ⟨o,I.kIn _ o hk,hd⟩
  ·have z:∃ o,s.heap.get? p=some o/\o.ExactDict:=by
    rcases hk with ⟨qb,hk⟩ | ⟨qb,hk⟩
    ·obtain ⟨_,_,_,_,o,_,_,e,ex,_⟩:=I.hok p _ hk;exact ⟨o,e,ex⟩
    ·obtain ⟨_,_,_,_,o,_,_,e,ex,_⟩:=I.hok p _ hk;exact ⟨o,e,ex⟩
   obtain ⟨o,e,ex⟩:=z;refine ⟨⟨o,e,ex.1⟩,fun a e2=>?_⟩;cases e2;exact ⟨o,e,ex.2.1⟩
  ·obtain ⟨o,_,_,_,e,ex,_⟩:=I.hok p _ hk;refine ⟨⟨o,e,ex.1⟩,fun a e2=>?_⟩;cases e2;exact ⟨o,e,ex.2.1⟩
 | _=>exact False.elim ty
def tBM (K:PySem.W.Frag) (T:String) (r:V->List V->Hp->VK->Prop) (to:TE) (t:TA):TE:=fun σ H Q=>to σ H fun x H1=>tyV K T x H1/\t σ H1 fun xs H2=>r x xs H2 Q
variable {o e:Expr} {es:List Expr} {to:TE} {t:TA} {name:Str} {apos cpos:Pos} {T id:String} {r:V->List V->Hp->VK->Prop}
theorem zjv (pa:PlainAttrs T) (slot:Slot T name id) (hty:typeOf (.builtin id)=pure (.type "method_descriptor")) (hm:MtR X id r) (ho:PE X o to) (ha:PA X (e::es) t)
  (hbase:attributeBase o name X.env (eval o X.env)=eval o X.env:=by rfl)
  (hfew:((backTo cpos (starEach (e::es) X.env)).all (fun x=>!x.1)&&(backToKw cpos (keywordEach [] X.env)).all (fun x=>x.1.isSome)
   && decide ((e::es).length+([]:List Keyword).length+(if ([]:List Keyword).isEmpty then 0 else 1)<30))=true:=by rfl)
  (hline:(apos.endLine==cpos.line)=true:=by rfl) (hs:starEach (e::es) X.env=(false,eval e X.env)::starEach es X.env:=by rfl) (hplain:(backTo cpos (starEach es X.env)).any (·.1)=false:=by rfl) :
  PE X (.Call (.Attribute o name apos) (e::es) [] cpos) (tBM X.K T r to t):=by
 intro pj s σ H Q I h;refine wpAny_Call_method_late hbase hfew hline rfl (thn (ho pj s σ H _ I h) fun v s1 ⟨x,H1,I1,r1,ty,q1⟩=>?_);obtain ⟨h1,h2⟩:=ztl I1 r1 ty;refine ⟨T,id,pa,slot,hty,h1,h2,?_⟩;have hA:=ha cpos pj s1 σ H1 _ I1 q1;rw [hs] at hA ⊢;refine Calls.callWith_builtin (by show (false||(backTo cpos (starEach es X.env)).any (·.1))=false;rw [hplain]<;>rfl) (Calls.evalArgs_plain ?_);exact thn hA fun us s2 ⟨vs,H2,I2,r2,q2⟩=>hm pj s2 σ H2 x vs v us Q I2 r1 r2 q2
end
end
section
variable {qc:List Value}
def MtM (X:Cx) (id:String) (r:V->List V->Hp->VK->Prop):Prop :=
 ∀ (pj:List (Addr × Obj)) (s:Shared) (σ:St) (H:Hp) (x:V) (xs:List V) (v:Value) (us:List Value) (Q:VK),Inv X pj σ H s->RelV x v->Vals xs us->r x xs H Q ->
  wpAny (model X.prog X.w) X.A (call (.builtin id) (v::us)) (EP X pj σ Q) X.xe s
theorem Vals.one:∀ {x:V} {us:List Value},Vals [x] us->∃ u,us=[u]/\RelV x u
 | _,_,.cons r .nil=>⟨_,rfl,r⟩
theorem Vals.two:∀ {x y:V} {us:List Value},Vals [x,y] us->∃ u v,us=[u,v]/\RelV x u/\RelV y v
 | _,_,_,.cons r (.cons q .nil)=>⟨_,_,rfl,r,q⟩
section
variable {X:Cx} {pj:List (Addr × Obj)} {σ:St} {H:Hp} {s:Shared} {l b:Addr} {xs ys zs:List V}
theorem Inv.lset {its':List Value} {n:Nat} {f:Array Value->Array Value} {t':Nat} (I:Inv X pj σ H s) (hH:H l=some (.lst xs))
  (e:s.heap.get? l=some { cls:=.type "list",data:=.seq qc.toArray n }) (hf:f qc.toArray=its'.toArray) (hv:Vals ys its') (hz:ys.length<=sizeLine) :
  Inv X pj σ (upd H l (.lst ys)) { s with heap:=s.heap.update l (Obj.mapSeq f),toks:=t' }:=by
 have q:=PySem.IsL.update e f;rw [hf] at q;refine I.write (x:=l) (e:=l) (by rw [hH];exact trivial) (.inl rfl) (fun b' u hb hu=>(Heap.get?_update_other s.heap (Obj.mapSeq f) (Ne.symm hb)).trans hu) ⟨_,q⟩ ?_;exact ⟨hz,its',_,hv,q⟩
theorem Inv.lnew {t':Nat} (I:Inv X pj σ H s) (hv:Vals ys qc) (hz:ys.length<=sizeLine) :
  Inv X pj σ (upd H s.heap.objs.size (.lst ys)) { s with heap:=s.heap.push { cls:=.type "list",data:=.seq qc.toArray },toks:=t' } :=
 I.laid (fun _ _ q=>zxz _ q) (zye _) ⟨hz,qc,0,hv,zx9 _ rfl⟩
theorem Inv.fresh (I:Inv X pj σ H s):H s.heap.objs.size=none:=I.hok.fresh (zye _)
theorem Inv.lstM (I:Inv X pj σ H s) (hH:H l=some (.lst xs)):xs.length<=sizeLine/\∃ (qc:List Value) (n:Nat),Vals xs qc/\xs.length=qc.length/\s.heap.get? l=some { cls:=.type "list",data:=.seq qc.toArray n }:=by obtain ⟨z,qc,n,r,e⟩:=I.hok l _ hH;exact ⟨z,qc,n,r,r.length,e⟩
theorem zos {n:Nat} (h:n<=sizeLine):Builtin.List.listTooLong n=false:=by unfold Builtin.List.listTooLong;exact zys (by omega)
end
section
variable {X:Cx}
def zkz:V->List V->Hp->VK->Prop:=fun x vs H Q=>∃ l xs y,x=.ref l/\vs=[y]/\H l=some (.lst xs)/\xs.length<sizeLine/\Q .non (upd H l (.lst (xs++[y])))
theorem zea:MtM X "list.append" zkz:=by intro pj s σ H x vs v us Q I rx rv h;obtain ⟨l,xs,y,rfl,rfl,hH,hz,q⟩:=h;cases rx;obtain ⟨u,rfl,ru⟩:=rv.one;obtain ⟨z,qc,n,r,hl,e⟩:=I.lstM hH;refine call_meets F.slot_list_append ⟨_,e,rfl⟩ F.entry_list_append (F.args_list_append_2 _ _) (PySem.list_append l qc.toArray n u (by rw [zyd];omega)) ⟨e,?_⟩;refine ⟨.non,_,I.lset (its':=qc++[u]) hH e (by simp) (r.append (.cons ru .nil)) ?_,rfl,q⟩;rw [zyj,List.length_singleton];omega
end
section
variable {prog:Program} {w:World} {A:Around} {E:Value->Shared->Prop} {s:Shared}
set_option maxRecDepth 100000 in
end
section
variable {X:Cx}
end
end
end L2
namespace Att
open PySem PySem.W PySem.Calls PyProof.Rows
theorem zef {P:Params} {h:Heap}:∀ (ns:List Int) (vs:List Value),WellAll P h vs (ns.map WData.int)->IntsAre vs ns:=by
 intro ns
 induction ns with
 | nil =>intro vs w;rw [List.map_nil] at w;cases w;exact .nil
 | cons n ns ih =>
  intro vs w;rw [zx4] at w;cases w with
  | cons a b =>cases a;exact .cons _ _ (ih _ b)
theorem zkr {l:OpenLaw} {n:Nat} (hn:l.most=some n) {P:Params} {h:Heap} {args:List WData} {vals:List Value}
  (hpre:l.row.toRowW.claim.pre args=true) (hwl:WellAll P h vals args) :
  ∃ a vs ns,vals=[Value.ref a]/\args=[WData.list (ns.map WData.int)]/\h.get? a=some { cls:=.type "list",data:=.seq vs.toArray }/\IntsAre vs ns/\ns.length<=n:=by
 have hsh:WShape.hasAll [] args [.list .int]=true:=(pre_splitW hpre).1;have hc:l.pre.holds [] { args:=args }=true:=(pre_splitW hpre).2;obtain ⟨d,r,rfl,h1,h2⟩:=hasAllW_cons hsh;obtain rfl:=hasAllW_nil h2;obtain ⟨xs,rfl,h3⟩:=hasW_list h1;obtain ⟨ns,rfl⟩:=items_int h3;have hlen:ns.length<=n:=by
  unfold OpenLaw.pre at hc;have h4:(WTm.not (.lt (.lit (.int (n:Int))) (.len (.arg 0)))).holds [] { args:=[.list (ns.map .int)] }=true:=by have h4:=(holds_andW hc).1;rw [hn] at h4;exact h4
  have h5:=condW_of h4 (w_not (w_lt w_lit (w_len_list (w_arg rfl))));rw [zya] at h5;refine Nat.le_of_not_lt fun q=>?_;have q':(n:Int)<((ns.length:Nat):Int):=by omega
  first
   | (rw [zyo q'] at h5;exact absurd h5 (by decide))
   | (simp at h5;omega)
 cases hwl with
 | cons w1 w2 =>
  cases w2;cases w1 with
  | list ho hall=>exact ⟨_,_,ns,rfl,rfl,ho,zef ns _ hall,hlen⟩
theorem zk4 (l:OpenLaw) (args:List WData):l.row.toRowW.claim.post args (.bool true) args=true :=
 postW_of (r:=l.row.toRowW) (X:=(true==true))
  (show WShape.has [] (.bool true) .bool=true by first | rfl | decide | simp [WShape.has,WShape.arms,WShape.armsAll])
  (show (WTm.eq .res (.lit (.bool true))).value [] { args:=args,res:=some (.bool true),after:=args }=some (.bool (true==true)) from w_eq_bool (w_res rfl) w_lit) rfl
theorem attach_call {l:OpenLaw} {n:Nat} {q:Program} {loose:List Str} {XP:(Str->Option Value)->Heap->Prop} {YP:World->Heap->Prop} {d:DefRec}
  (hn:l.most=some n) (hdf:d.params.defaults=[])
  (call:∀ (w:World) (s₀ s₁:Shared) (mg mb:Str->Option Value) (fa:Addr) (o:Obj) (pm cd doc:Value) (a:Addr) (vs:List Value) (ns:List Int),
   Ground q loose [] XP w s₀ mg mb s₁.heap->YP w s₁.heap ->
   s₁.heap.get? fa=some o->o.data=.func (docDef d.name d.params d.body d.scope pm cd doc)->s₁.heap.CodeRec cd d.name->mg d.name=some (.ref fa) ->
   s₁.heap.get? a=some { cls:=.type "list",data:=.seq vs.toArray }->IntsAre vs ns->ns.length<=n->s₁.gens=#[] ->
   codeAny (model l.prog w) callerA (.call (.ref fa) ⟨[.ref a],[]⟩) (fun r s'=>r=.ok (.ret (.bool true))/\OldK s₁.heap s'.heap/\s'.os=s₁.os/\AllBare s'.gens) s₁) :
  WalkO q loose XP YP l.row.toRowW d [] (fun f vs=>PySem.call f vs):=by
 intro w s₀ s₁ mg mb G Y fa o pm cd doc dV kV ho hd hcd hD hmg hg args vals as hpre hlay hrd hwl hlo;obtain rfl:dV=.none:=Dflts.none hD hdf;obtain rfl:kV=.none:=Dflts.noKw hD;obtain ⟨a,vs,ns,rfl,rfl,hobj,hints,hlen⟩:=zkr hn hpre hwl;refine enter_call (codeAny_mono (call w s₀ s₁ mg mb fa o pm cd doc a vs ns G Y ho (fd_plain hd) hcd hmg hobj hints hlen hg) fun r s' hq=>?_);obtain ⟨rfl,h2,h3,h4⟩:=hq;exact ⟨.inl ⟨.bool true,.bool true,[],rfl,fun _=>rfl,.bool true,zk4 l _,fun _=>⟨List.Pairwise.nil,fun _ hm=>(nomatch hm)⟩⟩,h2,h3,h4⟩
section
variable {prog:Program} {w:World} {A:Around} {E:Value->Shared->Prop} {s:Shared} {K:Frag}
end
end Att
namespace L2
open PySem Spec PyProof.Rows
section
theorem zf4:∀ {vs:List Value} {ns:List Int},IntsAre vs ns->Vals (ns.map V.int) vs
 | _,_,.nil=>.nil
 | _,_,.cons n t h=>.cons ⟨t,rfl⟩ (zf4 h)
def Only (H:Hp):Prop:=∀ b,H b=none\/∃ o xs,H b=some (.frz o (.lst xs))
end
section
end
section
variable {x qual:Str} {st:Stmt} {f:Addr} {fd:FuncData} {ps:List Str}
def zcg (s:Stmt):Arguments:=match s with
 | .FunctionDef _ a _ _ _ _ _ _ _ _=>a
 | _=>{ posonlyargs:=[],args:=[],vararg:=none,kwonlyargs:=[],kw_defaults:=[],kwarg:=none,defaults:=[] }
def zbr (s:Stmt):List Stmt:=match s with
 | .FunctionDef _ _ b _ _ _ _ _ _ _=>b
 | _=>[]
def zab (s:Stmt):Scope:=match s with
 | .FunctionDef _ _ _ _ _ _ sc _ _ _=>sc
 | _=>{ kind:=.function,names:=[],isGenerator:=false,isCoroutine:=false }
abbrev CX0:CXT:=fun _ _ _ _ _ _=>False
abbrev E0:XK:=fun _ _ _=>False
theorem ygk {X:Cx}:ydm CX0 X E0:=fun _ _ _ _ _ _ _ h=>h.elim
structure Fun (K:PySem.W.Frag) (x qual:Str) (st:Stmt) (f:Addr) (fd:FuncData):Prop where
 ex:∃ (oc:Value) (od:Option Addr) (kV doc pm:Value) (an:Option Addr) (cdv ct:Value) (osl:Array (Option Value)),
  fd=PySem.W.fnOf x qual (zcg st) (zbr st) (zab st) .none kV doc pm an cdv ct/\K.lookup f=some ⟨oc,od,.func fd,osl⟩/\PySem.W.codeIn K cdv qual=true
 kp:PySem.W.keepIn K (.ref f)=true
section
variable {P:Program} {w:World} {K:PySem.W.Frag} {mg:Str->Option Value} {base:Heap}
theorem Fun.ok {N:List Str} {k:Nat} {sp:Sp} (F:Fun K x qual st f fd) (S:FnScope N ps (zab st)) (len:∀ vs H Q E,sp vs H Q E->vs.length=ps.length)
  (hbody:∀ (cdv:Value) (A:Around) (outer:List Env) (s:Shared) (H:Hp) (vs:List V) (Q:VK) (E:XK),Room k (A.deeper (envOfC qual (zab st) s.heap.objs.size f cdv))->sp vs H Q E ->
   ∃ t,PSs (yeq CX0 P w K mg base N qual (zab st) f cdv A outer s H E).nox (zbr st) t/\t { nx:=fun _ H'=>Q .non H',rt:=Q } (start N vs) H):FnOk P w K mg base CX0 (k+1) f fd ps sp:=by
 obtain ⟨oc,od,kV,doc,pm,an,cdv,ct,osl,rfl,lk,hcd⟩:=F.ex;refine zxt lk hcd S len fun A outer s H vs Q E hr hsp=>?_;obtain ⟨t,h,q⟩:=hbody cdv A outer s H vs Q E hr hsp;exact ⟨t,h.nox,q⟩
theorem Fun.binds (F:Fun K x qual st f fd)
  (h:∀ (kV doc pm:Value) (an:Option Addr) (cdv ct:Value) (us:List Value),us.length=ps.length->bindArgs (PySem.W.fnOf x qual (zcg st) (zbr st) (zab st) .none kV doc pm an cdv ct) ⟨us,[]⟩=pure (ps.zip us)):Binds K fd ps []:=by
 obtain ⟨oc,od,kV,doc,pm,an,cdv,ct,osl,rfl,lk,hcd⟩:=F.ex;exact .all (h kV doc pm an cdv ct)
theorem zwb {oc:Value} {od an:Option Addr} {osl:Array (Option Value)} {kV doc pm cdv ct:Value} (l:K.lookup f=some ⟨oc,od,.func (PySem.W.fnOf x qual (zcg st) (zbr st) (zab st) .none kV doc pm an cdv ct),osl⟩)
  (c:PySem.W.codeIn K cdv qual=true) (k:PySem.W.keepIn K (.ref f)=true):Fun K x qual st f (PySem.W.fnOf x qual (zcg st) (zbr st) (zab st) .none kV doc pm an cdv ct):=⟨⟨oc,od,kV,doc,pm,an,cdv,ct,osl,rfl,l,c⟩,k⟩
end
theorem zgc {n:Nat} (h:n<=1000):n<sizeLine:=Nat.lt_of_le_of_lt h (by decide)
section
variable {X:Cx}
end
theorem yfw {A B:Prop} (h:B):if false=true then A else B:=by rw [if_neg zyg];exact h
theorem yfv {A B:Prop} (h:A):if true=true then A else B:=by rw [if_pos rfl];exact h
def Same (H H':Hp):Prop:=∀ b o,H b=some o->H' b=some o
theorem Same.refl (H:Hp):Same H H:=fun _ _ h=>h
theorem Same.trans {H H1 H2:Hp} (a:Same H H1) (b:Same H1 H2):Same H H2:=fun c o h=>b c o (a c o h)
theorem Same.free {H H':Hp} (e:Same H H') {l:Addr} (h:H' l=Option.none):H l=Option.none:=by
 cases q:H l with
 | none=>rfl
 | some o =>rw [e l o q] at h;cases h
theorem Same.seq {K:PySem.W.Frag} {H H':Hp} {a:Addr} {xs:List V} (e:Same H H') (h:SqL K H a xs):SqL K H' a xs:=by
 rcases h with (h | ⟨o,h⟩) | h
 ·exact .inl (.inl (e _ _ h))
 ·exact .inl (.inr ⟨o,e _ _ h⟩)
 ·exact .inr h
end
end L2
end
namespace Ev
open PySem
section
abbrev Kt:=Sum Int (Option Str)
inductive T where
 | non | bl (b:Bool) | int (i:Int) | str (x:Str) | tup (xs:List T) | lst (xs:List T)
 | dk (ks:List Kt) (vs:List T) | dt (ks:List (List Kt)) (vs:List T)
 deriving Inhabited
inductive Bo where
 | add | sub | mul | fdiv | mod
 deriving DecidableEq
inductive Co where
 | eq | ne | lt | gt | isin | notin | isN | notN | notF
 deriving DecidableEq
inductive Ik where
 | plain | range | enum | zip
 deriving DecidableEq
noncomputable def Ik.pair:Ik->Bool
 | .enum=>true
 | .zip=>true
 | _=>false
inductive Ty where
 | tbool
 deriving DecidableEq
inductive Bn where
 | len | toInt | toTuple | least | most | sorted | dict
 deriving DecidableEq
inductive Mt where
 | index | count
 deriving DecidableEq
inductive E where
 | var (i:Nat) | cst (t:T) | glb (x:Str)
 | bin (o:Bo) (a b:E) | cmp (o:Co) (a b:E)
 | land (a b:E) | lor (a b:E) | lnot (a:E) | neg (a:E) | tru (a:E)
 | tup (es:List E) | lst (es:List E)
 | idx (a b:E) | sli (a:E) (lo hi:Option E)
 | call (f:Str) (es:List E) | blt (f:Bn) (a:E) | isi (a:E) (k:Ty) | mth (m:Mt) (a b:E)
 | comp (elt:E) (n:Nat) (k:Ik) (src:List E) (cond:Option E)
 deriving Inhabited
inductive S where
 | asg (i:Nat) (e:E)
 | app (i:Nat) (e:E)
 | ext (i:Nat) (e:E)
 | dnew (i:Nat)
 | dput (i:Nat) (k v:E)
 | dapp (i:Nat) (k v:E)
 | vloop (is:List Nat) (i:Nat) (body:List S)
 | ret (e:E)
 | ite (c:E) (a b:List S)
 | loop (is:List Nat) (k:Ik) (src:List E) (body:List S)
 deriving Inhabited
abbrev SZ:Nat:=16777216
abbrev Env:=List (Option T)
structure Glo where
 call:Str->List T->Option T
 con:Str->Option T
noncomputable def ye5:T->Option Kt
 | .int i=>some (.inl i)
 | .str x=>some (.inr (some x))
 | .non=>some (.inr none)
 | _=>none
noncomputable def yb8:List T->Option (List Kt)
 | []=>some []
 | x::r=>(ye5 x).bind fun k=>(yb8 r).bind fun ks=>some (k::ks)
noncomputable def tkO:T->Option (List Kt)
 | .tup xs=>yb8 xs
 | _=>none
noncomputable def yez:List T->Option (List (List Kt))
 | []=>some []
 | x::r=>(tkO x).bind fun k=>(yez r).bind fun ks=>some (k::ks)
noncomputable def kT:Kt->T
 | .inl i=>.int i
 | .inr (some x)=>.str x
 | .inr none=>.non
noncomputable def tkT (k:List Kt):T:=.tup (k.map kT)
section
variable {κ β:Type} [DecidableEq κ]
noncomputable def ycw:List κ->List β->κ->Option β
 | k::ks,v::vs,q=>if k=q then some v else ycw ks vs q
 | _,_,_=>none
noncomputable def yfo:List (κ × β)->κ->Option β
 | [],_=>none
 | p::r,k=>if p.1=k then some p.2 else yfo r k
noncomputable def yby (qb:List (κ × β)) (k:κ) (v:β):List (κ × β) :=
 if (qb.any fun kv=>decide (kv.1=k))=true then qb.map (fun kv=>if kv.1=k then (kv.1,v) else kv) else qb++[(k,v)]
noncomputable def yff (qb:List (κ × β)) (k:κ):List (κ × β):=qb.filter fun kv=>decide (kv.1≠k)
end
noncomputable def kLt:Kt->Kt->Bool
 | .inl a,.inl b=>decide (a<b)
 | .inr (some a),.inr (some b)=>decide (a.cps.toList<b.cps.toList)
 | _,_=>false
noncomputable def ycn:Kt->Kt->Bool
 | .inl _,.inl _=>true
 | .inr (some _),.inr (some _)=>true
 | _,_=>false
noncomputable def ya8:List Kt->List Kt->Bool
 | x::xs,y::ys=>if x=y then ya8 xs ys else kLt x y
 | _,_=>false
noncomputable def alike:List Kt->List Kt->Bool
 | [],[]=>true
 | x::xs,y::ys=>ycn x y&&alike xs ys
 | _,_=>false
noncomputable def ydr (k:List Kt):List (List Kt)->List (List Kt)
 | []=>[k]
 | x::r=>if ya8 k x then k::x::r else x::ydr k r
noncomputable def ya3:List (List Kt)->List (List Kt)
 | []=>[]
 | k::r=>ydr k (ya3 r)
noncomputable def ydh (l:List (List Kt)):Option (List (List Kt)):=if l.length<=60/\l.Nodup/\(l.all fun x=>(!x.isEmpty)&&l.all fun y=>alike x y)=true then some (ya3 l) else none
noncomputable def ycf (l:List (List Kt)):Option T:=(ydh l).map fun r=>.lst (r.map tkT)
noncomputable def yc1 (i:Int):Bool:=decide (-18446744073709551616<i)&&decide (i<18446744073709551616)
noncomputable def ya5:T->T->Option T
 | .int a,y=>(match y with
  | .int b=>some (.int (a+b))
  | _=>none)
 | .lst a,y=>(match y with
  | .lst b=>if a.length+b.length<=SZ then some (.lst (a++b)) else none
  | _=>none)
 | .tup a,y=>(match y with
  | .tup b=>if a.length+b.length<=SZ then some (.tup (a++b)) else none
  | _=>none)
 | _,_=>none
noncomputable def ybo:T->T->Option T
 | .int a,.int b=>some (.int (a-b))
 | _,_=>none
noncomputable def ybk:T->T->Option T
 | .int a,.int b=>if yc1 a||yc1 b then some (.int (a*b)) else none
 | _,_=>none
noncomputable def yap:T->T->Option T
 | .int a,.int b=>if 0<b/\b<1073741824 then some (.int (a/b)) else none
 | _,_=>none
noncomputable def ya6:T->T->Option T
 | .int a,.int b=>if 0<b then some (.int (a%b)) else none
 | _,_=>none
noncomputable def ya0:Bo->T->T->Option T
 | .add=>ya5 | .sub=>ybo | .mul=>ybk | .fdiv=>yap | .mod=>ya6
mutual
noncomputable def eqT:T->T->Bool
 | .non,.non=>true
 | .bl a,.bl b=>a==b
 | .bl a,.int b=>(if a then 1 else 0)==b
 | .int a,.bl b=>a==(if b then 1 else 0)
 | .int a,.int b=>a==b
 | .str a,.str b=>a==b
 | .tup a,.tup b=>yb5 a b
 | .lst a,.lst b=>yb5 a b
 | _,_=>false
noncomputable def yb5:List T->List T->Bool
 | [],[]=>true
 | x::xs,y::ys=>eqT x y&&yb5 xs ys
 | _,_=>false
end
mutual
noncomputable def dpP:T->T->Nat
 | .tup a,.tup b=>yba a b+1
 | .lst a,.lst b=>yba a b+1
 | .dk _ _,_=>20000
 | .dt _ _,_=>20000
 | _,.dk _ _=>20000
 | _,.dt _ _=>20000
 | _,_=>0
noncomputable def yba:List T->List T->Nat
 | x::xs,y::ys=>max (dpP x y) (yba xs ys)
 | _,_=>0
end
noncomputable def flat:T->Bool
 | .tup _=>false
 | .lst _=>false
 | .dk _ _=>false
 | .dt _ _=>false
 | _=>true
noncomputable def eqC (x y:T):Option T:=if dpP x y<=30 then some (.bl (eqT x y)) else none
noncomputable def neC (x y:T):Option T:=if dpP x y<=30 then some (.bl (!eqT x y)) else none
noncomputable def ltC:T->T->Option T
 | .int a,.int b=>some (.bl (decide (a<b)))
 | .str a,.str b=>some (.bl (decide (a.cps.toList<b.cps.toList)))
 | _,_=>none
noncomputable def ye2:T->Option (List T)
 | .tup xs=>some xs
 | .lst xs=>some xs
 | _=>none
noncomputable def dpI (x:T) (xs:List T):Bool:=xs.all fun z=>decide (dpP z x<=30)
noncomputable def inC (x y:T):Option Bool :=
 match y with
 | .tup xs=>if dpI x xs then some (xs.any fun z=>eqT z x) else none
 | .lst xs=>if dpI x xs then some (xs.any fun z=>eqT z x) else none
 | .dt ks _=>(match x with
  | .tup xs=>(yb8 xs).map fun k=>ks.any fun q=>decide (q=k)
  | _=>none)
 | _=>none
noncomputable def yax:Co->T->T->Option T
 | .eq,x,y=>eqC x y
 | .ne,x,y=>neC x y
 | .lt,x,y=>ltC x y
 | .gt,x,y=>(match x,y with
  | .int a,.int b=>some (.bl (decide (b<a)))
  | _,_=>none)
 | .isin,x,y=>(inC x y).map .bl
 | .notin,x,y=>(inC x y).map fun b=>.bl (!b)
 | .isN,x,y=>(match x,y with
  | .non,.non=>some (.bl true)
  | _,.non=>some (.bl false)
  | _,_=>none)
 | .notN,x,y=>(match x,y with
  | .non,.non=>some (.bl false)
  | _,.non=>some (.bl true)
  | _,_=>none)
 | .notF,x,y=>(match x,y with
  | .bl b,.bl false=>some (.bl b)
  | .non,.bl false=>some (.bl true)
  | _,_=>none)
noncomputable def ixI (n:Nat) (i:Int):Option Nat:=if 0<=i then (if i<n then some i.toNat else none) else if -(n:Int)<=i then some (i+n).toNat else none
noncomputable def ybf (xs:List T) (i:Int):Option T:=(ixI xs.length i).bind fun j=>xs[j]?
noncomputable def yah:T->T->Option T
 | .tup xs,.int i=>ybf xs i
 | .lst xs,.int i=>ybf xs i
 | .dt ks vs,.tup xs=>(yb8 xs).bind fun k=>ycw ks vs k
 | _,_=>none
noncomputable def yc8 (n d:Nat):Option Int->Nat
 | none=>d
 | some v=>if v<0 then (v+(n:Int)).toNat else min v.toNat n
noncomputable def cut (xs:List T) (lo hi:Option Int):List T:=(xs.drop (yc8 xs.length 0 lo)).take (yc8 xs.length xs.length hi-yc8 xs.length 0 lo)
noncomputable def ybb:T->Option Int->Option Int->Option T
 | .tup xs,lo,hi=>some (.tup (cut xs lo hi))
 | .lst xs,lo,hi=>some (.lst (cut xs lo hi))
 | _,_,_=>none
noncomputable def ybh:T->Option Bool
 | .non=>some false
 | .bl b=>some b
 | .int i=>some (i != 0)
 | .tup xs=>some (!xs.isEmpty)
 | .lst xs=>some (!xs.isEmpty)
 | _=>none
noncomputable def ybi (x:T):Ty->Bool
 | .tbool=>(match x with
  | .bl _=>true
  | _=>false)
noncomputable def yc4:List T->Option (List Int)
 | []=>some []
 | .int i::r=>(yc4 r).map (i::·)
 | _=>none
noncomputable def yep:List Int->Option T
 | []=>none
 | i::r=>some (.int (r.foldl (fun a b=>if b<a then b else a) i))
noncomputable def yfc:List Int->Option T
 | []=>none
 | i::r=>some (.int (r.foldl (fun a b=>if b>a then b else a) i))
mutual
noncomputable def ltD:T->T->Option Bool
 | .int a,y=>(match y with
  | .int b=>some (decide (a<b))
  | _=>none)
 | .str a,y=>(match y with
  | .str b=>some (decide (a.cps.toList<b.cps.toList))
  | _=>none)
 | .tup a,y=>(match y with
  | .tup b=>ybz a b
  | _=>none)
 | _,_=>none
noncomputable def ybz:List T->List T->Option Bool
 | [],y=>some (!y.isEmpty)
 | x::xs,y=>(match y with
  | []=>some false
  | b::ys=>if eqT x b=true then ybz xs ys else ltD x b)
end
noncomputable def cD (x y:T):Bool:=ltD x y==some true
noncomputable def kdN:T->Option Nat
 | .int _=>some 0
 | .str _=>some 1
 | .tup _=>some 2
 | _=>none
structure OkN (l:List T):Prop where
 len:l.length<=60
 dp:∀ x∈l,∀ y∈l,dpP x y<=20
 lt:∀ x∈l,∀ y∈l,∃ b,ltD x y=some b
 kd:∃ n,∀ x∈l,∃ a r,x=.tup (a::r)/\kdN a=some n
 tot:l.Pairwise fun x y=>cD y x=!cD x y
 tr:∀ x∈l,∀ y∈l,∀ z∈l,cD x y=true->cD y z=true->cD x z=true
noncomputable def ye4 (x:T):List T->List T
 | []=>[x]
 | y::r=>if cD x y=true then x::y::r else y::ye4 x r
noncomputable def ycl:List T->List T
 | []=>[]
 | x::r=>ye4 x (ycl r)
open Classical in
noncomputable def ycp (l:List T):Option T:=if OkN l then some (.lst (ycl l)) else none
noncomputable def yd5:T->Option (List Kt × T)
 | .tup [.tup ks,v]=>(yb8 ks).map fun k=>(k,v)
 | _=>none
noncomputable def ybv:List T->Option (List (List Kt × T))
 | []=>some []
 | x::r=>(yd5 x).bind fun p=>(ybv r).bind fun ps=>some (p::ps)
noncomputable def yb2 (l:List (List Kt × T)):List (List Kt × T):=l.foldl (fun acc p=>yby acc p.1 p.2) []
noncomputable def yaz:Bn->T->Option T
 | .len,x=>(match x with
  | .tup xs=>some (.int xs.length)
  | .lst xs=>some (.int xs.length)
  | _=>none)
 | .toInt,x=>(match x with
  | .int i=>some (.int i)
  | .bl b=>some (.int (if b then 1 else 0))
  | _=>none)
 | .toTuple,x=>(match x with
  | .tup xs=>some (.tup xs)
  | .lst xs=>some (.tup xs)
  | _=>none)
 | .least,x=>(match x with
  | .lst xs=>(yc4 xs).bind yep
  | _=>none)
 | .most,x=>(match x with
  | .lst xs=>(yc4 xs).bind yfc
  | _=>none)
 | .sorted,x=>(match x with
  | .dt ks _=>ycf ks
  | .dk [] _=>some (.lst [])
  | .lst xs=>(match (yez xs).bind ycf with
   | some r=>some r
   | none=>ycp xs)
  | _=>none)
 | .dict,x=>(match x with
  | .lst xs=>(ybv xs).bind fun l=>if l.length<=1000 then some (.dt ((yb2 l).map (·.1)) ((yb2 l).map (·.2))) else none
  | _=>none)
noncomputable def zcd (x:T):List T->Option Nat
 | []=>none
 | y::r=>if eqT y x then some 0 else (zcd x r).map (·+1)
noncomputable def ya7:Mt->T->T->Option T
 | .count,.lst xs,y=>if dpI y xs then some (.int ((xs.filter fun z=>eqT z y).length:Nat)) else none
 | .index,.lst xs,y=>if flat y&&xs.all flat then (zcd y xs).map fun (i:Nat)=>T.int (i:Int) else none
 | _,_,_=>none
noncomputable def yat:List T->Nat->List T
 | [],_=>[]
 | x::r,i=>.tup [.int i,x]::yat r (i+1)
noncomputable def ycm:List T->List T->List T
 | x::xs,y::ys=>.tup [x,y]::ycm xs ys
 | _,_=>[]
noncomputable def ybn (n:Nat):List T:=(List.range n).map fun (i:Nat)=>T.int (i:Int)
noncomputable def ybs (x:Str):Bool:=x.cps.all (·<128)
noncomputable def items:Ik->List T->Option (List T)
 | .plain,l=>(match l with
  | [.tup xs]=>some xs
  | [.lst xs]=>some xs
  | _=>none)
 | .range,l=>(match l with
  | [.int n]=>if -4611686018427387904<=n/\n<4611686018427387904 then some (ybn n.toNat) else none
  | _=>none)
 | .enum,l=>(match l with
  | [.tup xs]=>some (yat xs 0)
  | [.lst xs]=>some (yat xs 0)
  | _=>none)
 | .zip,l=>(match l with
  | [x,y]=>(ye2 x).bind fun xs=>(ye2 y).bind fun ys=>some (ycm xs ys)
  | _=>none)
noncomputable def yae (k:Ik) (xs:List T):Option (List T):=(items k xs).bind fun qc=>if qc.length<=SZ then some qc else none
noncomputable def bnd (n:Nat) (x:T) (ρ:Env):Option Env :=
 if n=1 then some (some x::ρ) else
  match x with
  | .tup xs=>if xs.length=n then some (xs.map some++ρ) else none
  | _=>none
noncomputable def yao (f:T->Option (Option T)):List T->Option (List T)
 | []=>some []
 | x::xs=>(f x).bind fun r=>(yao f xs).bind fun rs=>match r with
  | none=>some rs
  | some y=>some (y::rs)
noncomputable def asI:Option T->Option (Option Int)
 | none=>some none
 | some (.int i)=>some (some i)
 | some _=>none
mutual
noncomputable def evE (G:Glo):E->Env->Option T
 | .var i,ρ=>(ρ[i]?).join
 | .cst t,_=>some t
 | .glb x,_=>G.con x
 | .bin o a b,ρ=>(evE G a ρ).bind fun x=>(evE G b ρ).bind fun y=>ya0 o x y
 | .cmp o a b,ρ=>(evE G a ρ).bind fun x=>(evE G b ρ).bind fun y=>yax o x y
 | .land a b,ρ=>(evE G a ρ).bind fun x=>match x with
  | .bl true=>evE G b ρ
  | .bl false=>some (.bl false)
  | _=>none
 | .lor a b,ρ=>(evE G a ρ).bind fun x=>match x with
  | .bl true=>some (.bl true)
  | .bl false=>evE G b ρ
  | _=>none
 | .lnot a,ρ=>(evE G a ρ).bind fun x=>match x with
  | .bl b=>some (.bl (!b))
  | _=>none
 | .neg a,ρ=>(evE G a ρ).bind fun x=>match x with
  | .int i=>some (.int (-i))
  | _=>none
 | .tru a,ρ=>(evE G a ρ).bind fun x=>(ybh x).map .bl
 | .tup es,ρ=>if es.length<=1000 then (yac G es ρ).map .tup else none
 | .lst es,ρ=>if es.length<=1000 then (yac G es ρ).map .lst else none
 | .idx a b,ρ=>(evE G a ρ).bind fun x=>(evE G b ρ).bind fun y=>yah x y
 | .sli a lo hi,ρ=>(evE G a ρ).bind fun x=>(evO G lo ρ).bind fun l=>(evO G hi ρ).bind fun h=>(asI l).bind fun l'=>(asI h).bind fun h'=>ybb x l' h'
 | .call f es,ρ=>(yac G es ρ).bind fun xs=>G.call f xs
 | .blt f a,ρ=>(evE G a ρ).bind fun x=>yaz f x
 | .isi a k,ρ=>(evE G a ρ).bind fun x=>some (.bl (ybi x k))
 | .mth m a b,ρ=>(evE G a ρ).bind fun x=>(evE G b ρ).bind fun y=>ya7 m x y
 | .comp elt n k src cond,ρ=>(yac G src ρ).bind fun xs=>(yae k xs).bind fun qc =>
   (yao (fun x=>(bnd n x ρ).bind fun ρ'=>(evO G cond ρ').bind fun c=>match c with
    | none=>(evE G elt ρ').map some
    | some (.bl true)=>(evE G elt ρ').map some
    | some (.bl false)=>some none
    | some _=>none) qc).map .lst
noncomputable def yac (G:Glo):List E->Env->Option (List T)
 | [],_=>some []
 | e::es,ρ=>(evE G e ρ).bind fun x=>(yac G es ρ).bind fun xs=>some (x::xs)
noncomputable def evO (G:Glo):Option E->Env->Option (Option T)
 | none,_=>some none
 | some e,ρ=>(evE G e ρ).map some
end
inductive Sl where
 | no | val (t:T) | own (ts:List T) | dk (qb:List (Kt × T)) | dt (qb:List (List Kt × T))
 | dl (qb:List (List Kt × List T))
 deriving Inhabited
noncomputable def Sl.isDl:Sl->Bool
 | .dl _=>true
 | _=>false
noncomputable def Sl.get:Sl->Option T
 | .val t=>some t
 | _=>none
noncomputable def Sl.frz:Sl->Sl
 | .own ts=>.val (.lst ts)
 | .dk qb=>.val (.dk (qb.map (·.1)) (qb.map (·.2)))
 | .dt qb=>.val (.dt (qb.map (·.1)) (qb.map (·.2)))
 | s=>s
inductive Out where
 | nx (τ:List Sl) | rt (t:T)
 deriving Inhabited
noncomputable def ygq (τ:List Sl):Env:=τ.map Sl.get
noncomputable def yad:List Nat->List Sl->List Sl
 | [],τ=>τ
 | i::r,τ=>yad r (τ.modify i Sl.frz)
mutual
noncomputable def yaj:E->List Nat
 | .var i=>[i]
 | .cst _=>[] | .glb _=>[]
 | .bin _ a b=>yaj a++yaj b
 | .cmp _ a b=>yaj a++yaj b
 | .land a b=>yaj a++yaj b
 | .lor a b=>yaj a++yaj b
 | .lnot a=>yaj a
 | .neg a=>yaj a
 | .tru a=>yaj a
 | .tup es=>yaq es
 | .lst es=>yaq es
 | .idx a b=>yaj a++yaj b
 | .sli a lo hi=>yaj a++(ya1 lo++ya1 hi)
 | .call _ es=>yaq es
 | .blt _ a=>yaj a
 | .isi a _=>yaj a
 | .mth _ a b=>yaj a++yaj b
 | .comp elt n _ src cond=>yaq src++((yaj elt++ya1 cond).filterMap fun i=>if n<=i then some (i-n) else none)
noncomputable def yaq:List E->List Nat
 | []=>[]
 | e::es=>yaj e++yaq es
noncomputable def ya1:Option E->List Nat
 | none=>[]
 | some e=>yaj e
end
noncomputable def fresh:E->Bool
 | .lst _=>true
 | .bin .add _ _=>true
 | _=>false
noncomputable def yai (e:E) (t:T):Sl:=match fresh e,t with
 | true,.lst ts=>.own ts
 | _,t=>.val t
noncomputable def setAll:List Nat->List T->List Sl->Option (List Sl)
 | [],[],τ=>some τ
 | i::is,x::xs,τ=>setAll is xs (τ.set i (.val x))
 | _,_,_=>none
noncomputable def yay (is:List Nat) (x:T) (τ:List Sl):Option (List Sl) :=
 match is,x with
 | [i],x=>some (τ.set i (.val x))
 | is,.tup xs=>setAll is xs τ
 | _,_=>none
noncomputable def yan (f:T->List Sl->Option Out):List T->List Sl->Option Out
 | [],τ=>some (.nx τ)
 | x::xs,τ=>(f x τ).bind fun o=>match o with
  | .nx τ'=>yan f xs τ'
  | .rt t=>some (.rt t)
noncomputable def yel (s:Option Sl) (k v:T):Option Sl :=
 match s with
 | some (.dk qb)=>(match ye5 k,qb with
  | some q,_=>if qb.length<SZ then some (.dk (yby qb q v)) else none
  | none,[]=>(tkO k).map fun q=>.dt [(q,v)]
  | none,_=>none)
 | some (.dt qb)=>(tkO k).bind fun q=>if qb.length<SZ then some (.dt (yby qb q v)) else none
 | _=>none
noncomputable def sdP (qb:List (List Kt × List T)) (q:List Kt):List (List Kt × List T):=if (qb.any fun p=>decide (p.1=q))=true then qb else qb++[(q,[])]
noncomputable def apP (qb:List (List Kt × List T)) (q:List Kt) (y:T):List (List Kt × List T):=qb.map fun p=>if p.1=q then (p.1,p.2++[y]) else p
noncomputable def sdS (τ:List Sl) (i:Nat) (q:List Kt):Option (List (List Kt × List T)) :=
 match τ[i]? with
 | some (.dk qb)=>if (qb.isEmpty&&!τ.any Sl.isDl)=true then some [(q,[])] else none
 | some (.dl qb)=>if qb.length<SZ then some (sdP qb q) else none
 | _=>none
mutual
noncomputable def evS (G:Glo):S->List Sl->Option Out
 | .asg i e,τ=>(evE G e (ygq (yad (yaj e) τ))).bind fun t=>some (.nx ((yad (yaj e) τ).set i (yai e t)))
 | .app i e,τ=>(evE G e (ygq (yad (yaj e) τ))).bind fun t=>match (yad (yaj e) τ)[i]? with
  | some (.own ts)=>if ts.length<SZ then some (.nx ((yad (yaj e) τ).set i (.own (ts++[t])))) else none
  | _=>none
 | .ext i e,τ=>(evE G e (ygq (yad (yaj e) τ))).bind fun t=>match t,(yad (yaj e) τ)[i]? with
  | .lst us,some (.own ts)=>if ts.length+us.length<=SZ then some (.nx ((yad (yaj e) τ).set i (.own (ts++us)))) else none
  | _,_=>none
 | .dnew i,τ=>some (.nx (τ.set i (.dk [])))
 | .dput i k v,τ=>(evE G v (ygq (yad (yaj v++yaj k) τ))).bind fun y=>(evE G k (ygq (yad (yaj v++yaj k) τ))).bind fun x =>(yel (yad (yaj v++yaj k) τ)[i]? x y).map fun s=>.nx ((yad (yaj v++yaj k) τ).set i s)
 | .dapp i k v,τ=>(evE G k (ygq (yad (yaj k++yaj v) τ))).bind fun x=>(tkO x).bind fun q=>(sdS (yad (yaj k++yaj v) τ) i q).bind fun qb=>(evE G v (ygq (yad (yaj k++yaj v) τ))).bind fun y =>
   if (qb.all fun p=>decide (p.2.length<SZ))=true then some (.nx ((yad (yaj k++yaj v) τ).set i (.dl (apP qb q y)))) else none
 | .vloop is i body,τ=>(match τ[i]? with
  | some (.dl qb)=>yan (fun x τ=>(yay is x τ).bind fun τ'=>yab G body τ') (qb.map fun p=>T.lst p.2) (τ.set i .no)
  | some (.dk qb)=>if (qb.isEmpty&&!τ.any Sl.isDl)=true then some (.nx (τ.set i .no)) else none
  | _=>none)
 | .ret e,τ=>(evE G e (ygq (yad (yaj e) τ))).map .rt
 | .ite c a b,τ=>(evE G c (ygq (yad (yaj c) τ))).bind fun t=>match t with
  | .bl true=>yab G a (yad (yaj c) τ)
  | .bl false=>yab G b (yad (yaj c) τ)
  | _=>none
 | .loop is k src body,τ=>(yac G src (ygq (yad (yaq src) τ))).bind fun xs=>(items k xs).bind fun qc =>yan (fun x τ=>(yay is x τ).bind fun τ'=>yab G body τ') qc (yad (yaq src) τ)
noncomputable def yab (G:Glo):List S->List Sl->Option Out
 | [],τ=>some (.nx τ)
 | s::ss,τ=>(evS G s τ).bind fun o=>match o with
  | .nx τ'=>yab G ss τ'
  | o=>some o
end
structure Fd where
 np:Nat
 ns:Nat
 body:List S
 deriving Inhabited
noncomputable def yal (D:Fd) (ts:List T):List Sl:=ts.map .val++List.replicate (D.ns-ts.length) .no
noncomputable def zaa:Option Out->Option T
 | some (.nx _)=>some .non
 | some (.rt t)=>some t
 | _=>none
structure Pr where
 fn:Str->Option Fd
 con:Str->Option T
noncomputable def glo (P:Pr) (run:Str->List T->Option T):Glo:=⟨run,P.con⟩
noncomputable def run (P:Pr):Nat->Str->List T->Option T
 | 0,_,_=>none
 | n+1,f,ts=>(P.fn f).bind fun D=>if ts.length=D.np then zaa (yab (glo P (run P n)) D.body (yal D ts)) else none
end
section
noncomputable def yam:List Str->Str->Option Nat
 | [],_=>none
 | y::r,x=>if y==x then some 0 else (yam r x).map (·+1)
structure Tc where
 sc:Scope
 nm:List Str
noncomputable def ybu (sc:Scope) (x:Str):Bool:=match sc.names.lookup x with
 | some .local=>true
 | some .cell=>true
 | some .free=>true
 | _=>false
noncomputable def glB (sc:Scope) (x:Str):Bool:=sc.names.lookup x==some .globalImplicit
noncomputable def zac (x:Str):Bool:=!(x==("__debug__":Str))&&!(x==("__classdict__":Str))&&!(x==("__name__":Str))&&(!(x==(".0":Str))&&(!(x==(".put":Str))&&!(x==(".lam":Str))))
noncomputable def yfl (x:Str):Option Ty :=
 if x==("bool":Str) then some .tbool else none
noncomputable def yev (x:Str):Option Bn :=
 if x==("len":Str) then some .len else if x==("int":Str) then some .toInt else if x==("tuple":Str) then some .toTuple else if x==("min":Str) then some .least else if x==("max":Str) then some .most else if x==("sorted":Str) then some .sorted else none
noncomputable def yfs (x:Str):Option Bn:=if x==("dict":Str) then some .dict else yev x
noncomputable def ygi (x:Str):Option Mt:=if x==("index":Str) then some .index else if x==("count":Str) then some .count else none
noncomputable def bnames:List Str:=["len", "int", "str", "list", "tuple", "bool", "isinstance", "range", "enumerate", "zip", "all", "any", "set", "sorted", "min", "max", "sum", "dict"]
noncomputable def yfz:Operator->Option Bo
 | .Add=>some .add | .Sub=>some .sub | .Mult=>some .mul | .FloorDiv=>some .fdiv | .Mod=>some .mod
 | _=>none
noncomputable def zo4:Expr->Bool
 | .Constant (.bool false) _ _=>true
 | _=>false
noncomputable def zl7:Expr->Bool
 | .Constant .none _ _=>true
 | _=>false
noncomputable def yey:CmpOp->Expr->Option Co
 | .Eq,_=>some .eq | .NotEq,_=>some .ne | .Lt,_=>some .lt | .LtE,_=>none | .Gt,_=>some .gt | .GtE,_=>none
 | .In,e=>if behindInMarks .In e then none else some .isin
 | .NotIn,e=>if behindInMarks .NotIn e then none else some .notin
 | .Is,e=>if zl7 e then some .isN else none
 | .IsNot,e=>if zl7 e then some .notN else if zo4 e then some .notF else none
noncomputable def zbx:Expr->Option (List Str)
 | .Name x _=>some [x]
 | .Tuple es _ _=>es.mapM fun e=>match e with
  | .Name x _=>some x
  | _=>none
 | _=>none
noncomputable def yct:Expr->Bool
 | .Slice ..=>true
 | .Tuple ..=>true
 | .Starred ..=>true
 | _=>false
noncomputable def ycd:List Str->Bool
 | []=>true
 | x::r=>!r.contains x&&ycd r
noncomputable def zcp (out sc:Scope) (xs:List Str):Bool :=
 sc.kind==.function&&ycd xs&&(xs.all fun x=>zac x&&(sc.names.lookup x==some .local||sc.names.lookup x==some .cell)) &&
 (sc.names.all fun p=>match p.2 with
  | .free=>(sc.names.lookup p.1==some .free)&&(out.names.lookup p.1==some .cell||out.names.lookup p.1==some .free)
  | .local=>(sc.names.lookup p.1==some .local)&&(xs.contains p.1||p.1==(".0":Str))
  | .cell=>(sc.names.lookup p.1==some .cell)&&xs.contains p.1
  | _=>true)
noncomputable def yau:Expr->Bool
 | .Tuple ..=>true
 | _=>false
noncomputable def ydd {α β:Type} (f:α->Option β):List α->Option (List β)
 | []=>some []
 | x::r=>(f x).bind fun y=>(ydd f r).bind fun ys=>some (y::ys)
noncomputable def yf7 {α β:Type} (f:α->Option β):Option α->Option (Option β)
 | none=>some none
 | some x=>(f x).map some
inductive Md where
 | val | tst
 deriving DecidableEq
mutual
noncomputable def tr:Nat->Tc->Md->Expr->Option E
 | 0,_,_,_=>none
 | n+1,c,.tst,e=>trT n c e
 | n+1,c,.val,e=>trV n c e
noncomputable def trT:Nat->Tc->Expr->Option E
 | 0,_,_=>none
 | n+1,c,.BoolOp .And [a] _=>trT n c a
 | n+1,c,.BoolOp .And (a::b::r) pos=>(trT n c a).bind fun x=>(trT n c (.BoolOp .And (b::r) pos)).bind fun y=>some (.land x y)
 | n+1,c,.BoolOp .Or [a] _=>trT n c a
 | n+1,c,.BoolOp .Or (a::b::r) pos=>(trT n c a).bind fun x=>(trT n c (.BoolOp .Or (b::r) pos)).bind fun y=>some (.lor x y)
 | n+1,c,.UnaryOp .Not a _=>(trT n c a).bind fun x=>some (.lnot x)
 | n+1,c,.Compare a [op] [b] _=>(yey op b).bind fun o=>(trV n c a).bind fun x=>(trV n c b).bind fun y=>some (.cmp o x y)
 | n+1,c,.Name x pos=>(trV n c (.Name x pos)).bind fun x=>some (.tru x)
 | n+1,c,.Call f es ks pos=>(trV n c (.Call f es ks pos)).bind fun x=>some (.tru x)
 | n+1,c,.Subscript a b pos=>(trV n c (.Subscript a b pos)).bind fun x=>some (.tru x)
 | _,_,_=>none
noncomputable def trV:Nat->Tc->Expr->Option E
 | 0,_,_=>none
 | _+1,_,.Constant .none _ _=>some (.cst .non)
 | _+1,_,.Constant (.bool b) _ _=>some (.cst (.bl b))
 | _+1,_,.Constant (.int i) _ _=>some (.cst (.int i))
 | _+1,_,.Constant (.str x) _ _=>some (.cst (.str x))
 | _+1,c,.Name x _=>if zac x then (if ybu c.sc x then (yam c.nm x).map .var else if glB c.sc x&&!bnames.contains x then some (.glb x) else none) else none
 | n+1,c,.BinOp a op b _=>(yfz op).bind fun o=>(trV n c a).bind fun x=>(trV n c b).bind fun y=>some (.bin o x y)
 | n+1,c,.UnaryOp .Not a _=>(trV n c a).bind fun x=>some (.lnot x)
 | n+1,c,.UnaryOp .USub a _=>(trV n c a).bind fun x=>some (.neg x)
 | n+1,c,.BoolOp _ [a] _=>trV n c a
 | n+1,c,.BoolOp .And (a::b::r) pos=>(trV n c a).bind fun x=>(trV n c (.BoolOp .And (b::r) pos)).bind fun y=>some (.land x y)
 | n+1,c,.BoolOp .Or (a::b::r) pos=>(trV n c a).bind fun x=>(trV n c (.BoolOp .Or (b::r) pos)).bind fun y=>some (.lor x y)
 | n+1,c,.Compare a [op] [b] _=>(yey op b).bind fun o=>(trV n c a).bind fun x=>(trV n c b).bind fun y=>some (.cmp o x y)
 | n+1,c,.Tuple es _ _=>(ydd (trV n c) es).bind fun xs=>some (.tup xs)
 | n+1,c,.List es _=>(ydd (trV n c) es).bind fun xs=>some (.lst xs)
 | n+1,c,.Subscript a (.Slice lo hi none _) _=>(trV n c a).bind fun x=>(yf7 (trV n c) lo).bind fun l=>(yf7 (trV n c) hi).bind fun h=>some (.sli x l h)
 | n+1,c,.Subscript a b _=>if yct b then none else (trV n c a).bind fun x=>(trV n c b).bind fun y=>some (.idx x y)
 | n+1,c,.Call (.Name f _) [a,b] [] _ =>
  if f==("isinstance":Str) then
   (match b with
   | .Name ty _=>if glB c.sc f&&glB c.sc ty then (yfl ty).bind fun k=>(trV n c a).bind fun x=>some (.isi x k) else none
   | _=>none)
  else if glB c.sc f&&zac f&&!bnames.contains f then (ydd (trV n c) [a,b]).bind fun xs=>some (.call f xs) else none
 | n+1,c,.Call (.Name f _) [a] [] _=>if glB c.sc f&&zac f then (match yfs f with
  | some k=>(trV n c a).bind fun x=>some (.blt k x)
  | none=>if bnames.contains f then none else (trV n c a).bind fun x=>some (.call f [x])) else none
 | n+1,c,.Call (.Name f _) (e::es) [] _=>if glB c.sc f&&zac f&&!bnames.contains f then (ydd (trV n c) (e::es)).bind fun xs=>some (.call f xs) else none
 | n+1,c,.Call (.Attribute o m apos) [a] [] cpos=>if apos.endLine==cpos.line then (ygi m).bind fun k=>(trV n c o).bind fun x=>(trV n c a).bind fun y=>some (.mth k x y) else none
 | n+1,c,.ListComp elt [⟨tg,iter,ifs,0⟩] scope _=>(zbx tg).bind fun xs=>(trI n c iter).bind fun ki=>if zcp c.sc scope xs&&(!ki.1.pair||yau tg)&&(!yau tg||decide (2<=xs.length)) then
   (match ifs with
   | []=>(trV n ⟨scope,xs++c.nm⟩ elt).bind fun x=>some (.comp x xs.length ki.1 ki.2 none)
   | [t]=>(trV n ⟨scope,xs++c.nm⟩ elt).bind fun x=>(trT n ⟨scope,xs++c.nm⟩ t).bind fun y=>some (.comp x xs.length ki.1 ki.2 (some y))
   | _=>none) else none
 | _,_,_=>none
noncomputable def trI:Nat->Tc->Expr->Option (Ik × List E)
 | 0,_,_=>none
 | n+1,c,.Call (.Name f p) [a] [] pos=>if f==("range":Str)&&glB c.sc f then (trV n c a).bind fun x=>some (.range,[x])
   else if f==("enumerate":Str)&&glB c.sc f then (trV n c a).bind fun x=>some (.enum,[x])
   else (trV n c (.Call (.Name f p) [a] [] pos)).bind fun x=>some (.plain,[x])
 | n+1,c,.Call (.Name f p) [a,b] [] pos=>if f==("zip":Str)&&glB c.sc f then (trV n c a).bind fun x=>(trV n c b).bind fun y=>some (.zip,[x,y])
   else (trV n c (.Call (.Name f p) [a,b] [] pos)).bind fun x=>some (.plain,[x])
 | n+1,c,e=>(trV n c e).bind fun x=>some (.plain,[x])
end
noncomputable def yfq:Expr->Bool
 | .List ..=>true
 | .BinOp ..=>true
 | _=>false
noncomputable def zhw:Expr->Bool
 | .ListComp ..=>true
 | _=>false
noncomputable def zfs:Expr->Bool
 | .Dict [] [] _=>true
 | _=>false
noncomputable def sdC:Expr->Option (Str × Expr)
 | .Call (.Attribute (.Name y _) m apos) [k,.List [] _] [] cpos=>if m==("setdefault":Str)&&apos.endLine==cpos.line then some (y,k) else none
 | _=>none
noncomputable def valC:Expr->Option Str
 | .Call (.Attribute (.Name y _) m apos) [] [] cpos=>if m==("values":Str)&&apos.endLine==cpos.line then some y else none
 | _=>none
mutual
noncomputable def trS:Nat->Tc->Stmt->Option S
 | 0,_,_=>none
 | n+1,c,.Assign [.Subscript (.Name x _) k _] v _=>if ybu c.sc x&&zac x&&!yct k then (yam c.nm x).bind fun i=>(trV n c k).bind fun y=>(if zhw v then none else (trV n c v).bind fun z=>some (.dput i y z)) else none
 | n+1,c,.Assign [.Name x _] e _=>if zac x&&(c.sc.names.lookup x==some .local||c.sc.names.lookup x==some .cell) then (yam c.nm x).bind fun i=>if zfs e then some (.dnew i) else ((trV n c e).bind fun y=>if fresh y&&!yfq e then none else some (.asg i y)) else none
 | n+1,c,.Expr (.Call (.Attribute (.Name x _) m apos) [a] [] cpos) _=>if apos.endLine==cpos.line&&ybu c.sc x&&zac x then (yam c.nm x).bind fun i=>(trV n c a).bind fun y =>(if m==("append":Str) then some (.app i y) else if m==("extend":Str) then some (.ext i y) else none) else none
 | n+1,c,.Expr (.Call (.Attribute o m apos) [a] [] cpos) _=>if apos.endLine==cpos.line&&m==("append":Str) then (sdC o).bind fun p=>if ybu c.sc p.1&&zac p.1 then (yam c.nm p.1).bind fun i=>(trV n c p.2).bind fun x=>(trV n c a).bind fun y=>some (.dapp i x y) else none else none
 | n+1,c,.Return (some e) _=>(trV n c e).bind fun y=>some (.ret y)
 | n+1,c,.If t a b _=>(trT n c t).bind fun z=>(ydq n c a).bind fun x=>(ydq n c b).bind fun y=>some (.ite z x y)
 | n+1,c,.For tg iter body [] _=>(zbx tg).bind fun xs=>(ydd (yam c.nm) xs).bind fun is=>(match valC iter with
   | some y=>(yam c.nm y).bind fun i=>(ydq n c body).bind fun b=>if !yau tg&&(ybu c.sc y&&zac y)&&ycd xs&&(xs.all fun x=>zac x&&(c.sc.names.lookup x==some .local||c.sc.names.lookup x==some .cell)) then some (.vloop is i b) else none
   | none=>(trI n c iter).bind fun ki=>(ydq n c body).bind fun b=>if (!ki.1.pair||yau tg)&&(!yau tg||decide (2<=xs.length))&&ycd xs&&(xs.all fun x=>zac x&&(c.sc.names.lookup x==some .local||c.sc.names.lookup x==some .cell)) then some (.loop is ki.1 ki.2 b) else none)
 | _,_,_=>none
noncomputable def ydq:Nat->Tc->List Stmt->Option (List S)
 | 0,_,_=>none
 | _+1,_,[]=>some []
 | n+1,c,s::ss=>(trS n c s).bind fun x=>(ydq n c ss).bind fun xs=>some (x::xs)
end
noncomputable def zbf (sc:Scope):List Str:=(sc.names.filter fun p=>p.2==.local||p.2==.cell).map (·.1)
end
end Ev
namespace L2
open PySem
variable {scope:Scope} {env:Env}
def za5 (env:Env):List (Str × NameKind)->List (Str × Addr)->List (Str × Addr)
 | [],acc=>acc
 | (n,k)::r,acc=>if k==.free then za5 env r ((n,(env.cells.lookup n).getD 0)::acc) else za5 env r acc
theorem zen {env:Env} (f:Str × NameKind->List (Str × Addr)->Sem (ForInStep (List (Str × Addr))))
  (hf:∀ n k cs,f (n,k) cs=if k==.free then (do let a <- cellOf env n;pure (ForInStep.yield ((n,a)::cs))) else pure (.yield cs)) :
  ∀ (names:List (Str × NameKind)) (acc:List (Str × Addr)),(∀ y∈names,y.2=.free->∃ c,env.cells.lookup y.1=some c)->(forIn names acc f:Sem _)=pure (za5 env names acc)
 | [],acc,_=>rfl
 | (n,k)::r,acc,h=>by
  rw [List.forIn_cons,hf];unfold za5;by_cases hk:(k==.free)=true
  ·rw [if_pos hk,if_pos hk];obtain ⟨c,hc⟩:=h (n,k) List.mem_cons_self (by simpa using hk);have e:cellOf env n=pure c:=by unfold cellOf;rw [hc]
   rw [e,hc];simp only [pure_bind,Option.getD_some];exact zen f hf r _ fun y hy=>h y (zx8 _ hy)
  ·rw [if_neg hk,if_neg hk];simp only [pure_bind];exact zen f hf r _ fun y hy=>h y (zx8 _ hy)
theorem zda (h:∀ y∈scope.names,y.2=.free->∃ c,env.cells.lookup y.1=some c):closureFor scope env=pure (za5 env scope.names []):=by simp only [closureFor];rw [zen (env:=env) _ (fun n k cs=>by by_cases hk:(k==NameKind.free)=true<;>simp [hk]) scope.names [] h];simp only [pure_bind]
theorem zd1 {env:Env}:∀ (names:List (Str × NameKind)) (acc:List (Str × Addr)),(∀ x c,acc.lookup x=some c->env.cells.lookup x=some c)->(∀ y∈names,y.2=.free->∃ c,env.cells.lookup y.1=some c) ->
  ∀ x c,(za5 env names acc).lookup x=some c->env.cells.lookup x=some c
 | [],acc,h,_,x,c,e=>h x c e
 | (n,k)::r,acc,h,hn,x,c,e=>by
  unfold za5 at e;have hr:∀ y∈r,y.2=.free->∃ c,env.cells.lookup y.1=some c:=fun y hy=>hn y (zx8 _ hy);by_cases hk:(k==.free)=true
  ·rw [if_pos hk] at e;obtain ⟨c',hc'⟩:=hn (n,k) List.mem_cons_self (by simpa using hk);refine zd1 r _ (fun x c e=>?_) hr x c e;rw [zy0] at e;cases hb:x==n with
   | true =>rw [hb] at e;have e':some ((env.cells.lookup n).getD 0)=some c:=e;rw [hc'] at e';cases e';rw [beq_iff_eq.mp hb];exact hc'
   | false=>rw [hb] at e;exact h x c e
  ·rw [if_neg hk] at e;exact zd1 r acc h hr x c e
theorem zd2 {env:Env} {x:Str}:∀ (names:List (Str × NameKind)) (acc:List (Str × Addr)),((x,NameKind.free)∈names\/(acc.lookup x).isSome=true)->((za5 env names acc).lookup x).isSome=true
 | [],acc,h=>h.elim (fun z=>nomatch z) id
 | (n,k)::r,acc,h=>by
  unfold za5;have up:∀ a:Addr,(acc.lookup x).isSome=true->(List.lookup x ((n,a)::acc)).isSome=true:=fun a z=>by
   rw [zy0];cases x==n with
   | true=>rfl
   | false=>exact z
  by_cases hk:(k==.free)=true
  ·rw [if_pos hk];refine zd2 r _ ?_;rcases h with h | h
   ·rcases omc h with e | e
    ·cases e;right;rw [zy0,beq_self_eq_true];rfl
    ·exact .inl e
   ·exact .inr (up _ h)
  ·rw [if_neg hk];refine zd2 r _ ?_;rcases h with h | h
   ·rcases omc h with e | e
    ·cases e;exact absurd rfl hk
    ·exact .inl e
   ·exact .inr h
theorem yd3 {x:Str} {names:List (Str × NameKind)} (hn:∀ y∈names,y.2=.free->∃ c,env.cells.lookup y.1=some c) (h:(x,NameKind.free)∈names):(za5 env names []).lookup x=env.cells.lookup x:=by obtain ⟨c,hc⟩:=Option.isSome_iff_exists.mp (zd2 (env:=env) names [] (.inl h));rw [hc,zd1 names [] (fun _ _ e=>by cases e) hn x c hc]
theorem zca:∀ (names:List (Str × NameKind)) (n:Nat) (acc:List (Str × Addr)),cellsFrom n names acc=cellsFrom n names []++acc
 | [],n,acc=>rfl
 | (x,k)::r,n,acc=>by
  unfold cellsFrom;by_cases hk:(k==.cell)=true
  ·rw [if_pos hk,if_pos hk,zca r (n+1) ((x,n)::acc),zca r (n+1) [(x,n)],zzb];rfl
  ·rw [if_neg hk,if_neg hk];exact zca r n acc
theorem zdb {x:Str} {c:Addr}:∀ (names:List (Str × NameKind)) (n:Nat),(x,c)∈cellsFrom n names []->n<=c/\(x,NameKind.cell)∈names
 | [],n,h=>by cases h
 | (y,k)::r,n,h=>by
  unfold cellsFrom at h;by_cases hk:(k==.cell)=true
  ·rw [if_pos hk,zca] at h;have ek:k=.cell:=by simpa using hk
   rcases oma h with h | h
   ·obtain ⟨h1,h2⟩:=zdb r (n+1) h;exact ⟨by omega,zx8 _ h2⟩
   ·have e:(x,c)=(y,n):=by simpa using h
    cases e;exact ⟨zye _,by rw [ek];exact zyc⟩
  ·rw [if_neg hk] at h;obtain ⟨h1,h2⟩:=zdb r n h;exact ⟨h1,zx8 _ h2⟩
theorem zdc {x:Str}:∀ (names:List (Str × NameKind)) (n:Nat) (acc:List (Str × Addr)),((x,NameKind.cell)∈names\/(acc.lookup x).isSome=true)->((cellsFrom n names acc).lookup x).isSome=true
 | [],_,acc,h=>h.elim (fun z=>nomatch z) id
 | (y,k)::r,n,acc,h=>by
  unfold cellsFrom;by_cases hk:(k==.cell)=true
  ·rw [if_pos hk];refine zdc r _ _ ?_;rcases h with h | h
   ·rcases omc h with e | e
    ·cases e;right;rw [zy0,beq_self_eq_true];rfl
    ·exact .inl e
   ·right;rw [zy0];cases x==y with
    | true=>rfl
    | false=>exact h
  ·rw [if_neg hk];refine zdc r _ _ ?_;rcases h with h | h
   ·rcases omc h with e | e
    ·cases e;exact absurd rfl hk
    ·exact .inl e
   ·exact .inr h
theorem ydb {x:Str} {c:Addr} {names:List (Str × NameKind)} {n:Nat} {acc:List (Str × Addr)} (h:(cellsFrom n names acc).lookup x=some c) :
  (x,c)∈cellsFrom n names []\/((cellsFrom n names []).lookup x=none/\acc.lookup x=some c):=by
 rw [zca,List.lookup_append] at h;cases e:(cellsFrom n names []).lookup x with
 | none=>rw [e] at h;exact .inr ⟨rfl,by simpa using h⟩
 | some d =>
  rw [e] at h;have h':some d=some c:=by simpa using h
  cases h';exact .inl (mem_of_lookup e)
section
variable {M:Model} {A:Around} {E:Value->Shared->Prop} {s:Shared}
theorem zot {globals:Addr} {cl:List (Str × Addr)} {qual:Str} {Q:Env->Shared->Prop}
  (hQ:Q { scope:=scope,locals:=s.heap.objs.size,globals:=globals,cells:=cellsFrom (s.heap.objs.size+1) scope.names cl,qual:=qual,func:=none,code:=env.code,frame:=env.frame,builtins:=env.builtins }
   { s with heap:=pushCells (s.heap.push { cls:=.type "dict",data:=.dict #[] }) scope.names }) :
  wpAny M A (newFunctionEnv scope globals cl [] qual none .none (some env)) Q E s:=by
 simp only [newFunctionEnv,Option.isSome_some,if_true];refine zx1 (wpAny_alloc ?_);refine wpAny_bind (wpAny_layCells _ (fun name kind cells=>by cases hkc:kind==NameKind.cell<;>simp []) _ _ _ _ ?_);rw [show ({ s with heap:=s.heap.push { cls:=.type "dict",data:=.dict #[] } }:Shared).heap.objs.size=s.heap.objs.size+1 from zyl ..];simp only [List.forIn_nil,pure_bind];exact zx5 hQ
end
end L2
namespace Ev
open PySem Spec PyProof.Rows L2
section
open AutoSeq1 (wpAny_loadPart')
section
variable {X:Cx}
end
section
variable {prog:Program} {w:World} {A:Around} {E:Value->Shared->Prop} {s:Shared}
theorem zi5 {α β:Type} {f g:α->Option β}:∀ {l:List α},(∀ a∈l,f a=g a)->l.filterMap f=l.filterMap g
 | [],_=>rfl
 | a::l,h=>by rw [zyy,zyy,h a zyc,zi5 fun b hb=>h b (zx8 _ hb)]
theorem zmi {t sl:Addr} {zs:Array Value} {vl vu:Value} {lo hi:Option Int} {Q:Value->Shared->Prop} (ht:IsTup s.heap t zs) (hs:s.heap.IsSliceOf sl vl vu .none) (pl:IsPart vl lo) (pu:IsPart vu hi)
  (hw:HT.sIx zs.size 0 lo=0/\HT.sIx zs.size zs.size hi=zs.size) (h:Q (.ref t) s):wpAny (model prog w) A (getItem (.ref t) (.ref sl)) Q E s:=by
 obtain ⟨os,hos,hcs,hds⟩:=id hs;have hT:s.TypeIs (.ref sl) "slice":=⟨os,hos,hcs⟩;unfold getItem
 try with_reducible refine wpAny_holding ?_
 first | refine zx1 (zx5 ?_) | skip
 refine zx1 (wpAny_sequenceKey ht.typeIs (by decide) ?_);refine zx1 (zy1 (name:=Str.ofString "__getitem__") ht.typeIs PyProof.Rows.slot_tuple_getitem (zyw PyProof.Rows.slot_tuple_getitem ht.typeIs PyProof.Rows.entry_tuple_getitem ?_ (PyProof.Rows.args_tuple_getitem _ _)));show wpAny _ _ (Builtin.Tuple.tupleItemsOf (.ref t) >>= _) _ _ s;refine zx1 (tupleItemsOf_ ht ?_);refine zx1 (wpAny_typeOf hT ?_);rw [if_pos (by decide)];refine zx1 (HT.sliceApplied_gen hs pl pu ?_);have hyes:(((HT.sIx zs.size 0 lo:Nat):Int)==0&&(1:Int)==1&&(HT.sIx zs.size zs.size hi-HT.sIx zs.size 0 lo)==zs.size)=true:=by rw [hw.1,hw.2];simp
 show wpAny _ _ (if (((HT.sIx zs.size 0 lo:Nat):Int)==0&&(1:Int)==1&&(HT.sIx zs.size zs.size hi-HT.sIx zs.size 0 lo)==zs.size)=true then _ else _) _ _ s;rw [if_pos hyes];refine zx1 (show wpAny _ _ (Builtin.Tuple.tupleIsExact (.ref t)) _ _ s from ?_);unfold Builtin.Tuple.tupleIsExact;refine zx1 (wpAny_typeOf ht.typeIs (zx5 ?_));simp only [beq_self_eq_true,if_true];exact zx1 (wpAny_rule (zx5 ⟨_,rfl,zx5 h⟩))
end
section
variable {X:Cx} {c:Tc} {a:Expr} {pos p2:Pos}
theorem zn6:SlR X (fun x lo hi H Q=>∃ a xs,x=.ref a/\SqT X.K H a xs/\(HT.sIx xs.length 0 lo=0/\HT.sIx xs.length xs.length hi=xs.length)/\Q (.ref a) H):=by
 intro pj s σ H x v vl vu lo hi sl Q I rx hs pl pu h;obtain ⟨a,xs,rfl,hx,hw,q⟩:=h;cases rx;obtain ⟨qc,r,ht,hz⟩:=I.tuple hx;have hlen:qc.toArray.size=xs.length:=by rw [zyd];exact r.length.symm
 exact ⟨"tuple",_,PyProof.Rows.slot_tuple_getitem.lookup,ht.typeIs,zmi ht hs pl pu (by rw [hlen];exact hw) ⟨.ref a,H,I,rfl,q⟩⟩
end
end
section
variable {K:PySem.W.Frag} {H F F' H' H1:Hp} {xs:List V} {o:HO} {p:Addr} {e:Expr} {f g:Env->Option T} {h:T->T->Option T}
def Ls (K:PySem.W.Frag) (H:Hp) (a:Addr) (xs:List V):Prop :=
 Rd H a (.lst xs)\/∃ (qc:Array Value) (n:Nat),K.lookup a=some { cls:=.type "list",data:=.seq qc n }/\qc.size<=sizeLine/\Vals xs qc.toList
theorem Ls.of {a:Addr} (h:H a=some (.lst xs)):Ls K H a xs:=.inl (.inl h)
theorem Ls.sq {a:Addr} (h:Ls K H a xs):SqL K H a xs:=by
 rcases h with h | ⟨qc,n,h1,h2,h3⟩
 ·exact .inl h
 ·exact .inr ⟨_,qc,n,h1,rfl,rfl,rfl,h2,h3⟩
theorem Ls.ok {X:Cx} {pj:List (Addr × Obj)} {σ:L2.St} {H:Hp} {s:Shared} {a:Addr} {xs:List V} (h:Ls X.K H a xs) (I:Inv X pj σ H s) :
  xs.length<=sizeLine/\∃ (qc:List Value) (n:Nat),Vals xs qc/\s.heap.get? a=some { cls:=.type "list",data:=.seq qc.toArray n }:=by
 rcases h with h | ⟨qc,n,h1,h2,h3⟩
 ·obtain ⟨z,qc,n,r,e⟩:=h.ok I.hok;exact ⟨z,qc,n,r,e⟩
 ·exact ⟨by rw [h3.length,zyn];exact h2,qc.toList,n,h3,by rw [Array.toArray_toList];exact I.kIn a _ h1⟩
abbrev Tq (_K:PySem.W.Frag) (F:Hp) (a:Addr) (xs:List V):Prop:=F a=some (.tup xs)
mutual
def Rep (K:PySem.W.Frag) (F:Hp):T->V->Prop
 | .non,v=>v=.non
 | .bl b,v=>v=.bl b
 | .int i,v=>v=.int i
 | .str x,v=>v=.str x
 | .tup ts,v=>∃ a vs,v=.ref a/\Tq K F a vs/\Reps K F ts vs
 | .lst ts,v=>∃ a vs,v=.ref a/\Ls K F a vs/\Reps K F ts vs
 | .dk ks ts,v=>∃ a ws,v=.ref a/\F a=some (.dK ws)/\ws.map (·.1)=ks/\Reps K F ts (ws.map (·.2))
 | .dt ks ts,v=>∃ a ws,v=.ref a/\F a=some (.dT ws)/\ws.map (·.1)=ks/\Reps K F ts (ws.map (·.2))
def Reps (K:PySem.W.Frag) (F:Hp):List T->List V->Prop
 | [],vs=>vs=[]
 | t::ts,vs=>∃ v r,vs=v::r/\Rep K F t v/\Reps K F ts r
end
theorem zks {a:Addr} (e:Same F F') (h:Rd F a o):Rd F' a o:=by
 rcases h with h | ⟨b,h⟩
 ·exact .inl (e _ _ h)
 ·exact .inr ⟨b,e _ _ h⟩
theorem Ls.same {a:Addr} (e:Same F F') (h:Ls K F a xs):Ls K F' a xs:=by
 rcases h with h | h
 ·exact .inl (zks e h)
 ·exact .inr h
theorem zai {a:Addr} (e:Same F F') (h:Tq K F a xs):SqT K F' a xs:=SqT.of (e _ _ h)
mutual
theorem Rep.mono {K:PySem.W.Frag} {F F':Hp} (e:Same F F'):∀ {t:T} {v:V},Rep K F t v->Rep K F' t v
 | .non,_,h=>h
 | .bl _,_,h=>h
 | .int _,_,h=>h
 | .str _,_,h=>h
 | .tup _,_,h=>by obtain ⟨a,vs,h1,h2,h3⟩:=h;exact ⟨a,vs,h1,e _ _ h2,Reps.mono e h3⟩
 | .lst _,_,h=>by obtain ⟨a,vs,h1,h2,h3⟩:=h;exact ⟨a,vs,h1,Ls.same e h2,Reps.mono e h3⟩
 | .dk _ _,_,h=>by obtain ⟨a,ws,h1,h2,h3,h4⟩:=h;exact ⟨a,ws,h1,e _ _ h2,h3,Reps.mono e h4⟩
 | .dt _ _,_,h=>by obtain ⟨a,ws,h1,h2,h3,h4⟩:=h;exact ⟨a,ws,h1,e _ _ h2,h3,Reps.mono e h4⟩
theorem Reps.mono {K:PySem.W.Frag} {F F':Hp} (e:Same F F'):∀ {ts:List T} {vs:List V},Reps K F ts vs->Reps K F' ts vs
 | [],_,h=>h
 | _::_,_,h=>by obtain ⟨v,r,h1,h2,h3⟩:=h;exact ⟨v,r,h1,Rep.mono e h2,Reps.mono e h3⟩
end
theorem Reps.length {K:PySem.W.Frag} {F:Hp}:∀ {ts:List T} {vs:List V},Reps K F ts vs->vs.length=ts.length
 | [],_,h=>by cases h;rfl
 | _::_,_,h=>by obtain ⟨v,r,rfl,_,h3⟩:=h;simp [Reps.length h3]
theorem Reps.cons {t:T} {v:V} {ts:List T} {vs:List V} (h:Rep K F t v) (r:Reps K F ts vs):Reps K F (t::ts) (v::vs):=⟨v,vs,rfl,h,r⟩
theorem Reps.app {K:PySem.W.Frag} {F:Hp}:∀ {ts us:List T} {vs ws:List V},Reps K F ts vs->Reps K F us ws->Reps K F (ts++us) (vs++ws)
 | [],_,_,_,h,r=>by cases h;exact r
 | _::_,_,_,_,h,r=>by obtain ⟨v,q,rfl,h2,h3⟩:=h;exact ⟨v,_,rfl,h2,Reps.app h3 r⟩
theorem Reps.drop {K:PySem.W.Frag} {F:Hp}:∀ (n:Nat) {ts:List T} {vs:List V},Reps K F ts vs->Reps K F (ts.drop n) (vs.drop n)
 | 0,_,_,h=>h
 | _+1,[],_,h=>by cases h;exact rfl
 | n+1,_::_,_,h=>by obtain ⟨v,q,rfl,h2,h3⟩:=h;exact Reps.drop n h3
theorem Reps.take {K:PySem.W.Frag} {F:Hp}:∀ (n:Nat) {ts:List T} {vs:List V},Reps K F ts vs->Reps K F (ts.take n) (vs.take n)
 | 0,_,_,_=>rfl
 | _+1,[],_,h=>by cases h;exact rfl
 | n+1,_::_,_,h=>by obtain ⟨v,q,rfl,h2,h3⟩:=h;exact ⟨v,_,rfl,h2,Reps.take n h3⟩
theorem Reps.get {K:PySem.W.Frag} {F:Hp}:∀ {ts:List T} {vs:List V} {i:Nat} {t:T},Reps K F ts vs->ts[i]?=some t->∃ v,vs[i]?=some v/\Rep K F t v
 | [],_,_,_,_,e=>by simp at e
 | _::_,_,0,_,h,e=>by obtain ⟨v,q,rfl,h2,h3⟩:=h;simp at e;subst e;exact ⟨v,rfl,h2⟩
 | _::_,_,i+1,t,h,e=>by obtain ⟨v,q,rfl,h2,h3⟩:=h;obtain ⟨w,h4,h5⟩:=Reps.get (i:=i) (t:=t) h3 (by simpa using e);exact ⟨w,by simpa using h4,h5⟩
def ydl:HO->Bool
 | .tbl _=>true
 | _=>false
def lamQ:Str:="_law_spoilt.<locals>.<lambda>"
def CdAt (H:Hp) (cv:Value):Prop:=∃ a oc vs t,cv=.ref a/\H a=some (.frz oc (.own 0))/\oc.data=.fields vs/\vs[1]?=some (.str lamQ t)
def TbAt (H:Hp) (b:Addr):Prop:=∃ ps:Array Value,H b=some (.tbl ps)/\TriplesOk ps.toList/\∀ pos cv,codeAmong pos ps.toList=some cv->CdAt H cv
theorem CdAt.up {cv:Value} (h:CdAt H cv) (k:∀ a o u,H a=some (.frz o u)->H' a=some (.frz o u)):CdAt H' cv:=by obtain ⟨a,oc,vs,t,h1,h2,h3,h4⟩:=h;exact ⟨a,oc,vs,t,h1,k _ _ _ h2,h3,h4⟩
theorem TbAt.up {H H':Hp} {b:Addr} (h:TbAt H b) (k:∀ a o u,H a=some (.frz o u)->H' a=some (.frz o u)) (kt:∀ a ps,H a=some (.tbl ps)->H' a=some (.tbl ps)):TbAt H' b:=by obtain ⟨ps,h1,h2,h3⟩:=h;exact ⟨ps,kt _ _ h1,h2,fun pos cv e=>(h3 pos cv e).up k⟩
structure SameT (H H':Hp):Prop where
 st:∀ b u,H b=some u->ydl u=false->H' b=some u
 fr:∀ b,H' b=none->H b=none
 tb:∀ b,TbAt H b->TbAt H' b
 tt:∀ b ps,H b=some (.tbl ps)->∃ qs,H' b=some (.tbl qs)
theorem yei (e:Same H H'):SameT H H':=⟨fun b u h _=>e b u h,fun _ h=>e.free h,fun _ h=>h.up (fun a o u q=>e a _ q) fun a ps q=>e a _ q,fun b ps h=>⟨ps,e b _ h⟩⟩
theorem SameT.refl (H:Hp):SameT H H:=yei (Same.refl H)
theorem SameT.free (e:SameT H H') {l:Addr} (h:H' l=none):H l=none:=e.fr l h
theorem SameT.trans {H2:Hp} (a:SameT H H1) (b:SameT H1 H2):SameT H H2:=⟨fun c u h q=>b.st c u (a.st c u h q) q,fun c h=>a.fr c (b.fr c h),fun c h=>b.tb c (a.tb c h),fun c ps h=>let ⟨qs,g⟩:=a.tt c ps h;b.tt c qs g⟩
theorem SameT.upd {H H1:Hp} {a:Addr} {o o1:HO} (e:SameT H H1) (h0:H a=none) (h1:H1 a=some o1) (k1:ydl o1=false) (k2:∀ p u,o1≠.frz p u):SameT H (upd H1 a o):=by
 refine ⟨fun b u h q=>?_,fun b h=>?_,fun b h=>?_,fun b ps h=>?_⟩
 ·rw [zad (zae h h0)];exact e.st b u h q
 ·by_cases hb:b=a
  ·subst hb;exact h0
  ·rw [zad hb] at h;exact e.fr b h
 ·refine (e.tb b h).up (fun c p u q=>?_) fun c ps q=>?_
  ·rw [zad (zhl q h1 fun z=>k2 _ _ z.symm)];exact q
  ·rw [zad (zhl q h1 (by intro z;subst z;cases k1))];exact q
 ·obtain ⟨qs,g⟩:=e.tt b ps h;exact ⟨qs,by rw [zad (zae h h0)];exact g⟩
def yfj:Option Obj->Option Addr
 | some ⟨_,_,.func fd,_⟩=>(match fd.code with | .ref c=>some c | _=>none)
 | _=>none
def yf6 (i:Nat):Option Obj->Option Addr
 | some ⟨_,_,.fields vs,_⟩=>(match vs.getD i .none with | .ref c=>some c | _=>none)
 | _=>none
def yf9:Option (Option Value)->Option Addr
 | some (some (.ref f))=>some f
 | _=>none
def yfg (K:PySem.W.Frag):Option Addr:=(yf9 (PySem.W.nsIn K mainGlobals "_law_spoilt")).bind fun f=>(yfj (K.lookup f)).bind fun c=>yf6 11 (K.lookup c)
structure Step (F H F' H':Hp):Prop where
 hh:SameT H H'
 ff:Same F F'
 fh:Same F' H'
 nw:∀ a,F' a≠none->F a≠none\/H a=none\/∃ xs,H a=some (.tup xs)
theorem Step.refl {F H:Hp} (h:Same F H):Step F H F H:=⟨SameT.refl H,Same.refl F,h,fun _ z=>.inl z⟩
def Tbk (K:PySem.W.Frag) (F H:Hp):Prop:=∀ p,yfg K=some p->F p=none/\TbAt H p
theorem Tbk.up (h:Tbk K F H) (S:Step F H F' H'):Tbk K F' H':=fun p q=>by
 obtain ⟨h1,h2⟩:=h p q;refine ⟨?_,S.hh.tb p h2⟩;cases e:F' p with
 | none=>rfl
 | some v =>
  rcases S.nw p (by rw [e];simp) with z | z | ⟨xs,z⟩
  ·exact absurd h1 z
  ·obtain ⟨ps,h3,_⟩:=h2;rw [h3] at z;cases z
  ·obtain ⟨ps,h3,_⟩:=h2;rw [h3] at z;cases z
theorem Step.trans {F H F1 H1 F2 H2:Hp} (a:Step F H F1 H1) (b:Step F1 H1 F2 H2):Step F H F2 H2 :=
 ⟨a.hh.trans b.hh,a.ff.trans b.ff,b.fh,fun x z=>by
  rcases b.nw x z with q | q | ⟨xs,q⟩
  ·exact a.nw x q
  ·exact .inr (.inl (a.hh.free q))
  ·cases h:H x with
   | none=>exact .inr (.inl rfl)
   | some o =>
    by_cases ht:ydl o=true
    ·cases o with
     | tbl ps=>obtain ⟨qs,g⟩:=a.hh.tt x ps h;rw [q] at g;cases g
     | _=>cases ht
    ·have h':=a.hh.st x o h (by simpa using ht);rw [q] at h';cases h';exact .inr (.inr ⟨xs,rfl⟩)⟩
theorem zn7 (h:Same F H):Same (upd F p o) (upd H p o):=fun b u e=>by
 by_cases hb:b=p
 ·subst hb;rw [zag] at e ⊢;exact e
 ·rw [zad hb] at e ⊢;exact h b u e
theorem zbh (h:H p=none):Same H (upd H p o):=fun b u e=>by rw [zad (zae e h)];exact e
theorem Step.new {F1:Hp} (a:Step F H F1 H1) (h:H1 p=none):Step F H (upd F1 p o) (upd H1 p o) :=
 ⟨a.hh.trans (yei (zbh h)),a.ff.trans (zbh (a.fh.free h)),zn7 a.fh,fun x z=>by
  by_cases hx:x=p
  ·subst hx;exact .inr (.inl (a.hh.free h))
  ·rw [zad hx] at z;exact a.nw x z⟩
theorem Step.newH {F1:Hp} (a:Step F H F1 H1) (h:H1 p=none):Step F H F1 (upd H1 p o) :=
 ⟨a.hh.trans (yei (zbh h)),a.ff,a.fh.trans (zbh h),a.nw⟩
structure EnvE (X:Cx) (c:Tc) (r:Env) (F:Hp) (σ:L2.St) (H:Hp):Prop where
 fh:Same F H
 tb:Tbk X.K F H
 get:∀ (x:Str) (i:Nat) (t:T),zac x=true->yam c.nm x=some i->ybu c.sc x=true->r[i]?=some (some t)->∃ (j:Nat) (v:V),X.N[j]?=some x/\σ[j]?=some (some v)/\Rep X.K F t v
theorem EnvE.step {X:Cx} {c:Tc} {r:Env} {σ:L2.St} (e:EnvE X c r F σ H) (s:Step F H F' H'):EnvE X c r F' σ H' :=
 ⟨s.fh,e.tb.up s,fun x i t pn a b d=>let ⟨j,v,h1,h2,h3⟩:=e.get x i t pn a b d;⟨j,v,h1,h2,h3.mono s.ff⟩⟩
def spT (K:PySem.W.Frag) (g:List T->Option T):Sp:=fun vs H Q _=>∃ F ts t,Same F H/\Tbk K F H/\Reps K F ts vs/\g ts=some t/\∀ v F' H',Step F H F' H'->Rep K F' t v->Q v H'
def yc7 (f:Str):Bool:=!(f==(".put":Str))&&!(f==(".lam":Str))
structure Gd (X:Cx) (c:Tc) (G:Glo) (k:Nat):Prop where
 room:Room k X.A
 calm:X.calm=true
 nob:∀ x∈bnames,X.mg x=none
 call:∀ f ts t,yc7 f=true->G.call f ts=some t->∃ (a:Addr) (fd:FuncData) (ps:List Str),FnOk X.prog X.w X.K X.mg X.base CX0 k a fd ps (spT X.K (G.call f))/\X.mg f=some (.ref a)/\PySem.W.keepIn X.K (.ref a)=true/\Binds X.K fd ps []
 con:∀ x t,G.con x=some t->∃ u v,X.mg x=some u/\RelV v u/\∀ F,Rep X.K F t v
 vis:∀ x,ybu c.sc x=true->Vis X.env.scope x
 gl:∀ x,glB c.sc x=true->Gl X x
 cap:∀ x,(c.sc.names.lookup x=some .cell\/c.sc.names.lookup x=some .free)->(X.env.kindOf x=some .cell\/X.env.kindOf x=some .free)
 nd:X.N.Nodup
def spE (X:Cx) (c:Tc) (f:Env->Option T):TE:=fun σ H Q=>∃ r F t,EnvE X c r F σ H/\f r=some t/\∀ v F' H',Step F H F' H'->Rep X.K F' t v->Q v H'
def spB (X:Cx) (c:Tc) (f:Env->Option T):TT:=fun σ H Q=>∃ r F b,EnvE X c r F σ H/\f r=some (.bl b)/\∀ F' H',Step F H F' H'->Q b H'
def spL (X:Cx) (c:Tc) (f:Env->Option (List T)):TA:=fun σ H Q=>∃ r F ts,EnvE X c r F σ H/\f r=some ts/\∀ vs F' H',Step F H F' H'->Reps X.K F' ts vs->Q vs H'
abbrev Oke (X:Cx) (c:Tc) (e:Expr) (f:Env->Option T):Prop:=PE X e (spE X c f)
abbrev Okt (X:Cx) (c:Tc) (e:Expr) (f:Env->Option T):Prop:=PT X e (spB X c f)
theorem za4 {X:Cx} {t t':TE} (h:PE X e t) (m:∀ σ H Q,t' σ H Q->t σ H Q):PE X e t':=fun pj s σ H Q I q=>h pj s σ H Q I (m σ H Q q)
theorem zhc {X:Cx} {t t':TT} (h:PT X e t) (m:∀ σ H Q,t' σ H Q->t σ H Q):PT X e t':=fun pj s σ H Q I q=>h pj s σ H Q I (m σ H Q q)
theorem zk2 {X:Cx} {t t':TT} (h:PW X e t) (m:∀ σ H Q,t' σ H Q->t σ H Q):PW X e t':=fun wh pj s σ H Q I q=>h wh pj s σ H Q I (m σ H Q q)
theorem zdf {X:Cx} {e:Stmt} {t t':TS} (h:PS X e t) (m:∀ D σ H,t' D σ H->t D σ H):PS X e t':=fun pj s σ H D I q=>h pj s σ H D I (m D σ H q)
theorem zig {X:Cx} {e:List Stmt} {t t':TS} (h:PSs X e t) (m:∀ D σ H,t' D σ H->t D σ H):PSs X e t':=fun pj s σ H D I q=>h pj s σ H D I (m D σ H q)
def OpS (X:Cx) (f:Value->Value->Sem Value) (g:T->T->Option T):Prop :=
 OpR X f (fun x y H Q=>∃ F t1 t2 t,Same F H/\Rep X.K F t1 x/\Rep X.K F t2 y/\g t1 t2=some t/\∀ v F' H',Step F H F' H'->Rep X.K F' t v->Q v H')
section
variable {X:Cx} {c:Tc} {a b:Expr} {pos:Pos}
theorem zxg {op:Operator} (ho:OpS X (binaryOp op) h) (ha:Oke X c a f) (hb:Oke X c b g):Oke X c (.BinOp a op b pos) (fun r=>(f r).bind fun x=>(g r).bind fun y=>h x y):=by refine za4 (zuj ho ha hb) fun σ H Q q=>?_;obtain ⟨r,F,t,e,ht,q⟩:=q;obtain ⟨t1,e1,ht⟩:=obs ht;obtain ⟨t2,e2,ht⟩:=obs ht;refine ⟨r,F,t1,e,e1,fun v1 F1 H1 s1 r1=>⟨r,F1,t2,e.step s1,e2,fun v2 F2 H2 s2 r2=>?_⟩⟩;exact ⟨F2,t1,t2,t,s2.fh,r1.mono s2.ff,r2,ht,fun v F' H' s3 r3=>q v F' H' (s1.trans (s2.trans s3)) r3⟩
theorem zu8 {op:CmpOp} (ho:OpS X (compareOp op) h) (ha:Oke X c a f) (hb:Oke X c b g) (hm:behindInMarks op b=false):Oke X c (.Compare a [op] [b] pos) (fun r=>(f r).bind fun x=>(g r).bind fun y=>h x y):=by refine za4 (zr1 ho ha hb hm) fun σ H Q q=>?_;obtain ⟨r,F,t,e,ht,q⟩:=q;obtain ⟨t1,e1,ht⟩:=obs ht;obtain ⟨t2,e2,ht⟩:=obs ht;refine ⟨r,F,t1,e,e1,fun v1 F1 H1 s1 r1=>⟨r,F1,t2,e.step s1,e2,fun v2 F2 H2 s2 r2=>?_⟩⟩;exact ⟨F2,t1,t2,t,s2.fh,r1.mono s2.ff,r2,ht,fun v F' H' s3 r3=>q v F' H' (s1.trans (s2.trans s3)) r3⟩
theorem zsf {op:CmpOp} (ho:OpS X (compareOp op) h) (ha:Oke X c a f) (hb:Oke X c b g) (hm:behindInMarks op b=false):Okt X c (.Compare a [op] [b] pos) (fun r=>(f r).bind fun x=>(g r).bind fun y=>h x y):=by refine zhc (zrr ho ha hb hm) fun σ H Q q=>?_;obtain ⟨r,F,k,e,ht,q⟩:=q;obtain ⟨t1,e1,ht⟩:=obs ht;obtain ⟨t2,e2,ht⟩:=obs ht;refine ⟨r,F,t1,e,e1,fun v1 F1 H1 s1 r1=>⟨r,F1,t2,e.step s1,e2,fun v2 F2 H2 s2 r2=>?_⟩⟩;exact ⟨F2,t1,t2,_,s2.fh,r1.mono s2.ff,r2,ht,fun v F' H' s3 r3=>⟨k,r3,q F' H' (s1.trans (s2.trans s3))⟩⟩
end
theorem zeq:SZ=sizeLine:=sizeLine_eq.symm
section
variable {X:Cx}
theorem ydi:OpR X (binaryOp .Add) (fun x y H Q=>∃ l b xs zs,x=.ref l/\y=.ref b/\Ls X.K H l xs/\Ls X.K H b zs/\xs.length+zs.length<=sizeLine/\∀ p,H p=none->Q (.ref p) (upd H p (.lst (xs++zs)))):=by
 intro pj s σ H x y v u Q I rx ry h;obtain ⟨l,b,xs,zs,rfl,rfl,hH,hB,hz,q⟩:=h;cases rx;cases ry;obtain ⟨z,qc,n,r,e⟩:=hH.ok I;obtain ⟨z2,its2,n2,r2,e2⟩:=hB.ok I;have hl:=r.length;have hl2:=r2.length;refine PySem.P.add_list e e2 ?_ (by rw [zyd,zyd];omega);have ea:qc.toArray++its2.toArray=(qc++its2).toArray:=by simp
 rw [ea];exact ⟨.ref _,_,I.lnew (t':=s.toks) (r.append r2) (by rw [zyj];omega),rfl,q _ I.fresh⟩
theorem ydv:OpR X (binaryOp .Add) (fun x y H Q=>∃ a b xs ys,x=.ref a/\y=.ref b/\SqT X.K H a xs/\SqT X.K H b ys/\xs.length+ys.length<=sizeLine /\
  (xs=[]->Q (.ref b) H)/\(xs≠[]->ys=[]->Q (.ref a) H)/\(xs≠[]->ys≠[]->∀ p,H p=none->Q (.ref p) (upd H p (.tup (xs++ys))))):=by
 intro pj s σ H x y v u Q I rx ry h;obtain ⟨a,b,xs,ys,rfl,rfl,ha,hb,hz,q0,q1,q2⟩:=h;cases rx;cases ry;obtain ⟨qc,r,ht,_⟩:=I.tuple ha;obtain ⟨its2,r2,ht2,_⟩:=I.tuple hb;have hl:=r.length;have hl2:=r2.length;by_cases hx:xs=[]
 ·subst hx;have hi:qc=[]:=by
   cases qc with
   | nil=>rfl
   | cons _ _=>simp at hl
  subst hi;obtain ⟨⟨cls,dd,data,sl⟩,ho,hc,n,hd⟩:=id ht;obtain ⟨⟨cls2,dd2,data2,sl2⟩,ho2,hc2,n2,hd2⟩:=id ht2;simp only at hc hd hc2 hd2;subst hc hd hc2 hd2;exact concat_meets ⟨_,ho,rfl⟩ ⟨_,ho2,rfl⟩ noFill_tuple_add seq_tuple_add PySem.F.slot_tuple_add PySem.F.entry_tuple_add (PySem.F.args_tuple_add_2 _ _)
   (tuple_addW0 a b _ _ n n2 dd dd2 sl sl2 (by simp)) ⟨ho,ho2,⟨.ref b,H,I.tok _,rfl,q0 rfl⟩⟩
 ·refine HT.cat_tup ht ht2 (by intro z;subst z;exact hx (by cases xs with | nil=>rfl | cons _ _=>simp at hl)) (fun hw=>?_) (fun hw=>?_) (by omega)
  ·have hy:ys=[]:=by subst hw;cases ys with | nil=>rfl | cons _ _=>simp at hl2
   exact ⟨.ref a,H,I,rfl,q1 hx hy⟩
  ·have hy:ys≠[]:=by intro z;subst z;exact hw (by cases its2 with | nil=>rfl | cons _ _=>simp at hl2)
   exact ⟨.ref _,_,I.laid (t':=s.toks) (fun b o e=>zxz _ e) (zye _) (show ObjOk X.prog X.w _ _ _ (.tup (xs++ys)) from ⟨by rw [zyj];omega,qc++its2,r.append r2,IsTup.new _ _⟩),rfl,q2 hx hy _ I.fresh⟩
theorem zr9:OpS X (binaryOp .Add) ya5:=by
 intro pj s σ H x y v u Q I rx ry h;obtain ⟨F,t1,t2,t,fh,r1,r2,ht,q⟩:=h;cases t1 with
 | int i =>
  cases t2 with
  | int j =>cases r1;cases r2;cases ht;exact zuw pj s σ H _ _ v u Q I rx ry ⟨_,_,rfl,rfl,q _ F H (Step.refl fh) rfl⟩
  | _=>simp [ya5] at ht
 | lst i =>
  cases t2 with
  | lst j =>
   obtain ⟨l,xs,rfl,h1,h2⟩:=r1;obtain ⟨l',ys,rfl,h3,h4⟩:=r2;simp only [ya5] at ht;split at ht
   ·rename_i hz;cases ht;refine ydi pj s σ H _ _ v u Q I rx ry ⟨_,_,_,_,rfl,rfl,Ls.same fh h1,Ls.same fh h3,by rw [h2.length,h4.length,<- zeq];exact hz,fun p hp=>?_⟩;have st:=(Step.refl fh).new (o:=.lst (xs++ys)) hp;exact q _ _ _ st ⟨p,_,rfl,Ls.of zag,(h2.app h4).mono st.ff⟩
   ·cases ht
  | _=>simp [ya5] at ht
 | tup i =>
  cases t2 with
  | tup j =>
   obtain ⟨l,xs,rfl,h1,h2⟩:=r1;obtain ⟨l',ys,rfl,h3,h4⟩:=r2;simp only [ya5] at ht;split at ht
   ·rename_i hz;cases ht;refine ydv pj s σ H _ _ v u Q I rx ry ⟨_,_,_,_,rfl,rfl,zai fh h1,zai fh h3,by rw [h2.length,h4.length,<- zeq];exact hz,fun z=>?_,fun _ z=>?_,fun _ _ p hp=>?_⟩
    ·subst z;refine q _ F H (Step.refl fh) ⟨l',ys,rfl,h3,?_⟩;have e:=h2.length;cases i with
     | nil=>exact h4
     | cons _ _=>simp at e
    ·subst z;refine q _ F H (Step.refl fh) ⟨l,xs,rfl,h1,?_⟩;have e:=h4.length;cases j with
     | nil=>rw [zyh];exact h2
     | cons _ _=>simp at e
    ·have st:=(Step.refl fh).new (o:=.tup (xs++ys)) hp;exact q _ _ _ st ⟨p,_,rfl,zag,(h2.app h4).mono st.ff⟩
   ·cases ht
  | _=>simp [ya5] at ht
 | _=>cases t2<;>simp [ya5] at ht
theorem zr5:OpS X (binaryOp .Sub) ybo:=by intro pj s σ H x y v u Q I rx ry h;obtain ⟨F,t1,t2,t,fh,r1,r2,ht,q⟩:=h;cases t1<;>cases t2<;>simp only [ybo] at ht<;>cases ht;cases r1;cases r2;exact zuu pj s σ H _ _ v u Q I rx ry ⟨_,_,rfl,rfl,q _ F H (Step.refl fh) rfl⟩
theorem Reps.rep {K:PySem.W.Frag} {F:Hp} {ts:List T} {vs:List V} (h:Reps K F ts vs):∀ k:Nat,Reps K F (List.replicate k ts).flatten (List.replicate k vs).flatten
 | 0=>rfl
 | k+1=>by rw [List.replicate_succ,List.replicate_succ,List.flatten_cons,List.flatten_cons];exact h.app (Reps.rep h k)
theorem zr6:OpS X (binaryOp .Mult) ybk:=by
 intro pj s σ H x y v u Q I rx ry h;obtain ⟨F,t1,t2,t,fh,r1,r2,ht,q⟩:=h;cases t1 with
 | int i =>
  cases t2 with
  | int j =>
   cases r1;cases r2;simp only [ybk] at ht;split at ht
   ·rename_i hz;cases ht;refine yfd pj s σ H _ _ v u Q I rx ry ⟨_,_,rfl,rfl,?_,q _ F H (Step.refl fh) rfl⟩;rw [Bool.or_eq_true] at hz;have e64:(2:Int) ^ 64=18446744073709551616:=by decide
    rcases hz with hz | hz<;>simp only [yc1,Bool.and_eq_true,decide_eq_true_eq] at hz
    ·exact .inl (by rw [e64];exact hz)
    ·exact .inr (by rw [e64];exact hz)
   ·cases ht
  | _=>simp [ybk] at ht
 | _=>cases t2<;>simp [ybk] at ht
theorem zoo:OpS X (binaryOp .FloorDiv) yap:=by
 intro pj s σ H x y v u Q I rx ry h;obtain ⟨F,t1,t2,t,fh,r1,r2,ht,q⟩:=h;cases t1<;>cases t2<;>simp only [yap] at ht<;>try cases ht
 split at ht
 ·rename_i hz;cases ht;cases r1;cases r2;exact yew pj s σ H _ _ v u Q I rx ry ⟨_,_,rfl,rfl,hz,q _ F H (Step.refl fh) rfl⟩
 ·cases ht
theorem zr7:OpS X (binaryOp .Mod) ya6:=by
 intro pj s σ H x y v u Q I rx ry h;obtain ⟨F,t1,t2,t,fh,r1,r2,ht,q⟩:=h;cases t1<;>cases t2<;>simp only [ya6] at ht<;>try cases ht
 split at ht
 ·rename_i hz;cases ht;cases r1;cases r2;exact ye9 pj s σ H _ _ v u Q I rx ry ⟨_,_,rfl,rfl,hz,q _ F H (Step.refl fh) rfl⟩
 ·cases ht
end
end
end Ev
section
section
namespace L2
open PySem Spec PyProof.Rows
section
variable {xs:List (List Key × Addr × Value)} {b:Addr} {H':Hp} {Q:Value->Shared->Prop}
section
variable {κ:Type} [DecidableEq κ]
def ybp (qb:List (κ × V)) (k:κ):Option V:=(qb.find? fun kv=>decide (kv.1=k)).map (·.2)
def yb6 (qb:List (κ × V)) (k:κ) (v:V):List (κ × V) :=
 if (qb.any fun kv=>decide (kv.1=k))=true then qb.map (fun kv=>if kv.1=k then (kv.1,v) else kv) else qb++[(k,v)]
def yfi (qb:List (κ × V)) (k:κ):List (κ × V):=qb.filter fun kv=>decide (kv.1≠k)
theorem zbl {p:κ × V} {r:List (κ × V)} {k:κ} (e:p.1=k):ybp (p::r) k=some p.2:=by simp [ybp,List.find?_cons,e]
theorem zbm {p:κ × V} {r:List (κ × V)} {k:κ} (e:¬ p.1=k):ybp (p::r) k=ybp r k:=by simp [ybp,List.find?_cons,e]
theorem zcb (k:κ):∀ qb:List (κ × V),(qb.any fun kv=>decide (kv.1=k))=(ybp qb k).isSome
 | []=>rfl
 | p::r=>by
  rw [List.any_cons];by_cases e:p.1=k
  ·simp only [zbl e,decide_eq_true e,Bool.true_or,Option.isSome_some]
  ·rw [zbm e,zys e,Bool.false_or];exact zcb k r
theorem zf5 (k j:κ) (y:V):∀ qb:List (κ × V),ybp qb k=none->ybp (qb++[(k,y)]) j=if j=k then some y else ybp qb j
 | [],_=>by
  by_cases e:k=j
  ·rw [if_pos e.symm];exact zbl (p:=(k,y)) e
  ·rw [if_neg (fun z=>e z.symm)];exact zbm (p:=(k,y)) e
 | p::r,hn=>by
  rw [List.cons_append];have hk:¬ p.1=k:=fun z=>by rw [zbl z] at hn;cases hn
  rw [zbm hk] at hn;have ih:=zf5 k j y r hn;by_cases e:p.1=j
  ·rw [zbl e,zbl e,if_neg (fun z=>hk (e.trans z))]
  ·rw [zbm e,zbm e,ih]
theorem zce (qb:List (κ × V)) (k:κ) (v:V):(yb6 qb k v).length<=qb.length+1:=by
 unfold yb6;split
 ·rw [zya];omega
 ·rw [zyj,zyq,List.length_nil];omega
theorem RelO.isSome_eq {o:Option V} {u:Option Value} (r:RelO o u):o.isSome=u.isSome:=by
 cases o with
 | none=>cases u with
  | none=>rfl
  | some _=>exact (show False from r).elim
 | some _=>cases u with
  | none=>exact (show False from r).elim
  | some _=>rfl
theorem KV.val {qb:List (κ × V)} {vs:List (κ × Value)} (r:KV qb vs) (k:κ):RelO (ybp qb k) (valueAt vs k):=by
 unfold KV at r
 induction r with
 | nil=>exact True.intro
 | @cons p q ps qs h t ih =>
  obtain ⟨h1,h2⟩:=h;by_cases e:p.1=k
  ·have e':q.1=k:=h1.symm.trans e;have b:valueAt (q::qs) k=some q.2:=by simp [valueAt,List.find?_cons,e']
   rw [zbl e,b];exact h2
  ·have e':¬ q.1=k:=fun z=>e (h1.trans z);have b:valueAt (q::qs) k=valueAt qs k:=by simp [valueAt,List.find?_cons,e']
   rw [zbm e,b];exact ih
theorem KV.any {qb:List (κ × V)} {vs:List (κ × Value)} (r:KV qb vs) (k:κ):(qb.any fun kv=>decide (kv.1=k))=vs.any fun kv=>decide (kv.1=k):=by
 unfold KV at r
 induction r with
 | nil=>rfl
 | cons h t ih=>rw [List.any_cons,List.any_cons,ih,h.1]
theorem KV.repl {qb:List (κ × V)} {vs:List (κ × Value)} (r:KV qb vs) (k:κ) {y:V} {u:Value} (ry:RelV y u) :
  KV (qb.map fun kv=>if kv.1=k then (kv.1,y) else kv) (vs.map fun kv=>if kv.1=k then (kv.1,u) else kv):=by
 unfold KV at r ⊢
 induction r with
 | nil=>exact .nil
 | @cons p q ps qs h t ih =>
  rw [zx4,zx4];refine .cons ?_ ih;obtain ⟨h1,h2⟩:=h;by_cases e:p.1=k
  ·rw [if_pos e,if_pos (h1.symm.trans e)];exact ⟨h1,ry⟩
  ·rw [if_neg e,if_neg (fun z=>e (h1.trans z))];exact ⟨h1,h2⟩
theorem KV.put {qb:List (κ × V)} {vs:List (κ × Value)} (r:KV qb vs) (k:κ) {y:V} {u:Value} (ry:RelV y u):KV (yb6 qb k y) (stored vs k u):=by
 unfold yb6 stored;rw [r.any k];by_cases e:(vs.any fun kv=>decide (kv.1=k))=true
 ·rw [if_pos e,if_pos e];exact r.repl k ry
 ·rw [if_neg e,if_neg e];exact Paired.snoc r ⟨rfl,ry⟩
theorem KV.length {qb:List (κ × V)} {vs:List (κ × Value)} (r:KV qb vs):qb.length=vs.length:=Paired.length r
end
theorem zl5 {P:Program} {w:World} {k:Key} {u:Value} (r:RelV (kV k) u):(zat P w).is k u=true:=by
 rcases k with i | _ | x
 ·obtain ⟨t,e⟩:=(show ∃ t,u=Value.int i t from r);subst e;exact zhn P w i t
 ·cases (show u=Value.none from r);rfl
 ·obtain ⟨t,e⟩:=(show ∃ t,u=Value.str x t from r);subst e;exact zhm P w x t
theorem zgm {P:Program} {w:World}:∀ {ks:List Key} {us:List Value},Vals (ks.map kV) us->ItemsAre (zat P w) ks us
 | [],_,r=>by rw [List.map_nil] at r;cases r;exact .nil
 | k::ks,_,r=>by
  rw [zx4] at r;cases r with
  | cons h t=>exact .cons (zl5 h) (zgm t)
abbrev KT (H:Hp):List (List Key × V)->List (List Key × Addr × Value)->Prop:=Paired fun p q=>p.1=q.1/\H q.2.1=some (.tup (p.1.map kV))/\RelV p.2 q.2.2
theorem KT.val {H:Hp} {qb:List (List Key × V)} (r:KT H qb xs) (k:List Key):RelO (ybp qb k) ((atKey xs k).map (·.2)):=by
 induction r with
 | nil=>exact True.intro
 | @cons p q ps qs h t ih =>
  obtain ⟨h1,_,h2⟩:=h;by_cases e:p.1=k
  ·have e':q.1=k:=h1.symm.trans e;have b:atKey (q::qs) k=some q.2:=by simp [atKey,List.find?_cons,e']
   rw [zbl e,b];exact h2
  ·have e':¬ q.1=k:=fun z=>e (h1.trans z);have b:atKey (q::qs) k=atKey qs k:=by simp [atKey,List.find?_cons,e']
   rw [zbm e,b];exact ih
theorem KT.repl {H:Hp} {qb:List (List Key × V)} (r:KT H qb xs) (k:List Key) {y:V} {u:Value} (ry:RelV y u) :
  KT H (qb.map fun kv=>if kv.1=k then (kv.1,y) else kv) (xs.map (putAt k u)):=by
 induction r with
 | nil=>exact .nil
 | @cons p q ps qs h t ih =>
  rw [zx4,zx4];refine .cons ?_ ih;obtain ⟨h1,h2,h3⟩:=h;unfold putAt;by_cases e:p.1=k
  ·rw [if_pos e,if_pos (h1.symm.trans e)];exact ⟨h1,h2,ry⟩
  ·rw [if_neg e,if_neg (fun z=>e (h1.trans z))];exact ⟨h1,h2,h3⟩
theorem KT.put {H:Hp} {qb:List (List Key × V)} (r:KT H qb xs) (k:List Key) {y:V} {u:Value} (hb:H b=some (.tup (k.map kV))) (ry:RelV y u) :
  KT H (yb6 qb k y) (storedH xs k b u):=by
 have e:(qb.any fun kv=>decide (kv.1=k))=(atKey xs k).isSome:=by rw [zcb,(r.val k).isSome_eq,Option.isSome_map]
 unfold yb6 storedH;rw [e];by_cases q:(atKey xs k).isSome=true
 ·rw [if_pos q,if_pos q];exact r.repl k ry
 ·rw [if_neg q,if_neg q];exact Paired.snoc r ⟨rfl,hb,ry⟩
theorem KT.keeps {H:Hp} {qb:List (List Key × V)} (r:KT H qb xs) (ht:∀ b ys,H b=some (.tup ys)->H' b=some (.tup ys)):KT H' qb xs :=
 Paired.mapP r fun _ _ z=>⟨z.1,ht _ _ z.2.1,z.2.2⟩
section
variable {P:Program} {w:World} {H:Hp} {h:Heap} {a:Addr}
theorem zt2 {u:HO} (ok:HOk P w H h) (e:Rd H a u):ObjOk P w H h a u:=e.ok ok
theorem zj6 {qb:List (Key × V)} (ok:HOk P w H h) (e:Rd H a (.dK qb)):qb.length<=sizeLine/\(a==sysModules)=false/\∃ vs,KV qb vs/\h.DictOf (zat P w) a vs :=
 show ObjOk P w H h a (.dK qb) from zt2 ok e
theorem zmt {qb:List (Key × V)} (ok:HOk P w H h) (e:H a=some (.dK qb)):qb.length<=sizeLine/\(a==sysModules)=false/\∃ vs,KV qb vs/\h.DictOf (zat P w) a vs:=zj6 ok (.inl e)
theorem zed {ks:List Key} (ok:HOk P w H h) (e:H a=some (.tup (ks.map kV))):(tupleKind (zat P w)).is h ks a:=by obtain ⟨_,qc,r,o,h1,h2,n,h3⟩:=(show ObjOk P w H h a (.tup (ks.map kV)) from ok a _ e);exact ⟨o,qc.toArray,n,h1,h2,h3,by simpa using zgm r⟩
theorem zj5 {qb:List (List Key × V)} (ok:HOk P w H h) (e:Rd H a (.dT qb)):qb.length<=sizeLine/\(a==sysModules)=false /\
  ∃ xs,KT H qb xs/\h.DictOfH (tupleKind (zat P w)) a xs:=by
 obtain ⟨z,y,xs,r,o,es,ep,h1,h2,h3,h4,h5⟩:=(show ObjOk P w H h a (.dT qb) from zt2 ok e);refine ⟨z,y,xs,r,o,es,ep,h1,h2,h3,h4,fun x hx=>?_,h5⟩;have all:∀ {l:List (List Key × V)} {m:List (List Key × Addr × Value)},KT H l m->∀ x∈m,(tupleKind (zat P w)).is h x.1 x.2.1:=by
  intro l m q
  induction q with
  | nil=>intro x hx;exact nomatch hx
  | @cons p q ps qs hq t ih =>
   intro x hx;rcases omc hx with e | hx
   ·subst e;exact zed ok (by rw [<- hq.1];exact hq.2.1)
   ·exact ih x hx
 exact all r x hx
theorem zpf {qb:List (List Key × V)} (ok:HOk P w H h) (e:H a=some (.dT qb)):qb.length<=sizeLine/\(a==sysModules)=false /\
  ∃ xs,KT H qb xs/\h.DictOfH (tupleKind (zat P w)) a xs:=zj5 ok (.inl e)
end
def DGet (H:Hp) (a:Addr) (y:V) (r:Option V):Prop :=
 (∃ qb k,Rd H a (.dK qb)/\y=kV k/\r=ybp qb k)\/∃ qb k b,Rd H a (.dT qb)/\y=.ref b/\H b=some (.tup (k.map kV))/\r=ybp qb k
def DPut (H:Hp) (a:Addr) (y v:V) (H':Hp):Prop :=
 (∃ qb k,H a=some (.dK qb)/\y=kV k/\qb.length<sizeLine/\H'=upd H a (.dK (yb6 qb k v))) \/
 ∃ qb k b,H a=some (.dT qb)/\y=.ref b/\H b=some (.tup (k.map kV))/\qb.length<sizeLine/\H'=upd H a (.dT (yb6 qb k v))
theorem DGet.t {H:Hp} {a:Addr} {qb:List (List Key × V)} {k:List Key} (e:H a=some (.dT qb)) (eb:H b=some (.tup (k.map kV))):DGet H a (.ref b) (ybp qb k):=.inr ⟨qb,k,b,.inl e,rfl,eb,rfl⟩
theorem DPut.k {H:Hp} {a:Addr} {qb:List (Key × V)} {k:Key} {v:V} (e:H a=some (.dK qb)) (hl:qb.length<sizeLine):DPut H a (kV k) v (upd H a (.dK (yb6 qb k v))):=.inl ⟨qb,k,e,rfl,hl,rfl⟩
theorem DPut.t {H:Hp} {a:Addr} {qb:List (List Key × V)} {k:List Key} {v:V} (e:H a=some (.dT qb)) (eb:H b=some (.tup (k.map kV))) (hl:qb.length<sizeLine) :
  DPut H a (.ref b) v (upd H a (.dT (yb6 qb k v))):=.inr ⟨qb,k,b,e,rfl,eb,hl,rfl⟩
section
variable {X:Cx} {pj:List (Addr × Obj)} {σ:St} {H:Hp} {s:Shared} {a:Addr} {y v:V} {u r:Value} {o:Option V} {A:Around} {E:Value->Shared->Prop}
theorem Inv.big (I:Inv X pj σ H s):sysModules<s.heap.objs.size:=by have h:mainGlobals<s.heap.objs.size:=(I.mod.glob.keeps I.bk).lt;exact Nat.lt_trans (by decide) h
theorem zmy (hu:A.units+1<cLine) (I:Inv X pj σ H s) (g:DGet H a y (some v)) (ry:RelV y u) (h:∀ w' s',Inv X pj σ H s'->RelV v w'->Q w' s') :
  wpAny (model X.prog X.w) A (getItem (.ref a) u) Q E s:=by
 rcases g with ⟨qb,k,e,ey,l⟩ | ⟨qb,k,b,e,ey,eb,l⟩
 ·subst ey;obtain ⟨z,hd,vs,rel,dd⟩:=zj6 I.hok e;obtain ⟨w',hw,rw'⟩:=RelO.some_of (v:=v) (o:=valueAt vs k) (by rw [l];exact rel.val k);exact wpAny_getItem_of (zl5 ry) dd.mapOf hw (h w' _ (I.tok _) rw')
 ·subst ey;cases (show u=Value.ref b from ry);obtain ⟨z,hd,xs,rel,dd⟩:=zj5 I.hok e;obtain ⟨w',hw,rw'⟩:=RelO.some_of (v:=v) (o:=(atKey xs k).map (·.2)) (by rw [l];exact rel.val k);obtain ⟨p,hp,hp2⟩:=oms hw;refine wpAny_getItem_heap (tupleKind_room_in1 hu) (zed I.hok eb) dd hp ?_;rw [hp2];exact h w' _ (I.tok _) rw'
theorem d_in (hu:A.units+1<cLine) (I:Inv X pj σ H s) (g:DGet H a y o) (ry:RelV y u) (h:∀ s',Inv X pj σ H s'->Q (.bool o.isSome) s') :
  wpAny (model X.prog X.w) A (compareOp .In u (.ref a)) Q E s:=by
 rcases g with ⟨qb,k,e,ey,l⟩ | ⟨qb,k,b,e,ey,eb,l⟩
 ·subst ey;obtain ⟨z,hd,vs,rel,dd⟩:=zj6 I.hok e;refine wpAny_in_of (zl5 ry) hd dd.mapOf ?_;rw [<- (rel.val k).isSome_eq,<- l];exact h _ (I.tok _)
 ·subst ey;cases (show u=Value.ref b from ry);obtain ⟨z,hd,xs,rel,dd⟩:=zj5 I.hok e;refine wpAny_in_heap (tupleKind_room_in1 hu) (zed I.hok eb) hd dd ?_;have q:=(rel.val k).isSome_eq;rw [Option.isSome_map] at q;rw [<- q,<- l];exact h _ (I.tok _)
theorem zs5 (hu:A.units+1<cLine) (I:Inv X pj σ H s) (g:DGet H a y o) (ry:RelV y u) (h:∀ s',Inv X pj σ H s'->Q (.bool (!o.isSome)) s') :
  wpAny (model X.prog X.w) A (compareOp .NotIn u (.ref a)) Q E s:=by
 rcases g with ⟨qb,k,e,ey,l⟩ | ⟨qb,k,b,e,ey,eb,l⟩
 ·subst ey;obtain ⟨z,hd,vs,rel,dd⟩:=zj6 I.hok e;refine wpAny_notIn_of (zl5 ry) hd dd.mapOf ?_;rw [<- (rel.val k).isSome_eq,<- l];exact h _ (I.tok _)
 ·subst ey;cases (show u=Value.ref b from ry);obtain ⟨z,hd,xs,rel,dd⟩:=zj5 I.hok e;refine wpAny_notIn_heap (tupleKind_room_in1 hu) (zed I.hok eb) hd dd ?_;have q:=(rel.val k).isSome_eq;rw [Option.isSome_map] at q;rw [<- q,<- l];exact h _ (I.tok _)
theorem zdj {h':Heap} {t':Nat} {ob:HO} (I:Inv X pj σ H s) (mu:Mut (H a)) (hs:Heap.SameBut a s.heap h') (he:∃ q,h'.get? a=some q) (new:ObjOk X.prog X.w (upd H a ob) h' a ob) :
  Inv X pj σ (upd H a ob) { s with heap:=h',toks:=t' } :=
 I.write (x:=a) (e:=a) mu (.inl rfl) (fun b q hb z=>(hs.2 b hb).trans z) he new
theorem zwg {P:Program} {w:World} {h':Heap} {qb:List (Key × V)} {vs:List (Key × Value)} (z:qb.length<=sizeLine) (hd:(a==sysModules)=false) (rel:KV qb vs) (dd:h'.DictOf (zat P w) a vs) :
  ObjOk P w H' h' a (.dK qb):=⟨z,hd,vs,rel,dd⟩
theorem zmx {Q:Unit->Shared->Prop} (hu:A.units+1<cLine) (I:Inv X pj σ H s) (g:DPut H a y v H') (ry:RelV y u) (rv:RelV v r) (h:∀ s',Inv X pj σ H' s'->Q () s') :
  wpAny (model X.prog X.w) A (setItem (.ref a) u r) Q E s:=by
 rcases g with ⟨qb,k,e,ey,l,eH⟩ | ⟨qb,k,b,e,ey,eb,l,eH⟩
 ·subst ey eH;obtain ⟨z,hd,vs,rel,dd⟩:=zmt I.hok e;have hz:vs.length<=sizeLine:=by rw [<- rel.length];exact z
  have hl:(yb6 qb k v).length<=sizeLine:=by have:=zce qb k v;omega
  refine wpAny_setItem_pairs (hsz:=hz) (zl5 ry) dd fun h' dd' hs=>h _ ?_;have he:∃ q,h'.get? a=some q:=let ⟨q,_,_,hq,_⟩:=dd';⟨q,hq⟩
  exact zdj I (by rw [e];exact True.intro) hs he (zwg hl hd (rel.put k rv) dd')
 ·subst ey eH;cases (show u=Value.ref b from ry);obtain ⟨z,hd,xs,rel,dd⟩:=zpf I.hok e;have hz:xs.length<=sizeLine:=by rw [<- Paired.length rel];exact z
  have hl:(yb6 qb k v).length<=sizeLine:=by have:=zce qb k v;omega
  refine wpAny_setItem_heap (hsz:=hz) (tupleKind_room_in1 hu) (zed I.hok eb) dd fun h' dd' hs=>h _ ?_;obtain ⟨q,es,ep,hq,h2,h3,h4,_,h5⟩:=dd';refine zdj I (by rw [e];exact True.intro) hs ⟨q,hq⟩ ⟨hl,hd,_,(rel.put k eb rv).keeps fun c ys ec=>?_,q,es,ep,hq,h2,h3,h4,h5⟩;rw [zad (zhl ec e (fun z=>nomatch z))];exact ec
end
section
variable {X:Cx} {pj:List (Addr × Obj)} {σ:St} {H:Hp} {s:Shared} {a:Addr} {qb:List (Key × V)} {k:Key} {u:Value} {A:Around} {E:Value->Shared->Prop}
end
theorem zhz {X:Cx} {pj:List (Addr × Obj)} {σ:St} {H:Hp} {s:Shared} {a:Addr} {y:V} {o:Option V} (I:Inv X pj σ H s) (g:DGet H a y o):s.TypeIs (.ref a) "dict":=by
 rcases g with ⟨qb,k,e,_,_⟩ | ⟨qb,k,b,e,_,_,_⟩
 ·obtain ⟨_,_,vs,_,dd⟩:=zj6 I.hok e;exact dd.typeIs
 ·obtain ⟨_,_,xs,_,dd⟩:=zj5 I.hok e;exact dd.typeIs
def ygb (td ty tv:TE):TS:=fun D σ H=>tv σ H fun v H1=>td σ H1 fun x H2=>ty σ H2 fun y H3=>∃ a H4,x=.ref a/\DPut H3 a y v H4/\D.nx σ H4
section
variable {X:Cx} {o i e value:Expr} {pos pos' tpos:Pos} {td ty tv:TE}
theorem zrt (hu:X.A.units+1<cLine) (ho:PE X o td) (hi:PE X i ty) (hv:PE X value tv) (hs:swapsWith value (some (.Subscript o i pos')) pos.line X.env=pure false) :
  PS X (.Assign [.Subscript o i pos'] value pos) (ygb td ty tv):=by
 intro pj s σ H D I h;refine wpAny_Assign_Subscript (thn (hv pj s σ H _ I h) fun r s1 ⟨v,H1,I1,rv,q1⟩=>thn (ho pj s1 σ H1 _ I1 q1) fun u s2 ⟨x,H2,I2,rx,q2⟩=>thn (hi pj s2 σ H2 _ I2 q2) fun iv s3 ⟨y,H3,I3,ry,a,H4,ex,g,q3⟩=>?_) hs;subst ex;obtain rfl:u=Value.ref a:=rx;exact zmx hu I3 g ry rv fun s4 I4=>⟨σ,H4,I4,q3⟩
end
theorem zpg {P:Program} {w:World} {H:Hp} (h:Heap) (hb:sysModules<h.objs.size):ObjOk P w H (h.push { cls:=.type "dict",data:=.dict #[] }) h.objs.size (.dK []) :=
 ⟨zyt _,beq_eq_false_iff_ne.mpr (Ne.symm (zyp hb)),[],.nil,Heap.DictOf.new h⟩
def yfb:TE:=fun _ H Q=>∀ p,H p=none->Q (.ref p) (upd H p (.dK []))
section
variable {X:Cx} {pos:Pos}
theorem yeb:PE X (.Dict [] [] pos) yfb:=fun pj s σ H Q I h =>wpAny_Dict_empty ⟨.ref s.heap.objs.size,_,I.laid (a:=s.heap.objs.size) (o:=.dK []) (t':=s.toks) (fun _ _ q=>zxz _ q) (zye _) (zpg s.heap I.big),rfl,h _ (I.hok.fresh (zye _))⟩
end
structure M1 (X:Cx) (o:Expr) (m:Str) (apos:Pos) (e:Expr) (cpos:Pos):Prop where
 base:attributeBase o m X.env (eval o X.env)=eval o X.env
 few:((backTo cpos (starEach [e] X.env)).all (fun x=>!x.1)&&(backToKw cpos (keywordEach [] X.env)).all (fun x=>x.1.isSome)
  && decide (([e]:List Expr).length+([]:List Keyword).length+(if ([]:List Keyword).isEmpty then 0 else 1)<30))=true
 line:(apos.endLine==cpos.line)=true
 trees:backTo cpos (starEach [e] X.env)=[(false,eval e X.env)]
structure M2 (X:Cx) (o:Expr) (m:Str) (apos:Pos) (e f:Expr) (cpos:Pos):Prop where
 base:attributeBase o m X.env (eval o X.env)=eval o X.env
 few:((backTo cpos (starEach [e,f] X.env)).all (fun x=>!x.1)&&(backToKw cpos (keywordEach [] X.env)).all (fun x=>x.1.isSome)
  && decide (([e,f]:List Expr).length+([]:List Keyword).length+(if ([]:List Keyword).isEmpty then 0 else 1)<30))=true
 line:(apos.endLine==cpos.line)=true
 trees:backTo cpos (starEach [e,f] X.env)=[(false,eval e X.env),(false,eval f X.env)]
def IsD (H:Hp) (a:Addr):Prop:=(∃ qb,Rd H a (.dK qb))\/∃ qb,Rd H a (.dT qb)
theorem zv4 {X:Cx} {pj:List (Addr × Obj)} {σ:St} {H:Hp} {s:Shared} {a:Addr} (I:Inv X pj σ H s) (d:IsD H a) :
  s.TypeIs (.ref a) "dict"/\(∀ b,Value.ref a=.ref b->∃ ob,s.heap.get? b=some ob/\ob.dict=none)/\(a==sysModules)=false:=by
 rcases d with ⟨qb,e⟩ | ⟨qb,e⟩
 ·obtain ⟨_,hd,vs,_,dd⟩:=zj6 I.hok e;refine ⟨dd.typeIs,fun b q=>?_,hd⟩;cases q;obtain ⟨ob,_,_,h1,h2,_⟩:=dd;exact ⟨ob,h1,h2.2.1⟩
 ·obtain ⟨_,hd,xs,_,dd⟩:=zj5 I.hok e;refine ⟨dd.typeIs,fun b q=>?_,hd⟩;cases q;obtain ⟨ob,_,_,h1,h2,_⟩:=dd;exact ⟨ob,h1,h2.2.1⟩
section
variable {X:Cx} {pj:List (Addr × Obj)} {σ:St} {H:Hp} {s:Shared} {a:Addr} {y d:V} {u r:Value} {o:Option V} {A:Around} {E:Value->Shared->Prop}
end
section
variable {X:Cx} {o e f:Expr} {apos cpos:Pos} {td ty tx:TE}
end
section
variable {X:Cx} {pj:List (Addr × Obj)} {σ:St} {H:Hp} {s:Shared} {a:Addr} {qb:List (Key × V)} {A:Around} {E:Value->Shared->Prop}
end
section
variable {X:Cx} {pj:List (Addr × Obj)} {σ:St} {H:Hp} {s:Shared} {a:Addr} {y:V} {u:Value} {A:Around} {E:Value->Shared->Prop}
end
end
section
section
variable {κ:Type} [DecidableEq κ]
theorem znp {qb:List (κ × V)} {k:κ} (h:ybp qb k=none):¬ k∈qb.map (·.1):=by intro m;obtain ⟨p,hp,e⟩:=omm m;have q:(qb.any fun kv=>decide (kv.1=k))=true:=List.any_eq_true.mpr ⟨p,hp,zyo e⟩;rw [zcb,h] at q;exact absurd q (by simp)
end
end
end L2
end
end
namespace Ev
open PySem Spec PyProof.Rows L2
section
variable {t1 t2:T} {n:Nat} {a:Addr} {vs:List V} {ts us:List T} {v u:Value} {x y:V} {A:Around} {qc jts:List Value}
mutual
theorem zdx:∀ t:T,dpP t t<20000->eqT t t=true
 | .non,_=>by rw [eqT]
 | .bl b,_=>by rw [eqT];simp
 | .int i,_=>by rw [eqT];simp
 | .str x,_=>by rw [eqT];simp
 | .tup a,h=>by rw [eqT];rw [dpP] at h;exact zei a (by omega)
 | .lst a,h=>by rw [eqT];rw [dpP] at h;exact zei a (by omega)
 | .dk _ _,h=>by rw [dpP] at h;omega
 | .dt _ _,h=>by rw [dpP] at h;omega
theorem zei:∀ ts:List T,yba ts ts<20000->yb5 ts ts=true
 | [],_=>by rw [yb5]
 | t::ts,h=>by rw [yba] at h;rw [yb5,zdx t (by omega),zei ts (by omega)];rfl
end
theorem zjb:∀ {xs ys:List T} {j:Nat} {x y:T},xs[j]?=some x->ys[j]?=some y->dpP x y<=yba xs ys
 | [],_,_,_,_,h,_=>by simp at h
 | _::_,[],_,_,_,_,h=>by simp at h
 | a::xs,b::ys,0,x,y,h1,h2=>by simp at h1 h2;subst h1 h2;rw [yba];exact Nat.le_max_left _ _
 | a::xs,b::ys,j+1,x,y,h1,h2=>by rw [yba];exact Nat.le_trans (zjb (j:=j) (by simpa using h1) (by simpa using h2)) (Nat.le_max_right _ _)
theorem zc7:∀ xs ys:List T,yb5 xs ys=((List.range (min xs.length ys.length)).all (fun j=>eqT (xs.getD j .non) (ys.getD j .non))&&xs.length==ys.length)
 | [],[]=>by rw [yb5];rfl
 | [],b::ys=>by simp [yb5]
 | a::xs,[]=>by simp [yb5]
 | a::xs,b::ys=>by
  rw [yb5,zc7 xs ys,zyq,zyq,show min (xs.length+1) (ys.length+1)=min xs.length ys.length+1 by omega,List.range_succ_eq_map,List.all_cons,List.all_map];have e:(xs.length+1==ys.length+1)=(xs.length==ys.length):=by
   by_cases h:xs.length=ys.length
   ·simp [h]
   ·simp [h]
  rw [e,Bool.and_assoc];rfl
def isD:T->Bool
 | .dk _ _=>true
 | .dt _ _=>true
 | _=>false
theorem yfr (hd:dpP t1 t2<=n) (hn:n<20000):isD t1=false/\isD t2=false:=by cases t1<;>cases t2<;>first | exact ⟨rfl,rfl⟩ | (exfalso;simp [dpP] at hd;omega)
def ydp:T->T->Bool
 | .tup _,.tup _=>true
 | .lst _,.lst _=>true
 | .dk _ _,_=>true
 | .dt _ _,_=>true
 | _,.dk _ _=>true
 | _,.dt _ _=>true
 | _,_=>false
section
variable {X:Cx} {pj:List (Addr × Obj)} {σ:L2.St} {H F:Hp} {s:Shared}
theorem zdz (I:Inv X pj σ H s) (h:(∃ ws,H a=some (.dK ws))\/∃ ws,H a=some (.dT ws)):∃ o,s.heap.get? a=some o/\o.cls=.type "dict":=by
 rcases h with ⟨ws,h⟩ | ⟨ws,h⟩
 ·obtain ⟨_,_,vs,_,o,es,ep,h1,h2,_⟩:=zmt I.hok h;exact ⟨o,h1,h2.1⟩
 ·obtain ⟨_,_,xs,_,o,es,ep,h1,h2,_⟩:=zpf I.hok h;exact ⟨o,h1,h2.1⟩
theorem zin (I:Inv X pj σ H s) (h:(∃ ws,H a=some (.dK ws))\/∃ ws,H a=some (.dT ws)) (p:SqT X.K H a vs):False:=by obtain ⟨o,h1,h2⟩:=zdz I h;obtain ⟨qc,_,⟨o',e,c,_⟩,_⟩:=I.tuple p;rw [h1] at e;cases e;rw [h2] at c;exact absurd c (by decide +kernel)
theorem zio (I:Inv X pj σ H s) (h:(∃ ws,H a=some (.dK ws))\/∃ ws,H a=some (.dT ws)) (p:Ls X.K H a vs):False:=by obtain ⟨o,h1,h2⟩:=zdz I h;obtain ⟨qc,_,p',_⟩:=I.list p.sq;obtain ⟨o',e,c,_⟩:=p'.isList;rw [h1] at e;cases e;rw [h2] at c;exact absurd c (by decide +kernel)
theorem zah (I:Inv X pj σ H s) (fh:Same F H) {v:V} (r:Rep X.K F (.tup ts) v) (ru:RelV v u):∃ a vs qc,v=.ref a/\u=.ref a/\Tq X.K F a vs/\Reps X.K F ts vs/\Vals vs qc/\s.heap.IsTuple a qc.toArray:=by obtain ⟨a,vs,rfl,h1,h2⟩:=r;cases ru;obtain ⟨qc,rv,p,_⟩:=I.tuple (zai fh h1);exact ⟨a,vs,qc,rfl,rfl,h1,h2,rv,p⟩
theorem zak (I:Inv X pj σ H s) (fh:Same F H) {v:V} (r:Rep X.K F (.lst ts) v) (ru:RelV v u):∃ a vs qc,v=.ref a/\u=.ref a/\Ls X.K F a vs/\Reps X.K F ts vs/\Vals vs qc/\s.heap.IsList a qc.toArray:=by obtain ⟨a,vs,rfl,h1,h2⟩:=r;cases ru;obtain ⟨qc,rv,p,_⟩:=I.list (Ls.same fh h1).sq;exact ⟨a,vs,qc,rfl,rfl,h1,h2,rv,p.isList⟩
theorem ze8 {xs ys:Array Value} (h1:s.heap.IsTuple a xs) (h2:s.heap.IsList a ys):False:=by obtain ⟨o,e,c,_⟩:=h1;obtain ⟨o',e',c',_⟩:=h2;rw [e] at e';cases e';rw [c] at c';exact absurd c' (by decide +kernel)
theorem zn9 (h1:RelV x u) (h2:RelV y u):x=y:=by
 cases x with
 | non=>cases h1;cases y<;>first | rfl | (obtain ⟨_,e⟩:=h2;cases e;done) | (cases h2;done)
 | bl _=>cases h1;cases y<;>first | (obtain ⟨_,e⟩:=h2;cases e;done) | (cases h2;done) | (cases h2;rfl)
 | ref _=>cases h1;cases y<;>first | (obtain ⟨_,e⟩:=h2;cases e;done) | (cases h2;done) | (cases h2;rfl)
 | ty _=>cases h1;cases y<;>first | (obtain ⟨_,e⟩:=h2;cases e;done) | (cases h2;done) | (cases h2;rfl)
 | _=>obtain ⟨_,rfl⟩:=h1;cases y<;>first | (obtain ⟨_,e⟩:=h2;cases e;done) | (cases h2;done) | (obtain ⟨_,e⟩:=h2;cases e;rfl)
mutual
theorem zfg (I:Inv X pj σ H s) (fh:Same F H):∀ {t1 t2:T} {v:V},Rep X.K F t1 v->Rep X.K F t2 v->t1=t2
 | .non,t2,v,r1,r2=>by cases r1;cases t2<;>first | rfl | (obtain ⟨_,_,e,_⟩:=r2;cases e) | cases r2
 | .bl b,t2,v,r1,r2=>by cases r1;cases t2<;>first | (cases r2;rfl) | (obtain ⟨_,_,e,_⟩:=r2;cases e) | cases r2
 | .int b,t2,v,r1,r2=>by cases r1;cases t2<;>first | (cases r2;rfl) | (obtain ⟨_,_,e,_⟩:=r2;cases e) | cases r2
 | .str b,t2,v,r1,r2=>by cases r1;cases t2<;>first | (cases r2;rfl) | (obtain ⟨_,_,e,_⟩:=r2;cases e) | cases r2
 | .tup ts,t2,v,r1,r2=>by
  obtain ⟨a,vs,rfl,h1,h2⟩:=r1;cases t2 with
  | tup us =>obtain ⟨b,ws,e,h3,h4⟩:=r2;cases e;have:=I.tuple_inj (zai fh h1) (zai fh h3);subst this;rw [zc1 I fh h2 h4]
  | lst us =>obtain ⟨b,ws,e,h3,h4⟩:=r2;cases e;obtain ⟨qc,_,p,_⟩:=I.tuple (zai fh h1);obtain ⟨jts,_,p',_⟩:=I.list (Ls.same fh h3).sq;exact absurd (ze8 (s:=s) p p'.isList) id
  | dk _ _ =>obtain ⟨b,ws,e,h3,h4⟩:=r2;cases e;exact (zin I (.inl ⟨_,fh _ _ h3⟩) (zai fh h1)).elim
  | dt _ _ =>obtain ⟨b,ws,e,h3,h4⟩:=r2;cases e;exact (zin I (.inr ⟨_,fh _ _ h3⟩) (zai fh h1)).elim
  | _=>cases r2
 | .lst ts,t2,v,r1,r2=>by
  obtain ⟨a,vs,rfl,h1,h2⟩:=r1;cases t2 with
  | lst us =>obtain ⟨b,ws,e,h3,h4⟩:=r2;cases e;have:=I.list_inj (Ls.same fh h1).sq (Ls.same fh h3).sq;subst this;rw [zc1 I fh h2 h4]
  | tup us =>obtain ⟨b,ws,e,h3,h4⟩:=r2;cases e;obtain ⟨qc,_,p,_⟩:=I.tuple (zai fh h3);obtain ⟨jts,_,p',_⟩:=I.list (Ls.same fh h1).sq;exact absurd (ze8 (s:=s) p p'.isList) id
  | dk _ _ =>obtain ⟨b,ws,e,h3,h4⟩:=r2;cases e;exact (zio I (.inl ⟨_,fh _ _ h3⟩) (Ls.same fh h1)).elim
  | dt _ _ =>obtain ⟨b,ws,e,h3,h4⟩:=r2;cases e;exact (zio I (.inr ⟨_,fh _ _ h3⟩) (Ls.same fh h1)).elim
  | _=>cases r2
 | .dk ks ts,t2,v,r1,r2=>by
  obtain ⟨a,ws,rfl,h1,h2,h2'⟩:=r1;cases t2 with
  | dk _ _ =>obtain ⟨b,zs,e,h3,h4,h4'⟩:=r2;cases e;rw [h1] at h3;cases h3;subst h2 h4;rw [zc1 I fh h2' h4']
  | dt _ _ =>obtain ⟨b,zs,e,h3,_⟩:=r2;cases e;rw [h1] at h3;cases h3
  | tup _ =>obtain ⟨b,zs,e,h3,_⟩:=r2;cases e;exact (zin I (.inl ⟨_,fh _ _ h1⟩) (zai fh h3)).elim
  | lst _ =>obtain ⟨b,zs,e,h3,_⟩:=r2;cases e;exact (zio I (.inl ⟨_,fh _ _ h1⟩) (Ls.same fh h3)).elim
  | _=>cases r2
 | .dt ks ts,t2,v,r1,r2=>by
  obtain ⟨a,ws,rfl,h1,h2,h2'⟩:=r1;cases t2 with
  | dt _ _ =>obtain ⟨b,zs,e,h3,h4,h4'⟩:=r2;cases e;rw [h1] at h3;cases h3;subst h2 h4;rw [zc1 I fh h2' h4']
  | dk _ _ =>obtain ⟨b,zs,e,h3,_⟩:=r2;cases e;rw [h1] at h3;cases h3
  | tup _ =>obtain ⟨b,zs,e,h3,_⟩:=r2;cases e;exact (zin I (.inr ⟨_,fh _ _ h1⟩) (zai fh h3)).elim
  | lst _ =>obtain ⟨b,zs,e,h3,_⟩:=r2;cases e;exact (zio I (.inr ⟨_,fh _ _ h1⟩) (Ls.same fh h3)).elim
  | _=>cases r2
theorem zc1 (I:Inv X pj σ H s) (fh:Same F H):∀ {ts us:List T} {vs:List V},Reps X.K F ts vs->Reps X.K F us vs->ts=us
 | [],us,vs,r1,r2=>by
  cases r1;cases us with
  | nil=>rfl
  | cons _ _=>obtain ⟨_,_,e,_⟩:=r2;cases e
 | t::ts,us,vs,r1,r2=>by
  obtain ⟨v,r,rfl,h1,h2⟩:=r1;cases us with
  | nil=>cases r2
  | cons u us =>obtain ⟨_,_,e,h3,h4⟩:=r2;cases e;rw [zfg I fh h1 h3,zc1 I fh h2 h4]
end
theorem zdv (ih:∀ (t1 t2:T) (x y:V) (v u:Value),dpP t1 t2<=n->Rep X.K F t1 x->Rep X.K F t2 y->RelV x v->RelV y u->SeqAt.EqAt A s v u (eqT t1 t2)) {ws:List V} (hd:yba ts us<=n)
  (r1:Reps X.K F ts vs) (r2:Reps X.K F us ws) (v1:Vals vs qc) (v2:Vals ws jts):∀ j (h1:j<qc.toArray.size) (h2:j<jts.toArray.size),SeqAt.EqAt A s qc.toArray[j] jts.toArray[j] (eqT (ts.getD j .non) (us.getD j .non)):=by
 intro j h1 h2;have l1:qc.length=ts.length:=by rw [<- v1.length,r1.length]
 have l2:jts.length=us.length:=by rw [<- v2.length,r2.length]
 have h1':j<ts.length:=by rw [zyd] at h1;omega
 have h2':j<us.length:=by rw [zyd] at h2;omega
 have e1:ts[j]?=some ts[j]:=zx6 h1';have e2:us[j]?=some us[j]:=zx6 h2';obtain ⟨x,hx,rx⟩:=r1.get e1;obtain ⟨y,hy,ry⟩:=r2.get e2;obtain ⟨v,hv,rv⟩:=v1.get hx;obtain ⟨u,hu,ru⟩:=v2.get hy;have g1:qc.toArray[j]=v:=by
  have:qc[j]?=some qc.toArray[j]:=by simp
  rw [hv] at this;exact (zyk this).symm
 have g2:jts.toArray[j]=u:=by
  have:jts[j]?=some jts.toArray[j]:=by simp
  rw [hu] at this;exact (zyk this).symm
 rw [g1,g2,zyb,zyb,e1,e2];exact ih _ _ x y v u (zyr (zjb e1 e2) hd) rx ry rv ru
theorem zh8 {ws:List V} (r1:Reps X.K F ts vs) (r2:Reps X.K F us ws) (v1:Vals vs qc) (v2:Vals ws jts):qc.toArray.size=ts.length/\jts.toArray.size=us.length:=by rw [zyd,zyd,<- v1.length,<- v2.length,r1.length,r2.length];exact ⟨rfl,rfl⟩
theorem zi9 (h:ts.length=us.length):yb5 ts us=(List.range ts.length).all fun j=>eqT (ts.getD j .non) (us.getD j .non):=by rw [zc7,h];simp
theorem zms (h:ts.length≠us.length):yb5 ts us=false:=by rw [zc7,show (ts.length==us.length)=false by simpa using h,Bool.and_false]
theorem yej (I:Inv X pj σ H s) (fh:Same F H) (hu:A.units<cLine) (hne:ydp t1 t2≠true) (r1:Rep X.K F t1 x) (r2:Rep X.K F t2 y) (rx:RelV x v) (ry:RelV y u):SeqAt.EqAt A s v u (eqT t1 t2):=by
 have fn:∀ {b c:Bool} {v u:Value},SeqAt.EqAt A s v u b->b=c->SeqAt.EqAt A s v u c:=fun h e=>e▸h;cases t1 with
 | non =>
  cases r1;cases rx;cases t2 with
  | non=>cases r2;cases ry;exact fn (SeqAt.EqAt.same .none ) (by simp [eqT])
  | bl a2=>cases r2;cases ry;exact fn (SeqAt.EqAt.none_bool a2) (by simp [eqT])
  | int a2=>cases r2;obtain ⟨k2,rfl⟩:=ry;exact fn (SeqAt.EqAt.none_int a2 k2) (by simp [eqT])
  | str a2=>cases r2;obtain ⟨k2,rfl⟩:=ry;exact fn (SeqAt.EqAt.none_str a2 k2) (by simp [eqT])
  | tup a2=>obtain ⟨l2,vs2,its2,rfl,rfl,_,_,_,p2⟩:=zah I fh r2 ry;exact fn (SeqAt.EqAt.none_tuple p2 hu) (by simp [eqT])
  | lst a2=>obtain ⟨l2,vs2,its2,rfl,rfl,_,_,_,p2⟩:=zak I fh r2 ry;exact fn (SeqAt.EqAt.none_list p2 hu) (by simp [eqT])
  | dk _ _=>exact absurd rfl hne
  | dt _ _=>exact absurd rfl hne
 | bl a1 =>
  cases r1;cases rx;cases t2 with
  | non=>cases r2;cases ry;exact fn (SeqAt.EqAt.bool_none a1) (by simp [eqT])
  | bl a2=>cases r2;cases ry;exact fn (SeqAt.EqAt.bool_bool a1 a2) (by simp [eqT])
  | int a2=>cases r2;obtain ⟨k2,rfl⟩:=ry;exact fn (SeqAt.EqAt.bool_int a1 a2 k2) (by simp [eqT])
  | str a2=>cases r2;obtain ⟨k2,rfl⟩:=ry;exact fn (SeqAt.EqAt.bool_str a1 a2 k2) (by simp [eqT])
  | tup a2=>obtain ⟨l2,vs2,its2,rfl,rfl,_,_,_,p2⟩:=zah I fh r2 ry;exact fn (SeqAt.EqAt.bool_tuple a1 p2 hu) (by simp [eqT])
  | lst a2=>obtain ⟨l2,vs2,its2,rfl,rfl,_,_,_,p2⟩:=zak I fh r2 ry;exact fn (SeqAt.EqAt.bool_list a1 p2 hu) (by simp [eqT])
  | dk _ _=>exact absurd rfl hne
  | dt _ _=>exact absurd rfl hne
 | int a1 =>
  cases r1;obtain ⟨k1,rfl⟩:=rx;cases t2 with
  | non=>cases r2;cases ry;exact fn (SeqAt.EqAt.int_none a1 k1) (by simp [eqT])
  | bl a2=>cases r2;cases ry;exact fn (SeqAt.EqAt.int_bool a1 k1 a2) (by simp [eqT])
  | int a2=>cases r2;obtain ⟨k2,rfl⟩:=ry;exact fn (SeqAt.EqAt.int_int a1 k1 a2 k2) (by simp [eqT])
  | str a2=>cases r2;obtain ⟨k2,rfl⟩:=ry;exact fn (SeqAt.EqAt.int_str a1 k1 a2 k2) (by simp [eqT])
  | tup a2=>obtain ⟨l2,vs2,its2,rfl,rfl,_,_,_,p2⟩:=zah I fh r2 ry;exact fn (SeqAt.EqAt.int_tuple a1 k1 p2 hu) (by simp [eqT])
  | lst a2=>obtain ⟨l2,vs2,its2,rfl,rfl,_,_,_,p2⟩:=zak I fh r2 ry;exact fn (SeqAt.EqAt.int_list a1 k1 p2 hu) (by simp [eqT])
  | dk _ _=>exact absurd rfl hne
  | dt _ _=>exact absurd rfl hne
 | str a1 =>
  cases r1;obtain ⟨k1,rfl⟩:=rx;cases t2 with
  | non=>cases r2;cases ry;exact fn (SeqAt.EqAt.str_none a1 k1) (by simp [eqT])
  | bl a2=>cases r2;cases ry;exact fn (SeqAt.EqAt.str_bool a1 k1 a2) (by simp [eqT])
  | int a2=>cases r2;obtain ⟨k2,rfl⟩:=ry;exact fn (SeqAt.EqAt.str_int a1 k1 a2 k2) (by simp [eqT])
  | str a2=>cases r2;obtain ⟨k2,rfl⟩:=ry;exact fn (SeqAt.EqAt.str_str a1 k1 a2 k2) (by simp [eqT])
  | tup a2=>obtain ⟨l2,vs2,its2,rfl,rfl,_,_,_,p2⟩:=zah I fh r2 ry;exact fn (SeqAt.EqAt.str_tuple a1 k1 p2 hu) (by simp [eqT])
  | lst a2=>obtain ⟨l2,vs2,its2,rfl,rfl,_,_,_,p2⟩:=zak I fh r2 ry;exact fn (SeqAt.EqAt.str_list a1 k1 p2 hu) (by simp [eqT])
  | dk _ _=>exact absurd rfl hne
  | dt _ _=>exact absurd rfl hne
 | tup a1 =>
  obtain ⟨l1,vs1,its1,rfl,rfl,_,_,_,p1⟩:=zah I fh r1 rx;cases t2 with
  | non=>cases r2;cases ry;exact fn (SeqAt.EqAt.tuple_none p1 hu) (by simp [eqT])
  | bl a2=>cases r2;cases ry;exact fn (SeqAt.EqAt.tuple_bool a2 p1 hu) (by simp [eqT])
  | int a2=>cases r2;obtain ⟨k2,rfl⟩:=ry;exact fn (SeqAt.EqAt.tuple_int a2 k2 p1 hu) (by simp [eqT])
  | str a2=>cases r2;obtain ⟨k2,rfl⟩:=ry;exact fn (SeqAt.EqAt.tuple_str a2 k2 p1 hu) (by simp [eqT])
  | tup a2=>exact absurd rfl hne
  | lst a2=>obtain ⟨l2,vs2,its2,rfl,rfl,_,_,_,p2⟩:=zak I fh r2 ry;exact fn (SeqAt.EqAt.tuple_list p1 p2 hu) (by simp [eqT])
  | dk _ _=>exact absurd rfl hne
  | dt _ _=>exact absurd rfl hne
 | lst a1 =>
  obtain ⟨l1,vs1,its1,rfl,rfl,_,_,_,p1⟩:=zak I fh r1 rx;cases t2 with
  | non=>cases r2;cases ry;exact fn (SeqAt.EqAt.list_none p1 hu) (by simp [eqT])
  | bl a2=>cases r2;cases ry;exact fn (SeqAt.EqAt.list_bool a2 p1 hu) (by simp [eqT])
  | int a2=>cases r2;obtain ⟨k2,rfl⟩:=ry;exact fn (SeqAt.EqAt.list_int a2 k2 p1 hu) (by simp [eqT])
  | str a2=>cases r2;obtain ⟨k2,rfl⟩:=ry;exact fn (SeqAt.EqAt.list_str a2 k2 p1 hu) (by simp [eqT])
  | tup a2=>obtain ⟨l2,vs2,its2,rfl,rfl,_,_,_,p2⟩:=zah I fh r2 ry;exact fn (SeqAt.EqAt.list_tuple p1 p2 hu) (by simp [eqT])
  | lst a2=>exact absurd rfl hne
  | dk _ _=>exact absurd rfl hne
  | dt _ _=>exact absurd rfl hne
 | dk _ _=>exact absurd rfl hne
 | dt _ _=>exact absurd rfl hne
theorem zt3 (I:Inv X pj σ H s) (fh:Same F H) (hu:A.units<cLine) (hne:ydp t1 t2≠true) (r1:Rep X.K F t1 x) (r2:Rep X.K F t2 y) (rx:RelV x v) (ry:RelV y u):SeqAt.RcAt A s v u (eqT t1 t2):=by
 have fn:∀ {b c:Bool} {v u:Value},SeqAt.RcAt A s v u b->b=c->SeqAt.RcAt A s v u c:=fun h e=>e▸h;cases t1 with
 | non =>
  cases r1;cases rx;cases t2 with
  | non=>cases r2;cases ry;exact fn (SeqAt.RcAt.none_none ) (by simp [eqT])
  | bl a2=>cases r2;cases ry;exact fn (SeqAt.RcAt.none_bool a2) (by simp [eqT])
  | int a2=>cases r2;obtain ⟨k2,rfl⟩:=ry;exact fn (SeqAt.RcAt.none_int a2 k2) (by simp [eqT])
  | str a2=>cases r2;obtain ⟨k2,rfl⟩:=ry;exact fn (SeqAt.RcAt.none_str a2 k2) (by simp [eqT])
  | tup a2=>obtain ⟨l2,vs2,its2,rfl,rfl,_,_,_,p2⟩:=zah I fh r2 ry;exact fn (SeqAt.RcAt.none_tuple p2 hu) (by simp [eqT])
  | lst a2=>obtain ⟨l2,vs2,its2,rfl,rfl,_,_,_,p2⟩:=zak I fh r2 ry;exact fn (SeqAt.RcAt.none_list p2 hu) (by simp [eqT])
  | dk _ _=>exact absurd rfl hne
  | dt _ _=>exact absurd rfl hne
 | bl a1 =>
  cases r1;cases rx;cases t2 with
  | non=>cases r2;cases ry;exact fn (SeqAt.RcAt.bool_none a1) (by simp [eqT])
  | bl a2=>cases r2;cases ry;exact fn (SeqAt.RcAt.bool_bool a1 a2) (by simp [eqT])
  | int a2=>cases r2;obtain ⟨k2,rfl⟩:=ry;exact fn (SeqAt.RcAt.bool_int a1 a2 k2) (by simp [eqT])
  | str a2=>cases r2;obtain ⟨k2,rfl⟩:=ry;exact fn (SeqAt.RcAt.bool_str a1 a2 k2) (by simp [eqT])
  | tup a2=>obtain ⟨l2,vs2,its2,rfl,rfl,_,_,_,p2⟩:=zah I fh r2 ry;exact fn (SeqAt.RcAt.bool_tuple a1 p2 hu) (by simp [eqT])
  | lst a2=>obtain ⟨l2,vs2,its2,rfl,rfl,_,_,_,p2⟩:=zak I fh r2 ry;exact fn (SeqAt.RcAt.bool_list a1 p2 hu) (by simp [eqT])
  | dk _ _=>exact absurd rfl hne
  | dt _ _=>exact absurd rfl hne
 | int a1 =>
  cases r1;obtain ⟨k1,rfl⟩:=rx;cases t2 with
  | non=>cases r2;cases ry;exact fn (SeqAt.RcAt.int_none a1 k1) (by simp [eqT])
  | bl a2=>cases r2;cases ry;exact fn (SeqAt.RcAt.int_bool a1 k1 a2) (by simp [eqT])
  | int a2=>cases r2;obtain ⟨k2,rfl⟩:=ry;exact fn (SeqAt.RcAt.int_int a1 k1 a2 k2) (by simp [eqT])
  | str a2=>cases r2;obtain ⟨k2,rfl⟩:=ry;exact fn (SeqAt.RcAt.int_str a1 k1 a2 k2) (by simp [eqT])
  | tup a2=>obtain ⟨l2,vs2,its2,rfl,rfl,_,_,_,p2⟩:=zah I fh r2 ry;exact fn (SeqAt.RcAt.int_tuple a1 k1 p2 hu) (by simp [eqT])
  | lst a2=>obtain ⟨l2,vs2,its2,rfl,rfl,_,_,_,p2⟩:=zak I fh r2 ry;exact fn (SeqAt.RcAt.int_list a1 k1 p2 hu) (by simp [eqT])
  | dk _ _=>exact absurd rfl hne
  | dt _ _=>exact absurd rfl hne
 | str a1 =>
  cases r1;obtain ⟨k1,rfl⟩:=rx;cases t2 with
  | non=>cases r2;cases ry;exact fn (SeqAt.RcAt.str_none a1 k1) (by simp [eqT])
  | bl a2=>cases r2;cases ry;exact fn (SeqAt.RcAt.str_bool a1 k1 a2) (by simp [eqT])
  | int a2=>cases r2;obtain ⟨k2,rfl⟩:=ry;exact fn (SeqAt.RcAt.str_int a1 k1 a2 k2) (by simp [eqT])
  | str a2=>cases r2;obtain ⟨k2,rfl⟩:=ry;exact fn (SeqAt.RcAt.str_str a1 k1 a2 k2) (by simp [eqT])
  | tup a2=>obtain ⟨l2,vs2,its2,rfl,rfl,_,_,_,p2⟩:=zah I fh r2 ry;exact fn (SeqAt.RcAt.str_tuple a1 k1 p2 hu) (by simp [eqT])
  | lst a2=>obtain ⟨l2,vs2,its2,rfl,rfl,_,_,_,p2⟩:=zak I fh r2 ry;exact fn (SeqAt.RcAt.str_list a1 k1 p2 hu) (by simp [eqT])
  | dk _ _=>exact absurd rfl hne
  | dt _ _=>exact absurd rfl hne
 | tup a1 =>
  obtain ⟨l1,vs1,its1,rfl,rfl,_,_,_,p1⟩:=zah I fh r1 rx;cases t2 with
  | non=>cases r2;cases ry;exact fn (SeqAt.RcAt.tuple_none p1 hu) (by simp [eqT])
  | bl a2=>cases r2;cases ry;exact fn (SeqAt.RcAt.tuple_bool a2 p1 hu) (by simp [eqT])
  | int a2=>cases r2;obtain ⟨k2,rfl⟩:=ry;exact fn (SeqAt.RcAt.tuple_int a2 k2 p1 hu) (by simp [eqT])
  | str a2=>cases r2;obtain ⟨k2,rfl⟩:=ry;exact fn (SeqAt.RcAt.tuple_str a2 k2 p1 hu) (by simp [eqT])
  | tup a2=>exact absurd rfl hne
  | lst a2=>obtain ⟨l2,vs2,its2,rfl,rfl,_,_,_,p2⟩:=zak I fh r2 ry;exact fn (SeqAt.RcAt.tuple_list p1 p2 hu) (by simp [eqT])
  | dk _ _=>exact absurd rfl hne
  | dt _ _=>exact absurd rfl hne
 | lst a1 =>
  obtain ⟨l1,vs1,its1,rfl,rfl,_,_,_,p1⟩:=zak I fh r1 rx;cases t2 with
  | non=>cases r2;cases ry;exact fn (SeqAt.RcAt.list_none p1 hu) (by simp [eqT])
  | bl a2=>cases r2;cases ry;exact fn (SeqAt.RcAt.list_bool a2 p1 hu) (by simp [eqT])
  | int a2=>cases r2;obtain ⟨k2,rfl⟩:=ry;exact fn (SeqAt.RcAt.list_int a2 k2 p1 hu) (by simp [eqT])
  | str a2=>cases r2;obtain ⟨k2,rfl⟩:=ry;exact fn (SeqAt.RcAt.list_str a2 k2 p1 hu) (by simp [eqT])
  | tup a2=>obtain ⟨l2,vs2,its2,rfl,rfl,_,_,_,p2⟩:=zah I fh r2 ry;exact fn (SeqAt.RcAt.list_tuple p1 p2 hu) (by simp [eqT])
  | lst a2=>exact absurd rfl hne
  | dk _ _=>exact absurd rfl hne
  | dt _ _=>exact absurd rfl hne
 | dk _ _=>exact absurd rfl hne
 | dt _ _=>exact absurd rfl hne
theorem zve (I:Inv X pj σ H s) (fh:Same F H) (hu:A.units<cLine) (hne:ydp t1 t2≠true) (r1:Rep X.K F t1 x) (r2:Rep X.K F t2 y) (rx:RelV x v) (ry:RelV y u):SeqAt.RcNeAt A s v u (!eqT t1 t2):=by
 have fn:∀ {b c:Bool} {v u:Value},SeqAt.RcNeAt A s v u b->b=c->SeqAt.RcNeAt A s v u c:=fun h e=>e▸h;cases t1 with
 | non =>
  cases r1;cases rx;cases t2 with
  | non=>cases r2;cases ry;exact fn (SeqAt.RcNeAt.none_none ) (by simp [eqT])
  | bl a2=>cases r2;cases ry;exact fn (SeqAt.RcNeAt.none_bool a2) (by simp [eqT])
  | int a2=>cases r2;obtain ⟨k2,rfl⟩:=ry;exact fn (SeqAt.RcNeAt.none_int a2 k2) (by simp [eqT])
  | str a2=>cases r2;obtain ⟨k2,rfl⟩:=ry;exact fn (SeqAt.RcNeAt.none_str a2 k2) (by simp [eqT])
  | tup a2=>obtain ⟨l2,vs2,its2,rfl,rfl,_,_,_,p2⟩:=zah I fh r2 ry;exact fn (SeqAt.RcNeAt.none_tuple p2 hu) (by simp [eqT])
  | lst a2=>obtain ⟨l2,vs2,its2,rfl,rfl,_,_,_,p2⟩:=zak I fh r2 ry;exact fn (SeqAt.RcNeAt.none_list p2 hu) (by simp [eqT])
  | dk _ _=>exact absurd rfl hne
  | dt _ _=>exact absurd rfl hne
 | bl a1 =>
  cases r1;cases rx;cases t2 with
  | non=>cases r2;cases ry;exact fn (SeqAt.RcNeAt.bool_none a1) (by simp [eqT])
  | bl a2=>cases r2;cases ry;exact fn (SeqAt.RcNeAt.bool_bool a1 a2) (by simp [eqT])
  | int a2=>cases r2;obtain ⟨k2,rfl⟩:=ry;exact fn (SeqAt.RcNeAt.bool_int a1 a2 k2) (by simp [eqT])
  | str a2=>cases r2;obtain ⟨k2,rfl⟩:=ry;exact fn (SeqAt.RcNeAt.bool_str a1 a2 k2) (by simp [eqT])
  | tup a2=>obtain ⟨l2,vs2,its2,rfl,rfl,_,_,_,p2⟩:=zah I fh r2 ry;exact fn (SeqAt.RcNeAt.bool_tuple a1 p2 hu) (by simp [eqT])
  | lst a2=>obtain ⟨l2,vs2,its2,rfl,rfl,_,_,_,p2⟩:=zak I fh r2 ry;exact fn (SeqAt.RcNeAt.bool_list a1 p2 hu) (by simp [eqT])
  | dk _ _=>exact absurd rfl hne
  | dt _ _=>exact absurd rfl hne
 | int a1 =>
  cases r1;obtain ⟨k1,rfl⟩:=rx;cases t2 with
  | non=>cases r2;cases ry;exact fn (SeqAt.RcNeAt.int_none a1 k1) (by simp [eqT])
  | bl a2=>cases r2;cases ry;exact fn (SeqAt.RcNeAt.int_bool a1 k1 a2) (by simp [eqT])
  | int a2=>cases r2;obtain ⟨k2,rfl⟩:=ry;exact fn (SeqAt.RcNeAt.int_int a1 k1 a2 k2) (by simp [eqT])
  | str a2=>cases r2;obtain ⟨k2,rfl⟩:=ry;exact fn (SeqAt.RcNeAt.int_str a1 k1 a2 k2) (by simp [eqT])
  | tup a2=>obtain ⟨l2,vs2,its2,rfl,rfl,_,_,_,p2⟩:=zah I fh r2 ry;exact fn (SeqAt.RcNeAt.int_tuple a1 k1 p2 hu) (by simp [eqT])
  | lst a2=>obtain ⟨l2,vs2,its2,rfl,rfl,_,_,_,p2⟩:=zak I fh r2 ry;exact fn (SeqAt.RcNeAt.int_list a1 k1 p2 hu) (by simp [eqT])
  | dk _ _=>exact absurd rfl hne
  | dt _ _=>exact absurd rfl hne
 | str a1 =>
  cases r1;obtain ⟨k1,rfl⟩:=rx;cases t2 with
  | non=>cases r2;cases ry;exact fn (SeqAt.RcNeAt.str_none a1 k1) (by simp [eqT])
  | bl a2=>cases r2;cases ry;exact fn (SeqAt.RcNeAt.str_bool a1 k1 a2) (by simp [eqT])
  | int a2=>cases r2;obtain ⟨k2,rfl⟩:=ry;exact fn (SeqAt.RcNeAt.str_int a1 k1 a2 k2) (by simp [eqT])
  | str a2=>cases r2;obtain ⟨k2,rfl⟩:=ry;exact fn (SeqAt.RcNeAt.str_str a1 k1 a2 k2) (by simp [eqT])
  | tup a2=>obtain ⟨l2,vs2,its2,rfl,rfl,_,_,_,p2⟩:=zah I fh r2 ry;exact fn (SeqAt.RcNeAt.str_tuple a1 k1 p2 hu) (by simp [eqT])
  | lst a2=>obtain ⟨l2,vs2,its2,rfl,rfl,_,_,_,p2⟩:=zak I fh r2 ry;exact fn (SeqAt.RcNeAt.str_list a1 k1 p2 hu) (by simp [eqT])
  | dk _ _=>exact absurd rfl hne
  | dt _ _=>exact absurd rfl hne
 | tup a1 =>
  obtain ⟨l1,vs1,its1,rfl,rfl,_,_,_,p1⟩:=zah I fh r1 rx;cases t2 with
  | non=>cases r2;cases ry;exact fn (SeqAt.RcNeAt.tuple_none p1 hu) (by simp [eqT])
  | bl a2=>cases r2;cases ry;exact fn (SeqAt.RcNeAt.tuple_bool a2 p1 hu) (by simp [eqT])
  | int a2=>cases r2;obtain ⟨k2,rfl⟩:=ry;exact fn (SeqAt.RcNeAt.tuple_int a2 k2 p1 hu) (by simp [eqT])
  | str a2=>cases r2;obtain ⟨k2,rfl⟩:=ry;exact fn (SeqAt.RcNeAt.tuple_str a2 k2 p1 hu) (by simp [eqT])
  | tup a2=>exact absurd rfl hne
  | lst a2=>obtain ⟨l2,vs2,its2,rfl,rfl,_,_,_,p2⟩:=zak I fh r2 ry;exact fn (SeqAt.RcNeAt.tuple_list p1 p2 hu) (by simp [eqT])
  | dk _ _=>exact absurd rfl hne
  | dt _ _=>exact absurd rfl hne
 | lst a1 =>
  obtain ⟨l1,vs1,its1,rfl,rfl,_,_,_,p1⟩:=zak I fh r1 rx;cases t2 with
  | non=>cases r2;cases ry;exact fn (SeqAt.RcNeAt.list_none p1 hu) (by simp [eqT])
  | bl a2=>cases r2;cases ry;exact fn (SeqAt.RcNeAt.list_bool a2 p1 hu) (by simp [eqT])
  | int a2=>cases r2;obtain ⟨k2,rfl⟩:=ry;exact fn (SeqAt.RcNeAt.list_int a2 k2 p1 hu) (by simp [eqT])
  | str a2=>cases r2;obtain ⟨k2,rfl⟩:=ry;exact fn (SeqAt.RcNeAt.list_str a2 k2 p1 hu) (by simp [eqT])
  | tup a2=>obtain ⟨l2,vs2,its2,rfl,rfl,_,_,_,p2⟩:=zah I fh r2 ry;exact fn (SeqAt.RcNeAt.list_tuple p1 p2 hu) (by simp [eqT])
  | lst a2=>exact absurd rfl hne
  | dk _ _=>exact absurd rfl hne
  | dt _ _=>exact absurd rfl hne
 | dk _ _=>exact absurd rfl hne
 | dt _ _=>exact absurd rfl hne
theorem zpe (I:Inv X pj σ H s) (fh:Same F H):∀ (n:Nat) (A:Around) (t1 t2:T) (x y:V) (v u:Value),A.units+n<cLine->dpP t1 t2<=n->Rep X.K F t1 x->Rep X.K F t2 y->RelV x v->RelV y u->SeqAt.EqAt A s v u (eqT t1 t2):=by
 intro n
 induction n with
 | zero =>intro A t1 t2 x y v u hA hd r1 r2 rx ry;refine yej I fh hA ?_ r1 r2 rx ry;intro h;have nd:=yfr hd (by omega);cases t1<;>cases t2<;>first | (cases h;done) | (cases nd.1;done) | (cases nd.2;done) | (rw [dpP] at hd;omega)
 | succ n ih =>
  intro A t1 t2 x y v u hA hd r1 r2 rx ry;have hu:A.units<cLine:=by omega
  have ih':=fun (t1 t2:T) (x y:V) (v u:Value) h=>ih A.in1 t1 t2 x y v u (show A.units+1+n<cLine by omega) h;have nd:=yfr hd (by have:cLine=9900:=rfl;omega);by_cases hb:ydp t1 t2=true
  ·cases t1 with
   | tup ts =>
    cases t2 with
    | tup us =>
     rw [dpP] at hd;by_cases hs:v=u
     ·subst hs;have e:x=y:=by obtain ⟨_,_,rfl,_⟩:=r1;obtain ⟨_,_,rfl,_⟩:=r2;cases rx;cases ry;rfl
      subst e;have e:=zfg I fh r1 r2;cases e;rw [zdx _ (by rw [dpP];have:cLine=9900:=rfl;omega)];exact .same v
     ·obtain ⟨l1,vs1,its1,rfl,rfl,_,q1,w1,p1⟩:=zah I fh r1 rx;obtain ⟨l2,vs2,its2,rfl,rfl,_,q2,w2,p2⟩:=zah I fh r2 ry;have h:=SeqAt.RcAt.tuples p1 p2 hu (zdv (fun t1 t2 x y v u h a b c d=>ih' t1 t2 x y v u h a b c d) (Nat.le_of_succ_le_succ hd) q1 q2 w1 w2);obtain ⟨z1,z2⟩:=zh8 q1 q2 w1 w2;rw [z1,z2,<- zc7] at h;rw [eqT];exact .of_refs (fun e=>hs (by rw [e])) h
    | dk _ _=>cases nd.2
    | dt _ _=>cases nd.2
    | _=>cases hb
   | lst ts =>
    cases t2 with
    | lst us =>
     rw [dpP] at hd;by_cases hs:v=u
     ·subst hs;have e:x=y:=by obtain ⟨_,_,rfl,_⟩:=r1;obtain ⟨_,_,rfl,_⟩:=r2;cases rx;cases ry;rfl
      subst e;have e:=zfg I fh r1 r2;cases e;rw [zdx _ (by rw [dpP];have:cLine=9900:=rfl;omega)];exact .same v
     ·obtain ⟨l1,vs1,its1,rfl,rfl,_,q1,w1,p1⟩:=zak I fh r1 rx;obtain ⟨l2,vs2,its2,rfl,rfl,_,q2,w2,p2⟩:=zak I fh r2 ry;obtain ⟨z1,z2⟩:=zh8 q1 q2 w1 w2;rw [eqT];refine .of_refs (fun e=>hs (by rw [e])) ?_;by_cases hl:ts.length=us.length
      ·have h:=SeqAt.RcAt.lists p1 p2 (by rw [z1,z2,hl]) hu (zdv (fun t1 t2 x y v u h a b c d=>ih' t1 t2 x y v u h a b c d) (Nat.le_of_succ_le_succ hd) q1 q2 w1 w2);rw [z1] at h;rw [zi9 hl];exact h
      ·rw [zms hl];exact SeqAt.RcAt.lists_lengths p1 p2 (by rw [z1,z2];simpa using hl) hu
    | dk _ _=>cases nd.2
    | dt _ _=>cases nd.2
    | _=>cases hb
   | dk _ _=>cases nd.1
   | dt _ _=>cases nd.1
   | _=>cases t2<;>first | (cases hb;done) | (cases nd.2;done)
  ·exact yej I fh hu hb r1 r2 rx ry
theorem zt4 (I:Inv X pj σ H s) (fh:Same F H) (hA:A.units+n<cLine) (hd:dpP t1 t2<=n) (r1:Rep X.K F t1 x) (r2:Rep X.K F t2 y) (rx:RelV x v) (ry:RelV y u):SeqAt.RcAt A s v u (eqT t1 t2)/\SeqAt.RcNeAt A s v u (!eqT t1 t2):=by
 have hu:A.units<cLine:=by omega
 have nd:=yfr hd (by have:cLine=9900:=rfl;omega);by_cases hb:ydp t1 t2=true
 ·cases n with
  | zero =>exfalso;have nd:=yfr hd (by omega);cases t1<;>cases t2<;>first | (cases hb;done) | (cases nd.1;done) | (cases nd.2;done) | (rw [dpP] at hd;omega)
  | succ n =>
   have ih':=fun (t1 t2:T) (x y:V) (v u:Value) h=>zpe I fh n A.in1 t1 t2 x y v u (show A.units+1+n<cLine by omega) h;cases t1 with
   | tup ts =>
    cases t2 with
    | tup us =>rw [dpP] at hd;obtain ⟨l1,vs1,its1,rfl,rfl,_,q1,w1,p1⟩:=zah I fh r1 rx;obtain ⟨l2,vs2,its2,rfl,rfl,_,q2,w2,p2⟩:=zah I fh r2 ry;have pa:=zdv (fun t1 t2 x y v u h a b c d=>ih' t1 t2 x y v u h a b c d) (Nat.le_of_succ_le_succ hd) q1 q2 w1 w2;have h:=SeqAt.RcAt.tuples p1 p2 hu pa;have g:=SeqAt.RcNeAt.tuples p1 p2 hu pa;obtain ⟨z1,z2⟩:=zh8 q1 q2 w1 w2;rw [z1,z2,<- zc7] at h g;rw [eqT];exact ⟨h,g⟩
    | dk _ _=>cases nd.2
    | dt _ _=>cases nd.2
    | _=>cases hb
   | lst ts =>
    cases t2 with
    | lst us =>
     rw [dpP] at hd;obtain ⟨l1,vs1,its1,rfl,rfl,_,q1,w1,p1⟩:=zak I fh r1 rx;obtain ⟨l2,vs2,its2,rfl,rfl,_,q2,w2,p2⟩:=zak I fh r2 ry;obtain ⟨z1,z2⟩:=zh8 q1 q2 w1 w2;rw [eqT];by_cases hl:ts.length=us.length
     ·have pa:=zdv (fun t1 t2 x y v u h a b c d=>ih' t1 t2 x y v u h a b c d) (Nat.le_of_succ_le_succ hd) q1 q2 w1 w2;have h:=SeqAt.RcAt.lists p1 p2 (by rw [z1,z2,hl]) hu pa;have g:=SeqAt.RcNeAt.lists p1 p2 (by rw [z1,z2,hl]) hu pa;rw [z1] at h g;rw [zi9 hl];exact ⟨h,g⟩
     ·rw [zms hl];exact ⟨SeqAt.RcAt.lists_lengths p1 p2 (by rw [z1,z2];simpa using hl) hu,SeqAt.RcNeAt.lists_lengths p1 p2 (by rw [z1,z2];simpa using hl) hu⟩
    | dk _ _=>cases nd.2
    | dt _ _=>cases nd.2
    | _=>cases hb
   | dk _ _=>cases nd.1
   | dt _ _=>cases nd.1
   | _=>cases t2<;>first | (cases hb;done) | (cases nd.2;done)
 ·exact ⟨zt3 I fh hu hb r1 r2 rx ry,zve I fh hu hb r1 r2 rx ry⟩
end
end
section
variable {pj:List (Addr × Obj)} {σ:L2.St} {H F:Hp} {s:Shared} {K:PySem.W.Frag} {t t1:T} {v:Value} {x:V}
section
variable {X:Cx}
theorem zfh {a:Addr} {xs:List V} (I:Inv X pj σ H s) (h:Ls X.K H a xs):∃ qc:List Value,Vals xs qc/\s.heap.IsList a qc.toArray/\xs.length<=sizeLine:=by have q:SqL X.K H a xs:=h.sq;obtain ⟨qc,r,p,z⟩:=I.list q;exact ⟨qc,r,p.isList,z⟩
def vOf:T->V
 | .non=>.non
 | .bl b=>.bl b
 | .int i=>.int i
 | .str x=>.str x
 | _=>.non
theorem zif {v:V} (h:Rep K F t v) (f:flat t=true):v=vOf t:=by
 cases t with
 | tup _=>cases f
 | lst _=>cases f
 | dk _ _=>cases f
 | dt _ _=>cases f
 | _=>exact h
theorem zmq (f:flat t=true):yc0 (vOf t)=true:=by cases t<;>first | rfl | cases f
theorem zxu {u:T} (f:flat t=true) (g:flat u=true):eqV (vOf t) (vOf u)=eqT t u:=by cases t<;>cases u<;>first | (exact absurd f Bool.false_ne_true) | (exact absurd g Bool.false_ne_true) | rfl | simp [vOf,eqV,eqT]
theorem zus (hu:X.A.units+100<cLine):OpS X (compareOp .Eq) eqC:=by
 intro pj s σ H x y v u Q I rx ry h;obtain ⟨F,t1,t2,t,fh,r1,r2,ht,q⟩:=h;simp only [eqC] at ht;split at ht
 ·rename_i hd;cases ht;exact (zt4 I fh (n:=30) (by omega) hd r1 r2 rx ry).1 _ _ _ _ ⟨.bl _,H,I,rfl,q _ F H (Step.refl fh) rfl⟩
 ·cases ht
theorem zup (hu:X.A.units+100<cLine):OpS X (compareOp .NotEq) neC:=by
 intro pj s σ H x y v u Q I rx ry h;obtain ⟨F,t1,t2,t,fh,r1,r2,ht,q⟩:=h;simp only [neC] at ht;split at ht
 ·rename_i hd;cases ht;exact (zt4 I fh (n:=30) (by omega) hd r1 r2 rx ry).2 _ _ _ _ ⟨.bl _,H,I,rfl,q _ F H (Step.refl fh) rfl⟩
 ·cases ht
theorem ziy {v:V} {k:Kt} (r:Rep K F t v) (h:ye5 t=some k):v=kV k:=by cases t<;>first | (cases h;exact r) | cases h
theorem zb1 {K:PySem.W.Frag} {F:Hp}:∀ {ts:List T} {vs:List V} {ks:List Kt},Reps K F ts vs->yb8 ts=some ks->vs=ks.map kV
 | [],_,_,r,h=>by cases r;cases h;rfl
 | t::ts,_,_,r,h=>by obtain ⟨v,vr,rfl,r1,r2⟩:=r;obtain ⟨k,h1,h⟩:=obs h;obtain ⟨ks,h2,h⟩:=obs h;cases h;rw [ziy r1 h1,zb1 r2 h2];rfl
theorem zuq (hu:X.A.units+100<cLine):OpS X (compareOp .Lt) ltC:=by
 intro pj s σ H x y v u Q I rx ry h;obtain ⟨F,t1,t2,t,fh,r1,r2,ht,q⟩:=h;cases t1 with
 | int i =>
  cases t2 with
  | int j =>cases ht;cases r1;cases r2;exact zxc pj s σ H _ _ v u Q I rx ry ⟨_,_,rfl,rfl,q _ F H (Step.refl fh) rfl⟩
  | _=>cases ht
 | str i =>
  cases t2 with
  | str j =>cases ht;cases r1;cases r2;exact zle pj s σ H _ _ v u Q I rx ry ⟨_,_,rfl,rfl,q _ F H (Step.refl fh) rfl⟩
  | _=>cases ht
 | _=>cases ht
theorem zur:OpS X (compareOp .Gt) (yax .gt):=by intro pj s σ H x y v u Q I rx ry h;obtain ⟨F,t1,t2,t,fh,r1,r2,ht,q⟩:=h;cases t1<;>cases t2<;>simp only [yax] at ht<;>cases ht;cases r1;cases r2;exact zxd pj s σ H _ _ v u Q I rx ry ⟨_,_,rfl,rfl,q _ F H (Step.refl fh) rfl⟩
theorem zge {K:PySem.W.Frag} {F:Hp}:∀ {ts:List T} {vs:List V},Reps K F ts vs->ts.all flat=true->vs=ts.map vOf
 | [],_,h,_=>h
 | t::ts,_,h,f=>by obtain ⟨v,r,rfl,h1,h2⟩:=h;rw [List.all_cons,zx7] at f;rw [zx4,zif h1 f.1,zge h2 f.2]
theorem zng {ts:List T} (g:ts.all flat=true):(ts.map vOf).all yc0=true:=by
 induction ts with
 | nil=>rfl
 | cons t ts ih =>rw [List.all_cons,zx7] at g;rw [zx4,List.all_cons,zmq g.1,ih g.2];rfl
theorem zgn (I:Inv X pj σ H s) (fh:Same F H) {A:Around} (hA:A.units+30<cLine) (r1:Rep X.K F t1 x) (rx:RelV x v):∀ {ts:List T} {vs:List V} {us:List Value},dpI t1 ts=true->Reps X.K F ts vs->Vals vs us ->
  ∃ e:Value->Bool,(∀ w∈us,SeqAt.EqAt A s w v (e w))/\us.map e=ts.map fun z=>eqT z t1:=by
 classical
 intro ts vs us hd r rv;have one:∀ {ts:List T} {vs:List V} {us:List Value},dpI t1 ts=true->Reps X.K F ts vs->Vals vs us->∀ w∈us,∃ t∈ts,SeqAt.EqAt A s w v (eqT t t1)/\∃ y,Rep X.K F t y/\RelV y w:=by
  intro ts
  induction ts with
  | nil=>intro vs us _ r rv w hw;cases r;cases rv;cases hw
  | cons t ts ih =>
   intro vs us hd r rv w hw;obtain ⟨y,vr,rfl,r2,r3⟩:=r;cases rv with
   | cons a b =>
    unfold dpI at hd;rw [List.all_cons,zx7,zze] at hd;rcases omc hw with rfl | hw
    ·exact ⟨t,zyc,zpe I fh 30 A _ _ _ _ _ _ hA hd.1 r2 r1 a rx,_,r2,a⟩
    ·obtain ⟨t',h1,h2⟩:=ih hd.2 r3 b w hw;exact ⟨t',zx8 _ h1,h2⟩
 obtain ⟨e,he⟩:∃ e:Value->Bool,∀ w t y,Rep X.K F t y->RelV y w->e w=eqT t t1:=by refine ⟨fun w=>if h:∃ t,(∃ y,Rep X.K F t y/\RelV y w) then eqT (Classical.choose h) t1 else false,fun w t y h3 h4=>?_⟩;have h:∃ t,(∃ y,Rep X.K F t y/\RelV y w):=⟨t,y,h3,h4⟩;obtain ⟨y',h5,h6⟩:=Classical.choose_spec h;have e:y=y':=zn9 h4 h6;subst e;simp only [dif_pos h];rw [<- zfg I fh h3 h5]
 refine ⟨e,fun w hw=>?_,?_⟩
 ·obtain ⟨t,_,h2,y,h3,h4⟩:=one hd r rv w hw;rw [he w t y h3 h4];exact h2
 ·clear one
  induction ts generalizing vs us with
  | nil=>cases r;cases rv;rfl
  | cons t ts ih =>
   obtain ⟨y,vr,rfl,r2,r3⟩:=r;cases rv with
   | cons a b =>unfold dpI at hd;rw [List.all_cons,zx7] at hd;rw [zx4,zx4,ih hd.2 r3 b,he _ t y r2 a]
theorem zi1 (I:Inv X pj σ H s) (fh:Same F H) {A:Around} (hA:A.units+30<cLine) (r1:Rep X.K F t1 x) (rx:RelV x v):∀ {ts:List T} {vs:List V} {us:List Value},dpI t1 ts=true->Reps X.K F ts vs->Vals vs us ->
  ∃ e:Value->Bool,(∀ w∈us,SeqAt.EqAt A s w v (e w))/\us.any e=ts.any fun z=>eqT z t1:=by
 intro ts vs us hd r rv;obtain ⟨e,e1,e2⟩:=zgn I fh hA r1 rx hd r rv;refine ⟨e,e1,?_⟩;have:=zym (fun l:List Bool=>l.any id) e2;simpa [List.any_map,Function.comp_def] using this
theorem zqi (hu:X.A.units+100<cLine) {t2:T} {y:V} {u:Value} {b:Bool} (I:Inv X pj σ H s) (fh:Same F H) (r1:Rep X.K F t1 x) (r2:Rep X.K F t2 y) (rx:RelV x v) (ry:RelV y u) (h:inC t1 t2=some b) (hnd:∀ ks us,t2≠.dt ks us) {Q:Bool->Shared->Prop} (q:Q b s) {Q2:Value->Shared->Prop} :
  ((∀ b,Q b s->Q2 (.bool b) s)->wpAny (model X.prog X.w) X.A (compareOp .In v u) Q2 X.xe s)/\((∀ b,Q b s->Q2 (.bool (!b)) s)->wpAny (model X.prog X.w) X.A (compareOp .NotIn v u) Q2 X.xe s):=by
 cases t2 with
 | tup ts =>
  simp only [inC] at h;split at h
  ·rename_i hd;cases h;obtain ⟨a,vs,qc,rfl,rfl,_,q1,w1,p1⟩:=zah I fh r2 ry;obtain ⟨e,e1,e2⟩:=zi1 I fh (A:=X.A.in1) (show X.A.units+1+30<cLine by omega) r1 rx hd q1 w1;have e3:qc.toArray.any e=ts.any fun z=>eqT z t1:=by rw [<- e2];simp
   exact ⟨fun k=>SeqAt.in_tupleAt e p1 (fun w hw=>e1 w (by simpa using hw)) (by rw [e3];exact k _ q),fun k=>SeqAt.notIn_tupleAt e p1 (fun w hw=>e1 w (by simpa using hw)) (by rw [e3];exact k _ q)⟩
  ·cases h
 | lst ts =>
  simp only [inC] at h;split at h
  ·rename_i hd;cases h;obtain ⟨a,vs,qc,rfl,rfl,_,q1,w1,p1⟩:=zak I fh r2 ry;obtain ⟨e,e1,e2⟩:=zi1 I fh (A:=X.A.in1) (show X.A.units+1+30<cLine by omega) r1 rx hd q1 w1;have e3:qc.toArray.any e=ts.any fun z=>eqT z t1:=by rw [<- e2];simp
   exact ⟨fun k=>SeqAt.in_listAt e p1 (fun w hw=>e1 w (by simpa using hw)) (by rw [e3];exact k _ q),fun k=>SeqAt.notIn_listAt e p1 (fun w hw=>e1 w (by simpa using hw)) (by rw [e3];exact k _ q)⟩
  ·cases h
 | dt ks us=>exact absurd rfl (hnd ks us)
 | _=>cases h
theorem zma {ks:List (List Kt)} {us:List T} {y:V} {u:Value} {b:Bool} (I:Inv X pj σ H s) (fh:Same F H) (r1:Rep X.K F t1 x) (r2:Rep X.K F (.dt ks us) y) (rx:RelV x v) (ry:RelV y u) (h:inC t1 (.dt ks us)=some b):∃ a z o,u=.ref a/\DGet H a z o/\RelV z v/\o.isSome=b:=by
 cases t1 with
 | tup xs =>obtain ⟨k,hk,rfl⟩:=oms h;obtain ⟨a,ws,rfl,g1,g2,g3⟩:=r2;obtain ⟨c,vs,rfl,g4,g5⟩:=r1;cases rx;cases ry;subst g2;have eb:=zb1 g5 hk;subst eb;exact ⟨a,.ref c,ybp ws k,rfl,DGet.t (fh _ _ g1) (fh _ _ g4),rfl,by rw [<- zcb,List.any_map];rfl⟩
 | _=>cases h
theorem ye7 (hu:X.A.units+100<cLine):OpS X (compareOp .In) (yax .isin):=by
 intro pj s σ H x y v u Q I rx ry h;obtain ⟨F,t1,t2,t,fh,r1,r2,ht,q⟩:=h;simp only [yax] at ht;obtain ⟨b,hb,rfl⟩:=oms ht;by_cases hq:∃ ks us,t2=.dt ks us
 ·obtain ⟨ks,us,rfl⟩:=hq;obtain ⟨a,z,o,rfl,g,rz,e⟩:=zma I fh r1 r2 rx ry hb;exact d_in (by omega) I g rz fun s' I'=>⟨.bl o.isSome,H,I',rfl,by rw [e];exact q _ F H (Step.refl fh) rfl⟩
 exact (zqi hu I fh r1 r2 rx ry hb (fun ks us e=>hq ⟨ks,us,e⟩) (Q:=fun b _=>Q (.bl b) H) (q _ F H (Step.refl fh) rfl)).1 fun b k=>⟨.bl b,H,I,rfl,k⟩
theorem ydn (hu:X.A.units+100<cLine):OpS X (compareOp .NotIn) (yax .notin):=by
 intro pj s σ H x y v u Q I rx ry h;obtain ⟨F,t1,t2,t,fh,r1,r2,ht,q⟩:=h;simp only [yax] at ht;obtain ⟨b,hb,rfl⟩:=oms ht;by_cases hq:∃ ks us,t2=.dt ks us
 ·obtain ⟨ks,us,rfl⟩:=hq;obtain ⟨a,z,o,rfl,g,rz,e⟩:=zma I fh r1 r2 rx ry hb;exact zs5 (by omega) I g rz fun s' I'=>⟨.bl (!o.isSome),H,I',rfl,by rw [e];exact q _ F H (Step.refl fh) rfl⟩
 exact (zqi hu I fh r1 r2 rx ry hb (fun ks us e=>hq ⟨ks,us,e⟩) (Q:=fun b _=>Q (.bl (!b)) H) (q _ F H (Step.refl fh) rfl)).2 fun b k=>⟨.bl (!b),H,I,rfl,k⟩
theorem zr8:OpS X (compareOp .Is) (yax .isN):=by
 intro pj s σ H x y v u Q I rx ry h;obtain ⟨F,t1,t2,t,fh,r1,r2,ht,q⟩:=h;have e2:t2=.non:=by cases t2<;>first | rfl | (cases t1<;>simp [yax] at ht)
 subst e2;cases r2;have e:t=.bl (decide (x=.non)):=by
  cases t1 with
  | non=>cases r1;cases ht;simp
  | bl _=>cases r1;cases ht;simp
  | int _=>cases r1;cases ht;simp
  | str _=>cases r1;cases ht;simp
  | tup _=>obtain ⟨a,vs,rfl,_⟩:=r1;cases ht;simp
  | lst _=>obtain ⟨a,vs,rfl,_⟩:=r1;cases ht;simp
  | dk _ _=>obtain ⟨a,vs,rfl,_⟩:=r1;cases ht;simp
  | dt _ _=>obtain ⟨a,vs,rfl,_⟩:=r1;cases ht;simp
 subst e;exact zuv pj s σ H _ _ v u Q I rx ry ⟨rfl,q _ F H (Step.refl fh) rfl⟩
theorem zom:OpS X (compareOp .IsNot) (yax .notN):=by
 intro pj s σ H x y v u Q I rx ry h;obtain ⟨F,t1,t2,t,fh,r1,r2,ht,q⟩:=h;have e2:t2=.non:=by cases t2<;>first | rfl | (cases t1<;>simp [yax] at ht)
 subst e2;cases r2;have e:t=.bl (!decide (x=.non)):=by
  cases t1 with
  | non=>cases r1;cases ht;simp
  | bl _=>cases r1;cases ht;simp
  | int _=>cases r1;cases ht;simp
  | str _=>cases r1;cases ht;simp
  | tup _=>obtain ⟨a,vs,rfl,_⟩:=r1;cases ht;simp
  | lst _=>obtain ⟨a,vs,rfl,_⟩:=r1;cases ht;simp
  | dk _ _=>obtain ⟨a,vs,rfl,_⟩:=r1;cases ht;simp
  | dt _ _=>obtain ⟨a,vs,rfl,_⟩:=r1;cases ht;simp
 subst e;exact zsb pj s σ H _ _ v u Q I rx ry ⟨rfl,q _ F H (Step.refl fh) rfl⟩
theorem zon:OpS X (compareOp .IsNot) (yax .notF):=by
 intro pj s σ H x y v u Q I rx ry h;obtain ⟨F,t1,t2,t,fh,r1,r2,ht,q⟩:=h;have e2:t2=.bl false:=by
  cases t2 with
  | bl b=>cases b<;>first | rfl | (cases t1<;>simp [yax] at ht)
  | _=>cases t1<;>simp [yax] at ht
 subst e2;cases r2;cases ry;cases t1 with
 | bl b =>cases r1;cases rx;cases ht;refine isnot_bool ⟨.bl b,H,I,?_,q _ F H (Step.refl fh) rfl⟩;cases b<;>rfl
 | non =>cases r1;cases rx;cases ht;exact zx5 (a:=Value.bool (Value.none != Value.bool false)) ⟨.bl true,H,I,rfl,q _ F H (Step.refl fh) rfl⟩
 | _=>simp [yax] at ht
theorem zp9 (hu:X.A.units+100<cLine) {op:CmpOp} {e:Expr} {o:Co} (h:yey op e=some o):OpS X (compareOp op) (yax o)/\behindInMarks op e=false:=by
 cases op with
 | Eq=>cases h;exact ⟨zus hu,yb4 _⟩
 | NotEq=>cases h;exact ⟨zup hu,yb4 _⟩
 | Lt=>cases h;exact ⟨zuq hu,yb4 _⟩
 | LtE=>cases h
 | Gt=>cases h;exact ⟨zur,yb4 _⟩
 | GtE=>cases h
 | Is =>
  simp only [yey] at h;split at h
  ·cases h;exact ⟨zr8,yb4 _⟩
  ·cases h
 | IsNot =>
  simp only [yey] at h;split at h
  ·cases h;exact ⟨zom,yb4 _⟩
  ·split at h
   ·cases h;exact ⟨zon,yb4 _⟩
   ·cases h
 | In =>
  simp only [yey] at h;split at h
  ·cases h
  ·rename_i hb;cases h;exact ⟨ye7 hu,by simpa using hb⟩
 | NotIn =>
  simp only [yey] at h;split at h
  ·cases h
  ·rename_i hb;cases h;exact ⟨ydn hu,by simpa using hb⟩
theorem zut {op:Operator} {o:Bo} (h:yfz op=some o):OpS X (binaryOp op) (ya0 o):=by
 cases op<;>simp only [yfz] at h<;>cases h
 ·exact zr9
 ·exact zr5
 ·exact zr6
 ·exact zr7
 ·exact zoo
end
end
section
variable {K:PySem.W.Frag} {f g:Env->Option T} {G:Glo} {k n:Nat} {rest es:List Expr}
section
variable {X:Cx} {c:Tc} {a b:Expr} {pos:Pos}
theorem zqj {F:Hp} {ts:List T} {vs:List V} {i:Int} {t:T} (r:Reps K F ts vs) (h:ybf ts i=some t):∃ v,atI vs i=some v/\Rep K F t v:=by unfold ybf at h;obtain ⟨j,h1,h2⟩:=obs h;obtain ⟨v,h3,h4⟩:=r.get h2;refine ⟨v,?_,h4⟩;unfold atI;rw [r.length];exact Option.bind_eq_some_iff.mpr ⟨j,h1,h3⟩
theorem zq1 {prog:Program} {w:World} {A:Around} {E:Value->Shared->Prop} {s:Shared} {value slice:Expr} {o i:Value} {T id:String} {Q:Value->Shared->Prop}
  (hl:typeLookup (.type T) "__getitem__"=pure (some (.builtin id))) (hs:subscripted slice false o i=operate [o,i] (getItem o i)) (hT:s.TypeIs o T) (h:wpAny (model prog w) A (getItem o i) Q E s) :
  wpAny (model prog w) A (subscriptTail value slice o i) Q E s:=by
 unfold subscriptTail;refine zx1 ?_;rw [getitemInPython_of_ne hT.not_modules];refine zx1 (wpAny_specialOf hT hl ?_);have fin:wpAny (model prog w) A (subscripted slice false o i) (fun r s₃=>wpAny (model prog w) A (letTemporaryGo value o r >>= fun _=>pure r) Q E s₃) E s:=by rw [hs];exact wpAny_operating (zzi h (fun r s₃ h₃=>zx1 (wpAny_letTemporaryGo (zx5 h₃))) fun _ _ x=>x)
 first
  | exact zx5 (zx1 fin)
  | exact zx1 (zx5 (zx1 fin))
  | exact zx1 fin
theorem zgj {κ:Type} [DecidableEq κ] {K:PySem.W.Frag} {F:Hp}:∀ {ws:List (κ × V)} {ts:List T} {k:κ} {t:T},Reps K F ts (ws.map (·.2))->ycw (ws.map (·.1)) ts k=some t->∃ v,ybp ws k=some v/\Rep K F t v
 | [],_,_,_,_,h=>by simp [ycw] at h
 | p::ws,[],_,_,r,_=>by cases r
 | p::ws,u::ts,k,t,r,h=>by
  obtain ⟨v,vr,e,r1,r2⟩:=r;rw [zx4] at e;injection e with e1 e2;rw [zx4,ycw] at h;by_cases hk:p.1=k
  ·rw [if_pos hk] at h;cases h;exact ⟨p.2,zbl hk,by rw [e1];exact r1⟩
  ·rw [if_neg hk] at h;rw [zbm hk];exact zgj (by rw [e2];exact r2) h
theorem ixs (hu:X.A.units+1<cLine):IxR X (fun x y H Q=>∃ F t1 t2 t,Same F H/\Rep X.K F t1 x/\Rep X.K F t2 y/\yah t1 t2=some t/\∀ v F' H',Step F H F' H'->Rep X.K F' t v->Q v H'):=by
 intro value slice pj s σ H x y v u Q I rx ry h hs;obtain ⟨F,t1,t2,t,fh,r1,r2,ht,q⟩:=h;cases t1 with
 | tup ts =>
  cases t2 with
  | int i =>cases r2;obtain ⟨p,vs,rfl,h1,h2⟩:=r1;obtain ⟨w,h3,h4⟩:=zqj h2 ht;exact zv2 value slice pj s σ H _ _ v u Q I rx ry ⟨p,vs,i,w,rfl,rfl,zai fh h1,h3,q _ F H (Step.refl fh) h4⟩ hs
  | _=>cases ht
 | lst ts =>
  cases t2 with
  | int i =>cases r2;obtain ⟨p,vs,rfl,h1,h2⟩:=r1;obtain ⟨w,h3,h4⟩:=zqj h2 ht;exact zsu value slice pj s σ H _ _ v u Q I rx ry ⟨p,vs,i,w,rfl,rfl,(Ls.same fh h1).sq,h3,q _ F H (Step.refl fh) h4⟩ hs
  | _=>cases ht
 | dt ks us =>
  cases t2 with
  | tup xs =>
   obtain ⟨k,h1,h2⟩:=obs ht;obtain ⟨a,ws,rfl,g1,g2,g3⟩:=r1;obtain ⟨b,vs,rfl,g4,g5⟩:=r2;cases rx;cases ry;subst g2;obtain ⟨w,w1,w2⟩:=zgj g3 h2;have eb:=zb1 g5 h1;subst eb;have g:DGet H a (.ref b) (some w):=by rw [<- w1];exact DGet.t (fh _ _ g1) (fh _ _ g4)
   exact zq1 PySem.F.slot_dict_getitem.lookup hs (zhz I g) (zmy hu I g rfl fun w' s3 I3 rw'=>⟨w,H,I3,rw',q _ F H (Step.refl fh) w2⟩)
  | _=>cases ht
 | _=>cases t2<;>cases ht
theorem zu5 (hu:X.A.units+1<cLine) (ha:Oke X c a f) (hb:Oke X c b g) (hs:zh6 b):Oke X c (.Subscript a b pos) (fun r=>(f r).bind fun x=>(g r).bind fun y=>yah x y):=by refine za4 (zxa (ixs hu) ha hb hs) fun σ H Q q=>?_;obtain ⟨r,F,t,e,ht,q⟩:=q;obtain ⟨t1,e1,ht⟩:=obs ht;obtain ⟨t2,e2,ht⟩:=obs ht;refine ⟨r,F,t1,e,e1,fun v1 F1 H1 s1 r1=>⟨r,F1,t2,e.step s1,e2,fun v2 F2 H2 s2 r2=>?_⟩⟩;exact ⟨F2,t1,t2,t,s2.fh,r1.mono s2.ff,r2,ht,fun v F' H' s3 r3=>q v F' H' (s1.trans (s2.trans s3)) r3⟩
theorem zie {F:Hp} {ts:List T} {vs:List V} (r:Reps K F ts vs) (lo hi:Option Int):Reps K F (cut ts lo hi) (yds vs lo hi):=by
 unfold cut yds;have e:∀ (n d:Nat) (o:Option Int),HT.sIx n d o=yc8 n d o:=fun n d o=>by cases o<;>rfl
 rw [e,e,r.length];exact (r.drop _).take _
theorem sls:SlR X (fun x lo hi H Q=>∃ F t1 t,Same F H/\Rep X.K F t1 x/\ybb t1 lo hi=some t/\∀ v F' H',Step F H F' H'->Rep X.K F' t v->Q v H'):=by
 intro pj s σ H x v vl vu lo hi sl Q I rx hs pl pu h;obtain ⟨F,t1,t,fh,r1,ht,q⟩:=h;cases t1 with
 | tup ts =>
  simp only [ybb] at ht;cases ht;obtain ⟨p,vs,rfl,h1,h2⟩:=r1;have e:∀ (n d:Nat) (o:Option Int),HT.sIx n d o=yc8 n d o:=fun n d o=>by cases o<;>rfl
  by_cases hw:yc8 ts.length 0 lo=0/\yc8 ts.length ts.length hi=ts.length
  ·refine zn6 pj s σ H _ v vl vu lo hi sl Q I rx hs pl pu ⟨p,vs,rfl,zai fh h1,by rw [e,e,h2.length];exact hw,?_⟩;have ec:cut ts lo hi=ts:=by unfold cut;rw [hw.1,hw.2];simp
   exact q _ F H (Step.refl fh) ⟨p,vs,rfl,h1,by rw [ec];exact h2⟩
  ·refine zts pj s σ H _ v vl vu lo hi sl Q I rx hs pl pu ⟨p,vs,rfl,zai fh h1,by rw [e,e,h2.length];exact hw,fun p' hp=>?_⟩;have st:=(Step.refl fh).new (o:=.tup (yds vs lo hi)) hp;exact q _ _ _ st ⟨p',_,rfl,zag,(zie h2 lo hi).mono st.ff⟩
 | lst ts =>simp only [ybb] at ht;cases ht;obtain ⟨p,vs,rfl,h1,h2⟩:=r1;refine zrc pj s σ H _ v vl vu lo hi sl Q I rx hs pl pu ⟨p,vs,rfl,(Ls.same fh h1).sq,fun p' hp=>?_⟩;have st:=(Step.refl fh).new (o:=.lst (yds vs lo hi)) hp;exact q _ _ _ st ⟨p',_,rfl,Ls.of zag,(zie h2 lo hi).mono st.ff⟩
 | _=>simp [ybb] at ht
def spO (X:Cx) (c:Tc) (f:Env->Option (Option T)):TO:=fun σ H Q=>∃ r F o,EnvE X c r F σ H/\(f r).bind asI=some o/\∀ F' H',Step F H F' H'->Q o H'
theorem zk5 {e:Option Expr} {t t':TO} (h:PO X e t) (m:∀ σ H Q,t' σ H Q->t σ H Q):PO X e t':=fun pj s σ H Q I q=>h pj s σ H Q I (m σ H Q q)
theorem zjx:PO X none (spO X c fun _=>some none):=by refine zk5 zrv fun σ H Q q=>?_;obtain ⟨r,F,o,e,ht,q⟩:=q;cases ht;exact q F H (Step.refl e.fh)
theorem zjw (h:Oke X c a f):PO X (some a) (spO X c fun r=>(f r).map some):=by
 refine zk5 (zru h) fun σ H Q q=>?_;obtain ⟨r,F,o,e,ht,q⟩:=q;obtain ⟨o',e1,ht⟩:=obs ht;obtain ⟨t,e2,rfl⟩:=oms e1;refine ⟨r,F,t,e,e2,fun v F' H' s1 r1=>?_⟩;cases t with
 | int i=>cases ht;cases r1;exact ⟨i,rfl,q F' H' s1⟩
 | _=>cases ht
theorem zu0 {lo hi:Option Expr} {g h:Env->Option (Option T)} {p2:Pos} (ha:Oke X c a f) (hl:PO X lo (spO X c g)) (hh:PO X hi (spO X c h)) :
  Oke X c (.Subscript a (.Slice lo hi none p2) pos) (fun r=>(f r).bind fun x=>(g r).bind fun l=>(h r).bind fun u=>(asI l).bind fun l'=>(asI u).bind fun u'=>ybb x l' u'):=by
 refine za4 (zol sls ha hl hh) fun σ H Q q=>?_;obtain ⟨r,F,t,e,ht,q⟩:=q;obtain ⟨t1,e1,ht⟩:=obs ht;obtain ⟨l,e2,ht⟩:=obs ht;obtain ⟨u,e3,ht⟩:=obs ht;obtain ⟨l',e4,ht⟩:=obs ht;obtain ⟨u',e5,ht⟩:=obs ht;refine ⟨r,F,t1,e,e1,fun v1 F1 H1 s1 r1=>⟨r,F1,l',e.step s1,Option.bind_eq_some_iff.mpr ⟨l,e2,e4⟩,fun F2 H2 s2=>⟨r,F2,u',e.step (s1.trans s2),Option.bind_eq_some_iff.mpr ⟨u,e3,e5⟩,fun F3 H3 s3=>?_⟩⟩⟩;exact ⟨F3,t1,t,s3.fh,r1.mono (s2.trans s3).ff,ht,fun v F' H' s4 r4=>q v F' H' (s1.trans (s2.trans (s3.trans s4))) r4⟩
theorem zu7 {t:T} {v:V} (h:PE X a (tC v)) (r:∀ F,Rep X.K F t v):Oke X c a (fun _=>some t):=by refine za4 h fun σ H Q q=>?_;obtain ⟨r',F,t',e,ht,q⟩:=q;cases ht;exact q v F H (Step.refl e.fh) (r F)
theorem zuy (gd:Gd X c G k) {x:Str} {i:Nat} (hp:zac x=true) (hv:ybu c.sc x=true) (hi:yam c.nm x=some i):Oke X c (.Name x pos) (fun r=>(r[i]?).join):=by
 have hpn:=hp;simp only [zac,Bool.and_eq_true,Bool.not_eq_true'] at hp;intro pj s σ H Q I q;obtain ⟨r,F,t,e,ht,q⟩:=q;have ht:(r[i]?).join=some t:=ht;have ht':r[i]?=some (some t):=by
  cases h:r[i]? with
  | none=>rw [h] at ht;cases ht
  | some o=>rw [h] at ht;cases o with
   | none=>cases ht
   | some z=>cases ht;rfl
 obtain ⟨j,v,h1,h2,h3⟩:=e.get x i t hpn hi hv ht';exact zex h1 (gd.vis x hv) hp.1.1.1 hp.1.1.2 pj s σ H Q I ⟨v,h2,q v F H (Step.refl e.fh) h3⟩
theorem zu6 (gd:Gd X c G k) {x:Str} (hp:zac x=true) (hg:glB c.sc x=true):Oke X c (.Name x pos) (fun _=>G.con x):=by simp only [zac,Bool.and_eq_true,Bool.not_eq_true'] at hp;intro pj s σ H Q I q;obtain ⟨r,F,t,e,ht,q⟩:=q;obtain ⟨u,v,h1,h2,h3⟩:=gd.con x t ht;exact zr0 (gd.gl x hg) h1 h2 hp.1.1.1 pj s σ H Q I (q v F H (Step.refl e.fh) (h3 F))
theorem zu1 (ha:Oke X c a f):Oke X c (.UnaryOp .Not a pos) (fun r=>(f r).bind fun x=>match x with | .bl b=>some (.bl (!b)) | _=>none):=by
 refine za4 (zul ha) fun σ H Q q=>?_;obtain ⟨r,F,t,e,ht,q⟩:=q;obtain ⟨t1,e1,ht⟩:=obs ht;cases t1 with
 | bl b=>cases ht;exact ⟨r,F,_,e,e1,fun v F' H' s1 r1=>by cases r1;exact ⟨b,rfl,q _ F' H' s1 rfl⟩⟩
 | _=>cases ht
theorem zu2 (ha:Oke X c a f):Oke X c (.UnaryOp .USub a pos) (fun r=>(f r).bind fun x=>match x with | .int i=>some (.int (-i)) | _=>none):=by
 refine za4 (zw8 ztk ha) fun σ H Q q=>?_;obtain ⟨r,F,t,e,ht,q⟩:=q;obtain ⟨t1,e1,ht⟩:=obs ht;cases t1 with
 | int b=>cases ht;exact ⟨r,F,_,e,e1,fun v F' H' s1 r1=>by cases r1;exact ⟨b,rfl,q _ F' H' s1 rfl⟩⟩
 | _=>cases ht
theorem zva (ha:Oke X c a f) (hb:Oke X c (.BoolOp .And (b::rest) pos) g):Oke X c (.BoolOp .And (a::b::rest) pos) (fun r=>(f r).bind fun x=>match x with | .bl true=>g r | .bl false=>some (.bl false) | _=>none):=by
 refine za4 (zuo ha hb) fun σ H Q q=>?_;obtain ⟨r,F,t,e,ht,q⟩:=q;obtain ⟨t1,e1,ht⟩:=obs ht;cases t1 with
 | bl d =>
  refine ⟨r,F,_,e,e1,fun v F' H' s1 r1=>?_⟩;cases r1;cases d with
  | true=>exact ⟨true,rfl,yfv ⟨r,F',t,e.step s1,ht,fun v2 F2 H2 s2 r2=>q v2 F2 H2 (s1.trans s2) r2⟩⟩
  | false=>cases ht;exact ⟨false,rfl,yfw (q _ F' H' s1 rfl)⟩
 | _=>cases ht
theorem zxf (ha:Oke X c a f) (hb:Oke X c (.BoolOp .Or (b::rest) pos) g):Oke X c (.BoolOp .Or (a::b::rest) pos) (fun r=>(f r).bind fun x=>match x with | .bl true=>some (.bl true) | .bl false=>g r | _=>none):=by
 refine za4 (zw9 ha hb) fun σ H Q q=>?_;obtain ⟨r,F,t,e,ht,q⟩:=q;obtain ⟨t1,e1,ht⟩:=obs ht;cases t1 with
 | bl d =>
  refine ⟨r,F,_,e,e1,fun v F' H' s1 r1=>?_⟩;cases r1;cases d with
  | true=>cases ht;exact ⟨true,rfl,yfv (q _ F' H' s1 rfl)⟩
  | false=>exact ⟨false,rfl,yfw ⟨r,F',t,e.step s1,ht,fun v2 F2 H2 s2 r2=>q v2 F2 H2 (s1.trans s2) r2⟩⟩
 | _=>cases ht
abbrev Okw (X:Cx) (c:Tc) (e:Expr) (f:Env->Option T):Prop:=PW X e (spB X c f)
theorem ztm (ha:Okt X c a f) (hb:Okw X c (.BoolOp .And (b::rest) pos) g):Okw X c (.BoolOp .And (a::b::rest) pos) (fun r=>(f r).bind fun x=>match x with | .bl true=>g r | .bl false=>some (.bl false) | _=>none):=by
 refine zk2 (zt8 ha hb) fun σ H Q q=>?_;obtain ⟨r,F,k,e,ht,q⟩:=q;obtain ⟨t1,e1,ht⟩:=obs ht;cases t1 with
 | bl d =>
  refine ⟨r,F,d,e,e1,fun F' H' s1=>?_⟩;cases d with
  | true=>exact yfv ⟨r,F',k,e.step s1,ht,fun F2 H2 s2=>q F2 H2 (s1.trans s2)⟩
  | false=>cases ht;exact yfw (q F' H' s1)
 | _=>cases ht
theorem zwx (ha:Okt X c a f) (hb:Okw X c (.BoolOp .Or (b::rest) pos) g):Okw X c (.BoolOp .Or (a::b::rest) pos) (fun r=>(f r).bind fun x=>match x with | .bl true=>some (.bl true) | .bl false=>g r | _=>none):=by
 refine zk2 (zw6 ha hb) fun σ H Q q=>?_;obtain ⟨r,F,k,e,ht,q⟩:=q;obtain ⟨t1,e1,ht⟩:=obs ht;cases t1 with
 | bl d =>
  refine ⟨r,F,d,e,e1,fun F' H' s1=>?_⟩;cases d with
  | true=>cases ht;exact yfv (q F' H' s1)
  | false=>exact yfw ⟨r,F',k,e.step s1,ht,fun F2 H2 s2=>q F2 H2 (s1.trans s2)⟩
 | _=>cases ht
theorem zwz (ha:Okt X c a f):Okt X c (.UnaryOp .Not a pos) (fun r=>(f r).bind fun x=>match x with | .bl b=>some (.bl (!b)) | _=>none):=by
 refine zhc (zuc ha) fun σ H Q q=>?_;obtain ⟨r,F,k,e,ht,q⟩:=q;obtain ⟨t1,e1,ht⟩:=obs ht;cases t1 with
 | bl d =>refine ⟨r,F,d,e,e1,fun F' H' s1=>?_⟩;cases ht;exact q F' H' s1
 | _=>cases ht
theorem zqx {F H:Hp} {t:T} {v:V} {b:Bool} (fh:Same F H) (r:Rep K F t v) (h:ybh t=some b):ygm K v H b:=by
 cases t with
 | non=>cases r;cases h;rfl
 | bl _=>cases r;cases h;rfl
 | int _=>cases r;cases h;rfl
 | str _=>cases h
 | tup ts =>obtain ⟨p,vs,rfl,h1,h2⟩:=r;cases h;refine .inr (.inl ⟨vs,zai fh h1,?_⟩);have e:=h2.length;cases vs<;>cases ts<;>first | rfl | simp at e
 | lst ts =>obtain ⟨p,vs,rfl,h1,h2⟩:=r;cases h;refine .inl ⟨vs,(Ls.same fh h1).sq,?_⟩;have e:=h2.length;cases vs<;>cases ts<;>first | rfl | simp at e
 | dk _ _=>cases h
 | dt _ _=>cases h
theorem zwy (ha:Oke X c a f) (he:∀ whole,isTrue a X.env whole=(do let v <- whole;standAt a.pos;holding [v] (truthy v))):Okt X c a (fun r=>(f r).bind fun x=>(ybh x).map .bl):=by refine zhc (zof ha he) fun σ H Q q=>?_;obtain ⟨r,F,k,e,ht,q⟩:=q;obtain ⟨t1,e1,ht⟩:=obs ht;obtain ⟨b,e2,h2⟩:=oms ht;cases h2;exact ⟨r,F,t1,e,e1,fun v F' H' s1 r1=>⟨k,zqx s1.fh r1 e2,q F' H' s1⟩⟩
theorem zhf {t t':TA} (h:PA X es t) (m:∀ σ H Q,t' σ H Q->t σ H Q):PA X es t':=fun p pj s σ H Q I q=>h p pj s σ H Q I (m σ H Q q)
theorem zqa:PA X [] (spL X c fun _=>some []):=by refine zhf zil fun σ H Q q=>?_;obtain ⟨r,F,ts,e,ht,q⟩:=q;cases ht;exact q [] F H (Step.refl e.fh) rfl
theorem zhh {g:Env->Option (List T)} (ha:Oke X c a f) (hr:PA X es (spL X c g)) (hs:starEach (a::es) X.env=(false,eval a X.env)::starEach es X.env):PA X (a::es) (spL X c fun r=>(f r).bind fun x=>(g r).bind fun xs=>some (x::xs)):=by refine zhf (zd8 ha hr hs) fun σ H Q q=>?_;obtain ⟨r,F,ts,e,ht,q⟩:=q;obtain ⟨t1,e1,ht⟩:=obs ht;obtain ⟨t2,e2,ht⟩:=obs ht;cases ht;exact ⟨r,F,t1,e,e1,fun v1 F1 H1 s1 r1=>⟨r,F1,t2,e.step s1,e2,fun vs F2 H2 s2 r2=>q _ F2 H2 (s1.trans s2) ⟨v1,vs,rfl,r1.mono s2.ff,r2⟩⟩⟩
theorem zuz {g:Env->Option (List T)} (h:PA X es (spL X c g)) (hl:∀ r ts,g r=some ts->ts.length=n):Oke X c (.Tuple es k pos) (fun r=>if n<=1000 then (g r).map .tup else none):=by
 refine za4 (zuh h) fun σ H Q q=>?_;obtain ⟨r,F,t,e,ht,q⟩:=q;split at ht
 ·rename_i hn;obtain ⟨ts,e1,rfl⟩:=oms ht;refine ⟨r,F,ts,e,e1,fun vs F' H' s1 r1=>⟨by rw [r1.length,hl r ts e1];exact Nat.le_of_lt (zgc hn),fun p hp=>?_⟩⟩;have st:=s1.new (o:=.tup vs) hp;exact q _ _ _ st ⟨p,vs,rfl,zag,r1.mono (zbh (s1.fh.free hp))⟩
 ·cases ht
def spN (X:Cx) (c:Tc) (f:Env->Option T):TE:=fun σ H Q=>∃ r F ts,EnvE X c r F σ H/\f r=some (.lst ts)/\∀ p vs F' H1,Step F H F' H1->H1 p=none->Reps X.K F' ts vs->Q (.ref p) (upd H1 p (.lst vs))
theorem zlf {g:Env->Option (List T)} (h:PA X es (spL X c g)) (hl:∀ r ts,g r=some ts->ts.length=n):PE X (.List es pos) (spN X c (fun r=>if n<=1000 then (g r).map .lst else none)):=by
 refine za4 (zp8 h) fun σ H Q q=>?_;obtain ⟨r,F,t,e,ht,q⟩:=q;split at ht
 ·rename_i hn;obtain ⟨ts,e1,e2⟩:=oms ht;cases e2;exact ⟨r,F,t,e,e1,fun vs F' H' s1 r1=>⟨by rw [r1.length,hl r t e1];exact Nat.le_of_lt (zgc hn),fun p hp=>q p vs F' H' s1 hp r1⟩⟩
 ·cases ht
theorem zu3 {g:Env->Option (List T)} (h:PA X es (spL X c g)) (hl:∀ r ts,g r=some ts->ts.length=n):Oke X c (.List es pos) (fun r=>if n<=1000 then (g r).map .lst else none):=by
 refine za4 (zlf h hl) fun σ H Q q=>?_;obtain ⟨r,F,t,e,ht,q⟩:=q;have ht':=ht;split at ht
 ·obtain ⟨ts,e1,rfl⟩:=oms ht;refine ⟨r,F,ts,e,ht',fun p vs F' H' s1 hp r1=>?_⟩;exact q _ _ _ (s1.new hp) ⟨p,vs,rfl,Ls.of zag,r1.mono (zbh (s1.fh.free hp))⟩
 ·cases ht
theorem zsg (gd:Gd X c G k) {f:Str} {g:Env->Option (List T)} {p:Pos} (hg:glB c.sc f=true) (hp:zac f=true) (h:PA X (a::es) (spL X c g)) (he:starEach (a::es) X.env=(false,eval a X.env)::starEach es X.env)
  (hpl:(backTo pos (starEach es X.env)).any (·.1)=false):Oke X c (.Call (.Name f p) (a::es) [] pos) (fun r=>(g r).bind fun xs=>G.call f xs):=by
 simp only [zac,Bool.and_eq_true,Bool.not_eq_true'] at hp;intro pj s σ H Q I q;obtain ⟨r,F,t,e,ht,q⟩:=q;obtain ⟨ts,e1,ht⟩:=obs ht;obtain ⟨ad,fd,ps,h1,h2,h3,h4⟩:=gd.call f ts t (by rw [yc7,hp.2.2.1,hp.2.2.2];rfl) ht;refine zr2 h1 gd.room (gd.gl f hg) h2 h3 h4 .nil ygk h hp.1.1.1 he hpl pj s σ H Q I ?_;refine ⟨r,F,ts,e,e1,fun vs F' H' s1 r1=>?_⟩;show spT X.K (G.call f) (vs++[]) H' Q E0;rw [zyh];exact ⟨F',ts,t,s1.fh,e.tb.up s1,r1,ht,fun v F2 H2 s2 r2=>q v F2 H2 (s1.trans s2) r2⟩
end
end
end Ev
namespace L2
open PySem
section
variable {l:Addr} {items:Array Value} {Q:Value->Shared->Prop}
open AutoSeq1 (wpAny_loadPart')
section
variable {prog:Program} {w:World} {A:Around} {E:Value->Shared->Prop} {s:Shared}
theorem zdg {it:Addr} {i:Nat} {x:Value} (hit:s.heap.IsTupleIter it l i)
  (hl:s.heap.IsTuple l items) (hx:items[i]?=some x)
  (hQ:∀ h',h'.IsTupleIter it l (i+1)->Heap.SameBut it s.heap h'->Q x { s with heap:=h' }) :
  wpAny (model prog w) A (Builtin.SmallTypes.nextOf (.ref it)) Q E s:=by
 obtain ⟨o,ho,hc,hd⟩:=id hit;obtain ⟨ol,hol,_,nl,hdl⟩:=hl;unfold Builtin.SmallTypes.nextOf;refine zx1 (zy1 (name:=Str.ofString "__next__") hit.typeIs F.slot_tuple_iterator_next
  (zyw F.slot_tuple_iterator_next hit.typeIs F.entry_tuple_iterator_next ?_ (F.args_tuple_iterator_next_1 _)))
 show wpAny _ _ (field (.ref it) 0 >>= _) _ _ s;refine zx1 (wpAny_field ho hd (x:=.ref l) rfl ?_);show wpAny _ _ (if (Value.ref l==Value.none)=true then _ else _) _ _ s;rw [if_neg (show ¬ ((Value.ref l==Value.none)=true) from zyg)];show wpAny _ _ (field (.ref it) 1 >>= _) _ _ s;refine zx1 (wpAny_field ho hd (x:=.int i 0) rfl ?_);show wpAny _ _ (seqItems? (.ref l) >>= _) _ _ s;refine zx1 (wpAny_seqItems hol hdl ?_);simp only [Int.toNat_natCast,hx];refine wpAny_bind (wpAny_setField ho hd (by simp) (wpAny_pure ⟨x,rfl,wpAny_pure (hQ _ ?_ (Heap.SameBut.update ..))⟩));exact ⟨_,Heap.get?_update_self _ ho (Obj.isFreed_of_fields (Obj.data_mapFields hd _)),(Obj.cls_mapFields ..).trans hc,by rw [Obj.data_mapFields hd];simp [rawInt]⟩
theorem zds {it:Addr} {i:Nat} (hh:A.handled=none)
  (hit:s.heap.IsTupleIter it l i) (hl:s.heap.IsTuple l items) (hx:items[i]?=none)
  (hE:∀ h' e,Heap.ExtBut it s.heap h'->(∃ o,h'.get? e=some o/\o.cls=.type "StopIteration")->E (.ref e) { s with heap:=h' }) :
  wpAny (model prog w) A (Builtin.SmallTypes.nextOf (.ref it)) Q E s:=by
 obtain ⟨o,ho,hc,hd⟩:=id hit;obtain ⟨ol,hol,_,nl,hdl⟩:=hl;unfold Builtin.SmallTypes.nextOf;refine zx1 (zy1 (name:=Str.ofString "__next__") hit.typeIs F.slot_tuple_iterator_next
  (zyw F.slot_tuple_iterator_next hit.typeIs F.entry_tuple_iterator_next ?_ (F.args_tuple_iterator_next_1 _)))
 show wpAny _ _ (field (.ref it) 0 >>= _) _ _ s;refine zx1 (wpAny_field ho hd (x:=.ref l) rfl ?_);show wpAny _ _ (if (Value.ref l==Value.none)=true then _ else _) _ _ s;rw [if_neg (show ¬ ((Value.ref l==Value.none)=true) from zyg)];show wpAny _ _ (field (.ref it) 1 >>= _) _ _ s;refine zx1 (wpAny_field ho hd (x:=.int i 0) rfl ?_);show wpAny _ _ (seqItems? (.ref l) >>= _) _ _ s;refine zx1 (wpAny_seqItems hol hdl ?_);simp only [Int.toNat_natCast,hx]
 first
  | refine wpAny_bind (wpAny_rule (wpAny_bind (wpAny_setField ho hd (by simp) (wpAny_bind (wpAny_letGo ?_)))))
  | refine wpAny_bind (wpAny_rule (wpAny_bind (wpAny_setField ho hd (by simp) ?_)))
 show wpAny _ _ (newExc (.type "StopIteration") [] >>= _) _ _ _;refine zx1 ?_;simp only [newExc,newTuple];refine zx1 (zyz ?_ (by size_fits));refine wpAny_bind (m:=firstArgMember _ _) (wpAny_of_eq (a:=Value.none) (by first | rfl | (simp only [firstArgMember];rfl)) ?_);refine zyz ?_ (by size_fits);simp only [raiseNew];refine zx1 (wpAny_handled ?_)
 first | rw [show A.in1.handled=none from hh] | rw [hh]
 refine zx1 (zx5 (wpAny_throw ?_));exact hE _ _ (((Heap.SameBut.update ..).extBut.push _).push _) ⟨_,zx9 _ rfl,rfl⟩
end
theorem zcx {prog:Program} {w:World} {A:Around} (hh:A.handled=none) (it l:Addr) (hne:l≠it) (items:Array Value) :
  Draws prog w A it [it,l] items.size (fun i v=>items[i]?=some v) (fun i h=>h.IsTupleIter it l i/\h.IsTuple l items) where
 live:=fun _ _ st=>let ⟨o,ho,_⟩:=st.1;⟨o,ho⟩
 frame:=fun _ _ _ st hk=>⟨let ⟨o,ho,r⟩:=st.1;⟨o,hk it (by simp) o ho,r⟩,let ⟨o,ho,r⟩:=st.2;⟨o,hk l (by simp) o ho,r⟩⟩
 item:=fun i s Q E hi st hQ=>by refine zdg st.1 st.2 (x:=items[i]) (by simp [hi]) fun h' hit' hs'=>?_;exact hQ _ h' s.toks (by simp [hi]) ⟨hit',let ⟨o,ho,r⟩:=st.2;⟨o,hs'.extBut l o hne ho,r⟩⟩ hs'
 done:=fun s Q E st hE=>zds hh st.1 st.2 (by simp) hE
theorem zeb (l:Addr) (items:Array Value) (n:Nat) (dct:Option Addr) (sl:Array (Option Value)) :
  Meets (Builtin.«enumerate.__new__» ⟨[.type "enumerate",.ref l],[]⟩) (fun _ R s=>s.heap.get? l=some { cls:=.type "tuple",dict:=dct,data:=.seq items n,slots:=sl } /\
   R (.ok (.ret (.ref (s.heap.push { cls:=.type "tuple_iterator",data:=.fields #[.ref l,.int 0 0] }).objs.size)))
    { s with heap:=(s.heap.push { cls:=.type "tuple_iterator",data:=.fields #[.ref l,.int 0 0] }).push { cls:=.type "enumerate",data:=.fields #[.none,.bool false,.ref s.heap.objs.size,rawInt 0,.none,.none] } }) :=
 .of_wp fun prog w A R s h=>by
  obtain ⟨hp,g,d,tk,os⟩:=s;obtain ⟨hl,h⟩:=h;have hsub:=sub_enumerate;have hL:Heap.IsTuple (Shared.heap ⟨hp,g,d,tk,os⟩) l items:=⟨_,hl,rfl,n,rfl⟩
  wp_walk using wpAny_loadPart' hl
  refine wpAny_stack_any fun st=>zx5 ?_;split
  ·rename_i c _ _ _ _ _;cases (c==Value.type "enumerate")
   ·wp_walk using wpAny_loadPart' hl,wpAny_pyIter_tuple hL
    exact ⟨_,rfl,h⟩
   ·wp_walk using wpAny_loadPart' hl,wpAny_pyIter_tuple hL
    exact ⟨_,rfl,h⟩
  ·wp_walk using wpAny_loadPart' hl,wpAny_pyIter_tuple hL
   exact ⟨_,rfl,h⟩
section
variable {prog:Program} {w:World} {A:Around} {E:Value->Shared->Prop} {s:Shared}
theorem zeo (hL:s.heap.IsTuple l items)
  (h:∀ h',IsEnum h' (s.heap.objs.size+1) s.heap.objs.size 0 .none->h'.IsTupleIter s.heap.objs.size l 0->h'.objs.size=s.heap.objs.size+2 ->
   (∀ b o,s.heap.get? b=some o->h'.get? b=some o)->Q (.ref (s.heap.objs.size+1)) { s with heap:=h' }) :
  wpAny (model prog w) A (call (.type "enumerate") [.ref l]) Q E s:=by
 obtain ⟨⟨c,dct,dt,sl⟩,hl,hc,n,hd⟩:=hL;replace hc:c=.type "tuple":=hc;replace hd:dt=.seq items n:=hd;subst hc hd;refine callType_new F.called_enumerate (by decide) (F.typeCall_enumerate_1 _) (F.newCall_enumerate_1 _) (fun obj=>F.args_object_init_2 obj _) F.entry_enumerate_new
  (zeb l items n dct sl) ⟨hl,?_⟩
 have hz:(s.heap.push { cls:=.type "tuple_iterator",data:=.fields #[.ref l,.int 0 0] }).objs.size=s.heap.objs.size+1:=zyl ..;show _/\_;rw [hz];have he:IsEnum ((s.heap.push { cls:=.type "tuple_iterator",data:=.fields #[.ref l,.int 0 0] }).push
   { cls:=.type "enumerate",data:=.fields #[.none,.bool false,.ref s.heap.objs.size,rawInt 0,.none,.none] }) (s.heap.objs.size+1) s.heap.objs.size 0 .none:=by
  have:=zx9 (s.heap.push { cls:=.type "tuple_iterator",data:=.fields #[.ref l,.int 0 0] })
   (o:={ cls:=.type "enumerate",data:=.fields #[.none,.bool false,.ref s.heap.objs.size,rawInt 0,.none,.none] }) rfl
  rw [hz] at this;exact this
 refine ⟨⟨_,he,rfl⟩,h _ he ⟨_,zxz _ (zx9 _ rfl),rfl,rfl⟩ (by rw [zyl,hz]) fun b o x=>zxz _ (zxz _ x)⟩
end
end
section
open PySem Spec PyProof.Rows
theorem zcv {env:PySem.Env}:∀ (names:List (Str × NameKind)) (x:Str),
  (names.map fun (n,k)=>if (k==NameKind.free&&env.scope.kind==.function&&env.kindOf n==some .cell) then (n,NameKind.cell) else (n,k)).lookup x =
   (match names.lookup x with | some .free=>if (env.scope.kind==.function&&env.kindOf x==some .cell) then some .cell else some .free | o=>o)
 | [],_=>rfl
 | (n,k)::r,x=>by
  rw [zx4];cases hx:x==n with
  | false =>
   have e:∀ k',List.lookup x ((n,k')::(r.map fun (n,k)=>if (k==NameKind.free&&env.scope.kind==.function&&env.kindOf n==some .cell) then (n,NameKind.cell) else (n,k)))=List.lookup x (r.map fun (n,k)=>if (k==NameKind.free&&env.scope.kind==.function&&env.kindOf n==some .cell) then (n,NameKind.cell) else (n,k)):=fun k'=>by rw [zy0,hx]
   have e2:List.lookup x ((n,k)::r)=List.lookup x r:=by rw [zy0,hx]
   rw [e2,<- zcv r x];show List.lookup x ((if (k==NameKind.free&&env.scope.kind==.function&&env.kindOf n==some .cell)=true then (n,NameKind.cell) else (n,k))::_)=_;by_cases hc:(k==NameKind.free&&env.scope.kind==.function&&env.kindOf n==some .cell)=true
   ·rw [if_pos hc];exact e _
   ·rw [if_neg hc];exact e _
  | true =>
   have en:x=n:=beq_iff_eq.mp hx;subst en;have e2:List.lookup x ((x,k)::r)=some k:=by rw [zy0,beq_self_eq_true]
   rw [e2];have e:∀ k',List.lookup x ((x,k')::(r.map fun (n,k)=>if (k==NameKind.free&&env.scope.kind==.function&&env.kindOf n==some .cell) then (n,NameKind.cell) else (n,k)))=some k':=fun k'=>by rw [zy0,beq_self_eq_true]
   cases k<;>simp only [beq_self_eq_true,Bool.true_and,reduceCtorEq,Bool.false_and,Bool.false_eq_true,if_false,show (NameKind.local==NameKind.free)=false from rfl,show (NameKind.cell==NameKind.free)=false from rfl,show (NameKind.globalExplicit==NameKind.free)=false from rfl,show (NameKind.globalImplicit==NameKind.free)=false from rfl]<;>first | exact e _ | (split<;>exact e _)
def yce (sc:Scope) (N:List Str):List Str:=N.filter fun y=>sc.names.lookup y==some .free
def yca (sc:Scope):List Str->St->St
 | x::N,o::σ=>if sc.names.lookup x==some .free then o::yca sc N σ else yca sc N σ
 | _,_=>[]
theorem zji (sc:Scope):∀ (N:List Str) (σ:St),σ.length=N.length->(yca sc N σ).length=(yce sc N).length
 | [],[],_=>rfl
 | [],_::_,h=>by simp at h
 | _::_,[],h=>by simp at h
 | x::N,o::σ,h=>by
  unfold yca yce;rw [List.filter_cons];have ih:=zji sc N σ (by simpa using h);unfold yce at ih;split
  ·simp [ih]
  ·exact ih
theorem zm5 (sc:Scope) {x:Str} (hx:sc.names.lookup x=some .free):∀ (N:List Str) (σ:St),σ.length=N.length->∀ {j:Nat} {v:V},N[j]?=some x->σ[j]?=some (some v)->∃ (i:Nat),(yce sc N)[i]?=some x/\(yca sc N σ)[i]?=some (some v)
 | [],[],_,j,v,h1,h2=>by simp at h1
 | [],_::_,h,_,_,_,_=>by simp at h
 | _::_,[],h,_,_,_,_=>by simp at h
 | y::N,o::σ,h,0,v,h1,h2=>by
  simp at h1 h2;subst h1 h2;refine ⟨0,?_,?_⟩
  ·unfold yce;rw [List.filter_cons,if_pos (by rw [hx];rfl)];rfl
  ·unfold yca;rw [if_pos (by rw [hx];rfl)];rfl
 | y::N,o::σ,h,j+1,v,h1,h2=>by
  obtain ⟨i,h3,h4⟩:=zm5 sc hx N σ (by simpa using h) (j:=j) (v:=v) (by simpa using h1) (by simpa using h2);unfold yce at h3 ⊢;rw [List.filter_cons];unfold yca;split
  ·exact ⟨i+1,by simpa using h3,by simpa using h4⟩
  ·exact ⟨i,h3,h4⟩
theorem zm4 (sc:Scope):∀ (N:List Str) (σ:St) {i:Nat} {x:Str} {v:V},(yce sc N)[i]?=some x->(yca sc N σ)[i]?=some (some v)->σ.length=N.length->sc.names.lookup x=some .free/\∃ (j:Nat),N[j]?=some x/\σ[j]?=some (some v)
 | [],_,i,x,v,h1,_,_=>by unfold yce at h1;simp at h1
 | _::_,[],_,_,_,_,_,h=>by simp at h
 | y::N,o::σ,i,x,v,h1,h2,h=>by
  unfold yce at h1;rw [List.filter_cons] at h1;unfold yca at h2;by_cases hy:(sc.names.lookup y==some .free)=true
  ·rw [if_pos hy] at h1 h2;cases i with
   | zero =>simp at h1 h2;subst h1 h2;exact ⟨by simpa using hy,0,rfl,rfl⟩
   | succ i =>obtain ⟨h3,j,h4,h5⟩:=zm4 sc N σ (i:=i) (by simpa [yce] using h1) (by simpa using h2) (by simpa using h);exact ⟨h3,j+1,by simpa using h4,by simpa using h5⟩
  ·rw [if_neg hy] at h1 h2;obtain ⟨h3,j,h4,h5⟩:=zm4 sc N σ (i:=i) (by simpa [yce] using h1) h2 (by simpa using h);exact ⟨h3,j+1,by simpa using h4,by simpa using h5⟩
def blk (X:Cx) (pj:List (Addr × Obj)) (scope:Scope) (xs:List Str) (fp:List Addr) (s₃:Shared) (H₃:Hp):Cx where
 prog:=X.prog
 w:=X.w
 K:=X.K
 mg:=X.mg
 base:=X.base
 A:=X.A
 N:=xs++yce scope X.N
 s₀:=s₃
 H₀:=H₃
 env:={ scope:=relabel scope X.env,locals:=s₃.heap.objs.size,globals:=X.env.globals,cells:=cellsFrom (s₃.heap.objs.size+1) scope.names (za5 X.env scope.names []),qual:=X.env.qual,func:=none,code:=X.env.code,frame:=X.env.frame,builtins:=X.env.builtins }
 outer:=X.stack
 stack:=X.stack
 ex:=fp
 fn:=fun x=>scope.names.lookup x==some .cell
 calm:=X.calm
 pn:=X.pn++pj
 xe:=fun _ _=>False
structure CompSc (X:Cx) (scope:Scope) (xs:List Str):Prop where
 kind:scope.kind=.function
 nd:xs.Nodup
 own:∀ x∈xs,scope.names.lookup x=some .local\/scope.names.lookup x=some .cell
 free:∀ y∈scope.names,y.2=.free->scope.names.lookup y.1=some .free/\(X.env.kindOf y.1=some .cell\/X.env.kindOf y.1=some .free)
 loc:∀ y∈scope.names,y.2=.local->scope.names.lookup y.1=some .local
 cel:∀ y∈scope.names,y.2=.cell->scope.names.lookup y.1=some .cell
section
variable {X:Cx} {pj:List (Addr × Obj)} {scope:Scope} {xs:List Str} {fp:List Addr} {s₃:Shared} {H₃:Hp} {σ:St}
theorem CompSc.has (S:CompSc X scope xs) (ok:X.Ok):∀ y∈scope.names,y.2=.free->∃ c,X.env.cells.lookup y.1=some c:=fun y hy hf=>ok.has y.1 (S.free y hy hf).2
theorem zcj (scope:Scope) (X:Cx) (pj:List (Addr × Obj)) (xs:List Str) (fp:List Addr) (s₃:Shared) (H₃:Hp) (x:Str):(blk X pj scope xs fp s₃ H₃).env.scope.names.lookup x =
  (match scope.names.lookup x with | some .free=>if (X.env.scope.kind==.function&&X.env.kindOf x==some .cell) then some .cell else some .free | o=>o):=zcv scope.names x
theorem zcu (S:CompSc X scope xs) (ok:X.Ok) {x:Str} {c:Addr} (h:(blk X pj scope xs fp s₃ H₃).env.cells.lookup x=some c) :
  (s₃.heap.objs.size+1<=c/\(x,c)∈cellsFrom (s₃.heap.objs.size+1) scope.names []/\(x,NameKind.cell)∈scope.names)\/((cellsFrom (s₃.heap.objs.size+1) scope.names []).lookup x=none/\X.env.cells.lookup x=some c):=by
 rcases ydb h with h | ⟨h1,h2⟩
 ·obtain ⟨h1,h2⟩:=zdb scope.names _ h;exact .inl ⟨h1,h,h2⟩
 ·exact .inr ⟨h1,zd1 scope.names [] (fun _ _ e=>by cases e) (S.has ok) x c h2⟩
theorem zb0 {l:List (Str × NameKind)} {x:Str} {k:NameKind} (h:l.lookup x=some k):(x,k)∈l:=PySem.mem_of_lookup h
theorem zqr (S:CompSc X scope xs) (I:Inv X pj σ H₃ s₃) (ff:∀ b∈fp,ycj X pj H₃ b) (fl:∀ b∈fp,b<s₃.heap.objs.size):(blk X pj scope xs fp s₃ H₃).Ok where
 mod:=I.ok.mod
 kind:=S.kind
 glob:=I.ok.glob
 blt:=I.ok.blt
 above:=zye _
 inj:=fun x y c h1 h2=>by
  have up:∀ {z:Str} {c:Addr},X.env.cells.lookup z=some c->c<s₃.heap.objs.size:=fun {z c} h=>by obtain ⟨v,q⟩:=I.cell z c h;exact q.lt
  rcases zcu S I.ok h1 with ⟨a1,a2,_⟩ | ⟨_,a2⟩<;>rcases zcu S I.ok h2 with ⟨b1,b2,_⟩ | ⟨_,b2⟩
  ·have ok:=cellsFrom_ok scope.names (s₃.heap.push { cls:=.type "dict",data:=.dict #[] }) (s₃.heap.objs.size+1) [] ⟨fun _ _ hm=>(nomatch hm),List.Pairwise.nil⟩ (by rw [zyl];exact zye _);rw [zyl] at ok;exact name_of_addr ok.apart a2 b2
  ·exact absurd (zyi (up b2) (Nat.le_of_succ_le a1)) (zy9 _)
  ·exact absurd (zyi (up a2) (Nat.le_of_succ_le b1)) (zy9 _)
  ·exact I.ok.inj x y c a2 b2
 has:=fun x h=>by
  have h':(blk X pj scope xs fp s₃ H₃).env.scope.names.lookup x=some .cell\/(blk X pj scope xs fp s₃ H₃).env.scope.names.lookup x=some .free:=h;rw [zcj] at h';have key:(x,NameKind.cell)∈scope.names\/(x,NameKind.free)∈scope.names:=by
   cases e:scope.names.lookup x with
   | none=>rw [e] at h';rcases h' with h' | h'<;>cases h'
   | some k =>
    rw [e] at h';cases k with
    | cell=>exact .inl (zb0 e)
    | free=>exact .inr (zb0 e)
    | _=>rcases h' with h' | h'<;>cases h'
  refine Option.isSome_iff_exists.mp (zdc scope.names _ _ ?_);rcases key with k | k
  ·exact .inl k
  ·exact .inr (zd2 scope.names [] (.inl k))
 cab:=fun x c hf h=>by
  have hf':scope.names.lookup x=some .cell:=by simpa [blk] using hf
  have hs:=zdc (x:=x) scope.names (s₃.heap.objs.size+1) [] (.inl (zb0 hf'));rcases zcu S I.ok h with ⟨a1,_⟩ | ⟨a1,_⟩
  ·exact Nat.le_of_lt (zyi (Nat.lt_succ_self _) a1)
  ·rw [a1] at hs;cases hs
 hd:=I.ok.hd
 frames:=I.ok.frames
 stk:=.inl rfl
 exf:=fun b hb=>⟨zyp (fl b hb),fun x c h=>by
  rcases zcu S I.ok h with ⟨a1,_⟩ | ⟨_,a2⟩
  ·exact fun z=>by have h1:=fl b hb;rw [<- z] at h1;exact absurd (zyi h1 (Nat.le_of_succ_le a1)) (zy9 _)
  ·exact (ff b hb).2.2.2.2.1 x c a2⟩
 bs:=I.bs
 bsz:=zyr I.ok.bsz I.sz
 noex:=fun b o e hb=>by
  obtain ⟨_,_,_,h4,_⟩:=ff b hb;rcases h4 with h4 | h4
  ·exact I.ok.noex b o e h4
  ·exact absurd (zyi (zyf (I.ok.bs b o e).1) h4) (zy9 _)
 exfs:=fun b hb hf=>by
  rcases omc (I.stkSub b hf) with z | z
  ·exact (ff b hb).2.1 z
  ·exact (ff b hb).2.2.1 z
 funs:=I.stack
 frf:=I.stkFree
def yfm (scope:Scope) (xs:List Str) (N:List Str) (σ:St):St:=List.replicate xs.length none++yca scope N σ
theorem zm7 (S:CompSc X scope xs) (I:Inv X pj σ H₃ s₃) (ff:∀ b∈fp,ycj X pj H₃ b) (fl:∀ b∈fp,b<s₃.heap.objs.size) :
  Inv (blk X pj scope xs fp s₃ H₃) [] (yfm scope xs X.N σ) H₃ { s₃ with heap:=pushCells (s₃.heap.push { cls:=.type "dict",data:=.dict #[] }) scope.names }:=by
 have keep:∀ b o,s₃.heap.get? b=some o->(pushCells (s₃.heap.push { cls:=.type "dict",data:=.dict #[] }) scope.names).get? b=some o:=fun b o e=>pushCells_keeps _ _ b o (zxz _ e);have cok:=cellsFrom_ok scope.names (s₃.heap.push { cls:=.type "dict",data:=.dict #[] }) (s₃.heap.objs.size+1) [] ⟨fun _ _ hm=>(nomatch hm),List.Pairwise.nil⟩ (by rw [zyl];exact zye _);rw [zyl] at cok;have hlen:σ.length=X.N.length:=I.len;refine ⟨zqr S I ff fl,rfl,I.bare,Un.kept keep,⟨fun _=>none,(Heap.Ns.new s₃.heap (.type "dict")).keeps (pushCells_keeps _ _),fun i x v e1 e2 e3=>?_⟩,fun x c h=>?_,I.fresh,fun x c h=>?_,fun p hp=>?_,I.hok.kept keep,?_⟩
 ·have hi:xs.length<=i:=by refine Nat.le_of_not_lt fun hlt=>?_;unfold yfm at e2;rw [List.getElem?_append_left (by simpa using hlt),List.getElem?_replicate] at e2;split at e2<;>cases e2
  have e1':(yce scope X.N)[i-xs.length]?=some x:=by have e1:(xs++yce scope X.N)[i]?=some x:=e1;rw [zy7 hi] at e1;exact e1
  have e2':(yca scope X.N σ)[i-xs.length]?=some (some v):=by unfold yfm at e2;rw [List.getElem?_append_right (by simpa using hi)] at e2;simpa using e2
  obtain ⟨hf,j,h1,h2⟩:=zm4 scope X.N σ e1' e2' hlen;have hm:=zb0 hf;have hk:=(S.free _ hm rfl).2;obtain ⟨m,hn,hl⟩:=I.loc;obtain ⟨u,r,l⟩:=hl j x v h1 h2 (hk.elim (fun z=>.inr (.inl z)) fun z=>.inr (.inr z));refine ⟨u,r,?_⟩;rcases l with ⟨k,_⟩ | ⟨k,c,hc,z⟩
  ·rcases hk with hk | hk<;>rw [hk] at k<;>cases k
  ·refine .inr ⟨?_,c,?_,?_⟩
   ·show (blk X pj scope xs fp s₃ H₃).env.scope.names.lookup x=_\/(blk X pj scope xs fp s₃ H₃).env.scope.names.lookup x=_;rw [zcj,hf];dsimp only;split
    ·exact .inl rfl
    ·exact .inr rfl
   ·show (cellsFrom (s₃.heap.objs.size+1) scope.names (za5 X.env scope.names [])).lookup x=some c;have e0:(cellsFrom (s₃.heap.objs.size+1) scope.names []).lookup x=none:=by
     cases q:(cellsFrom (s₃.heap.objs.size+1) scope.names []).lookup x with
     | none=>rfl
     | some d =>have:=S.cel _ (zdb scope.names _ (PySem.mem_of_lookup q)).2 rfl;rw [hf] at this;cases this
    rw [zca,List.lookup_append,e0,yd3 (S.has I.ok) hm];exact hc
   ·obtain ⟨o,ho,hd⟩:=z;exact ⟨o,keep c o ho,hd⟩
 ·rcases zcu S I.ok h with ⟨_,a2,_⟩ | ⟨_,a2⟩
  ·exact ⟨_,(cok.empty x c a2).1⟩
  ·obtain ⟨v,o,ho,hd⟩:=I.cell x c a2;exact ⟨v,o,keep c o ho,hd⟩
 ·rcases zcu S I.ok h with ⟨a1,_⟩ | ⟨_,a2⟩
  ·exact I.hok.fresh (by omega)
  ·exact I.freeC x c a2
 ·have hp':p∈X.pn++pj:=by have hp:p∈(X.pn++pj)++[]:=hp;rw [zyh] at hp;exact hp
  obtain ⟨e,n,ne,nf,d⟩:=I.pin p hp';refine ⟨keep p.1 p.2 e,n,zyp (zyf e),fun z=>?_,d⟩;rcases omc (I.stkSub p.1 z) with q | q
  ·exact ne q
  ·exact nf q
 ·unfold yfm;show _=(xs++yce scope X.N).length;rw [zyj,zyj,List.length_replicate,zji scope X.N σ hlen]
theorem zph {elt iter tg:Expr} {ifs:List Expr} {pos:Pos} {J:It} {it:Addr} {tn:Nat->Heap->Prop} {H2:Hp} {s2:Shared} {E:Value->Shared->Prop} {g:Shared->Hp->TG} {tc:Shared->Hp->TT} {te:Shared->Hp->TE}
  (hc:X.calm=true) (S:CompSc X scope xs) (I2:Inv X pj σ H2 s2) (T:Turn X.prog X.w X.K tg J fp it tn) (st2:tn 0 s2.heap) (f2:∀ b∈fp,ycj X pj H2 b)
  (hg:∀ s₃ H₃,(blk X pj scope xs fp s₃ H₃).Ok->PG (blk X pj scope xs fp s₃ H₃) tg (g s₃ H₃))
  (hi:∀ s₃ H₃,(blk X pj scope xs fp s₃ H₃).Ok->∀ (pn:List (Addr × Obj)) (s:Shared) (σ:St) (H:Hp) (Q:Bool->Hp->Prop),Inv (blk X pj scope xs fp s₃ H₃) pn σ H s->tc s₃ H₃ σ H Q ->
   wpAny (model X.prog X.w) X.A (forIn ifs true fun c r=>if r=true then do let ok <- isTrue c (blk X pj scope xs fp s₃ H₃).env (eval c (blk X pj scope xs fp s₃ H₃).env);pure (ForInStep.yield ok) else pure (ForInStep.yield r)) (TP (blk X pj scope xs fp s₃ H₃) pn σ Q) (fun _ _=>False) s)
  (he:∀ s₃ H₃,(blk X pj scope xs fp s₃ H₃).Ok->PE (blk X pj scope xs fp s₃ H₃) elt (te s₃ H₃))
  (W:Addr->Nat->Nat->St->Hp->Prop) (R:Addr->Hp->Prop)
  (start:∀ D,H2 D=none->∃ m,W D 0 m (yfm scope xs X.N σ) (upd H2 D (.lst [])))
  (turn:∀ s₃ H₃ D i m σ' H',(blk X pj scope xs fp s₃ H₃).Ok->W D i m σ' H'->(J.stop i H'/\R D H')\/(J.go i H'/\∃ N:St->Hp->Prop,(∀ σ'' H'',N σ'' H''->∃ m',m'<m/\W D (i+1) m' σ'' H'') /\
   ∀ x H5,J.yld i H' x H5->g s₃ H₃ x σ' H5 fun σ2 H6=>tc s₃ H₃ σ2 H6 fun ok H7=>if ok=true then te s₃ H₃ σ2 H7 fun y H8=>∃ ys,H8 D=some (.lst ys)/\ys.length<sizeLine/\N σ2 (upd H8 D (.lst (ys++[y]))) else N σ2 H7)) :
  wpAny (model X.prog X.w) X.A (newList []) (fun acc s₃=>wpAny (model X.prog X.w) X.A (newFunctionEnv scope X.env.globals (za5 X.env scope.names []) [] X.env.qual none .none (some X.env)) (fun cenv s₄ =>
   codeAny (model X.prog X.w) X.A (.compStart (.ListComp elt [⟨tg,iter,ifs,0⟩] scope pos) 0 (.ref it) acc { cenv with scope:=relabel scope X.env })
    (fun r s'=>r=.ok .next/\∃ D H',acc=.ref D/\Inv X pj σ H' s'/\ycj X pj H' cenv.locals/\(∃ m,s'.heap.Ns cenv.locals m)/\R D H') s₄) E s₃) E s2:=by
 refine zyz ?_ (by size_fits);have I3:Inv X pj σ (upd H2 s2.heap.objs.size (.lst [])) { s2 with heap:=s2.heap.push { cls:=.type "list",data:=.seq ([]:List Value).toArray } }:=I2.lnew (t':=s2.toks) (ys:=[]) (qc:=[]) .nil (zyt _);have hD:H2 s2.heap.objs.size=none:=I2.fresh;have fl2:∀ b∈fp,b<s2.heap.objs.size:=fun b hb=>by obtain ⟨o,e,_⟩:=T.obj 0 _ st2 b hb;exact zyf e
 have hsz:(s2.heap.push { cls:=.type "list",data:=.seq ([]:List Value).toArray }).objs.size=s2.heap.objs.size+1:=zyl ..;have f3:∀ b∈fp,ycj X pj (upd H2 s2.heap.objs.size (.lst [])) b:=fun b hb=>⟨by rw [zad (zyp (fl2 b hb))];exact (f2 b hb).1,(f2 b hb).2⟩;have fl3:∀ b∈fp,b<(s2.heap.push { cls:=.type "list",data:=.seq ([]:List Value).toArray }).objs.size:=fun b hb=>by rw [hsz];exact Nat.lt_succ_of_lt (fl2 b hb)
 refine zot ?_;generalize hs3:({ s2 with heap:=s2.heap.push { cls:=.type "list",data:=.seq ([]:List Value).toArray } }:Shared)=s3 at I3 fl3 ⊢;have fl3:∀ b∈fp,b<s3.heap.objs.size:=by rw [<- hs3];exact fl3
 have st3:tn 0 s3.heap:=T.keep 0 _ _ st2 fun b _ o e=>by rw [<- hs3];exact zxz _ e
 generalize hH3:upd H2 s2.heap.objs.size (.lst [])=H3 at I3 f3;obtain ⟨m0,w0⟩:=start s2.heap.objs.size hD;rw [hH3] at w0;generalize hDD:s2.heap.objs.size=D at w0;have BOk:=zqr (fp:=fp) S I3 f3 fl3;have I4:=zm7 (fp:=fp) S I3 f3 fl3;have hg':=hg s3 H3 BOk;have hi':=hi s3 H3 BOk;have he':=he s3 H3 BOk;have st4:tn 0 (pushCells (s3.heap.push { cls:=.type "dict",data:=.dict #[] }) scope.names):=T.keep 0 _ _ st3 fun b _ o e=>pushCells_keeps _ _ b o (zxz _ e);have stat:∀ {H':Hp} {pn:List (Addr × Obj)},pn=[]->(∀ b∈fp,H' b=none)->∀ b∈fp,ycj (blk X pj scope xs fp s3 H3) pn H' b:=fun {H' pn} hp hn b hb=>by subst hp;refine ⟨hn b hb,(BOk.exf b hb).1,BOk.exfs b hb,.inl hb,(BOk.exf b hb).2,fun p hp=>?_⟩;have hp:p∈(X.pn++pj)++[]:=hp;rw [zyh] at hp;exact (f3 b hb).2.2.2.2.2 p hp
 have loop:codeAny (model X.prog X.w) X.A (.compLoop (.ListComp elt [⟨tg,iter,ifs,0⟩] scope pos) 0 (.ref it) (.ref D) (blk X pj scope xs fp s3 H3).env)
   (fun r s'=>r=.ok .next/\∃ D' H',Value.ref D=.ref D'/\Inv X pj σ H' s'/\ycj X pj H' s3.heap.objs.size/\(∃ m,s'.heap.Ns s3.heap.objs.size m)/\R D' H') { s3 with heap:=pushCells (s3.heap.push { cls:=.type "dict",data:=.dict #[] }) scope.names }:=by
  refine codeAny_loop rfl (fun n s'=>∃ i σ' H',Inv (blk X pj scope xs fp s3 H3) [] σ' H' s'/\tn i s'.heap/\(∀ b∈fp,H' b=none)/\W D i n σ' H') ?_ m0 ⟨0,_,_,I4,st4,fun b hb=>(f3 b hb).1,w0⟩;rintro n s5 ⟨i,σ5,H5,I5,st5,fr5,w5⟩;show wpAny _ X.A ((compTurn (.ListComp elt [⟨tg,iter,ifs,0⟩] scope pos) 0 (.ref it) (.ref D) (blk X pj scope xs fp s3 H3).env).onRaise (fun x=>do noteFrame x (blk X pj scope xs fp s3 H3).env;theTreesLotGoes x)) _ _ s5;refine wpAny_noted ?_;rw [compTurn_list];refine zx1 (wpAny_standAt (zx1 ?_));rcases turn s3 H3 D i n σ5 H5 BOk w5 with ⟨stop,q⟩ | ⟨go,N,hN,step⟩
  ·refine thn (T.done (blk X pj scope xs fp s3 H3) rfl rfl rfl hc i [] s5 σ5 H5 _ I5 (stat rfl fr5) st5 stop) fun r s6 ⟨hr,I6⟩=>?_;subst hr;refine zx5 ⟨rfl,D,H5,rfl,?_,?_,?_,q⟩
   ·exact I3.call' I6.os I6.base I6.hok I6.bare fun b hb=>⟨(f3 b hb).2.2.2.1,(f3 b hb).2.1,(f3 b hb).2.2.2.2.1,(f3 b hb).2.2.2.2.2⟩
   ·exact I3.fpOk (zye _) I6.free
   ·obtain ⟨m,hn,_⟩:=I6.loc;exact ⟨m,hn⟩
  ·refine thn (T.item (blk X pj scope xs fp s3 H3) rfl rfl rfl hc i [] s5 σ5 H5 _ I5 (stat rfl fr5) st5 go) fun r s6 ⟨u,hr,h6⟩=>?_;subst hr;refine zx1 (thn h6 fun _ s7 ⟨x,H7,I7,r7,y7,st7,fr7⟩=>?_);have I7':=I7.pinned (stat rfl fr7) (T.obj _ _ st7);have hl:∀ {α:Type} {t:Sem α} {Q:α->Shared->Prop} {E':Value->Shared->Prop} {s:Shared},wpAny (model X.prog X.w) X.A t Q (fun _ _=>False) s->wpAny (model X.prog X.w) X.A t Q E' s:=fun h=>zzi h (fun _ _ q=>q) fun _ _ z=>False.elim z;refine zx1 (hl (thn (hg' _ s7 σ5 H7 x u _ I7' r7 (step x H7 y7)) fun _ s8 ⟨σ8,H8,I8,q8⟩=>?_));refine zx1 (hl (thn (hi' _ s8 σ8 H8 _ I8 q8) fun ok s9 ⟨H9,I9,q9⟩=>?_));have again:∀ {σ7:St} {H7':Hp} {s7':Shared},Inv (blk X pj scope xs fp s3 H3) ([]++ycq fp s7.heap) σ7 H7' s7'->N σ7 H7'->∃ m,m<n/\∃ i σ' H',Inv (blk X pj scope xs fp s3 H3) [] σ' H' s7'/\tn i s7'.heap/\(∀ b∈fp,H' b=none)/\W D i m σ' H':=fun {σ7 H7' s7'} I8 n8=>by obtain ⟨m',hm,w8⟩:=hN σ7 H7' n8;refine ⟨m',hm,i+1,σ7,H7',I8.unpinned,T.keep _ _ _ st7 fun b hb o e=>(I8.pin (b,o) (zy2 _ (zy2 _ (zcr hb e)))).1,fun b hb=>?_,w8⟩;obtain ⟨o,e,d⟩:=T.obj _ _ st7 b hb;exact (I8.pin (b,o) (zy2 _ (zy2 _ (zcr hb e)))).2.1
   cases ok with
   | false =>rw [if_neg zyg] at q9;exact zx5 ⟨rfl,again I9 q9⟩
   | true =>rw [if_pos rfl] at q9;refine zx1 (zx1 (hl (thn (he' _ s9 σ8 H9 _ I9 q9) fun y s10 ⟨yv,H10,I10,r10,ys,e10,z10,q10⟩=>?_)));refine zx1 (hl (thn (zea (X:=blk X pj scope xs fp s3 H3) _ s10 σ8 H10 (.ref D) [yv] (.ref D) [y] (fun _ H'=>N σ8 H') I10 rfl (.cons r10 .nil) ⟨D,ys,yv,rfl,rfl,e10,z10,q10⟩) fun _ s11 ⟨_,H11,I11,_,q11⟩=>?_));exact zx5 (zx5 ⟨rfl,again I11 q11⟩)
 exact codeAny_compStart_list loop (T.self X.A 0 _ _ _ st4 loop)
end
end
section
open PySem Spec PyProof.Rows
variable {K:PySem.W.Frag} {elts:List Expr} {kx:Nat} {pos:Pos}
section
variable {X:Cx} {pj:List (Addr × Obj)} {σ:St} {H:Hp} {s:Shared} {h':Heap}
theorem Inv.turned2 {it e T:Addr} {xs:List V} {t':Nat} (I:Inv X pj σ H s) (k:∀ b o,b≠e->b≠it->s.heap.get? b=some o->h'.get? b=some o) (fe:ycj X pj H e) (fi:ycj X pj H it)
  (hT:s.heap.objs.size<=T) (new:ObjOk X.prog X.w (upd H T (.tup xs)) h' T (.tup xs)):Inv X pj σ (upd H T (.tup xs)) { s with heap:=h',toks:=t' }:=by
 have hn:H T=none:=I.hok.fresh hT;have nT:∀ {b:Addr} {o:Obj},s.heap.get? b=some o->b≠T:=fun {b o} q=>zyp (zyi (zyf q) hT);have nch:∀ {b:Addr},b∉[e,it]->b≠e/\b≠it:=fun {b} h=>⟨fun z=>h (by simp [z]),fun z=>h (by simp [z])⟩;have nfp:∀ {b:Addr} {u:HO},H b=some u->b≠e/\b≠it:=fun {b u} q=>⟨fun z=>(by rw [z,fe.1] at q;cases q),fun z=>(by rw [z,fi.1] at q;cases q)⟩;refine I.step (g':=s.gens) (d':=s.drawn) (ch:=[e,it]) (fun b hb=>?_) (fun b o _ _ hc q _=>k b o (nch hc).1 (nch hc).2 q) (fun b o _ _ hc q _=>⟨o.slots,k b o (nch hc).1 (nch hc).2 q⟩)
  (fun b o hc q z=>by rw [zad (nT q)];exact z) (fun b o hc q=>⟨o,k b o (nch hc).1 (nch hc).2 q⟩)
  (fun b ys q=>by rw [zad (zae q hn)];exact q) (fun b o u q=>by rw [zad (zae q hn)];exact q) (fun b ps q=>⟨#[],by rw [zad (zae q hn),q];simp⟩) (fun m hm=>?_) (fun b u q=>?_) I.bare
 ·rcases omc hb with z | z
  ·rw [z];exact ⟨fe.2.2.2.1,fe.2.1,fe.2.2.2.2.1,fe.2.2.2.2.2⟩
  ·rw [omg z];exact ⟨fi.2.2.2.1,fi.2.1,fi.2.2.2.2.1,fi.2.2.2.2.2⟩
 ·obtain ⟨o,es,ep,ho,r⟩:=hm;exact ⟨o,es,ep,k _ o (Ne.symm fe.2.1) (Ne.symm fi.2.1) ho,r⟩
 ·by_cases hb:b=T
  ·subst hb;rw [zag] at q;cases q;exact new
  ·rw [zad hb] at q;refine (I.hok b u q).stay (fun c v hc z=>?_) (fun c z=>by rw [zad (zae z hn)];exact z) fun c ys z=>by rw [zad (zae z hn)];exact z
   rcases hc with rfl | hc
   ·exact k c v (nfp q).1 (nfp q).2 z
   ·exact k c v (nfp hc).1 (nfp hc).2 z
end
def Ite (sq:Hp->Addr->List V->Prop) (a:Addr):It :=
 ⟨fun i H=>∃ xs x,sq H a xs/\xs[i]?=some x,fun i H x H'=>∃ p v,H p=none/\x=.ref p/\H'=upd H p (.tup [.int (i:Int),v])/\∀ xs,sq H a xs->xs[i]?=some v,fun i H=>∃ xs,sq H a xs/\xs.length=i⟩
theorem zjq {P:Program} {w:World} (a it e:Addr) (hei:e≠it) :
  Turn P w K (.Tuple elts kx pos) (Ite (SqL K) a) [e,it] e (fun i h=>(∃ old,IsEnum h e it (i:Int) old)/\h.IsListIter it a i) where
 mem:=by simp
 obj:=fun i h st b hb=>by
  obtain ⟨⟨old,he⟩,o,ho,hc,hd⟩:=st;rcases omc hb with z | z
  ·rw [z];exact ⟨_,he,fun v q=>by cases q⟩
  ·rw [omg z];exact ⟨o,ho,fun v q=>by rw [hd] at q;cases q⟩
 keep:=fun i h h' st k=>by obtain ⟨⟨old,he⟩,o,ho,r⟩:=st;exact ⟨⟨old,k e (by simp) _ he⟩,o,k it (by simp) o ho,r⟩
 item:=by
  intro X hP hw hK hc i pj s σ H E I hf st hg;subst hP hw hK;obtain ⟨xs,x,hq,hx⟩:=hg;obtain ⟨⟨old,he⟩,hit⟩:=st;obtain ⟨qc,rv,p,hz⟩:=I.list hq;obtain ⟨u,hu,ru⟩:=rv.get hx;have fe:=hf e (by simp);have fi:=hf it (by simp);obtain ⟨ol,hol,hcl,_⟩:=id p.isList;obtain ⟨oi,hoi,hci,_⟩:=id hit;have hai:a≠it:=fun z=>by rw [z,hoi] at hol;cases hol;rw [hci] at hcl;exact absurd hcl (by decide +kernel)
  have hae:e≠a:=fun z=>by have he':s.heap.get? e=_:=he;rw [z,hol] at he';cases he';exact absurd hcl (by show Value.type "enumerate"≠Value.type "list";decide +kernel)
  have D:=Draws.list (prog:=X.prog) (w:=X.w) (A:=X.A.in1) (show X.A.in1.handled=none from I.ok.hd hc) it a hai qc.toArray;have hlt:i<qc.toArray.size:=by have:=rv.length;have h2:=(ome hx).1;rw [zyd];omega
  refine wpAny_pyNext_enum_itemD D he ⟨hit,p.isList⟩ hlt hei (fun z=>(omc z).elim hei fun q=>hae (omg q)) fun x' h1 tk hPx ho st1 hT hsz hk=>?_;refine ⟨_,rfl,wpAny_letOwnedTupleGo_enum ho fun h2 he2 hs2=>?_⟩;have hx':x'=u:=by
   have hPx:qc.toArray[i]?=some x':=hPx;have:qc[i]?=some x':=by simpa using hPx
   rw [hu] at this;exact (zyk this).symm
  subst hx';have hk2:∀ b o,b≠e->b≠it->s.heap.get? b=some o->h2.get? b=some o:=fun b o hbe hbi q=>(hs2.2 b hbe).trans (hk b o hbe hbi q);have hTe:s.heap.objs.size≠e:=Nat.ne_of_gt (zyf he);have I1:Inv X pj σ (upd H s.heap.objs.size (.tup [.int (i:Int),x])) { s with heap:=h2,toks:=tk+1 }:=I.turned2 hk2 fe fi (zye _)
   ⟨by show 2<=sizeLine;decide,[.int (i:Int) tk,x'],.cons ⟨_,rfl⟩ (.cons ru .nil),⟨_,(hs2.2 _ hTe).trans hT,rfl,_,rfl⟩⟩
  refine ⟨.ref s.heap.objs.size,_,I1,rfl,⟨_,x,I.fresh,rfl,rfl,fun ys hy=>by rw [I.list_inj hy hq];exact hx⟩,⟨⟨_,by simpa using he2⟩,?_⟩,fun b hb=>?_⟩
  ·obtain ⟨o,ho',r⟩:=st1.1;exact ⟨o,(hs2.2 it (Ne.symm hei)).trans ho',r⟩
  ·have hb0:=(hf b hb).1;have hbl:b<s.heap.objs.size:=by
    rcases omc hb with z | z
    ·rw [z];exact zyf he
    ·rw [omg z];exact zyf hoi
   rw [zad (zyp hbl)];exact hb0
 done:=by
  intro X hP hw hK hc i pj s σ H E I hf st hg;subst hP hw hK;obtain ⟨xs,hq,hx⟩:=hg;obtain ⟨⟨old,he⟩,hit⟩:=st;obtain ⟨qc,rv,p,hz⟩:=I.list hq;obtain ⟨ol,hol,hcl,_⟩:=id p.isList;obtain ⟨oi,hoi,hci,_⟩:=id hit;have hai:a≠it:=fun z=>by rw [z,hoi] at hol;cases hol;rw [hci] at hcl;exact absurd hcl (by decide +kernel)
  have D:=Draws.list (prog:=X.prog) (w:=X.w) (A:=X.A.in1) (show X.A.in1.handled=none from I.ok.hd hc) it a hai qc.toArray;have hl:qc.toArray.size=i:=by rw [zyd,<- rv.length];exact hx
  obtain ⟨f0,f1,f2,f3,f4,f5⟩:=hf it (by simp);refine wpAny_pyNext_enum_endD D he (by rw [hl];exact ⟨hit,p.isList⟩) fun h1 eb=>⟨rfl,I.turned (t':=s.toks) (fun b o hb q=>eb b o hb q) f0 f1 f3 f4 f5⟩
 self:=fun _ _ _ _ _ st h=>by obtain ⟨⟨old,he⟩,_⟩:=st;exact wpAny_pyIter_enum he h
theorem zjp {P:Program} {w:World} (a it e:Addr) (hei:e≠it) :
  Turn P w K (.Tuple elts kx pos) (Ite (SqT K) a) [e,it] e (fun i h=>(∃ old,IsEnum h e it (i:Int) old)/\h.IsTupleIter it a i) where
 mem:=by simp
 obj:=fun i h st b hb=>by
  obtain ⟨⟨old,he⟩,o,ho,hc,hd⟩:=st;rcases omc hb with z | z
  ·rw [z];exact ⟨_,he,fun v q=>by cases q⟩
  ·rw [omg z];exact ⟨o,ho,fun v q=>by rw [hd] at q;cases q⟩
 keep:=fun i h h' st k=>by obtain ⟨⟨old,he⟩,o,ho,r⟩:=st;exact ⟨⟨old,k e (by simp) _ he⟩,o,k it (by simp) o ho,r⟩
 item:=by
  intro X hP hw hK hc i pj s σ H E I hf st hg;subst hP hw hK;obtain ⟨xs,x,hq,hx⟩:=hg;obtain ⟨⟨old,he⟩,hit⟩:=st;obtain ⟨qc,rv,p,hz⟩:=I.tuple hq;obtain ⟨u,hu,ru⟩:=rv.get hx;have fe:=hf e (by simp);have fi:=hf it (by simp);obtain ⟨ol,hol,hcl,_⟩:=id p;obtain ⟨oi,hoi,hci,_⟩:=id hit;have hai:a≠it:=fun z=>by rw [z,hoi] at hol;cases hol;rw [hci] at hcl;exact absurd hcl (by decide +kernel)
  have hae:e≠a:=fun z=>by have he':s.heap.get? e=_:=he;rw [z,hol] at he';cases he';exact absurd hcl (by show Value.type "enumerate"≠Value.type "tuple";decide +kernel)
  have D:=zcx (prog:=X.prog) (w:=X.w) (A:=X.A.in1) (show X.A.in1.handled=none from I.ok.hd hc) it a hai qc.toArray;have hlt:i<qc.toArray.size:=by have:=rv.length;have h2:=(ome hx).1;rw [zyd];omega
  refine wpAny_pyNext_enum_itemD D he ⟨hit,(show s.heap.IsTuple a qc.toArray from p)⟩ hlt hei (fun z=>(omc z).elim hei fun q=>hae (omg q)) fun x' h1 tk hPx ho st1 hT hsz hk=>?_;refine ⟨_,rfl,wpAny_letOwnedTupleGo_enum ho fun h2 he2 hs2=>?_⟩;have hx':x'=u:=by
   have hPx:qc.toArray[i]?=some x':=hPx;have:qc[i]?=some x':=by simpa using hPx
   rw [hu] at this;exact (zyk this).symm
  subst hx';have hk2:∀ b o,b≠e->b≠it->s.heap.get? b=some o->h2.get? b=some o:=fun b o hbe hbi q=>(hs2.2 b hbe).trans (hk b o hbe hbi q);have hTe:s.heap.objs.size≠e:=Nat.ne_of_gt (zyf he);have I1:Inv X pj σ (upd H s.heap.objs.size (.tup [.int (i:Int),x])) { s with heap:=h2,toks:=tk+1 }:=I.turned2 hk2 fe fi (zye _)
   ⟨by show 2<=sizeLine;decide,[.int (i:Int) tk,x'],.cons ⟨_,rfl⟩ (.cons ru .nil),⟨_,(hs2.2 _ hTe).trans hT,rfl,_,rfl⟩⟩
  refine ⟨.ref s.heap.objs.size,_,I1,rfl,⟨_,x,I.fresh,rfl,rfl,fun ys hy=>by rw [I.tuple_inj hy hq];exact hx⟩,⟨⟨_,by simpa using he2⟩,?_⟩,fun b hb=>?_⟩
  ·obtain ⟨o,ho',r⟩:=st1.1;exact ⟨o,(hs2.2 it (Ne.symm hei)).trans ho',r⟩
  ·have hb0:=(hf b hb).1;have hbl:b<s.heap.objs.size:=by
    rcases omc hb with z | z
    ·rw [z];exact zyf he
    ·rw [omg z];exact zyf hoi
   rw [zad (zyp hbl)];exact hb0
 done:=by
  intro X hP hw hK hc i pj s σ H E I hf st hg;subst hP hw hK;obtain ⟨xs,hq,hx⟩:=hg;obtain ⟨⟨old,he⟩,hit⟩:=st;obtain ⟨qc,rv,p,hz⟩:=I.tuple hq;obtain ⟨ol,hol,hcl,_⟩:=id p;obtain ⟨oi,hoi,hci,_⟩:=id hit;have hai:a≠it:=fun z=>by rw [z,hoi] at hol;cases hol;rw [hci] at hcl;exact absurd hcl (by decide +kernel)
  have D:=zcx (prog:=X.prog) (w:=X.w) (A:=X.A.in1) (show X.A.in1.handled=none from I.ok.hd hc) it a hai qc.toArray;have hl:qc.toArray.size=i:=by rw [zyd,<- rv.length];exact hx
  obtain ⟨f0,f1,f2,f3,f4,f5⟩:=hf it (by simp);refine wpAny_pyNext_enum_endD D he (by rw [hl];exact ⟨hit,(show s.heap.IsTuple a qc.toArray from p)⟩) fun h1 eb=>⟨rfl,I.turned (t':=s.toks) (fun b o hb q=>eb b o hb q) f0 f1 f3 f4 f5⟩
 self:=fun _ _ _ _ _ st h=>by obtain ⟨⟨old,he⟩,_⟩:=st;exact wpAny_pyIter_enum he h
section
variable {X:Cx} {tg:Expr}
theorem zuf {l:Expr} {tl:TE} (hl:PE X l tl):PI X tg l (fun σ H R=>tl σ H fun x H1=>∃ a,x=.ref a/\((∃ xs,SqL X.K H1 a xs/\R (Itl X.K a) H1)\/∃ xs,SqT X.K H1 a xs/\R (Itt X.K a) H1)):=by
 intro pj s σ H R I h;refine thn (hl pj s σ H _ I h) fun v s1 ⟨x,H1,I1,r1,q1⟩=>?_;obtain ⟨a,e,q1⟩:=q1;subst e;cases r1;rcases q1 with ⟨xs,hq,q⟩ | ⟨xs,hq,q⟩
 ·obtain ⟨qc,rv,p,hz⟩:=I1.list hq;refine wpAny_pyIter_list p.isList ?_;refine ⟨s1.heap.objs.size,[s1.heap.objs.size],_,_,H1,rfl,I1.kept (t':=s1.toks) fun b o e=>zxz _ e,zkh a _,⟨_,zx9 _ rfl,rfl,rfl⟩,fun b hb=>?_,q⟩;have e:b=s1.heap.objs.size:=by simpa using hb
  subst e;exact I1.fpOk (zye _) (I1.hok.fresh (zye _))
 ·obtain ⟨qc,rv,p,hz⟩:=I1.tuple hq;refine wpAny_pyIter_tuple (show s1.heap.IsTuple a qc.toArray from p) ?_;refine ⟨s1.heap.objs.size,[s1.heap.objs.size],_,_,H1,rfl,I1.kept (t':=s1.toks) fun b o e=>zxz _ e,zjn a _,⟨_,zx9 _ rfl,rfl,rfl⟩,fun b hb=>?_,q⟩;have e:b=s1.heap.objs.size:=by simpa using hb
  subst e;exact I1.fpOk (zye _) (I1.hok.fresh (zye _))
theorem zry {a:Expr} {ta:TA} {p p2:Pos} (hg:Gl X "enumerate") (hm:X.mg "enumerate"=none) (ha:PA X [a] ta) (hs:starEach [a] X.env=[(false,eval a X.env)]) :
  PI X (.Tuple elts kx p2) (.Call (.Name "enumerate" p) [a] [] pos) (fun σ H R=>ta σ H fun vs H1=>∃ a,vs=[.ref a]/\((∃ xs,SqL X.K H1 a xs/\R (Ite (SqL X.K) a) H1)\/∃ xs,SqT X.K H1 a xs/\R (Ite (SqT X.K) a) H1)):=by
 intro pj s σ H R I h;refine Call_ (ze3 I hg hm boot_enumerate (PyProof.Rows.callWith_type1 (thn (ha pos pj s σ H _ I h) fun us s1 ⟨vs,H1,I1,r1,q1⟩=>?_) hs rfl));obtain ⟨l,e,q1⟩:=q1;subst e;obtain ⟨u,rfl,rx⟩:=yb0 r1;cases rx;have fin:∀ {h':Heap} {J:It} {tn:Nat->Heap->Prop},(∀ b o,s1.heap.get? b=some o->h'.get? b=some o)->h'.objs.size=s1.heap.objs.size+2 ->
   Turn X.prog X.w X.K (.Tuple elts kx p2) J [s1.heap.objs.size+1,s1.heap.objs.size] (s1.heap.objs.size+1) tn->tn 0 h'->R J H1->PIE X pj σ (.Tuple elts kx p2) R (.ref (s1.heap.objs.size+1)) { s1 with heap:=h' }:=fun {h' J tn} hk hsz T st q=>by
  refine ⟨s1.heap.objs.size+1,[s1.heap.objs.size+1,s1.heap.objs.size],tn,J,H1,rfl,I1.kept (t':=s1.toks) hk,T,st,fun b hb=>?_,q⟩;rcases omc hb with z | z
  ·rw [z];exact I1.fpOk (Nat.le_succ _) (I1.hok.fresh (Nat.le_succ _))
  ·rw [omg z];exact I1.fpOk (zye _) (I1.hok.fresh (zye _))
 have hne:s1.heap.objs.size+1≠s1.heap.objs.size:=Nat.succ_ne_self _;rcases q1 with ⟨xs,hq,q⟩ | ⟨xs,hq,q⟩
 ·obtain ⟨qc,rv,pl,hz⟩:=I1.list hq;refine call_enumerate_list pl.isList fun h' he hit hsz hk=>?_;exact wpAny_pyIter_enum (s:={ s1 with heap:=h' }) he (fin hk hsz (zjq l s1.heap.objs.size (s1.heap.objs.size+1) hne) ⟨⟨_,by simpa using he⟩,hit⟩ q)
 ·obtain ⟨qc,rv,pl,hz⟩:=I1.tuple hq;refine zeo (show s1.heap.IsTuple l qc.toArray from pl) fun h' he hit hsz hk=>?_;exact wpAny_pyIter_enum (s:={ s1 with heap:=h' }) he (fin hk hsz (zjp l s1.heap.objs.size (s1.heap.objs.size+1) hne) ⟨⟨_,by simpa using he⟩,hit⟩ q)
end
end
end L2
namespace Ev
open PySem PySem.W PyProof.Rows
section
variable {i j:Nat}
def ya9 {α:Type} (c:Nat->Nat->Bool):KasT α->α
 | .ret a=>a
 | .ask i j k=>ya9 c (k (c i j))
def kok {α:Type} (n:Nat) (c:Nat->Nat->Bool):KasT α->Bool
 | .ret _=>true
 | .ask i j k=>decide (i<n)&&decide (j<n)&&kok n c (k (c i j))
section
variable {n:Nat} {c:Nat->Nat->Bool}
theorem zb6 {α β:Type} {f:α->KasT β}:∀ t:KasT α,ya9 c (t.bind f)=ya9 c (f (ya9 c t))
 | .ret _=>rfl
 | .ask i j k=>zb6 (k (c i j))
theorem zcf {α β:Type} {f:α->KasT β}:∀ t:KasT α,kok n c t=true->kok n c (f (ya9 c t))=true->kok n c (t.bind f)=true
 | .ret _,_,h=>h
 | .ask i j k,h1,h2=>by rw [kok,zx7] at h1;show (decide (i<n)&&decide (j<n)&&kok n c ((k (c i j)).bind f))=true;rw [h1.1,zcf (k (c i j)) h1.2 h2];rfl
theorem zcl {α:Type} {k:Bool->KasT α} (hi:i<n) (hj:j<n) (h:kok n c (k (c i j))=true):kok n c (.ask i j k)=true:=by rw [kok,zyo hi,zyo hj,h];rfl
def Pm (n:Nat) (p:Array Nat):Prop:=p.toList.Perm (List.range n)
def at' (p:Array Nat) (i:Nat):Nat:=p.getD i 0
variable {p:Array Nat}
theorem Pm.size (h:Pm n p):p.size=n:=by
 have:=List.Perm.length_eq h
 rwa [zyn,List.length_range] at this
theorem zg3 (h:i<p.size):p[i]?=some (at' p i):=by unfold at';rw [Array.getD_eq_getD_getElem?,Array.getElem?_eq_getElem h];rfl
theorem zwu {q:Array Nat} (h:q[i]?=p[j]?):at' q i=at' p j:=by unfold at';rw [Array.getD_eq_getD_getElem?,Array.getD_eq_getD_getElem?,h]
theorem Pm.lt (h:Pm n p) (hi:i<n):at' p i<n:=by have h1:=zg3 (p:=p) (i:=i) (by rw [h.size];exact hi);rw [<- zzg] at h1;exact zzd.mp ((List.Perm.mem_iff h).mp (zy8 h1))
theorem Pm.ne (h:Pm n p) (hi:i<n) (hj:j<n) (hne:i≠j):at' p i≠at' p j:=fun e=>by have nd:p.toList.Nodup:=(List.Perm.nodup_iff h).mpr List.nodup_range;have h1:=zg3 (p:=p) (i:=i) (by rw [h.size];exact hi);have h2:=zg3 (p:=p) (i:=j) (by rw [h.size];exact hj);rw [<- zzg] at h1 h2;rw [e,<- h2] at h1;exact hne ((List.getElem?_inj (by rw [zyn,h.size];exact hi) nd).mp h1)
structure Tot (n:Nat) (c:Nat->Nat->Bool):Prop where
 tot:∀ i j,i<n->j<n->i≠j->c j i=!c i j
 tr:∀ i j k,i<n->j<n->k<n->c i j=true->c j k=true->c i k=true
def Asc (c:Nat->Nat->Bool) (p:Array Nat) (k:Nat):Prop:=∀ i j,i<j->j<k->c (at' p i) (at' p j)=true
def Dsc (c:Nat->Nat->Bool) (p:Array Nat) (k:Nat):Prop:=∀ i j,i<j->j<k->c (at' p j) (at' p i)=true
theorem Asc.grow (T:Tot n c) (P:Pm n p) {k:Nat} (h1:1<=k) (hk:k<n) (h:Asc c p k) (e:c (at' p (k-1)) (at' p k)=true):Asc c p (k+1):=fun i j hij hj=>by
 by_cases hjk:j<k
 ·exact h i j hij hjk
 ·obtain rfl:j=k:=by omega
  by_cases hi:i=j-1
  ·rw [hi];exact e
  ·exact T.tr _ _ _ (P.lt (by omega)) (P.lt (by omega)) (P.lt hk) (h i (j-1) (by omega) (by omega)) e
theorem Dsc.grow (T:Tot n c) (P:Pm n p) {k:Nat} (h1:1<=k) (hk:k<n) (h:Dsc c p k) (e:c (at' p k) (at' p (k-1))=true):Dsc c p (k+1):=fun i j hij hj=>by
 by_cases hjk:j<k
 ·exact h i j hij hjk
 ·obtain rfl:j=k:=by omega
  by_cases hi:i=j-1
  ·rw [hi];exact e
  ·exact T.tr _ _ _ (P.lt hk) (P.lt (by omega)) (P.lt (by omega)) e (h i (j-1) (by omega) (by omega))
theorem zh5 (T:Tot n c) (P:Pm n p):∀ (f k:Nat),1<=k->k+f<=n->Asc c p k->kok n c (kas_asc p f k)=true/\k<=ya9 c (kas_asc p f k)/\ya9 c (kas_asc p f k)<=k+f/\Asc c p (ya9 c (kas_asc p f k))/\(ya9 c (kas_asc p f k)<k+f->c (at' p (ya9 c (kas_asc p f k))) (at' p (ya9 c (kas_asc p f k)-1))=true)
 | 0,k,_,_,h=>⟨rfl,zye _,zye _,h,fun z=>absurd z (zy9 _)⟩
 | f+1,k,h1,hk,h=>by
  have l1:=P.lt (i:=k) (by omega);have l2:=P.lt (i:=k-1) (by omega);cases e:c (at' p k) (at' p (k-1)) with
  | true =>
   have er:ya9 c (kas_asc p (f+1) k)=k:=by show ya9 c (if c (at' p k) (at' p (k-1))=true then _ else _)=k;rw [e];rfl
   rw [er];refine ⟨zcl l1 l2 ?_,zye _,by omega,h,fun _=>e⟩;show kok n c (if c (at' p k) (at' p (k-1))=true then _ else _)=true;rw [e];rfl
  | false =>
   have e':c (at' p (k-1)) (at' p k)=true:=by rw [T.tot _ _ l1 l2 (P.ne (by omega) (by omega) (by omega)),e];rfl
   obtain ⟨a1,a2,a3,a4,a5⟩:=zh5 T P f (k+1) (by omega) (by omega) (h.grow T P h1 (by omega) e');have er:ya9 c (kas_asc p (f+1) k)=ya9 c (kas_asc p f (k+1)):=by show ya9 c (if c (at' p k) (at' p (k-1))=true then _ else _)=_;rw [e];rfl
   rw [er];refine ⟨zcl l1 l2 ?_,by omega,by omega,a4,fun z=>a5 (by omega)⟩;show kok n c (if c (at' p k) (at' p (k-1))=true then _ else _)=true;rw [e];exact a1
theorem zjd (T:Tot n c) (P:Pm n p):∀ (f k:Nat),1<=k->k+f<=n->Dsc c p k->kok n c (kas_desc f p k 0)=true/\∃ m,ya9 c (kas_desc f p k 0)=(p,m,0)/\k<=m/\m<=k+f/\Dsc c p m
 | 0,k,_,_,h=>⟨rfl,k,rfl,zye _,zye _,h⟩
 | f+1,k,h1,hk,h=>by
  have l1:=P.lt (i:=k) (by omega);have l2:=P.lt (i:=k-1) (by omega);cases e:c (at' p k) (at' p (k-1)) with
  | true =>
   obtain ⟨a1,m,a2,a3,a4,a5⟩:=zjd T P f (k+1) (by omega) (by omega) (h.grow T P h1 (by omega) e);refine ⟨zcl l1 l2 ?_,m,?_,by omega,by omega,a5⟩
   ·show kok n c (if c (at' p k) (at' p (k-1))=true then _ else _)=true;rw [e];exact a1
   ·show ya9 c (if c (at' p k) (at' p (k-1))=true then _ else _)=_;rw [e];exact a2
  | false =>
   have e':c (at' p (k-1)) (at' p k)=true:=by rw [T.tot _ _ l1 l2 (P.ne (by omega) (by omega) (by omega)),e];rfl
   refine ⟨zcl l1 l2 ?_,k,?_,zye _,by omega,h⟩
   ·show kok n c (if c (at' p k) (at' p (k-1))=true then _ else _)=true;rw [e];refine zcl l2 l1 ?_;show kok n c (if c (at' p (k-1)) (at' p k)=true then _ else _)=true;rw [e'];rfl
   ·show ya9 c (if c (at' p k) (at' p (k-1))=true then _ else _)=_;rw [e];show ya9 c (if c (at' p (k-1)) (at' p k)=true then _ else _)=_;rw [e'];rfl
theorem zt0 (P:Pm n p) (m:Nat):Pm n (kas_rev p 0 m):=List.Perm.trans (Array.perm_iff_toList_perm.mp (mirror_perm p 0 m ((m-0)/2))) P
theorem zrk (P:Pm n p) {m:Nat} (hm:m<=n) (h:Dsc c p m):Asc c (kas_rev p 0 m) m:=fun i j hij hj=>by
 have hs:=P.size;have g:∀ i,i<m->at' (kas_rev p 0 m) i=at' p (m-1-i):=fun i hi=>zwu (by unfold kas_rev;rw [getElem?_mirror_all (by omega),if_pos ⟨zyt _,hi⟩,show 0+m-1-i=m-1-i by omega]);rw [g i (by omega),g j hj];exact h _ _ (by omega) (by omega)
theorem zm1 (T:Tot n c) (P:Pm n p) (h2:2<=n):kok n c (kas_count n p)=true/\∃ m q,ya9 c (kas_count n p)=(m,q)/\1<=m/\m<=n/\Pm n q/\Asc c q m:=by
 obtain ⟨a1,a2,a3,a4,a5⟩:=zh5 T P (n-1) 1 (zye _) (by omega) (fun i j hij hj=>by omega);unfold kas_count;rw [zb6];generalize hm:ya9 c (kas_asc p (n-1) 1)=m at *;have main:kok n c (if (m==n)=true then .ret (m,p) else if m>1 then .ask (p.getD 0 0) (p.getD (m-1) 0) fun d=>if d=true then .ret (m,p) else kas_descPart m n (kas_rev p 0 m) else kas_descPart m n p)=true/\∃ m' q,ya9 c (if (m==n)=true then .ret (m,p) else if m>1 then .ask (p.getD 0 0) (p.getD (m-1) 0) fun d=>if d=true then .ret (m,p) else kas_descPart m n (kas_rev p 0 m) else kas_descPart m n p)=(m',q)/\1<=m'/\m'<=n/\Pm n q/\Asc c q m':=by
  by_cases he:m=n
  ·rw [if_pos (by simpa using he)];exact ⟨rfl,m,p,rfl,a2,by omega,P,a4⟩
  ·rw [if_neg (by simpa using he)];by_cases h1:m>1
   ·rw [if_pos h1];have e:c (at' p 0) (at' p (m-1))=true:=a4 0 (m-1) (by omega) (by omega);refine ⟨zcl (P.lt (i:=0) (by omega)) (P.lt (i:=m-1) (by omega)) ?_,m,p,?_,a2,by omega,P,a4⟩
    ·show kok n c (if c (at' p 0) (at' p (m-1))=true then _ else _)=true;rw [e];rfl
    ·show ya9 c (if c (at' p 0) (at' p (m-1))=true then _ else _)=_;rw [e];rfl
   ·rw [if_neg h1];obtain rfl:m=1:=by omega
    have e:=a5 (by omega);obtain ⟨b1,k,b2,b3,b4,b5⟩:=zjd T P (n-(1+1)) (1+1) (by omega) (by omega) (fun i j hij hj=>by
     obtain rfl:j=1:=by omega
     obtain rfl:i=0:=by omega
     exact e)
    have P':=zt0 P k;obtain ⟨d1,d2,d3,d4,_⟩:=zh5 T P' (n-k) k (by omega) (by omega) (zrk P (by omega) b5);unfold kas_descPart;rw [zb6,b2];refine ⟨zcf _ b1 ?_,ya9 c (kas_asc (kas_rev p 0 k) (n-k) k),kas_rev p 0 k,?_,by omega,by omega,P',d4⟩
    ·rw [b2];exact zcf _ d1 rfl
    ·show ya9 c ((kas_asc (kas_rev p 0 k) (n-k) k).bind _)=_;rw [zb6];rfl
 exact ⟨zcf _ a1 (by rw [hm];exact main.1),main.2⟩
theorem zd7 (T:Tot n c) (P:Pm n p) {k:Nat} (hk:k<n) (h:Asc c p k):∀ (f l r:Nat),l<=r->r<=k->r-l<=f->(∀ i,i<l->c (at' p i) (at' p k)=true)->(∀ i,r<=i->i<k->c (at' p k) (at' p i)=true) ->
  kok n c (kas_place p k f l r)=true/\ya9 c (kas_place p k f l r)<=k/\(∀ i,i<ya9 c (kas_place p k f l r)->c (at' p i) (at' p k)=true)/\∀ i,ya9 c (kas_place p k f l r)<=i->i<k->c (at' p k) (at' p i)=true
 | 0,l,r,h1,h2,h3,h4,h5=>⟨rfl,by show l<=k;omega,h4,fun i hi hik=>h5 i (by have:l<=i:=hi;omega) hik⟩
 | f+1,l,r,h1,h2,h3,h4,h5=>by
  by_cases hlr:l>=r
  ·have er:kas_place p k (f+1) l r=.ret l:=by rw [kas_place,if_pos hlr]
   rw [er];exact ⟨rfl,by show l<=k;omega,h4,fun i hi hik=>h5 i (by have:l<=i:=hi;omega) hik⟩
  ·have er:kas_place p k (f+1) l r=.ask (at' p k) (at' p ((l+r)/2)) fun d=>if d=true then kas_place p k f l ((l+r)/2) else kas_place p k f ((l+r)/2+1) r:=by rw [kas_place,if_neg hlr];rfl
   rw [er];have hm:(l+r)/2<k:=by omega
   have l1:=P.lt hk;have l2:=P.lt (i:=(l+r)/2) (by omega);have eo:∀ (b:Bool),c (at' p k) (at' p ((l+r)/2))=b->ya9 c (.ask (at' p k) (at' p ((l+r)/2)) fun d=>if d=true then kas_place p k f l ((l+r)/2) else kas_place p k f ((l+r)/2+1) r)=ya9 c (if b=true then kas_place p k f l ((l+r)/2) else kas_place p k f ((l+r)/2+1) r):=fun b e=>by rw [ya9,e]
   cases e:c (at' p k) (at' p ((l+r)/2)) with
   | true =>
    obtain ⟨a1,a2,a3,a4⟩:=zd7 T P hk h f l ((l+r)/2) (by omega) (by omega) (by omega) h4 fun i hi hik=>by
     by_cases q:i=(l+r)/2
     ·rw [q];exact e
     ·exact T.tr _ _ _ l1 l2 (P.lt (by omega)) e (h _ _ (by omega) hik)
    rw [eo _ e,if_pos rfl];exact ⟨zcl l1 l2 (by rw [e,if_pos rfl];exact a1),a2,a3,a4⟩
   | false =>
    have e':c (at' p ((l+r)/2)) (at' p k)=true:=by rw [T.tot _ _ l1 l2 (P.ne (by omega) (by omega) (by omega)),e];rfl
    obtain ⟨a1,a2,a3,a4⟩:=zd7 T P hk h f ((l+r)/2+1) r (by omega) h2 (by omega) (fun i hi=>by
     by_cases q:i=(l+r)/2
     ·rw [q];exact e'
     ·exact T.tr _ _ _ (P.lt (by omega)) l2 l1 (h _ _ (by omega) hm) e') h5
    rw [eo _ e,if_neg (by simp)];exact ⟨zcl l1 l2 (by rw [e,if_neg (by simp)];exact a1),a2,a3,a4⟩
theorem zna (T:Tot n c):∀ (f:Nat) (p:Array Nat) (k:Nat),Pm n p->1<=k->k+f=n->Asc c p k->kok n c (kas_bin f p k)=true/\Pm n (ya9 c (kas_bin f p k))/\Asc c (ya9 c (kas_bin f p k)) n
 | 0,p,k,P,_,hk,h=>⟨rfl,P,by have:k=n:=hk;rw [<- this];exact h⟩
 | f+1,p,k,P,h1,hk,h=>by
  obtain ⟨a1,a2,a3,a4⟩:=zd7 T P (k:=k) (by omega) h k 0 k (zyt _) (zye _) (by omega) (fun i hi=>by omega) fun i hi hik=>by omega
  have er:kas_bin (f+1) p k=(kas_place p k k 0 k).bind fun l=>kas_bin f (bubble p k (k-l)) (k+1):=rfl;rw [er,zb6];generalize hl:ya9 c (kas_place p k k 0 k)=l at *;have P':Pm n (bubble p k (k-l)):=List.Perm.trans (Array.perm_iff_toList_perm.mp (bubble_perm p k (k-l))) P;have hs:=P.size;have g:∀ i,i<k+1->at' (bubble p k (k-l)) i=at' p (if i<l then i else if i=l then k else i-1):=fun i hi=>zwu (by
   rw [getElem?_bubble (by omega) (k-l) (by omega),show k-(k-l)=l by omega];by_cases q1:i=l
   ·rw [if_pos q1,if_neg (by omega),if_pos q1]
   ·rw [if_neg q1];by_cases q2:i<l
    ·rw [if_neg (by omega),if_pos q2]
    ·rw [if_pos (by omega),if_neg q2,if_neg q1])
  obtain ⟨b1,b2,b3⟩:=zna T f (bubble p k (k-l)) (k+1) P' (by omega) (by omega) fun i j hij hj=>by
   rw [g i (by omega),g j hj];by_cases q1:j<l
   ·rw [if_pos q1,if_pos (by omega)];exact h i j hij (by omega)
   ·rw [if_neg q1];by_cases q2:j=l
    ·rw [if_pos q2,if_pos (by omega)];exact a3 i (by omega)
    ·rw [if_neg q2];by_cases q3:i<l
     ·rw [if_pos q3];exact h i (j-1) (by omega) (by omega)
     ·rw [if_neg q3];by_cases q4:i=l
      ·rw [if_pos q4];exact a4 (j-1) (by omega) (by omega)
      ·rw [if_neg q4];exact h (i-1) (j-1) (by omega) (by omega)
  exact ⟨zcf _ a1 (by rw [hl];exact b1),b2,b3⟩
theorem zl4 (h2:2<=n) (T:Tot n c):kok n c (kas_sort n)=true/\Pm n (ya9 c (kas_sort n))/\(ya9 c (kas_sort n)).toList.Pairwise fun x y=>c x y=true:=by
 have P0:Pm n (List.toArray (List.range n)):=List.Perm.refl _;obtain ⟨a1,m,q,a2,a3,a4,a5,a6⟩:=zm1 T P0 h2;have er:kas_sort n=(kas_count n (List.toArray (List.range n))).bind fun r=>if r.1<n then kas_bin (n-max r.1 1) r.2 (max r.1 1) else .ret r.2:=rfl
 have pw:∀ {q:Array Nat},Pm n q->Asc c q n->q.toList.Pairwise fun x y=>c x y=true:=fun {q} P h=>by rw [List.pairwise_iff_getElem];intro i j hi hj hij;rw [zyn,P.size] at hi hj;have e:=h i j hij hj;have g1:=zg3 (p:=q) (i:=i) (by rw [P.size];exact hi);have g2:=zg3 (p:=q) (i:=j) (by rw [P.size];exact hj);rw [Array.getElem?_eq_getElem (by rw [P.size];exact hi)] at g1;rw [Array.getElem?_eq_getElem (by rw [P.size];exact hj)] at g2;rw [Array.getElem_toList,Array.getElem_toList,zyk g1,zyk g2];exact e
 rw [er,zb6,a2];show kok n c _=true/\Pm n (ya9 c (if m<n then kas_bin (n-max m 1) q (max m 1) else .ret q))/\(ya9 c (if m<n then kas_bin (n-max m 1) q (max m 1) else .ret q)).toList.Pairwise _;by_cases hm:m<n
 ·rw [if_pos hm,show max m 1=m by omega];obtain ⟨b1,b2,b3⟩:=zna T (n-m) q m a5 a3 (by omega) a6;exact ⟨zcf _ a1 (by rw [a2];show kok n c (if m<n then _ else _)=true;rw [if_pos hm,show max m 1=m by omega];exact b1),b2,pw b2 b3⟩
 ·rw [if_neg hm];obtain rfl:m=n:=by omega
  exact ⟨zcf _ a1 (by rw [a2];show kok m c (if m<m then _ else _)=true;rw [if_neg hm];rfl),a5,pw a5 a6⟩
end
theorem zcm {α:Type} {cmp:Nat->Nat->(Bool->Shared->Prop)->Shared->Prop} {c:Nat->Nat->Bool} {I:Shared->Prop} {n:Nat} (h:∀ i j C s,i<n->j<n->I s->(∀ s',I s'->C (c i j) s')->cmp i j C s) {Q:α->Shared->Prop} :
  ∀ (t:KasT α) (s:Shared),kok n c t=true->I s->(∀ s',I s'->Q (ya9 c t) s')->t.kasWp cmp Q s
 | .ret _,s,_,hi,q=>q s hi
 | .ask i j k,s,hk,hi,q=>by rw [kok,zx7,zx7,zze,zze] at hk;exact h i j _ s hk.1.1 hk.1.2 hi fun s' hi'=>zcm h (k (c i j)) s' hk.2 hi' q
theorem zl3 {n:Nat} (h2:2<=n) {c:Nat->Nat->Bool} (tot:∀ i j,i<j->j<n->c j i=!c i j) (tr:∀ i j k,i<n->j<n->k<n->c i j=true->c j k=true->c i k=true) :
  kok n c (kas_sort n)=true/\(ya9 c (kas_sort n)).toList.length=n/\(∀ i,i<n->i∈(ya9 c (kas_sort n)).toList)/\(∀ i∈(ya9 c (kas_sort n)).toList,i<n)/\(ya9 c (kas_sort n)).toList.Pairwise fun x y=>c x y=true:=by
 obtain ⟨a,b,d⟩:=zl4 (c:=c) h2 ⟨fun i j hi hj hne=>by
  rcases Nat.lt_or_gt_of_ne hne with h | h
  ·exact tot i j h hj
  ·rw [tot j i h hi,Bool.not_not],tr⟩
 exact ⟨a,by rw [zyn];exact b.size,fun i hi=>(List.Perm.mem_iff b).mpr (zzd.mpr hi),fun i hi=>zzd.mp ((List.Perm.mem_iff b).mp hi),d⟩
end
section
open PySem W Spec PyProof.Rows L2
section
variable {prog:Program} {w:World} {A:Around} {E:Value->Shared->Prop} {s:Shared} {b:Bool} {Q:Bool->Shared->Prop}
theorem zsc {x y:Key} {v u:Value} (rx:RelV (kV x) v) (ry:RelV (kV y) u) (hs:ycn x y=true) (c:Bool) (h:Q (kLt x y) s):wpAny (model prog w) A (oneLt' c v u) Q E s:=by
 match x,y,hs with
 | .inl i,.inl j,_ =>
  obtain ⟨t,rfl⟩:=rx;obtain ⟨t',rfl⟩:=ry;cases c with
  | true=>exact kat_lt_int h
  | false=>exact kat_one _ _ (PyProof.Rows.lt_int h)
 | .inr (some i),.inr (some j),_ =>
  obtain ⟨t,rfl⟩:=rx;obtain ⟨t',rfl⟩:=ry;cases c with
  | true=>exact oneLt_str h
  | false=>exact kat_one _ _ (PyProof.Rows.lt_str h)
theorem zwd {x y:Key} {v u:Value} (rx:RelV (kV x) v) (ry:RelV (kV y) u) (hs:ycn x y=true) (h:Q (decide (x=y)) s):wpAny (model prog w) A (eqBool v u) Q E s:=by
 match x,y,hs with
 | .inl i,.inl j,_ =>
  obtain ⟨t,rfl⟩:=rx;obtain ⟨t',rfl⟩:=ry;refine wpAny_eqBool_int ?_;have e:(i==j)=decide ((Sum.inl i:Key)=Sum.inl j):=by
   by_cases q:i=j
   ·subst q;simp
   ·simp [q]
  rw [e];exact h
 | .inr (some i),.inr (some j),_ =>
  obtain ⟨t,rfl⟩:=rx;obtain ⟨t',rfl⟩:=ry;refine wpAny_eqBool_str ?_;have e:decide (i=j)=decide ((Sum.inr (some i):Key)=Sum.inr (some j)):=by
   by_cases q:i=j
   ·subst q;simp
   ·simp [q]
  rw [e];exact h
theorem zis:∀ (ks ls:List Key) (vs us:List Value) (i:Nat),Vals (ks.map kV) vs->Vals (ls.map kV) us->alike ks ls=true->Q (ya8 ks ls) s->KatLex prog w A b false Q (vs.zip us) i s
 | [],[],vs,us,i,hv,hu,_,h=>by cases hv;exact kat_nil h
 | x::ks,y::ls,vs,us,i,hv,hu,ha,h=>by
  rw [alike,zx7] at ha;cases hv with
  | cons rx hv =>
   cases hu with
   | cons ry hu =>
    rw [List.zip_cons_cons];refine kat_cons (zwd rx ry ha.1 ?_);rw [ya8] at h;by_cases e:x=y
    ·rw [if_pos e] at h;rw [zyo e];exact kat_yes (zis ks ls _ _ (i+1) hv hu ha.2 h)
    ·rw [if_neg e] at h;rw [zys e];exact kat_no (zsc rx ry ha.1 _ h)
 | [],_::_,_,_,_,_,_,ha,_=>by cases ha
 | _::_,[],_,_,_,_,_,ha,_=>by cases ha
end
end
section
open PySem L2
theorem zq2 {a b:Str} (h:a.cps.toList=b.cps.toList):a=b:=by obtain ⟨⟨a⟩⟩:=a;obtain ⟨⟨b⟩⟩:=b;cases (show a=b from h);rfl
theorem zl6 (x:Key):kLt x x=false:=by
 rcases x with a | _ | a
 ·exact zys (Int.lt_irrefl a)
 ·rfl
 ·exact zys (List.lt_irrefl _)
theorem zhr {x y:Key} (hs:ycn x y=true) (hn:x≠y):kLt y x=!kLt x y:=by
 match x,y,hs with
 | .inl a,.inl b,_ =>
  have:a≠b:=fun e=>hn (by rw [e]);by_cases h:a<b
  ·rw [show kLt (.inl b) (.inl a)=false from zys (by omega),show kLt (.inl a) (.inl b)=true from zyo h];rfl
  ·rw [show kLt (.inl b) (.inl a)=true from zyo (by omega),show kLt (.inl a) (.inl b)=false from zys h];rfl
 | .inr (some a),.inr (some b),_ =>
  have hne:a.cps.toList≠b.cps.toList:=fun e=>hn (by rw [zq2 e]);by_cases h:a.cps.toList<b.cps.toList
  ·rw [show kLt (.inr (some b)) (.inr (some a))=false from zys (List.lt_asymm h),show kLt (.inr (some a)) (.inr (some b))=true from zyo h];rfl
  ·have:b.cps.toList<a.cps.toList:=by
    rcases Nat.lt_trichotomy 0 0 with z | z | z
    ·omega
    ·exact Classical.byContradiction fun q=>hne (List.le_antisymm (List.not_lt.mp q) (List.not_lt.mp h))
    ·omega
   rw [show kLt (.inr (some b)) (.inr (some a))=true from zyo this,show kLt (.inr (some a)) (.inr (some b))=false from zys h];rfl
theorem zqg {x y z:Key} (h1:kLt x y=true) (h2:kLt y z=true):kLt x z=true:=by
 match x,y,z with
 | .inl a,.inl b,.inl c=>exact zyo (Int.lt_trans (zy6 h1) (zy6 h2))
 | .inr (some a),.inr (some b),.inr (some c)=>exact zyo (List.lt_trans (zy6 h1) (zy6 h2))
 | .inl _,.inr _,_=>cases h1
 | .inr none,.inl _,_=>cases h1
 | .inr (some _),.inl _,_=>cases h1
 | .inl _,.inl _,.inr _=>cases h2
 | .inr (some _),.inr (some _),.inl _=>cases h2
 | .inr none,.inr _,_=>cases h1
 | .inr (some _),.inr none,_=>cases h1
 | .inr (some _),.inr (some _),.inr none=>cases h2
theorem zcs:∀ ks:List Key,ya8 ks ks=false
 | []=>rfl
 | x::ks=>by rw [ya8,if_pos rfl];exact zcs ks
theorem zc4:∀ {ks ls:List Key},alike ks ls=true->ks≠ls->ya8 ls ks=!ya8 ks ls
 | [],[],_,h=>absurd rfl h
 | x::ks,y::ls,ha,h=>by
  rw [alike,zx7] at ha;rw [ya8,ya8];by_cases e:x=y
  ·subst e;rw [if_pos rfl,if_pos rfl];exact zc4 ha.2 fun q=>h (by rw [q])
  ·rw [if_neg e,if_neg (Ne.symm e)];exact zhr ha.1 e
 | [],_::_,ha,_=>by cases ha
 | _::_,[],ha,_=>by cases ha
theorem zho:∀ {a b c:List Key},alike a b=true->alike b c=true->ya8 a b=true->ya8 b c=true->ya8 a c=true
 | x::a,y::b,z::c,h1,h2,l1,l2=>by
  rw [alike,zx7] at h1 h2;rw [ya8] at l1 l2 ⊢;by_cases e1:x=y
  ·subst e1;rw [if_pos rfl] at l1;by_cases e2:x=z
   ·subst e2;rw [if_pos rfl] at l2 ⊢;exact zho h1.2 h2.2 l1 l2
   ·rw [if_neg e2] at l2 ⊢;exact l2
  ·rw [if_neg e1] at l1;by_cases e2:y=z
   ·subst e2;rw [if_neg e1];exact l1
   ·rw [if_neg e2] at l2;have l3:=zqg l1 l2;by_cases e3:x=z
    ·subst e3;rw [zl6] at l3;cases l3
    ·rw [if_neg e3];exact l3
 | [],_,_,_,_,l1,_=>by simp [ya8] at l1
 | _::_,[],_,_,_,l1,_=>by cases l1
 | _::_,_::_,[],_,_,_,l2=>by cases l2
end
section
open PySem W Spec PyProof.Rows L2
theorem zhq {prog:Program} {w:World} {A:Around} {s:Shared} {b:Bool} {vs:List Value} {kss:List (List Key)} {Q:Array Nat->Shared->Prop} (hl:vs.length=kss.length) (h2:2<=kss.length) (nd:kss.Nodup)
  (al:∀ x∈kss,∀ y∈kss,alike x y=true)
  (hp:∀ i,i<kss.length->∃ a o qc n,vs.getD i .none=.ref a/\s.heap.get? a=some o/\o.data=.seq qc n/\Vals ((kss.getD i []).map kV) qc.toList)
  (q:∀ p:Array Nat,p.toList.length=kss.length->(∀ i,i<kss.length->i∈p.toList)->(∀ i∈p.toList,i<kss.length)->(p.toList.Pairwise fun i j=>ya8 (kss.getD i []) (kss.getD j [])=true)->Q p s) :
  (kas_sort vs.length).kasWp (kas_ask prog w A (tuples' b) vs) Q s:=by
 rw [hl];have mem:∀ i,i<kss.length->kss.getD i []∈kss:=fun i hi=>by rw [zyb,zx6 hi];exact List.getElem_mem hi
 have inj:∀ i j,i<kss.length->j<kss.length->kss.getD i []=kss.getD j []->i=j:=fun i j hi hj e=>by rw [zyb,zyb,zx6 hi,zx6 hj] at e;exact (List.getElem_inj nd).mp e
 have T:=zl3 (c:=fun i j=>ya8 (kss.getD i []) (kss.getD j [])) h2 (fun i j hij hj=>zc4 (al _ (mem i (by omega)) _ (mem j hj)) fun e=>by have:=inj i j (by omega) hj e;omega)
  fun i j k hi hj hk=>zho (al _ (mem i hi) _ (mem j hj)) (al _ (mem j hj) _ (mem k hk))
 refine zcm (n:=kss.length) (c:=fun i j=>ya8 (kss.getD i []) (kss.getD j [])) (I:=fun s'=>s'=s) (fun i j C s' hi hj hs hC=>?_) _ s T.1 rfl (fun s' hs=>by subst hs;exact q _ T.2.1 T.2.2.1 T.2.2.2.1 T.2.2.2.2);subst hs;obtain ⟨a,o,qc,n,e1,e2,e3,e4⟩:=hp i hi;obtain ⟨a',o',its',n',f1,f2,f3,f4⟩:=hp j hj;show wpAny (model prog w) A (keyLt' (tuples' b) (vs.getD i .none) (vs.getD j .none)) C (fun _ _=>False) s';rw [e1,f1];have hz:decide (qc.size<its'.size)=false:=by
  have l1:=e4.length;have l2:=f4.length;have l3:∀ {x y:List Key},alike x y=true->x.length=y.length:=fun {x}=>by
   induction x with
   | nil=>intro y h;cases y with | nil=>rfl | cons _ _=>cases h
   | cons p x ih=>intro y h;cases y with | nil=>cases h | cons r y=>rw [alike,Bool.and_eq_true] at h;simp [ih h.2]
  have:=l3 (al _ (mem i hi) _ (mem j hj));rw [zya] at l1 l2;have s1:qc.toList.length=qc.size:=zyn;have s2:its'.toList.length=its'.size:=zyn;exact zys (by rw [<- s1,<- s2,<- l1,<- l2,this];exact zy9 _)
 refine kat_lt e2 e3 f2 f3 ?_;rw [hz];exact zis _ _ _ _ 0 e4 f4 (al _ (mem i hi) _ (mem j hj)) (hC s' rfl)
end
section
open PySem L2
variable {l:List (List Kt)}
theorem zfm {x k:List Kt}:∀ {l:List (List Kt)},x∈ydr k l↔x=k\/x∈l
 | []=>by simp [ydr]
 | y::r=>by
  rw [ydr];split
  ·simp
  ·rw [List.mem_cons,zfm (l:=r),List.mem_cons];constructor
   ·rintro (h | h | h)
    ·exact .inr (.inl h)
    ·exact .inl h
    ·exact .inr (.inr h)
   ·rintro (h | h | h)
    ·exact .inr (.inl h)
    ·exact .inl h
    ·exact .inr (.inr h)
theorem zbu {x:List Kt}:∀ {l:List (List Kt)},x∈ya3 l↔x∈l
 | []=>by simp [ya3]
 | y::r=>by rw [ya3,zfm,zbu (l:=r),List.mem_cons]
theorem zit (k:List Kt):∀ l:List (List Kt),(ydr k l).length=l.length+1
 | []=>rfl
 | y::r=>by
  rw [ydr];split
  ·rfl
  ·rw [zyq,zit k r,zyq]
theorem zc5:∀ l:List (List Kt),(ya3 l).length=l.length
 | []=>rfl
 | y::r=>by rw [ya3,zit,zc5 r,zyq]
theorem zk3 {k:List Kt}:∀ {l:List (List Kt)},(∀ x∈l,alike k x=true/\alike x k=true/\k≠x)->(∀ x∈l,∀ y∈l,alike x y=true)->(l.Pairwise fun x y=>ya8 x y=true)->(ydr k l).Pairwise fun x y=>ya8 x y=true
 | [],_,_,_=>by simp [ydr]
 | x::r,ha,hb,hp=>by
  rw [ydr];obtain ⟨h1,h2⟩:=List.pairwise_cons.mp hp;split
  ·rename_i hk;refine List.pairwise_cons.mpr ⟨fun y hy=>?_,hp⟩;rcases omc hy with rfl | hy
   ·exact hk
   ·exact zho (ha x (.head _)).1 (hb x (.head _) y (.tail _ hy)) hk (h1 y hy)
  ·rename_i hk;refine List.pairwise_cons.mpr ⟨fun y hy=>?_,zk3 (fun z hz=>ha z (.tail _ hz)) (fun z hz u hu=>hb z (.tail _ hz) u (.tail _ hu)) h2⟩;rcases zfm.mp hy with rfl | hy
   ·have:=zc4 (ha x (.head _)).1 (ha x (.head _)).2.2;rw [this];cases h:ya8 y x with
    | true=>exact absurd h hk
    | false=>rfl
   ·exact h1 y hy
theorem zfi:∀ {l:List (List Kt)},l.Nodup->(∀ x∈l,∀ y∈l,alike x y=true)->(ya3 l).Pairwise fun x y=>ya8 x y=true
 | [],_,_=>by simp [ya3]
 | k::r,nd,ha=>by rw [ya3];obtain ⟨h1,h2⟩:=List.nodup_cons.mp nd;refine zk3 (fun x hx=>?_) (fun x hx y hy=>ha x (.tail _ (zbu.mp hx)) y (.tail _ (zbu.mp hy))) (zfi h2 fun x hx y hy=>ha x (.tail _ hx) y (.tail _ hy));have hx:=zbu.mp hx;exact ⟨ha k (.head _) x (.tail _ hx),ha x (.tail _ hx) k (.head _),fun e=>h1 (by rw [e];exact hx)⟩
theorem zk0:∀ {l m:List (List Kt)},(∀ x,x∈l↔x∈m)->(∀ x∈l,∀ y∈l,alike x y=true)->(l.Pairwise fun x y=>ya8 x y=true)->(m.Pairwise fun x y=>ya8 x y=true)->l=m
 | [],[],_,_,_,_=>rfl
 | [],y::m,h,_,_,_=>absurd ((h y).mpr (.head _)) (by simp)
 | x::l,[],h,_,_,_=>absurd ((h x).mp (.head _)) (by simp)
 | x::l,y::m,h,ha,p1,p2=>by
  obtain ⟨a1,a2⟩:=List.pairwise_cons.mp p1;obtain ⟨b1,b2⟩:=List.pairwise_cons.mp p2;have e:x=y:=by refine Classical.byContradiction fun hne=>?_;have hx:x∈m:=(omc ((h x).mp (.head _))).resolve_left hne;have hy:y∈l:=(omc ((h y).mpr (.head _))).resolve_left (Ne.symm hne);have:=zc4 (ha x (.head _) y (.tail _ hy)) hne;rw [a1 y hy,b1 x hx] at this;cases this
  subst e;have ne1:∀ z∈l,z≠x:=fun z hz e=>by subst e;have:=a1 z hz;rw [zcs] at this;cases this
  have ne2:∀ z∈m,z≠x:=fun z hz e=>by subst e;have:=b1 z hz;rw [zcs] at this;cases this
  rw [zk0 (l:=l) (m:=m) (fun z=>⟨fun hz=>(omc ((h z).mp (.tail _ hz))).resolve_left (ne1 z hz),fun hz=>(omc ((h z).mpr (.tail _ hz))).resolve_left (ne2 z hz)⟩) (fun z hz u hu=>ha z (.tail _ hz) u (.tail _ hu)) a2 b2]
theorem zeu {r:List (List Kt)} (h:ydh l=some r):l.length<=60/\l.Nodup/\(∀ x∈l,x≠[]/\∀ y∈l,alike x y=true)/\r=ya3 l:=by
 unfold ydh at h;split at h
 ·rename_i hc;obtain ⟨c1,c2,c3⟩:=hc;cases h;refine ⟨c1,c2,fun x hx=>?_,rfl⟩;have:=oml c3 x hx;rw [zx7] at this;refine ⟨fun e=>?_,fun y hy=>oml this.2 y hy⟩;rw [e] at this;exact absurd this.1 (by simp)
 ·cases h
theorem ye8 (nd:l.Nodup) (al:∀ x∈l,∀ y∈l,alike x y=true) {p:List Nat} (h1:∀ i,i<l.length->i∈p) (h2:∀ i∈p,i<l.length) (h3:p.Pairwise fun i j=>ya8 (l.getD i []) (l.getD j [])=true) :
  ya3 l=p.map fun i=>l.getD i []:=by
 have mem:∀ i,i<l.length->l.getD i []∈l:=fun i hi=>by rw [zyb,zx6 hi];exact List.getElem_mem hi
 refine zk0 (fun x=>?_) (fun x hx y hy=>al x (zbu.mp hx) y (zbu.mp hy)) (zfi nd al) (List.pairwise_map.mpr h3);rw [zbu,List.mem_map];constructor
 ·intro hx;obtain ⟨i,hi,rfl⟩:=List.getElem_of_mem hx;exact ⟨i,h1 i hi,by rw [zyb,zx6 hi];rfl⟩
 ·rintro ⟨i,hi,rfl⟩;exact mem i (h2 i hi)
end
section
open PySem W Spec PyProof.Rows L2
variable {Q:Option Value->Shared->Prop}
def RawD (g:Heap) (d:Addr) (en:Array DictEntry) (ep:Nat):Prop:=∃ o,g.get? d=some o/\o.ExactDict/\o.data=.dict en ep
section
variable {prog:Program} {w:World} {A:Around} {E:Value->Shared->Prop} {s:Shared} {d j:Addr} {en:Array DictEntry} {ep i:Nat}
theorem RawD.ty (r:RawD s.heap d en ep):s.TypeIs (.ref d) "dict":=let ⟨o,a,b,_⟩:=r;⟨o,a,b.1⟩
theorem RawD.to {g g':Heap} (r:RawD g d en ep) (k:∀ o,g.get? d=some o->g'.get? d=some o):RawD g' d en ep:=let ⟨o,a,b⟩:=r;⟨o,k o a,b⟩
theorem zob {Q:Value->Shared->Prop} (hm:(d==sysModules)=false) (r:RawD s.heap d en ep)
  (q:Q (.ref s.heap.objs.size) { s with heap:=s.heap.push { cls:=.type "dict_keyiterator",data:=.fields #[.ref d,.int 0 0,.int en.size 0,.int ep 0] } }):wpAny (model prog w) A (pyIter (.ref d)) Q E s:=by
 obtain ⟨o,a,b,c⟩:=id r;refine wpAny_pyIter_slot r.ty PySem.F.slot_dict_iter (zyw PySem.F.slot_dict_iter r.ty PySem.F.entry_dict_iter ?_ (PySem.F.args_dict_iter_1 _));unfold Builtin.«dict.__iter__»;refine zx1 ?_;unfold Builtin.Dict.dictSlotNone;refine zx1 (wpAny_notOrdered_dict r.ty ?_);show wpAny _ _ (pure (Value.ref d)) _ _ s;refine zx5 (show wpAny _ _ (Builtin.Dict.showsAll d >>= _) _ _ s from ?_);unfold Builtin.Dict.showsAll;rw [if_neg (by rw [hm];exact zyg)];refine zx1 (zx5 (zx1 (wpAny_dictEntries a c (zx1 (wpAny_dictEpoch a c ?_)))));refine zx1 (zyz (zx5 ⟨_,rfl, "dict_keyiterator",_,⟨_,zx9 _ rfl,rfl⟩,PySem.F.slot_dict_keyiterator_next.lookup,?_⟩));simpa [rawInt] using q
theorem zoa (t:s.heap.IsKeyIter j d i en.size ep) (r:RawD s.heap d en ep) (hi:i<en.size)
  (q:∀ g,g.IsKeyIter j d (i+1) en.size ep->Heap.SameBut j s.heap g->Q (some en[i].key) { s with heap:=g }):wpAny (model prog w) A (pyNext (.ref j)) Q E s:=by
 obtain ⟨o,a,b,c⟩:=id t;obtain ⟨od,ad,bd,cd⟩:=id r;unfold pyNext;refine zx1 (wpAny_attempt (zy1 (name:=Str.ofString "__next__") t.typeIs PySem.F.slot_dict_keyiterator_next (zyw PySem.F.slot_dict_keyiterator_next t.typeIs PySem.F.entry_dict_keyiterator_next ?_ (PySem.F.args_dict_keyiterator_next_1 _))));refine zx1 (zx5 (zx1 (zx1 ?_)))
 first | refine zx1 (wpAny_typeNameOfWhole_keyiter t.typeIs (zx5 (zx1 (wpAny_fieldsOf a c ?_)))) | refine zx1 (wpAny_typeNameOf_keyiter t.typeIs (zx5 (zx1 (wpAny_fieldsOf a c ?_))))
 simp only [show Builtin.Dict_items.ownsTuple "dict_keyiterator"=false by decide,zy5,if_false];refine (show wpAny _ _ (if (Value.ref d==Value.none)=true then _ else _) _ _ s from ?_);rw [if_neg (show ¬ ((Value.ref d==Value.none)=true) from zyg)];refine zx1 (zx5 (zx1 (wpAny_dictEntries ad cd ?_)));rw [if_neg (by simp)];refine zx1 (zx5 (zx1 (wpAny_dictEpoch ad cd ?_)));rw [if_neg (by simp)];refine zx5 ?_;simp only [show ¬ ((i:Int)<0) from by omega,if_false,Int.toNat_natCast,Array.getElem?_eq_getElem hi];refine zx1 ?_
 first | refine zx1 (wpAny_typeNameOfWhole_keyiter t.typeIs (zx5 (zx1 (wpAny_isOneOf_keyiter t.typeIs ?_)))) | refine zx1 (wpAny_typeNameOf_keyiter t.typeIs (zx5 (zx1 (wpAny_isOneOf_keyiter t.typeIs ?_))))
 refine (show wpAny _ _ (setField (.ref j) 1 (rawInt ((i:Int)+1)) >>= _) _ _ s from wpAny_bind (wpAny_setField a c (by simp) ?_));have t':(s.heap.update j (Obj.mapFields (·.setIfInBounds 1 (rawInt ((i:Int)+1))))).IsKeyIter j d (i+1) en.size ep :=
  ⟨_,Heap.get?_update_self _ a (Obj.isFreed_of_fields (Obj.data_mapFields c _)),(Obj.cls_mapFields ..).trans b,by rw [Obj.data_mapFields c];simp [rawInt]⟩
 refine zx1 (wpAny_holding (zx1 (wpAny_isOneOf_keyiter (s:={ s with heap:=s.heap.update j (Obj.mapFields (·.setIfInBounds 1 (rawInt ((i:Int)+1)))) }) t'.typeIs ?_)));show wpAny _ _ (pure en[i].key) _ _ _;exact zx5 (zx5 ⟨_,rfl,zx5 (q _ t' (Heap.SameBut.update ..))⟩)
theorem zrl (hh:A.handled=none) (t:s.heap.IsKeyIter j d en.size en.size ep) (r:RawD s.heap d en ep) (q:∀ g,Heap.ExtBut j s.heap g->Q none { s with heap:=g }):wpAny (model prog w) A (pyNext (.ref j)) Q E s:=by
 obtain ⟨o,a,b,c⟩:=id t;obtain ⟨od,ad,bd,cd⟩:=id r;unfold pyNext;refine zx1 (wpAny_attempt (zy1 (name:=Str.ofString "__next__") t.typeIs PySem.F.slot_dict_keyiterator_next (zyw PySem.F.slot_dict_keyiterator_next t.typeIs PySem.F.entry_dict_keyiterator_next ?_ (PySem.F.args_dict_keyiterator_next_1 _))));refine zx1 (zx5 (zx1 (zx1 ?_)))
 first | refine zx1 (wpAny_typeNameOfWhole_keyiter t.typeIs (zx5 (zx1 (wpAny_fieldsOf a c ?_)))) | refine zx1 (wpAny_typeNameOf_keyiter t.typeIs (zx5 (zx1 (wpAny_fieldsOf a c ?_))))
 simp only [show Builtin.Dict_items.ownsTuple "dict_keyiterator"=false by decide,zy5,if_false];refine (show wpAny _ _ (if (Value.ref d==Value.none)=true then _ else _) _ _ s from ?_);rw [if_neg (show ¬ ((Value.ref d==Value.none)=true) from zyg)];refine zx1 (zx5 (zx1 (wpAny_dictEntries ad cd ?_)));rw [if_neg (by simp)];refine zx1 (zx5 (zx1 (wpAny_dictEpoch ad cd ?_)));rw [if_neg (by simp)];refine zx5 ?_;simp only [show ¬ ((en.size:Int)<0) from by omega,if_false,Int.toNat_natCast,Array.getElem?_eq_none (Nat.le_refl en.size)];refine zx1 ?_
 first | refine zx1 (wpAny_typeNameOfWhole_keyiter t.typeIs (zx5 ?_)) | refine zx1 (wpAny_typeNameOf_keyiter t.typeIs (zx5 ?_))
 refine (show wpAny _ _ (setField (.ref j) 0 .none >>= _) _ _ s from wpAny_bind (wpAny_setField a c (by simp) ?_));refine (show wpAny _ _ (newExc (.type "StopIteration") [] >>= _) _ _ _ from zx1 ?_);simp only [newExc,newTuple];refine zx1 (zyz ?_ (by size_fits));refine wpAny_bind (m:=firstArgMember _ _) (wpAny_of_eq (a:=Value.none) (by first | rfl | (simp only [firstArgMember];rfl)) (wpAny_newObj_type ?_ (by size_fits)));simp only [raiseNew];refine zx1 (wpAny_handled ?_);rw [show A.in1.handled=none from hh];refine zx1 (zx5 (wpAny_throw ?_));exact zx1 (wpAny_isInstance (T:="StopIteration") (b:=true) ⟨_,zx9 _ rfl,rfl⟩ isSubtype_stop (zx5 (q _ (((Heap.SameBut.update ..).extBut.push _).push _))))
theorem zkw (hh:A.handled=none) (j d:Addr) (hne:d≠j) (en:Array DictEntry) (ep:Nat) :
  Walks prog w A j [j,d] [j] en.size (fun i v=>∃ e,en[i]?=some e/\v=e.key) (fun i h=>h.IsKeyIter j d i en.size ep/\RawD h d en ep) where
 sub:=fun b hb=>by simp at hb;simp [hb]
 frame:=fun _ _ _ st hk=>⟨st.1.at fun o e=>hk j (by simp) o e,st.2.to fun o e=>hk d (by simp) o e⟩
 item:=fun i s Q E hi st hQ=>zoa st.1 st.2 hi fun g t' hs=>hQ _ g s.toks ⟨en[i],by simp [hi],rfl⟩ ⟨t',st.2.to fun o e=>hs.extBut d o hne e⟩ fun b o hb e=>hs.extBut b o (fun h=>hb (by simp [h])) e
 done:=fun s Q E st hQ=>zrl hh st.1 st.2 fun g he=>hQ g s.toks fun b o hb e=>he b o (fun h=>hb (by simp [h])) e
 self:=fun _ _ _ _ st hQ=>wpAny_pyIter_keyiter st.1 hQ
theorem zkx (lo:(d==sysModules)=false):KdlSrc prog w "dict" d d en.size (fun i v=>∃ e,en[i]?=some e/\v=e.key) (fun h=>RawD h d en ep) where
 type:=fun _ r=>r.ty
 there:=fun _ r=>⟨let ⟨_,a,_⟩:=r;zyf a,let ⟨_,a,_⟩:=r;zyf a⟩
 keep:=fun _ _ r hk=>r.to fun o e=>hk d (.inl rfl) o e
 notList:=by decide
 notTuple:=by decide
 hint:=fun _ _ _ _ r hq=>kdl_hint_dict r.ty hq
 iter:=fun _ s hh r=>⟨_,_,(fun _ _ hq=>zob lo r hq),zkw hh _ d (zyp (let ⟨_,a,_⟩:=r;zyf a)) en ep,⟨⟨_,zx9 _ rfl,rfl,rfl⟩,r.to fun o e=>zxz _ e⟩⟩
end
end
section
open PySem W Spec PyProof.Rows L2
variable {g:Heap} {vs:List Value} {a:Addr}
def KTup (g:Heap) (v:Value) (k:List Key):Prop:=∃ a o qc n,v=.ref a/\g.get? a=some o/\o.cls=.type "tuple"/\o.data=.seq qc n/\Vals (k.map kV) qc.toList
theorem KTup.to {g':Heap} {v:Value} {k:List Key} (h:KTup g v k) (q:∀ a o,v=.ref a->g.get? a=some o->g'.get? a=some o):KTup g' v k :=
 let ⟨a,o,qc,n,e,h1,h2⟩:=h;⟨a,o,qc,n,e,q a o e h1,h2⟩
abbrev KTups (g:Heap):List Value->List (List Key)->Prop:=Paired (KTup g)
theorem KTups.get {g:Heap}:∀ {vs:List Value} {ks:List (List Key)},KTups g vs ks->∀ i,i<ks.length->KTup g (vs.getD i .none) (ks.getD i [])
 | _,_,.nil,i,h=>by simp at h
 | _,_,.cons r t,0,_=>by simpa using r
 | _,_,.cons r t,i+1,h=>by simpa using KTups.get t i (by simpa using h)
theorem KTups.to {g g':Heap}:∀ {vs:List Value} {ks:List (List Key)},KTups g vs ks->(∀ a o,g.get? a=some o->Value.ref a∈vs->g'.get? a=some o)->KTups g' vs ks
 | _,_,.nil,_=>.nil
 | _,_,.cons r t,q=>.cons (r.to fun a o e h=>q a o h (by rw [e];exact .head _)) (KTups.to t fun a o h m=>q a o h (.tail _ m))
theorem KTups.len {ks:List (List Key)} (h:KTups g vs ks):vs.length=ks.length:=Paired.length h
theorem zg4:∀ vs:List Value,(vs.zip vs).map (·.2)=vs
 | []=>rfl
 | v::vs=>by rw [List.zip_cons_cons,zx4,zg4 vs]
theorem zep {α:Type} (d:α) (l:List α):l=(List.range l.length).map fun i=>l.getD i d:=by
 apply List.ext_getElem?;intro i;rw [zyv];by_cases hi:i<l.length
 ·rw [List.getElem?_range hi,zx6 hi];simp [List.getD_eq_getElem?_getD,hi]
 ·rw [List.getElem?_eq_none (by simpa using hi),List.getElem?_eq_none (by simpa using hi)];rfl
def tyK:Key->Value
 | .inl _=>.type "int"
 | .inr (some _)=>.type "str"
 | .inr none=>.type "NoneType"
theorem zqu (k:Key):(tyK k==tyK k)=true:=by
 rcases k with _ | _ | _
 ·show (Value.type "int"==Value.type "int")=true;decide
 ·show (Value.type "NoneType"==Value.type "NoneType")=true;decide
 ·show (Value.type "str"==Value.type "str")=true;decide
theorem znr {a b:Key} (h:ycn a b=true):tyK a=tyK b:=by rcases a with a | _ | a<;>rcases b with b | _ | b<;>first | rfl | cases h
section
variable {prog:Program} {w:World} {A:Around} {E:Value->Shared->Prop} {s:Shared}
theorem zlq {M:Model} {k:Key} {v:Value} (r:RelV (kV k) v):Looks M g (typeOf v) (tyK k):=by
 rcases k with i | _ | x
 ·obtain ⟨t,rfl⟩:=r;exact .now
 ·cases r;exact .now
 ·obtain ⟨t,rfl⟩:=r;exact .now
theorem yeo {g:Heap} {k0:Key}:∀ {vs:List Value} {ks:List (List Key)},KTups g vs ks->(∀ k∈ks,∃ a r,k=a::r/\ycn k0 a=true)->∃ fs,KatTups g vs fs/\fs.length=ks.length/\∀ v∈fs,∃ a,RelV (kV a) v/\tyK a=tyK k0
 | _,_,.nil,_=>⟨[],KatTups.nil,rfl,fun _ h=>nomatch h⟩
 | _,k::ks,.cons r t,h=>by
  obtain ⟨a,o,qc,n,e,h1,h2,h3,h4⟩:=r;obtain ⟨b,q,rfl,hb⟩:=h k (.head _);obtain ⟨fs,f1,f2,f3⟩:=yeo t fun k hk=>h k (.tail _ hk);rw [zx4] at h4;cases hi:qc.toList with
  | nil=>rw [hi] at h4;cases h4
  | cons u us =>
   rw [hi] at h4;cases h4 with
   | cons r0 _ =>
    subst e;refine ⟨u::fs,KatTups.cons h1 h2 h3 ?_ f1,by simp [f2],fun v hv=>?_⟩
    ·have:qc.toList[0]?=some u:=by rw [hi];rfl
     rwa [zzg] at this
    ·rcases omc hv with rfl | hv
     ·exact ⟨b,r0,(znr hb).symm⟩
     ·exact f3 v hv
theorem zer {n:Nat} {kss:List (List Key)} {P:PySem.Fin->Shared->Prop} (ho:s.heap.get? a=some (seqObj "list" vs.toArray n)) (hk:KTups s.heap vs kss) (ha':Value.ref a∉vs) (h5:kss.length<=60) (nd:kss.Nodup) (al:∀ x∈kss,x≠[]/\∀ y∈kss,alike x y=true)
  (h:∀ (out:List Value) (p:List Nat),(∀ i∈p,i<kss.length)->out=p.map (fun i=>vs.getD i .none)->ya3 kss=p.map (fun i=>kss.getD i [])->P (.done (.ret .none)) { s with heap:=sortedHeap s.heap a vs out.toArray }) :
  wpAny (model prog w) A (Builtin.«list.sort» ⟨[.ref a],[]⟩) P E s:=by
 rw [list_sort_plain];have hl:=hk.len;have ha:a<s.heap.objs.size:=zyf ho;have hz:vs.toArray.size<=sizeLine:=by rw [zyd,sizeLine_eq];omega
 refine zx1 (listItems_at ho rfl (zx1 (listUpdate_at ho rfl ?_ hz (zyt _))));obtain ⟨e1,ho1⟩:∃ e1,(s.heap.update a (Obj.mapSeq fun _=>#[])).get? a=some (seqObj "list" #[] e1):=⟨_,get?_update_seq ho (fun _=>#[])⟩;refine zx1 (seqEpoch_at ho1 rfl (zx1 (wpAny_newTuple ?_ (by show vs.length<=_;rw [sizeLine_eq];omega))));refine zx1 (wpAny_newList (wpAny_holding ?_) (zyt _));have ho6:(((s.heap.update a (Obj.mapSeq fun _=>#[])).push (seqObj "tuple" vs.toArray 0)).push (seqObj "list" #[] 0)).get? a=some (seqObj "list" #[] e1):=zxz _ (zxz _ ho1);have kp:∀ b o,b≠a->s.heap.get? b=some o->(((s.heap.update a (Obj.mapSeq fun _=>#[])).push (seqObj "tuple" vs.toArray 0)).push (seqObj "list" #[] 0)).get? b=some o:=fun b o hb e =>zxz _ (zxz _ (by rw [Heap.get?_update_ne _ _ _ _ hb];exact e));have hk':KTups (((s.heap.update a (Obj.mapSeq fun _=>#[])).push (seqObj "tuple" vs.toArray 0)).push (seqObj "list" #[] 0)) vs kss:=hk.to fun b o e m=>kp b o (fun z=>ha' (by rw [<- z];exact m)) e;show wpAny (model prog w) A _ P E { s with heap:=((s.heap.update a (Obj.mapSeq fun _=>#[])).push (seqObj "tuple" vs.toArray 0)).push (seqObj "list" #[] 0) };dsimp only;by_cases h2:vs.toArray.size<2
 ·rw [if_pos h2,if_pos h2];refine zx1 (zx5 ?_);rw [StateT.run_pure];refine zx1 (zx5 ?_);dsimp only;refine zx1 (seqEpoch_at ho6 rfl ?_);have eo:(arrOf (SortSt.mk' general' (vs.toArray.zip vs.toArray) #[] 7 none)).map (·.2)=vs.toArray:=by show (vs.toArray.zip vs.toArray).map (·.2)=vs.toArray;apply Array.toList_inj.mp;rw [Array.toList_map,Array.toList_zip];exact zg4 vs
  rw [eo];refine zx1 (listUpdate_at ho6 rfl ?_ (zyt _) (by show vs.toArray.size<=_;omega));simp only [bne_self_eq_false,Bool.false_eq_true,if_false];have hv2:vs.length<2:=by simpa using h2
  have er:vs=(List.range kss.length).map fun i=>vs.getD i .none:=by rw [<- hl];exact zep _ vs
  have es:ya3 kss=(List.range kss.length).map fun i=>kss.getD i []:=by
   match kss,hl with
   | [],_=>rfl
   | [k],_=>rfl
   | _::_::_,q=>rw [q] at hv2;simp at hv2;omega
  have:=h vs (List.range kss.length) (fun i hi=>by simpa using hi) er es;exact zx5 this
 ·rw [if_neg h2,if_neg h2];have hn2:2<=kss.length:=by rw [zyd] at h2;omega
  obtain ⟨k0,hk0⟩:∃ k0:Key,∀ k∈kss,∃ b r,k=b::r/\ycn k0 b=true:=by
   cases hks:kss with
   | nil=>rw [hks] at hn2;simp at hn2
   | cons x r =>
    have hx:x∈kss:=by rw [hks];exact .head _
    cases x with
    | nil=>exact absurd rfl (al _ hx).1
    | cons k0 x =>
     refine ⟨k0,fun k hk=>?_⟩;have q:=(al _ hx).2 k (by rw [hks];exact hk);cases k with
     | nil=>cases q
     | cons b r =>rw [alike,zx7] at q;exact ⟨b,r,rfl,q.1⟩
  obtain ⟨fs,f1,f2,f3⟩:=yeo hk' hk0;refine zx1 (kat_kind (T:=tyK k0) f1 (by rw [f2];omega) (fun v hv=>by obtain ⟨b,r,e⟩:=f3 v hv;rw [<- e];exact zlq r) (zqu k0) ?_);have ask:=zhq (prog:=prog) (w:=w) (A:=A) (s:={ s with heap:=((s.heap.update a (Obj.mapSeq fun _=>#[])).push (seqObj "tuple" vs.toArray 0)).push (seqObj "list" #[] 0) }) (b:=tyK k0 != Value.type "tuple") (vs:=vs) (kss:=kss)
   (Q:=fun p s'=>s'={ s with heap:=((s.heap.update a (Obj.mapSeq fun _=>#[])).push (seqObj "tuple" vs.toArray 0)).push (seqObj "list" #[] 0) }/\(∀ i∈p.toList,i<kss.length)/\ya3 kss=p.toList.map fun i=>kss.getD i []) hl hn2 nd (fun x hx y hy=>(al x hx).2 y hy)
   (fun i hi=>by obtain ⟨b,o,qc,m,e,g1,g2,g3,g4⟩:=hk'.get i hi;exact ⟨b,o,qc,m,e,g1,g3,g4⟩)
   (fun p p1 p2 p3 p4=>⟨rfl,p3,ye8 nd (fun x hx y hy=>(al x hx).2 y hy) p2 p3 p4⟩)
  refine zx1 (zzi (kat_run (Q:=fun st' s'=>∃ p:Array Nat,p.size=vs.length/\arrOf st'=p.map (kas_item (vs.toArray.zip vs.toArray))/\failedOf st'=none/\s'={ s with heap:=((s.heap.update a (Obj.mapSeq fun _=>#[])).push (seqObj "tuple" vs.toArray 0)).push (seqObj "list" #[] 0) }/\(∀ i∈p.toList,i<kss.length)/\ya3 kss=p.toList.map fun i=>kss.getD i [])
   rfl (by omega) (by omega) (fun p' st' s' a1 a2 a3 a4=>⟨p',a1,a2,a3,a4⟩) ask) ?_ fun _ _ e=>e)
  rintro ⟨⟨⟩,st'⟩ s' ⟨p,hp,har,hf,rfl,p1,p2⟩;dsimp only;have hout:=kat_snds rfl har;refine zx1 (seqEpoch_at ho6 rfl ?_);rw [hout];refine zx1 (listUpdate_at ho6 rfl ?_ (zyt _) (by show (List.toArray _).size<=_;rw [zyd,zya,zyn,hp,sizeLine_eq];omega));rw [hf];simp only [bne_self_eq_false,Bool.false_eq_true,if_false];exact zx5 (h _ p.toList p1 rfl p2)
theorem zf9 {n:Nat} (ho:g.get? a=some (seqObj "list" vs.toArray n)) (out:Array Value):∃ c,(sortedHeap g a vs out).get? a=some (seqObj "list" out c):=by obtain ⟨e1,ho1⟩:∃ e1,(g.update a (Obj.mapSeq fun _=>#[])).get? a=some (seqObj "list" #[] e1):=⟨_,get?_update_seq ho (fun _=>#[])⟩;have ho6:(((g.update a (Obj.mapSeq fun _=>#[])).push (seqObj "tuple" vs.toArray 0)).push (seqObj "list" #[] 0)).get? a=some (seqObj "list" #[] e1):=zxz _ (zxz _ ho1);exact ⟨_,get?_update_seq ho6 fun _=>out⟩
theorem zd4 {out:Array Value} {b:Addr} {o:Obj} (hb:b≠a) (e:g.get? b=some o):(sortedHeap g a vs out).get? b=some o:=by unfold sortedHeap;rw [Heap.get?_update_ne _ _ _ _ hb];exact zxz _ (zxz _ (by rw [Heap.get?_update_ne _ _ _ _ hb];exact e))
theorem zp5 {g:Heap}:∀ {vs:List Value} {ks:List (List Key)},KTups g vs ks->∀ b,Value.ref b∈vs->b<g.objs.size
 | _,_,.nil,_,h=>nomatch h
 | _,_,.cons r t,b,h=>by
  rcases omc h with e | h
  ·obtain ⟨a,o,_,_,rfl,h1,_⟩:=r;cases e;exact zyf h1
  ·exact zp5 t b h
theorem zd3 {r:Value} {Q:Value->Shared->Prop} (h:wpAny (model prog w) A.in1 (collect r) (fun vs s1=>∃ kss,KTups s1.heap vs kss/\kss.length<=60/\kss.Nodup/\(∀ x∈kss,x≠[]/\∀ y∈kss,alike x y=true) /\
   ∀ (out:List Value) (p:List Nat) (c:Nat) (g:Heap),(∀ i∈p,i<kss.length)->out=p.map (fun i=>vs.getD i .none)->ya3 kss=p.map (fun i=>kss.getD i [])->(∀ b o,s1.heap.get? b=some o->g.get? b=some o) ->
    g.get? s1.heap.objs.size=some { cls:=.type "list",data:=.seq out.toArray c }->Q (.ref s1.heap.objs.size) { s1 with heap:=g }) E s):wpAny (model prog w) A (call (.builtin "sorted") [r]) Q E s:=by
 refine Calls.call_function_entry kind_sorted plain_sorted entry_sorted (args_sorted1 _) ?_;unfold Builtin.«sorted»;refine zx1 (m:=checkCount "sorted" 1 1 _) (zx5 ?_);refine zx1 (zzi h (fun vs s1 x=>?_) fun _ _ e=>e);obtain ⟨kss,hk,h5,nd,al,q⟩:=x;have hl:=hk.len;refine zx1 (wpAny_newList ?_ (by rw [sizeLine_eq];omega));have hoL:(s1.heap.push (seqObj "list" vs.toArray 0)).get? s1.heap.objs.size=some (seqObj "list" vs.toArray 0):=zx9 _ rfl;refine zx1 (wpAny_holding (zyw slot_list_sort ⟨_,hoL,rfl⟩ entry_list_sort ?_ (args_list_sort _)));refine zer (s:={ s1 with heap:=s1.heap.push (seqObj "list" vs.toArray 0) }) hoL (hk.to fun b o e _=>zxz _ e) (fun m=>zy9 _ (zp5 hk _ m)) h5 nd al fun out p p1 p2 p3=>⟨_,rfl,?_⟩;obtain ⟨c,hc⟩:=zf9 hoL out.toArray;exact zx5 ⟨_,rfl,q out p c _ p1 p2 p3 (fun b o e=>zd4 (zyp (zyf e)) (zxz _ e)) hc⟩
end
end
section
open PySem PyProof.Rows L2
structure CmpAt (prog:Program) (w:World) (A:Around) (s:Shared) (v u:Value) (e b:Bool):Prop where
 eq:SeqAt.EqAt A s v u e
 lt:e=false->∀ (E:Value->Shared->Prop) (Q:Value->Shared->Prop),Q (.bool b) s->wpAny (model prog w) A (richCompare .Lt v u) Q E s
def yc3:List (Bool × Bool)->Bool->Bool
 | [],d=>d
 | p::r,d=>if p.1=true then yc3 r d else p.2
inductive CmpL (prog:Program) (w:World) (A:Around) (s:Shared):List Value->List Value->List (Bool × Bool)->Prop
 | nilL {us}:CmpL prog w A s [] us []
 | nilR {vs}:CmpL prog w A s vs [] []
 | cons {v u vs us e b r}:CmpAt prog w A s v u e b->(e=true->CmpL prog w A s vs us r)->CmpL prog w A s (v::vs) (u::us) ((e,b)::r)
section
open PySem.SeqAt
open PySem.AutoSeq1 (wpAny_loadPart')
open PySem.MeetsSeq PySem.MeetsSeq2 PySem.MeetsSeq3
theorem zf6 (prog0:Program) (w0:World) (l b:Addr) (items items2:Array Value) (n n2:Nat) (dd dd2:Option Addr) (sl sl2:Array (Option Value)) (L:List (Bool × Bool)) :
  Meets (Builtin.«tuple.__lt__» ⟨[.ref l,.ref b],[]⟩)
   (fun A R s=>s.heap.get? l=some { cls:=.type "tuple",dict:=dd,data:=.seq items n,slots:=sl }/\s.heap.get? b=some { cls:=.type "tuple",dict:=dd2,data:=.seq items2 n2,slots:=sl2 } /\
    (∀ prog w,CmpL prog w A.in1 s items.toList items2.toList L)/\R (.ok (.ret (.bool (yc3 L (decide (items.size<items2.size)))))) s) :=
 .of_wp fun prog w A R s h=>by
  obtain ⟨hp,g,d,tk,os⟩:=s;obtain ⟨hl,hb,hc,h⟩:=h;have hc:=hc prog w;have f2:=AutoSeq1.sub_tuple_tuple
  wp_walk using wpAny_loadPart' hl,wpAny_loadPart' hb,wpAny_forIn_list _ (fun rest b s'=>b.1=none/\s'=⟨hp,g,d,tk,os⟩/\∃ (vs ws:List Value) (L':List (Bool × Bool)),rest=vs.zip ws /\
   CmpL prog w A.in1 ⟨hp,g,d,tk,os⟩ vs ws L'/\R (.ok (.ret (.bool (yc3 L' (decide (items.size<items2.size)))))) ⟨hp,g,d,tk,os⟩) _
  case turn =>
   rintro ⟨y,x⟩ rest b s' ⟨hb',rfl,vs,ws,L',hz,hcl,hR⟩;cases hcl with
   | nilL=>cases hz
   | nilR=>rw [List.zip_nil_right] at hz;cases hz
   | @cons v u vs us e b2 r hcm hcr =>
    rw [List.zip_cons_cons] at hz;injection hz with hyx hrest;injection hyx with hy hx;subst hy hx;refine zx1 (hcm.eq prog w _ _ ?_);cases e with
    | true =>
     rw [yc3,if_pos rfl] at hR
     wp_walk
     exact ⟨rfl,rfl,_,_,_,hrest,hcr rfl,hR⟩
    | false =>
     rw [yc3,if_neg (by simp)] at hR;have hri:=fun E Q h=>hcm.lt rfl E Q h
     wp_walk using hri
     exact ⟨_,rfl,by simpa using hR⟩
  case fin =>
   rintro ⟨b1,b2⟩ s' ⟨hb',rfl,vs,ws,L',hz,hcl,hR⟩;simp only at hb';subst hb';have hv:yc3 L' (decide (items.size<items2.size))=decide (items.size<items2.size):=by
    cases hcl with
    | nilL=>rfl
    | nilR=>rfl
    | cons _ _=>cases hz
   rw [hv] at hR
   wp_walk
   exact ⟨_,rfl,by simpa [Builtin.Tuple.tupleCompareSizes] using hR⟩
  case h =>exact ⟨rfl,rfl,items.toList,items2.toList,L,rfl,hc,h⟩
end
section
variable {prog:Program} {w:World} {A:Around} {s:Shared}
theorem zsk {E:Value->Shared->Prop} {l b:Addr} {items items2:Array Value} {L:List (Bool × Bool)} {Q:Value->Shared->Prop} (hl:IsTup s.heap l items) (hb:IsTup s.heap b items2) (hc:∀ prog w,CmpL prog w A.in1 s items.toList items2.toList L)
  (hu:A.units<cLine) (h:Q (.bool (yc3 L (decide (items.size<items2.size)))) s):wpAny (model prog w) A (compareOp .Lt (.ref l) (.ref b)) Q E s:=by
 obtain ⟨⟨cls,dd,data,sl⟩,ho,hc1,n,hd⟩:=id hl;obtain ⟨⟨cls2,dd2,data2,sl2⟩,ho2,hc2,n2,hd2⟩:=id hb;simp only at hc1 hd hc2 hd2;subst hc1 hd hc2 hd2;refine richCompare_meets_room (op:=.Lt) ⟨_,ho,rfl⟩ ⟨_,ho2,rfl⟩ PySem.F.slot_tuple_lt PySem.F.entry_tuple_lt (PySem.F.args_tuple_lt_2 _ _) (zf6 prog w l b items items2 n n2 dd dd2 sl sl2 L)
  ⟨ho,ho2,?_,show Value.bool (yc3 L (decide (items.size<items2.size)))≠Value.notImplemented/\Q (.bool (yc3 L (decide (items.size<items2.size)))) s from ⟨(fun x=>nomatch x),h⟩⟩ hu
 exact hc
end
section
variable {X:Cx} {pj:List (Addr × Obj)} {σ:L2.St} {H F:Hp} {s:Shared}
theorem zta {A:Around} {n:Nat} (ih:∀ (t1 t2:T) (x y:V) (v u:Value),dpP t1 t2<=n->Rep X.K F t1 x->Rep X.K F t2 y->RelV x v->RelV y u->SeqAt.EqAt A s v u (eqT t1 t2))
  (il:∀ (t1 t2:T) (x y:V) (v u:Value) (b:Bool),dpP t1 t2<=n->ltD t1 t2=some b->Rep X.K F t1 x->Rep X.K F t2 y->RelV x v->RelV y u->∀ prog w (E Q:Value->Shared->Prop),Q (.bool b) s->wpAny (model prog w) A (richCompare .Lt v u) Q E s) :
  ∀ (ts us:List T) (vs ws:List V) (is js:List Value) (b:Bool),yba ts us<=n->ybz ts us=some b->Reps X.K F ts vs->Reps X.K F us ws->Vals vs is->Vals ws js->∃ L,(∀ prog w,CmpL prog w A s is js L)/\yc3 L (decide (is.length<js.length))=b:=by
 intro ts
 induction ts with
 | nil =>
  intro us vs ws is js b hd hl r1 r2 v1 v2;cases r1;cases v1;refine ⟨[],fun _ _=>.nilL,?_⟩;cases hl;have e:js.length=us.length:=by rw [<- v2.length,r2.length]
  cases us with
  | nil=>rw [yc3,e];rfl
  | cons _ _=>rw [yc3,e];simp
 | cons t ts ih' =>
  intro us vs ws is js b hd hl r1 r2 v1 v2;obtain ⟨x,vr,rfl,q1,r1⟩:=r1;cases v1 with
  | cons a1 v1 =>
   cases us with
   | nil =>cases r2;cases v2;cases hl;exact ⟨[],fun _ _=>.nilR,by rw [yc3];simp⟩
   | cons u us =>
    obtain ⟨y,wr,rfl,q2,r2⟩:=r2;cases v2 with
    | cons a2 v2 =>
     have hm:max (dpP t u) (yba ts us)<=n:=by rw [yba] at hd;exact hd
     have h1:=zyr (Nat.le_max_left _ _) hm;have he:=ih t u x y _ _ h1 q1 q2 a1 a2;have hl':(if eqT t u=true then ybz ts us else ltD t u)=some b:=by rw [ybz] at hl;exact hl
     cases e:eqT t u with
     | true =>rw [e] at he;rw [e,if_pos rfl] at hl';obtain ⟨L,c1,c2⟩:=ih' us _ _ _ _ b (zyr (Nat.le_max_right _ _) hm) hl' r1 r2 v1 v2;refine ⟨(true,false)::L,fun prog w=>.cons ⟨he,fun z=>by cases z⟩ fun _=>c1 prog w,?_⟩;rw [yc3,if_pos rfl,<- c2];congr 1;simp
     | false =>rw [e] at he;rw [e,if_neg (by simp)] at hl';exact ⟨[(false,b)],fun prog w=>.cons ⟨he,fun _ E Q q=>il t u x y _ _ b h1 hl' q1 q2 a1 a2 prog w E Q q⟩ (fun z=>by cases z),by rw [yc3,if_neg (by simp)]⟩
theorem zvk (I:Inv X pj σ H s) (fh:Same F H):∀ (n:Nat) (A:Around) (t1 t2:T) (x y:V) (v u:Value) (b:Bool),A.units+n<cLine->dpP t1 t2<=n->ltD t1 t2=some b->Rep X.K F t1 x->Rep X.K F t2 y->RelV x v->RelV y u->∀ prog w (E Q:Value->Shared->Prop),Q (.bool b) s->wpAny (model prog w) A (richCompare .Lt v u) Q E s:=by
 have flat:∀ (A:Around) (t1 t2:T) (x y:V) (v u:Value) (b:Bool),(∀ a c,t1=.tup a->t2=.tup c->False)->ltD t1 t2=some b->Rep X.K F t1 x->Rep X.K F t2 y->RelV x v->RelV y u->∀ prog w (E Q:Value->Shared->Prop),Q (.bool b) s->wpAny (model prog w) A (richCompare .Lt v u) Q E s:=by
  intro A t1 t2 x y v u b hne hl r1 r2 rx ry prog w E Q q;cases t1 with
  | int a =>
   cases t2 with
   | int c =>cases r1;cases r2;obtain ⟨t,rfl⟩:=rx;obtain ⟨t',rfl⟩:=ry;cases (show some (decide (a<c))=some b from hl);exact (PyProof.Rows.lt_int q:wpAny (model prog w) A (compareOp .Lt (.int a t) (.int c t')) Q E s)
   | _=>exact absurd (show none=some b from hl) (by simp)
  | str a =>
   cases t2 with
   | str c =>cases r1;cases r2;obtain ⟨t,rfl⟩:=rx;obtain ⟨t',rfl⟩:=ry;cases (show some (decide (a.cps.toList<c.cps.toList))=some b from hl);exact (PySem.P.lt_str q:wpAny (model prog w) A (compareOp .Lt (.str a t) (.str c t')) Q E s)
   | _=>exact absurd (show none=some b from hl) (by simp)
  | tup a =>
   cases t2 with
   | tup c=>exact (hne a c rfl rfl).elim
   | _=>exact absurd (show none=some b from hl) (by simp)
  | _=>exact absurd (show none=some b from hl) (by simp)
 intro n
 induction n with
 | zero =>intro A t1 t2 x y v u b hA hd hl r1 r2 rx ry;refine flat A t1 t2 x y v u b (fun a c e1 e2=>?_) hl r1 r2 rx ry;subst e1 e2;rw [dpP] at hd;omega
 | succ n ih =>
  intro A t1 t2 x y v u b hA hd hl r1 r2 rx ry;by_cases hq:∃ a c,t1=.tup a/\t2=.tup c
  ·obtain ⟨a,c,rfl,rfl⟩:=hq;rw [dpP] at hd;obtain ⟨l1,vs1,its1,rfl,rfl,_,q1,w1,p1⟩:=zah I fh r1 rx;obtain ⟨l2,vs2,its2,rfl,rfl,_,q2,w2,p2⟩:=zah I fh r2 ry;obtain ⟨L,c1,c2⟩:=zta (A:=A.in1) (n:=n) (fun t1 t2 x y v u h a b c d=>zpe I fh n A.in1 t1 t2 x y v u (show A.units+1+n<cLine by omega) h a b c d)
    (fun t1 t2 x y v u b h1 h2 h3 h4 h5 h6=>ih A.in1 t1 t2 x y v u b (show A.units+1+n<cLine by omega) h1 h2 h3 h4 h5 h6) a c vs1 vs2 its1 its2 b (by omega) (show ybz a c=some b from hl) q1 q2 w1 w2
   intro prog w E Q q;have h:=zsk (prog:=prog) (w:=w) (A:=A) (E:=E) (Q:=Q) (L:=L) p1 p2 (by simpa using c1) (by omega) (by
    have e1:its1.toArray.size=its1.length:=by simp
    have e2:its2.toArray.size=its2.length:=by simp
    rw [e1,e2,c2];exact q)
   exact h
  ·exact flat A t1 t2 x y v u b (fun a c e1 e2=>hq ⟨a,c,e1,e2⟩) hl r1 r2 rx ry
end
end
section
open PySem W Spec PyProof.Rows L2
variable {Q:Bool->Shared->Prop} {n:Nat}
section
variable {X:Cx} {pj:List (Addr × Obj)} {σ:L2.St} {H F:Hp} {s:Shared}
def flS:T->T->Bool
 | .int _,.int _=>true
 | .str _,.str _=>true
 | _,_=>false
theorem zxe {prog:Program} {w:World} {A:Around} {t1 t2:T} {x y:V} {v u:Value} {b:Bool} (hf:flS t1 t2=true) (hl:ltD t1 t2=some b) (r1:Rep X.K F t1 x) (r2:Rep X.K F t2 y) (rx:RelV x v) (ry:RelV y u) (h:Q b s):wpAny (model prog w) A (oneLt' true v u) Q (fun _ _=>False) s:=by
 cases t1 with
 | int i =>
  cases t2 with
  | int j =>cases r1;cases r2;obtain ⟨t,rfl⟩:=rx;obtain ⟨t',rfl⟩:=ry;cases (show some (decide (i<j))=some b from hl);exact kat_lt_int h
  | _=>cases hf
 | str i =>
  cases t2 with
  | str j =>cases r1;cases r2;obtain ⟨t,rfl⟩:=rx;obtain ⟨t',rfl⟩:=ry;cases (show some (decide (i.cps.toList<j.cps.toList))=some b from hl);exact oneLt_str h
  | _=>cases hf
 | _=>cases hf
theorem zvl {prog:Program} {w:World} (I:Inv X pj σ H s) (fh:Same F H) {A:Around} (hA:A.units+n<cLine) {sh:Bool} :
  ∀ (ts us:List T) (vs ws:List V) (is js:List Value) (i:Nat) (b fin:Bool),yba ts us<=n->ybz ts us=some b->(sh=true->i=0->∀ x y r q,ts=x::r->us=y::q->flS x y=true)->fin=decide (is.length<js.length)->Reps X.K F ts vs->Reps X.K F us ws->Vals vs is->Vals ws js->Q b s->KatLex prog w A sh fin Q (is.zip js) i s:=by
 intro ts
 induction ts with
 | nil =>
  intro us vs ws is js i b fin hd hl hs hfin r1 r2 v1 v2 q;cases r1;cases v1;rw [List.zip_nil_left];refine kat_nil ?_;cases hl;have e:js.length=us.length:=by rw [<- v2.length,r2.length]
  rw [hfin,e];cases us with
  | nil=>exact q
  | cons _ _=>simpa using q
 | cons t ts ih =>
  intro us vs ws is js i b fin hd hl hs hfin r1 r2 v1 v2 q;obtain ⟨x,vr,rfl,q1,r1⟩:=r1;cases v1 with
  | cons a1 v1 =>
   cases us with
   | nil =>cases r2;cases v2;cases hl;rw [List.zip_nil_right];refine kat_nil ?_;rw [hfin];simpa using q
   | cons u us =>
    obtain ⟨y,wr,rfl,q2,r2⟩:=r2;cases v2 with
    | cons a2 v2 =>
     have hm:max (dpP t u) (yba ts us)<=n:=by rw [yba] at hd;exact hd
     have h1:=zyr (Nat.le_max_left _ _) hm;have he:=zpe I fh n A t u x y _ _ hA h1 q1 q2 a1 a2;have hl':(if eqT t u=true then ybz ts us else ltD t u)=some b:=by rw [ybz] at hl;exact hl
     rw [List.zip_cons_cons];refine kat_cons (he prog w _ _ ?_);cases e:eqT t u with
     | true =>rw [e,if_pos rfl] at hl';exact kat_yes (ih us _ _ _ _ (i+1) b fin (Nat.le_trans (Nat.le_max_right _ _) hm) hl' (fun _ z=>by omega) (by rw [hfin];simp) r1 r2 v1 v2 q)
     | false =>
      rw [e,if_neg (by simp)] at hl';refine kat_no ?_;cases hq:(sh&&i==0) with
      | true =>rw [zx7] at hq;exact zxe (hs hq.1 (by simpa using hq.2) t u ts us rfl rfl) hl' q1 q2 a1 a2 q
      | false=>exact kat_one _ _ (zvk I fh n A t u x y _ _ b hA h1 hl' q1 q2 a1 a2 prog w _ _ q)
end
section
variable {prog:Program} {w:World} {A:Around} {E:Value->Shared->Prop} {s:Shared}
def yga (prog:Program) (w:World) (A:Around) (vs:List Value) (c:Nat->Nat->Bool) (s:Shared):Prop :=
 ∃ (sh:Bool) (fs:List Value) (Tv:Value),KatTups s.heap vs fs/\0<fs.length/\(∀ v∈fs,Looks (model prog w) s.heap (typeOf v) Tv)/\(Tv==Tv)=true/\(Tv != Value.type "tuple")=sh /\
  ∀ Q:Array Nat->Shared->Prop,(∀ p:Array Nat,Pm vs.length p->(p.toList.Pairwise fun i j=>c i j=true)->Q p s)->(kas_sort vs.length).kasWp (kas_ask prog w A (tuples' sh) vs) Q s
theorem zt7 {R:Nat->Nat->Prop} (h:n<2):(List.range n).Pairwise R:=by
 match n,h with
 | 0,_=>exact .nil
 | 1,_=>exact List.pairwise_singleton _ _
theorem zfn {a:Addr} {vs:List Value} {c:Nat->Nat->Bool} {P:PySem.Fin->Shared->Prop} (ho:s.heap.get? a=some (seqObj "list" vs.toArray n)) (h60:vs.length<=60)
  (hk:2<=vs.length->∀ g:Heap,(∀ b o,b≠a->s.heap.get? b=some o->g.get? b=some o)->yga prog w A vs c { s with heap:=g })
  (h:∀ p:List Nat,p.Perm (List.range vs.length)->(p.Pairwise fun i j=>c i j=true)->P (.done (.ret .none)) { s with heap:=sortedHeap s.heap a vs (p.map fun i=>vs.getD i .none).toArray }) :
  wpAny (model prog w) A (Builtin.«list.sort» ⟨[.ref a],[]⟩) P E s:=by
 rw [list_sort_plain];have ha:a<s.heap.objs.size:=zyf ho;have hz:vs.toArray.size<=sizeLine:=by rw [zyd,sizeLine_eq];omega
 refine zx1 (listItems_at ho rfl (zx1 (listUpdate_at ho rfl ?_ hz (zyt _))));obtain ⟨e1,ho1⟩:∃ e1,(s.heap.update a (Obj.mapSeq fun _=>#[])).get? a=some (seqObj "list" #[] e1):=⟨_,get?_update_seq ho (fun _=>#[])⟩;refine zx1 (seqEpoch_at ho1 rfl (zx1 (wpAny_newTuple ?_ (by show vs.length<=_;rw [sizeLine_eq];omega))));refine zx1 (wpAny_newList (wpAny_holding ?_) (zyt _));have ho6:(((s.heap.update a (Obj.mapSeq fun _=>#[])).push (seqObj "tuple" vs.toArray 0)).push (seqObj "list" #[] 0)).get? a=some (seqObj "list" #[] e1):=zxz _ (zxz _ ho1);have kp:∀ b o,b≠a->s.heap.get? b=some o->(((s.heap.update a (Obj.mapSeq fun _=>#[])).push (seqObj "tuple" vs.toArray 0)).push (seqObj "list" #[] 0)).get? b=some o:=fun b o hb e =>zxz _ (zxz _ (by rw [Heap.get?_update_ne _ _ _ _ hb];exact e));show wpAny (model prog w) A _ P E { s with heap:=((s.heap.update a (Obj.mapSeq fun _=>#[])).push (seqObj "tuple" vs.toArray 0)).push (seqObj "list" #[] 0) };dsimp only;by_cases h2:vs.toArray.size<2
 ·rw [if_pos h2,if_pos h2];refine zx1 (zx5 ?_);rw [StateT.run_pure];refine zx1 (zx5 ?_);dsimp only;refine zx1 (seqEpoch_at ho6 rfl ?_);have eo:(arrOf (SortSt.mk' general' (vs.toArray.zip vs.toArray) #[] 7 none)).map (·.2)=vs.toArray:=by show (vs.toArray.zip vs.toArray).map (·.2)=vs.toArray;apply Array.toList_inj.mp;rw [Array.toList_map,Array.toList_zip];exact zg4 vs
  rw [eo];refine zx1 (listUpdate_at ho6 rfl ?_ (zyt _) (by show vs.toArray.size<=_;omega));simp only [bne_self_eq_false,Bool.false_eq_true,if_false];have hv2:vs.length<2:=by simpa using h2
  have:=h (List.range vs.length) (List.Perm.refl _) (zt7 hv2);rw [<- zep] at this;exact zx5 this
 ·rw [if_neg h2,if_neg h2];have hn2:2<=vs.length:=by rw [zyd] at h2;omega
  obtain ⟨sh,fs,Tv,f1,f2,f3,f4,f5,ask⟩:=hk hn2 _ kp;refine zx1 (kat_kind (T:=Tv) f1 f2 f3 f4 ?_);rw [f5];have ask:=ask (fun p s'=>s'={ s with heap:=((s.heap.update a (Obj.mapSeq fun _=>#[])).push (seqObj "tuple" vs.toArray 0)).push (seqObj "list" #[] 0) }/\Pm vs.length p/\p.toList.Pairwise fun i j=>c i j=true) fun p p1 p2=>⟨rfl,p1,p2⟩;refine zx1 (zzi (kat_run (Q:=fun st' s'=>∃ p:Array Nat,p.size=vs.length/\arrOf st'=p.map (kas_item (vs.toArray.zip vs.toArray))/\failedOf st'=none/\s'={ s with heap:=((s.heap.update a (Obj.mapSeq fun _=>#[])).push (seqObj "tuple" vs.toArray 0)).push (seqObj "list" #[] 0) }/\Pm vs.length p/\p.toList.Pairwise fun i j=>c i j=true)
   rfl (by omega) (by omega) (fun p' st' s' a1 a2 a3 a4=>⟨p',a1,a2,a3,a4⟩) ask) ?_ fun _ _ e=>e)
  rintro ⟨⟨⟩,st'⟩ s' ⟨p,hp,har,hf,rfl,p1,p2⟩;dsimp only;have hout:=kat_snds rfl har;refine zx1 (seqEpoch_at ho6 rfl ?_);rw [hout];refine zx1 (listUpdate_at ho6 rfl ?_ (zyt _) (by show (List.toArray _).size<=_;rw [zyd,zya,zyn,hp,sizeLine_eq];omega));rw [hf];simp only [bne_self_eq_false,Bool.false_eq_true,if_false];exact zx5 (h p.toList p1 p2)
theorem zjr {r:Value} {Q:Value->Shared->Prop} (h:wpAny (model prog w) A.in1 (collect r) (fun vs s1=>vs.length<=60/\∃ c:Nat->Nat->Bool,
   (2<=vs.length->∀ (A':Around) (g:Heap),A'.units<=A.units+5->(∀ b o,s1.heap.get? b=some o->g.get? b=some o)->yga prog w A' vs c { s1 with heap:=g }) /\
   ∀ (p:List Nat) (k:Nat) (g:Heap),p.Perm (List.range vs.length)->(p.Pairwise fun i j=>c i j=true)->(∀ b o,s1.heap.get? b=some o->g.get? b=some o) ->
    g.get? s1.heap.objs.size=some { cls:=.type "list",data:=.seq (p.map fun i=>vs.getD i .none).toArray k }->Q (.ref s1.heap.objs.size) { s1 with heap:=g }) E s):wpAny (model prog w) A (call (.builtin "sorted") [r]) Q E s:=by
 refine Calls.call_function_entry kind_sorted plain_sorted entry_sorted (args_sorted1 _) ?_;unfold Builtin.«sorted»;refine zx1 (m:=checkCount "sorted" 1 1 _) (zx5 ?_);refine zx1 (zzi h (fun vs s1 x=>?_) fun _ _ e=>e);obtain ⟨h60,c,hk,q⟩:=x;refine zx1 (wpAny_newList ?_ (by rw [sizeLine_eq];omega));have hoL:(s1.heap.push (seqObj "list" vs.toArray 0)).get? s1.heap.objs.size=some (seqObj "list" vs.toArray 0):=zx9 _ rfl;refine zx1 (wpAny_holding (zyw slot_list_sort ⟨_,hoL,rfl⟩ entry_list_sort ?_ (args_list_sort _)));refine zfn (c:=c) (s:={ s1 with heap:=s1.heap.push (seqObj "list" vs.toArray 0) }) hoL h60 (fun h2 g hg=>hk h2 _ g ?_ fun b o e=>hg b o (zyp (zyf e)) (zxz _ e)) fun p p1 p2=>⟨_,rfl,?_⟩
 ·show _<=A.units+5
  first | exact Nat.le_add_right _ _ | (show A.units+1<=A.units+5;omega) | (show A.units+2<=A.units+5;omega) | (show A.units+3<=A.units+5;omega)
 ·obtain ⟨k,hc⟩:=zf9 hoL (p.map fun i=>vs.getD i .none).toArray;exact zx5 ⟨_,rfl,q p k _ p1 p2 (fun b o e=>zd4 (zyp (zyf e)) (zxz _ e)) hc⟩
end
end
section
open PySem W Spec PyProof.Rows L2
variable {l:List T}
theorem zwo {x y:T}:cD x y=true↔ltD x y=some true:=by unfold cD;exact beq_iff_eq
def kdT:Nat->Value
 | 0=>.type "int"
 | 1=>.type "str"
 | _=>.type "tuple"
def kdV (a:T):Option Value:=(kdN a).map kdT
theorem OkN.kdv (h:OkN l):∃ Tv,∀ x∈l,∃ a r,x=.tup (a::r)/\kdV a=some Tv :=
 let ⟨n,hk⟩:=h.kd;⟨kdT n,fun x hx=>let ⟨a,r,e,k⟩:=hk x hx;⟨a,r,e,by unfold kdV;rw [k];rfl⟩⟩
theorem zeg (x:T):∀ l:List T,(ye4 x l).Perm (x::l)
 | []=>.refl _
 | y::r=>by
  rw [ye4];split
  ·exact .refl _
  ·exact ((zeg x r).cons y).trans (.swap x y r)
theorem za7:∀ l:List T,(ycl l).Perm l
 | []=>.refl _
 | x::r=>(zeg x (ycl r)).trans ((za7 r).cons x)
theorem zl9 {x:T}:∀ {l:List T},(l.Pairwise fun a b=>cD a b=true)->(∀ y∈l,cD y x=!cD x y)->(∀ y∈l,∀ z∈l,cD x y=true->cD y z=true->cD x z=true)->(ye4 x l).Pairwise fun a b=>cD a b=true
 | [],_,_,_=>List.pairwise_singleton _ _
 | y::r,h,ht,hr=>by
  rw [List.pairwise_cons] at h;rw [ye4];split
  ·rename_i hc;refine List.pairwise_cons.mpr ⟨fun z hz=>?_,List.pairwise_cons.mpr h⟩;rcases omc hz with rfl | hz
   ·exact hc
   ·exact hr y (.head _) z (.tail _ hz) hc (h.1 z hz)
  ·rename_i hc;refine List.pairwise_cons.mpr ⟨fun z hz=>?_,zl9 h.2 (fun z hz=>ht z (.tail _ hz)) fun z hz z' hz'=>hr z (.tail _ hz) z' (.tail _ hz')⟩;rcases omc ((zeg x r).mem_iff.mp hz) with rfl | hz
   ·rw [ht y (.head _)];simpa using hc
   ·exact h.1 z hz
theorem zee:∀ {l:List T},(l.Pairwise fun x y=>cD y x=!cD x y)->(∀ x∈l,∀ y∈l,∀ z∈l,cD x y=true->cD y z=true->cD x z=true)->(ycl l).Pairwise fun a b=>cD a b=true
 | [],_,_=>.nil
 | x::r,h,ht=>by rw [List.pairwise_cons] at h;have m:∀ {y},y∈ycl r->y∈r:=fun {y} hy=>(za7 r).mem_iff.mp hy;exact zl9 (zee h.2 fun a ha b hb c hc=>ht a (.tail _ ha) b (.tail _ hb) c (.tail _ hc)) (fun y hy=>h.1 y (m hy)) fun y hy z hz=>ht x (.head _) y (.tail _ (m hy)) z (.tail _ (m hz))
theorem zk1 {R:T->T->Prop}:∀ {l m:List T},l.Pairwise R->m.Pairwise R->(∀ x∈l,∀ y∈l,R x y->R y x->False)->l.Perm m->l=m
 | [],m,_,_,_,p=>(List.Perm.nil_eq p)
 | x::l,m,h1,h2,ha,p=>by
  cases m with
  | nil=>exact absurd p.symm (by simp)
  | cons y m =>
   rw [List.pairwise_cons] at h1 h2;have e:x=y:=by
    have hx:=p.mem_iff.mp (zyc (a:=x) (l:=l));have hy:=p.mem_iff.mpr (zyc (a:=y) (l:=m));rcases omc hx with e | hx
    ·exact e
    ·rcases omc hy with e | hy
     ·exact e.symm
     ·exact (ha x (.head _) y (.tail _ hy) (h1.1 y hy) (h2.1 x hx)).elim
   subst e;rw [zk1 h1.2 h2.2 (fun a b c d=>ha a (.tail _ b) c (.tail _ d)) (List.Perm.cons_inv p)]
theorem zjs {t:T} (h:ycp l=some t):OkN l/\t=.lst (ycl l):=by
 unfold ycp at h;split at h
 ·rename_i hk;exact ⟨hk,(zyk h).symm⟩
 ·cases h
theorem OkN.at (h:OkN l) {i j:Nat} (hi:i<l.length) (hj:j<l.length) (hne:i≠j):cD (l.getD j .non) (l.getD i .non)=!cD (l.getD i .non) (l.getD j .non):=by
 have g:∀ {i},(hi:i<l.length)->l.getD i .non=l[i]:=fun {i} hi=>by rw [zyb,zx6 hi];rfl
 have pw:=List.pairwise_iff_getElem.mp h.tot;rw [g hi,g hj];rcases Nat.lt_or_gt_of_ne hne with q | q
 ·exact pw i j hi hj q
 ·rw [pw j i hj hi q,Bool.not_not]
theorem OkN.asym (h:OkN l) {i j:Nat} (hi:i<l.length) (hj:j<l.length) (h1:cD (l.getD i .non) (l.getD j .non)=true) (hne:i≠j):cD (l.getD j .non) (l.getD i .non)=false:=by rw [h.at hi hj hne,h1];rfl
theorem zoi (h:OkN l) {p:List Nat} (hp:p.Perm (List.range l.length)) (pw:p.Pairwise fun i j=>cD (l.getD i .non) (l.getD j .non)=true):ycl l=p.map fun i=>l.getD i .non:=by
 have e:l=(List.range l.length).map fun i=>l.getD i .non:=zep _ l;have pm:(p.map fun i=>l.getD i .non).Perm l:=by have:=hp.map fun i=>l.getD i .non;rw [<- e] at this;exact this
 refine zk1 (zee h.tot h.tr) (List.pairwise_map.mpr pw) (fun x hx y hy h1 h2=>?_) ((za7 l).trans pm.symm);obtain ⟨i,hi,rfl⟩:=List.getElem_of_mem ((za7 l).mem_iff.mp hx);obtain ⟨j,hj,rfl⟩:=List.getElem_of_mem ((za7 l).mem_iff.mp hy);have g:∀ {i},(hi:i<l.length)->l.getD i .non=l[i]:=fun {i} hi=>by rw [zyb,zx6 hi];rfl
 by_cases q:i=j
 ·subst q;have hb:=zee h.tot h.tr;have:=List.pairwise_iff_getElem.mp hb;exact absurd h1 (by
   have irr:cD l[i] l[i]≠true:=fun z=>by
    have t2:ltD l[i] l[i]=some true:=zwo.mp z;exact absurd t2 (by
     obtain ⟨Tv,hk⟩:=h.kdv;obtain ⟨a,r,ea,_⟩:=hk _ (List.getElem_mem hi);rw [ea];have dp:=h.dp _ (List.getElem_mem hi) _ (List.getElem_mem hi);rw [ea] at dp;have refl:∀ xs:List T,yba xs xs<20000->ybz xs xs=some false:=fun xs=>by
      induction xs with
      | nil=>intro _;rfl
      | cons x xs ih =>intro hd;rw [yba] at hd;rw [ybz];show (if eqT x x=true then ybz xs xs else ltD x x)=some false;rw [zdx x (by omega),if_pos rfl];exact ih (by omega)
     show ybz (a::r) (a::r)≠some true;rw [refl _ (by rw [dpP] at dp;omega)];simp)
   exact irr)
 ·have:=h.asym hi hj (by rw [g hi,g hj];exact h1) q;rw [g hi,g hj] at this;rw [this] at h2;cases h2
end
section
open PySem W Spec PyProof.Rows L2
variable {Tv:Value} {qc:List Value}
section
variable {X:Cx} {pj:List (Addr × Obj)} {σ:L2.St} {H F:Hp} {s:Shared}
theorem zss {a:T} (h:kdV a=some Tv):(Tv==Tv)=true:=by
 cases a<;>cases h
 ·show (Value.type "int"==Value.type "int")=true;decide
 ·show (Value.type "str"==Value.type "str")=true;decide
 ·show (Value.type "tuple"==Value.type "tuple")=true;decide
theorem zo3 {M:Model} (I:Inv X pj σ H s) (fh:Same F H) {a:T} (h:kdV a=some Tv) {x:V} {u:Value} (r:Rep X.K F a x) (ru:RelV x u):Looks M s.heap (typeOf u) Tv:=by
 cases a with
 | int i=>cases h;cases r;obtain ⟨t,rfl⟩:=ru;exact .now
 | str i=>cases h;cases r;obtain ⟨t,rfl⟩:=ru;exact .now
 | tup xs =>cases h;obtain ⟨p,ws,jts,rfl,rfl,_,_,_,o,h1,h2,_⟩:=zah I fh r ru;show Looks M s.heap (typeOf (Value.ref p)) (Value.type "tuple");rw [<- h2];exact (Looks.ld h1).andThen .now
 | _=>cases h
theorem zv0 {M:Model} (I:Inv X pj σ H s) (fh:Same F H):∀ {xs:List T} {vs:List V} {qc:List Value},(∀ x∈xs,∃ a r,x=.tup (a::r)/\kdV a=some Tv)->Reps X.K F xs vs->Vals vs qc ->
  ∃ fs,KatTups s.heap qc fs/\fs.length=xs.length/\∀ v∈fs,Looks M s.heap (typeOf v) Tv:=by
 intro xs
 induction xs with
 | nil =>intro vs qc _ r rv;cases r;cases rv;exact ⟨[],KatTups.nil,rfl,fun _ h=>nomatch h⟩
 | cons x xs ih =>
  intro vs qc hx r rv;obtain ⟨v,vr,rfl,r1,r2⟩:=r;cases rv with
  | cons a1 rv =>
   obtain ⟨fs,f1,f2,f3⟩:=ih (fun y hy=>hx y (.tail _ hy)) r2 rv;obtain ⟨a,q,rfl,hk⟩:=hx x (.head _);obtain ⟨p,ws,jts,rfl,rfl,_,g1,g2,o,h1,h2,n,h3⟩:=zah I fh r1 a1;obtain ⟨w0,wr,rfl,k1,k2⟩:=g1;cases g2 with
   | cons b1 b2 =>
    refine ⟨_::fs,KatTups.cons h1 h2 h3 (by simp;rfl) f1,by simp [f2],fun v hv=>?_⟩;rcases omc hv with rfl | hv
    ·exact zo3 I fh hk k1 b1
    ·exact f3 v hv
theorem at_N (I:Inv X pj σ H s) (fh:Same F H) {xs:List T} {vs:List V} (r:Reps X.K F xs vs) (rv:Vals vs qc) {i:Nat} (hi:i<xs.length) {ys:List T} (hx:xs.getD i .non=.tup ys) :
  ∃ p o ws n jts,qc.getD i .none=.ref p/\s.heap.get? p=some o/\o.data=.seq jts n/\Reps X.K F ys ws/\Vals ws jts.toList:=by
 have e1:xs[i]?=some (.tup ys):=by rw [zyb,zx6 hi] at hx;rw [zx6 hi];exact zym some hx
 obtain ⟨v,hv,r1⟩:=r.get e1;obtain ⟨u,hu,ru⟩:=rv.get hv;obtain ⟨p,ws,jts,rfl,rfl,_,g1,g2,o,h1,_,n,h3⟩:=zah I fh r1 ru;exact ⟨p,o,ws,n,jts.toArray,by rw [List.getD_eq_getElem?_getD,hu];rfl,h1,h3,g1,by simpa using g2⟩
theorem zwv (I:Inv X pj σ H s) (fh:Same F H) {A:Around} (hA:A.units+20<cLine) {xs:List T} {vs:List V} (ok:OkN xs) (r:Reps X.K F xs vs) (rv:Vals vs qc) (h2:2<=qc.length) :
  yga X.prog X.w A qc (fun i j=>cD (xs.getD i .non) (xs.getD j .non)) s:=by
 have hl:qc.length=xs.length:=by rw [<- rv.length,r.length]
 obtain ⟨Tv,hk⟩:=ok.kdv;obtain ⟨fs,f1,f2,f3⟩:=zv0 (M:=model X.prog X.w) I fh hk r rv;have mem:∀ {i},i<xs.length->xs.getD i .non∈xs:=fun {i} hi=>by rw [zyb,zx6 hi];exact List.getElem_mem hi
 obtain ⟨a0,_,_,k0⟩:=hk _ (mem (i:=0) (by omega));refine ⟨Tv != Value.type "tuple",fs,Tv,f1,by omega,f3,zss k0,rfl,fun Q q=>?_⟩;have T:=zl4 (n:=qc.length) (c:=fun i j=>cD (xs.getD i .non) (xs.getD j .non)) h2 ⟨fun i j hi hj hne=>ok.at (by omega) (by omega) hne,fun i j k hi hj hk'=>ok.tr _ (mem (by omega)) _ (mem (by omega)) _ (mem (by omega))⟩;refine zcm (n:=qc.length) (c:=fun i j=>cD (xs.getD i .non) (xs.getD j .non)) (I:=fun s'=>s'=s) (fun i j C s' hi hj hs hC=>?_) _ s T.1 rfl (fun s' hs=>by subst hs;exact q _ T.2.1 T.2.2);subst hs;have hi':i<xs.length:=by omega
 have hj':j<xs.length:=by omega
 obtain ⟨a,ra,ea,ka⟩:=hk _ (mem hi');obtain ⟨b,rb,eb,kb⟩:=hk _ (mem hj');obtain ⟨p,o,ws,n,jts,e1,e2,e3,e4,e5⟩:=at_N I fh r rv hi' ea;obtain ⟨p',o',ws',n',jts',g1,g2,g3,g4,g5⟩:=at_N I fh r rv hj' eb;obtain ⟨bb,hb⟩:=ok.lt _ (mem hi') _ (mem hj');have dp:=ok.dp _ (mem hi') _ (mem hj');have ec:cD (xs.getD i .non) (xs.getD j .non)=bb:=by unfold cD;rw [hb];cases bb<;>rfl
 have hC:=hC s' rfl;simp only [ec] at hC;rw [ea,eb] at hb dp;show wpAny (model X.prog X.w) A (keyLt' (tuples' (Tv != Value.type "tuple")) (qc.getD i .none) (qc.getD j .none)) C (fun _ _=>False) s';rw [e1,g1];refine kat_lt e2 e3 g2 g3 ?_;refine zvl I fh hA (a::ra) (b::rb) _ _ _ _ 0 bb _ (by rw [dpP] at dp;omega) (show ybz (a::ra) (b::rb)=some bb from hb) (fun hs _ x y rx ry ex ey=>?_) (by simp) e4 g4 e5 g5 hC;cases ex;cases ey;cases a with
 | int _=>cases ka;cases b<;>first | rfl | (cases kb;done) | (exact absurd (zyk kb) (by intro z;injection z with z;exact absurd z (by decide)))
 | str _=>cases ka;cases b<;>first | rfl | (cases kb;done) | (exact absurd (zyk kb) (by intro z;injection z with z;exact absurd z (by decide)))
 | tup _=>cases ka;exact absurd hs (by decide)
 | _=>cases ka
theorem zkv {K:PySem.W.Frag} {F:Hp} {xs:List T} {vs:List V} (r:Reps K F xs vs):∀ {p:List Nat},(∀ i∈p,i<xs.length)->Reps K F (p.map fun i=>xs.getD i .non) (p.map fun i=>vs.getD i .non)
 | [],_=>rfl
 | i::p,h=>by have hi:=h i (.head _);obtain ⟨v,hv,r1⟩:=r.get (zx6 hi);refine ⟨vs.getD i .non,_,rfl,?_,zkv r fun j hj=>h j (.tail _ hj)⟩;show Rep K F (xs.getD i .non) (vs.getD i .non);rw [zyb,zyb,hv,zx6 hi];exact r1
theorem zke {vs:List V} {qc:List Value} (r:Vals vs qc):∀ {p:List Nat},(∀ i∈p,i<vs.length)->Vals (p.map fun i=>vs.getD i .non) (p.map fun i=>qc.getD i .none)
 | [],_=>.nil
 | i::p,h=>by have hi:=h i (.head _);obtain ⟨u,hu,ru⟩:=r.get (zx6 hi);refine .cons ?_ (zke r fun j hj=>h j (.tail _ hj));show RelV (vs.getD i .non) (qc.getD i .none);rw [zyb,zyb,hu,zx6 hi];exact ru
theorem zgx (hu:X.A.units+100<cLine):yb9 X (.builtin "sorted") (fun zs H Q=>∃ F xs t x,zs=[x]/\Same F H/\Rep X.K F (.lst xs) x/\ycp xs=some t/\∀ v F' H',Step F H F' H'->Rep X.K F' t v->Q v H'):=by
 intro pj s σ H zs us Q I r h;obtain ⟨F,xs,t,x,rfl,fh,r1,ht,q⟩:=h;obtain ⟨u,rfl,ru⟩:=yb0 r;obtain ⟨ok,rfl⟩:=zjs ht;obtain ⟨l,vs,rfl,g1,g2⟩:=r1;cases ru;obtain ⟨qc,rv,pl,hz⟩:=I.list (Ls.same fh g1).sq;have hl:qc.length=xs.length:=by rw [<- rv.length,g2.length]
 have hv:vs.length=xs.length:=g2.length;have hkp:∀ b o,s.heap.get? b=some o->((s.heap.push (seqObj "list" #[] 0)).update s.heap.objs.size (Obj.mapSeq (·++qc.toArray))).get? b=some o:=fun b o e=>by rw [Heap.get?_update_ne _ _ _ _ (zyp (zyf e))];exact zxz _ e
 have I1:L2.Inv X pj σ H { s with heap:=(s.heap.push (seqObj "list" #[] 0)).update s.heap.objs.size (Obj.mapSeq (·++qc.toArray)),toks:=s.toks }:=I.kept hkp;refine zjr (collect_list pl.isList ⟨by rw [hl];exact ok.len,fun i j=>cD (xs.getD i .non) (xs.getD j .non),fun h2 A' g hA' hk=>?_,fun p k g p1 p2 hk hD=>?_⟩ (by rw [<- rv.length];exact hz))
 ·have I2:L2.Inv X pj σ H { s with heap:=g,toks:=s.toks }:=I1.kept hk;exact zwv I2 fh (by omega) ok g2 rv h2
 ·generalize hS:({ s with heap:=(s.heap.push (seqObj "list" #[] 0)).update s.heap.objs.size (Obj.mapSeq (·++qc.toArray)) }:Shared)=s1 at *;have hn:H s1.heap.objs.size=none:=I1.hok.fresh (zye _);have pl':∀ i∈p,i<xs.length:=fun i hi=>by have:=zzd.mp (p1.mem_iff.mp hi);omega
  have rv':=zke rv (p:=p) fun i hi=>by rw [hv];exact pl' i hi
  have hp:p.length<=60:=by rw [p1.length_eq,List.length_range,hl];exact ok.len
  have I3:=I1.laid (a:=s1.heap.objs.size) (o:=.lst (p.map fun i=>vs.getD i .non)) (t':=s1.toks) hk (zye _) ⟨by rw [zya,sizeLine_eq];omega,_,k,rv',hD⟩;have st:=(Step.refl fh).new (o:=.lst (p.map fun i=>vs.getD i .non)) hn;refine ⟨.ref s1.heap.objs.size,_,I3,rfl,q _ _ _ st ⟨_,_,rfl,Ls.of zag,?_⟩⟩;rw [zoi ok (by rw [<- hl];exact p1) p2];exact (zkv g2 pl').mono st.ff
end
end
section
open PySem W Spec PyProof.Rows L2
variable {as:List Addr}
theorem zt1 {K:PySem.W.Frag} {F:Hp} (k:Kt):Rep K F (kT k) (kV k):=by rcases k with _ | _ | _<;>rfl
theorem zku {K:PySem.W.Frag} {F:Hp}:∀ ks:List Kt,Reps K F (ks.map kT) (ks.map kV)
 | []=>rfl
 | k::ks=>⟨_,_,rfl,zt1 k,zku ks⟩
theorem zd6 {K:PySem.W.Frag} {F:Hp} {as:List Addr} {kss:List (List Kt)} (hF:∀ i,i<kss.length->F (as.getD i 0)=some (.tup ((kss.getD i []).map kV))):∀ {p:List Nat},(∀ i∈p,i<kss.length) ->
  Reps K F ((p.map fun i=>kss.getD i []).map tkT) (p.map fun i=>V.ref (as.getD i 0))
 | [],_=>rfl
 | i::p,h=>⟨_,_,rfl,⟨_,_,rfl,hF i (h i (.head _)),zku _⟩,zd6 hF fun j hj=>h j (.tail _ hj)⟩
section
variable {X:Cx} {pj:List (Addr × Obj)} {σ:L2.St} {F1 H1:Hp} {s1:Shared} {Q:VK}
theorem zdi (I1:L2.Inv X pj σ H1 s1) (fh:Same F1 H1) {kss:List (List Kt)} (hl:as.length=kss.length) (hF:∀ i,i<kss.length->F1 (as.getD i 0)=some (.tup ((kss.getD i []).map kV))) {p:List Nat} {out:List Value} {c:Nat} {g:Heap}
  (p1:∀ i∈p,i<kss.length) (p2:out=p.map (fun i=>(as.map Value.ref).getD i .none)) (p3:ya3 kss=p.map (fun i=>kss.getD i [])) (h5:kss.length<=60) (kp:∀ b o,s1.heap.get? b=some o->g.get? b=some o)
  (hD:g.get? s1.heap.objs.size=some { cls:=.type "list",data:=.seq out.toArray c }) (q:∀ v F' H',Step F1 H1 F' H'->Rep X.K F' (.lst ((ya3 kss).map tkT)) v->Q v H'):EP X pj σ Q (.ref s1.heap.objs.size) { s1 with heap:=g }:=by
 have hn:H1 s1.heap.objs.size=none:=I1.hok.fresh (zye _);have hp:p.length=kss.length:=by rw [<- zc5 kss,p3,zya]
 have rv:Vals (p.map fun i=>V.ref (as.getD i 0)) out:=by
  subst p2;clear p3 hD hp
  induction p with
  | nil=>exact .nil
  | cons i p ih =>
   refine .cons ?_ (ih fun j hj=>p1 j (.tail _ hj));have hi:i<as.length:=by rw [hl];exact p1 i (.head _)
   show (as.map Value.ref).getD i .none=Value.ref (as.getD i 0);simp [hi]
 have I2:=I1.laid (a:=s1.heap.objs.size) (o:=.lst (p.map fun i=>V.ref (as.getD i 0))) (t':=s1.toks) kp (zye _) ⟨by rw [zya,hp,sizeLine_eq];omega,out,c,rv,hD⟩;have st:=(Step.refl fh).new (o:=.lst (p.map fun i=>V.ref (as.getD i 0))) hn;refine ⟨.ref s1.heap.objs.size,_,I2,rfl,q _ _ _ st ⟨_,_,rfl,Ls.of zag,?_⟩⟩;rw [p3];exact zd6 (fun i hi=>st.ff _ _ (hF i hi)) p1
theorem zgl {H:Hp}:∀ {ws:List (List Key × V)} {zs:List (List Key × Addr × Value)},KT H ws zs->∀ i,i<ws.length->H ((zs.map (·.2.1)).getD i 0)=some (.tup (((ws.map (·.1)).getD i []).map kV))
 | _,_,.nil,i,h=>by simp at h
 | _,_,.cons r t,0,_=>by simpa using r.2.1
 | _,_,.cons r t,i+1,h=>by simpa using zgl t i (by simpa using h)
theorem zfp {P:Program} {w:World} {H:Hp} {g:Heap} (ok:∀ a xs,H a=some (.tup xs)->∃ qc:List Value,Vals xs qc/\IsTup g a qc.toArray):∀ {as:List Addr} {kss:List (List Kt)},as.length=kss.length->(∀ i,i<kss.length->H (as.getD i 0)=some (.tup ((kss.getD i []).map kV)))->KTups g (as.map Value.ref) kss
 | [],[],_,_=>.nil
 | a::as,k::ks,hl,h=>by refine .cons ?_ (zfp (P:=P) (w:=w) ok (by simpa using hl) fun i hi=>by simpa using h (i+1) (by simpa using hi));obtain ⟨qc,rv,o,h1,h2,n,h3⟩:=ok a (k.map kV) (by simpa using h 0 (by simp));exact ⟨a,o,qc.toArray,n,rfl,h1,h2,h3,by simpa using rv⟩
theorem zko {F H:Hp} (fh:Same F H) (h:∀ a∈as,∃ xs,H a=some (.tup xs)):∃ F1,Step F H F1 H/\∀ a∈as,F1 a=H a:=by
 refine ⟨fun b=>if b∈as then H b else F b,⟨SameT.refl H,fun b o e=>?_,fun b o e=>?_,fun b z=>?_⟩,fun a ha=>by simp [ha]⟩
 ·by_cases hb:b∈as
  ·simp [hb,fh b o e]
  ·simp [hb,e]
 ·by_cases hb:b∈as
  ·simpa [hb] using e
  ·simp [hb] at e;exact fh b o e
 ·by_cases hb:b∈as
  ·exact .inr (.inr (h b hb))
  ·simp [hb] at z;exact .inl z
theorem zmn {i:Nat} (h:i<as.length):as.getD i 0∈as:=by rw [zyb,zx6 h];exact List.getElem_mem h
theorem zki {X:Cx} {pj:List (Addr × Obj)} {σ:L2.St} {H:Hp} {s:Shared} (I:L2.Inv X pj σ H s) {g:Heap} (k:∀ b o,s.heap.get? b=some o->g.get? b=some o):∀ a xs,H a=some (.tup xs)->∃ qc:List Value,Vals xs qc/\IsTup g a qc.toArray:=fun a xs h=>by obtain ⟨_,qc,r,o,h1,h2⟩:=(show ObjOk X.prog X.w H s.heap a (.tup xs) from I.hok a _ h);exact ⟨qc,r,o,k a o h1,h2⟩
theorem zkj {K:PySem.W.Frag} {F:Hp}:∀ {ts:List T} {vs:List V} {kss:List (List Kt)},Reps K F ts vs->yez ts=some kss->∃ as:List Addr,vs=as.map V.ref/\as.length=kss.length/\∀ i,i<kss.length->F (as.getD i 0)=some (.tup ((kss.getD i []).map kV))
 | [],_,_,r,h=>by cases r;cases h;exact ⟨[],rfl,rfl,fun i hi=>by simp at hi⟩
 | t::ts,_,_,r,h=>by
  obtain ⟨v,vr,rfl,r1,r2⟩:=r;obtain ⟨k,h1,h⟩:=obs h;obtain ⟨ks,h2,h⟩:=obs h;cases h;obtain ⟨as,rfl,e1,e2⟩:=zkj r2 h2;cases t with
  | tup xs =>
   obtain ⟨a,ws,rfl,g1,g2⟩:=r1;have:=zb1 g2 h1;subst this;refine ⟨a::as,rfl,by simp [e1],fun i hi=>?_⟩;cases i with
   | zero=>simpa using g1
   | succ i=>simpa using e2 i (by simpa using hi)
  | _=>cases h1
theorem zf3:∀ {as:List Addr} {us:List Value},Vals (as.map V.ref) us->us=as.map Value.ref
 | [],_,r=>by cases r;rfl
 | a::as,_,r=>by
  cases r with
  | cons h t=>cases h;rw [zf3 t];rfl
theorem zh3 (hu:X.A.units+100<cLine) (hcalm:X.calm=true):yb9 X (.builtin "sorted") (fun xs H Q=>∃ F t1 t x,xs=[x]/\Same F H/\Rep X.K F t1 x/\yaz .sorted t1=some t/\∀ v F' H',Step F H F' H'->Rep X.K F' t v->Q v H'):=by
 intro pj s σ H xs us Q I r h;obtain ⟨F,t1,t,x,rfl,fh,r1,ht,q⟩:=h;obtain ⟨u,rfl,ru⟩:=yb0 r;have hh:X.A.handled=none:=I.ok.hd hcalm;cases t1 with
 | dt ks ts =>
  obtain ⟨a,ws,rfl,g1,g2,g3⟩:=r1;cases ru;simp only [yaz,ycf] at ht;obtain ⟨l,hl,rfl⟩:=oms ht;obtain ⟨h5,nd,al,rfl⟩:=zeu hl;obtain ⟨z,lo,zs,rel,o,es,ep,e1,e2,e3,e4,e5,e6⟩:=zpf I.hok (fh _ _ g1);subst g2;have hlz:ws.length=zs.length:=Paired.length rel;have hle:es.size=zs.length:=by rw [<- zyn,e4,zya]
  have hln:(zs.map (·.2.1)).length=(ws.map (·.1)).length:=by simp [hlz]
  have hA:∀ i,i<(ws.map (·.1)).length->H ((zs.map (·.2.1)).getD i 0)=some (.tup (((ws.map (·.1)).getD i []).map kV)):=fun i hi=>zgl rel i (by simpa using hi);refine zd3 (kdu_collect (A:=X.A.in1) (zkx (en:=es) (ep:=ep) lo) hh ⟨o,e1,e2,e3⟩ (by rw [hle,<- hlz];exact z) fun h' tk acc hk hacc=>?_);have ea:acc.toList=(zs.map (·.2.1)).map Value.ref:=by
   apply List.ext_getElem?;intro i;by_cases hi:i<zs.length
   ·have hi':i<acc.size:=by rw [hacc.1,hle];exact hi
    obtain ⟨e,he,hv⟩:=hacc.2 i acc[i] (by simp [hi']);rw [zzg,Array.getElem?_eq_getElem hi',hv,zy3,zyv,zx6 hi];rw [<- zzg,e4,zyv,zx6 hi] at he;cases he;rfl
   ·rw [List.getElem?_eq_none (by rw [Array.length_toList,hacc.1,hle];omega),List.getElem?_eq_none (by simp;omega)]
  refine ⟨ws.map (·.1),?_,h5,nd,al,fun out p c g p1 p2 p3 kp hD=>?_⟩
  ·rw [ea];exact zfp (P:=X.prog) (w:=X.w) (zki I hk) hln hA
  ·have I1:L2.Inv X pj σ H { s with heap:=h',toks:=tk }:=I.kept hk;obtain ⟨F1,st,hF⟩:=zko fh (as:=zs.map (·.2.1)) fun b hb=>by obtain ⟨i,hi,rfl⟩:=List.getElem_of_mem hb;have:=hA i (by rw [<- hln];exact hi);rw [zyb,zx6 hi] at this;exact ⟨_,this⟩
   rw [ea] at p2;exact zdi (s1:={ s with heap:=h',toks:=tk }) I1 st.fh hln (fun i hi=>by rw [hF _ (zmn (by rw [hln];exact hi))];exact hA i hi) p1 p2 p3 h5 kp hD fun v F' H' st' r'=>q v F' H' (st.trans st') r'
 | dk ks ts =>
  cases ks with
  | cons _ _=>cases ht
  | nil =>
   cases ht;obtain ⟨a,ws,rfl,g1,g2,g3⟩:=r1;cases ru;have hws:ws=[]:=by cases ws with | nil=>rfl | cons _ _=>simp at g2
   subst hws;obtain ⟨z,lo,vs,rel,o,es,ep,e1,e2,e3,_,e4,_⟩:=zmt I.hok (fh _ _ g1);cases rel;have hle:es.size=0:=by have:=e4.length;rw [zyn] at this;simpa using this
   refine zd3 (kdu_collect (A:=X.A.in1) (zkx (en:=es) (ep:=ep) lo) hh ⟨o,e1,e2,e3⟩ (by rw [hle];exact zyt _) fun h' tk acc hk hacc=>?_);have ea:acc.toList=([]:List Addr).map Value.ref:=by have:=hacc.1;rw [hle] at this;exact List.length_eq_zero_iff.mp (by rw [zyn];exact this)
   refine ⟨[],by rw [ea];exact .nil,by simp,List.nodup_nil,fun x hx=>(nomatch hx),fun out p c g p1 p2 p3 kp hD=>?_⟩;have I1:L2.Inv X pj σ H { s with heap:=h',toks:=tk }:=I.kept hk;rw [ea] at p2;exact zdi (s1:={ s with heap:=h',toks:=tk }) (as:=[]) (kss:=[]) I1 fh rfl (fun i hi=>absurd hi (Nat.not_lt_zero _)) p1 p2 p3 (by simp) kp hD q
 | lst ts =>
  have ht:(match (yez ts).bind ycf with
   | some r=>some r
   | none=>ycp ts)=some t:=ht
  split at ht
  rotate_left
  ·exact zgx hu pj s σ H _ _ Q I r ⟨F,ts,t,x,rfl,fh,r1,ht,q⟩
  rename_i r0 hr0;cases ht;have ht:=hr0;obtain ⟨l,vs,rfl,g1,g2⟩:=r1;cases ru;obtain ⟨kss,hk,ht⟩:=obs ht;simp only [ycf] at ht;obtain ⟨l',hl,rfl⟩:=oms ht;obtain ⟨h5,nd,al,rfl⟩:=zeu hl;obtain ⟨as,rfl,hln,hA⟩:=zkj g2 hk;obtain ⟨qc,rv,pl,hz⟩:=I.list (Ls.same fh g1).sq;have:=zf3 rv;subst this;have hkp:∀ b o,s.heap.get? b=some o->((s.heap.push (seqObj "list" #[] 0)).update s.heap.objs.size (Obj.mapSeq (·++(as.map Value.ref).toArray))).get? b=some o:=fun b o e=>by rw [Heap.get?_update_ne _ _ _ _ (zyp (zyf e))];exact zxz _ e
  refine zd3 (collect_list pl.isList ⟨kss,zfp (P:=X.prog) (w:=X.w) (zki I hkp) hln (fun i hi=>fh _ _ (hA i hi)),h5,nd,al,fun out p c g p1 p2 p3 kp hD=>?_⟩ (by rw [zya,hln,sizeLine_eq];omega));have I1:L2.Inv X pj σ H { s with heap:=(s.heap.push (seqObj "list" #[] 0)).update s.heap.objs.size (Obj.mapSeq (·++(as.map Value.ref).toArray)),toks:=s.toks }:=I.kept hkp;exact zdi I1 fh hln hA p1 p2 p3 h5 kp hD q
 | _=>cases ht
end
end
section
open PySem Spec PyProof.Rows L2
variable {P:List Nat}
def ygl:List Nat->List (List Nat)
 | []=>[[]]
 | a::l=>ygl l++(ygl l).map (a::·)
def allP:List (List Nat):=(ygl (List.range 8)).filter fun l=>decide (l.length<=4)
def ye1 (P:List Nat) (j:Nat):SetTable.Slot:=if P.toArray[SetTable.below P.toArray j]?==some j then .live (SetTable.below P.toArray j) else .empty
def ybw:List Nat->Nat->Option Nat
 | [],_=>none
 | a::l,j=>if a=j then some 0 else (ybw l j).map (·+1)
theorem zn5:(allP.all fun P=>(List.range 8).all fun j=>decide (ye1 P j=(match ybw P j with | some i=>.live i | none=>.empty)))=true:=by decide +kernel
theorem zpc:(allP.all fun P=>(List.range 8).any fun j=>!P.contains j)=true:=by decide +kernel
theorem zvf:(allP.all fun P=>decide P.Nodup)=true:=by decide +kernel
theorem zra (h:P∈allP) {j:Nat} (hj:j<8):ye1 P j=(match ybw P j with | some i=>.live i | none=>.empty) :=
 zy6 (oml (oml zn5 P h) j (zzd.mpr hj))
theorem zsz (h:P∈allP):∃ j,j<8/\j∉P:=by obtain ⟨j,h1,h2⟩:=List.any_eq_true.mp (oml zpc P h);exact ⟨j,List.mem_range.mp h1,by simpa using h2⟩
def pix (h:Int):Nat->Nat × Nat
 | 0=>(SetTable.bits h%8,SetTable.bits h)
 | n+1=>(((pix h n).1*5+1+(pix h n).2/32)%8,(pix h n).2/32)
abbrev ix (h:Int) (n:Nat):Nat:=(pix h n).1
theorem zxo (h:Int):∀ n,ix h n<8
 | 0=>Nat.mod_lt _ (by decide)
 | n+1=>Nat.mod_lt _ (by decide)
theorem zp6 (h:Int):∀ n,(pix h n).2=SetTable.bits h/32 ^ n
 | 0=>by show SetTable.bits h=_;simp
 | n+1=>by show (pix h n).2/32=_;rw [zp6 h n,Nat.div_div_eq_div_mul,Nat.pow_succ]
theorem zrq (h:Int) (n:Nat):(pix h (13+n)).2=0:=by
 rw [zp6];have hb:SetTable.bits h<2 ^ 64:=by unfold SetTable.bits;have h1:=Int.emod_nonneg h (show (2 ^ 64:Int)≠0 by decide);have h2:=Int.emod_lt_of_pos h (show (0:Int)<2 ^ 64 by decide);omega
 refine Nat.div_eq_of_lt (zyi hb ?_);rw [Nat.pow_add];exact zyr (show 2 ^ 64<=32 ^ 13 by decide) (Nat.le_mul_of_pos_right _ (Nat.pow_pos (by decide)))
def cyc (i:Nat):Nat->Nat
 | 0=>i
 | m+1=>(cyc i m*5+1)%8
theorem zs7:((List.range 8).all fun i=>(List.range 8).all fun s=>(List.range 8).any fun m=>decide (cyc i m=s))=true:=by decide +kernel
theorem zqh (h:Int):∀ m,ix h (13+m)=cyc (ix h 13) m
 | 0=>rfl
 | m+1=>by show ((pix h (13+m)).1*5+1+(pix h (13+m)).2/32)%8=_;rw [zrq,Nat.zero_div,Nat.add_zero,cyc,<- zqh h m]
theorem yfk (h:Int) {s:Nat} (hs:s<8):∃ k,k<=20/\ix h k=s:=by have:=oml (oml zs7 (ix h 13) (zzd.mpr (zxo h 13))) s (zzd.mpr hs);obtain ⟨m,h1,h2⟩:=List.any_eq_true.mp this;have h1:=zzd.mp h1;exact ⟨13+m,by omega,by rw [zqh];exact zy6 h2⟩
theorem least {p:Nat->Prop} [DecidablePred p]:∀ (n:Nat),p n->∃ k,k<=n/\p k/\∀ m,m<k->¬ p m
 | 0,h=>⟨0,zye _,h,fun m hm=>absurd hm (Nat.not_lt_zero _)⟩
 | n+1,h=>by
  by_cases e:∃ m,m<=n/\p m
  ·obtain ⟨m,hm,hp⟩:=e;have go:∀ m,m<=n->p m->∃ k,k<=n/\p k/\∀ j,j<k->¬ p j:=by
    intro m
    induction m using Nat.strongRecOn with
    | ind m ih =>
     intro hm hp;by_cases f:∃ j,j<m/\p j
     ·obtain ⟨j,hj,hpj⟩:=f;exact ih j hj (by omega) hpj
     ·exact ⟨m,hm,hp,fun j hj hpj=>f ⟨j,hj,hpj⟩⟩
   obtain ⟨k,h1,h2,h3⟩:=go m hm hp;exact ⟨k,by omega,h2,h3⟩
  ·exact ⟨n+1,zye _,h,fun m hm hp=>e ⟨m,by omega,hp⟩⟩
theorem zj4 (h:P∈allP) (hs:Int):∃ K,K<=20/\ix hs K∉P/\∀ m,m<K->ix hs m∈P:=by obtain ⟨j,hj,hn⟩:=zsz h;obtain ⟨k,hk,e⟩:=yfk hs hj;obtain ⟨K,h1,h2,h3⟩:=least (p:=fun m=>ix hs m∉P) k (by rw [e];exact hn);exact ⟨K,by omega,h2,fun m hm=>Classical.byContradiction fun z=>h3 m hm z⟩
structure TOk (t:SetTable) (P:List Nat):Prop where
 mask:t.mask=7
 dum:t.dummies=#[]
 pl:t.place=P.toArray
 all:P∈allP
theorem TOk.slot {t:SetTable} {P:List Nat} (h:TOk t P) {j:Nat} (hj:j<8):t.slot j=(match ybw P j with | some i=>.live i | none=>.empty):=by
 rw [<- zra h.all hj];unfold SetTable.slot ye1;rw [h.pl,h.dum];simp only;split
 ·rfl
 ·rfl
end
section
open PySem Spec PyProof.Rows L2
variable {P:List Nat}
section
variable {prog:Program} {w:World} {A:Around} {E:Value->Shared->Prop} {s:Shared}
abbrev tkd (prog:Program) (w:World):=tupleKind (zat prog w)
abbrev hK (prog:Program) (w:World) (k:List Key):Int:=(tkd prog w).hash k
def ygo (prog:Program) (w:World) (L:List (List Key × Addr)):List (Int × Value):=L.map fun e=>(hK prog w e.1,Value.ref e.2)
structure SetT (prog:Program) (w:World) (g:Heap) (S:Addr) (L:List (List Key × Addr)) (ep:Nat) (t:SetTable) (P:List Nat):Prop where
 ob:g.get? S=some { cls:=.type "set",dict:=none,data:=.set (ygo prog w L).toArray ep t }
 ok:TOk t P
 len:P.length=L.length
 led:t.led=false->w.params.followText "set-order"=true
 nd:(L.map (·.1)).Nodup
 ks:∀ e∈L,IsTupleKey (zat prog w) g e.1 e.2
 rch:∀ q∈L.zip P,∃ n,n<=20/\q.2=ix (hK prog w q.1.1) n/\∀ m,m<n->ix (hK prog w q.1.1) m∈P
theorem zww (h:P∈allP):P.length<=4:=by unfold allP at h;exact zy6 (List.mem_filter.mp h).2
theorem SetT.fits {g:Heap} {S:Addr} {L:List (List Key × Addr)} {ep:Nat} {t:SetTable} {P:List Nat} (h:SetT prog w g S L ep t P):t.fits (ygo prog w L).toArray.size=true:=by have h1:=zww h.ok.all;unfold SetTable.fits SetTable.fill;rw [h.ok.pl,h.ok.dum,h.ok.mask];simp [ygo,h.len];have:=h.len;omega
def Stop (prog:Program) (w:World) (L:List (List Key × Addr)) (P:List Nat) (k:List Key) (N:Nat):Prop :=
 (ix (hK prog w k) N∉P/\k∉L.map (·.1))\/∃ i e,ybw P (ix (hK prog w k) N)=some i/\L[i]?=some e/\e.1=k
theorem zf1:∀ {P:List Nat} {i j:Nat},P.Nodup->P[i]?=some j->ybw P j=some i
 | [],i,j,_,h=>by simp at h
 | a::l,0,j,_,h=>by simp at h;subst h;rw [ybw,if_pos rfl]
 | a::l,i+1,j,hn,h=>by
  obtain ⟨h1,h2⟩:=List.nodup_cons.mp hn;have h':l[i]?=some j:=by simpa using h
  have:a≠j:=fun e=>h1 (by rw [e];exact zy8 h');rw [ybw,if_neg this,zf1 h2 h'];rfl
theorem zxi (h:P∈allP):P.Nodup:=zy6 (oml zvf P h)
theorem SetT.stop {g:Heap} {S:Addr} {L:List (List Key × Addr)} {ep:Nat} {t:SetTable} (h:SetT prog w g S L ep t P) (k:List Key):∃ N,N<=20/\Stop prog w L P k N/\∀ m,m<N->ix (hK prog w k) m∈P:=by
 by_cases hk:k∈L.map (·.1)
 ·obtain ⟨e,he,rfl⟩:=omm hk;obtain ⟨i,hi⟩:=List.getElem?_of_mem he;obtain ⟨hl,_⟩:=ome hi;have hj:P[i]?=some (P[i]'(by rw [h.len];exact hl)):=zx6 _;obtain ⟨n,h1,h2,h3⟩:=h.rch (e,P[i]'(by rw [h.len];exact hl)) (zy8 (i:=i) (by rw [List.getElem?_zip_eq_some];exact ⟨hi,hj⟩));exact ⟨n,h1,.inr ⟨i,e,zf1 (zxi h.ok.all) (by rw [hj];exact zym some h2),hi,rfl⟩,h3⟩
 ·obtain ⟨K,h1,h2,h3⟩:=zj4 h.ok.all (hK prog w k);exact ⟨K,h1,.inl ⟨h2,hk⟩,h3⟩
end
end
section
open PySem Spec PyProof.Rows L2
section
variable {prog:Program} {w:World} {A:Around} {E:Value->Shared->Prop} {s:Shared}
theorem znu {g g':Heap} {k:List Key} {a:Addr} (h:IsTupleKey (zat prog w) g k a) (q:∀ o,g.get? a=some o->g'.get? a=some o):IsTupleKey (zat prog w) g' k a :=
 let ⟨o,qc,n,h1,h2⟩:=h;⟨o,qc,n,q o h1,h2⟩
theorem zqd {g:Heap} {S a:Addr} {L:List (List Key × Addr)} {ep:Nat} {t:SetTable} {P:List Nat} {k:List Key} (h:SetT prog w g S L ep t P) (hk:IsTupleKey (zat prog w) g k a):a≠S:=by rintro rfl;obtain ⟨o,qc,n,h1,h2,h3,_⟩:=hk;cases h1.symm.trans h.ob;cases h3
end
end
end Ev
namespace L2
open PySem Spec PyProof.Rows
section
instance (priority:=high) keyBEq:BEq Key:=⟨fun a b=>decide (a=b)⟩
instance keyLaw:LawfulBEq Key where
 eq_of_beq:=fun h=>zy6 h
 rfl:=zyo rfl
section
variable {prog:Program} {w:World} {A:Around} {R:Result->Shared->Prop} {I:Addr} {fp wr:List Addr} {G:Array GenState->Array GenState->Prop} {P:Nat->Value->Prop} {St:Nat->Shared->Prop}
end
end
section
section
variable {prog:Program} {w:World} {A:Around} {E:Value->Shared->Prop} {s:Shared}
abbrev setO (b:Bool):Obj:={ cls:=.type "set",dict:=none,data:=.set #[] 0 (.fresh 0 0 b) }
end
end
end L2
namespace Ev
open PySem Spec PyProof.Rows L2
section
section
variable {prog:Program} {w:World} {A:Around} {R:Result->Shared->Prop} {I:Addr} {fp wr:List Addr} {G:Array GenState->Array GenState->Prop} {P:Nat->Value->Prop} {St:Nat->Shared->Prop}
end
section
variable {prog:Program} {w:World} {A:Around} {E:Value->Shared->Prop} {s:Shared}
end
end
section
open PySem W Spec PyProof.Rows L2
variable {xs:List (List Key × Addr × Value)}
theorem zgs:entryFor table "dict.update.loop"=some Builtin.«dict.update.loop»:=entryFor_of_tree (by kernel_rfl)
theorem zc2:plainId "dict.update.loop"=true:=by decide +kernel
section
variable {prog:Program} {w:World} {A:Around} {R:Result->Shared->Prop} {I:Addr} {fp wr:List Addr} {G:Array GenState->Array GenState->Prop} {P:Nat->Value->Prop} {St:Nat->Shared->Prop}
def yci (ky:Nat->List Key) (ka:Nat->Addr) (us:Nat->Value):Nat->List (List Key × Addr × Value)
 | 0=>[]
 | i+1=>storedH (yci ky ka us i) (ky i) (ka i) (us i)
theorem zg7 {k:List Key} {a:Addr} {v:Value}:(storedH xs k a v).length<=xs.length+1:=by unfold storedH;split<;>simp
theorem zgf {ky:Nat->List Key} {ka:Nat->Addr} {us:Nat->Value}:∀ i,(yci ky ka us i).length<=i
 | 0=>zye _
 | i+1=>zyr zg7 (zzh (zgf i))
theorem zc3 {ky:Nat->List Key} {ka:Nat->Addr} {us:Nat->Value}:∀ i {x},x∈yci ky ka us i->∃ j,j<i/\x.1=ky j/\x.2.1=ka j
 | 0,_,h=>nomatch h
 | i+1,x,h=>by
  rw [yci] at h;unfold storedH at h;split at h
  ·obtain ⟨y,hy,e⟩:=omm h;obtain ⟨j,hj,e1,e2⟩:=zc3 i hy;refine ⟨j,by omega,?_⟩;unfold putAt at e;split at e<;>(subst e;exact ⟨e1,e2⟩)
  ·rcases oma h with h | h
   ·obtain ⟨j,hj,e⟩:=zc3 i h;exact ⟨j,by omega,e⟩
   ·rw [omg h];exact ⟨i,by omega,rfl,rfl⟩
theorem zs6 {g g':Heap} {D:Addr} (h:g.DictOfH (tkd prog w) D xs) (hD:∀ o,g.get? D=some o->g'.get? D=some o) (hk:∀ x∈xs,∀ o,g.get? x.2.1=some o->g'.get? x.2.1=some o):g'.DictOfH (tkd prog w) D xs:=by obtain ⟨o,es,ep,ho,hc,hd,he,his,hn⟩:=h;exact ⟨o,es,ep,hD o ho,hc,hd,he,fun x hx=>znu (his x hx) fun o e=>hk x hx o e,hn⟩
theorem zmu {n:Nat} {pr ka:Nat->Addr} {ky:Nat->List Key} {us:Nat->Value} (W:WalksS prog w A.in1 I fp wr G n P St) (D:Addr) (hf:D∉fp) (hv:∀ i,i<n->∀ v,P i v->v=.ref (pr i)) (hnw:∀ i,i<n->pr i∉wr/\ka i∉wr) (hnD:∀ i,i<n->pr i≠D/\ka i≠D) (hn:n<=1000) (hu:A.in1.units+1<cLine) :
  ∀ (k i:Nat) (s:Shared),n-i=k->i<=n->St i s->(∀ j,j<n->IsTup s.heap (pr j) #[.ref (ka j),us j]/\IsTupleKey (zat prog w) s.heap (ky j) (ka j))->s.heap.DictOfH (tkd prog w) D (yci ky ka us i) ->
   (∀ s',Moved (D::wr) G s s'->s'.heap.DictOfH (tkd prog w) D (yci ky ka us n)->R (.ok (.ret .none)) s')->codeAny (model prog w) A (.builtin "dict.update.loop" ⟨[.ref D,.ref I,rawInt i,.none],[]⟩) R s:=by
 have hw:D∉wr:=fun z=>hf (W.sub _ z);have hsu:∀ c∈wr,c∈D::wr:=fun c hc=>zx8 _ hc;intro k
 induction k with
 | zero =>
  intro i s e1 e2 st ht hd r;have e3:i=n:=by omega
  subst e3;refine codeAny_builtin zgs (show wpAny _ _ _ _ _ _ from ?_);rw [Around.under_plainId zc2 _];show wpAny _ A.in1 (pyNext (.ref I) >>= _) _ _ s;refine zx1 (W.done s _ _ st fun s1 mv=>?_);show wpAny _ A.in1 (Builtin.Dict.addKeywords D [] >>= fun _=>ret Value.none) _ _ s1;refine zx1 (show wpAny _ _ (pure ()) _ _ _ from zx5 (zx5 (r s1 (mv.mono hsu) ?_)));exact zs6 hd (fun o e=>mv.heap D o hw e) fun x hx=>by obtain ⟨j,hj,_,e⟩:=zc3 _ hx;rw [e];exact fun o q=>mv.heap _ o (hnw j hj).2 q
 | succ k ih =>
  intro i s e1 e2 st ht hd r;have lt:i<n:=by omega
  refine codeAny_builtin zgs (show wpAny _ _ _ _ _ _ from ?_);rw [Around.under_plainId zc2 _];show wpAny _ A.in1 (pyNext (.ref I) >>= _) _ _ s;refine zx1 (W.item i s _ _ lt st fun v s1 hP st1 mv=>?_);obtain rfl:=hv i lt v hP;dsimp only;obtain ⟨⟨o,h1,h2,m,h3⟩,hk⟩:=ht i lt;have g1:s1.heap.get? (pr i)=some o:=mv.heap _ o (hnw i lt).1 h1;refine zx1 (wpAny_holding (zx1 (wpAny_tryCatch ?_)));unfold Builtin.Dict.pairItems;refine zx1 (Looks.here (show Looks _ s1.heap (typeOf (.ref (pr i))) o.cls from (Looks.ld g1).andThen .now) ?_);rw [h2,if_pos (by decide)];refine zx1 (Looks.here (show Looks _ s1.heap (seqItems? (.ref (pr i))) (some #[.ref (ka i),us i]) from (Looks.ld g1).andThen (by rw [h3];exact .now)) (zx5 ?_));show wpAny _ _ (holding [.ref (ka i),us i] (dictSet D (.ref (ka i)) (us i))) _ _ s1;have hk1:∀ j,j<n->IsTupleKey (zat prog w) s1.heap (ky j) (ka j):=fun j hj=>znu (ht j hj).2 fun o e=>mv.heap _ o (hnw j hj).2 e;have hd1:s1.heap.DictOfH (tkd prog w) D (yci ky ka us i):=zs6 hd (fun o e=>mv.heap D o hw e) fun x hx=>by obtain ⟨j,hj,_,e⟩:=zc3 _ hx;rw [e];exact fun o q=>mv.heap _ o (hnw j (by omega)).2 q
  refine wpAny_holding (wpAny_dictSet_heap (hsz:=by have:=zgf (ky:=ky) (ka:=ka) (us:=us) i;rw [sizeLine_eq];omega) (tupleKind_room_in1 (by have:A.units+1+1<cLine:=hu;omega)) (hk1 i lt) hd1 fun h' dd' hs=>?_);refine zx5 ⟨plainId_quiet zc2 _,ih (i+1) _ (by omega) lt ?_ (fun j hj=>⟨?_,?_⟩) dd' fun s2 mv2 d2=>r s2 ?_ d2⟩
  ·exact W.frame _ s1 _ _ st1 (Nat.le_add_right _ _) fun c hc o e=>by show h'.get? c=some o;rw [hs.2 c fun z:c=D=>hf (by rw [<- z];exact hc)];exact e
  ·obtain ⟨o',q1,q2,q3⟩:=(ht j hj).1;exact ⟨o',by show h'.get? (pr j)=some o';rw [hs.2 _ (hnD j hj).1];exact mv.heap _ o' (hnw j hj).1 q1,q2,q3⟩
  ·exact znu (hk1 j hj) fun o e=>by show h'.get? (ka j)=some o;rw [hs.2 _ (hnD j hj).2];exact e
  ·refine Moved.trans W.gtrans ((mv.mono hsu).then_heap (Nat.le_add_right _ _) fun c o hc e=>?_) mv2;rw [hs.2 c fun z:c=D=>hc (by rw [z];exact zyc)];exact e
end
end
section
open PySem W Spec PyProof.Rows L2
theorem zgk:typeLookup (.type "list") "keys"=pure none:=by rw [typeLookup_type,builtinLookup_eq_fast];kernel_rfl
theorem zec:typeLookup (.type "list") "__getattr__"=pure none:=by rw [typeLookup_type,builtinLookup_eq_fast];kernel_rfl
section
variable {prog:Program} {w:World} {A:Around} {E:Value->Shared->Prop} {a:Addr} {xs:Array Value} {n:Nat} {sl:Array (Option Value)}
theorem zlz {s:Shared} {Q:Option Value->Shared->Prop} (hx:s.heap.get? a=some { cls:=.type "list",dict:=none,data:=.seq xs n,slots:=sl }) (hA:A.handled=none)
  (h:∀ h' tk,(∀ b o,s.heap.get? b=some o->h'.get? b=some o)->Q none { s with heap:=h',toks:=tk }):wpAny (model prog w) A (getAttr? (.ref a) "keys") Q E s:=by
 obtain ⟨hp,g,d,tk,os⟩:=s;have hT:∀ t,(⟨hp,g,d,t,os⟩:Shared).TypeIs (.ref a) "list":=fun t=>⟨_,hx,rfl⟩;have f1:=sub_AttributeError;have f3:=F.slot_list_getattribute.lookup;have f4:=F.slot_list_getattribute.bind (.ref a);have f5:=zec;unfold getAttr? getAttrBy? getAttrBy
 repeat (any_goals (first | assumption | exact hT _ | wp_step))
 refine codeAny_call_builtin F.slot_list_getattribute.plain F.entry_list_ga (F.slot_list_getattribute.check _ _ _ _ _ _ _ _ (hT _) (F.args_list_getattribute_2 _ _) ?_);have f6:=zgk;have hT':=hT (tk+1);unfold Builtin.«object.__getattribute__»
 repeat (any_goals (first | assumption | exact hT _ | wp_step))
 refine wpAny_raiseAttrError (by first | exact hA | simp [hA]) (fun h' tk' e hx'=>?_) (attrMsg_fits (by decide +kernel) (by rw [sizeLine_eq];decide +kernel));obtain ⟨t',u',he⟩:=hx'.there;show wpAny _ _ (getattributeRaised _ _ _ _ _ _ _) _ _ _;unfold getattributeRaised
 repeat (any_goals (first | assumption | wp_step))
 exact h h' tk' hx'.keeps
end
end
section
open PySem W Spec PyProof.Rows L2
section
variable {prog:Program} {w:World} {A:Around} {E:Value->Shared->Prop} {sl:Array (Option Value)}
theorem zwi (h:Heap):(h.push { cls:=.type "dict",data:=.dict #[] }).DictOfH (tkd prog w) h.objs.size [] :=
 ⟨_,#[],0,zx9 _ rfl,⟨rfl,rfl,rfl⟩,rfl,rfl,fun x hx=>(nomatch hx),List.nodup_nil⟩
theorem zj7 {s:Shared} {l:Addr} {qc:Array Value} {m N:Nat} {pr ka:Nat->Addr} {ky:Nat->List Key} {us:Nat->Value} {Q:Value->Shared->Prop} (hh:A.handled=none) (hl:s.heap.get? l=some { cls:=.type "list",dict:=none,data:=.seq qc m,slots:=sl }) (hn:qc.size=N) (hN:N<=1000) (hu:A.units+10<cLine)
  (hp:∀ i,i<N->qc[i]?=some (.ref (pr i))) (ht:∀ i,i<N->IsTup s.heap (pr i) #[.ref (ka i),us i]/\IsTupleKey (zat prog w) s.heap (ky i) (ka i))
  (h:∀ g tk,(∀ b o,s.heap.get? b=some o->g.get? b=some o)->g.DictOfH (tkd prog w) s.heap.objs.size (yci ky ka us N)->Q (.ref s.heap.objs.size) { s with heap:=g,toks:=tk }) :
  wpAny (model prog w) A (call (.type "dict") [.ref l]) Q E s:=by
 refine callType_codes (Q₁:=fun obj s₁=>obj=.ref s.heap.objs.size/\s₁={ s with heap:=s.heap.push { cls:=.type "dict",data:=.dict #[] } }) F.kt_called_dict (F.kt_typeCall_dict_1 _) F.entry_dict_init (kt_code_dict_new _ ⟨rfl,rfl⟩) ?_;rintro obj s₁ ⟨rfl,rfl⟩;have hnew:(s.heap.push { cls:=.type "dict",data:=.dict #[] }).DictOfH (tkd prog w) s.heap.objs.size []:=zwi s.heap;have hty:({ s with heap:=s.heap.push { cls:=.type "dict",data:=.dict #[] } }:Shared).TypeIs (.ref s.heap.objs.size) "dict":=⟨_,zx9 _ rfl,rfl⟩;have hl1:(s.heap.push { cls:=.type "dict",data:=.dict #[] }).get? l=some { cls:=.type "list",dict:=none,data:=.seq qc m,slots:=sl }:=zxz _ hl;refine ⟨hty,F.args_dict_init_2 _ _,?_⟩;unfold Builtin.«dict.__init__»;refine zx1 ?_;unfold Builtin.Dict.selfAndRest;refine zx1 (wpAny_notOrdered_dict hty ?_);show wpAny _ _ (pure (s.heap.objs.size,[Value.ref l])) _ _ _;refine zx5 ?_;show wpAny _ _ (Builtin.Dict.updateFrom "dict.__init__" s.heap.objs.size (.ref l) [] .none) _ _ _;unfold Builtin.Dict.updateFrom;refine zx1 (wpAny_typeOf (show Shared.TypeIs _ (.ref l) "list" from ⟨_,hl1,rfl⟩) ?_);rw [if_pos (by decide)];refine wpAny_bind (zlz hl1 (by simp [hh]) fun h' tk' kp=>?_);rw [if_pos (show (none:Option Value).isNone=true from rfl)];refine zx1 (wpAny_rule ?_);have hl2:h'.get? l=some { cls:=.type "list",dict:=none,data:=.seq qc m,slots:=sl }:=kp _ _ hl1;have hl3:h'.IsList l qc:=⟨_,hl2,rfl,m,rfl⟩;have kp':∀ b o,s.heap.get? b=some o->h'.get? b=some o:=fun b o e=>kp _ _ (zxz _ e);refine zx1 (wpAny_pyIter_list hl3 (zx5 ⟨plainId_quiet zc2 _,?_⟩));have ll:l<h'.objs.size:=zyf hl2;have hD0:h'.get? s.heap.objs.size=some { cls:=.type "dict",data:=.dict #[] }:=kp _ _ (zx9 _ rfl);have lD:s.heap.objs.size<h'.objs.size:=zyf hD0;have ll0:l<s.heap.objs.size:=zyf hl;have W:=(Walks.list (prog:=prog) (w:=w) (A:=A.in1.in1) (by simp [hh]) h'.objs.size l (Nat.ne_of_lt ll) qc).toS;rw [hn] at W;have lp:∀ i,i<N->pr i<s.heap.objs.size:=fun i hi=>let ⟨o,e,_⟩:=(ht i hi).1;zyf e
 have lk:∀ i,i<N->ka i<s.heap.objs.size:=fun i hi=>let ⟨o,_,_,e,_⟩:=(ht i hi).2;zyf e
 refine zmu (pr:=pr) (ka:=ka) (ky:=ky) (us:=us) W s.heap.objs.size ?_ (fun i hi v hP=>?_) (fun i hi=>?_) (fun i hi=>⟨zyp (lp i hi),zyp (lk i hi)⟩) hN (by show A.units+1+1+1<cLine;omega) (N-0) 0 _ rfl (zyt _) ?_ (fun j hj=>?_) ?_ fun s' mv dd=>?_
 ·simp only [List.mem_cons,List.not_mem_nil,or_false,not_or];exact ⟨zyp lD,Nat.ne_of_gt ll0⟩
 ·exact zyk (hP.symm.trans (hp i hi))
 ·simp only [List.mem_cons,List.not_mem_nil,or_false];exact ⟨zyp (Nat.lt_trans (lp i hi) lD),zyp (Nat.lt_trans (lk i hi) lD)⟩
 ·exact ⟨⟨_,zx9 _ rfl,rfl,rfl⟩,⟨_,zxz _ hl2,rfl,m,rfl⟩⟩
 ·obtain ⟨o,q1,q2,q3⟩:=(ht j hj).1;exact ⟨⟨o,zxz _ (kp' _ _ q1),q2,q3⟩,znu (ht j hj).2 fun o e=>zxz _ (kp' _ _ e)⟩
 ·exact zs6 hnew (fun o e=>zxz _ (kp _ _ e)) fun x hx=>nomatch hx
 ·obtain ⟨g3,gs3,d3,tk3,os3⟩:=s';have eg:gs3=s.gens:=mv.gens;have ed:d3=s.drawn:=mv.drawn;have eo:os3=s.os:=mv.os;subst eg;subst ed;subst eo;refine ⟨rfl,h g3 tk3 (fun b o e=>mv.heap b o ?_ (zxz _ (kp' _ _ e))) dd⟩;have hb:=zyf e;simp only [List.mem_cons,List.not_mem_nil,or_false,not_or];exact ⟨zyp hb,zyp (Nat.lt_trans hb lD)⟩
end
end
section
abbrev PRep {κ:Type} (K:PySem.W.Frag) (F:Hp):List (κ × T)->List (κ × V)->Prop:=Paired fun p q=>q.1=p.1/\Rep K F p.2 q.2
section
variable {κ:Type} [DecidableEq κ] {K:PySem.W.Frag} {F:Hp}
theorem PRep.of:∀ {qb:List (κ × T)} {ws:List (κ × V)},ws.map (·.1)=qb.map (·.1)->Reps K F (qb.map (·.2)) (ws.map (·.2))->PRep K F qb ws
 | [],[],_,_=>.nil
 | [],_::_,h,_=>by simp at h
 | _::_,[],h,_=>by simp at h
 | p::qb,q::ws,h,r=>by rw [zx4,zx4] at h;injection h with h1 h2;obtain ⟨v,vr,e,r1,r2⟩:=r;rw [zx4] at e;injection e with e1 e2;exact .cons ⟨h1,by rw [e1];exact r1⟩ (PRep.of h2 (by rw [e2];exact r2))
theorem PRep.keys {qb:List (κ × T)} {ws:List (κ × V)} (r:PRep K F qb ws):ws.map (·.1)=qb.map (·.1):=by
 induction r with
 | nil=>rfl
 | cons h t ih=>rw [zx4,zx4,ih,h.1]
theorem PRep.vals {qb:List (κ × T)} {ws:List (κ × V)} (r:PRep K F qb ws):Reps K F (qb.map (·.2)) (ws.map (·.2)):=by
 induction r with
 | nil=>rfl
 | cons h t ih=>exact ⟨_,_,rfl,h.2,ih⟩
theorem PRep.any {qb:List (κ × T)} {ws:List (κ × V)} (r:PRep K F qb ws) (k:κ):(ws.any fun kv=>decide (kv.1=k))=qb.any fun kv=>decide (kv.1=k):=by
 induction r with
 | nil=>rfl
 | cons h t ih=>rw [List.any_cons,List.any_cons,ih,h.1]
theorem PRep.put {qb:List (κ × T)} {ws:List (κ × V)} (r:PRep K F qb ws) (k:κ) {y:T} {v:V} (ry:Rep K F y v):PRep K F (yby qb k y) (yb6 ws k v):=by
 unfold yby yb6;rw [r.any k];by_cases e:(qb.any fun kv=>decide (kv.1=k))=true
 ·rw [if_pos e,if_pos e];clear e
  induction r with
  | nil=>exact .nil
  | @cons p q ps qs h t ih =>
   rw [zx4,zx4];refine .cons ?_ ih;by_cases e:p.1=k
   ·rw [if_pos e,if_pos (h.1.trans e)];exact ⟨h.1,ry⟩
   ·rw [if_neg e,if_neg (fun z=>e (h.1.symm.trans z))];exact h
 ·rw [if_neg e,if_neg e];exact Paired.snoc r ⟨rfl,ry⟩
theorem PRep.drop {qb:List (κ × T)} {ws:List (κ × V)} (r:PRep K F qb ws) (k:κ):PRep K F (yff qb k) (yfi ws k):=by
 unfold yff yfi
 induction r with
 | nil=>exact .nil
 | @cons p q ps qs h t ih =>
  rw [List.filter_cons,List.filter_cons,h.1];by_cases e:p.1=k
  ·rw [if_neg (by simp [e]),if_neg (by simp [e])];exact ih
  ·rw [if_pos (by simp [e]),if_pos (by simp [e])];exact .cons h ih
theorem PRep.val {qb:List (κ × T)} {ws:List (κ × V)} (r:PRep K F qb ws) (k:κ):(yfo qb k=none/\ybp ws k=none)\/∃ t v,yfo qb k=some t/\ybp ws k=some v/\Rep K F t v:=by
 induction r with
 | nil=>exact .inl ⟨rfl,rfl⟩
 | @cons p q ps qs h t ih =>
  rw [yfo];by_cases e:p.1=k
  ·rw [if_pos e,zbl (h.1.trans e)];exact .inr ⟨_,_,rfl,rfl,h.2⟩
  ·rw [if_neg e,zbm (fun z=>e (h.1.symm.trans z))];exact ih
end
end
section
open PySem W Spec PyProof.Rows L2
theorem zez:∀ {xs:List T} {l:List (List Kt × T)},ybv xs=some l->xs.length=l.length/\∀ i (h:i<l.length),∃ x,xs[i]?=some x/\yd5 x=some l[i]
 | [],l,h=>by cases h;exact ⟨rfl,fun i hi=>absurd hi (Nat.not_lt_zero _)⟩
 | x::r,l,h=>by
  obtain ⟨p,h1,h⟩:=obs h;obtain ⟨ps,h2,h⟩:=obs h;cases h;obtain ⟨e,g⟩:=zez h2;refine ⟨by simp [e],fun i hi=>?_⟩;cases i with
  | zero=>exact ⟨x,rfl,h1⟩
  | succ i=>exact g i (by simpa using hi)
section
variable {X:Cx}
theorem zr4 {pj:List (Addr × Obj)} {σ:L2.St} {H F:Hp} {s:Shared} (I:Inv X pj σ H s) (fh:Same F H) {x:T} {p:List Kt × T} {v:V} {u:Value} (h:yd5 x=some p) (r:Rep X.K F x v) (ru:RelV v u) :
  ∃ (q c:Addr) (y:V) (z:Value),u=.ref q/\IsTup s.heap q #[.ref c,z]/\H c=some (.tup (p.1.map kV))/\F c=some (.tup (p.1.map kV))/\Rep X.K F p.2 y/\RelV y z:=by
 unfold yd5 at h;split at h
 ·rename_i ks w;obtain ⟨k,hk,rfl⟩:=oms h;obtain ⟨q,vs,qc,rfl,rfl,g1,g2,g3,g4⟩:=zah I fh r ru;obtain ⟨v1,r1,rfl,k1,v2,r2,rfl,k2,rfl⟩:=g2;cases g3 with
  | cons a1 g3 =>
   cases g3 with
   | cons a2 g3 =>cases g3;obtain ⟨c,ws,rfl,m1,m2⟩:=k1;have:=zb1 m2 hk;subst this;cases a1;exact ⟨q,c,v2,_,rfl,g4,fh _ _ m1,m1,k2,a2⟩
 ·cases h
theorem yda (hcalm:X.calm=true) (hu:X.A.units+100<cLine):yb9 X (.type "dict") (fun zs H Q=>∃ F xs l x,zs=[x]/\Same F H/\Rep X.K F (.lst xs) x/\ybv xs=some l/\l.length<=1000/\∀ v F' H',Step F H F' H'->Rep X.K F' (.dt ((yb2 l).map (·.1)) ((yb2 l).map (·.2))) v->Q v H'):=by
 intro pj s σ H zs us Q I r h;obtain ⟨F,xs,l,x,rfl,fh,r1,hp,h1000,q⟩:=h;obtain ⟨u,rfl,ru⟩:=yb0 r;obtain ⟨a,vs,rfl,g1,g2⟩:=r1;cases ru;obtain ⟨z,qc,n,rv,ho⟩:=(Ls.same fh g1).ok I;obtain ⟨e1,hg⟩:=zez hp;have hl:qc.length=l.length:=by rw [<- rv.length,g2.length,e1]
 have ex:∀ i,∃ f:Addr × Addr × V × Value,i<l.length->qc[i]?=some (.ref f.1)/\IsTup s.heap f.1 #[.ref f.2.1,f.2.2.2]/\H f.2.1=some (.tup ((l.getD i ([],.non)).1.map kV))/\Rep X.K F (l.getD i ([],.non)).2 f.2.2.1/\RelV f.2.2.1 f.2.2.2:=fun i=>by
  by_cases hi:i<l.length
  ·obtain ⟨x,hx,hpx⟩:=hg i hi;obtain ⟨v,hv,rv1⟩:=g2.get hx;obtain ⟨u,hu',ru⟩:=rv.get hv;obtain ⟨q,c,y,z,rfl,t1,t2,_,t3,t4⟩:=zr4 I fh hpx rv1 ru;have el:l.getD i ([],.non)=l[i]:=by rw [zyb,zx6 hi];rfl
   exact ⟨(q,c,y,z),fun _=>⟨hu',t1,by rw [el];exact t2,by rw [el];exact t3,t4⟩⟩
  ·exact ⟨(0,0,.non,.none),fun z=>absurd z hi⟩
 obtain ⟨f,hf⟩:=Classical.axiomOfChoice ex;refine zj7 (pr:=fun i=>(f i).1) (ka:=fun i=>(f i).2.1) (ky:=fun i=>(l.getD i ([],.non)).1) (us:=fun i=>(f i).2.2.2) (N:=l.length) (I.ok.hd hcalm) ho (by simpa using hl) h1000 (by omega) (fun i hi=>by simpa using (hf i hi).1) (fun i hi=>⟨(hf i hi).2.1,zed I.hok (hf i hi).2.2.1⟩) fun g tk kp dd=>?_;have main:∀ i,i<=l.length->∃ ws:List (List Key × V),KT H ws (yci (fun i=>(l.getD i ([],.non)).1) (fun i=>(f i).2.1) (fun i=>(f i).2.2.2) i)/\PRep X.K F (yb2 (l.take i)) ws/\ws.length<=i:=by
  intro i
  induction i with
  | zero=>exact fun _=>⟨[],.nil,.nil,zye _⟩
  | succ i ih =>
   intro hi;obtain ⟨ws,k1,k2,k3⟩:=ih (by omega);obtain ⟨t1,t2,t3,t4,t5⟩:=hf i (by omega);refine ⟨yb6 ws (l.getD i ([],.non)).1 (f i).2.2.1,k1.put _ t3 t5,?_,?_⟩
   ·have e:l.take (i+1)=l.take i++[l.getD i ([],.non)]:=by rw [List.take_succ,zx6 (show i<l.length by omega),zyb,zx6 (show i<l.length by omega)];rfl
    have e2:yb2 (l.take (i+1))=yby (yb2 (l.take i)) (l.getD i ([],.non)).1 (l.getD i ([],.non)).2:=by unfold yb2;rw [e,List.foldl_append];rfl
    rw [e2];exact k2.put _ t4
   ·have:=zce ws (l.getD i ([],.non)).1 (f i).2.2.1;omega
 obtain ⟨ws,k1,k2,k3⟩:=main l.length (zye _);rw [List.take_length] at k2;have hn:H s.heap.objs.size=none:=I.hok.fresh (zye _);have hsys:(s.heap.objs.size==sysModules)=false:=by have:=I.big;simpa using Nat.ne_of_gt this
 obtain ⟨o,es,ep,d1,d2,d3,d4,d5,d6⟩:=dd;have I1:=I.laid (a:=s.heap.objs.size) (o:=.dT ws) (t':=tk) kp (zye _) ⟨by rw [sizeLine_eq];omega,hsys,_,k1.keeps fun c ys ec=>by rw [zad (zae ec hn)];exact ec,o,es,ep,d1,d2,d3,d4,d6⟩;have st:=(Step.refl fh).new (o:=.dT ws) hn;exact ⟨.ref s.heap.objs.size,_,I1,rfl,q _ _ _ st ⟨_,ws,rfl,zag,k2.keys,k2.vals.mono st.ff⟩⟩
end
end
section
variable {f:Env->Option T} {G:Glo} {k:Nat} {x:Str} {g:T->Option T}
section
variable {X:Cx} {c:Tc} {a b:Expr} {pos p:Pos}
def BlS (X:Cx) (f:Value) (g:T->Option T):Prop :=
 yb9 X f (fun xs H Q=>∃ F t1 t x,xs=[x]/\Same F H/\Rep X.K F t1 x/\g t1=some t/\∀ v F' H',Step F H F' H'->Rep X.K F' t v->Q v H')
theorem zwr:BlS X (.builtin "len") (yaz .len):=by
 intro pj s σ H xs us Q I r h;obtain ⟨F,t1,t,x,rfl,fh,r1,ht,q⟩:=h;cases t1 with
 | tup ts =>obtain ⟨l,vs,rfl,h1,h2⟩:=r1;cases ht;exact zdp pj s σ H _ us Q I r ⟨l,vs,rfl,.inr (zai fh h1),q _ F H (Step.refl fh) (by rw [h2.length];rfl)⟩
 | lst ts =>obtain ⟨l,vs,rfl,h1,h2⟩:=r1;cases ht;exact zdp pj s σ H _ us Q I r ⟨l,vs,rfl,.inl (Ls.same fh h1).sq,q _ F H (Step.refl fh) (by rw [h2.length];rfl)⟩
 | _=>cases ht
theorem zws:BlS X (.type "int") (yaz .toInt):=by
 intro pj s σ H xs us Q I r h;obtain ⟨F,t1,t,x,rfl,fh,r1,ht,q⟩:=h;cases t1 with
 | int i=>cases r1;cases ht;exact zgy pj s σ H _ us Q I r (.inl ⟨i,rfl,q _ F H (Step.refl fh) rfl⟩)
 | bl k=>cases r1;cases ht;exact zgy pj s σ H _ us Q I r (.inr ⟨k,rfl,q _ F H (Step.refl fh) rfl⟩)
 | _=>cases ht
theorem zpu:BlS X (.type "tuple") (yaz .toTuple):=by
 intro pj s σ H xs us Q I r h;obtain ⟨F,t1,t,x,rfl,fh,r1,ht,q⟩:=h;cases t1 with
 | tup ts =>obtain ⟨l,vs,rfl,h1,h2⟩:=r1;cases ht;exact zdd pj s σ H _ us Q I r ⟨l,vs,rfl,.inr ⟨zai fh h1,q _ F H (Step.refl fh) ⟨l,vs,rfl,h1,h2⟩⟩⟩
 | lst ts =>obtain ⟨l,vs,rfl,h1,h2⟩:=r1;cases ht;refine zdd pj s σ H _ us Q I r ⟨l,vs,rfl,.inl ⟨(Ls.same fh h1).sq,fun l' hl=>?_⟩⟩;have st:=(Step.refl fh).new (o:=.tup vs) hl;exact q _ _ _ st ⟨l',vs,rfl,zag,h2.mono st.ff⟩
 | _=>cases ht
theorem zi0 {K:PySem.W.Frag} {F:Hp} {ts:List T}:∀ {vs:List V} {ns:List Int},Reps K F ts vs->yc4 ts=some ns->vs=ns.map V.int:=by
 induction ts with
 | nil=>intro _ _ h e;cases h;cases e;rfl
 | cons t ts ih =>
  intro _ _ h e;cases t with
  | int i =>obtain ⟨v,w,rfl,h1,h2⟩:=h;obtain ⟨ms,e1,rfl⟩:=oms e;cases h1;rw [ih h2 e1];rfl
  | _=>cases e
theorem zi3:∀ (r:List Int) (i:Int),let m:=r.foldl (fun a b=>if b<a then b else a) i;m∈i::r/\∀ a∈i::r,m<=a
 | [],i=>⟨zyc,fun a h=>by rw [omg h];exact Int.le_refl _⟩
 | b::r,i=>by
  have ih:=zi3 r (if b<i then b else i);simp only [List.foldl_cons] at ih ⊢;obtain ⟨h1,h2⟩:=ih;have h3:=h2 _ zyc;refine ⟨?_,fun a ha=>?_⟩
  ·rcases omc h1 with e | h
   ·rw [e];split
    ·exact zx8 _ zyc
    ·exact zyc
   ·exact zx8 _ (zx8 _ h)
  ·rcases omc ha with rfl | ha
   ·exact Int.le_trans h3 (by split<;>omega)
   ·rcases omc ha with rfl | ha
    ·exact Int.le_trans h3 (by split<;>omega)
    ·exact h2 a (zx8 _ ha)
theorem zi4:∀ (r:List Int) (i:Int),let m:=r.foldl (fun a b=>if b>a then b else a) i;m∈i::r/\∀ a∈i::r,a<=m
 | [],i=>⟨zyc,fun a h=>by rw [omg h];exact Int.le_refl _⟩
 | b::r,i=>by
  have ih:=zi4 r (if b>i then b else i);simp only [List.foldl_cons] at ih ⊢;obtain ⟨h1,h2⟩:=ih;have h3:=h2 _ zyc;refine ⟨?_,fun a ha=>?_⟩
  ·rcases omc h1 with e | h
   ·rw [e];split
    ·exact zx8 _ zyc
    ·exact zyc
   ·exact zx8 _ (zx8 _ h)
  ·rcases omc ha with rfl | ha
   ·exact Int.le_trans (by split<;>omega) h3
   ·rcases omc ha with rfl | ha
    ·exact Int.le_trans (by split<;>omega) h3
    ·exact h2 a (zx8 _ ha)
theorem zpv (hcalm:X.calm=true):BlS X (.builtin "min") (yaz .least):=by
 intro pj s σ H xs us Q I r h;obtain ⟨F,t1,t,x,rfl,fh,r1,ht,q⟩:=h;cases t1 with
 | lst ts =>
  obtain ⟨l,vs,rfl,h1,h2⟩:=r1;obtain ⟨u,rfl,ru⟩:=yb0 r;cases ru;simp only [yaz] at ht;obtain ⟨ns,hns,ht⟩:=obs ht;have hvs:=zi0 h2 hns;subst hvs;cases ns with
  | nil=>cases ht
  | cons i0 ns =>
   cases ht;obtain ⟨qc,rv,hl,hz⟩:=zfh I (Ls.same fh h1);have hi:=ze5 rv;obtain ⟨ys,e⟩:=hi.allInts.items;have hn:i0::ns=ys.toList.map (·.1):=by rw [<- hi.numsOf,<- nums_intItems,<- e]
   have hsz:0<ys.size:=by have:=zym List.length hn;simp at this;omega
   rw [e] at hl;refine min_intList (I.ok.hd hcalm) hl hsz fun v h' tk hv hk=>?_;obtain ⟨t',rfl⟩:=intItems_at hv;obtain ⟨b1,b2⟩:=argBest_lt (numAt ys) (ys.size-1);have m1:numAt ys (argBest (fun i j=>decide (numAt ys i<numAt ys j)) (ys.size-1))∈i0::ns:=by rw [hn,numAt_eq];exact getD_mem (by rw [zya,zyn];omega)
   have m2:∀ a∈i0::ns,numAt ys (argBest (fun i j=>decide (numAt ys i<numAt ys j)) (ys.size-1))<=a:=fun a ha=>by rw [hn] at ha;obtain ⟨j,hj,rfl⟩:=mem_getD ha;rw [zya,zyn] at hj;rw [<- numAt_eq];exact b2 j (by omega)
   obtain ⟨m3,m4⟩:=zi3 ns i0;have em:=Int.le_antisymm (m2 _ m3) (m4 _ m1);rw [em];exact ⟨.int _,H,I.kept hk,⟨_,rfl⟩,q _ F H (Step.refl fh) rfl⟩
 | _=>cases ht
theorem zte (hcalm:X.calm=true):BlS X (.builtin "max") (yaz .most):=by
 intro pj s σ H xs us Q I r h;obtain ⟨F,t1,t,x,rfl,fh,r1,ht,q⟩:=h;cases t1 with
 | lst ts =>
  obtain ⟨l,vs,rfl,h1,h2⟩:=r1;obtain ⟨u,rfl,ru⟩:=yb0 r;cases ru;simp only [yaz] at ht;obtain ⟨ns,hns,ht⟩:=obs ht;have hvs:=zi0 h2 hns;subst hvs;cases ns with
  | nil=>cases ht
  | cons i0 ns =>
   cases ht;obtain ⟨qc,rv,hl,hz⟩:=zfh I (Ls.same fh h1);have hi:=ze5 rv;obtain ⟨ys,e⟩:=hi.allInts.items;have hn:i0::ns=ys.toList.map (·.1):=by rw [<- hi.numsOf,<- nums_intItems,<- e]
   have hsz:0<ys.size:=by have:=zym List.length hn;simp at this;omega
   rw [e] at hl;refine max_intList (I.ok.hd hcalm) hl hsz fun v h' tk hv hk=>?_;obtain ⟨t',rfl⟩:=intItems_at hv;obtain ⟨b1,b2⟩:=argBest_gt (numAt ys) (ys.size-1);have m1:numAt ys (argBest (fun i j=>decide (numAt ys i>numAt ys j)) (ys.size-1))∈i0::ns:=by rw [hn,numAt_eq];exact getD_mem (by rw [zya,zyn];omega)
   have m2:∀ a∈i0::ns,a<=numAt ys (argBest (fun i j=>decide (numAt ys i>numAt ys j)) (ys.size-1)):=fun a ha=>by rw [hn] at ha;obtain ⟨j,hj,rfl⟩:=mem_getD ha;rw [zya,zyn] at hj;rw [<- numAt_eq];exact b2 j (by omega)
   obtain ⟨m3,m4⟩:=zi4 ns i0;have em:=Int.le_antisymm (m4 _ m1) (m2 _ m3);rw [em];exact ⟨.int _,H,I.kept hk,⟨_,rfl⟩,q _ F H (Step.refl fh) rfl⟩
 | _=>cases ht
theorem zm9 (hu:X.A.units+100<cLine) (hcalm:X.calm=true):BlS X (.builtin "sorted") (yaz .sorted):=zh3 hu hcalm
theorem zb4 (ha:Oke X c a f) (hs:starEach [a] X.env=[(false,eval a X.env)]):PA X [a] (spL X c fun r=>(f r).bind fun x=>some [x]):=by refine zhf (zhh ha zqa hs) fun σ H Q q=>?_;obtain ⟨r,F,ts,e,ht,q⟩:=q;exact ⟨r,F,ts,e,ht,q⟩
theorem zfk (gd:Gd X c G k) {id:String} (hc:BlS X (.builtin id) g) (hb:x∈bnames) (hg:glB c.sc x=true) (hv:bootBuiltins x=some (.builtin id)) (hn:x≠"__name__") (hdb:(x==("__debug__":Str))=false)
  (ha:Oke X c a f) (hs:starEach [a] X.env=[(false,eval a X.env)]):Oke X c (.Call (.Name x p) [a] [] pos) (fun r=>(f r).bind fun x=>g x):=by
 refine za4 (zik hc (gd.gl x hg) (gd.nob x hb) hv (zb4 ha hs) hn hdb hs rfl) fun σ H Q q=>?_;obtain ⟨r,F,t,e,ht,q⟩:=q;obtain ⟨t1,e1,ht⟩:=obs ht;refine ⟨r,F,[t1],e,Option.bind_eq_some_iff.mpr ⟨t1,e1,rfl⟩,fun vs F' H' s1 r1=>?_⟩;obtain ⟨v,w,rfl,h1,h2⟩:=r1;cases h2;exact ⟨F',t1,t,v,rfl,s1.fh,h1,ht,fun v' F2 H2 s2 r2=>q v' F2 H2 (s1.trans s2) r2⟩
theorem zhj (gd:Gd X c G k) {ty:String} (hc:BlS X (.type ty) g) (hb:x∈bnames) (hg:glB c.sc x=true) (hv:bootBuiltins x=some (.type ty)) (hn:x≠"__name__") (hdb:(x==("__debug__":Str))=false)
  (ha:Oke X c a f) (hs:starEach [a] X.env=[(false,eval a X.env)]):Oke X c (.Call (.Name x p) [a] [] pos) (fun r=>(f r).bind fun x=>g x):=by
 refine za4 (zlc hc (gd.gl x hg) (gd.nob x hb) hv (zb4 ha hs) hn hdb hs rfl) fun σ H Q q=>?_;obtain ⟨r,F,t,e,ht,q⟩:=q;obtain ⟨t1,e1,ht⟩:=obs ht;refine ⟨r,F,[t1],e,Option.bind_eq_some_iff.mpr ⟨t1,e1,rfl⟩,fun vs F' H' s1 r1=>?_⟩;obtain ⟨v,w,rfl,h1,h2⟩:=r1;cases h2;exact ⟨F',t1,t,v,rfl,s1.fh,h1,ht,fun v' F2 H2 s2 r2=>q v' F2 H2 (s1.trans s2) r2⟩
theorem ztf (hcalm:X.calm=true) (hu:X.A.units+100<cLine):BlS X (.type "dict") (yaz .dict):=by
 intro pj s σ H xs us Q I r h;obtain ⟨F,t1,t,x,rfl,fh,r1,ht,q⟩:=h;cases t1 with
 | lst ts =>
  obtain ⟨l,hl,ht⟩:=obs (show ((ybv ts).bind fun l=>if l.length<=1000 then some (T.dt ((yb2 l).map (·.1)) ((yb2 l).map (·.2))) else none)=some t from ht);split at ht
  ·rename_i hz;cases ht;exact yda hcalm hu pj s σ H _ _ Q I r ⟨F,ts,l,x,rfl,fh,r1,hl,hz,q⟩
  ·cases ht
 | _=>cases ht
theorem zu9 (gd:Gd X c G k) {kb:Bn} (hk:yev x=some kb) (hg:glB c.sc x=true) (ha:Oke X c a f) (hs:starEach [a] X.env=[(false,eval a X.env)]) :
  Oke X c (.Call (.Name x p) [a] [] pos) (fun r=>(f r).bind fun x=>yaz kb x):=by
 unfold yev at hk;split at hk
 ·rename_i e;have e:=eq_of_beq e;subst e;cases hk;exact zfk gd zwr (by decide +kernel) hg PySem.boot_len (by decide) (by decide) ha hs
 ·split at hk
  ·rename_i e;have e:=eq_of_beq e;subst e;cases hk;exact zhj gd zws (by decide +kernel) hg PyProof.Rows.boot_int (by decide) (by decide) ha hs
  ·split at hk
   ·rename_i e;have e:=eq_of_beq e;subst e;cases hk;exact zhj gd zpu (by decide +kernel) hg PyProof.Rows.boot_tuple (by decide) (by decide) ha hs
   ·split at hk
    ·rename_i e;have e:=eq_of_beq e;subst e;cases hk;exact zfk gd (zpv gd.calm) (by decide +kernel) hg PyProof.Rows.boot_min (by decide) (by decide) ha hs
    ·split at hk
     ·rename_i e;have e:=eq_of_beq e;subst e;cases hk;exact zfk gd (zte gd.calm) (by decide +kernel) hg PyProof.Rows.boot_max (by decide) (by decide) ha hs
     ·split at hk
      ·rename_i e;have e:=eq_of_beq e;subst e;cases hk;exact zfk gd (zm9 (by have:=gd.room.un;omega) gd.calm) (by decide +kernel) hg (show bootBuiltins "sorted"=some (.builtin "sorted") by decide +kernel) (by decide) (by decide) ha hs
      ·cases hk
theorem zxh (gd:Gd X c G k) {kb:Bn} (hk:yfs x=some kb) (hg:glB c.sc x=true) (ha:Oke X c a f) (hs:starEach [a] X.env=[(false,eval a X.env)]) :
  Oke X c (.Call (.Name x p) [a] [] pos) (fun r=>(f r).bind fun x=>yaz kb x):=by
 unfold yfs at hk;split at hk
 ·rename_i e;have e:=eq_of_beq e;subst e;cases hk;exact zhj gd (ztf gd.calm (by have:=gd.room.un;omega)) (by decide +kernel) hg PyProof.Rows.boot_dict (by decide) (by decide) ha hs
 ·exact zu9 gd hk hg ha hs
def tyS:Ty->String
 | .tbool=>"bool"
theorem zpt:yb9 X (.builtin "isinstance") (fun xs H Q=>∃ F t1 x k,xs=[x,.ty (tyS k)]/\Same F H/\Rep X.K F t1 x/\Q (.bl (ybi t1 k)) H):=by
 intro pj s σ H xs us Q I r h;obtain ⟨F,t1,x,k,rfl,fh,r1,q⟩:=h;obtain ⟨u,w',rfl,rx,ry⟩:=yfe r;cases ry;have fT:∀ b,b=ybi t1 k->EP X pj σ Q (.bool b) s:=fun b e=>by subst e;exact ⟨.bl _,H,I,rfl,q⟩
 have fF:∀ b,b=ybi t1 k->EP X pj σ Q (.bool b) { s with toks:=s.toks+1 }:=fun b e=>by subst e;exact ⟨.bl _,H,I.tok _,rfl,q⟩
 cases t1 with
 | non =>cases r1;cases rx;cases k;exact IsiPair.NoneType_bool (fF _ rfl)
 | bl b =>cases r1;cases rx;cases k;exact IsiPair.bool_bool (fT _ rfl)
 | int b =>cases r1;obtain ⟨t,rfl⟩:=rx;cases k;exact IsiPair.int_bool (fF _ rfl)
 | str b =>cases r1;obtain ⟨t,rfl⟩:=rx;cases k;exact IsiPair.str_bool (fF _ rfl)
 | tup ts =>obtain ⟨l,vs,rfl,h1,h2⟩:=r1;cases rx;obtain ⟨qc,_,⟨o,ho,hc,_⟩,_⟩:=I.tuple (zai fh h1);cases k;exact IsiPair.tuple_bool ho hc (fF _ rfl)
 | lst ts =>obtain ⟨l,vs,rfl,h1,h2⟩:=r1;cases rx;obtain ⟨qc,_,⟨o,ho,hc,_⟩,_⟩:=zfh I (Ls.same fh h1);cases k;exact IsiPair.list_bool ho hc (fF _ rfl)
 | dk ks ts =>obtain ⟨l,vs,rfl,h1,h2⟩:=r1;cases rx;obtain ⟨o,ho,hc⟩:=zdz I (.inl ⟨_,fh _ _ h1⟩);cases k;exact IsiPair.dict_bool ho hc (fF _ rfl)
 | dt ks ts =>obtain ⟨l,vs,rfl,h1,h2⟩:=r1;cases rx;obtain ⟨o,ho,hc⟩:=zdz I (.inr ⟨_,fh _ _ h1⟩);cases k;exact IsiPair.dict_bool ho hc (fF _ rfl)
theorem zqv {k:Ty} (h:yfl x=some k):bootBuiltins x=some (.type (tyS k))/\x∈bnames/\x≠"__name__"/\(x==("__debug__":Str))=false:=by
 unfold yfl at h;split at h
 ·rename_i e;have e:=eq_of_beq e;subst e;cases h;exact ⟨PyProof.Rows.boot_bool,by decide +kernel,by decide,by decide⟩
 ·cases h
theorem zu4 (gd:Gd X c G k) {ty:Str} {kt:Ty} {p2:Pos} (hk:yfl ty=some kt) (hg:glB c.sc "isinstance"=true) (hgt:glB c.sc ty=true) (ha:Oke X c a f)
  (hs:starEach [a,.Name ty p2] X.env=(false,eval a X.env)::starEach [.Name ty p2] X.env):Oke X c (.Call (.Name "isinstance" p) [a,.Name ty p2] [] pos) (fun r=>(f r).bind fun x=>some (.bl (ybi x kt))):=by
 obtain ⟨h1,h2,h3,h4⟩:=zqv hk;have hb:PE X (.Name ty p2) (tC (.ty (tyS kt))):=zr3 (gd.gl ty hgt) (gd.nob ty h2) h1 rfl h3 h4;refine za4 (zik zpt (gd.gl _ hg) (gd.nob _ (by decide +kernel)) boot_isinstance (zd8 ha (zd8 hb zil rfl) hs) (by decide) (by decide) hs rfl) fun σ H Q q=>?_;obtain ⟨r,F,t,e,ht,q⟩:=q;obtain ⟨t1,e1,ht⟩:=obs ht;cases ht;refine ⟨r,F,t1,e,e1,fun v F' H' s1 r1=>?_⟩;exact ⟨F',t1,v,kt,rfl,s1.fh,r1,q _ F' H' s1 rfl⟩
theorem zij:∀ {ts:List T} {x:T} {i:Nat},zcd x ts=some i->∃ t,ts[i]?=some t/\eqT t x=true/\∀ (j:Nat) u,j<i->ts[j]?=some u->eqT u x=false
 | [],_,_,h=>by cases h
 | y::ts,x,i,h=>by
  simp only [zcd] at h;split at h
  ·rename_i e;cases h;exact ⟨y,rfl,e,fun j u hj=>absurd hj (Nat.not_lt_zero _)⟩
  ·rename_i e;obtain ⟨k,e1,rfl⟩:=oms h;obtain ⟨t,h1,h2,h3⟩:=zij e1;refine ⟨t,by simpa using h1,h2,fun j u hj hu=>?_⟩;cases j with
   | zero =>simp only [xgz,Option.some.injEq] at hu;subst hu;simpa using e
   | succ j=>exact h3 j u (by omega) (by simpa using hu)
theorem zou:MtR X "list.index" (fun x xs H Q=>∃ F t1 t2 t y,xs=[y]/\Same F H/\Rep X.K F t1 x/\Rep X.K F t2 y/\ya7 .index t1 t2=some t/\∀ v F' H',Step F H F' H'->Rep X.K F' t v->Q v H'):=by
 intro pj s σ H x xs v us Q I rx rs h;obtain ⟨F,t1,t2,t,y,rfl,fh,r1,r2,ht,q⟩:=h;obtain ⟨u,rfl,ru⟩:=yb0 rs;cases t1 with
 | lst ts =>
  simp only [ya7] at ht;split at ht
  ·rename_i hf;rw [zx7] at hf;obtain ⟨f2,f1⟩:=hf;obtain ⟨i,hi,rfl⟩:=oms ht;obtain ⟨l,vs,rfl,h1,h2⟩:=r1;cases rx;have ey:=zif r2 f2;subst ey;have ev:=zge h2 f1;subst ev;obtain ⟨t0,a1,a2,a3⟩:=zij hi;obtain ⟨z,qc,n,r,ho⟩:=(Ls.same fh h1).ok I;have hlt:i<ts.length:=(ome a1).1;have hlen:qc.length=ts.length:=by rw [<- r.length,zya]
   have hz:ts.length<=sizeLine:=by have:=(zfh I (Ls.same fh h1)).choose_spec.2.2;simpa using this
   have get:∀ (m:Nat) (hm:m<qc.toArray.size),∃ tm,ts[m]?=some tm/\eqU (vOf t2) qc.toArray[m]=eqT tm t2:=fun m hm=>by
    have hm':m<ts.length:=by rw [<- hlen];simpa using hm
    have hmv:m<(ts.map vOf).length:=by simpa using hm'
    obtain ⟨w,e3,w1⟩:=r.get (zx6 hmv);have e5:qc.toArray[m]=w:=by obtain ⟨_,z⟩:=ome e3;simpa using z
    refine ⟨ts[m],zx6 hm',?_⟩;have fm:flat ts[m]=true:=oml f1 _ (List.getElem_mem _);rw [e5,zqm (y:=vOf ts[m]) (by simpa using w1) (zmq fm),zxu fm f2]
   have hj:i<qc.toArray.size:=by rw [zyd,hlen];exact hlt
   refine call_meets PySem.F.slot_list_index ⟨_,ho,rfl⟩ PySem.F.entry_list_index (PySem.F.args_list_index_2 _ _) (PySem.SeqAt.list_indexAt l qc.toArray n _ _ u (eqU (vOf t2)) i hj (by unfold sizeLine at hz;omega) ?_ ?_) ⟨ho,?_,?_⟩
   ·obtain ⟨tm,g1,g2⟩:=get i hj;rw [g2];rw [a1] at g1;cases g1;exact a2
   ·intro m hm hmi;obtain ⟨tm,g1,g2⟩:=get m hm;rw [g2];exact a3 m tm hmi g1
   ·intro y hy;exact zir ru (zmq f2) r (zng f1) y (by simpa using hy)
   ·exact ⟨.int _,H,I.tok _,⟨_,rfl⟩,q _ F H (Step.refl fh) rfl⟩
  ·cases ht
 | _=>cases t2<;>cases ht
theorem zov (hu:X.A.units+100<cLine):MtR X "list.count" (fun x xs H Q=>∃ F t1 t2 t y,xs=[y]/\Same F H/\Rep X.K F t1 x/\Rep X.K F t2 y/\ya7 .count t1 t2=some t/\∀ v F' H',Step F H F' H'->Rep X.K F' t v->Q v H'):=by
 intro pj s σ H x xs v us Q I rx rs h;obtain ⟨F,t1,t2,t,y,rfl,fh,r1,r2,ht,q⟩:=h;obtain ⟨u,rfl,ru⟩:=yb0 rs;cases t1 with
 | lst ts =>
  simp only [ya7] at ht;split at ht
  ·rename_i hf;cases ht;obtain ⟨l,vs,rfl,h1,h2⟩:=r1;cases rx;obtain ⟨z,qc,n,r,ho⟩:=(Ls.same fh h1).ok I;obtain ⟨e,e1,e2⟩:=zgn I fh (A:=X.A.in1) (show X.A.units+1+30<cLine by omega) r2 ru hf h2 r;refine call_meets PySem.F.slot_list_count ⟨_,ho,rfl⟩ PySem.F.entry_list_count (PySem.F.args_list_count_2 _ _) (PySem.SeqAt.list_countAt l qc.toArray n _ _ u e) ⟨ho,fun y hy=>e1 y (by simpa using hy),?_⟩;refine ⟨.int _,H,I.tok _,⟨_,rfl⟩,q _ F H (Step.refl fh) ?_⟩;show V.int _=V.int _;have e3:qc.countP e=(ts.filter fun z=>eqT z t2).length:=by have:=zym (fun l:List Bool=>l.countP id) e2;simp only [List.countP_map,Function.comp_def,id] at this;rw [show qc.countP e=qc.countP (fun x=>e x) from rfl,this,List.countP_eq_length_filter]
   rw [List.toList_toArray,e3]
  ·cases ht
 | _=>cases t2<;>cases ht
theorem zor {g:Env->Option T} {apos cpos:Pos} {o:Expr} (hu:X.A.units+100<cLine) (ho:Oke X c o f) (ha:Oke X c a g) (hbase:attributeBase o "count" X.env (eval o X.env)=eval o X.env) (hs:starEach [a] X.env=[(false,eval a X.env)]) (hl:(apos.endLine==cpos.line)=true) :
  Oke X c (.Call (.Attribute o "count" apos) [a] [] cpos) (fun r=>(f r).bind fun x=>(g r).bind fun y=>ya7 .count x y):=by
 refine za4 (zjv F.plainAttrs_list F.slot_list_count F.type_list_count (zov hu) ho (zb4 ha hs) hbase (by rw [hs];rfl) hl hs rfl) fun σ H Q q=>?_;obtain ⟨r,F,t,e,ht,q⟩:=q;obtain ⟨t1,e1,ht⟩:=obs ht;obtain ⟨t2,e2,ht⟩:=obs ht;refine ⟨r,F,t1,e,e1,fun v F' H' s1 r1=>⟨?_,r,F',[t2],e.step s1,Option.bind_eq_some_iff.mpr ⟨t2,e2,rfl⟩,fun vs F2 H2 s2 r2=>?_⟩⟩
 ·cases t1 with
  | lst z=>obtain ⟨l,vs,rfl,h1,h2⟩:=r1;exact .inl ⟨rfl,_,(Ls.same s1.fh h1).sq⟩
  | _=>cases t2<;>cases ht
 ·obtain ⟨w,z,rfl,h1,h2⟩:=r2;cases h2;exact ⟨F2,t1,t2,t,w,rfl,s2.fh,r1.mono s2.ff,h1,ht,fun v' F3 H3 s3 r3=>q v' F3 H3 (s1.trans (s2.trans s3)) r3⟩
theorem zoq {g:Env->Option T} {apos cpos:Pos} {o:Expr} (ho:Oke X c o f) (ha:Oke X c a g) (hbase:attributeBase o "index" X.env (eval o X.env)=eval o X.env) (hs:starEach [a] X.env=[(false,eval a X.env)]) (hl:(apos.endLine==cpos.line)=true) :
  Oke X c (.Call (.Attribute o "index" apos) [a] [] cpos) (fun r=>(f r).bind fun x=>(g r).bind fun y=>ya7 .index x y):=by
 refine za4 (zjv F.plainAttrs_list F.slot_list_index F.type_list_index zou ho (zb4 ha hs) hbase (by rw [hs];rfl) hl hs rfl) fun σ H Q q=>?_;obtain ⟨r,F,t,e,ht,q⟩:=q;obtain ⟨t1,e1,ht⟩:=obs ht;obtain ⟨t2,e2,ht⟩:=obs ht;refine ⟨r,F,t1,e,e1,fun v F' H' s1 r1=>⟨?_,r,F',[t2],e.step s1,Option.bind_eq_some_iff.mpr ⟨t2,e2,rfl⟩,fun vs F2 H2 s2 r2=>?_⟩⟩
 ·cases t1 with
  | lst z=>obtain ⟨l,vs,rfl,h1,h2⟩:=r1;exact .inl ⟨rfl,_,(Ls.same s1.fh h1).sq⟩
  | _=>cases t2<;>cases ht
 ·obtain ⟨w,z,rfl,h1,h2⟩:=r2;cases h2;exact ⟨F2,t1,t2,t,w,rfl,s2.fh,r1.mono s2.ff,h1,ht,fun v' F3 H3 s3 r3=>q v' F3 H3 (s1.trans (s2.trans s3)) r3⟩
end
end
end Ev
namespace L2
open PySem Spec PyProof.Rows
section
variable {Q:Value->Shared->Prop} {l1 l2:Addr} {xs ys:Array Value}
structure ZAp (z TI TO j1 j2:Addr) (f1 f2:List Addr):Prop where
 nz:TI≠z/\TO≠z/\j1≠z/\j2≠z
 nT:TI≠TO/\TI≠j1/\TI≠j2
 nO:TO≠j1/\TO≠j2
 nj:j1≠j2
 fz:z∉f1/\z∉f2
 fO:TO∉f1/\TO∉f2
 fj:j2∉f1/\j1∉f2
section
variable {prog:Program} {w:World} {A:Around} {E:Value->Shared->Prop} {s:Shared}
variable {z TI TO j1 j2:Addr} {f1 f2:List Addr} {n1 n2 k:Nat} {P1 P2:Nat->Value->Prop} {S1 S2:Nat->Heap->Prop} {a b:Value}
theorem zka (D1:Draws prog w A j1 f1 n1 P1 S1) (D2:Draws prog w A j2 f2 n2 P2 S2) (ap:ZAp z TI TO j1 j2 f1 f2)
  (hz:IsZip s.heap z TI TO .none) (hI:IsPair s.heap TI (.ref j1) (.ref j2)) (hO:IsPair s.heap TO a b) (t1:S1 k s.heap) (t2:S2 k s.heap) (l1:k<n1) (l2:k<n2)
  (hQ:∀ x y g tk,P1 k x->P2 k y->IsZip g z TI TO (rawInt s.heap.objs.size)->IsPair g TO x y->S1 (k+1) g->S2 (k+1) g->IsPair g s.heap.objs.size x y->g.objs.size=s.heap.objs.size+1 ->
   (∀ c o,c≠z->c≠TO->c≠j1->c≠j2->s.heap.get? c=some o->g.get? c=some o)->Q (.ref s.heap.objs.size) { s with heap:=g,toks:=tk }) :
  wpAny (model prog w) A (Builtin.«zip.__next__» ⟨[.ref z],[]⟩) (fun e s'=>∃ v,e=.done (.ret v)/\Q v s') E s:=by
 show wpAny _ _ (field (.ref z) 2 >>= _) _ _ s;refine zx1 (wpAny_field (x:=.bool false) hz rfl rfl ?_);show wpAny _ _ (field (.ref z) 3 >>= _) _ _ s;refine zx1 (wpAny_field (x:=.ref TI) hz rfl rfl (zx1 (wpAny_seqItems hI rfl ?_)));show wpAny _ _ (Builtin.SmallTypes.ownedTupleIsFree (.ref z) >>= _) _ _ s;refine zx1 (show wpAny _ _ (Builtin.SmallTypes.ownedTupleIsFree (.ref z)) _ _ s from ?_);unfold Builtin.SmallTypes.ownedTupleIsFree;refine zx1 (wpAny_field (x:=.none) hz rfl rfl (zx5 ?_));simp only [if_true];refine zx1 (wpAny_rule (zx1 (wpAny_field (x:=.ref TO) hz rfl rfl ?_)));refine wpAny_bind (wpAny_setField_rec hz (by simp) fun g1 hz1 e1=>?_);replace hz1:IsZip g1 z TI TO .ellipsis:=hz1;refine zx1 (show wpAny _ _ _ _ _ _ from ?_);simp only [List.zipIdx_nil,List.zipIdx_cons,List.forIn_nil,List.forIn_cons];refine zx1 (zx1 (wpAny_onRaise ?_));show wpAny _ _ (Builtin.SmallTypes.nextOf (.ref j1) >>= _) _ _ { s with heap:=g1 };have q1:S1 k g1:=D1.frame _ _ _ t1 fun c hc o e=>e1.extBut _ _ (fun y=>ap.fz.1 (y▸hc)) e;refine zx1 (D1.item k _ _ _ l1 q1 fun x g2 tk2 hx u1 e2=>zx5 ?_);have hO2:IsPair g2 TO a b:=e2.extBut _ _ ap.nO.1 (e1.extBut _ _ ap.nz.2.1 hO);refine zx1 (wpAny_seqItems hO2 rfl (zx1 (wpAny_updateSeq_pair hO2 fun g3 hO3 e3=>?_)));replace hO3:IsPair g3 TO x b:=hO3;refine zx1 (wpAny_letGo (zx5 (zx1 (zx1 (wpAny_onRaise ?_)))));show wpAny _ _ (Builtin.SmallTypes.nextOf (.ref j2) >>= _) _ _ { s with heap:=g3,toks:=tk2 };have q2:S2 k g3:=D2.frame _ _ _ t2 fun c hc o e=>e3.extBut _ _ (fun y=>ap.fO.2 (y▸hc)) (e2.extBut _ _ (fun y=>ap.fj.2 (y▸hc)) (e1.extBut _ _ (fun y=>ap.fz.2 (y▸hc)) e));refine zx1 (D2.item k _ _ _ l2 q2 fun y g4 tk4 hy u2 e4=>zx5 ?_);have hO4:IsPair g4 TO x b:=e4.extBut _ _ ap.nO.2 hO3;refine zx1 (wpAny_seqItems hO4 rfl (zx1 (wpAny_updateSeq_pair hO4 fun g5 hO5 e5=>?_)));replace hO5:IsPair g5 TO x y:=hO5;refine zx1 (wpAny_letGo (zx5 (zx5 (zx1 (wpAny_seqItems hO5 rfl (zx1 (wpAny_newTuple ?_)))))));have sz:g5.objs.size=s.heap.objs.size:=by rw [e5.1,e4.1,e3.1,e2.1,e1.1]
 have hz5:IsZip g5 z TI TO .ellipsis:=e5.extBut _ _ (Ne.symm ap.nz.2.1) (e4.extBut _ _ (Ne.symm ap.nz.2.2.2) (e3.extBut _ _ (Ne.symm ap.nz.2.1) (e2.extBut _ _ (Ne.symm ap.nz.2.2.1) hz1)));have k5:∀ c o,c≠z->c≠TO->c≠j1->c≠j2->s.heap.get? c=some o->g5.get? c=some o:=fun c o c1 c2 c3 c4 e=>e5.extBut _ _ c2 (e4.extBut _ _ c4 (e3.extBut _ _ c2 (e2.extBut _ _ c3 (e1.extBut _ _ c1 e))));have v1:S1 (k+1) g5:=D1.frame _ _ _ u1 fun c hc o e=>e5.extBut _ _ (fun y=>ap.fO.1 (y▸hc)) (e4.extBut _ _ (fun y=>ap.fj.1 (y▸hc)) (e3.extBut _ _ (fun y=>ap.fO.1 (y▸hc)) e));have v2:S2 (k+1) g5:=D2.frame _ _ _ u2 fun c hc o e=>e5.extBut _ _ (fun y=>ap.fO.2 (y▸hc)) e;have ltz:z<g5.objs.size:=zyf hz5;show wpAny _ _ (Builtin.SmallTypes.ownedTupleHandOut (.ref z) (.ref g5.objs.size) >>= _) _ _ _;refine zx1 (show wpAny _ _ (Builtin.SmallTypes.ownedTupleHandOut (.ref z) (.ref g5.objs.size)) _ _ _ from ?_);unfold Builtin.SmallTypes.ownedTupleHandOut;have hz6:IsZip (g5.push { cls:=.type "tuple",data:=.seq #[x,y] }) z TI TO .ellipsis:=zxz _ hz5;refine wpAny_bind (wpAny_setField_rec hz6 (by simp) fun g7 hz7 e7=>?_);replace hz7:IsZip g7 z TI TO (rawInt g5.objs.size):=hz7;refine wpAny_setField_rec hz7 (by simp) fun g8 hz8 e8=>?_;replace hz8:IsZip g8 z TI TO (rawInt g5.objs.size):=hz8;have up:∀ c o,c≠z->g5.get? c=some o->g8.get? c=some o:=fun c o c1 e=>e8.extBut _ _ c1 (e7.extBut _ _ c1 (zxz _ e));have hT8:IsPair g8 g5.objs.size x y:=e8.extBut _ _ (Nat.ne_of_gt ltz) (e7.extBut _ _ (Nat.ne_of_gt ltz) (zx9 _ rfl));have sz8:g8.objs.size=g5.objs.size+1:=by rw [e8.1,e7.1,zyl]
 rw [sz] at hz8 hT8 sz8;refine zx5 ⟨_,rfl,?_⟩;show Q (.ref g5.objs.size) { s with heap:=g8,toks:=tk4 };rw [sz];exact hQ x y g8 tk4 hx hy hz8 (up _ _ ap.nz.2.1 hO5) (D1.frame _ _ _ v1 fun c hc o e=>up c o (fun y=>ap.fz.1 (y▸hc)) e) (D2.frame _ _ _ v2 fun c hc o e=>up c o (fun y=>ap.fz.2 (y▸hc)) e) hT8 sz8
  fun c o c1 c2 c3 c4 e=>up c o c1 (k5 c o c1 c2 c3 c4 e)
theorem znj {Q:Fin->Shared->Prop} (D1:Draws prog w A j1 f1 n1 P1 S1) (D2:Draws prog w A j2 f2 n2 P2 S2) (ap:ZAp z TI TO j1 j2 f1 f2)
  (hz:IsZip s.heap z TI TO .none) (hI:IsPair s.heap TI (.ref j1) (.ref j2)) (hO:IsPair s.heap TO a b) (t1:S1 k s.heap) (t2:S2 k s.heap) (hk:k=n1\/k<n1/\k=n2)
  (hE:∀ g e tk,(∀ c o,c≠z->c≠TO->c≠j1->c≠j2->s.heap.get? c=some o->g.get? c=some o)->(∃ o,g.get? e=some o/\o.cls=.type "StopIteration")->E (.ref e) { s with heap:=g,toks:=tk }) :
  wpAny (model prog w) A (Builtin.«zip.__next__» ⟨[.ref z],[]⟩) Q E s:=by
 show wpAny _ _ (field (.ref z) 2 >>= _) _ _ s;refine zx1 (wpAny_field (x:=.bool false) hz rfl rfl ?_);show wpAny _ _ (field (.ref z) 3 >>= _) _ _ s;refine zx1 (wpAny_field (x:=.ref TI) hz rfl rfl (zx1 (wpAny_seqItems hI rfl ?_)));show wpAny _ _ (Builtin.SmallTypes.ownedTupleIsFree (.ref z) >>= _) _ _ s;refine zx1 (show wpAny _ _ (Builtin.SmallTypes.ownedTupleIsFree (.ref z)) _ _ s from ?_);unfold Builtin.SmallTypes.ownedTupleIsFree;refine zx1 (wpAny_field (x:=.none) hz rfl rfl (zx5 ?_));simp only [if_true];refine zx1 (wpAny_rule (zx1 (wpAny_field (x:=.ref TO) hz rfl rfl ?_)));refine wpAny_bind (wpAny_setField_rec hz (by simp) fun g1 hz1 e1=>?_);replace hz1:IsZip g1 z TI TO .ellipsis:=hz1;refine zx1 (show wpAny _ _ _ _ _ _ from ?_);simp only [List.zipIdx_nil,List.zipIdx_cons,List.forIn_nil,List.forIn_cons];refine zx1 (zx1 (wpAny_onRaise ?_));show wpAny _ _ (Builtin.SmallTypes.nextOf (.ref j1) >>= _) _ _ { s with heap:=g1 };have q1:S1 k g1:=D1.frame _ _ _ t1 fun c hc o e=>e1.extBut _ _ (fun y=>ap.fz.1 (y▸hc)) e;rcases hk with rfl | ⟨hlt,rfl⟩
 ·refine zx1 (D1.done _ _ _ q1 fun g2 e e2 he=>?_);obtain ⟨oe,hoe,hce⟩:=he;have hz2:IsZip g2 z TI TO .ellipsis:=e2 _ _ (Ne.symm ap.nz.2.2.1) hz1;have ez:e≠z:=fun y=>by subst y;rw [hz2] at hoe;cases hoe;simp at hce
  exact wpAny_setField_rec hz2 (by simp) fun g3 _ e3=>hE g3 e s.toks (fun c o c1 _ c3 _ y=>e3.extBut _ _ c1 (e2 _ _ c3 (e1.extBut _ _ c1 y))) ⟨oe,e3.extBut _ _ ez hoe,hce⟩
 ·refine zx1 (D1.item _ _ _ _ hlt q1 fun x g2 tk2 hx u1 e2=>zx5 ?_);have hO2:IsPair g2 TO a b:=e2.extBut _ _ ap.nO.1 (e1.extBut _ _ ap.nz.2.1 hO);refine zx1 (wpAny_seqItems hO2 rfl (zx1 (wpAny_updateSeq_pair hO2 fun g3 hO3 e3=>?_)));refine zx1 (wpAny_letGo (zx5 (zx1 (zx1 (wpAny_onRaise ?_)))));show wpAny _ _ (Builtin.SmallTypes.nextOf (.ref j2) >>= _) _ _ { s with heap:=g3,toks:=tk2 };have q2:S2 k g3:=D2.frame _ _ _ t2 fun c hc o e=>e3.extBut _ _ (fun y=>ap.fO.2 (y▸hc)) (e2.extBut _ _ (fun y=>ap.fj.2 (y▸hc)) (e1.extBut _ _ (fun y=>ap.fz.2 (y▸hc)) e));refine zx1 (D2.done _ _ _ q2 fun g4 e e4 he=>?_);obtain ⟨oe,hoe,hce⟩:=he;have hz4:IsZip g4 z TI TO .ellipsis:=e4 _ _ (Ne.symm ap.nz.2.2.2) (e3.extBut _ _ (Ne.symm ap.nz.2.1) (e2.extBut _ _ (Ne.symm ap.nz.2.2.1) hz1));have ez:e≠z:=fun y=>by subst y;rw [hz4] at hoe;cases hoe;simp at hce
  exact wpAny_setField_rec hz4 (by simp) fun g5 _ e5=>hE g5 e tk2 (fun c o c1 c2 c3 c4 y=>e5.extBut _ _ c1 (e4 _ _ c4 (e3.extBut _ _ c2 (e2.extBut _ _ c3 (e1.extBut _ _ c1 y))))) ⟨oe,e5.extBut _ _ ez hoe,hce⟩
theorem zjy {Q:Option Value->Shared->Prop} (D1:Draws prog w A.in1 j1 f1 n1 P1 S1) (D2:Draws prog w A.in1 j2 f2 n2 P2 S2) (ap:ZAp z TI TO j1 j2 f1 f2)
  (hz:IsZip s.heap z TI TO .none) (hI:IsPair s.heap TI (.ref j1) (.ref j2)) (hO:IsPair s.heap TO a b) (t1:S1 k s.heap) (t2:S2 k s.heap) (l1:k<n1) (l2:k<n2)
  (hQ:∀ x y g tk,P1 k x->P2 k y->IsZip g z TI TO (rawInt s.heap.objs.size)->IsPair g TO x y->S1 (k+1) g->S2 (k+1) g->IsPair g s.heap.objs.size x y->g.objs.size=s.heap.objs.size+1 ->
   (∀ c o,c≠z->c≠TO->c≠j1->c≠j2->s.heap.get? c=some o->g.get? c=some o)->Q (some (.ref s.heap.objs.size)) { s with heap:=g,toks:=tk }):wpAny (model prog w) A (pyNext (.ref z)) Q E s:=by
 have ty:s.TypeIs (.ref z) "zip":=⟨_,hz,rfl⟩;unfold pyNext;exact zx1 (wpAny_attempt (zy1 (name:=Str.ofString "__next__") ty F.slot_zip_next (zyw F.slot_zip_next ty F.entry_zip_next
  (zka D1 D2 ap hz hI hO t1 t2 l1 l2 fun x y g tk b1 b2 b3 b4 b5 b6 b7 b8 b9=>zx5 (hQ x y g tk b1 b2 b3 b4 b5 b6 b7 b8 b9)) (F.args_zip_next_1 _))))
theorem zlh {Q:Option Value->Shared->Prop} (D1:Draws prog w A.in1 j1 f1 n1 P1 S1) (D2:Draws prog w A.in1 j2 f2 n2 P2 S2) (ap:ZAp z TI TO j1 j2 f1 f2)
  (hz:IsZip s.heap z TI TO .none) (hI:IsPair s.heap TI (.ref j1) (.ref j2)) (hO:IsPair s.heap TO a b) (t1:S1 k s.heap) (t2:S2 k s.heap) (hk:k=n1\/k<n1/\k=n2)
  (hQ:∀ g tk,(∀ c o,c≠z->c≠TO->c≠j1->c≠j2->s.heap.get? c=some o->g.get? c=some o)->Q none { s with heap:=g,toks:=tk }):wpAny (model prog w) A (pyNext (.ref z)) Q E s:=by
 have ty:s.TypeIs (.ref z) "zip":=⟨_,hz,rfl⟩;unfold pyNext;refine zx1 (wpAny_attempt (zy1 (name:=Str.ofString "__next__") ty F.slot_zip_next (zyw F.slot_zip_next ty F.entry_zip_next
  (znj D1 D2 ap hz hI hO t1 t2 hk fun g e tk hc he=>?_) (F.args_zip_next_1 _))))
 obtain ⟨o,ho,hc2⟩:=he;exact zx1 (wpAny_isInstance (b:=true) (T:="StopIteration") ⟨o,ho,hc2⟩ isSubtype_stop (zx5 (hQ _ _ hc)))
end
abbrev ydy (h:Heap) (l1:Addr):Heap:=h.push { cls:=.type "list_iterator",data:=.fields #[.ref l1,.int 0 0] }
abbrev yd9 (h:Heap) (l1 l2:Addr):Heap:=(ydy h l1).push { cls:=.type "list_iterator",data:=.fields #[.ref l2,.int 0 0] }
abbrev yed (h:Heap) (l1 l2:Addr):Heap:=(yd9 h l1 l2).push { cls:=.type "tuple",data:=.seq #[.ref h.objs.size,.ref (ydy h l1).objs.size] }
abbrev yee (h:Heap) (l1 l2:Addr):Heap:=(yed h l1 l2).push { cls:=.type "tuple",data:=.seq #[.none,.none] }
abbrev ycx (h:Heap) (l1 l2:Addr):Heap:=(yee h l1 l2).push { cls:=.type "zip",data:=.fields #[.none,.bool false,.bool false,.ref (yd9 h l1 l2).objs.size,.ref (yed h l1 l2).objs.size] }
theorem zln (l1 l2:Addr) (xs ys:Array Value):Meets (Builtin.«zip.__new__» ⟨[.type "zip",.ref l1,.ref l2],[]⟩) (fun _ R s=>s.heap.IsList l1 xs/\s.heap.IsList l2 ys /\
   R (.ok (.ret (.ref (yee s.heap l1 l2).objs.size))) { s with heap:=ycx s.heap l1 l2 }) :=
 .of_wp fun prog w A R s q=>by
  obtain ⟨hp,gs,dr,tk,os⟩:=s;obtain ⟨q1,q2,q⟩:=q;have hsub:=sub_zip;have y1:Heap.IsList (Shared.heap ⟨hp,gs,dr,tk,os⟩) l1 xs:=q1;have y2:Heap.IsList (Shared.heap ⟨hp.push { cls:=.type "list_iterator",data:=.fields #[.ref l1,.int 0 0] },gs,dr,tk,os⟩) l2 ys:=Heap.IsList.push q2 _
  wp_walk using wpAny_pyIter_list y1,wpAny_pyIter_list y2
  exact ⟨_,rfl,q⟩
theorem zps {prog:Program} {w:World} {A:Around} {E:Value->Shared->Prop} {s:Shared} (q1:s.heap.IsList l1 xs) (q2:s.heap.IsList l2 ys)
  (q:∀ g,IsZip g (s.heap.objs.size+4) (s.heap.objs.size+2) (s.heap.objs.size+3) .none->IsPair g (s.heap.objs.size+2) (.ref s.heap.objs.size) (.ref (s.heap.objs.size+1))->IsPair g (s.heap.objs.size+3) .none .none ->
   g.IsListIter s.heap.objs.size l1 0->g.IsListIter (s.heap.objs.size+1) l2 0->g.objs.size=s.heap.objs.size+5->(∀ c o,s.heap.get? c=some o->g.get? c=some o)->Q (.ref (s.heap.objs.size+4)) { s with heap:=g }) :
  wpAny (model prog w) A (call (.type "zip") [.ref l1,.ref l2]) Q E s:=by
 refine callType_new F.called_zip (by decide) (F.typeCall_zip_2 _ _) (F.newCall_zip_2 _ _) (fun ob=>F.args_object_init_3 ob _ _) F.entry_zip_new (zln l1 l2 xs ys) ⟨q1,q2,?_⟩;have a1:(ydy s.heap l1).objs.size=s.heap.objs.size+1:=zyl ..;have a2:(yd9 s.heap l1 l2).objs.size=s.heap.objs.size+2:=by rw [zyl,a1]
 have a3:(yed s.heap l1 l2).objs.size=s.heap.objs.size+3:=by rw [zyl,a2]
 have a4:(yee s.heap l1 l2).objs.size=s.heap.objs.size+4:=by rw [zyl,a3]
 have a5:(ycx s.heap l1 l2).objs.size=s.heap.objs.size+5:=by rw [zyl,a4]
 have b5:(ycx s.heap l1 l2).get? (yee s.heap l1 l2).objs.size=some _:=zx9 _ rfl;have b4:(ycx s.heap l1 l2).get? (yed s.heap l1 l2).objs.size=some _:=zxz _ (zx9 _ rfl);have b3:(ycx s.heap l1 l2).get? (yd9 s.heap l1 l2).objs.size=some _:=zxz _ (zxz _ (zx9 _ rfl));have b2:(ycx s.heap l1 l2).get? (ydy s.heap l1).objs.size=some _:=zxz _ (zxz _ (zxz _ (zx9 _ rfl)));have b1:(ycx s.heap l1 l2).get? s.heap.objs.size=some _:=zxz _ (zxz _ (zxz _ (zxz _ (zx9 _ rfl))));show _/\_;rw [a2,a3,a4] at b5;rw [a1,a2] at b3;rw [a3] at b4;rw [a1] at b2;rw [a4];exact ⟨⟨_,b5,rfl⟩,q _ b5 b3 b4 ⟨_,b1,rfl,rfl⟩ ⟨_,b2,rfl,rfl⟩ a5 fun c o y=>zxz _ (zxz _ (zxz _ (zxz _ (zxz _ y))))⟩
abbrev yd1 (h:Heap) (l1:Addr):Heap:=h.push { cls:=.type "list_iterator",data:=.fields #[.ref l1,.int 0 0] }
abbrev yd4 (h:Heap) (l1 l2:Addr):Heap:=(yd1 h l1).push { cls:=.type "tuple_iterator",data:=.fields #[.ref l2,.int 0 0] }
abbrev yd8 (h:Heap) (l1 l2:Addr):Heap:=(yd4 h l1 l2).push { cls:=.type "tuple",data:=.seq #[.ref h.objs.size,.ref (yd1 h l1).objs.size] }
abbrev ydt (h:Heap) (l1 l2:Addr):Heap:=(yd8 h l1 l2).push { cls:=.type "tuple",data:=.seq #[.none,.none] }
abbrev ycy (h:Heap) (l1 l2:Addr):Heap:=(ydt h l1 l2).push { cls:=.type "zip",data:=.fields #[.none,.bool false,.bool false,.ref (yd4 h l1 l2).objs.size,.ref (yd8 h l1 l2).objs.size] }
theorem zlm (l1 l2:Addr) (xs ys:Array Value):Meets (Builtin.«zip.__new__» ⟨[.type "zip",.ref l1,.ref l2],[]⟩) (fun _ R s=>s.heap.IsList l1 xs/\s.heap.IsTuple l2 ys /\
   R (.ok (.ret (.ref (ydt s.heap l1 l2).objs.size))) { s with heap:=ycy s.heap l1 l2 }) :=
 .of_wp fun prog w A R s q=>by
  obtain ⟨hp,gs,dr,tk,os⟩:=s;obtain ⟨q1,q2,q⟩:=q;have hsub:=sub_zip;have y1:Heap.IsList (Shared.heap ⟨hp,gs,dr,tk,os⟩) l1 xs:=q1;have y2:Heap.IsTuple (Shared.heap ⟨hp.push { cls:=.type "list_iterator",data:=.fields #[.ref l1,.int 0 0] },gs,dr,tk,os⟩) l2 ys:=let ⟨o,ho,r⟩:=q2;⟨o,zxz _ ho,r⟩
  wp_walk using wpAny_pyIter_list y1,wpAny_pyIter_tuple y2
  exact ⟨_,rfl,q⟩
theorem zpr {prog:Program} {w:World} {A:Around} {E:Value->Shared->Prop} {s:Shared} (q1:s.heap.IsList l1 xs) (q2:s.heap.IsTuple l2 ys)
  (q:∀ g,IsZip g (s.heap.objs.size+4) (s.heap.objs.size+2) (s.heap.objs.size+3) .none->IsPair g (s.heap.objs.size+2) (.ref s.heap.objs.size) (.ref (s.heap.objs.size+1))->IsPair g (s.heap.objs.size+3) .none .none ->
   g.IsListIter s.heap.objs.size l1 0->g.IsTupleIter (s.heap.objs.size+1) l2 0->g.objs.size=s.heap.objs.size+5->(∀ c o,s.heap.get? c=some o->g.get? c=some o)->Q (.ref (s.heap.objs.size+4)) { s with heap:=g }) :
  wpAny (model prog w) A (call (.type "zip") [.ref l1,.ref l2]) Q E s:=by
 refine callType_new F.called_zip (by decide) (F.typeCall_zip_2 _ _) (F.newCall_zip_2 _ _) (fun ob=>F.args_object_init_3 ob _ _) F.entry_zip_new (zlm l1 l2 xs ys) ⟨q1,q2,?_⟩;have a1:(yd1 s.heap l1).objs.size=s.heap.objs.size+1:=zyl ..;have a2:(yd4 s.heap l1 l2).objs.size=s.heap.objs.size+2:=by rw [zyl,a1]
 have a3:(yd8 s.heap l1 l2).objs.size=s.heap.objs.size+3:=by rw [zyl,a2]
 have a4:(ydt s.heap l1 l2).objs.size=s.heap.objs.size+4:=by rw [zyl,a3]
 have a5:(ycy s.heap l1 l2).objs.size=s.heap.objs.size+5:=by rw [zyl,a4]
 have b5:(ycy s.heap l1 l2).get? (ydt s.heap l1 l2).objs.size=some _:=zx9 _ rfl;have b4:(ycy s.heap l1 l2).get? (yd8 s.heap l1 l2).objs.size=some _:=zxz _ (zx9 _ rfl);have b3:(ycy s.heap l1 l2).get? (yd4 s.heap l1 l2).objs.size=some _:=zxz _ (zxz _ (zx9 _ rfl));have b2:(ycy s.heap l1 l2).get? (yd1 s.heap l1).objs.size=some _:=zxz _ (zxz _ (zxz _ (zx9 _ rfl)));have b1:(ycy s.heap l1 l2).get? s.heap.objs.size=some _:=zxz _ (zxz _ (zxz _ (zxz _ (zx9 _ rfl))));show _/\_;rw [a2,a3,a4] at b5;rw [a1,a2] at b3;rw [a3] at b4;rw [a1] at b2;rw [a4];exact ⟨⟨_,b5,rfl⟩,q _ b5 b3 b4 ⟨_,b1,rfl,rfl⟩ ⟨_,b2,rfl,rfl⟩ a5 fun c o y=>zxz _ (zxz _ (zxz _ (zxz _ (zxz _ y))))⟩
abbrev yd7 (h:Heap) (l1:Addr):Heap:=h.push { cls:=.type "tuple_iterator",data:=.fields #[.ref l1,.int 0 0] }
abbrev ydw (h:Heap) (l1 l2:Addr):Heap:=(yd7 h l1).push { cls:=.type "list_iterator",data:=.fields #[.ref l2,.int 0 0] }
abbrev yec (h:Heap) (l1 l2:Addr):Heap:=(ydw h l1 l2).push { cls:=.type "tuple",data:=.seq #[.ref h.objs.size,.ref (yd7 h l1).objs.size] }
abbrev yeg (h:Heap) (l1 l2:Addr):Heap:=(yec h l1 l2).push { cls:=.type "tuple",data:=.seq #[.none,.none] }
abbrev ycu (h:Heap) (l1 l2:Addr):Heap:=(yeg h l1 l2).push { cls:=.type "zip",data:=.fields #[.none,.bool false,.bool false,.ref (ydw h l1 l2).objs.size,.ref (yec h l1 l2).objs.size] }
theorem zll (l1 l2:Addr) (xs ys:Array Value):Meets (Builtin.«zip.__new__» ⟨[.type "zip",.ref l1,.ref l2],[]⟩) (fun _ R s=>s.heap.IsTuple l1 xs/\s.heap.IsList l2 ys /\
   R (.ok (.ret (.ref (yeg s.heap l1 l2).objs.size))) { s with heap:=ycu s.heap l1 l2 }) :=
 .of_wp fun prog w A R s q=>by
  obtain ⟨hp,gs,dr,tk,os⟩:=s;obtain ⟨q1,q2,q⟩:=q;have hsub:=sub_zip;have y1:Heap.IsTuple (Shared.heap ⟨hp,gs,dr,tk,os⟩) l1 xs:=q1;have y2:Heap.IsList (Shared.heap ⟨hp.push { cls:=.type "tuple_iterator",data:=.fields #[.ref l1,.int 0 0] },gs,dr,tk,os⟩) l2 ys:=Heap.IsList.push q2 _
  wp_walk using wpAny_pyIter_tuple y1,wpAny_pyIter_list y2
  exact ⟨_,rfl,q⟩
theorem zpq {prog:Program} {w:World} {A:Around} {E:Value->Shared->Prop} {s:Shared} (q1:s.heap.IsTuple l1 xs) (q2:s.heap.IsList l2 ys)
  (q:∀ g,IsZip g (s.heap.objs.size+4) (s.heap.objs.size+2) (s.heap.objs.size+3) .none->IsPair g (s.heap.objs.size+2) (.ref s.heap.objs.size) (.ref (s.heap.objs.size+1))->IsPair g (s.heap.objs.size+3) .none .none ->
   g.IsTupleIter s.heap.objs.size l1 0->g.IsListIter (s.heap.objs.size+1) l2 0->g.objs.size=s.heap.objs.size+5->(∀ c o,s.heap.get? c=some o->g.get? c=some o)->Q (.ref (s.heap.objs.size+4)) { s with heap:=g }) :
  wpAny (model prog w) A (call (.type "zip") [.ref l1,.ref l2]) Q E s:=by
 refine callType_new F.called_zip (by decide) (F.typeCall_zip_2 _ _) (F.newCall_zip_2 _ _) (fun ob=>F.args_object_init_3 ob _ _) F.entry_zip_new (zll l1 l2 xs ys) ⟨q1,q2,?_⟩;have a1:(yd7 s.heap l1).objs.size=s.heap.objs.size+1:=zyl ..;have a2:(ydw s.heap l1 l2).objs.size=s.heap.objs.size+2:=by rw [zyl,a1]
 have a3:(yec s.heap l1 l2).objs.size=s.heap.objs.size+3:=by rw [zyl,a2]
 have a4:(yeg s.heap l1 l2).objs.size=s.heap.objs.size+4:=by rw [zyl,a3]
 have a5:(ycu s.heap l1 l2).objs.size=s.heap.objs.size+5:=by rw [zyl,a4]
 have b5:(ycu s.heap l1 l2).get? (yeg s.heap l1 l2).objs.size=some _:=zx9 _ rfl;have b4:(ycu s.heap l1 l2).get? (yec s.heap l1 l2).objs.size=some _:=zxz _ (zx9 _ rfl);have b3:(ycu s.heap l1 l2).get? (ydw s.heap l1 l2).objs.size=some _:=zxz _ (zxz _ (zx9 _ rfl));have b2:(ycu s.heap l1 l2).get? (yd7 s.heap l1).objs.size=some _:=zxz _ (zxz _ (zxz _ (zx9 _ rfl)));have b1:(ycu s.heap l1 l2).get? s.heap.objs.size=some _:=zxz _ (zxz _ (zxz _ (zxz _ (zx9 _ rfl))));show _/\_;rw [a2,a3,a4] at b5;rw [a1,a2] at b3;rw [a3] at b4;rw [a1] at b2;rw [a4];exact ⟨⟨_,b5,rfl⟩,q _ b5 b3 b4 ⟨_,b1,rfl,rfl⟩ ⟨_,b2,rfl,rfl⟩ a5 fun c o y=>zxz _ (zxz _ (zxz _ (zxz _ (zxz _ y))))⟩
abbrev yd6 (h:Heap) (l1:Addr):Heap:=h.push { cls:=.type "tuple_iterator",data:=.fields #[.ref l1,.int 0 0] }
abbrev yea (h:Heap) (l1 l2:Addr):Heap:=(yd6 h l1).push { cls:=.type "tuple_iterator",data:=.fields #[.ref l2,.int 0 0] }
abbrev yd0 (h:Heap) (l1 l2:Addr):Heap:=(yea h l1 l2).push { cls:=.type "tuple",data:=.seq #[.ref h.objs.size,.ref (yd6 h l1).objs.size] }
abbrev ydu (h:Heap) (l1 l2:Addr):Heap:=(yd0 h l1 l2).push { cls:=.type "tuple",data:=.seq #[.none,.none] }
abbrev ycz (h:Heap) (l1 l2:Addr):Heap:=(ydu h l1 l2).push { cls:=.type "zip",data:=.fields #[.none,.bool false,.bool false,.ref (yea h l1 l2).objs.size,.ref (yd0 h l1 l2).objs.size] }
theorem zlk (l1 l2:Addr) (xs ys:Array Value):Meets (Builtin.«zip.__new__» ⟨[.type "zip",.ref l1,.ref l2],[]⟩) (fun _ R s=>s.heap.IsTuple l1 xs/\s.heap.IsTuple l2 ys /\
   R (.ok (.ret (.ref (ydu s.heap l1 l2).objs.size))) { s with heap:=ycz s.heap l1 l2 }) :=
 .of_wp fun prog w A R s q=>by
  obtain ⟨hp,gs,dr,tk,os⟩:=s;obtain ⟨q1,q2,q⟩:=q;have hsub:=sub_zip;have y1:Heap.IsTuple (Shared.heap ⟨hp,gs,dr,tk,os⟩) l1 xs:=q1;have y2:Heap.IsTuple (Shared.heap ⟨hp.push { cls:=.type "tuple_iterator",data:=.fields #[.ref l1,.int 0 0] },gs,dr,tk,os⟩) l2 ys:=let ⟨o,ho,r⟩:=q2;⟨o,zxz _ ho,r⟩
  wp_walk using wpAny_pyIter_tuple y1,wpAny_pyIter_tuple y2
  exact ⟨_,rfl,q⟩
theorem zpp {prog:Program} {w:World} {A:Around} {E:Value->Shared->Prop} {s:Shared} (q1:s.heap.IsTuple l1 xs) (q2:s.heap.IsTuple l2 ys)
  (q:∀ g,IsZip g (s.heap.objs.size+4) (s.heap.objs.size+2) (s.heap.objs.size+3) .none->IsPair g (s.heap.objs.size+2) (.ref s.heap.objs.size) (.ref (s.heap.objs.size+1))->IsPair g (s.heap.objs.size+3) .none .none ->
   g.IsTupleIter s.heap.objs.size l1 0->g.IsTupleIter (s.heap.objs.size+1) l2 0->g.objs.size=s.heap.objs.size+5->(∀ c o,s.heap.get? c=some o->g.get? c=some o)->Q (.ref (s.heap.objs.size+4)) { s with heap:=g }) :
  wpAny (model prog w) A (call (.type "zip") [.ref l1,.ref l2]) Q E s:=by
 refine callType_new F.called_zip (by decide) (F.typeCall_zip_2 _ _) (F.newCall_zip_2 _ _) (fun ob=>F.args_object_init_3 ob _ _) F.entry_zip_new (zlk l1 l2 xs ys) ⟨q1,q2,?_⟩;have a1:(yd6 s.heap l1).objs.size=s.heap.objs.size+1:=zyl ..;have a2:(yea s.heap l1 l2).objs.size=s.heap.objs.size+2:=by rw [zyl,a1]
 have a3:(yd0 s.heap l1 l2).objs.size=s.heap.objs.size+3:=by rw [zyl,a2]
 have a4:(ydu s.heap l1 l2).objs.size=s.heap.objs.size+4:=by rw [zyl,a3]
 have a5:(ycz s.heap l1 l2).objs.size=s.heap.objs.size+5:=by rw [zyl,a4]
 have b5:(ycz s.heap l1 l2).get? (ydu s.heap l1 l2).objs.size=some _:=zx9 _ rfl;have b4:(ycz s.heap l1 l2).get? (yd0 s.heap l1 l2).objs.size=some _:=zxz _ (zx9 _ rfl);have b3:(ycz s.heap l1 l2).get? (yea s.heap l1 l2).objs.size=some _:=zxz _ (zxz _ (zx9 _ rfl));have b2:(ycz s.heap l1 l2).get? (yd6 s.heap l1).objs.size=some _:=zxz _ (zxz _ (zxz _ (zx9 _ rfl)));have b1:(ycz s.heap l1 l2).get? s.heap.objs.size=some _:=zxz _ (zxz _ (zxz _ (zxz _ (zx9 _ rfl))));show _/\_;rw [a2,a3,a4] at b5;rw [a1,a2] at b3;rw [a3] at b4;rw [a1] at b2;rw [a4];exact ⟨⟨_,b5,rfl⟩,q _ b5 b3 b4 ⟨_,b1,rfl,rfl⟩ ⟨_,b2,rfl,rfl⟩ a5 fun c o y=>zxz _ (zxz _ (zxz _ (zxz _ (zxz _ y))))⟩
end
section
variable {ch:List Addr} {xs:List V} {t:Bool} {elts:List Expr}
section
variable {X:Cx} {pj:List (Addr × Obj)} {σ:St} {H:Hp} {s:Shared} {h':Heap}
theorem Inv.turnedC {t':Nat} (I:Inv X pj σ H s) (k:∀ b o,b∉ch->s.heap.get? b=some o->h'.get? b=some o) (f:∀ b∈ch,ycj X pj H b):Inv X pj σ H { s with heap:=h',toks:=t' }:=by
 have nfp:∀ {b:Addr} {u:HO},H b=some u->b∉ch:=fun {b u} q z=>by rw [(f b z).1] at q;cases q
 refine I.step (g':=s.gens) (d':=s.drawn) (ch:=ch) (fun b hb=>⟨(f b hb).2.2.2.1,(f b hb).2.1,(f b hb).2.2.2.2.1,(f b hb).2.2.2.2.2⟩) (fun b o _ _ hc q _=>k b o hc q) (fun b o _ _ hc q _=>⟨o.slots,k b o hc q⟩)
  (fun b o hc q z=>z) (fun b o hc q=>⟨o,k b o hc q⟩) (fun b ys q=>q) (fun b o u q=>q) (fun b ps q=>⟨#[],by rw [q];simp⟩) (fun m hm=>?_) (fun b u q=>?_) I.bare
 ·obtain ⟨o,es,ep,ho,r⟩:=hm;exact ⟨o,es,ep,k _ o (fun z=>(f _ z).2.1 rfl) ho,r⟩
 ·refine (I.hok b u q).stay (fun c v hc z=>?_) (fun c z=>z) fun c ys z=>z;rcases hc with rfl | hc
  ·exact k c v (nfp q) z
  ·exact k c v (nfp hc) z
theorem Inv.turnedN {T:Addr} {t':Nat} (I:Inv X pj σ H s) (k:∀ b o,b∉ch->s.heap.get? b=some o->h'.get? b=some o) (f:∀ b∈ch,ycj X pj H b)
  (hT:s.heap.objs.size<=T) (new:ObjOk X.prog X.w (upd H T (.tup xs)) h' T (.tup xs)):Inv X pj σ (upd H T (.tup xs)) { s with heap:=h',toks:=t' }:=by
 have hn:H T=none:=I.hok.fresh hT;have nT:∀ {b:Addr} {o:Obj},s.heap.get? b=some o->b≠T:=fun {b o} q=>zyp (zyi (zyf q) hT);have nfp:∀ {b:Addr} {u:HO},H b=some u->b∉ch:=fun {b u} q z=>by rw [(f b z).1] at q;cases q
 refine I.step (g':=s.gens) (d':=s.drawn) (ch:=ch) (fun b hb=>⟨(f b hb).2.2.2.1,(f b hb).2.1,(f b hb).2.2.2.2.1,(f b hb).2.2.2.2.2⟩) (fun b o _ _ hc q _=>k b o hc q) (fun b o _ _ hc q _=>⟨o.slots,k b o hc q⟩)
  (fun b o hc q z=>by rw [zad (nT q)];exact z) (fun b o hc q=>⟨o,k b o hc q⟩)
  (fun b ys q=>by rw [zad (zae q hn)];exact q) (fun b o u q=>by rw [zad (zae q hn)];exact q) (fun b ps q=>⟨#[],by rw [zad (zae q hn),q];simp⟩) (fun m hm=>?_) (fun b u q=>?_) I.bare
 ·obtain ⟨o,es,ep,ho,r⟩:=hm;exact ⟨o,es,ep,k _ o (fun z=>(f _ z).2.1 rfl) ho,r⟩
 ·by_cases hb:b=T
  ·subst hb;rw [zag] at q;cases q;exact new
  ·rw [zad hb] at q;refine (I.hok b u q).stay (fun c v hc z=>?_) (fun c z=>by rw [zad (zae z hn)];exact z) fun c ys z=>by rw [zad (zae z hn)];exact z
   rcases hc with rfl | hc
   ·exact k c v (nfp q) z
   ·exact k c v (nfp hc) z
end
def SqB (t:Bool) (K:PySem.W.Frag) (H:Hp) (a:Addr) (xs:List V):Prop:=if t then SqT K H a xs else SqL K H a xs
def ItB (t:Bool) (h:Heap) (j l:Addr) (i:Nat):Prop:=if t then h.IsTupleIter j l i else h.IsListIter j l i
def IsB (t:Bool) (h:Heap) (l:Addr) (qc:Array Value):Prop:=if t then h.IsTuple l qc else h.IsList l qc
theorem ItB.at {h h':Heap} {j l:Addr} {i:Nat} (x:ItB t h j l i) (k:∀ o,h.get? j=some o->h'.get? j=some o):ItB t h' j l i:=by
 cases t with
 | true=>obtain ⟨o,e,r⟩:=(show h.IsTupleIter j l i from x);exact (show h'.IsTupleIter j l i from ⟨o,k o e,r⟩)
 | false=>obtain ⟨o,e,r⟩:=(show h.IsListIter j l i from x);exact (show h'.IsListIter j l i from ⟨o,k o e,r⟩)
theorem ItB.obj {h:Heap} {j l:Addr} {i:Nat} (x:ItB t h j l i):∃ o,h.get? j=some o/\∀ v,o.data≠.cell v:=by
 cases t with
 | true=>obtain ⟨o,e,_,d⟩:=(show h.IsTupleIter j l i from x);exact ⟨o,e,fun v q=>by rw [d] at q;cases q⟩
 | false=>obtain ⟨o,e,_,d⟩:=(show h.IsListIter j l i from x);exact ⟨o,e,fun v q=>by rw [d] at q;cases q⟩
theorem Inv.sqB {X:Cx} {pj:List (Addr × Obj)} {σ:St} {H:Hp} {s:Shared} {a:Addr} (I:Inv X pj σ H s) (q:SqB t X.K H a xs):∃ qc:List Value,Vals xs qc/\IsB t s.heap a qc.toArray/\a<s.heap.objs.size:=by
 cases t with
 | true =>obtain ⟨qc,rv,p,_⟩:=I.tuple (show SqT X.K H a xs from q);obtain ⟨o,e,_⟩:=id p;exact ⟨qc,rv,p,zyf e⟩
 | false =>obtain ⟨qc,rv,p,_⟩:=I.list (show SqL X.K H a xs from q);obtain ⟨o,e,_⟩:=id p.isList;exact ⟨qc,rv,p.isList,zyf e⟩
theorem Inv.sqB_inj {X:Cx} {pj:List (Addr × Obj)} {σ:St} {H:Hp} {s:Shared} {a:Addr} {ys:List V} (I:Inv X pj σ H s) (q:SqB t X.K H a xs) (q':SqB t X.K H a ys):xs=ys:=by
 cases t with
 | true=>exact I.tuple_inj (show SqT X.K H a xs from q) q'
 | false=>exact I.list_inj (show SqL X.K H a xs from q) q'
theorem yc5 {prog:Program} {w:World} {A:Around} (t:Bool) (hh:A.handled=none) (j l:Addr) (hne:l≠j) (qc:Array Value):Draws prog w A j [j,l] qc.size (fun i v=>qc[i]?=some v) (fun i h=>ItB t h j l i/\IsB t h l qc):=by
 cases t with
 | true=>exact zcx hh j l hne qc
 | false=>exact Draws.list hh j l hne qc
def Itz (K:PySem.W.Frag) (t1 t2:Bool) (l1 l2:Addr):It :=
 ⟨fun i H=>∃ xs ys x y,SqB t1 K H l1 xs/\SqB t2 K H l2 ys/\xs[i]?=some x/\ys[i]?=some y,
  fun i H v H'=>∃ p x y,H p=none/\v=.ref p/\H'=upd H p (.tup [x,y])/\(∀ xs,SqB t1 K H l1 xs->xs[i]?=some x)/\∀ ys,SqB t2 K H l2 ys->ys[i]?=some y,
  fun i H=>∃ xs ys,SqB t1 K H l1 xs/\SqB t2 K H l2 ys/\(i=xs.length\/i<xs.length/\i=ys.length)⟩
theorem ane {a b:Nat} (h:a<b\/b<a):(show Addr from a)≠(show Addr from b):=fun e=>by have e:a=b:=e;omega
theorem anm {z a b:Nat} (h1:z<a\/a<z) (h2:z<b\/b<z):(show Addr from z)∉[(show Addr from a),(show Addr from b)]:=fun e=>by
 rcases omc e with e | e
 ·exact ane h1 e
 ·exact ane h2 (omg e)
theorem zap {N l1 l2:Nat} (h1:l1<N) (h2:l2<N):ZAp (N+4) (N+2) (N+3) N (N+1) [N,l1] [N+1,l2] :=
 ⟨⟨ane (by omega),ane (by omega),ane (by omega),ane (by omega)⟩,⟨ane (by omega),ane (by omega),ane (by omega)⟩,⟨ane (by omega),ane (by omega)⟩,ane (by omega),⟨anm (by omega) (by omega),anm (by omega) (by omega)⟩,⟨anm (by omega) (by omega),anm (by omega) (by omega)⟩,⟨anm (by omega) (by omega),anm (by omega) (by omega)⟩⟩
theorem znt {P:Program} {w:World} {K:PySem.W.Frag} {kx:Nat} {pos:Pos} (t1 t2:Bool) (l1 l2 N:Nat) (h1:l1<N) (h2:l2<N) :
  Turn P w K (.Tuple elts kx pos) (Itz K t1 t2 l1 l2) [N+4,N+2,N+3,N,N+1] (N+4)
   (fun i h=>IsZip h (N+4) (N+2) (N+3) .none/\IsPair h (N+2) (.ref N) (.ref (N+1))/\(∃ a b,IsPair h (N+3) a b)/\ItB t1 h N l1 i/\ItB t2 h (N+1) l2 i) where
 mem:=by simp
 obj:=fun i h st b hb=>by
  obtain ⟨s1,s2,⟨a,c,s3⟩,s4,s5⟩:=st;simp only [List.mem_cons,List.not_mem_nil,or_false] at hb;rcases hb with rfl | rfl | rfl | rfl | rfl
  ·exact ⟨_,s1,fun v q=>by cases q⟩
  ·exact ⟨_,s2,fun v q=>by cases q⟩
  ·exact ⟨_,s3,fun v q=>by cases q⟩
  ·exact s4.obj
  ·exact s5.obj
 keep:=fun i h h' st k=>by obtain ⟨s1,s2,⟨a,c,s3⟩,s4,s5⟩:=st;exact ⟨k _ (by simp) _ s1,k _ (by simp) _ s2,⟨a,c,k _ (by simp) _ s3⟩,s4.at fun o e=>k _ (by simp) o e,s5.at fun o e=>k _ (by simp) o e⟩
 item:=by
  intro X hP hw hK hc i pj s σ H E I hf st hg;subst hP hw hK;obtain ⟨xs,ys,x,y,q1,q2,hx,hy⟩:=hg;obtain ⟨s1,s2,⟨a,c,s3⟩,s4,s5⟩:=st;obtain ⟨qc,rv,p,_⟩:=I.sqB q1;obtain ⟨jts,rw',p',_⟩:=I.sqB q2;obtain ⟨u,hu,ru⟩:=rv.get hx;obtain ⟨u',hu',ru'⟩:=rw'.get hy;have hd:X.A.in1.handled=none:=I.ok.hd hc;have D1:=yc5 (prog:=X.prog) (w:=X.w) (A:=X.A.in1) t1 hd N l1 (ane (.inl h1)) qc.toArray;have D2:=yc5 (prog:=X.prog) (w:=X.w) (A:=X.A.in1) t2 hd (N+1) l2 (ane (by omega)) jts.toArray;have lt1:i<qc.toArray.size:=by have:=(ome hu).1;rw [zyd];exact this
  have lt2:i<jts.toArray.size:=by have:=(ome hu').1;rw [zyd];exact this
  have zlt:N+4<s.heap.objs.size:=zyf s1;refine zjy D1 D2 (zap h1 h2) s1 s2 s3 ⟨s4,p⟩ ⟨s5,p'⟩ lt1 lt2 fun v v' g tk hv hv' b3 b4 b5 b6 b7 b8 b9=>⟨_,rfl,wpAny_letOwnedTupleGo_zip b3 fun g2 z2 e2=>?_⟩;have ev:v=u:=by
   have z:qc[i]?=some v:=by simpa using hv
   rw [hu] at z;exact (zyk z).symm
  have ev':v'=u':=by
   have z:jts[i]?=some v':=by simpa using hv'
   rw [hu'] at z;exact (zyk z).symm
  subst ev ev';have up:∀ b o,b≠N+4->g.get? b=some o->g2.get? b=some o:=fun b o hb e=>(e2.2 b hb).trans e;have hk2:∀ b o,b∉[N+4,N+2,N+3,N,N+1]->s.heap.get? b=some o->g2.get? b=some o:=fun b o hb e=>by simp only [List.mem_cons,List.not_mem_nil,or_false,not_or] at hb;exact up b o hb.1 (b9 b o hb.1 hb.2.2.1 hb.2.2.2.1 hb.2.2.2.2 e)
  have nT:s.heap.objs.size≠N+4:=Nat.ne_of_gt zlt;have I1:Inv X pj σ (upd H s.heap.objs.size (.tup [x,y])) { s with heap:=g2,toks:=tk }:=I.turnedN hk2 hf (zye _)
   ⟨by show 2<=sizeLine;decide,[v,v'],.cons ru (.cons ru' .nil),⟨_,up _ _ nT b7,rfl,_,rfl⟩⟩
  refine ⟨.ref s.heap.objs.size,_,I1,rfl,⟨_,x,y,I.fresh,rfl,rfl,fun zs hz=>by rw [I.sqB_inj hz q1];exact hx,fun zs hz=>by rw [I.sqB_inj hz q2];exact hy⟩,⟨z2,?_,⟨_,_,up _ _ (ane (a:=N+3) (b:=N+4) (by omega)) b4⟩,?_,?_⟩,fun b hb=>?_⟩
  ·exact up _ _ (ane (a:=N+2) (b:=N+4) (by omega)) (b9 _ _ (ane (a:=N+2) (b:=N+4) (by omega)) (ane (a:=N+2) (b:=N+3) (by omega)) (ane (a:=N+2) (b:=N) (by omega)) (ane (a:=N+2) (b:=N+1) (by omega)) s2)
  ·exact b5.1.at fun o e=>up _ o (ane (a:=N) (b:=N+4) (by omega)) e
  ·exact b6.1.at fun o e=>up _ o (ane (a:=N+1) (b:=N+4) (by omega)) e
  ·have hbl:b<s.heap.objs.size:=by have zl:N+4<s.heap.objs.size:=zlt;simp only [List.mem_cons,List.not_mem_nil,or_false] at hb;rcases hb with e | e | e | e | e<;>(rw [e];show (_:Nat)<_;omega)
   rw [zad (zyp hbl)];exact (hf b hb).1
 done:=by intro X hP hw hK hc i pj s σ H E I hf st hg;subst hP hw hK;obtain ⟨xs,ys,q1,q2,hx⟩:=hg;obtain ⟨s1,s2,⟨a,c,s3⟩,s4,s5⟩:=st;obtain ⟨qc,rv,p,_⟩:=I.sqB q1;obtain ⟨jts,rw',p',_⟩:=I.sqB q2;have hd:X.A.in1.handled=none:=I.ok.hd hc;have D1:=yc5 (prog:=X.prog) (w:=X.w) (A:=X.A.in1) t1 hd N l1 (ane (.inl h1)) qc.toArray;have D2:=yc5 (prog:=X.prog) (w:=X.w) (A:=X.A.in1) t2 hd (N+1) l2 (ane (by omega)) jts.toArray;refine zlh D1 D2 (zap h1 h2) s1 s2 s3 ⟨s4,p⟩ ⟨s5,p'⟩ (k:=i) (by rw [zyd,zyd,<- rv.length,<- rw'.length];exact hx) fun g tk hk=>⟨rfl,I.turnedC (fun b o hb e=>?_) hf⟩;simp only [List.mem_cons,List.not_mem_nil,or_false,not_or] at hb;exact hk b o hb.1 hb.2.2.1 hb.2.2.2.1 hb.2.2.2.2 e
 self:=fun _ _ _ _ _ st q=>wpAny_pyIter_zip st.1 q
section
variable {X:Cx}
theorem zue {a b:Expr} {ta:TA} {p pos p2:Pos} {kx:Nat} (hg:Gl X "zip") (hm:X.mg "zip"=none) (ha:PA X [a,b] ta) (hs:starEach [a,b] X.env=[(false,eval a X.env),(false,eval b X.env)]) (hs2:starEach [b] X.env=[(false,eval b X.env)]) :
  PI X (.Tuple elts kx p2) (.Call (.Name "zip" p) [a,b] [] pos) (fun σ H R=>ta σ H fun vs H1=>∃ l1 l2 t1 t2 xs ys,vs=[.ref l1,.ref l2]/\SqB t1 X.K H1 l1 xs/\SqB t2 X.K H1 l2 ys/\R (Itz X.K t1 t2 l1 l2) H1):=by
 intro pj s σ H R I h;refine Call_ (ze3 I hg hm (show bootBuiltins "zip"=some (.type "zip") by decide +kernel) (PyProof.Rows.callWith_type1 (thn (ha pos pj s σ H _ I h) fun us s1 ⟨vs,H1,I1,r1,q1⟩=>?_) (by rw [hs,hs2]) (by rw [hs2];rfl)));obtain ⟨l1,l2,t1,t2,xs,ys,e,q1,q2,q⟩:=q1;subst e;obtain ⟨u,u',rfl,rx,ry⟩:=yfe r1;cases rx;cases ry;obtain ⟨qc,rv,b1,lt1⟩:=I1.sqB q1;obtain ⟨jts,rw',b2,lt2⟩:=I1.sqB q2;have fin:∀ {g:Heap},IsZip g (s1.heap.objs.size+4) (s1.heap.objs.size+2) (s1.heap.objs.size+3) .none->IsPair g (s1.heap.objs.size+2) (.ref s1.heap.objs.size) (.ref (s1.heap.objs.size+1))->IsPair g (s1.heap.objs.size+3) .none .none ->
   ItB t1 g s1.heap.objs.size l1 0->ItB t2 g (s1.heap.objs.size+1) l2 0->(∀ c o,s1.heap.get? c=some o->g.get? c=some o)->wpAny (model X.prog X.w) X.A (pyIter (.ref (s1.heap.objs.size+4))) (PIE X pj σ (.Tuple elts kx p2) R) X.xe { s1 with heap:=g }:=fun {g} y1 y2 y3 y4 y5 k=>by
  refine wpAny_pyIter_zip (s:={ s1 with heap:=g }) y1 ⟨_,_,_,_,H1,rfl,I1.kept (t':=s1.toks) k,znt t1 t2 l1 l2 s1.heap.objs.size lt1 lt2,⟨y1,y2,⟨_,_,y3⟩,y4,y5⟩,fun b hb=>?_,q⟩;have le:s1.heap.objs.size<=b:=by simp only [List.mem_cons,List.not_mem_nil,or_false] at hb;rcases hb with e | e | e | e | e<;>(rw [e];show (_:Nat)<=_;omega)
  exact I1.fpOk le (I1.hok.fresh le)
 cases t1<;>cases t2
 ·exact zps b1 b2 fun g y1 y2 y3 y4 y5 _ k=>fin y1 y2 y3 y4 y5 k
 ·exact zpr b1 b2 fun g y1 y2 y3 y4 y5 _ k=>fin y1 y2 y3 y4 y5 k
 ·exact zpq b1 b2 fun g y1 y2 y3 y4 y5 _ k=>fin y1 y2 y3 y4 y5 k
 ·exact zpp b1 b2 fun g y1 y2 y3 y4 y5 _ k=>fin y1 y2 y3 y4 y5 k
end
end
end L2
namespace Ev
open PySem Spec PyProof.Rows L2
section
variable {tg:Expr} {K:PySem.W.Frag} {F':Hp} {l:Addr} {vs:List V} {ts:List T} {f:Env->Option T} {G:Glo} {k:Nat} {elts:List Expr}
section
variable {X:Cx} {c:Tc} {a b:Expr} {pos p:Pos}
structure Walk (K:PySem.W.Frag) (J:It) (ts:List T) (F':Hp):Prop where
 go:∀ (i:Nat) (H:Hp),i<ts.length->Same F' H->J.go i H
 yld:∀ (i:Nat) (H:Hp) (x:V) (H5 F:Hp) (t:T),ts[i]?=some t->Same F' F->Same F H->J.yld i H x H5->∃ F5,Step F H F5 H5/\Rep K F5 t x
 stop:∀ (H:Hp),Same F' H->J.stop ts.length H
def spI (X:Cx) (c:Tc) (f:Env->Option (List T)):TI:=fun σ H R=>∃ r F ts,EnvE X c r F σ H/\f r=some ts/\∀ J F' H',Step F H F' H'->Walk X.K J ts F'->R J H'
theorem zfj {it:Expr} {t t':TI} (h:PI X tg it t) (m:∀ σ H R,t' σ H R->t σ H R):PI X tg it t':=fun pj s σ H R I q=>h pj s σ H R I (m σ H R q)
theorem zkd (h1:Ls K F' l vs) (h2:Reps K F' ts vs):Walk K (Itl K l) ts F' where
 go:=fun i H hi sm=>by obtain ⟨v,hv,_⟩:=h2.get (zx6 hi);exact ⟨vs,v,(Ls.same sm h1).sq,hv⟩
 yld:=fun i H x H5 F t ht sF fh y=>by obtain ⟨rfl,y⟩:=y;obtain ⟨v,hv,hr⟩:=h2.get ht;have e:=y vs ((Ls.same fh (Ls.same sF h1)).sq);rw [hv] at e;cases e;exact ⟨F,Step.refl fh,hr.mono sF⟩
 stop:=fun H sm=>⟨vs,(Ls.same sm h1).sq,by rw [h2.length];exact zye _⟩
theorem znz {F:Hp} {a:Addr} {xs:List V} (e:Same F F') (h:SqT K F a xs):SqT K F' a xs:=by
 rcases h with h | h
 ·exact .inl (zks e h)
 ·exact .inr h
theorem znn (h1:Tq K F' l vs) (h2:Reps K F' ts vs):Walk K (Itt K l) ts F' where
 go:=fun i H hi sm=>by obtain ⟨v,hv,_⟩:=h2.get (zx6 hi);exact ⟨vs,v,zai sm h1,hv⟩
 yld:=fun i H x H5 F t ht sF fh y=>by obtain ⟨rfl,y⟩:=y;obtain ⟨v,hv,hr⟩:=h2.get ht;have e:=y vs (zai (sF.trans fh) h1);rw [hv] at e;cases e;exact ⟨F,Step.refl fh,hr.mono sF⟩
 stop:=fun H sm=>⟨vs,zai sm h1,by rw [h2.length];exact zye _⟩
theorem zky {n i:Nat} {t:T} (h:(ybn n)[i]?=some t):i<n/\t=.int (i:Int):=by unfold ybn at h;rw [zyv] at h;obtain ⟨j,hj,e⟩:=oms h;have:=ome hj;obtain ⟨h1,h2⟩:=this;rw [List.getElem_range] at h2;subst h2;exact ⟨by simpa using h1,e.symm⟩
theorem zjm (n:Nat):Walk K (Itr 0 n) (ybn n) F' where
 go:=fun i H hi _=>by
  have:i<n:=by simpa [ybn] using hi
  exact this
 yld:=fun i H x H5 F t ht _ fh y=>by obtain ⟨rfl,rfl⟩:=y;obtain ⟨_,rfl⟩:=zky ht;exact ⟨F,Step.refl fh,by show V.int (0+(i:Int))=V.int (i:Int);rw [Int.zero_add]⟩
 stop:=fun H _=>by show n<=(ybn n).length;simp [ybn]
theorem zja:∀ {ts:List T} {i j:Nat} {t:T},(yat ts j)[i]?=some t->∃ u,ts[i]?=some u/\t=.tup [.int ((j+i:Nat):Int),u]
 | [],_,_,_,h=>by simp [yat] at h
 | u::ts,0,j,t,h=>by simp [yat] at h;exact ⟨u,rfl,by rw [<- h];simp⟩
 | u::ts,i+1,j,t,h=>by simp only [yat,xgs] at h;obtain ⟨w,h1,h2⟩:=zja (ts:=ts) (i:=i) (j:=j+1) h;exact ⟨w,by simpa using h1,by rw [h2,show j+1+i=j+(i+1) by omega]⟩
theorem zfu:∀ (ts:List T) (j:Nat),(yat ts j).length=ts.length
 | [],_=>rfl
 | _::ts,j=>by simp [yat,zfu ts (j+1)]
theorem zf2 {sq:Hp->Addr->List V->Prop} (mono:∀ {F G:Hp} {xs:List V},Same F G->sq F l xs->sq G l xs) (h1:sq F' l vs) (h2:Reps K F' ts vs):Walk K (Ite sq l) (yat ts 0) F' where
 go:=fun i H hi sm=>by rw [zfu] at hi;obtain ⟨v,hv,_⟩:=h2.get (zx6 hi);exact ⟨vs,v,mono sm h1,hv⟩
 yld:=fun i H x H5 F t ht sF fh y=>by obtain ⟨p,v,hp,rfl,rfl,y⟩:=y;obtain ⟨u,hu,rfl⟩:=zja ht;obtain ⟨w,hw,hr⟩:=h2.get hu;have e:=y vs (mono fh (mono sF h1));rw [hw] at e;cases e;have st:=(Step.refl fh).new (o:=.tup [.int (i:Int),v]) hp;refine ⟨_,st,p,_,rfl,zag,.int (i:Int),[v],rfl,?_,v,[],rfl,(hr.mono sF).mono st.ff,rfl⟩;show V.int (i:Int)=V.int ((0+i:Nat):Int);rw [Nat.zero_add]
 stop:=fun H sm=>⟨vs,mono sm h1,by rw [zfu,h2.length]⟩
theorem zsd (ha:Oke X c a f):PI X tg a (spI X c fun r=>(f r).bind fun x=>items .plain [x]):=by
 refine zfj (zuf ha) fun σ H R q=>?_;obtain ⟨r,F,ts,e,ht,q⟩:=q;obtain ⟨t,e1,ht⟩:=obs ht;refine ⟨r,F,t,e,e1,fun v F' H' s1 r1=>?_⟩;cases t with
 | tup us =>cases ht;obtain ⟨l,vs,rfl,h1,h2⟩:=r1;exact ⟨l,rfl,.inr ⟨vs,zai s1.fh h1,q _ F' H' s1 (znn h1 h2)⟩⟩
 | lst us =>cases ht;obtain ⟨l,vs,rfl,h1,h2⟩:=r1;exact ⟨l,rfl,.inl ⟨vs,(Ls.same s1.fh h1).sq,q _ F' H' s1 (zkd h1 h2)⟩⟩
 | _=>cases ht
theorem zop (gd:Gd X c G k) (hg:glB c.sc "range"=true) (ha:Oke X c a f) (hs:starEach [a] X.env=[(false,eval a X.env)]) :
  PI X tg (.Call (.Name "range" p) [a] [] pos) (spI X c fun r=>(f r).bind fun x=>items .range [x]):=by
 refine zfj (zla (gd.gl _ hg) (gd.nob _ (by decide +kernel)) (zb4 ha hs) hs) fun σ H R q=>?_;obtain ⟨r,F,ts,e,ht,q⟩:=q;obtain ⟨t,e1,ht⟩:=obs ht;refine ⟨r,F,[t],e,Option.bind_eq_some_iff.mpr ⟨t,e1,rfl⟩,fun vs F' H' s1 r1=>?_⟩;obtain ⟨v,w,rfl,h1,h2⟩:=r1;cases h2;cases t with
 | int n =>
  cases h1;simp only [items] at ht;split at ht
  ·rename_i hz;cases ht;have e62:(2:Int) ^ 62=4611686018427387904:=by decide
   exact ⟨n,rfl,by rw [e62];exact hz.1,by rw [e62];exact hz.2,q _ F' H' s1 (zjm _)⟩
  ·cases ht
 | _=>cases ht
theorem zse (gd:Gd X c G k) {kx:Nat} {p2:Pos} (hg:glB c.sc "enumerate"=true) (ha:Oke X c a f) (hs:starEach [a] X.env=[(false,eval a X.env)]) :
  PI X (.Tuple elts kx p2) (.Call (.Name "enumerate" p) [a] [] pos) (spI X c fun r=>(f r).bind fun x=>items .enum [x]):=by
 refine zfj (zry (gd.gl _ hg) (gd.nob _ (by decide +kernel)) (zb4 ha hs) hs) fun σ H R q=>?_;obtain ⟨r,F,ts,e,ht,q⟩:=q;obtain ⟨t,e1,ht⟩:=obs ht;refine ⟨r,F,[t],e,Option.bind_eq_some_iff.mpr ⟨t,e1,rfl⟩,fun vs F' H' s1 r1=>?_⟩;obtain ⟨v,w,rfl,h1,h2⟩:=r1;cases h2;cases t with
 | tup us =>cases ht;obtain ⟨l,vs,rfl,h1,h2⟩:=h1;exact ⟨l,rfl,.inr ⟨vs,zai s1.fh h1,q _ F' H' s1 (zf2 (sq:=SqT X.K) (fun e h=>znz e h) (SqT.of h1) h2)⟩⟩
 | lst us =>cases ht;obtain ⟨l,vs,rfl,h1,h2⟩:=h1;exact ⟨l,rfl,.inl ⟨vs,(Ls.same s1.fh h1).sq,q _ F' H' s1 (zf2 (sq:=SqL X.K) (fun e h=>e.seq h) h1.sq h2)⟩⟩
 | _=>cases ht
theorem zg5:∀ (xs ys:List T),(ycm xs ys).length=min xs.length ys.length
 | [],_=>by simp [ycm]
 | _::_,[]=>by simp [ycm]
 | x::xs,y::ys=>by simp only [ycm,List.length_cons,zg5 xs ys];omega
theorem zp0:∀ {xs ys:List T} {i:Nat} {t:T},(ycm xs ys)[i]?=some t->∃ x y,xs[i]?=some x/\ys[i]?=some y/\t=.tup [x,y]
 | [],_,_,_,h=>by simp [ycm] at h
 | _::_,[],_,_,h=>by simp [ycm] at h
 | x::xs,y::ys,0,t,h=>by simp [ycm] at h;exact ⟨x,y,rfl,rfl,h.symm⟩
 | x::xs,y::ys,i+1,t,h=>by simp only [ycm,xgs] at h;obtain ⟨u,v,h1,h2,h3⟩:=zp0 h;exact ⟨u,v,by simpa using h1,by simpa using h2,h3⟩
theorem zp2 {F:Hp} {t:T} {v:V} (h:ye2 t=some ts) (r:Rep K F t v):∃ b l vs,v=.ref l/\Reps K F ts vs/\∀ H,Same F H->SqB b K H l vs:=by
 cases t with
 | tup us=>cases h;obtain ⟨l,vs,rfl,h1,h2⟩:=r;exact ⟨true,l,vs,rfl,h2,fun H sm=>zai sm h1⟩
 | lst us=>cases h;obtain ⟨l,vs,rfl,h1,h2⟩:=r;exact ⟨false,l,vs,rfl,h2,fun H sm=>(Ls.same sm h1).sq⟩
 | _=>cases h
theorem znm {b1 b2:Bool} {l1 l2:Addr} {ws:List V} {xs ys:List T} (q1:∀ H,Same F' H->SqB b1 K H l1 vs) (q2:∀ H,Same F' H->SqB b2 K H l2 ws) (h1:Reps K F' xs vs) (h2:Reps K F' ys ws):Walk K (Itz K b1 b2 l1 l2) (ycm xs ys) F' where
 go:=fun i H hi sm=>by rw [zg5] at hi;obtain ⟨v,hv,_⟩:=h1.get (zx6 (show i<xs.length by omega));obtain ⟨u,hu,_⟩:=h2.get (zx6 (show i<ys.length by omega));exact ⟨vs,ws,v,u,q1 H sm,q2 H sm,hv,hu⟩
 yld:=fun i H x H5 F t ht sF fh y=>by obtain ⟨p,v,u,hp,rfl,rfl,y1,y2⟩:=y;obtain ⟨a,b,ha,hb,rfl⟩:=zp0 ht;obtain ⟨va,hva,ra⟩:=h1.get ha;obtain ⟨vb,hvb,rb⟩:=h2.get hb;have e1:=y1 vs (q1 H (sF.trans fh));have e2:=y2 ws (q2 H (sF.trans fh));rw [hva] at e1;rw [hvb] at e2;cases e1;cases e2;have st:=(Step.refl fh).new (o:=.tup [v,u]) hp;exact ⟨_,st,p,_,rfl,zag,v,[u],rfl,(ra.mono sF).mono st.ff,u,[],rfl,(rb.mono sF).mono st.ff,rfl⟩
 stop:=fun H sm=>⟨vs,ws,q1 H sm,q2 H sm,by rw [zg5,h1.length,h2.length];omega⟩
theorem zux (gd:Gd X c G k) {b:Expr} {kx:Nat} {p2:Pos} {g:Env->Option T} (hg:glB c.sc "zip"=true) (ha:Oke X c a f) (hb:Oke X c b g) (hs:starEach [a,b] X.env=[(false,eval a X.env),(false,eval b X.env)]) (hs2:starEach [b] X.env=[(false,eval b X.env)]) :
  PI X (.Tuple elts kx p2) (.Call (.Name "zip" p) [a,b] [] pos) (spI X c fun r=>(f r).bind fun x=>(g r).bind fun y=>items .zip [x,y]):=by
 refine zfj (zue (gd.gl _ hg) (gd.nob _ (by decide +kernel)) (zhh ha (zb4 hb hs2) (by rw [hs,hs2])) hs hs2) fun σ H R q=>?_;obtain ⟨r,F,ts,e,ht,q⟩:=q;obtain ⟨t1,e1,ht⟩:=obs ht;obtain ⟨t2,e2,ht⟩:=obs ht;refine ⟨r,F,[t1,t2],e,Option.bind_eq_some_iff.mpr ⟨t1,e1,Option.bind_eq_some_iff.mpr ⟨[t2],Option.bind_eq_some_iff.mpr ⟨t2,e2,rfl⟩,rfl⟩⟩,fun vs F' H' s1 r1=>?_⟩;obtain ⟨v,w1,rfl,r1,w,w2,rfl,r2,r3⟩:=r1;cases r3;obtain ⟨xs,x1,ht⟩:=obs ht;obtain ⟨ys,y1,ht⟩:=obs ht;cases ht;obtain ⟨b1,l1,vs1,rfl,a1,a2⟩:=zp2 x1 r1;obtain ⟨b2,l2,vs2,rfl,a3,a4⟩:=zp2 y1 r2;exact ⟨l1,l2,b1,b2,vs1,vs2,rfl,a2 H' s1.fh,a4 H' s1.fh,q _ F' H' s1 (znm a2 a4 a1 a3)⟩
def yeu:List Nat->List V->L2.St->L2.St
 | i::is,v::vs,σ=>yeu is vs (σ.set i (some v))
 | _,_,σ=>σ
def gL:List Nat->TGs
 | []=>gNil
 | i::is=>yfa (yet i) (gL is)
theorem zwa:∀ {is:List Nat} {vs:List V} {σ:L2.St} {H:Hp} {Q:L2.St->Hp->Prop},vs.length=is.length->Q (yeu is vs σ) H->gL is vs σ H Q
 | [],[],_,_,_,_,q=>⟨rfl,q⟩
 | [],_::_,_,_,_,h,_=>by simp at h
 | _::_,[],_,_,_,h,_=>by simp at h
 | i::is,v::vs,σ,H,Q,h,q=>⟨v,vs,rfl,zwa (is:=is) (by simpa using h) q⟩
structure At (X:Cx) (x:Str) (i:Nat):Prop where
 ix:X.N[i]?=some x
 loc:Loc X.env.scope x
 fn:X.fn x=true\/X.env.scope.names.lookup x=some .local
inductive Ats (X:Cx):List Str->List Nat->Prop
 | nil:Ats X [] []
 | cons {x:Str} {i:Nat} {xs:List Str} {is:List Nat}:At X x i->Ats X xs is->Ats X (x::xs) (i::is)
theorem ziq (hN:X.N.Nodup):∀ {es:List Expr} {xs:List Str} {is:List Nat},(es.mapM fun e=>match e with | .Name x _=>some x | _=>none)=some xs->Ats X xs is ->
  PGs X es (gL is)/\(assignEach es X.env).length=xs.length/\(assignEach es X.env).findIdx? (·.1)=none
 | [],xs,is,h,ha=>by
  have e:xs=[]:=by simpa using h.symm
  subst e;cases ha;exact ⟨zrz,rfl,rfl⟩
 | e::es,xs,is,h,ha=>by
  rw [List.mapM_cons] at h;obtain ⟨x,h1,h⟩:=obs h;obtain ⟨xs',h2,h⟩:=obs h;cases h;cases ha with
  | cons a1 a2 =>
   obtain ⟨q1,q2,q3⟩:=ziq hN (es:=es) h2 a2;cases e with
   | Name y pos =>
    cases h1;refine ⟨zok (zlb hN a1.ix a1.loc a1.fn) q1 rfl,?_,?_⟩
    ·show (assignEach es X.env).length+1=xs'.length+1;rw [q2]
    ·show List.findIdx? (·.1) ((false,_)::assignEach es X.env)=none;rw [List.findIdx?_cons];simp [q3]
   | _=>cases h1
def gT (K:PySem.W.Frag) (one:Bool) (is:List Nat):TG:=fun v σ H Q =>
 match one,is with
 | true,[i]=>Q (σ.set i (some v)) H
 | true,_=>False
 | false,is=>∃ a vs,v=.ref a/\SqT K H a vs/\vs.length=is.length/\Q (yeu is vs σ) H
theorem zh4:∀ {xs:List Str} {is:List Nat},Ats X xs is->xs.length=is.length
 | _,_,.nil=>rfl
 | _,_,.cons _ h=>by simp [zh4 h]
theorem zqz (hN:X.N.Nodup) (hc:X.calm=true) {xs:List Str} {is:List Nat} (h:zbx tg=some xs) (ha:Ats X xs is):PG X tg (gT X.K (!yau tg) is):=by
 cases tg with
 | Name x pos =>
  cases h;cases ha with
  | cons a1 a2 =>cases a2;exact zlb hN a1.ix a1.loc a1.fn
 | Tuple es k pos =>obtain ⟨q1,q2,q3⟩:=ziq hN h ha;intro pj s σ H v u Q I r hw;obtain ⟨a,vs,rfl,h1,h2,q⟩:=hw;exact zug hc q1 (q2.trans (zh4 ha)) q3 pj s σ H _ u Q I r ⟨a,vs,rfl,h1,h2,zwa h2 q⟩
 | _=>cases h
end
section
variable {M:Program} {W:World} {A:Around} {E:Value->Shared->Prop}
end
section
variable {X:Cx}
end
end
section
theorem zba:∀ {l:List Str} {x:Str} {i:Nat},yam l x=some i->l[i]?=some x
 | [],_,_,h=>by cases h
 | y::r,x,i,h=>by
  unfold yam at h;split at h
  ·rename_i e;cases h;rw [eq_of_beq e];rfl
  ·obtain ⟨j,hj,rfl⟩:=oms h;simpa using zba hj
theorem ze1:∀ {l r:List Str} {x:Str} {i:Nat},yam (l++r) x=some i->(yam l x=some i/\i<l.length)\/(x∉l/\l.length<=i/\yam r x=some (i-l.length))
 | [],r,x,i,h=>.inr ⟨by simp,Nat.zero_le _,by simpa using h⟩
 | y::l,r,x,i,h=>by
  rw [List.cons_append,yam] at h;split at h
  ·rename_i e;cases h;left;rw [yam,if_pos e];exact ⟨rfl,by simp⟩
  ·rename_i e;obtain ⟨j,hj,rfl⟩:=oms h;rcases ze1 hj with ⟨h1,h2⟩ | ⟨h1,h2,h3⟩
   ·left;rw [yam,if_neg e,h1];exact ⟨rfl,by simpa using h2⟩
   ·right;refine ⟨fun z=>?_,by simpa using h2,?_⟩
    ·rcases omc z with q | q
     ·exact e (by rw [q];exact beq_self_eq_true _)
     ·exact h1 q
    ·rw [h3,zyq,show j+1-(l.length+1)=j-l.length by omega]
theorem zgg:∀ {xs:List Str},ycd xs=true->xs.Nodup
 | [],_=>List.nodup_nil
 | x::r,h=>by simp only [ycd,Bool.and_eq_true,Bool.not_eq_true'] at h;refine List.nodup_cons.mpr ⟨fun z=>?_,zgg h.2⟩;have:=h.1;rw [List.contains_iff_mem.mpr z] at this;cases this
structure CsB (out sc:Scope) (xs:List Str):Prop where
 kind:sc.kind=.function
 nd:xs.Nodup
 own:∀ x∈xs,zac x=true/\(sc.names.lookup x=some .local\/sc.names.lookup x=some .cell)
 free:∀ y∈sc.names,y.2=.free->sc.names.lookup y.1=some .free/\(out.names.lookup y.1=some .cell\/out.names.lookup y.1=some .free)
 loc:∀ y∈sc.names,y.2=.local->sc.names.lookup y.1=some .local/\(y.1∈xs\/y.1=".0")
 cel:∀ y∈sc.names,y.2=.cell->sc.names.lookup y.1=some .cell/\y.1∈xs
theorem zwk {out sc:Scope} {xs:List Str} (h:zcp out sc xs=true):CsB out sc xs:=by
 simp only [zcp,Bool.and_eq_true] at h;obtain ⟨⟨⟨h1,h2⟩,h3⟩,h4⟩:=h;have all:=oml h4;refine ⟨by simpa using h1,zgg h2,fun x hx=>?_,fun y hy e=>?_,fun y hy e=>?_,fun y hy e=>?_⟩
 ·have:=oml h3 x hx;simp only [Bool.and_eq_true,Bool.or_eq_true,beq_iff_eq] at this;exact this
 ·have:=all y hy;rw [e] at this;simp only [Bool.and_eq_true,Bool.or_eq_true,beq_iff_eq] at this;exact this
 ·have:=all y hy;rw [e] at this;simp only [Bool.and_eq_true,Bool.or_eq_true,beq_iff_eq] at this;exact ⟨this.1,this.2.imp (fun z=>List.contains_iff_mem.mp z) id⟩
 ·have:=all y hy;rw [e] at this;simp only [Bool.and_eq_true,beq_iff_eq] at this;exact ⟨this.1,List.contains_iff_mem.mp this.2⟩
section
variable {X:Cx} {c:Tc} {G:Glo} {k:Nat} {scope:Scope} {xs:List Str} {pj:List (Addr × Obj)} {fp:List Addr} {s₃:Shared} {H₃:Hp}
theorem CsB.sc (S:CsB c.sc scope xs) (gd:Gd X c G k):CompSc X scope xs :=
 ⟨S.kind,S.nd,fun x hx=>(S.own x hx).2,fun y hy e=>⟨(S.free y hy e).1,gd.cap y.1 (S.free y hy e).2⟩,fun y hy e=>(S.loc y hy e).1,fun y hy e=>(S.cel y hy e).1⟩
theorem ztc {N:List Str} (h:N.Nodup):(yce scope N).Nodup:=h.sublist List.filter_sublist
theorem zwp (S:CsB c.sc scope xs) (gd:Gd X c G k):(xs++yce scope X.N).Nodup:=by
 refine List.nodup_append.mpr ⟨S.nd,ztc gd.nd,fun x hx y hy e=>?_⟩;subst e;have h1:=(S.own x hx).2;have h2:scope.names.lookup x=some .free:=by have:=(List.mem_filter.mp hy).2;simpa using this
 rw [h2] at h1;rcases h1 with z | z<;>cases z
theorem zwq (S:CsB c.sc scope xs) (gd:Gd X c G k):Gd (blk X pj scope xs fp s₃ H₃) ⟨scope,xs++c.nm⟩ G k where
 room:=gd.room
 calm:=gd.calm
 nob:=gd.nob
 call:=gd.call
 con:=gd.con
 vis:=fun x h=>by
  show (blk X pj scope xs fp s₃ H₃).env.scope.names.lookup x=_\/(blk X pj scope xs fp s₃ H₃).env.scope.names.lookup x=_\/(blk X pj scope xs fp s₃ H₃).env.scope.names.lookup x=_;rw [zcj];have h:ybu scope x=true:=h;unfold ybu at h;cases e:scope.names.lookup x with
  | none=>rw [e] at h;cases h
  | some q =>
   rw [e] at h;cases q with
   | «local»=>exact .inl rfl
   | cell=>exact .inr (.inl rfl)
   | free =>
    dsimp only;split
    ·exact .inr (.inl rfl)
    ·exact .inr (.inr rfl)
   | _=>cases h
 gl:=fun x h=>by
  show (blk X pj scope xs fp s₃ H₃).env.scope.names.lookup x=_;rw [zcj];have h:scope.names.lookup x=some .globalImplicit:=by simpa [glB] using h
  rw [h]
 cap:=fun x h=>by
  show (blk X pj scope xs fp s₃ H₃).env.scope.names.lookup x=_\/(blk X pj scope xs fp s₃ H₃).env.scope.names.lookup x=_;rw [zcj];have h:scope.names.lookup x=some .cell\/scope.names.lookup x=some .free:=h;rcases h with h | h<;>rw [h]
  ·exact .inl rfl
  ·dsimp only;split
   ·exact .inl rfl
   ·exact .inr rfl
 nd:=zwp S gd
theorem zm8 (S:CsB c.sc scope xs):∀ (l:List Str) (n:Nat),(∀ (j:Nat) (x:Str),l[j]?=some x->xs[n+j]?=some x)->Ats (blk X pj scope xs fp s₃ H₃) l (List.range' n l.length)
 | [],_,_=>.nil
 | x::l,n,h=>by
  have h0:xs[n]?=some x:=by simpa using h 0 x rfl
  have hx:x∈xs:=zy8 h0;have own:=(S.own x hx).2;have hn:n<xs.length:=(ome h0).1;rw [zyq,List.range'_succ];refine .cons ⟨?_,?_,?_⟩ (zm8 S l (n+1) fun j y e=>by have:=h (j+1) y (by simpa using e);rwa [show n+(j+1)=n+1+j by omega] at this)
  ·show (xs++yce scope X.N)[n]?=some x;rw [zy4 hn];exact h0
  ·show (blk X pj scope xs fp s₃ H₃).env.scope.names.lookup x=_\/(blk X pj scope xs fp s₃ H₃).env.scope.names.lookup x=_;rw [zcj];rcases own with e | e<;>rw [e]
   ·exact .inl rfl
   ·exact .inr rfl
  ·rcases own with e | e
   ·right;rw [zcj,e]
   ·left;show (scope.names.lookup x==some .cell)=true;rw [e];rfl
theorem ztd (S:CsB c.sc scope xs) {r:Env} {F:Hp} {σ:L2.St} {H Hc:Hp} (e:EnvE X c r F σ H) (hl:σ.length=X.N.length) {ts:List T} {vs:List V} (ht:ts.length=xs.length) (rv:Reps X.K F ts vs) (fh:Same F Hc) (tb:Tbk X.K F Hc) :
  EnvE (blk X pj scope xs fp s₃ H₃) ⟨scope,xs++c.nm⟩ (ts.map some++r) F (vs.map some++yca scope X.N σ) Hc where
 fh:=fh
 tb:=tb
 get:=fun x i t hpn hi hv hr=>by
  have hvl:vs.length=xs.length:=by rw [rv.length,ht]
  have hv:ybu scope x=true:=hv;rcases ze1 (show yam (xs++c.nm) x=some i from hi) with ⟨h1,h2⟩ | ⟨h1,h2,h3⟩
  ·have hi':i<ts.length:=by omega
   rw [List.getElem?_append_left (by simpa using hi'),List.getElem?_map] at hr;obtain ⟨t',ht',e'⟩:=oms hr;cases e';obtain ⟨v,hv1,hv2⟩:=rv.get ht';refine ⟨i,v,?_,?_,hv2⟩
   ·show (xs++yce scope X.N)[i]?=some x;rw [zy4 h2];exact zba h1
   ·rw [List.getElem?_append_left (by simp;omega),List.getElem?_map,hv1];rfl
  ·rw [List.getElem?_append_right (by simp;omega)] at hr;have hr':r[i-xs.length]?=some (some t):=by simpa [ht] using hr
   have hfree:scope.names.lookup x=some .free:=by
    unfold ybu at hv;cases q:scope.names.lookup x with
    | none=>rw [q] at hv;cases hv
    | some kd =>
     rw [q] at hv;cases kd with
     | free=>rfl
     | «local» =>
      have:=(S.loc _ (zb0 q) rfl).2;rcases this with z | z
      ·exact absurd z h1
      ·rw [show x=".0" from z] at hpn;exact absurd hpn (by decide +kernel)
     | cell=>exact absurd (S.cel _ (zb0 q) rfl).2 h1
     | _=>cases hv
   have hout:ybu c.sc x=true:=by rcases (S.free _ (zb0 hfree) rfl).2 with z | z<;>simp [ybu,z]
   obtain ⟨j,v,g1,g2,g3⟩:=e.get x (i-xs.length) t hpn h3 hout hr';obtain ⟨m,m1,m2⟩:=zm5 scope hfree X.N σ hl g1 g2;refine ⟨xs.length+m,v,?_,?_,g3⟩
   ·show (xs++yce scope X.N)[xs.length+m]?=some x;rw [zy7 (by omega)];simpa using m1
   ·rw [List.getElem?_append_right (by simp;omega)];simpa [hvl] using m2
end
end
section
theorem zew:∀ (vs:List V) (front pre rest:L2.St),pre.length=vs.length->yeu (List.range' front.length vs.length) vs (front++pre++rest)=front++vs.map some++rest
 | [],front,pre,rest,h=>by
  cases pre with
  | nil=>simp [yeu]
  | cons _ _=>simp at h
 | v::vs,front,pre,rest,h=>by
  cases pre with
  | nil=>simp at h
  | cons p pre =>
   rw [zyq,List.range'_succ,yeu];have e:(front++(p::pre)++rest).set front.length (some v)=(front++[some v])++pre++rest:=by rw [zzb,List.set_append,if_neg (zy9 _)];simp
   have e2:(front++[some v]).length=front.length+1:=by simp
   rw [e,<- e2,zew vs (front++[some v]) pre rest (by simpa using h)];simp
def spC (X:Cx) (c:Tc) (fc:Env->Option Bool):TT:=fun σ H Q=>∃ r F b,EnvE X c r F σ H/\fc r=some b/\∀ F' H',Step F H F' H'->Q b H'
def elM (n:Nat) (r:Env) (fc:Env->Option Bool) (fe:Env->Option T):T->Option (Option T):=fun x=>(bnd n x r).bind fun r'=>(fc r').bind fun b=>if b=true then (fe r').map some else some none
section
variable {X:Cx} {c:Tc} {G:Glo} {k:Nat} {scope:Scope} {xs:List Str}
theorem zgv {elt iter tg:Expr} {ifs:List Expr} {pos:Pos} {fe:Env->Option T} {fc:Env->Option Bool} (gd:Gd X c G k) (S:CsB c.sc scope xs) (htg:zbx tg=some xs) (h2n:yau tg=true->2<=xs.length)
  (he:∀ pj fp s₃ H₃,Gd (blk X pj scope xs fp s₃ H₃) ⟨scope,xs++c.nm⟩ G k->Oke (blk X pj scope xs fp s₃ H₃) ⟨scope,xs++c.nm⟩ elt fe)
  (hi:∀ pj fp s₃ H₃,Gd (blk X pj scope xs fp s₃ H₃) ⟨scope,xs++c.nm⟩ G k->∀ (pn:List (Addr × Obj)) (s:Shared) (σ:L2.St) (H:Hp) (Q:Bool->Hp->Prop),L2.Inv (blk X pj scope xs fp s₃ H₃) pn σ H s->spC (blk X pj scope xs fp s₃ H₃) ⟨scope,xs++c.nm⟩ fc σ H Q ->
   wpAny (model X.prog X.w) X.A (forIn ifs true fun c r=>if r=true then do let ok <- isTrue c (blk X pj scope xs fp s₃ H₃).env (eval c (blk X pj scope xs fp s₃ H₃).env);pure (ForInStep.yield ok) else pure (ForInStep.yield r)) (TP (blk X pj scope xs fp s₃ H₃) pn σ Q) (fun _ _=>False) s)
  {pj:List (Addr × Obj)} {fp:List Addr} {σ:L2.St} {H2 F2:Hp} {s2:Shared} {J:It} {it:Addr} {tn:Nat->Heap->Prop} {E:Value->Shared->Prop} {ts total:List T} {r:Env}
  (I2:L2.Inv X pj σ H2 s2) (Tn:Turn X.prog X.w X.K tg J fp it tn) (st2:tn 0 s2.heap) (f2:∀ b∈fp,ycj X pj H2 b) (wk:Walk X.K J ts F2) (e2:EnvE X c r F2 σ H2) (hts:ts.length<=SZ) (hcm:yao (elM xs.length r fc fe) ts=some total) :
  wpAny (model X.prog X.w) X.A (newList []) (fun acc s₃=>wpAny (model X.prog X.w) X.A (newFunctionEnv scope X.env.globals (za5 X.env scope.names []) [] X.env.qual none .none (some X.env)) (fun cenv s₄ =>
   codeAny (model X.prog X.w) X.A (.compStart (.ListComp elt [⟨tg,iter,ifs,0⟩] scope pos) 0 (.ref it) acc { cenv with scope:=relabel scope X.env })
    (fun r s'=>r=.ok .next/\∃ D H',acc=.ref D/\L2.Inv X pj σ H' s'/\ycj X pj H' cenv.locals/\(∃ m,s'.heap.Ns cenv.locals m) /\
     ∃ F vs,Step F2 H2 F H'/\F D=none/\H2 D=none/\H' D=some (.lst vs)/\Reps X.K F total vs) s₄) E s₃) E s2:=by
 have hl:σ.length=X.N.length:=I2.len;have gb:∀ s₃ H₃,Gd (blk X pj scope xs fp s₃ H₃) ⟨scope,xs++c.nm⟩ G k:=fun s₃ H₃=>zwq S gd;have hat:∀ s₃ H₃,Ats (blk X pj scope xs fp s₃ H₃) xs (List.range' 0 xs.length):=fun s₃ H₃=>zm8 S xs 0 fun j x e=>by rw [Nat.zero_add];exact e
 refine zph (g:=fun _ _=>gT X.K (!yau tg) (List.range' 0 xs.length)) (tc:=fun s₃ H₃=>spC (blk X pj scope xs fp s₃ H₃) ⟨scope,xs++c.nm⟩ fc) (te:=fun s₃ H₃=>spE (blk X pj scope xs fp s₃ H₃) ⟨scope,xs++c.nm⟩ fe)
  gd.calm (S.sc gd) I2 Tn st2 f2 (fun s₃ H₃ _=>zqz (X:=blk X pj scope xs fp s₃ H₃) (gb s₃ H₃).nd gd.calm htg (hat s₃ H₃)) (fun s₃ H₃ _=>hi pj fp s₃ H₃ (gb s₃ H₃)) (fun s₃ H₃ _=>he pj fp s₃ H₃ (gb s₃ H₃))
  (fun D i m σ' H'=>i<=ts.length/\m=ts.length-i/\(∃ pre:L2.St,σ'=pre++yca scope X.N σ/\pre.length=xs.length)/\∃ F vs rs rest,Step F2 H2 F H'/\F D=none/\H2 D=none/\H' D=some (.lst vs)/\Reps X.K F rs vs/\vs.length<=i/\yao (elM xs.length r fc fe) (ts.drop i)=some rest/\rs++rest=total)
  (fun D H'=>∃ F vs,Step F2 H2 F H'/\F D=none/\H2 D=none/\H' D=some (.lst vs)/\Reps X.K F total vs) ?_ ?_
 ·intro D hD;exact ⟨ts.length,Nat.zero_le _,rfl,⟨_,rfl,by simp⟩,F2,[],[],total,(Step.refl e2.fh).newH hD,e2.fh.free hD,hD,zag,rfl,Nat.le_refl _,hcm,rfl⟩
 ·rintro s₃ H₃ D i m σ' H' BOk ⟨hi1,rfl,⟨pre,rfl,hpre⟩,F,vs,rs,rest,st,hF,hH2,hH',hrs,hvl,hcr,htot⟩;have sm:Same F2 H':=st.ff.trans st.fh;by_cases hlt:i<ts.length
  ·right;have hti:ts[i]?=some ts[i]:=zx6 hlt;generalize hT:ts[i]=t at hti;rw [List.drop_eq_getElem_cons hlt,hT,yao] at hcr;obtain ⟨o,ho,hcr⟩:=obs hcr;obtain ⟨rest',hr',hcr⟩:=obs hcr;obtain ⟨r',hb,ho⟩:=obs (show (bnd xs.length t r).bind _=some o from ho);obtain ⟨bb,hfc,ho⟩:=obs ho;refine ⟨wk.go i H' hlt sm,fun σ'' H''=>i+1<=ts.length/\(∃ pre:L2.St,σ''=pre++yca scope X.N σ/\pre.length=xs.length)/\∃ F vs rs rest,Step F2 H2 F H''/\F D=none/\H2 D=none/\H'' D=some (.lst vs)/\Reps X.K F rs vs/\vs.length<=i+1/\yao (elM xs.length r fc fe) (ts.drop (i+1))=some rest/\rs++rest=total,?_,?_⟩
   ·rintro σ'' H'' ⟨a1,a2,a3⟩;exact ⟨ts.length-(i+1),by omega,a1,rfl,a2,a3⟩
   ·intro x H5 y;obtain ⟨F5,st5,r5⟩:=wk.yld i H' x H5 F t hti st.ff st.fh y;have cont:∀ (us:List T) (ws:List V),us.length=xs.length->Reps X.K F5 us ws->r'=us.map some++r->(spC (blk X pj scope xs fp s₃ H₃) ⟨scope,xs++c.nm⟩ fc) (ws.map some++yca scope X.N σ) H5 fun ok H7=>if ok=true then (spE (blk X pj scope xs fp s₃ H₃) ⟨scope,xs++c.nm⟩ fe) (ws.map some++yca scope X.N σ) H7 fun y H8=>∃ ys,H8 D=some (.lst ys)/\ys.length<sizeLine /\
      (i+1<=ts.length/\(∃ pre:L2.St,ws.map some++yca scope X.N σ=pre++yca scope X.N σ/\pre.length=xs.length)/\∃ F vs rs rest,Step F2 H2 F (upd H8 D (.lst (ys++[y])))/\F D=none/\H2 D=none/\upd H8 D (.lst (ys++[y])) D=some (.lst vs)/\Reps X.K F rs vs/\vs.length<=i+1/\yao (elM xs.length r fc fe) (ts.drop (i+1))=some rest/\rs++rest=total)
      else (i+1<=ts.length/\(∃ pre:L2.St,ws.map some++yca scope X.N σ=pre++yca scope X.N σ/\pre.length=xs.length)/\∃ F vs rs rest,Step F2 H2 F H7/\F D=none/\H2 D=none/\H7 D=some (.lst vs)/\Reps X.K F rs vs/\vs.length<=i+1/\yao (elM xs.length r fc fe) (ts.drop (i+1))=some rest/\rs++rest=total):=by
     intro us ws hul hrw hrr;have hwl:(ws.map some:L2.St).length=xs.length:=by rw [zya,hrw.length,hul]
     have e5:=ztd (pj:=pj) (fp:=fp) (s₃:=s₃) (H₃:=H₃) S (e2.step (st.trans st5)) hl hul hrw st5.fh (e2.tb.up (st.trans st5));rw [<- hrr] at e5;refine ⟨r',F5,bb,e5,hfc,fun F7 H7 s7=>?_⟩;have st7:=st5.trans s7;have hD7:H7 D=some (.lst vs):=st7.hh.st D _ hH' rfl;have nD:∀ {F8 H8:Hp},Step F H' F8 H8->F8 D=none:=fun {F8 H8} s8=>by
      cases q:F8 D with
      | none=>rfl
      | some o =>
       rcases s8.nw D (by rw [q];simp) with z | z | ⟨_,z⟩
       ·exact absurd hF z
       ·rw [hH'] at z;cases z
       ·rw [hH'] at z;cases z
     cases bb with
     | false =>dsimp only at ho ⊢;rw [if_neg zyg] at ho ⊢;cases ho;cases hcr;exact ⟨hlt,⟨_,rfl,hwl⟩,F7,vs,rs,_,st.trans st7,nD st7,hH2,hD7,hrs.mono st7.ff,by omega,hr',htot⟩
     | true =>
      dsimp only at ho ⊢;rw [if_pos rfl] at ho ⊢;obtain ⟨yt,hye,rfl⟩:=oms ho;cases hcr;refine ⟨r',F7,yt,e5.step s7,hye,fun v F8 H8 s8 r8=>?_⟩;have st8:=st7.trans s8;have S8:=st.trans st8;have hF8:=nD st8;refine ⟨vs,st8.hh.st D _ hH' rfl,?_,hlt,⟨_,rfl,hwl⟩,F8,vs++[v],rs++[yt],_,⟨S8.hh.upd hH2 (st8.hh.st D _ hH' rfl) rfl (fun _ _ z=>nomatch z),S8.ff,fun b o q=>?_,S8.nw⟩,hF8,hH2,zag,(hrs.mono st8.ff).app ⟨v,[],rfl,r8,rfl⟩,by simp;omega,hr',by rw [List.append_assoc];exact htot⟩
      ·rw [<- zeq];omega
      ·rw [zad (zae q hF8)];exact S8.fh b o q
    cases htup:yau tg with
    | false =>
     have hx1:∃ z,xs=[z]:=by
      cases tg with
      | Name z p=>cases htg;exact ⟨z,rfl⟩
      | Tuple _ _ _=>cases htup
      | _=>cases htg
     obtain ⟨z,rfl⟩:=hx1;have hb':some (some t::r)=some r':=hb;cases hb';obtain ⟨p0,rfl⟩:∃ p0,pre=[p0]:=by
      cases pre with
      | nil=>simp at hpre
      | cons p0 q=>cases q with
       | nil=>exact ⟨p0,rfl⟩
       | cons _ _=>simp at hpre
     exact cont [t] [x] rfl ⟨x,[],rfl,r5,rfl⟩ rfl
    | true =>
     have hn2:=h2n htup;unfold bnd at hb;rw [if_neg (by omega)] at hb;cases t with
     | tup us =>
      simp only at hb;split at hb
      ·rename_i hul;cases hb;obtain ⟨a,ws,rfl,q1,q2⟩:=r5;refine ⟨a,ws,rfl,zai st5.fh q1,by rw [List.length_range',q2.length,hul],?_⟩;have es:=zew ws [] pre (yca scope X.N σ) (by rw [hpre,q2.length,hul]);rw [q2.length,hul] at es;simp only [List.length_nil,List.nil_append] at es;rw [es];exact cont us ws hul q2 rfl
      ·cases hb
     | _=>cases hb
  ·left;have hie:i=ts.length:=by omega
   subst hie;rw [List.drop_length] at hcr;cases hcr;rw [zyh] at htot;subst htot;exact ⟨wk.stop H' sm,F,vs,st,hF,hH2,hH',hrs⟩
end
end
section
section
variable {X:Cx} {c:Tc} {G:Glo} {k:Nat} {scope:Scope} {xs:List Str}
theorem zib {F H F2 H2 F3 H':Hp} {D:Addr} {vs:List V} (a:Step F H F2 H2) (b:Step F2 H2 F3 H') (h1:F3 D=none) (h2:H2 D=none) (h3:H' D=some (.lst vs)):Step F H (upd F3 D (.lst vs)) H' :=
 have S:=a.trans b
 ⟨S.hh,S.ff.trans (zbh h1),fun x o q=>by
  by_cases hx:x=D
  ·subst hx;rw [zag] at q;cases q;exact h3
  ·rw [zad hx] at q;exact S.fh x o q,fun x z=>by
  by_cases hx:x=D
  ·subst hx;exact .inr (.inl (a.hh.free h2))
  ·rw [zad hx] at z;exact S.nw x z⟩
def ycg (xs:List Str) (fi:Env->Option (List T)) (fc:Env->Option Bool) (fe:Env->Option T):Env->Option T :=
 fun r=>((fi r).bind fun qc=>if qc.length<=SZ then some qc else none).bind fun qc=>(yao (elM xs.length r fc fe) qc).map .lst
variable {elt iter tg:Expr} {ifs:List Expr} {pos:Pos} {fe:Env->Option T} {fc:Env->Option Bool} {fi:Env->Option (List T)}
theorem zgw {r:Env} {t:T} (h:ycg xs fi fc fe r=some t):∃ qc total,fi r=some qc/\qc.length<=SZ/\yao (elM xs.length r fc fe) qc=some total/\t=.lst total:=by
 unfold ycg at h;obtain ⟨qc,h1,h⟩:=obs h;obtain ⟨its',h2,h1⟩:=obs h1;split at h1
 ·rename_i hz;cases h1;obtain ⟨total,h3,rfl⟩:=oms h;exact ⟨qc,total,h2,hz,h3,rfl⟩
 ·cases h1
theorem zhi (gd:Gd X c G k) (S:CsB c.sc scope xs) (htg:zbx tg=some xs) (h2n:yau tg=true->2<=xs.length)
  (he:∀ pj fp s₃ H₃,Gd (blk X pj scope xs fp s₃ H₃) ⟨scope,xs++c.nm⟩ G k->Oke (blk X pj scope xs fp s₃ H₃) ⟨scope,xs++c.nm⟩ elt fe)
  (hi:∀ pj fp s₃ H₃,Gd (blk X pj scope xs fp s₃ H₃) ⟨scope,xs++c.nm⟩ G k->∀ (pn:List (Addr × Obj)) (s:Shared) (σ:L2.St) (H:Hp) (Q:Bool->Hp->Prop),L2.Inv (blk X pj scope xs fp s₃ H₃) pn σ H s->spC (blk X pj scope xs fp s₃ H₃) ⟨scope,xs++c.nm⟩ fc σ H Q ->
   wpAny (model X.prog X.w) X.A (forIn ifs true fun c r=>if r=true then do let ok <- isTrue c (blk X pj scope xs fp s₃ H₃).env (eval c (blk X pj scope xs fp s₃ H₃).env);pure (ForInStep.yield ok) else pure (ForInStep.yield r)) (TP (blk X pj scope xs fp s₃ H₃) pn σ Q) (fun _ _=>False) s)
  (hit:PI X tg iter (spI X c fi)) (hfs:∀ x,foldedSetIterable iter X.env x=pure x):Oke X c (.ListComp elt [⟨tg,iter,ifs,0⟩] scope pos) (ycg xs fi fc fe):=by
 intro pj s σ H Q I q;obtain ⟨r,F,t,e,ht,q⟩:=q;obtain ⟨qc,total,hf,hz,hcm,rfl⟩:=zgw ht;rw [eval_ListComp];refine wpAny_comprehension_free (use:=none) rfl hfs (zda ((S.sc gd).has I.ok)) S.kind (fun y hy e=>(S.loc y hy e).1)
  (thn (hit pj s σ H (fun J H'=>∃ F',Step F H F' H'/\Walk X.K J qc F') I ⟨r,F,qc,e,hf,fun J F' H' s1 wk=>⟨F',s1,wk⟩⟩) fun v s1 h1=>thn h1 fun itv s2 h2=>?_)
 obtain ⟨it,fp,tn,J,H2,rfl,I2,T,st2,f2,F2,s12,wk⟩:=h2;refine thn (zgv (E:=X.xe) gd S htg h2n he hi I2 T st2 f2 wk (e.step s12) hz hcm) fun acc s3 h3=>thn h3 fun cenv s4 h4=>codeAny_mono h4 fun res s' hres=>?_;obtain ⟨rfl,D,H',rfl,I',fC,⟨m,hm⟩,F3,vs,st3,d1,d2,d3,d4⟩:=hres;refine ⟨m,hm,fun h' hsb=>⟨.ref D,H',I'.turned (t':=s'.toks) (fun b o hb q=>(hsb.2 b hb).trans q) fC.1 fC.2.1 fC.2.2.2.1 fC.2.2.2.2.1 fC.2.2.2.2.2,rfl,?_⟩⟩;have S3:=zib s12 st3 d1 d2 d3;exact q _ _ _ S3 ⟨D,vs,rfl,Ls.of zag,d4.mono (zbh d1)⟩
def ye0 (X:Cx) (c:Tc) (i:Nat) (f:Env->Option T):TS:=fun D σ H=>∃ r F t,EnvE X c r F σ H/\f r=some t/\∀ v F' H',Step F H F' H'->Rep X.K F' t v->D.nx (σ.set i (some v)) H'
theorem ze0 (gd:Gd X c G k) (S:CsB c.sc scope xs) (htg:zbx tg=some xs) (h2n:yau tg=true->2<=xs.length)
  (he:∀ pj fp s₃ H₃,Gd (blk X pj scope xs fp s₃ H₃) ⟨scope,xs++c.nm⟩ G k->Oke (blk X pj scope xs fp s₃ H₃) ⟨scope,xs++c.nm⟩ elt fe)
  (hi:∀ pj fp s₃ H₃,Gd (blk X pj scope xs fp s₃ H₃) ⟨scope,xs++c.nm⟩ G k->∀ (pn:List (Addr × Obj)) (s:Shared) (σ:L2.St) (H:Hp) (Q:Bool->Hp->Prop),L2.Inv (blk X pj scope xs fp s₃ H₃) pn σ H s->spC (blk X pj scope xs fp s₃ H₃) ⟨scope,xs++c.nm⟩ fc σ H Q ->
   wpAny (model X.prog X.w) X.A (forIn ifs true fun c r=>if r=true then do let ok <- isTrue c (blk X pj scope xs fp s₃ H₃).env (eval c (blk X pj scope xs fp s₃ H₃).env);pure (ForInStep.yield ok) else pure (ForInStep.yield r)) (TP (blk X pj scope xs fp s₃ H₃) pn σ Q) (fun _ _=>False) s)
  (hit:PI X tg iter (spI X c fi)) (hfs:∀ x,foldedSetIterable iter X.env x=pure x) {y:Str} {py spos:Pos} {i:Nat} (hy:At X y i):PS X (.Assign [.Name y py] (.ListComp elt [⟨tg,iter,ifs,0⟩] scope pos) spos) (ye0 X c i (ycg xs fi fc fe)):=by
 obtain ⟨b,hb⟩:∃ b:Bool,swapsWith (.ListComp elt [⟨tg,iter,ifs,0⟩] scope pos) (some (.Name y py)) spos.line X.env=pure b:=⟨_,rfl⟩;cases b with
 | false =>refine zdf (zih gd.nd hy.ix hy.loc (zhi gd S htg h2n he hi hit hfs) hb hy.fn) fun D σ H q=>?_;exact q
 | true =>
  intro pj s σ H Dn I q;obtain ⟨r,F,t,e,ht,q⟩:=q;obtain ⟨qc,total,hf,hz,hcm,rfl⟩:=zgw ht;rw [exec_Assign_Name_used _ _ _ _ hb];refine zx1 (wpAny_standAt (zx1 ?_));show wpAny _ X.A (do let _ <- comprehension (.ListComp elt [⟨tg,iter,ifs,0⟩] scope pos) scope X.env _ (newList []) false (eval iter X.env) (some (assign (.Name y py) X.env))) _ _ s;refine zx1 (zzi (wpAny_comprehension_free (use:=some (assign (.Name y py) X.env)) (Q:=fun _ s'=>SP X pj Dn .next s') rfl hfs (zda ((S.sc gd).has I.ok)) S.kind (fun y hy e=>(S.loc y hy e).1)
   (thn (hit pj s σ H (fun J H'=>∃ F',Step F H F' H'/\Walk X.K J qc F') I ⟨r,F,qc,e,hf,fun J F' H' s1 wk=>⟨F',s1,wk⟩⟩) fun v s1 h1=>thn h1 fun itv s2 h2=>?_)) (fun _ s' hq=>zx5 (zx5 hq)) fun _ _ e=>e)
  obtain ⟨it,fp,tn,J,H2,rfl,I2,T,st2,f2,F2,s12,wk⟩:=h2;refine thn (zgv (E:=X.xe) gd S htg h2n he hi I2 T st2 f2 wk (e.step s12) hz hcm) fun acc s3 h3=>thn h3 fun cenv s4 h4=>codeAny_mono h4 fun res s' hres=>?_;obtain ⟨rfl,D,H',rfl,I',fC,⟨m,hm⟩,F3,vs,st3,d1,d2,d3,d4⟩:=hres;show wpAny _ X.A (assign (.Name y py) X.env (.ref D)) _ _ s';refine wpAny_assign_Name (zf8 I' gd.nd hy.ix hy.loc (v:=.ref D) (u:=.ref D) rfl (fun s'' I'' hsb=>?_) hy.fn);obtain ⟨a,hsb,ha⟩:=hsb;have hCa:cenv.locals≠a:=by
   rcases ha with z | z
   ·rw [z];exact fC.2.1
   ·exact Ne.symm (fC.2.2.2.2.1 y a z)
  refine ⟨m,hm.sameBut hsb hCa,fun h' hsb2=>⟨_,H',I''.turned (t':=s''.toks) (fun b o hb q=>(hsb2.2 b hb).trans q) fC.1 fC.2.1 fC.2.2.2.1 fC.2.2.2.2.1 fC.2.2.2.2.2,?_⟩⟩;have S3:=zib s12 st3 d1 d2 d3;exact q _ _ _ S3 ⟨D,vs,rfl,Ls.of zag,d4.mono (zbh d1)⟩
end
end
section
variable {e:Expr} {e':E}
theorem zcw {n:Nat} {c:Tc} (h:trV n c e=some e') (es:List Expr) (env:PySem.Env):starEach (e::es) env=(false,eval e env)::starEach es env:=by
 cases n with
 | zero=>cases h
 | succ n=>cases e<;>first | rfl | (cases h)
theorem zbt {n:Nat} {c:Tc} (h:trV n c e=some e') (env:PySem.Env):starEach [e] env=[(false,eval e env)]:=zcw h [] env
theorem zic {n:Nat} {c:Tc} (pos:Pos) (env:PySem.Env):∀ {es:List Expr} {xs:List E},ydd (trV n c) es=some xs->(backTo pos (starEach es env)).any (·.1)=false
 | [],_,_=>rfl
 | e::es,xs,h=>by obtain ⟨x,h1,h⟩:=obs h;obtain ⟨ys,h2,_⟩:=obs h;rw [zcw h1];have ih:=zic pos env h2;unfold backTo at ih ⊢;rw [zx4,List.any_cons,ih];rfl
theorem zoh {b:Expr} (h:yct b=false):zh6 b:=by cases b<;>first | (intro o i;rfl) | (cases h)
theorem znb {n:Nat} {c:Tc} {o:Expr} (h:trV n c o=some e') (m:Str) (env:PySem.Env) (w:Sem Value):attributeBase o m env w=w:=by
 cases n with
 | zero=>cases h
 | succ n =>
  cases o with
  | Call f args kws pos =>
   cases f with
   | Name id p =>
    cases args with
    | nil=>cases kws<;>(cases h;done)
    | cons _ _=>rfl
   | _=>rfl
  | _=>rfl
theorem zdw {G:Glo}:∀ {xs:List E} {r:Env} {ts:List T},yac G xs r=some ts->ts.length=xs.length
 | [],_,_,h=>by rw [yac] at h;cases h;rfl
 | x::xs,r,ts,h=>by rw [yac] at h;obtain ⟨t,_,h⟩:=obs h;obtain ⟨us,h2,h⟩:=obs h;cases h;simp [zdw h2]
def isBO:Expr->Bool
 | .BoolOp ..=>true
 | _=>false
structure Snd (G:Glo) (k n:Nat):Prop where
 v:∀ {X:Cx} {c:Tc} {e:Expr} {e':E},Gd X c G k->trV n c e=some e'->Oke X c e (evE G e')
 t:∀ {X:Cx} {c:Tc} {e:Expr} {e':E},Gd X c G k->trT n c e=some e'->Okt X c e (evE G e')/\(isBO e=true->Okw X c e (evE G e'))
 i:∀ {X:Cx} {c:Tc} {tg e:Expr} {ki:Ik × List E},Gd X c G k->trI n c e=some ki->(ki.1.pair=true->yau tg=true)->PI X tg e (spI X c fun r=>(yac G ki.2 r).bind fun xs=>items ki.1 xs)
section
variable {G:Glo} {k n:Nat} {X:Cx} {c:Tc}
theorem Snd.l (S:Snd G k n) (gd:Gd X c G k):∀ {es:List Expr} {xs:List E},ydd (trV n c) es=some xs->PA X es (spL X c (yac G xs))
 | [],xs,h=>by
  cases h;have e:yac G []=fun _=>some []:=by funext r;rw [yac]
  rw [e];exact zqa
 | a::es,xs,h=>by
  obtain ⟨x,h1,h⟩:=obs h;obtain ⟨ys,h2,h⟩:=obs h;cases h;have e:yac G (x::ys)=fun r=>(evE G x r).bind fun t=>(yac G ys r).bind fun ts=>some (t::ts):=by funext r;rw [yac]
  rw [e];exact zhh (S.v gd h1) (Snd.l S gd h2) (zcw h1 es X.env)
theorem Snd.o (S:Snd G k n) (gd:Gd X c G k) {e:Option Expr} {x:Option E} (h:yf7 (trV n c) e=some x):PO X e (spO X c (evO G x)):=by
 cases e with
 | none =>
  cases h;have e:evO G none=fun _=>some none:=by funext r;rw [evO]
  rw [e];exact zjx
 | some a =>
  obtain ⟨y,h1,rfl⟩:=oms h;have e:evO G (some y)=fun r=>(evE G y r).map some:=by funext r;rw [evO]
  rw [e];exact zjw (S.v gd h1)
theorem Gd.hu (gd:Gd X c G k):X.A.units+100<cLine:=by have:=gd.room.un;omega
theorem zw1 (S:Snd G k n) (gd:Gd X c G k) (h:trT (n+1) c e=some e'):Okt X c e (evE G e')/\(isBO e=true->Okw X c e (evE G e')):=by
 have tru:∀ {a:Expr} {x:E},(∀ whole,isTrue a X.env whole=(do let v <- whole;standAt a.pos;holding [v] (truthy v)))->trV n c a=some x->Okt X c a (evE G (.tru x)):=fun {a x} he h1=>by
  have e:evE G (.tru x)=fun r=>(evE G x r).bind fun t=>(ybh t).map .bl:=by funext r;rw [evE]
  rw [e];exact zwy (S.v gd h1) he
 cases e with
 | BoolOp op vs pos =>
  have key:Okw X c (.BoolOp op vs pos) (evE G e'):=by
   cases vs with
   | nil=>cases op<;>(cases h;done)
   | cons a r =>
    cases r with
    | nil =>
     cases op with
     | And=>exact zrm (S.t gd h).1
     | Or=>exact zt6 (S.t gd h).1
    | cons b r =>
     cases op with
     | And =>
      obtain ⟨x,h1,h⟩:=obs h;obtain ⟨y,h2,h⟩:=obs h;cases h;have e:evE G (.land x y)=fun r=>(evE G x r).bind fun t=>match t with | .bl true=>evE G y r | .bl false=>some (.bl false) | _=>none:=by funext r;rw [evE];try rfl
      rw [e];exact ztm (S.t gd h1).1 ((S.t gd h2).2 rfl)
     | Or =>
      obtain ⟨x,h1,h⟩:=obs h;obtain ⟨y,h2,h⟩:=obs h;cases h;have e:evE G (.lor x y)=fun r=>(evE G x r).bind fun t=>match t with | .bl true=>some (.bl true) | .bl false=>evE G y r | _=>none:=by funext r;rw [evE];try rfl
      rw [e];exact zwx (S.t gd h1).1 ((S.t gd h2).2 rfl)
  exact ⟨key.pt,fun _=>key⟩
 | UnaryOp op a pos =>
  refine ⟨?_,fun z=>by cases z⟩;cases op with
  | Not =>
   obtain ⟨x,h1,h⟩:=obs h;cases h;have e:evE G (.lnot x)=fun r=>(evE G x r).bind fun t=>match t with | .bl b=>some (.bl (!b)) | _=>none:=by funext r;rw [evE];try rfl
   rw [e];exact zwz (S.t gd h1).1
  | _=>(cases h;done)
 | Compare a ops bs pos =>
  refine ⟨?_,fun z=>by cases z⟩
  match ops,bs,h with
  | [op],[b],h =>
   obtain ⟨o,h0,h⟩:=obs h;obtain ⟨x,h1,h⟩:=obs h;obtain ⟨y,h2,h⟩:=obs h;cases h;obtain ⟨q1,q2⟩:=zp9 (X:=X) gd.hu h0;have e:evE G (.cmp o x y)=fun r=>(evE G x r).bind fun s=>(evE G y r).bind fun t=>yax o s t:=by funext r;rw [evE]
   rw [e];exact zsf q1 (S.v gd h1) (S.v gd h2) q2
  | [op,op'],[b,d],h=>(cases h;done)
  | [],_,h=>(cases h;done)
  | [_],[],h=>(cases h;done)
  | [_],_::_::_,h=>(cases h;done)
  | [_,_],[],h=>(cases h;done)
  | [_,_],[_],h=>(cases h;done)
  | [_,_],_::_::_::_,h=>(cases h;done)
  | _::_::_::_,_,h=>(cases h;done)
 | Name x pos =>refine ⟨?_,fun z=>by cases z⟩;obtain ⟨y,h1,h⟩:=obs h;cases h;exact tru (fun _=>rfl) h1
 | Call f es ks pos =>refine ⟨?_,fun z=>by cases z⟩;obtain ⟨y,h1,h⟩:=obs h;cases h;exact tru (fun _=>rfl) h1
 | Subscript a b pos =>refine ⟨?_,fun z=>by cases z⟩;obtain ⟨y,h1,h⟩:=obs h;cases h;exact tru (fun _=>rfl) h1
 | _=>(cases h;done)
theorem zw2 (S:Snd G k n) {tg:Expr} {ki:Ik × List E} (gd:Gd X c G k) (h:trI (n+1) c e=some ki) (ht:ki.1.pair=true->yau tg=true):PI X tg e (spI X c fun r=>(yac G ki.2 r).bind fun xs=>items ki.1 xs):=by
 have one:∀ (x:E) (kk:Ik),(fun r=>(yac G [x] r).bind fun xs=>items kk xs)=fun r=>(evE G x r).bind fun t=>items kk [t]:=fun x kk=>by funext r;rw [yac,yac];cases evE G x r<;>rfl
 have plain:∀ {a:Expr},((trV n c a).bind fun x=>some (Ik.plain,[x]))=some ki->PI X tg a (spI X c fun r=>(yac G ki.2 r).bind fun xs=>items ki.1 xs):=fun {a} h=>by obtain ⟨x,h1,h⟩:=obs h;cases h;rw [one];exact zsd (S.v gd h1)
 have call:∀ {f:Str} {p pos:Pos} {a:Expr},trI (n+1) c (.Call (.Name f p) [a] [] pos)=some ki->PI X tg (.Call (.Name f p) [a] [] pos) (spI X c fun r=>(yac G ki.2 r).bind fun xs=>items ki.1 xs):=fun {f p pos a} h=>by
  unfold trI at h;split at h
  ·rename_i hr;rw [zx7] at hr;have hf:=eq_of_beq hr.1;subst hf;obtain ⟨x,h1,h⟩:=obs h;cases h;rw [one];exact zop gd hr.2 (S.v gd h1) (zbt h1 X.env)
  ·split at h
   ·rename_i hr;rw [zx7] at hr;have hf:=eq_of_beq hr.1;subst hf;obtain ⟨x,h1,h⟩:=obs h;cases h;have htt:=ht rfl;cases tg with
    | Tuple es kx p2 =>rw [one];exact zse gd hr.2 (S.v gd h1) (zbt h1 X.env)
    | _=>cases htt
   ·exact plain h
 cases e with
 | Call f args kws pos =>
  cases f with
  | Name id p =>
   match args,kws,h with
   | [a],[],h=>exact call h
   | [],kws,h=>exact plain h
   | [_],_::_,h=>exact plain h
   | [a,b],[],h =>
    replace h:(if id==("zip":Str)&&glB c.sc id then (trV n c a).bind fun x=>(trV n c b).bind fun y=>some (Ik.zip,[x,y]) else (trV n c (.Call (.Name id p) [a,b] [] pos)).bind fun x=>some (Ik.plain,[x]))=some ki:=h;split at h
    ·rename_i hr;rw [zx7] at hr;obtain ⟨x,h1,g1⟩:=obs h;obtain ⟨y,h2,g2⟩:=obs g1;cases g2;have hf:=eq_of_beq hr.1;subst hf;have htt:=ht rfl;cases tg with
     | Tuple es kx p2 =>
      have two:(fun r=>(yac G [x,y] r).bind fun xs=>items Ik.zip xs)=fun r=>(evE G x r).bind fun s=>(evE G y r).bind fun t=>items Ik.zip [s,t]:=by funext r;rw [yac,yac,yac];cases evE G x r<;>cases evE G y r<;>rfl
      show PI X _ _ (spI X c fun r=>(yac G [x,y] r).bind fun xs=>items Ik.zip xs);rw [two];exact zux gd hr.2 (S.v gd h1) (S.v gd h2) (by rw [zcw h1,zbt h2]) (zbt h2 X.env)
     | _=>cases htt
    ·exact plain h
   | [_,_],_::_,h=>exact plain h
   | _::_::_::_,kws,h=>exact plain h
  | _=>exact plain h
 | _=>exact plain h
end
end
section
variable {m:Nat} {fe:Env->Option T} {scope:Scope} {pos:Pos}
section
variable {G:Glo} {k n:Nat} {X:Cx} {c:Tc}
theorem zgq {e:Expr} {ki:Ik × List E} (h:trI m c e=some ki) (env:PySem.Env):∀ x,foldedSetIterable e env x=pure x:=by
 intro x;cases e with
 | Set es k p =>
  exfalso;cases m with
  | zero=>cases h
  | succ m =>
   have h:((trV m c (.Set es k p)).bind fun x=>some (Ik.plain,[x]))=some ki:=h;cases m with
   | zero=>cases h
   | succ m=>cases h
 | _=>rfl
structure CompParts (G:Glo) (n:Nat) (c:Tc) (elt tg iter:Expr) (ifs:List Expr) (scope:Scope) (e':E) (xs:List Str) (fi:Env->Option (List T)) (fc:Env->Option Bool) (fe:Env->Option T):Prop where
 htg:zbx tg=some xs
 cs:CsB c.sc scope xs
 h2:yau tg=true->2<=xs.length
 ev:evE G e'=ycg xs fi fc fe
theorem zs8 {r:Env}:(fun x=>(bnd m x r).bind fun r'=>((some none:Option (Option T))).bind fun c=>match c with
    | none=>(fe r').map some
    | some (.bl true)=>(fe r').map some
    | some (.bl false)=>some none
    | some _=>none)=elM m r (fun _=>some true) fe:=by
 funext x;unfold elM;cases bnd m x r<;>rfl
theorem zpi {r:Env} {f1:Env->Option T}:(fun x=>(bnd m x r).bind fun r'=>((f1 r').map some).bind fun c=>match c with
    | none=>(fe r').map some
    | some (.bl true)=>(fe r').map some
    | some (.bl false)=>some none
    | some _=>none)=elM m r (fun r'=>(f1 r').bind fun t=>match t with | .bl b=>some b | _=>none) fe:=by
 funext x;unfold elM;cases bnd m x r with
 | none=>rfl
 | some r' =>
  simp only [xbs];cases f1 r' with
  | none=>rfl
  | some t=>cases t<;>first | rfl | (rename_i b;cases b<;>rfl)
theorem zje {n:Nat} {c:Tc} {elt:Expr} {gens:List Comprehension} {e':E} (h:trV (n+1) c (.ListComp elt gens scope pos)=some e') :
  ∃ tg iter ifs,gens=[⟨tg,iter,ifs,0⟩]/\∃ xs ki,zbx tg=some xs/\trI n c iter=some ki/\(zcp c.sc scope xs&&(!ki.1.pair||yau tg)&&(!yau tg||decide (2<=xs.length)))=true /\
   (match ifs with
   | []=>(trV n ⟨scope,xs++c.nm⟩ elt).bind fun x=>some (.comp x xs.length ki.1 ki.2 none)
   | [t]=>(trV n ⟨scope,xs++c.nm⟩ elt).bind fun x=>(trT n ⟨scope,xs++c.nm⟩ t).bind fun y=>some (.comp x xs.length ki.1 ki.2 (some y))
   | _=>none)=some e':=by
 match gens,h with
 | [⟨tg,iter,ifs,.ofNat 0⟩],h =>
  obtain ⟨xs,h0,h⟩:=obs (show ((zbx tg).bind fun xs=>(trI n c iter).bind fun ki=>if zcp c.sc scope xs&&(!ki.1.pair||yau tg)&&(!yau tg||decide (2<=xs.length)) then
   (match ifs with
   | []=>(trV n ⟨scope,xs++c.nm⟩ elt).bind fun x=>some (.comp x xs.length ki.1 ki.2 none)
   | [t]=>(trV n ⟨scope,xs++c.nm⟩ elt).bind fun x=>(trT n ⟨scope,xs++c.nm⟩ t).bind fun y=>some (.comp x xs.length ki.1 ki.2 (some y))
   | _=>none) else none)=some e' from h)
  obtain ⟨ki,h1,h⟩:=obs h;split at h
  ·rename_i hc;exact ⟨tg,iter,ifs,rfl,xs,ki,h0,h1,hc,h⟩
  ·cases h
 | [⟨tg,iter,ifs,.ofNat (a+1)⟩],h=>cases h
 | [⟨tg,iter,ifs,.negSucc a⟩],h=>cases h
 | [],h=>cases h
 | g1::g2::gs,h =>obtain ⟨t1,i1,f1,a1⟩:=g1;rcases a1 with (_ | _) | _<;>cases h
theorem zid (S:Snd G k n) (gd:Gd X c G k) {elt:Expr} {gens:List Comprehension} {e':E} (h:trV (n+1) c (.ListComp elt gens scope pos)=some e') :
  Oke X c (.ListComp elt gens scope pos) (evE G e')/\∀ {y:Str} {py spos:Pos} {i:Nat},At X y i->PS X (.Assign [.Name y py] (.ListComp elt gens scope pos) spos) (ye0 X c i (evE G e')):=by
 obtain ⟨tg,iter,ifs,rfl,xs,ki,h0,h1,hcs,hr⟩:=zje h;simp only [Bool.and_eq_true,Bool.or_eq_true,Bool.not_eq_true',bne_iff_ne,ne_eq,decide_eq_true_eq] at hcs;have CS:=zwk hcs.1.1;have h2n:yau tg=true->2<=xs.length:=fun z=>hcs.2.elim (fun q=>by rw [q] at z;cases z) id;have hen:ki.1.pair=true->yau tg=true:=fun z=>hcs.1.2.elim (fun q=>by rw [q] at z;cases z) id;have hit:=S.i (tg:=tg) gd h1 hen;have hfs:=zgq h1 X.env
 match ifs,hr with
 | [],hr =>
  obtain ⟨x,h3,hr⟩:=obs hr;cases hr;have he:∀ pj fp s₃ H₃,Gd (blk X pj scope xs fp s₃ H₃) ⟨scope,xs++c.nm⟩ G k->Oke (blk X pj scope xs fp s₃ H₃) ⟨scope,xs++c.nm⟩ elt (evE G x):=fun pj fp s₃ H₃ g=>S.v g h3;have hi:∀ pj fp s₃ H₃,Gd (blk X pj scope xs fp s₃ H₃) ⟨scope,xs++c.nm⟩ G k->∀ (pn:List (Addr × Obj)) (s:Shared) (σ:L2.St) (H:Hp) (Q:Bool->Hp->Prop),L2.Inv (blk X pj scope xs fp s₃ H₃) pn σ H s->spC (blk X pj scope xs fp s₃ H₃) ⟨scope,xs++c.nm⟩ (fun _=>some true) σ H Q ->
   wpAny (model X.prog X.w) X.A (forIn ([]:List Expr) true fun c r=>if r=true then do let ok <- isTrue c (blk X pj scope xs fp s₃ H₃).env (eval c (blk X pj scope xs fp s₃ H₃).env);pure (ForInStep.yield ok) else pure (ForInStep.yield r)) (TP (blk X pj scope xs fp s₃ H₃) pn σ Q) (fun _ _=>False) s:=fun pj fp s₃ H₃ g pn s σ H Q I q=>by
   obtain ⟨r,F,b,e,hb,q⟩:=q;cases hb;exact wpAny_tests_nil ⟨H,I,q F H (Step.refl e.fh)⟩
  have e:evE G (.comp x xs.length ki.1 ki.2 none)=ycg xs (fun r=>(yac G ki.2 r).bind fun xs=>items ki.1 xs) (fun _=>some true) (evE G x):=by
   funext r;rw [evE];unfold ycg yae;rw [<- zs8];dsimp only;cases yac G ki.2 r with
   | none=>rfl
   | some ys=>simp only [xbs,evO]
  rw [e];exact ⟨zhi gd CS h0 h2n he hi hit hfs,fun {y py spos i} hy=>ze0 gd CS h0 h2n he hi hit hfs hy⟩
 | [t],hr =>
  obtain ⟨x,h3,hr⟩:=obs hr;obtain ⟨y1,h4,hr⟩:=obs hr;cases hr;have he:∀ pj fp s₃ H₃,Gd (blk X pj scope xs fp s₃ H₃) ⟨scope,xs++c.nm⟩ G k->Oke (blk X pj scope xs fp s₃ H₃) ⟨scope,xs++c.nm⟩ elt (evE G x):=fun pj fp s₃ H₃ g=>S.v g h3;have hi:∀ pj fp s₃ H₃,Gd (blk X pj scope xs fp s₃ H₃) ⟨scope,xs++c.nm⟩ G k->∀ (pn:List (Addr × Obj)) (s:Shared) (σ:L2.St) (H:Hp) (Q:Bool->Hp->Prop),L2.Inv (blk X pj scope xs fp s₃ H₃) pn σ H s->spC (blk X pj scope xs fp s₃ H₃) ⟨scope,xs++c.nm⟩ (fun r'=>(evE G y1 r').bind fun t=>match t with | .bl b=>some b | _=>none) σ H Q ->
   wpAny (model X.prog X.w) X.A (forIn [t] true fun c r=>if r=true then do let ok <- isTrue c (blk X pj scope xs fp s₃ H₃).env (eval c (blk X pj scope xs fp s₃ H₃).env);pure (ForInStep.yield ok) else pure (ForInStep.yield r)) (TP (blk X pj scope xs fp s₃ H₃) pn σ Q) (fun _ _=>False) s:=fun pj fp s₃ H₃ g pn s σ H Q I q=>by
   obtain ⟨r,F,b,e,hb,q⟩:=q;obtain ⟨tt,ht,hb⟩:=obs hb;cases tt with
   | bl b' =>cases hb;exact wpAny_tests_one ((S.t g h4).1 pn s σ H Q I ⟨r,F,b,e,ht,q⟩)
   | _=>cases hb
  have e:evE G (.comp x xs.length ki.1 ki.2 (some y1))=ycg xs (fun r=>(yac G ki.2 r).bind fun xs=>items ki.1 xs) (fun r'=>(evE G y1 r').bind fun t=>match t with | .bl b=>some b | _=>none) (evE G x):=by
   funext r;rw [evE];unfold ycg yae;rw [<- zpi];dsimp only;cases yac G ki.2 r with
   | none=>rfl
   | some ys=>simp only [xbs,evO];try rfl
  rw [e];exact ⟨zhi gd CS h0 h2n he hi hit hfs,fun {y py spos i} hy=>ze0 gd CS h0 h2n he hi hit hfs hy⟩
 | _::_::_,hr=>cases hr
theorem zfb (S:Snd G k n) (gd:Gd X c G k) {f:Str} {a:Expr} {es:List Expr} {p:Pos} {xs:List E} (hg:glB c.sc f=true) (hp:zac f=true) (h:ydd (trV n c) (a::es)=some xs):Oke X c (.Call (.Name f p) (a::es) [] pos) (evE G (.call f xs)):=by
 have e:evE G (.call f xs)=fun r=>(yac G xs r).bind fun ys=>G.call f ys:=by funext r;rw [evE]
 rw [e];obtain ⟨x,h1,h'⟩:=obs h;obtain ⟨ys,h2,_⟩:=obs h';exact zsg gd hg hp (S.l gd h) (zcw h1 es X.env) (zic pos X.env h2)
theorem zto (S:Snd G k n) {e:Expr} {e':E} (gd:Gd X c G k) (h:trV (n+1) c e=some e'):Oke X c e (evE G e'):=by
 have cst:∀ {t:T} {v:V} {a:Expr},PE X a (tC v)->(∀ F,Rep X.K F t v)->Oke X c a (evE G (.cst t)):=fun {t v a} h1 h2=>by
  have e:evE G (.cst t)=fun _=>some t:=by funext r;rw [evE]
  rw [e];exact zu7 h1 h2
 cases e with
 | Constant cs q pos =>
  cases cs with
  | none=>cases (show some (E.cst .non)=some e' from h);exact cst zum fun _=>rfl
  | bool b=>cases (show some (E.cst (.bl b))=some e' from h);exact cst zxb fun _=>rfl
  | int i=>cases (show some (E.cst (.int i))=some e' from h);exact cst zun fun _=>rfl
  | str x=>cases (show some (E.cst (.str x))=some e' from h);exact cst zui fun _=>rfl
  | _=>(cases h;done)
 | Name x pos =>
  replace h:(if zac x then (if ybu c.sc x then (yam c.nm x).map E.var else if glB c.sc x&&!bnames.contains x then some (.glb x) else none) else none)=some e':=h;split at h
  ·rename_i hp;split at h
   ·rename_i hv;obtain ⟨i,hi,rfl⟩:=oms h;have e:evE G (.var i)=fun r=>(r[i]?).join:=by funext r;rw [evE]
    rw [e];exact zuy gd hp hv hi
   ·split at h
    ·rename_i hg;cases h;rw [zx7] at hg;have e:evE G (.glb x)=fun _=>G.con x:=by funext r;rw [evE]
     rw [e];exact zu6 gd hp hg.1
    ·cases h
  ·cases h
 | BinOp a op b pos =>
  obtain ⟨o,h0,h⟩:=obs h;obtain ⟨x,h1,h⟩:=obs h;obtain ⟨y,h2,h⟩:=obs h;cases h;have e:evE G (.bin o x y)=fun r=>(evE G x r).bind fun s=>(evE G y r).bind fun t=>ya0 o s t:=by funext r;rw [evE]
  rw [e];exact zxg (zut h0) (S.v gd h1) (S.v gd h2)
 | UnaryOp op a pos =>
  cases op with
  | Not =>
   obtain ⟨x,h1,h⟩:=obs h;cases h;have e:evE G (.lnot x)=fun r=>(evE G x r).bind fun t=>match t with | .bl b=>some (.bl (!b)) | _=>none:=by funext r;rw [evE];try rfl
   rw [e];exact zu1 (S.v gd h1)
  | USub =>
   obtain ⟨x,h1,h⟩:=obs h;cases h;have e:evE G (.neg x)=fun r=>(evE G x r).bind fun t=>match t with | .int b=>some (.int (-b)) | _=>none:=by funext r;rw [evE];try rfl
   rw [e];exact zu2 (S.v gd h1)
  | _=>(cases h;done)
 | BoolOp op vs pos =>
  cases vs with
  | nil=>cases op<;>(cases h;done)
  | cons a r =>
   cases r with
   | nil=>exact zuk (S.v gd h)
   | cons b r =>
    cases op with
    | And =>
     obtain ⟨x,h1,h⟩:=obs h;obtain ⟨y,h2,h⟩:=obs h;cases h;have e:evE G (.land x y)=fun r=>(evE G x r).bind fun t=>match t with | .bl true=>evE G y r | .bl false=>some (.bl false) | _=>none:=by funext r;rw [evE];try rfl
     rw [e];exact zva (S.v gd h1) (S.v gd h2)
    | Or =>
     obtain ⟨x,h1,h⟩:=obs h;obtain ⟨y,h2,h⟩:=obs h;cases h;have e:evE G (.lor x y)=fun r=>(evE G x r).bind fun t=>match t with | .bl true=>some (.bl true) | .bl false=>evE G y r | _=>none:=by funext r;rw [evE];try rfl
     rw [e];exact zxf (S.v gd h1) (S.v gd h2)
 | Compare a ops bs pos =>
  match ops,bs,h with
  | [op],[b],h =>
   obtain ⟨o,h0,h⟩:=obs h;obtain ⟨x,h1,h⟩:=obs h;obtain ⟨y,h2,h⟩:=obs h;cases h;obtain ⟨q1,q2⟩:=zp9 (X:=X) gd.hu h0;have e:evE G (.cmp o x y)=fun r=>(evE G x r).bind fun s=>(evE G y r).bind fun t=>yax o s t:=by funext r;rw [evE]
   rw [e];exact zu8 q1 (S.v gd h1) (S.v gd h2) q2
  | [op,op'],[b,d],h=>(cases h;done)
  | [],_,h=>(cases h;done)
  | [_],[],h=>(cases h;done)
  | [_],_::_::_,h=>(cases h;done)
  | [_,_],[],h=>(cases h;done)
  | [_,_],[_],h=>(cases h;done)
  | [_,_],_::_::_::_,h=>(cases h;done)
  | _::_::_::_,_,h=>(cases h;done)
 | Tuple es q pos =>
  obtain ⟨xs,h1,h⟩:=obs h;cases h;have e:evE G (.tup xs)=fun r=>if xs.length<=1000 then (yac G xs r).map .tup else none:=by funext r;rw [evE]
  rw [e];exact zuz (S.l gd h1) fun r ts q=>zdw q
 | List es pos =>
  obtain ⟨xs,h1,h⟩:=obs h;cases h;have e:evE G (.lst xs)=fun r=>if xs.length<=1000 then (yac G xs r).map .lst else none:=by funext r;rw [evE]
  rw [e];exact zu3 (S.l gd h1) fun r ts q=>zdw q
 | Subscript a b pos =>
  have idx:yct b=false->((trV n c a).bind fun x=>(trV n c b).bind fun y=>some (E.idx x y))=some e'->Oke X c (.Subscript a b pos) (evE G e'):=fun hs h=>by
   obtain ⟨x,h1,h⟩:=obs h;obtain ⟨y,h2,h⟩:=obs h;cases h;have e:evE G (.idx x y)=fun r=>(evE G x r).bind fun s=>(evE G y r).bind fun t=>yah s t:=by funext r;rw [evE]
   rw [e];exact zu5 (by have:=gd.hu;omega) (S.v gd h1) (S.v gd h2) (zoh hs)
  cases b with
  | Slice lo hi st p2 =>
   cases st with
   | some st =>replace h:(none:Option E)=some e':=h;cases h
   | none =>
    obtain ⟨x,h1,h⟩:=obs h;obtain ⟨l,h2,h⟩:=obs h;obtain ⟨u,h3,h⟩:=obs h;cases h;have e:evE G (.sli x l u)=fun r=>(evE G x r).bind fun s=>(evO G l r).bind fun l1=>(evO G u r).bind fun u1=>(asI l1).bind fun l2=>(asI u1).bind fun u2=>ybb s l2 u2:=by funext r;rw [evE]
    rw [e];exact zu0 (S.v gd h1) (S.o gd h2) (S.o gd h3)
  | Tuple _ _ _=>cases h
  | Starred _ _=>cases h
  | _=>exact idx rfl h
 | Call f args kws pos =>
  cases f with
  | Name f p =>
   match args,kws,h with
   | [],kws,h=>(cases h;done)
   | [a],[],h =>
    replace h:(if glB c.sc f&&zac f then (match yfs f with
  | some k=>(trV n c a).bind fun x=>some (.blt k x)
  | none=>if bnames.contains f then none else (trV n c a).bind fun x=>some (.call f [x])) else none)=some e':=h
    split at h
    ·rename_i hg;rw [zx7] at hg;split at h
     ·rename_i kb hk;obtain ⟨x,h1,h⟩:=obs h;cases h;have e:evE G (.blt kb x)=fun r=>(evE G x r).bind fun t=>yaz kb t:=by funext r;rw [evE]
      rw [e];exact zxh gd hk hg.1 (S.v gd h1) (zbt h1 X.env)
     ·split at h
      ·cases h
      ·obtain ⟨x,h1,h⟩:=obs h;cases h;exact zfb S gd hg.1 hg.2 (by show (trV n c a).bind _=_;rw [h1];rfl)
    ·cases h
   | [a,b],[],h =>
    replace h:(if f==("isinstance":Str) then
   (match b with
   | .Name ty _=>if glB c.sc f&&glB c.sc ty then (yfl ty).bind fun k=>(trV n c a).bind fun x=>some (.isi x k) else none
   | _=>none)
  else if glB c.sc f&&zac f&&!bnames.contains f then (ydd (trV n c) [a,b]).bind fun xs=>some (.call f xs) else none)=some e':=h
    split at h
    ·rename_i hf;have hf:=eq_of_beq hf;subst hf;cases b with
     | Name ty p2 =>
      simp only at h;split at h
      ·rename_i hg;rw [zx7] at hg;obtain ⟨kt,hk,h⟩:=obs h;obtain ⟨x,h1,h⟩:=obs h;cases h;have e:evE G (.isi x kt)=fun r=>(evE G x r).bind fun t=>some (.bl (ybi t kt)):=by funext r;rw [evE]
       rw [e];exact zu4 gd hk hg.1 hg.2 (S.v gd h1) (zcw h1 _ X.env)
      ·cases h
     | _=>cases h
    ·split at h
     ·rename_i hg;simp only [Bool.and_eq_true] at hg;obtain ⟨xs,h1,h⟩:=obs h;cases h;exact zfb S gd hg.1.1 hg.1.2 h1
     ·cases h
   | a::b::d::es,[],h =>
    replace h:(if glB c.sc f&&zac f&&!bnames.contains f then (ydd (trV n c) (a::b::d::es)).bind fun xs=>some (.call f xs) else none)=some e':=h;split at h
    ·rename_i hg;simp only [Bool.and_eq_true] at hg;obtain ⟨xs,h1,h⟩:=obs h;cases h;exact zfb S gd hg.1.1 hg.1.2 h1
    ·cases h
   | _::bs,_::_,h=>rcases bs with _ | ⟨_,_ | ⟨_,_⟩⟩<;>cases h
  | Attribute o m apos =>
   match args,kws,h with
   | [a],[],h =>
    replace h:(if apos.endLine==pos.line then (ygi m).bind fun k=>(trV n c o).bind fun x=>(trV n c a).bind fun y=>some (.mth k x y) else none)=some e':=h;split at h
    ·rename_i hl;obtain ⟨km,hm,h⟩:=obs h;obtain ⟨x,h1,h⟩:=obs h;obtain ⟨y,h2,h⟩:=obs h;cases h;unfold ygi at hm;split at hm
     ·rename_i hj;have hj:=eq_of_beq hj;subst hj;cases hm;have e:evE G (.mth .index x y)=fun r=>(evE G x r).bind fun s=>(evE G y r).bind fun t=>ya7 .index s t:=by funext r;rw [evE]
      rw [e];exact zoq (S.v gd h1) (S.v gd h2) (znb h1 _ _ _) (zbt h2 X.env) hl
     ·split at hm
      ·rename_i hj;have hj:=eq_of_beq hj;subst hj;cases hm;have e:evE G (.mth .count x y)=fun r=>(evE G x r).bind fun s=>(evE G y r).bind fun t=>ya7 .count s t:=by funext r;rw [evE]
       rw [e];exact zor gd.hu (S.v gd h1) (S.v gd h2) (znb h1 _ _ _) (zbt h2 X.env) hl
      ·cases hm
    ·cases h
   | [],_,h=>(cases h;done)
   | [_],_::_,h=>(cases h;done)
   | [a,b],[],h=>(cases h;done)
   | [_,_],_::_,h=>cases h
   | _::_::_::_,_,h=>cases h
  | _=>(cases h;done)
 | ListComp elt gens scope pos=>exact (zid S gd h).1
 | _=>(cases h;done)
end
theorem zcc (G:Glo) (k:Nat):∀ n,Snd G k n
 | 0=>⟨fun _ h=>(by cases h),fun _ h=>(by cases h),fun _ h=>(by cases h)⟩
 | n+1 =>
  have S:=zcc G k n
  ⟨fun gd h=>zto S gd h,fun gd h=>zw1 S gd h,fun gd h ht=>zw2 S gd h ht⟩
end
section
variable {s:Sl} {o:HO}
def Sl.isOwn:Sl->Bool
 | .own _=>true
 | .dk _=>true
 | .dt _=>true
 | _=>false
def Own (K:PySem.W.Frag) (F:Hp):Sl->HO->Prop
 | .own ts,o=>∃ vs,o=.lst vs/\Reps K F ts vs
 | .dk qb,o=>∃ ws:List (Key × V),o=.dK ws/\ws.map (·.1)=qb.map (·.1)/\Reps K F (qb.map (·.2)) (ws.map (·.2))
 | .dt qb,o=>∃ ws:List (List Key × V),o=.dT ws/\ws.map (·.1)=qb.map (·.1)/\Reps K F (qb.map (·.2)) (ws.map (·.2))
 | _,_=>False
theorem Own.mono {K:PySem.W.Frag} {F F':Hp} {s:Sl} {o:HO} (e:Same F F') (h:Own K F s o):Own K F' s o:=by
 cases s with
 | own ts=>obtain ⟨vs,h1,h2⟩:=h;exact ⟨vs,h1,h2.mono e⟩
 | dk qb=>obtain ⟨ws,h1,h2,h3⟩:=h;exact ⟨ws,h1,h2,h3.mono e⟩
 | dt qb=>obtain ⟨ws,h1,h2,h3⟩:=h;exact ⟨ws,h1,h2,h3.mono e⟩
 | _=>exact h
theorem Own.noTup {K:PySem.W.Frag} {F:Hp} {xs:List V} (h:Own K F s o):o≠.tup xs:=by
 cases s with
 | own ts=>obtain ⟨vs,rfl,_⟩:=h;exact fun z=>nomatch z
 | dk qb=>obtain ⟨ws,rfl,_⟩:=h;exact fun z=>nomatch z
 | dt qb=>obtain ⟨ws,rfl,_⟩:=h;exact fun z=>nomatch z
 | _=>exact h.elim
theorem Own.noTbl {K:PySem.W.Frag} {F:Hp} (h:Own K F s o):ydl o=false:=by
 cases s with
 | own ts=>obtain ⟨vs,rfl,_⟩:=h;rfl
 | dk qb=>obtain ⟨ws,rfl,_⟩:=h;rfl
 | dt qb=>obtain ⟨ws,rfl,_⟩:=h;rfl
 | _=>exact h.elim
theorem Own.noFrz {K:PySem.W.Frag} {F:Hp} (h:Own K F s o):∀ p u,o≠.frz p u:=by
 cases s with
 | own ts=>obtain ⟨vs,rfl,_⟩:=h;exact fun _ _ z=>nomatch z
 | dk qb=>obtain ⟨ws,rfl,_⟩:=h;exact fun _ _ z=>nomatch z
 | dt qb=>obtain ⟨ws,rfl,_⟩:=h;exact fun _ _ z=>nomatch z
 | _=>exact h.elim
theorem Own.frz {K:PySem.W.Frag} {F:Hp} {s:Sl} {o:HO} {a:Addr} (h:Own K F s o) (ha:F a=some o):∃ t,s.frz=.val t/\Rep K F t (.ref a):=by
 cases s with
 | own ts=>obtain ⟨vs,rfl,h2⟩:=h;exact ⟨_,rfl,a,vs,rfl,Ls.of ha,h2⟩
 | dk qb=>obtain ⟨ws,rfl,h2,h3⟩:=h;exact ⟨_,rfl,a,ws,rfl,ha,h2,h3⟩
 | dt qb=>obtain ⟨ws,rfl,h2,h3⟩:=h;exact ⟨_,rfl,a,ws,rfl,ha,h2,h3⟩
 | _=>exact h.elim
theorem Own.noDl {K:PySem.W.Frag} {F:Hp} (h:Own K F s o):s.isDl=false:=by
 cases s with
 | dl qb=>exact h.elim
 | _=>rfl
abbrev DRep (K:PySem.W.Frag) (F H:Hp):List (List Kt × List T)->List (List Key × V)->Prop:=Paired fun p q=>q.1=p.1/\∃ b vs,q.2=.ref b/\H b=some (.lst vs)/\Reps K F p.2 vs
abbrev yck (a:Addr) (ws:List (List Key × V)):List V:=V.ref a::ws.map (·.2)
theorem DRep.mem {K:PySem.W.Frag} {F H:Hp} {qb:List (List Kt × List T)} {ws:List (List Key × V)} (r:DRep K F H qb ws) {v:V} (hv:v∈ws.map (·.2)):∃ b vs,v=.ref b/\H b=some (.lst vs):=by
 induction r with
 | nil=>cases hv
 | cons h t ih =>
  rcases omc hv with e | hv
  ·obtain ⟨_,b,vs,h1,h2,_⟩:=h;exact ⟨b,vs,e.trans h1,h2⟩
  ·exact ih hv
theorem DRep.up {K:PySem.W.Frag} {F H F' H':Hp} (hs:Same F F'):∀ {qb:List (List Kt × List T)} {ws:List (List Key × V)},DRep K F H qb ws->(∀ b,V.ref b∈ws.map (·.2)->H' b=H b)->DRep K F' H' qb ws
 | _,_,.nil,_=>.nil
 | _,_,.cons h t,k=>by obtain ⟨h0,b,vs,h1,h2,h3⟩:=h;exact .cons ⟨h0,b,vs,h1,(k b (by rw [<- h1];exact zyc)).trans h2,h3.mono hs⟩ (DRep.up hs t fun b hb=>k b (zx8 _ hb))
structure DlAt (K:PySem.W.Frag) (F H H0:Hp) (τ:List Sl) (σ:L2.St) (i:Nat) (qb:List (List Kt × List T)) (a:Addr) (ws:List (List Key × V)):Prop where
 ix:σ[i]?=some (some (.ref a))
 obj:H a=some (.dT ws)
 rep:DRep K F H qb ws
 nd:(yck a ws).Nodup
 kn:(ws.map (·.1)).Nodup
 fr:∀ b,V.ref b∈yck a ws->F b=none/\H0 b=none/\∀ (j:Nat) (s:Sl),τ[j]?=some s->s.isOwn=true->σ[j]?≠some (some (.ref b))
 one:∀ (j:Nat) (s:Sl),τ[j]?=some s->s.isDl=true->j=i
section
variable {K:PySem.W.Frag} {F H H0 F' H':Hp} {τ τ':List Sl} {σ σ':L2.St} {i:Nat} {qb:List (List Kt × List T)} {a:Addr} {ws:List (List Key × V)}
theorem DlAt.some' (d:DlAt K F H H0 τ σ i qb a ws) {b:Addr} (hb:V.ref b∈yck a ws):∃ o,H b=some o/\ydl o=false/\(∀ xs,o≠.tup xs)/\∀ p u,o≠.frz p u:=by
 rcases omc hb with e | hb
 ·cases e;exact ⟨_,d.obj,rfl,(fun _ z=>nomatch z),fun _ _ z=>nomatch z⟩
 ·obtain ⟨b',vs,e,h⟩:=d.rep.mem hb;cases e;exact ⟨_,h,rfl,(fun _ z=>nomatch z),fun _ _ z=>nomatch z⟩
theorem DlAt.up (d:DlAt K F H H0 τ σ i qb a ws) (h1:σ'[i]?=σ[i]?) (hs:Same F F') (hh:∀ b,V.ref b∈yck a ws->H' b=H b) (hf:∀ b,V.ref b∈yck a ws->F' b=none)
  (ho:∀ b,V.ref b∈yck a ws->∀ (j:Nat) (s:Sl),τ'[j]?=some s->s.isOwn=true->σ'[j]?≠some (some (.ref b))) (ho':∀ (j:Nat) (s:Sl),τ'[j]?=some s->s.isDl=true->j=i):DlAt K F' H' H0 τ' σ' i qb a ws :=
 ⟨h1.trans d.ix,(hh a zyc).trans d.obj,d.rep.up hs fun b hb=>hh b (zx8 _ hb),d.nd,d.kn,fun b hb=>⟨hf b hb,(d.fr b hb).2.1,ho b hb⟩,ho'⟩
end
structure EnvS (X:Cx) (F0 H0:Hp) (τ:List Sl) (σ:L2.St) (F H:Hp):Prop where
 st:Step F0 H0 F H
 t0:Tbk X.K F0 H0
 len:τ.length=σ.length
 val:∀ (i:Nat) (t:T),τ[i]?=some (.val t)->∃ v,σ[i]?=some (some v)/\Rep X.K F t v
 ownG:∀ (i:Nat) (s:Sl),τ[i]?=some s->s.isOwn=true->∃ a o,σ[i]?=some (some (.ref a))/\H a=some o/\F a=none/\H0 a=none/\Own X.K F s o
 disG:∀ (i j:Nat) (s u:Sl) (a:Addr),i≠j->τ[i]?=some s->τ[j]?=some u->s.isOwn=true->u.isOwn=true->σ[i]?=some (some (.ref a))->σ[j]?≠some (some (.ref a))
 dl:∀ (i:Nat) (qb:List (List Kt × List T)),τ[i]?=some (.dl qb)->∃ a ws,DlAt X.K F H H0 τ σ i qb a ws
section
variable {X:Cx} {c:Tc} {F0 H0:Hp} {τ:List Sl} {σ:L2.St} {F H F' H':Hp}
theorem EnvS.own (e:EnvS X F0 H0 τ σ F H) (i:Nat) (ts:List T) (h:τ[i]?=some (.own ts)):∃ a vs,σ[i]?=some (some (.ref a))/\H a=some (.lst vs)/\F a=none/\H0 a=none/\Reps X.K F ts vs:=by obtain ⟨a,o,h1,h2,h3,h4,vs,rfl,h5⟩:=e.ownG i _ h rfl;exact ⟨a,vs,h1,h2,h3,h4,h5⟩
theorem EnvS.env (e:EnvS X F0 H0 τ σ F H) (hN:X.N=c.nm):EnvE X c (ygq τ) F σ H :=
 ⟨e.st.fh,e.t0.up e.st,fun x i t _ hi _ hr=>by
  unfold ygq at hr;rw [zyv] at hr;obtain ⟨s,hs,hg⟩:=oms hr;cases s with
  | val u =>cases hg;obtain ⟨v,h1,h2⟩:=e.val i t hs;exact ⟨i,v,by rw [hN];exact zba hi,h1,h2⟩
  | _=>cases hg⟩
theorem Step.off {F H F' H':Hp} {a:Addr} (s:Step F H F' H') (h3:F a=none) (h2:H a=some o) (ht:∀ xs,o≠.tup xs):F' a=none:=by
 cases q:F' a with
 | none=>rfl
 | some o' =>
  rcases s.nw a (by rw [q];simp) with z | z | ⟨xs,z⟩
  ·exact absurd h3 z
  ·rw [h2] at z;cases z
  ·rw [h2] at z;exact absurd (zyk z) (ht xs)
theorem EnvS.step (e:EnvS X F0 H0 τ σ F H) (s:Step F H F' H'):EnvS X F0 H0 τ σ F' H':=by
 refine ⟨e.st.trans s,e.t0,e.len,fun i t h=>let ⟨v,h1,h2⟩:=e.val i t h;⟨v,h1,h2.mono s.ff⟩,fun i sl h ho=>?_,e.disG,fun i qb h=>?_⟩
 ·obtain ⟨a,o,h1,h2,h3,h4,h5⟩:=e.ownG i sl h ho;exact ⟨a,o,h1,s.hh.st a _ h2 h5.noTbl,s.off h3 h2 fun xs=>h5.noTup,h4,h5.mono s.ff⟩
 ·obtain ⟨a,ws,d⟩:=e.dl i qb h;refine ⟨a,ws,d.up rfl s.ff (fun b hb=>?_) (fun b hb=>?_) (fun b hb=>(d.fr b hb).2.2) d.one⟩
  ·obtain ⟨o,h1,h2,_⟩:=d.some' hb;rw [s.hh.st b o h1 h2,h1]
  ·obtain ⟨o,h1,h2,h3,_⟩:=d.some' hb;exact s.off (d.fr b hb).1 h1 h3
theorem zmj (τ:List Sl) (i j:Nat):(τ.modify i Sl.frz)[j]?=if i=j then (τ[j]?).map Sl.frz else τ[j]?:=by
 rw [List.getElem?_modify];by_cases h:i=j
 ·simp only [h,if_true];cases τ[j]?<;>rfl
 ·simp only [h,if_false];cases τ[j]?<;>rfl
theorem EnvS.frz1 (e:EnvS X F0 H0 τ σ F H) (i:Nat):∃ F',EnvS X F0 H0 (τ.modify i Sl.frz) σ F' H/\Same F F':=by
 by_cases ho:∃ s,τ[i]?=some s/\s.isOwn=true
 ·obtain ⟨sl,ho,hw⟩:=ho;obtain ⟨a,ob,h1,h2,h3,h4,h5⟩:=e.ownG i sl ho hw;have hs:Same F (upd F a ob):=zbh h3;obtain ⟨t0,ef,r0⟩:=(h5.mono hs).frz (a:=a) zag;have get:∀ (j:Nat) (s:Sl),(τ.modify i Sl.frz)[j]?=some s->(j=i/\s=.val t0)\/(j≠i/\τ[j]?=some s):=fun j s h=>by
   rw [zmj] at h;by_cases hj:i=j
   ·subst hj;rw [if_pos rfl,ho] at h;rw [<- ef];exact .inl ⟨rfl,(zyk h).symm⟩
   ·rw [if_neg hj] at h;exact .inr ⟨Ne.symm hj,h⟩
  refine ⟨upd F a ob,⟨⟨e.st.hh,e.st.ff.trans hs,fun b o q=>?_,fun b z=>?_⟩,e.t0,by rw [List.length_modify];exact e.len,fun j t h=>?_,fun j u h hu=>?_,fun j l u w b hjl hj hl hu hw'=>?_,fun j qb h=>?_⟩,hs⟩
  ·by_cases hb:b=a
   ·subst hb;rw [zag] at q;cases q;exact h2
   ·rw [zad hb] at q;exact e.st.fh b o q
  ·by_cases hb:b=a
   ·subst hb;exact .inr (.inl h4)
   ·rw [zad hb] at z;exact e.st.nw b z
  ·rcases get j _ h with ⟨rfl,q⟩ | ⟨_,q⟩
   ·cases q;exact ⟨.ref a,h1,r0⟩
   ·obtain ⟨v,q1,q2⟩:=e.val j t q;exact ⟨v,q1,q2.mono hs⟩
  ·rcases get j _ h with ⟨rfl,q⟩ | ⟨hj,q⟩
   ·subst q;cases hu
   ·obtain ⟨b,o,q1,q2,q3,q4,q5⟩:=e.ownG j u q hu;have hne:b≠a:=fun z=>by subst z;exact e.disG i j sl u b (Ne.symm hj) ho q hw hu h1 q1
    exact ⟨b,o,q1,q2,by rw [zad hne];exact q3,q4,q5.mono hs⟩
  ·rcases get j _ hj with ⟨_,q⟩ | ⟨_,q⟩
   ·subst q;cases hu
   ·rcases get l _ hl with ⟨_,q'⟩ | ⟨_,q'⟩
    ·subst q';cases hw'
    ·exact e.disG j l u w b hjl q q' hu hw'
  ·rcases get j _ h with ⟨_,q⟩ | ⟨hj,q⟩
   ·cases q
   ·obtain ⟨a',ws,d⟩:=e.dl j qb q;have hne:∀ b,V.ref b∈yck a' ws->b≠a:=fun b hb z=>by subst z;exact (d.fr b hb).2.2 i sl ho hw h1
    refine ⟨a',ws,d.up rfl hs (fun b hb=>rfl) (fun b hb=>by rw [zad (hne b hb)];exact (d.fr b hb).1) (fun b hb l u hl hu=>?_) fun l u hl hu=>?_⟩
    ·rcases get l _ hl with ⟨_,q'⟩ | ⟨_,q'⟩
     ·subst q';cases hu
     ·exact (d.fr b hb).2.2 l u q' hu
    ·rcases get l _ hl with ⟨_,q'⟩ | ⟨_,q'⟩
     ·subst q';cases hu
     ·exact d.one l u q' hu
 ·refine ⟨F,?_,Same.refl F⟩;have:τ.modify i Sl.frz=τ:=by
   apply List.ext_getElem?;intro j;rw [zmj];by_cases hj:i=j
   ·subst hj;rw [if_pos rfl];cases q:τ[i]? with
    | none=>rfl
    | some s =>
     cases s with
     | own ts=>exact absurd ⟨_,q,rfl⟩ ho
     | dk ts=>exact absurd ⟨_,q,rfl⟩ ho
     | dt ts=>exact absurd ⟨_,q,rfl⟩ ho
     | _=>rfl
   ·rw [if_neg hj]
  rw [this];exact e
theorem EnvS.frz:∀ (is:List Nat) {τ:List Sl} {F:Hp},EnvS X F0 H0 τ σ F H->∃ F',EnvS X F0 H0 (yad is τ) σ F' H/\Same F F'
 | [],_,F,e=>⟨F,e,Same.refl F⟩
 | i::is,τ,F,e=>by obtain ⟨F1,e1,s1⟩:=e.frz1 i;obtain ⟨F2,e2,s2⟩:=EnvS.frz is e1;exact ⟨F2,e2,s1.trans s2⟩
theorem yag {α:Type} {l:List α} {i j:Nat} {x y:α} (h:(l.set i x)[j]?=some y):(j=i/\y=x)\/(j≠i/\l[j]?=some y):=by
 rw [List.getElem?_set] at h;split at h
 ·rename_i hj;split at h
  ·cases h;exact .inl ⟨hj.symm,rfl⟩
  ·cases h
 ·rename_i hj;exact .inr ⟨Ne.symm hj,h⟩
theorem EnvS.setV1 (e:EnvS X F0 H0 τ σ F H) (i:Nat) {t:T} {v:V} (r:Rep X.K F t v):EnvS X F0 H0 (τ.set i (.val t)) (σ.set i (some v)) F H:=by
 refine ⟨e.st,e.t0,by rw [List.length_set,List.length_set];exact e.len,fun j u h=>?_,fun j u h hu=>?_,fun j l u w b hjl hj hl hu hw=>?_,fun j qb h=>?_⟩
 ·rcases yag h with ⟨rfl,q⟩ | ⟨hj,q⟩
  ·cases q;refine ⟨v,?_,r⟩;have hlt:j<(τ.set j (.val t)).length:=(ome h).1;rw [List.length_set,e.len] at hlt;rw [List.getElem?_set_self hlt]
  ·obtain ⟨w,q1,q2⟩:=e.val j u q;exact ⟨w,by rw [zyu (Ne.symm hj)];exact q1,q2⟩
 ·rcases yag h with ⟨rfl,q⟩ | ⟨hj,q⟩
  ·subst q;cases hu
  ·obtain ⟨a,o,q1,q2⟩:=e.ownG j u q hu;exact ⟨a,o,by rw [zyu (Ne.symm hj)];exact q1,q2⟩
 ·rcases yag hj with ⟨_,q⟩ | ⟨hji,q⟩
  ·subst q;cases hu
  ·rcases yag hl with ⟨_,q'⟩ | ⟨hli,q'⟩
   ·subst q';cases hw
   ·rw [zyu (Ne.symm hji),zyu (Ne.symm hli)];exact e.disG j l u w b hjl q q' hu hw
 ·rcases yag h with ⟨_,q⟩ | ⟨hj,q⟩
  ·cases q
  ·obtain ⟨a',ws,d⟩:=e.dl j qb q;refine ⟨a',ws,d.up (zyu (Ne.symm hj)) (Same.refl F) (fun b hb=>rfl) (fun b hb=>(d.fr b hb).1) (fun b hb l u hl hu=>?_) fun l u hl hu=>?_⟩
   ·rcases yag hl with ⟨_,q'⟩ | ⟨hli,q'⟩
    ·subst q';cases hu
    ·rw [zyu (Ne.symm hli)];exact (d.fr b hb).2.2 l u q' hu
   ·rcases yag hl with ⟨_,q'⟩ | ⟨hli,q'⟩
    ·subst q';cases hu
    ·exact d.one l u q' hu
theorem EnvS.setG (e:EnvS X F0 H0 τ σ F H) (i:Nat) {p:Addr} (hp:H p=none) (r:Own X.K F s o):EnvS X F0 H0 (τ.set i s) (σ.set i (some (.ref p))) F (upd H p o):=by
 have hs:Same H (upd H p o):=zbh hp;have nop:∀ {j:Nat} {u:Sl} {a:Addr},τ[j]?=some u->u.isOwn=true->σ[j]?=some (some (.ref a))->a≠p:=fun {j u a} q hu q1=>by obtain ⟨a',o',g1,g2,_⟩:=e.ownG j u q hu;rw [q1] at g1;cases g1;exact zae g2 hp
 refine ⟨e.st.newH hp,e.t0,by rw [List.length_set,List.length_set];exact e.len,fun j u h=>?_,fun j u h hu=>?_,fun j l u w b hjl hj hl hu hw=>?_,fun j qb h=>?_⟩
 ·rcases yag h with ⟨_,q⟩ | ⟨hj,q⟩
  ·subst q;exact r.elim
  ·obtain ⟨w,q1,q2⟩:=e.val j u q;exact ⟨w,by rw [zyu (Ne.symm hj)];exact q1,q2⟩
 ·rcases yag h with ⟨rfl,q⟩ | ⟨hj,q⟩
  ·subst q;have hlt:j<(τ.set j u).length:=(ome h).1;rw [List.length_set,e.len] at hlt;exact ⟨p,o,by rw [List.getElem?_set_self hlt],zag,e.st.fh.free hp,e.st.hh.free hp,r⟩
  ·obtain ⟨a,o',q1,q2,q3⟩:=e.ownG j u q hu;exact ⟨a,o',by rw [zyu (Ne.symm hj)];exact q1,hs a _ q2,q3⟩
 ·intro hb hb';rcases yag hj with ⟨rfl,q⟩ | ⟨hji,q⟩
  ·rcases yag hl with ⟨rfl,q'⟩ | ⟨hli,q'⟩
   ·exact hjl rfl
   ·rw [zyu (Ne.symm hli)] at hb';have hlt:j<σ.length:=by have:=(ome hj).1;rw [List.length_set,e.len] at this;exact this
    rw [List.getElem?_set_self hlt] at hb;cases hb;exact nop q' hw hb' rfl
  ·rw [zyu (Ne.symm hji)] at hb;rcases yag hl with ⟨rfl,q'⟩ | ⟨hli,q'⟩
   ·have hlt:l<σ.length:=by have:=(ome hl).1;rw [List.length_set,e.len] at this;exact this
    rw [List.getElem?_set_self hlt] at hb';cases hb';exact nop q hu hb rfl
   ·rw [zyu (Ne.symm hli)] at hb';exact e.disG j l u w b hjl q q' hu hw hb hb'
 ·rcases yag h with ⟨_,q⟩ | ⟨hj,q⟩
  ·subst q;exact r.elim
  ·obtain ⟨a',ws,d⟩:=e.dl j qb q;have hne:∀ b,V.ref b∈yck a' ws->b≠p:=fun b hb=>let ⟨o,h1,_⟩:=d.some' hb;zae h1 hp
   refine ⟨a',ws,d.up (zyu (Ne.symm hj)) (Same.refl F) (fun b hb=>by rw [zad (hne b hb)]) (fun b hb=>(d.fr b hb).1) (fun b hb l u hl hu z=>?_) fun l u hl hu=>?_⟩
   ·rcases yag hl with ⟨rfl,q'⟩ | ⟨hli,q'⟩
    ·have hlt:l<σ.length:=by have:=(ome hl).1;rw [List.length_set,e.len] at this;exact this
     rw [List.getElem?_set_self hlt] at z;cases z;exact hne _ hb rfl
    ·rw [zyu (Ne.symm hli)] at z;exact (d.fr b hb).2.2 l u q' hu z
   ·rcases yag hl with ⟨_,q'⟩ | ⟨hli,q'⟩
    ·subst q';rw [r.noDl] at hu;cases hu
    ·exact d.one l u q' hu
theorem EnvS.setO (e:EnvS X F0 H0 τ σ F H) (i:Nat) {ts:List T} {p:Addr} {vs:List V} (hp:H p=none) (r:Reps X.K F ts vs):EnvS X F0 H0 (τ.set i (.own ts)) (σ.set i (some (.ref p))) F (upd H p (.lst vs)):=e.setG i hp ⟨vs,rfl,r⟩
theorem EnvS.growG (e:EnvS X F0 H0 τ σ F H) {i:Nat} {s':Sl} {a:Addr} (ho:τ[i]?=some s) (hs:s.isOwn=true) (ha:σ[i]?=some (some (.ref a))) (h3:F a=none) (h4:H0 a=none) (r:Own X.K F s' o):EnvS X F0 H0 (τ.set i s') σ F (upd H a o):=by
 refine ⟨⟨(by obtain ⟨a2,o2,g1,g2,_,_,g5⟩:=e.ownG i s ho hs;rw [ha] at g1;cases g1;exact e.st.hh.upd h4 g2 g5.noTbl g5.noFrz),e.st.ff,fun b u q=>by rw [zad (zae q h3)];exact e.st.fh b u q,e.st.nw⟩,e.t0,by rw [List.length_set];exact e.len,fun j u h=>?_,fun j w h hw=>?_,fun j l w z b hjl hj hl hw hz=>?_,fun j qb h=>?_⟩
 ·rcases yag h with ⟨_,q⟩ | ⟨hj,q⟩
  ·subst q;exact r.elim
  ·exact e.val j u q
 ·rcases yag h with ⟨rfl,q⟩ | ⟨hj,q⟩
  ·subst q;exact ⟨a,o,ha,zag,h3,h4,r⟩
  ·obtain ⟨b,z,q1,q2,q3,q4,q5⟩:=e.ownG j w q hw;have hne:b≠a:=fun z=>by subst z;exact e.disG i j s w b (Ne.symm hj) ho q hs hw ha q1
   exact ⟨b,z,q1,by rw [zad hne];exact q2,q3,q4,q5⟩
 ·rcases yag hj with ⟨rfl,q⟩ | ⟨hji,q⟩
  ·rcases yag hl with ⟨rfl,q'⟩ | ⟨hli,q'⟩
   ·exact absurd rfl hjl
   ·exact e.disG j l s z b hjl ho q' hs hz
  ·rcases yag hl with ⟨rfl,q'⟩ | ⟨hli,q'⟩
   ·exact e.disG j l w s b hjl q ho hw hs
   ·exact e.disG j l w z b hjl q q' hw hz
 ·rcases yag h with ⟨_,q⟩ | ⟨hj,q⟩
  ·subst q;exact r.elim
  ·obtain ⟨a',ws,d⟩:=e.dl j qb q;refine ⟨a',ws,d.up rfl (Same.refl F) (fun b hb=>zad fun z=>by subst z;exact (d.fr b hb).2.2 i s ho hs ha) (fun b hb=>(d.fr b hb).1) (fun b hb l u hl hu=>?_) fun l u hl hu=>?_⟩
   ·rcases yag hl with ⟨rfl,q'⟩ | ⟨hli,q'⟩
    ·exact (d.fr b hb).2.2 l s ho hs
    ·exact (d.fr b hb).2.2 l u q' hu
   ·rcases yag hl with ⟨_,q'⟩ | ⟨hli,q'⟩
    ·subst q';rw [r.noDl] at hu;cases hu
    ·exact d.one l u q' hu
theorem EnvS.grow (e:EnvS X F0 H0 τ σ F H) {i:Nat} {ts us:List T} {a:Addr} {vs:List V} (ho:τ[i]?=some (.own ts)) (ha:σ[i]?=some (some (.ref a))) (h3:F a=none) (h4:H0 a=none) (r:Reps X.K F us vs):EnvS X F0 H0 (τ.set i (.own us)) σ F (upd H a (.lst vs)):=e.growG ho rfl ha h3 h4 ⟨vs,rfl,r⟩
theorem EnvS.setAll (hN:X.N=c.nm):∀ {is:List Nat} {us:List T} {vs:List V} {τ τ':List Sl} {σ:L2.St},EnvS X F0 H0 τ σ F H->Reps X.K F us vs->setAll is us τ=some τ'->EnvS X F0 H0 τ' (yeu is vs σ) F H/\vs.length=is.length
 | [],[],_,τ,τ',σ,e,r,h=>by cases r;cases h;exact ⟨e,rfl⟩
 | [],_::_,_,_,_,_,_,_,h=>by cases h
 | _::_,[],_,_,_,_,_,_,h=>by cases h
 | i::is,u::us,vs,τ,τ',σ,e,r,h=>by obtain ⟨v,ws,rfl,r1,r2⟩:=r;obtain ⟨q1,q2⟩:=EnvS.setAll hN (is:=is) (e.setV1 i r1) r2 h;exact ⟨q1,by simp [q2]⟩
end
def wantO (X:Cx) (F0 H0 F:Hp) (D:Ends):Out->Prop
 | .nx τ'=>∀ σ' F' H',EnvS X F0 H0 τ' σ' F' H'->Same F F'->D.nx σ' H'
 | .rt t=>∀ v F' H',Step F0 H0 F' H'->Rep X.K F' t v->D.rt v H'
def spS (X:Cx) (F0 H0:Hp) (f:List Sl->Option Out):TS:=fun D σ H=>∃ τ F o,EnvS X F0 H0 τ σ F H/\f τ=some o/\wantO X F0 H0 F D o
theorem wantO.up {X:Cx} {F0 H0 F F':Hp} {D:Ends} {o:Out} (s:Same F F') (h:wantO X F0 H0 F D o):wantO X F0 H0 F' D o:=by
 cases o with
 | nx τ=>exact fun σ' G' H' e s'=>h σ' G' H' e (s.trans s')
 | rt t=>exact h
end
section
structure Fx (X:Cx) (c:Tc):Prop where
 hN:X.N=c.nm
 loc:∀ x,(c.sc.names.lookup x=some .local\/c.sc.names.lookup x=some .cell)->Loc X.env.scope x
 fn:∀ x,X.fn x=true
 xe:X.xe=fun _ _=>False
section
variable {X:Cx} {c:Tc} {G:Glo} {k n:Nat} {F0 H0:Hp}
theorem Fx.at (fx:Fx X c) {x:Str} {i:Nat} (hl:c.sc.names.lookup x=some .local\/c.sc.names.lookup x=some .cell) (hi:yam c.nm x=some i):At X x i:=⟨by rw [fx.hN];exact zba hi,fx.loc x hl,.inl (fx.fn x)⟩
theorem Fx.ats (fx:Fx X c):∀ {xs:List Str} {is:List Nat},(xs.all fun x=>zac x&&(c.sc.names.lookup x==some .local||c.sc.names.lookup x==some .cell))=true->ydd (yam c.nm) xs=some is->Ats X xs is
 | [],_,_,h=>by cases h;exact .nil
 | x::xs,is,hl,h=>by rw [List.all_cons,zx7] at hl;obtain ⟨i,h1,h⟩:=obs h;obtain ⟨js,h2,h⟩:=obs h;cases h;have q:=hl.1;simp only [Bool.and_eq_true,Bool.or_eq_true,beq_iff_eq] at q;exact .cons (fx.at q.2 h1) (fx.ats hl.2 h2)
theorem zg6 {e:Expr} {e':E} (h:trV n c e=some e') (hl:∀ a b s p,e≠.ListComp a b s p) (t:Option Expr) (l:Nat) (env:PySem.Env):swapsWith e t l env=pure false:=by
 cases n with
 | zero=>cases h
 | succ n =>
  cases e with
  | ListComp a b s p=>exact absurd rfl (hl a b s p)
  | SetComp _ _ _ _=>cases h
  | DictComp _ _ _ _ _=>cases h
  | _=>rfl
theorem zj0:MtM X "list.extend" (fun x vs H Q=>∃ l b xs zs,x=.ref l/\vs=[.ref b]/\H l=some (.lst xs)/\Ls X.K H b zs/\xs.length+zs.length<=sizeLine/\Q .non (upd H l (.lst (xs++zs)))):=by
 intro pj s σ H x vs v us Q I rx rv h;obtain ⟨l,b,xs,zs,rfl,rfl,hH,hB,hz,q⟩:=h;cases rx;obtain ⟨u,rfl,ru⟩:=rv.one;cases ru;obtain ⟨z,qc,n,r,hl,e⟩:=I.lstM hH;obtain ⟨z2,its2,n2,r2,e2⟩:=hB.ok I;have hl2:=r2.length;have hsz:qc.toArray.size+its2.toArray.size<=sizeLine:=by rw [zyd,zyd];omega
 have hlong:¬ (!qc.toArray.isEmpty&&Builtin.List.listTooLong (qc.toArray.size+its2.toArray.size))=true:=by rw [zos hsz,Bool.and_false];exact zyg
 refine call_meets F.slot_list_extend ⟨_,e,rfl⟩ F.entry_list_extend (F.args_list_extend_2 _ _)
  (AutoSeq1.list_extend_list_list_0 l qc.toArray n b its2.toArray n2 hlong (by rw [zyd];omega) (by omega)) ⟨e,e2,?_⟩
 refine ⟨.non,_,I.lset (its':=qc++its2) hH e (by simp) (r.append r2) ?_,rfl,q⟩;rw [zyj];omega
theorem zsh {a b:Expr} {pos:Pos} {f g:Env->Option T} (ha:Oke X c a f) (hb:Oke X c b g):PE X (.BinOp a .Add b pos) (spN X c (fun r=>(f r).bind fun x=>(g r).bind fun y=>ya5 x y)):=by
 refine za4 (zuj ydi ha hb) fun σ H Q q=>?_;obtain ⟨r,F,ts,e,ht,q⟩:=q;obtain ⟨t1,e1,ht⟩:=obs ht;obtain ⟨t2,e2,ht⟩:=obs ht;refine ⟨r,F,t1,e,e1,fun v1 F1 H1 s1 r1=>⟨r,F1,t2,e.step s1,e2,fun v2 F2 H2 s2 r2=>?_⟩⟩;have key:∃ us ws,t1=.lst us/\t2=.lst ws/\us.length+ws.length<=SZ/\ts=us++ws:=by
  cases t1 with
  | lst us =>
   cases t2 with
   | lst ws =>
    simp only [ya5] at ht;split at ht
    ·rename_i hz;cases ht;exact ⟨_,_,rfl,rfl,hz,rfl⟩
    ·cases ht
   | _=>simp [ya5] at ht
  | _=>cases t2<;>simp only [ya5] at ht<;>(try split at ht)<;>cases ht
 obtain ⟨us,ws,rfl,rfl,hz,rfl⟩:=key;obtain ⟨l,vs,rfl,g1,g2⟩:=r1;obtain ⟨l',vs',rfl,g3,g4⟩:=r2;refine ⟨l,l',vs,vs',rfl,rfl,Ls.same (s2.ff.trans s2.fh) g1,Ls.same s2.fh g3,by rw [g2.length,g4.length,<- zeq];exact hz,fun p hp=>?_⟩;exact q p _ F2 H2 (s1.trans s2) hp ((g2.mono s2.ff).app g4)
theorem zdt {y:E} {t:T} (h:fresh y=false\/∀ ts,t≠.lst ts):yai y t=.val t:=by
 unfold yai;rcases h with h | h
 ·rw [h]
 ·cases fresh y with
  | false=>rfl
  | true=>cases t with
   | lst ts=>exact absurd rfl (h ts)
   | _=>rfl
theorem zn4 {y:E} {ts:List T} (h:fresh y=true):yai y (.lst ts)=.own ts:=by unfold yai;rw [h]
theorem zq7 (gd:Gd X c G k) (fx:Fx X c) {x:Str} {e:Expr} {y:E} {py pos:Pos} {i:Nat} (hl:c.sc.names.lookup x=some .local\/c.sc.names.lookup x=some .cell) (hi:yam c.nm x=some i) (h:trV (n+1) c e=some y) (hfl:fresh y=true->yfq e=true) :
  PS X (.Assign [.Name x py] e pos) (spS X F0 H0 (evS G (.asg i y))):=by
 have S:=zcc G k n;have at_:=fx.at hl hi;intro pj s σ H D I q;obtain ⟨τ,F,o,en,hf,hw⟩:=q;rw [evS] at hf;obtain ⟨F1,e1,s1⟩:=en.frz (yaj y);obtain ⟨t,ht,hf⟩:=obs hf;cases hf;have val:yai y t=.val t->ye0 X c i (evE G y) D σ H:=fun hs=>⟨_,F1,t,e1.env fx.hN,ht,fun v F' H' st r=>hw _ F' H' (by rw [hs];exact (e1.step st).setV1 i r) (s1.trans st.ff)⟩;have valN:yai y t=.val t->(∀ a b s p,e≠.ListComp a b s p)->wpAny (model X.prog X.w) X.A (exec (.Assign [.Name x py] e pos) X.env) (SP X pj D) X.xe s:=fun hs hne =>
  zih gd.nd at_.ix at_.loc (zto S gd h) (zg6 h hne _ _ _) at_.fn pj s σ H D I (by obtain ⟨r,F2,t2,a1,a2,a3⟩:=val hs;exact ⟨r,F2,t2,a1,a2,a3⟩)
 have own:∀ {ts:List T},t=.lst ts->fresh y=true->(∀ a b s p,e≠.ListComp a b s p)->PE X e (spN X c (evE G y))->wpAny (model X.prog X.w) X.A (exec (.Assign [.Name x py] e pos) X.env) (SP X pj D) X.xe s:=fun {ts} et hfr hne hp=>by subst et;refine zih gd.nd at_.ix at_.loc hp (zg6 h hne _ _ _) at_.fn pj s σ H D I ⟨_,F1,ts,e1.env fx.hN,ht,fun p vs F' H1 st hp r=>hw _ F' _ ?_ (s1.trans st.ff)⟩;rw [zn4 hfr];exact (e1.step st).setO i hp r
 cases e with
 | ListComp a b sc p =>
  have hy:fresh y=false:=by
   obtain ⟨tg,iter,ifs,rfl,xs,ki,h0,h1,hcs,hr⟩:=zje h
   match ifs,hr with
   | [],hr =>obtain ⟨z,h2,hr⟩:=obs hr;cases hr;rfl
   | [t],hr =>obtain ⟨z,h2,hr⟩:=obs hr;obtain ⟨w,h3,hr⟩:=obs hr;cases hr;rfl
   | _::_::_,hr=>cases hr
  exact (zid S gd h).2 at_ pj s σ H D I (val (zdt (.inl hy)))
 | List es p =>
  have h':=h;obtain ⟨zs,h1,h'⟩:=obs h';cases h';have ee:evE G (.lst zs)=fun r=>if zs.length<=1000 then (yac G zs r).map .lst else none:=by funext r;rw [evE]
  have hlst:∃ ts,t=.lst ts:=by
   rw [ee] at ht;dsimp only at ht;split at ht
   ·obtain ⟨ts,_,rfl⟩:=oms ht;exact ⟨ts,rfl⟩
   ·cases ht
  obtain ⟨ts,rfl⟩:=hlst;exact own rfl rfl (fun _ _ _ _ z=>by cases z) (by rw [ee];exact zlf (S.l gd h1) fun r ts q=>zdw q)
 | BinOp a op b p =>
  have h':=h;obtain ⟨o,h0,h'⟩:=obs h';obtain ⟨x1,h1,h'⟩:=obs h';obtain ⟨y1,h2,h'⟩:=obs h';cases h';by_cases hadd:op=.Add
  ·subst hadd;cases h0;by_cases hlst:∃ ts,t=.lst ts
   ·obtain ⟨ts,rfl⟩:=hlst;have ee:evE G (.bin .add x1 y1)=fun r=>(evE G x1 r).bind fun s=>(evE G y1 r).bind fun t=>ya5 s t:=by funext r;rw [evE];try rfl
    exact own rfl rfl (fun _ _ _ _ z=>by cases z) (by rw [ee];exact zsh (S.v gd h1) (S.v gd h2))
   ·exact valN (zdt (.inr fun ts z=>hlst ⟨ts,z⟩)) (fun _ _ _ _ z=>by cases z)
  ·refine valN (zdt (.inl ?_)) (fun _ _ _ _ z=>by cases z);cases op<;>first | exact absurd rfl hadd | (cases h0;done) | (cases h0;rfl)
 | _ =>
  refine valN (zdt (.inl ?_)) (fun _ _ _ _ z=>by cases z);cases hfr:fresh y with
  | false=>rfl
  | true=>cases hfl hfr
end
end
section
variable {x:Str} {a:Expr} {pos:Pos} {xs:List Str} {is:List Nat}
section
variable {X:Cx} {c:Tc} {G:Glo} {k n:Nat} {F0 H0:Hp}
theorem zbg (h:zac x=true):(x==("__debug__":Str))=false/\(x==("__classdict__":Str))=false:=by unfold zac at h;simp only [Bool.and_eq_true,Bool.not_eq_true'] at h;exact ⟨h.1.1.1,h.1.1.2⟩
theorem zq8 (gd:Gd X c G k) (fx:Fx X c) {y:E} {px apos cpos:Pos} {i:Nat} (hv:ybu c.sc x=true) (hp:zac x=true) (hi:yam c.nm x=some i) (h:trV n c a=some y) (hl:(apos.endLine==cpos.line)=true) :
  PS X (.Expr (.Call (.Attribute (.Name x px) "append" apos) [a] [] cpos) pos) (spS X F0 H0 (evS G (.app i y))):=by
 have S:=zcc G k n;have hN:X.N[i]?=some x:=by rw [fx.hN];exact zba hi
 have hs:=zbt h X.env;refine zdf (zhd (zjv F.plainAttrs_list F.slot_list_append F.type_list_append zea (zex hN (gd.vis x hv) (zbg hp).1 (zbg hp).2) (zb4 (S.v gd h) hs) rfl (by rw [hs];rfl) hl hs rfl) rfl) fun D σ H q=>?_;obtain ⟨τ,F,o,en,hf,hw⟩:=q;rw [evS] at hf;obtain ⟨F1,e1,s1⟩:=en.frz (yaj y);obtain ⟨t,ht,hf⟩:=obs hf;split at hf
 ·rename_i ts ho;split at hf
  ·rename_i hz;cases hf;obtain ⟨b,vs,q1,q2,q3,q4,q5⟩:=e1.own i ts ho;refine ⟨.ref b,q1,.inl ⟨rfl,_,SqL.of q2⟩,_,F1,[t],e1.env fx.hN,Option.bind_eq_some_iff.mpr ⟨t,ht,rfl⟩,fun ws F' H' st r=>?_⟩;obtain ⟨v,r',rfl,r1,r2⟩:=r;cases r2;have e2:=e1.step st;obtain ⟨b',vs',p1,p2,p3,p4,p5⟩:=e2.own i ts ho;rw [q1] at p1;cases p1;refine ⟨b,vs',v,rfl,rfl,p2,by rw [p5.length,<- zeq];exact hz,?_⟩;exact hw σ F' _ (e2.grow ho q1 p3 p4 (p5.app (.cons r1 rfl))) (s1.trans st.ff)
  ·cases hf
 ·cases hf
theorem zq6 (gd:Gd X c G k) (fx:Fx X c) {y:E} {px apos cpos:Pos} {i:Nat} (hv:ybu c.sc x=true) (hp:zac x=true) (hi:yam c.nm x=some i) (h:trV n c a=some y) (hl:(apos.endLine==cpos.line)=true) :
  PS X (.Expr (.Call (.Attribute (.Name x px) "extend" apos) [a] [] cpos) pos) (spS X F0 H0 (evS G (.ext i y))):=by
 have S:=zcc G k n;have hN:X.N[i]?=some x:=by rw [fx.hN];exact zba hi
 have hs:=zbt h X.env;refine zdf (zhd (zjv F.plainAttrs_list F.slot_list_extend F.type_list_extend zj0 (zex hN (gd.vis x hv) (zbg hp).1 (zbg hp).2) (zb4 (S.v gd h) hs) rfl (by rw [hs];rfl) hl hs rfl) rfl) fun D σ H q=>?_;obtain ⟨τ,F,o,en,hf,hw⟩:=q;rw [evS] at hf;obtain ⟨F1,e1,s1⟩:=en.frz (yaj y);obtain ⟨t,ht,hf⟩:=obs hf;split at hf
 ·rename_i us ts ho;split at hf
  ·rename_i hz;cases hf;obtain ⟨b,vs,q1,q2,q3,q4,q5⟩:=e1.own i ts ho;refine ⟨.ref b,q1,.inl ⟨rfl,_,SqL.of q2⟩,_,F1,[.lst us],e1.env fx.hN,Option.bind_eq_some_iff.mpr ⟨_,ht,rfl⟩,fun ws F' H' st r=>?_⟩;obtain ⟨v,r',rfl,r1,r2⟩:=r;cases r2;obtain ⟨l,zs,rfl,g1,g2⟩:=r1;have e2:=e1.step st;obtain ⟨b',vs',p1,p2,p3,p4,p5⟩:=e2.own i ts ho;rw [q1] at p1;cases p1;refine ⟨b,l,vs',zs,rfl,rfl,p2,Ls.same st.fh g1,by rw [p5.length,g2.length,<- zeq];exact hz,?_⟩;exact hw σ F' _ (e2.grow ho q1 p3 p4 (p5.app g2)) (s1.trans st.ff)
  ·cases hf
 ·cases hf
theorem zq3 (gd:Gd X c G k) (fx:Fx X c) {y:E} (h:trV n c a=some y):PS X (.Return (some a) pos) (spS X F0 H0 (evS G (.ret y))):=by have S:=zcc G k n;refine zdf (zud (S.v gd h)) fun D σ H q=>?_;obtain ⟨τ,F,o,en,hf,hw⟩:=q;rw [evS] at hf;obtain ⟨F1,e1,s1⟩:=en.frz (yaj y);obtain ⟨t,ht,rfl⟩:=oms hf;exact ⟨_,F1,t,e1.env fx.hN,ht,fun v F' H' st r=>hw v F' H' (e1.st.trans st) r⟩
theorem ztp (gd:Gd X c G k) (fx:Fx X c) {t:Expr} {a b:List Stmt} {z:E} {x y:List S} (h:trT n c t=some z) (ha:PSs X a (spS X F0 H0 (yab G x))) (hb:PSs X b (spS X F0 H0 (yab G y))):PS X (.If t a b pos) (spS X F0 H0 (evS G (.ite z x y))):=by
 have S:=zcc G k n;refine zdf (zw7 (S.t gd h).1 ha hb) fun D σ H q=>?_;obtain ⟨τ,F,o,en,hf,hw⟩:=q;rw [evS] at hf;obtain ⟨F1,e1,s1⟩:=en.frz (yaj z);obtain ⟨t,ht,hf⟩:=obs hf;cases t with
 | bl d =>
  refine ⟨_,F1,d,e1.env fx.hN,ht,fun F' H' st=>?_⟩;cases d with
  | true=>exact ⟨_,F',o,e1.step st,hf,hw.up (s1.trans st.ff)⟩
  | false=>exact ⟨_,F',o,e1.step st,hf,hw.up (s1.trans st.ff)⟩
 | _=>cases hf
theorem zi2 (fx:Fx X c) {tg:Expr} {b:List S} (h1:zbx tg=some xs) (h2n:yau tg=true->2<=xs.length) (hat:Ats X xs is) {J:It} {qc:List T} {τ2:List Sl} {σ:L2.St} {F2 H2:Hp} {D:Ends} {o:Out}
  (e2:EnvS X F0 H0 τ2 σ F2 H2) (wk:Walk X.K J qc F2) (hf:yan (fun x τ=>(yay is x τ).bind fun τ'=>yab G b τ') qc τ2=some o) (hw:wantO X F0 H0 F2 D o) :
  ∃ W:Nat->Nat->L2.St->Hp->Prop,(∃ m,W 0 m σ H2)/\∀ i m σ H,W i m σ H ->
 (J.stop i H/\D.nx σ H)\/(J.go i H/\∃ N:L2.St->Hp->Prop,(∀ σ' H',N σ' H'->∃ m',m'<m/\W (i+1) m' σ' H')/\∀ x H',J.yld i H x H'->gT X.K (!yau tg) is x σ H' fun σ2 H2=>spS X F0 H0 (yab G b) { D with nx:=N,ct:=N,bk:=D.nx } σ2 H2):=by
 refine ⟨fun i m σ' H'=>i<=qc.length/\m=qc.length-i/\∃ τ' F',EnvS X F0 H0 τ' σ' F' H'/\Same F2 F'/\yan (fun x τ=>(yay is x τ).bind fun τ'=>yab G b τ') (qc.drop i) τ'=some o,⟨qc.length,zyt _,rfl,_,F2,e2,Same.refl F2,hf⟩,?_⟩;rintro i m σ' H' ⟨hle,rfl,τ',F',e',s',hlo⟩;have sm:Same F2 H':=s'.trans e'.st.fh;have wup:wantO X F0 H0 F' D o:=hw.up s';by_cases hlt:i<qc.length
 ·refine .inr ⟨wk.go i H' hlt sm,?_⟩;rw [List.drop_eq_getElem_cons hlt,yan] at hlo;obtain ⟨o1,ho1,hlo⟩:=obs hlo;obtain ⟨τ1,hb1,ho1⟩:=obs ho1;refine ⟨fun σ'' H''=>∃ τ'' F'',EnvS X F0 H0 τ'' σ'' F'' H''/\Same F2 F''/\yan (fun x τ=>(yay is x τ).bind fun τ'=>yab G b τ') (qc.drop (i+1)) τ''=some o,fun σ'' H'' hN=>⟨qc.length-(i+1),by omega,hlt,rfl,hN⟩,fun x H5 hy=>?_⟩;obtain ⟨F5,st5,r5⟩:=wk.yld i H' x H5 F' qc[i] (by simp [hlt]) s' e'.st.fh hy;have e5:=e'.step st5;have fin:∀ σ6,EnvS X F0 H0 τ1 σ6 F5 H5->spS X F0 H0 (yab G b) { D with nx:=fun σ'' H''=>∃ τ'' F'',EnvS X F0 H0 τ'' σ'' F'' H''/\Same F2 F''/\yan (fun x τ=>(yay is x τ).bind fun τ'=>yab G b τ') (qc.drop (i+1)) τ''=some o,ct:=fun σ'' H''=>∃ τ'' F'',EnvS X F0 H0 τ'' σ'' F'' H''/\Same F2 F''/\yan (fun x τ=>(yay is x τ).bind fun τ'=>yab G b τ') (qc.drop (i+1)) τ''=some o,bk:=D.nx } σ6 H5:=fun σ6 e6=>by
   refine ⟨τ1,F5,o1,e6,ho1,?_⟩;cases o1 with
   | nx τ2=>exact fun σ7 F7 H7 e7 s7=>⟨τ2,F7,e7,s'.trans (st5.ff.trans s7),hlo⟩
   | rt t =>cases hlo;exact wup
  have hlen:=zh4 hat;cases htup:yau tg with
  | false =>
   have one:∃ i0,is=[i0]:=by
    cases tg with
    | Name y p =>
     cases h1
     match is,hlen with
     | [i0],_=>exact ⟨i0,rfl⟩
    | Tuple _ _ _=>cases htup
    | _=>cases h1
   obtain ⟨i0,rfl⟩:=one;cases hb1;exact fin _ (e5.setV1 i0 r5)
  | true =>
   have h2n:=h2n htup;have hb2:∃ ts,qc[i]=.tup ts/\setAll is ts τ'=some τ1:=by
    match is,hlen,hb1 with
    | [],hl,_=>rw [hl] at h2n;simp at h2n
    | [_],hl,_=>rw [hl] at h2n;simp at h2n
    | i0::i1::ir,_,hb1 =>
     cases hq:qc[i] with
     | tup ts=>rw [hq] at hb1;exact ⟨ts,rfl,hb1⟩
     | _=>rw [hq] at hb1;cases hb1
   obtain ⟨ts,et,hb2⟩:=hb2;rw [et] at r5;obtain ⟨a,vs,rfl,q1,q2⟩:=r5;obtain ⟨e6,hl6⟩:=e5.setAll fx.hN q2 hb2;exact ⟨a,vs,rfl,zai st5.fh q1,hl6,fin _ e6⟩
 ·have e:i=qc.length:=by omega
  subst e;rw [List.drop_length,yan] at hlo;cases hlo;exact .inl ⟨wk.stop H' sm,wup σ' F' H' e' (Same.refl F')⟩
theorem zq5 (gd:Gd X c G k) (fx:Fx X c) {tg iter:Expr} {body:List Stmt} {ki:Ik × List E} {b:List S} (h1:zbx tg=some xs) (h2:ydd (yam c.nm) xs=some is) (h3:trI n c iter=some ki)
  (ht:ki.1.pair=true->yau tg=true) (h2n:yau tg=true->2<=xs.length) (hat:Ats X xs is) (hb:PSs X body (spS X F0 H0 (yab G b))):PS X (.For tg iter body [] pos) (spS X F0 H0 (evS G (.loop is ki.1 ki.2 b))):=by
 have S:=zcc G k n;refine zdf (zp7 (by rw [fx.xe];exact PassesOwn.never) gd.calm (S.i gd h3 ht) (zqz gd.nd gd.calm h1 hat) hb (zgq h3 X.env)) fun D σ H q=>?_;obtain ⟨τ,F,o,en,hf,hw⟩:=q;rw [evS] at hf;obtain ⟨F1,e1,s1⟩:=en.frz (yaq ki.2);obtain ⟨us,hu,hf⟩:=obs hf;obtain ⟨qc,hi,hf⟩:=obs hf;refine ⟨_,F1,qc,e1.env fx.hN,Option.bind_eq_some_iff.mpr ⟨us,hu,hi⟩,fun J F2 H2 st wk=>?_⟩;have e2:=e1.step st;exact zi2 fx h1 h2n hat e2 wk hf (hw.up (s1.trans st.ff))
end
end
section
variable {i:Nat} {x:Str} {pos:Pos}
theorem ze9 {τ:List Sl} {s s':Sl} (h:τ[i]?=some s) (e:s.get=s'.get):ygq (τ.set i s')=ygq τ:=by
 unfold ygq;rw [List.map_set];apply List.ext_getElem?;intro j;rw [List.getElem?_set];by_cases hj:i=j
 ·subst hj;rw [if_pos rfl,zya];have hlt:=(ome h).1;rw [if_pos hlt,zyv,h,<- e];rfl
 ·rw [if_neg hj]
section
variable {X:Cx} {c:Tc} {G:Glo} {k n:Nat} {F0 H0:Hp}
theorem zn1 (gd:Gd X c G k) (fx:Fx X c) {py dp:Pos} (hl:c.sc.names.lookup x=some .local\/c.sc.names.lookup x=some .cell) (hi:yam c.nm x=some i) :
  PS X (.Assign [.Name x py] (.Dict [] [] dp) pos) (spS X F0 H0 (evS G (.dnew i))):=by
 have at_:=fx.at hl hi;intro pj s σ H D I q;obtain ⟨τ,F,o,en,hf,hw⟩:=q;rw [evS] at hf;cases hf;exact zih gd.nd at_.ix at_.loc yeb rfl at_.fn pj s σ H D I fun p hp=>hw _ F _ (en.setG i hp ⟨[],rfl,rfl,rfl⟩) (Same.refl F)
theorem zod {ke ve:Expr} {px tp:Pos} {fk:Env->Option T} (gd:Gd X c G k) (fx:Fx X c) (hv:ybu c.sc x=true) (hp:zac x=true) (hi:yam c.nm x=some i) (hk:Oke X c ke fk) {tv:TE} (hve:PE X ve tv) (hs:swapsWith ve (some (.Subscript (.Name x px) ke tp)) pos.line X.env=pure false)
  {pj:List (Addr × Obj)} {s:Shared} {σ:L2.St} {H:Hp} {D:Ends} (I:L2.Inv X pj σ H s) {τ:List Sl} {F:Hp} (e1:EnvS X F0 H0 τ σ F H) {kt y:T} {s':Sl} (ht:fk (ygq τ)=some kt) (hput:yel τ[i]? kt y=some s')
  (hval:∀ (τ':List Sl) (H':Hp) (Q:VK),EnvS X F0 H0 τ' σ F H'->ygq τ'=ygq τ->(τ'[i]?=τ[i]?\/∃ q,tkO kt=some q/\τ[i]?=some (.dk [])/\τ'[i]?=some (.dt []))->(∀ v F2 H2,Step F H' F2 H2->Rep X.K F2 y v->Q v H2)->tv σ H' Q)
  (hw:∀ σ' F' H',EnvS X F0 H0 (τ.set i s') σ' F' H'->Same F F'->D.nx σ' H'):wpAny (model X.prog X.w) X.A (exec (.Assign [.Subscript (.Name x px) ke tp] ve pos) X.env) (SP X pj D) X.xe s:=by
 have hu:X.A.units+1<cLine:=by have:=gd.hu;omega
 have hN:X.N[i]?=some x:=by rw [fx.hN];exact zba hi
 have P:=zrt (pos:=pos) hu (zex (pos:=px) hN (gd.vis x hv) (zbg hp).1 (zbg hp).2) hk hve hs;have dtc:∀ (τ1:List Sl) (H1:Hp) (qb:List (List Kt × T)) (q:List Kt),L2.Inv X pj σ H1 s->EnvS X F0 H0 τ1 σ F H1->ygq τ1=ygq τ->τ1[i]?=some (.dt qb)->(τ1[i]?=τ[i]?\/∃ q,tkO kt=some q/\τ[i]?=some (.dk [])/\τ1[i]?=some (.dt []))->tkO kt=some q->qb.length<SZ->τ1.set i (.dt (yby qb q y))=τ.set i s' ->
   wpAny (model X.prog X.w) X.A (exec (.Assign [.Subscript (.Name x px) ke tp] ve pos) X.env) (SP X pj D) X.xe s:=fun τ1 H1 qb q I1 e2 hvw ho hor hq hz hset=>by
  refine P pj s σ H1 D I1 (hval τ1 H1 _ e2 hvw hor fun v F2 H2 st2 rv=>?_);have e3:=e2.step st2;obtain ⟨b,ob,q1,q2,q3,q4,q5⟩:=e3.ownG i _ ho rfl;refine ⟨.ref b,q1,_,F2,kt,e3.env fx.hN,by rw [hvw];exact ht,fun u F3 H3 st3 rk=>?_⟩;have e4:=e3.step st3;obtain ⟨b',ob',p1,p2,p3,p4,ws,rfl,w1,w2⟩:=e4.ownG i _ ho rfl;rw [q1] at p1;cases p1;cases kt with
  | tup xs =>
   obtain ⟨kb,vs,rfl,g1,g2⟩:=rk;have ek:=zb1 g2 hq;subst ek;have rel:=PRep.of w1 w2;have hl:ws.length=qb.length:=by have:=congrArg List.length w1;simpa using this
   refine ⟨b,_,rfl,DPut.t p2 (st3.fh _ _ g1) (by rw [hl,<- zeq];exact hz),?_⟩;have rel2:=rel.put q (rv.mono st3.ff);have:=e4.growG (s':=.dt (yby qb q y)) (o:=.dT (yb6 ws q v)) ho rfl q1 p3 p4 ⟨_,rfl,rel2.keys,rel2.vals⟩;rw [hset] at this;exact hw _ _ _ this (st2.ff.trans st3.ff)
  | _=>cases hq
 cases hsl:τ[i]? with
 | none=>rw [hsl] at hput;cases hput
 | some sl =>
  rw [hsl] at hput;cases sl with
  | dk qb =>
   cases hkk:ye5 kt with
   | some q =>
    simp only [yel,hkk] at hput;split at hput
    ·rename_i hz;cases hput;refine P pj s σ H D I (hval τ H _ e1 rfl (.inl rfl) fun v F2 H2 st2 rv=>?_);have e3:=e1.step st2;obtain ⟨b,ob,q1,q2,q3,q4,q5⟩:=e3.ownG i _ hsl rfl;refine ⟨.ref b,q1,_,F2,kt,e3.env fx.hN,ht,fun u F3 H3 st3 rk=>?_⟩;have e4:=e3.step st3;obtain ⟨b',ob',p1,p2,p3,p4,ws,rfl,w1,w2⟩:=e4.ownG i _ hsl rfl;rw [q1] at p1;cases p1;have ek:=ziy rk hkk;subst ek;have rel:=PRep.of w1 w2;have hl:ws.length=qb.length:=by have:=congrArg List.length w1;simpa using this
     refine ⟨b,_,rfl,DPut.k p2 (by rw [hl,<- zeq];exact hz),?_⟩;have rel2:=rel.put q (rv.mono st3.ff);exact hw _ _ _ (e4.growG (s':=.dk (yby qb q y)) (o:=.dK (yb6 ws q v)) hsl rfl q1 p3 p4 ⟨_,rfl,rel2.keys,rel2.vals⟩) (st2.ff.trans st3.ff)
    ·cases hput
   | none =>
    cases qb with
    | cons _ _=>simp only [yel,hkk] at hput;cases hput
    | nil =>
     simp only [yel,hkk] at hput;obtain ⟨q,hq,rfl⟩:=oms hput;obtain ⟨b,ob,q1,q2,q3,q4,ws,rfl,w1,w2⟩:=e1.ownG i _ hsl rfl;have hws:ws=[]:=by cases ws with | nil=>rfl | cons _ _=>simp at w1
     subst hws;have I1:L2.Inv X pj σ (upd H b (.dT [])) s:=by
      obtain ⟨z,hd,vs,rel,ob,es,ep,h1,h2,h3,_,h4,_⟩:=zmt I.hok q2;cases rel;refine zdj (t':=s.toks) (h':=s.heap) I (by rw [q2];exact True.intro) (Heap.SameBut.refl _ _) ⟨ob,h1⟩ ⟨zyt _,hd,[],.nil,ob,es,ep,h1,h2,h3,?_,List.nodup_nil⟩;have:=h4.length;cases hes:es.toList with
      | nil=>rfl
      | cons _ _=>rw [hes] at this;simp at this
     have e2:=e1.growG (s':=.dt []) (o:=.dT []) hsl rfl q1 q3 q4 ⟨[],rfl,rfl,rfl⟩;have hlt:=(ome hsl).1;have hg:(τ.set i (.dt []))[i]?=some (Sl.dt []):=by rw [List.getElem?_set_self hlt]
     exact dtc _ _ [] q I1 e2 (ze9 hsl rfl) hg (.inr ⟨q,hq,hsl,hg⟩) hq (by decide) (by rw [List.set_set];rfl)
  | dt qb =>
   simp only [yel] at hput;obtain ⟨q,hq,hput⟩:=obs hput;split at hput
   ·rename_i hz;cases hput;exact dtc τ H qb q I e1 rfl hsl (.inl rfl) hq hz rfl
   ·cases hput
  | _=>cases hput
theorem zn0 (gd:Gd X c G k) (fx:Fx X c) {ke ve:Expr} {y z:E} {px tp:Pos} (hv:ybu c.sc x=true) (hp:zac x=true) (hi:yam c.nm x=some i) (h1:trV n c ke=some y) (h2:trV n c ve=some z) (hc:zhw ve=false) :
  PS X (.Assign [.Subscript (.Name x px) ke tp] ve pos) (spS X F0 H0 (evS G (.dput i y z))):=by
 have S:=zcc G k n;intro pj s σ H D I q;obtain ⟨τ,F,o,en,hf,hw⟩:=q;rw [evS] at hf;obtain ⟨F1,e1,s1⟩:=en.frz (yaj z++yaj y);obtain ⟨vt,g1,hf⟩:=obs hf;obtain ⟨kt,g2,hf⟩:=obs hf;obtain ⟨s',g3,rfl⟩:=oms hf;refine zod gd fx hv hp hi (S.v gd h1) (S.v gd h2) (zg6 h2 (fun a b s p z=>by subst z;cases hc) _ _ _) I e1 g2 g3 (fun τ' H' Q e2 hvw _ hQ=>?_) fun σ' F' H' e' s'=>hw σ' F' H' e' (s1.trans s');exact ⟨_,F1,vt,e2.env fx.hN,by rw [hvw];exact g1,hQ⟩
end
end
section
open PySem W Spec PyProof.Rows L2
variable {Q:Value->Shared->Prop} {qb:List (List Key × V)}
section
variable {prog:Program} {w:World} {K:Type} [DecidableEq K] {knd:HeapKind prog w K} {A:Around} {E:Value->Shared->Prop} {s:Shared}
theorem zrg {d a:Addr} {xs:List (K × Addr × Value)} {k:K} {v:Value} (hu:knd.room A) (hkey:knd.is s.heap k a) (hm:s.heap.DictOfH knd d xs) (hsz:xs.length<=sizeLine)
  (h1:∀ p,atKey xs k=some p->Q p.2 { s with toks:=s.toks+knd.draws k })
  (h2:atKey xs k=none->∀ h',h'.DictOfH knd d (storedH xs k a v)->Heap.SameBut d s.heap h'->Q v { s with heap:=h',toks:=s.toks+knd.draws k }) :
  wpAny (model prog w) A (dictSetDefault d (.ref a) v) Q E s:=by
 obtain ⟨o,es,ep,ho,hc,hd,he,his,hn⟩:=hm;unfold dictSetDefault;refine wpAny_holding (zx1 (knd.pyHash hu hkey ?_));refine zx1 (wpAny_dictFind_heap (s:={ s with toks:=s.toks+knd.draws k }) hu hkey ho hd he his hn ?_ ?_)
 ·intro hno;have hnot:k∉xs.map (·.1):=not_mem_keys_of_get hno;refine zx1 (wpAny_rule (zx1 (wpAny_updateDictKeys (hz:=by have e:=size_of_entries he;omega) (s:={ s with toks:=s.toks+knd.draws k }) ho hd (zx5 (h2 (atKey_none_of_get hno) _ ⟨_,_,ep+1,Heap.get?_update_self _ ho (Obj.isFreed_of_dict (Obj.data_mapDictKeys hd _)),
   hc.mapDictKeys _,Obj.data_mapDictKeys hd _,?_,?_,?_⟩ (Heap.SameBut.update ..))))))
  ·rw [storedH_new (atKey_none_of_get hno)];simp [he,entryOfKey]
  ·rw [storedH_new (atKey_none_of_get hno)];intro x hx;rcases oma hx with hx | hx
   ·exact knd.keeps (his x hx) ho hd (Heap.SameBut.update ..)
   ·rw [List.mem_singleton] at hx;subst hx;exact knd.keeps hkey ho hd (Heap.SameBut.update ..)
  ·rw [storedH_new (atKey_none_of_get hno),zyx,List.nodup_append];refine ⟨hn,by simp,fun x hx y hy=>?_⟩;rw [zx4,List.map_nil,List.mem_singleton] at hy;subst hy;exact fun e=>hnot (e▸hx)
 ·intro j p hj;refine zx1 (wpAny_dictEntries (s:={ s with toks:=s.toks+knd.draws k }) ho hd ?_);rw [entry_at he j,hj];exact zx1 (wpAny_rule (zx5 (h1 p (atKey_of_get hn hj))))
end
section
variable {X:Cx}
theorem zlj (hu:X.A.units+1<cLine):MtR X "dict.setdefault" (fun x xs H Q=>∃ a b qb k d,x=.ref a/\xs=[.ref b,d]/\H a=some (.dT qb)/\H b=some (.tup (k.map kV))/\qb.length<sizeLine /\
  (∀ v,ybp qb k=some v->Q v H)/\(ybp qb k=none->Q d (upd H a (.dT (yb6 qb k d))))):=by
 intro pj s σ H x xs v us Q I rx rs h;obtain ⟨a,b,qb,k,d,rfl,rfl,ha,hb,hl,q1,q2⟩:=h;cases rx;obtain ⟨u,w,rfl,r1,r2⟩:=rs.two;cases r1;obtain ⟨z,hd,xs,rel,dd⟩:=zpf I.hok ha;have hz:xs.length<=sizeLine:=by rw [<- Paired.length rel];exact z
 have hl':(yb6 qb k d).length<=sizeLine:=by have:=zce qb k d;omega
 have hty:s.TypeIs (.ref a) "dict":=dd.typeIs;refine zyw PySem.F.slot_dict_setdefault hty PySem.F.entry_dict_setdefault ?_ (PySem.F.args_dict_setdefault_3 _ _ _);unfold Builtin.«dict.setdefault»;refine zx1 ?_;unfold Builtin.Dict.keyAndDefault;refine zx1 (wpAny_notOrdered_dict hty ?_);show wpAny _ _ (pure (a,Value.ref b,some w)) _ _ s;refine zx5 ?_;show wpAny _ _ (if (a==sysModules)=true then _ else (dictSetDefault a (.ref b) w >>= _)) _ _ s;rw [if_neg (by rw [hd];exact zyg)];have rv:=rel.val k;refine zx1 (zrg (tupleKind_room_in1 hu) (zed I.hok hb) dd hz (fun p hp=>zx5 ⟨_,rfl,?_⟩) fun hn h' dd' hs=>zx5 ⟨_,rfl,?_⟩)
 ·rw [hp] at rv;cases hv:ybp qb k with
  | none=>rw [hv] at rv;exact rv.elim
  | some v=>rw [hv] at rv;exact ⟨v,H,I.tok _,rv,q1 v hv⟩
 ·rw [hn] at rv;cases hv:ybp qb k with
  | some v=>rw [hv] at rv;exact rv.elim
  | none =>obtain ⟨q,es,ep,hq,h2,h3,h4,_,h5⟩:=dd';refine ⟨d,upd H a (.dT (yb6 qb k d)),zdj I (by rw [ha];exact True.intro) hs ⟨q,hq⟩ (show ObjOk X.prog X.w _ h' a (.dT (yb6 qb k d)) from ⟨hl',hd,_,(rel.put k hb r2).keeps fun c ys ec=>?_,q,es,ep,hq,h2,h3,h4,h5⟩),r2,q2 hv⟩;rw [zad (zhl ec ha (fun z=>nomatch z))];exact ec
end
section
variable {prog:Program} {w:World} {A:Around} {E:Value->Shared->Prop} {s:Shared} {d j v:Addr} {en:Array DictEntry} {ep i:Nat}
theorem zrj (hv:s.heap.IsValuesView v d) (r:RawD s.heap d en ep)
  (q:Q (.ref s.heap.objs.size) { s with heap:=s.heap.push { cls:=.type "dict_valueiterator",data:=.fields #[.ref d,.int 0 0,.int en.size 0,.int ep 0] } }):wpAny (model prog w) A (pyIter (.ref v)) Q E s:=by
 obtain ⟨ov,hov,hcv,hdv⟩:=id hv;obtain ⟨o,a,b,c⟩:=id r;refine wpAny_pyIter_slot hv.typeIs PySem.F.slot_dict_values_iter (zyw PySem.F.slot_dict_values_iter hv.typeIs PySem.F.entry_dict_values_iter ?_ (PySem.F.args_dict_values_iter_1 _));unfold Builtin.«dict_values.__iter__»;refine zx1 (zx5 (zx1 ?_));unfold Builtin.Dict_items.dictOf;refine zx1 (wpAny_field hov hdv (x:=.ref d) rfl (zx5 (zx1 ?_)));unfold Builtin.Dict_items.newIterator;refine zx1 (wpAny_dictEntries a c (zx1 (wpAny_dictEpoch a c ?_)));simp only [show Builtin.Dict_items.ownsTuple "dict_valueiterator"=false by decide,zy5,if_false];refine zyz (zx5 ⟨_,rfl, "dict_valueiterator",_,⟨_,zx9 _ rfl,rfl⟩,PySem.F.slot_dict_valueiterator_next.lookup,?_⟩);simpa [rawInt] using q
theorem zri {Q:Option Value->Shared->Prop} (t:s.heap.IsValIter j d i en.size ep) (r:RawD s.heap d en ep) (hi:i<en.size)
  (q:∀ g,g.IsValIter j d (i+1) en.size ep->Heap.SameBut j s.heap g->Q (some en[i].val) { s with heap:=g }):wpAny (model prog w) A (pyNext (.ref j)) Q E s:=by
 obtain ⟨o,a,b,c⟩:=id t;obtain ⟨od,ad,bd,cd⟩:=id r;unfold pyNext;refine zx1 (wpAny_attempt (zy1 (name:=Str.ofString "__next__") t.typeIs PySem.F.slot_dict_valueiterator_next (zyw PySem.F.slot_dict_valueiterator_next t.typeIs PySem.F.entry_dict_valueiterator_next ?_ (PySem.F.args_dict_valueiterator_next_1 _))));refine zx1 (zx5 (zx1 (zx1 ?_)))
 first | refine zx1 (wpAny_typeNameOfWhole_valiter t.typeIs (zx5 (zx1 (wpAny_fieldsOf a c ?_)))) | refine zx1 (wpAny_typeNameOf_valiter t.typeIs (zx5 (zx1 (wpAny_fieldsOf a c ?_))))
 simp only [show Builtin.Dict_items.ownsTuple "dict_valueiterator"=false by decide,zy5,if_false];refine (show wpAny _ _ (if (Value.ref d==Value.none)=true then _ else _) _ _ s from ?_);rw [if_neg (show ¬ ((Value.ref d==Value.none)=true) from zyg)];refine zx1 (zx5 (zx1 (wpAny_dictEntries ad cd ?_)));rw [if_neg (by simp)];refine zx1 (zx5 (zx1 (wpAny_dictEpoch ad cd ?_)));rw [if_neg (by simp)];refine zx5 ?_;simp only [show ¬ ((i:Int)<0) from by omega,if_false,Int.toNat_natCast,Array.getElem?_eq_getElem hi];refine zx1 ?_
 first | refine zx1 (wpAny_typeNameOfWhole_valiter t.typeIs (zx5 (zx1 (wpAny_isOneOf_valiter t.typeIs ?_)))) | refine zx1 (wpAny_typeNameOf_valiter t.typeIs (zx5 (zx1 (wpAny_isOneOf_valiter t.typeIs ?_))))
 refine (show wpAny _ _ (setField (.ref j) 1 (rawInt ((i:Int)+1)) >>= _) _ _ s from wpAny_bind (wpAny_setField a c (by simp) ?_));have t':(s.heap.update j (Obj.mapFields (·.setIfInBounds 1 (rawInt ((i:Int)+1))))).IsValIter j d (i+1) en.size ep :=
  ⟨_,Heap.get?_update_self _ a (Obj.isFreed_of_fields (Obj.data_mapFields c _)),(Obj.cls_mapFields ..).trans b,by rw [Obj.data_mapFields c];simp [rawInt]⟩
 refine zx1 (wpAny_holding (zx1 (wpAny_isOneOf_valiter (s:={ s with heap:=s.heap.update j (Obj.mapFields (·.setIfInBounds 1 (rawInt ((i:Int)+1)))) }) t'.typeIs (zx1 (wpAny_isOneOf_valiter (s:={ s with heap:=s.heap.update j (Obj.mapFields (·.setIfInBounds 1 (rawInt ((i:Int)+1)))) }) t'.typeIs ?_)))));show wpAny _ _ (pure en[i].val) _ _ _;exact zx5 (zx5 ⟨_,rfl,zx5 (q _ t' (Heap.SameBut.update ..))⟩)
theorem ztw {Q:Option Value->Shared->Prop} (hh:A.handled=none) (t:s.heap.IsValIter j d en.size en.size ep) (r:RawD s.heap d en ep) (q:∀ g,Heap.ExtBut j s.heap g->Q none { s with heap:=g }):wpAny (model prog w) A (pyNext (.ref j)) Q E s:=by
 obtain ⟨o,a,b,c⟩:=id t;obtain ⟨od,ad,bd,cd⟩:=id r;unfold pyNext;refine zx1 (wpAny_attempt (zy1 (name:=Str.ofString "__next__") t.typeIs PySem.F.slot_dict_valueiterator_next (zyw PySem.F.slot_dict_valueiterator_next t.typeIs PySem.F.entry_dict_valueiterator_next ?_ (PySem.F.args_dict_valueiterator_next_1 _))));refine zx1 (zx5 (zx1 (zx1 ?_)))
 first | refine zx1 (wpAny_typeNameOfWhole_valiter t.typeIs (zx5 (zx1 (wpAny_fieldsOf a c ?_)))) | refine zx1 (wpAny_typeNameOf_valiter t.typeIs (zx5 (zx1 (wpAny_fieldsOf a c ?_))))
 simp only [show Builtin.Dict_items.ownsTuple "dict_valueiterator"=false by decide,zy5,if_false];refine (show wpAny _ _ (if (Value.ref d==Value.none)=true then _ else _) _ _ s from ?_);rw [if_neg (show ¬ ((Value.ref d==Value.none)=true) from zyg)];refine zx1 (zx5 (zx1 (wpAny_dictEntries ad cd ?_)));rw [if_neg (by simp)];refine zx1 (zx5 (zx1 (wpAny_dictEpoch ad cd ?_)));rw [if_neg (by simp)];refine zx5 ?_;simp only [show ¬ ((en.size:Int)<0) from by omega,if_false,Int.toNat_natCast,Array.getElem?_eq_none (Nat.le_refl en.size)];refine zx1 ?_
 first | refine zx1 (wpAny_typeNameOfWhole_valiter t.typeIs (zx5 ?_)) | refine zx1 (wpAny_typeNameOf_valiter t.typeIs (zx5 ?_))
 refine (show wpAny _ _ (setField (.ref j) 0 .none >>= _) _ _ s from wpAny_bind (wpAny_setField a c (by simp) ?_));refine (show wpAny _ _ (newExc (.type "StopIteration") [] >>= _) _ _ _ from zx1 ?_);simp only [newExc,newTuple];refine zx1 (zyz ?_ (by size_fits));refine wpAny_bind (m:=firstArgMember _ _) (wpAny_of_eq (a:=Value.none) (by first | rfl | (simp only [firstArgMember];rfl)) (wpAny_newObj_type ?_ (by size_fits)));simp only [raiseNew];refine zx1 (wpAny_handled ?_);rw [show A.in1.handled=none from hh];refine zx1 (zx5 (wpAny_throw ?_));exact zx1 (wpAny_isInstance (T:="StopIteration") (b:=true) ⟨_,zx9 _ rfl,rfl⟩ isSubtype_stop (zx5 (q _ (((Heap.SameBut.update ..).extBut.push _).push _))))
end
def Itv (ws:List (List Key × V)) (a:Addr) (ob:Obj):It :=
 ⟨fun i H=>H a=some (.frz ob (.dT ws))/\i<ws.length,fun i H x H'=>H'=H/\(ws.map (·.2))[i]?=some x,fun i H=>H a=some (.frz ob (.dT ws))/\i=ws.length⟩
section
variable {P:Program} {w:World} {K:PySem.W.Frag} {H:Hp} {h:Heap} {a:Addr} {X:Cx} {tg:Expr}
theorem zxl {xs:List (List Key × Addr × Value)} (r:KT H qb xs):∀ (i:Nat) (x:V),(qb.map (·.2))[i]?=some x->∃ q,xs[i]?=some q/\RelV x q.2.2:=by
 induction r with
 | nil=>intro i x hx;cases i<;>cases hx
 | @cons p q ps qs h t ih =>
  intro i x hx;cases i with
  | zero=>cases hx;exact ⟨_,rfl,h.2.2⟩
  | succ i=>exact ih i x hx
theorem zqo {ob:Obj} {en:Array DictEntry} {ep:Nat} (ok:ObjOk P w H h a (.dT qb)) (e:h.get? a=some ob) (hd:ob.data=.dict en ep):RawD h a en ep/\en.size=qb.length/\∀ (i:Nat) (x:V),(qb.map (·.2))[i]?=some x->∃ e',en[i]?=some e'/\RelV x e'.val:=by obtain ⟨z,_,xs,rel,o,es,ep',ho,hc,hdt,he,_⟩:=ok;rw [e] at ho;cases ho;rw [hd] at hdt;cases hdt;refine ⟨⟨ob,e,hc,hd⟩,by rw [size_of_entries he,Paired.length rel],fun i x hx=>?_⟩;rw [entry_at he i];obtain ⟨q,h1,h2⟩:=zxl rel i x hx;exact ⟨_,by rw [h1];rfl,h2⟩
theorem zkg {ws:List (List Key × V)} {ob:Obj} {en:Array DictEntry} {ep:Nat} (a it:Addr) (hd:ob.data=.dict en ep):Turn P w K tg (Itv ws a ob) [it] it (fun i h=>h.IsValIter it a i en.size ep) where
 mem:=by simp
 obj:=fun i h st b hb=>by
  have e:b=it:=by simpa using hb
  subst e;obtain ⟨o,e,c,d⟩:=st;exact ⟨o,e,fun v z=>by rw [d] at z;cases z⟩
 keep:=fun i h h' st k=>let ⟨o,e,r⟩:=st;⟨o,k it (by simp) o e,r⟩
 item:=by
  intro X hP hw hK hc i pj s σ H E I hf st hg;subst hP hw hK;obtain ⟨hH,hi⟩:=hg;obtain ⟨e,ok⟩:=(show ObjOk X.prog X.w H s.heap a (.frz ob (.dT ws)) from I.hok a _ hH);obtain ⟨rwd,hz,hen⟩:=zqo ok e hd;obtain ⟨f0,f1,f2,f3,f4,f5⟩:=hf it (by simp);have hx:(ws.map (·.2))[i]?=some ((ws.map (·.2))[i]'(by simpa using hi)):=List.getElem?_eq_getElem _;obtain ⟨e',h1,h2⟩:=hen i _ hx;have hlt:i<en.size:=by omega
  refine zri st rwd hlt fun h' st' sb=>?_;rw [Array.getElem?_eq_getElem hlt] at h1;cases h1;have I1:Inv X pj σ H { s with heap:=h' }:=I.turned (t':=s.toks) (fun b o hb e=>(sb.2 b hb).trans e) f0 f1 f3 f4 f5;obtain ⟨o,e,c,d⟩:=id st';exact ⟨_,rfl,zo9 (s:={ s with heap:=h' }) e c d (by decide) ⟨_,H,I1,h2,⟨rfl,hx⟩,st',fun b hb=>(hf b hb).1⟩⟩
 done:=by intro X hP hw hK hc i pj s σ H E I hf st hg;subst hP hw hK;obtain ⟨hH,hi⟩:=hg;obtain ⟨e,ok⟩:=(show ObjOk X.prog X.w H s.heap a (.frz ob (.dT ws)) from I.hok a _ hH);obtain ⟨rwd,hz,hen⟩:=zqo ok e hd;obtain ⟨f0,f1,f2,f3,f4,f5⟩:=hf it (by simp);rw [hi,<- hz] at st;exact ztw (I.ok.hd hc) st rwd fun h' eb=>⟨rfl,I.turned (t':=s.toks) (fun b o hb e=>eb b o hb e) f0 f1 f3 f4 f5⟩
 self:=fun _ _ _ _ _ st h=>wpAny_pyIter_valiter st h
theorem zrx {o:Expr} {apos cpos:Pos} {td:TE} (ho:PE X o td) (hbase:attributeBase o "values" X.env (eval o X.env)=eval o X.env) (hl:(apos.endLine==cpos.line)=true) :
  PI X tg (.Call (.Attribute o "values" apos) [] [] cpos) (fun σ H R=>td σ H fun x H1=>∃ a ws,x=.ref a/\H1 a=some (.dT ws)/\∀ ob,R (Itv ws a ob) (upd H1 a (.frz ob (.dT ws)))):=by
 intro pj s σ H R I h;refine wpAny_Call_method hbase rfl hl PySem.F.plainAttrs_dict PySem.F.slot_dict_values PySem.F.type_dict_values (thn (ho pj s σ H _ I h) fun u s1 ⟨x,H1,I1,rx,a,ws,ex,d,q1⟩=>?_);subst ex;obtain rfl:u=Value.ref a:=rx;obtain ⟨t1,t2,_⟩:=zv4 I1 (.inr ⟨ws,.inl d⟩);refine ⟨t1,t2,?_⟩;refine Calls.callWith_builtin rfl (PyProof.Rows.evalArgs_empty ?_);have ok:=(show ObjOk X.prog X.w H1 s1.heap a (.dT ws) from I1.hok a _ d);obtain ⟨z,hd,xs,rel,ob,es,ep,hob,hc,hdt,he,hn⟩:=id ok;refine zyw PySem.F.slot_dict_values t1 PySem.F.entry_dict_values ?_ (PySem.F.args_dict_values_1 _);unfold Builtin.«dict.values»;refine zx1 ?_;unfold Builtin.Dict.noArgs;refine zx1 (wpAny_notOrdered_dict t1 ?_);show wpAny _ _ (pure a) _ _ s1;refine zx5 ?_;show wpAny _ _ (Builtin.Dict.showsAll a >>= _) _ _ s1;unfold Builtin.Dict.showsAll;rw [if_neg (by rw [hd];exact zyg)];refine zx1 (zx5 (zx1 (zyz (zx5 ⟨_,rfl,?_⟩))));have hob1:(s1.heap.push { cls:=.type "dict_values",data:=.fields #[.ref a] }).get? a=some ob:=zxz _ hob;refine zrj (en:=es) (ep:=ep) ⟨_,zx9 _ rfl,rfl,rfl⟩ ⟨ob,hob1,hc,hdt⟩ ?_;have I2:Inv X pj σ (upd H1 a (.frz ob (.dT ws))) s1:=by
  refine zdj (t':=s1.toks) (h':=s1.heap) I1 (by rw [d];exact True.intro) (Heap.SameBut.refl _ _) ⟨ob,hob⟩ (show ObjOk X.prog X.w _ _ _ (.frz ob (.dT ws)) from ⟨hob,ok.stay (fun _ _ _ e=>e) (fun b e=>?_) fun b ys e=>?_⟩)
  ·rw [zad (zhl e d (fun z=>nomatch z))];exact e
  ·rw [zad (zhl e d (fun z=>nomatch z))];exact e
 have I3:=(I2.kept (t':=s1.toks) (h':=s1.heap.push { cls:=.type "dict_values",data:=.fields #[.ref a] }) fun b o e=>zxz _ e);refine ⟨_,[_],_,_,_,rfl,I3.kept (t':=s1.toks) fun b o e=>zxz _ e,zkg a _ hdt,⟨_,zx9 _ rfl,rfl,rfl⟩,fun b hb=>?_,q1 ob⟩;rw [omg hb];exact I3.fpOk (zye _) (I3.hok.fresh (zye _))
end
end
section
variable {p1 pos:Pos} {x:Str}
section
variable {K:PySem.W.Frag} {F H:Hp} {q:List Kt} {b:Addr} {y:T} {v:V} {vs:List V}
theorem DRep.at:∀ {qb:List (List Kt × List T)} {ws:List (List Key × V)} {i:Nat} {p:List Kt × List T},DRep K F H qb ws->qb[i]?=some p->∃ w b vs,ws[i]?=some w/\w.2=.ref b/\H b=some (.lst vs)/\Reps K F p.2 vs
 | _,_,i,_,.nil,h=>by cases i<;>cases h
 | _,_,0,_,.cons r t,h=>by cases h;obtain ⟨_,b,vs,h1,h2,h3⟩:=r;exact ⟨_,b,vs,rfl,h1,h2,h3⟩
 | _,_,i+1,_,.cons r t,h=>DRep.at (i:=i) t h
theorem DRep.any {qb:List (List Kt × List T)} {ws:List (List Key × V)} (r:DRep K F H qb ws) (k:List Kt):(ws.any fun kv=>decide (kv.1=k))=qb.any fun kv=>decide (kv.1=k):=by
 induction r with
 | nil=>rfl
 | cons h t ih=>rw [List.any_cons,List.any_cons,ih,h.1]
theorem DRep.val {qb:List (List Kt × List T)} {ws:List (List Key × V)} (r:DRep K F H qb ws) (h:ybp ws q=some v):v∈ws.map (·.2)/\∃ p b vs,p∈qb/\v=.ref b/\H b=some (.lst vs)/\Reps K F p.2 vs:=by
 induction r with
 | nil=>cases h
 | @cons p w ps ws' r t ih =>
  by_cases e:w.1=q
  ·rw [zbl e] at h;cases h;obtain ⟨_,b,vs,h1,h2,h3⟩:=r;exact ⟨zyc,p,b,vs,zyc,h1,h2,h3⟩
  ·rw [zbm e] at h;obtain ⟨h1,p',b,vs,h2,h3⟩:=ih h;exact ⟨zx8 _ h1,p',b,vs,zx8 _ h2,h3⟩
theorem DRep.skip:∀ {qb:List (List Kt × List T)} {ws:List (List Key × V)},DRep K F H qb ws->q∉ws.map (·.1)->V.ref b∉ws.map (·.2)->DRep K F (upd H b (.lst vs)) (apP qb q y) ws
 | _,_,.nil,_,_=>.nil
 | _,_,.cons (a:=p) (b:=w) r t,h1,h2=>by obtain ⟨e,b',vs',g1,g2,g3⟩:=r;rw [zx4,List.mem_cons,not_or] at h1 h2;unfold apP;rw [zx4,if_neg fun z=>h1.1 (z.symm.trans e.symm)];refine .cons ⟨e,b',vs',g1,?_,g3⟩ (DRep.skip t h1.2 h2.2);rw [zad fun z=>h2.1 (by rw [g1,z])];exact g2
theorem DRep.app:∀ {qb:List (List Kt × List T)} {ws:List (List Key × V)},DRep K F H qb ws->(ws.map (·.1)).Nodup->(ws.map (·.2)).Nodup->ybp ws q=some (.ref b)->H b=some (.lst vs)->Rep K F y v->DRep K F (upd H b (.lst (vs++[v]))) (apP qb q y) ws
 | _,_,.nil,_,_,h,_,_=>by cases h
 | _,_,.cons (a:=p) (b:=w) r t,n1,n2,h,hb,ry=>by
  obtain ⟨e,b',vs',g1,g2,g3⟩:=r;rw [zx4,List.nodup_cons] at n1 n2;by_cases ew:w.1=q
  ·rw [zbl ew] at h;have hw:=zyk h;rw [g1] at hw;cases hw;rw [hb] at g2;cases g2;unfold apP;rw [zx4,if_pos (e.symm.trans ew)];refine .cons ⟨e,b,_,g1,zag,g3.app (.cons ry rfl)⟩ (DRep.skip t (by rw [<- ew];exact n1.1) (by rw [<- g1];exact n2.1))
  ·rw [zbm ew] at h;have hm:=(DRep.val t h).1;unfold apP;rw [zx4,if_neg fun z=>ew (e.trans z)];refine .cons ⟨e,b',vs',g1,?_,g3⟩ (DRep.app t n1.2 n2.2 h hb ry);rw [zad fun z=>n2.1 (by rw [g1,z];exact hm)];exact g2
end
section
variable {X:Cx} {c:Tc} {F0 H0:Hp} {τ:List Sl} {σ:L2.St} {F H H':Hp} {i:Nat} {qb kvs':List (List Kt × List T)} {a:Addr} {ws ws':List (List Key × V)}
theorem EnvS.dlSet (e:EnvS X F0 H0 τ σ F H) (hone:∀ (j:Nat) (s:Sl),τ[j]?=some s->s.isDl=true->j=i) (hst:SameT H0 H') (hF:Same F H')
  (hown:∀ (j:Nat) (s:Sl) (b:Addr),j≠i->τ[j]?=some s->s.isOwn=true->σ[j]?=some (some (.ref b))->H' b=H b) (d':DlAt X.K F H' H0 (τ.set i (.dl kvs')) σ i kvs' a ws'):EnvS X F0 H0 (τ.set i (.dl kvs')) σ F H':=by
 refine ⟨⟨hst,e.st.ff,hF,e.st.nw⟩,e.t0,by rw [List.length_set];exact e.len,fun j u h=>?_,fun j u h hu=>?_,fun j l u w b hjl hj hl hu hw=>?_,fun j kk h=>?_⟩
 ·rcases yag h with ⟨_,q⟩ | ⟨hj,q⟩
  ·cases q
  ·exact e.val j u q
 ·rcases yag h with ⟨_,q⟩ | ⟨hj,q⟩
  ·subst q;cases hu
  ·obtain ⟨b,o,q1,q2,q3⟩:=e.ownG j u q hu;exact ⟨b,o,q1,(hown j u b hj q hu q1).trans q2,q3⟩
 ·rcases yag hj with ⟨_,q⟩ | ⟨_,q⟩
  ·subst q;cases hu
  ·rcases yag hl with ⟨_,q'⟩ | ⟨_,q'⟩
   ·subst q';cases hw
   ·exact e.disG j l u w b hjl q q' hu hw
 ·rcases yag h with ⟨rfl,q⟩ | ⟨hj,q⟩
  ·cases q;exact ⟨a,ws',d'⟩
  ·exact absurd (hone j _ q rfl) hj
theorem zhg (hone:∀ (j:Nat) (s:Sl),τ[j]?=some s->s.isDl=true->j=i):∀ (j:Nat) (s:Sl),(τ.set i (.dl kvs'))[j]?=some s->s.isDl=true->j=i:=fun j s h hs=>by
 rcases yag h with ⟨q,_⟩ | ⟨_,q⟩
 ·exact q
 ·exact hone j s q hs
theorem EnvS.toDl (e:EnvS X F0 H0 τ σ F H) (h:τ[i]?=some (.dt [])) (hone:∀ (j:Nat) (s:Sl),τ[j]?=some s->s.isDl=true->j=i):EnvS X F0 H0 (τ.set i (.dl [])) σ F H:=by
 obtain ⟨b,o,q1,q2,q3,q4,ws,rfl,w1,w2⟩:=e.ownG i _ h rfl;have hws:ws=[]:=by cases ws with | nil=>rfl | cons _ _=>simp at w1
 subst hws;refine e.dlSet (a:=b) (ws':=[]) hone e.st.hh e.st.fh (fun _ _ _ _ _ _ _=>rfl) ⟨q1,q2,.nil,by simp [yck],List.nodup_nil,fun c hc=>?_,zhg hone⟩;rw [yck,List.map_nil,List.mem_singleton] at hc;cases hc;refine ⟨q3,q4,fun j s hj hs z=>?_⟩;rcases yag hj with ⟨_,q⟩ | ⟨hji,q⟩
 ·subst q;cases hs
 ·exact e.disG j i s _ b hji q h hs rfl z q1
theorem zoe {ws:List (List Key × V)} {k:List Key} {v:V} (h:ybp ws k=none):yb6 ws k v=ws++[(k,v)]:=by unfold yb6;rw [if_neg (by rw [zcb,h];exact zyg)]
theorem EnvS.dlNew (e:EnvS X F0 H0 τ σ F H) (h:τ[i]?=some (.dl qb)) (d:DlAt X.K F H H0 τ σ i qb a ws) {q:List Kt} {p:Addr} (hp:H p=none) (hv:ybp ws q=none) :
  EnvS X F0 H0 (τ.set i (.dl (qb++[(q,[])]))) σ F (upd (upd H p (.lst [])) a (.dT (ws++[(q,.ref p)])))/\DlAt X.K F (upd (upd H p (.lst [])) a (.dT (ws++[(q,.ref p)]))) H0 (τ.set i (.dl (qb++[(q,[])]))) σ i (qb++[(q,[])]) a (ws++[(q,.ref p)]):=by
 have hap:a≠p:=zae d.obj hp;have hfa:=d.fr a zyc;have hbp:∀ b,V.ref b∈yck a ws->b≠p:=fun b hb=>let ⟨o,h1,_⟩:=d.some' hb;zae h1 hp
 have hba:∀ b,V.ref b∈ws.map (·.2)->b≠a:=fun b hb z=>by subst z;exact (List.nodup_cons.mp d.nd).1 hb
 have hown:∀ (j:Nat) (s:Sl) (b:Addr),τ[j]?=some s->s.isOwn=true->σ[j]?=some (some (.ref b))->b≠p/\b≠a:=fun j s b hj hs hb=>by obtain ⟨b',o,g1,g2,_⟩:=e.ownG j s hj hs;rw [hb] at g1;cases g1;exact ⟨zae g2 hp,fun z=>by subst z;exact hfa.2.2 j s hj hs hb⟩
 have d':DlAt X.K F (upd (upd H p (.lst [])) a (.dT (ws++[(q,.ref p)]))) H0 (τ.set i (.dl (qb++[(q,[])]))) σ i (qb++[(q,[])]) a (ws++[(q,.ref p)]):=by
  have fe:yck a (ws++[(q,.ref p)])=yck a ws++[V.ref p]:=by simp [yck]
  refine ⟨d.ix,zag,Paired.snoc (d.rep.up (Same.refl F) fun b hb=>by rw [zad (hba b hb),zad (hbp b (zx8 _ hb))]) ⟨rfl,p,[],rfl,by rw [zad (Ne.symm hap),zag],rfl⟩,?_,?_,fun b hb=>?_,zhg d.one⟩
  ·rw [fe,List.nodup_append];refine ⟨d.nd,by simp,fun u hu w hw=>?_⟩;rw [omg hw];intro z;subst z;exact hbp p hu rfl
  ·rw [zyx,List.nodup_append];refine ⟨d.kn,by simp,fun u hu w hw=>?_⟩;rw [zx4,List.map_nil,List.mem_singleton] at hw;rw [hw];intro z;subst z;exact znp hv hu
  ·rw [fe] at hb;have own':∀ {b:Addr},(∀ (j:Nat) (s:Sl),τ[j]?=some s->s.isOwn=true->σ[j]?≠some (some (.ref b)))->∀ (j:Nat) (s:Sl),(τ.set i (.dl (qb++[(q,[])])))[j]?=some s->s.isOwn=true->σ[j]?≠some (some (.ref b)):=fun hh j s hj hs=>by
    rcases yag hj with ⟨_,z⟩ | ⟨_,z⟩
    ·subst z;cases hs
    ·exact hh j s z hs
   rcases oma hb with hb | hb
   ·obtain ⟨g1,g2,g3⟩:=d.fr b hb;exact ⟨g1,g2,own' g3⟩
   ·rw [List.mem_singleton] at hb;cases hb;exact ⟨e.st.fh.free hp,e.st.hh.free hp,own' fun j s hj hs z=>(hown j s p hj hs z).1 rfl⟩
 refine ⟨e.dlSet d.one ((e.st.hh.trans (yei (zbh hp))).upd hfa.2.1 (o1:=.dT ws) (by rw [zad hap];exact d.obj) rfl fun _ _ z=>nomatch z) (fun b u z=>?_) (fun j s b _ hj hs hb=>?_) d',d'⟩
 ·rw [zad (zae z hfa.1),zad (zae (e.st.fh b u z) hp)];exact e.st.fh b u z
 ·obtain ⟨g1,g2⟩:=hown j s b hj hs hb;rw [zad g2,zad g1]
theorem EnvS.dlApp (e:EnvS X F0 H0 τ σ F H) (h:τ[i]?=some (.dl qb)) (d:DlAt X.K F H H0 τ σ i qb a ws) {q:List Kt} {b:Addr} {vs:List V} {y:T} {v:V} (hv:ybp ws q=some (.ref b)) (hb:H b=some (.lst vs)) (r:Rep X.K F y v) :
  EnvS X F0 H0 (τ.set i (.dl (apP qb q y))) σ F (upd H b (.lst (vs++[v]))):=by
 have hbw:=(d.rep.val hv).1;have hbf:V.ref b∈yck a ws:=zx8 _ hbw;obtain ⟨g1,g2,g3⟩:=d.fr b hbf;have hab:a≠b:=zhl d.obj hb fun z=>nomatch z;refine e.dlSet (a:=a) (ws':=ws) d.one (e.st.hh.upd g2 hb rfl fun _ _ z=>nomatch z) (fun c u z=>by rw [zad (zae z g1)];exact e.st.fh c u z) (fun j s c _ hj hs hc=>zad fun z=>by subst z;exact g3 j s hj hs hc)
  ⟨d.ix,by rw [zad hab];exact d.obj,d.rep.app d.kn (List.nodup_cons.mp d.nd).2 hv hb r,d.nd,d.kn,fun c hc=>⟨(d.fr c hc).1,(d.fr c hc).2.1,fun j s hj hs=>?_⟩,zhg d.one⟩
 rcases yag hj with ⟨_,z⟩ | ⟨_,z⟩
 ·subst z;cases hs
 ·exact (d.fr c hc).2.2 j s z hs
end
section
variable {X:Cx} {c:Tc} {G:Glo} {k n:Nat} {F0 H0:Hp}
theorem zgu {ke ve:Expr} {ap1 cp1 ap2 cp2 lp:Pos} {i:Nat} {fk fv:Env->Option T} (gd:Gd X c G k) (fx:Fx X c) (hv:ybu c.sc x=true) (hp:zac x=true) (hi:yam c.nm x=some i) (hk:Oke X c ke fk) (hve:Oke X c ve fv)
  (hs1:starEach [ke,.List [] lp] X.env=(false,eval ke X.env)::starEach [.List [] lp] X.env) (hs2:starEach [ve] X.env=[(false,eval ve X.env)]) (hl1:(ap1.endLine==cp1.line)=true) (hl2:(ap2.endLine==cp2.line)=true)
  {pj:List (Addr × Obj)} {s:Shared} {σ:L2.St} {H:Hp} {D:Ends} (I:L2.Inv X pj σ H s) {τ:List Sl} {F:Hp} (e1:EnvS X F0 H0 τ σ F H) {qb:List (List Kt × List T)} (hsl:τ[i]?=some (.dl qb)) (hz:qb.length<SZ) {kt y:T} {q:List Kt} (h1:fk (ygq τ)=some kt) (hq:tkO kt=some q) (h2:fv (ygq τ)=some y)
  (hz2:((sdP qb q).all fun p=>decide (p.2.length<SZ))=true)
  (hw:∀ σ' F' H',EnvS X F0 H0 (τ.set i (.dl (apP (sdP qb q) q y))) σ' F' H'->Same F F'->D.nx σ' H') :
  wpAny (model X.prog X.w) X.A (exec (.Expr (.Call (.Attribute (.Call (.Attribute (.Name x p1) "setdefault" ap1) [ke,.List [] lp] [] cp1) "append" ap2) [ve] [] cp2) pos) X.env) (SP X pj D) X.xe s:=by
 have hu:X.A.units+1<cLine:=by have:=gd.hu;omega
 have hN:X.N[i]?=some x:=by rw [fx.hN];exact zba hi
 have hA:=zd8 hk (zd8 (zp8 (pos:=lp) (zil (X:=X))) zil) hs1;have hG:=zjv (cpos:=cp1) (apos:=ap1) PySem.F.plainAttrs_dict PySem.F.slot_dict_setdefault PySem.F.type_dict_setdefault (zlj hu) (zex (pos:=p1) hN (gd.vis x hv) (zbg hp).1 (zbg hp).2) hA rfl (by rw [hs1];rfl) hl1 hs1 rfl;have P:=zhd (pos:=pos) (zjv (cpos:=cp2) (apos:=ap2) PySem.F.plainAttrs_list PySem.F.slot_list_append PySem.F.type_list_append zea hG (zb4 hve hs2) rfl (by rw [hs2];rfl) hl2 hs2 rfl) rfl;refine P pj s σ H D I ?_;obtain ⟨a,ws,d⟩:=e1.dl i qb hsl;refine ⟨.ref a,d.ix,.inr (.inr (.inl ⟨rfl,.inr ⟨ws,d.obj⟩⟩)),ygq τ,F,kt,e1.env fx.hN,h1,fun kv F2 H2 st2 rk=>⟨zyt _,fun p hpn=>?_⟩⟩;have e2:=e1.step st2;obtain ⟨a2,ws2,d2⟩:=e2.dl i qb hsl;have ea:a2=a:=by have:=d2.ix;rw [d.ix] at this;cases this;rfl
 subst ea;have last:∀ (τ3:List Sl) (kvs3:List (List Kt × List T)) (ws3:List (List Key × V)) (H3:Hp) (b:V),EnvS X F0 H0 τ3 σ F2 H3->τ3[i]?=some (.dl kvs3)->kvs3=sdP qb q->ygq τ3=ygq τ->DlAt X.K F2 H3 H0 τ3 σ i kvs3 a2 ws3->ybp ws3 q=some b->τ3.set i (.dl (apP kvs3 q y))=τ.set i (.dl (apP (sdP qb q) q y)) ->
   tyV X.K "list" b H3/\spL X c (fun r=>(fv r).bind fun x=>some [x]) σ H3 fun xs H4=>zkz b xs H4 fun _ H'=>D.nx σ H':=fun τ3 kvs3 ws3 H3 b e3 hs3 ek hvw d3 hb hset=>by
  obtain ⟨hm,p',b',vs,hmem,rfl,hl,hr⟩:=d3.rep.val hb;refine ⟨.inl ⟨rfl,_,SqL.of hl⟩,ygq τ3,F2,[y],e3.env fx.hN,by rw [hvw];exact Option.bind_eq_some_iff.mpr ⟨y,h2,rfl⟩,fun us F4 H4 st4 r4=>?_⟩;obtain ⟨v,r',rfl,r1,r2⟩:=r4;cases r2;have e4:=e3.step st4;obtain ⟨a4,ws4,d4⟩:=e4.dl i kvs3 hs3;have ea:a4=a2:=by have:=d4.ix;rw [d3.ix] at this;cases this;rfl
  subst ea;have ew:ws4=ws3:=by have:=d4.obj;rw [st4.hh.st _ _ d3.obj rfl] at this;cases this;rfl
  subst ew;have hl4:H4 b'=some (.lst vs):=st4.hh.st _ _ hl rfl;have hlen:vs.length<sizeLine:=by rw [hr.length,<- zeq];subst ek;exact zy6 (oml hz2 p' hmem)
  refine ⟨b',vs,v,rfl,rfl,hl4,hlen,hw σ F4 _ ?_ (st2.ff.trans st4.ff)⟩;rw [<- hset];exact e4.dlApp hs3 d4 hb hl4 r1
 cases kt with
 | tup xs =>
  obtain ⟨kb,us,rfl,g1,g2⟩:=rk;have ek:=zb1 g2 hq;subst ek;have hkb:upd H2 p (.lst []) kb=some (.tup (q.map kV)):=by rw [zad (zae (st2.fh _ _ g1) hpn)];exact st2.fh _ _ g1
  have hda:upd H2 p (.lst []) a2=some (.dT ws2):=by rw [zad (zae d2.obj hpn)];exact d2.obj
  have hlen:ws2.length<sizeLine:=by rw [<- Paired.length d2.rep,<- zeq];exact hz
  refine ⟨a2,kb,ws2,q,.ref p,rfl,rfl,hda,hkb,hlen,fun v hv=>?_,fun hn=>?_⟩
  ·have e3:=e2.step ((Step.refl e2.st.fh).newH (o:=.lst []) hpn);obtain ⟨a3,ws3,d3⟩:=e3.dl i qb hsl;have ea:a3=a2:=by have:=d3.ix;rw [d2.ix] at this;cases this;rfl
   subst ea;have ew:ws3=ws2:=by have:=d3.obj;rw [hda] at this;cases this;rfl
   subst ew;have hany:(qb.any fun p=>decide (p.1=q))=true:=by rw [<- d2.rep.any,zcb,hv];rfl
   have es:qb=sdP qb q:=by unfold sdP;rw [if_pos hany]
   exact last τ qb ws3 _ v e3 hsl es rfl d3 hv (by rw [<- es])
  ·have hany:¬ (qb.any fun p=>decide (p.1=q))=true:=by rw [<- d2.rep.any,zcb,hn];exact zyg
   have es:qb++[(q,[])]=sdP qb q:=by unfold sdP;rw [if_neg hany]
   rw [zoe hn];obtain ⟨e3,d3⟩:=e2.dlNew hsl d2 hpn hn;have hlt:=(ome hsl).1;exact last _ _ _ _ _ e3 (List.getElem?_set_self hlt) es (ze9 hsl rfl) d3 (by rw [zf5 _ _ _ _ hn,if_pos rfl]) (by rw [List.set_set,es])
 | _=>cases hq
theorem zwh {pj:List (Addr × Obj)} {s:Shared} {σ:L2.St} {H F:Hp} {τ:List Sl} {i:Nat} {qb:List (Kt × T)} (I:L2.Inv X pj σ H s) (e1:EnvS X F0 H0 τ σ F H) (hsl:τ[i]?=some (.dk qb)) (hc:(qb.isEmpty&&!τ.any Sl.isDl)=true) :
  ∃ H',L2.Inv X pj σ H' s/\EnvS X F0 H0 (τ.set i (.dl [])) σ F H':=by
 rw [zx7] at hc;cases qb with
 | cons _ _=>cases hc.1
 | nil =>
  obtain ⟨b,ob,q1,q2,q3,q4,ws,rfl,w1,w2⟩:=e1.ownG i _ hsl rfl;have hws:ws=[]:=by cases ws with | nil=>rfl | cons _ _=>simp at w1
  subst hws;have I1:L2.Inv X pj σ (upd H b (.dT [])) s:=by
   obtain ⟨z,hd,vs,rel,ob,es,ep,h1,h2,h3,_,h4,_⟩:=zmt I.hok q2;cases rel;refine zdj (t':=s.toks) (h':=s.heap) I (by rw [q2];exact True.intro) (Heap.SameBut.refl _ _) ⟨ob,h1⟩ ⟨zyt _,hd,[],.nil,ob,es,ep,h1,h2,h3,?_,List.nodup_nil⟩;have:=h4.length;cases hes:es.toList with
   | nil=>rfl
   | cons _ _=>rw [hes] at this;simp at this
  have e2:=e1.growG (s':=.dt []) (o:=.dT []) hsl rfl q1 q3 q4 ⟨[],rfl,rfl,rfl⟩;have hlt:=(ome hsl).1;have hone:∀ (j:Nat) (s:Sl),(τ.set i (.dt []))[j]?=some s->s.isDl=true->j=i:=fun j s hj hs=>by
   rcases yag hj with ⟨q,_⟩ | ⟨_,q⟩
   ·exact q
   ·have h:=hc.2;rw [Bool.not_eq_true',List.any_eq_false] at h;exact absurd hs (h s (zy8 q))
  have e3:=e2.toDl (List.getElem?_set_self hlt) hone;rw [List.set_set] at e3;exact ⟨_,I1,e3⟩
theorem zn2 (gd:Gd X c G k) (fx:Fx X c) {ke ve:Expr} {y z:E} {ap1 cp1 ap2 cp2 lp:Pos} {i:Nat} (hv:ybu c.sc x=true) (hp:zac x=true) (hi:yam c.nm x=some i) (h1:trV n c ke=some y) (h2:trV n c ve=some z) (hl1:(ap1.endLine==cp1.line)=true) (hl2:(ap2.endLine==cp2.line)=true) :
  PS X (.Expr (.Call (.Attribute (.Call (.Attribute (.Name x p1) "setdefault" ap1) [ke,.List [] lp] [] cp1) "append" ap2) [ve] [] cp2) pos) (spS X F0 H0 (evS G (.dapp i y z))):=by
 have S:=zcc G k n;intro pj s σ H D I q;obtain ⟨τ,F,o,en,hf,hw⟩:=q;rw [evS] at hf;obtain ⟨F1,e1,s1⟩:=en.frz (yaj y++yaj z);obtain ⟨kt,g1,hf⟩:=obs hf;obtain ⟨q,hq,hf⟩:=obs hf;obtain ⟨kvs3,hsd,hf⟩:=obs hf;obtain ⟨vt,g2,hf⟩:=obs hf;split at hf
 ·rename_i hz2;cases hf;have hs1:=zcw h1 [.List [] lp] X.env;have hs2:=zbt h2 X.env;unfold sdS at hsd;split at hsd
  ·rename_i qb hsl;split at hsd
   ·rename_i hc;cases hsd;obtain ⟨H1,I1,e3⟩:=zwh I e1 hsl hc;have hlt:=(ome hsl).1;have hvw:ygq ((yad (yaj y++yaj z) τ).set i (.dl []))=ygq (yad (yaj y++yaj z) τ):=ze9 hsl rfl;refine zgu (qb:=[]) gd fx hv hp hi (S.v gd h1) (S.v gd h2) hs1 hs2 hl1 hl2 I1 e3 (List.getElem?_set_self hlt) (by decide) (by rw [hvw];exact g1) hq (by rw [hvw];exact g2) hz2 fun σ' F' H' e' s'=>?_;rw [List.set_set] at e';exact hw σ' F' H' e' (s1.trans s')
   ·cases hsd
  ·rename_i qb hsl;split at hsd
   ·rename_i hz;cases hsd;exact zgu gd fx hv hp hi (S.v gd h1) (S.v gd h2) hs1 hs2 hl1 hl2 I e1 hsl hz g1 hq g2 hz2 fun σ' F' H' e' s'=>hw σ' F' H' e' (s1.trans s')
   ·cases hsd
  ·cases hsd
 ·cases hf
open Classical in
theorem zkn (gd:Gd X c G k) (fx:Fx X c) {tg:Expr} {body:List Stmt} {xs:List Str} {is:List Nat} {b:List S} {i:Nat} {apos cpos:Pos} (h1:zbx tg=some xs) (htp:yau tg=false) (hat:Ats X xs is) (hv:ybu c.sc x=true) (hp:zac x=true) (hi:yam c.nm x=some i) (hl:(apos.endLine==cpos.line)=true)
  (hb:PSs X body (spS X F0 H0 (yab G b))):PS X (.For tg (.Call (.Attribute (.Name x p1) "values" apos) [] [] cpos) body [] pos) (spS X F0 H0 (evS G (.vloop is i b))):=by
 have hN:X.N[i]?=some x:=by rw [fx.hN];exact zba hi
 have P:=zp7 (pos:=pos) (by rw [fx.xe];exact PassesOwn.never) gd.calm (zrx (tg:=tg) (apos:=apos) (cpos:=cpos) (zex (pos:=p1) hN (gd.vis x hv) (zbg hp).1 (zbg hp).2) rfl hl) (zqz gd.nd gd.calm h1 hat) hb (fun _=>rfl);intro pj s σ H D I q;obtain ⟨τ,F,o,en,hf,hw⟩:=q;have core:∀ (H:Hp) (τ:List Sl) (qb:List (List Kt × List T)),L2.Inv X pj σ H s->EnvS X F0 H0 τ σ F H->τ[i]?=some (.dl qb)->yan (fun x τ=>(yay is x τ).bind fun τ'=>yab G b τ') (qb.map fun p=>T.lst p.2) (τ.set i .no)=some o ->
   wpAny (model X.prog X.w) X.A (exec (.For tg (.Call (.Attribute (.Name x p1) "values" apos) [] [] cpos) body [] pos) X.env) (SP X pj D) X.xe s:=fun H τ qb I en hsl hf=>by
  refine P pj s σ H D I ?_;obtain ⟨a,ws,d⟩:=en.dl i qb hsl;refine ⟨.ref a,d.ix,a,ws,rfl,d.obj,fun ob=>?_⟩;have hfa:=d.fr a zyc;have hva:V.ref a∉ws.map (·.2):=(List.nodup_cons.mp d.nd).1
  let F2:Hp:=fun c=>if c=a then some (.frz ob (.dT ws)) else if V.ref c∈ws.map (·.2) then H c else F c
  have fa:F2 a=some (.frz ob (.dT ws)):=if_pos rfl;have fv:∀ c,V.ref c∈ws.map (·.2)->F2 c=H c:=fun c hc=>by show (if c=a then _ else if V.ref c∈ws.map (·.2) then _ else _)=_;rw [if_neg (fun z=>by subst z;exact hva hc),if_pos hc]
  have fo:∀ c,V.ref c∉yck a ws->F2 c=F c:=fun c hc=>by show (if c=a then _ else if V.ref c∈ws.map (·.2) then _ else _)=_;rw [if_neg (fun z=>hc (by rw [z];exact zyc)),if_neg fun z=>hc (zx8 _ z)]
  have sF:Same F F2:=fun c u h=>by rw [fo c fun z=>by rw [(d.fr c z).1] at h;cases h];exact h
  have cas:∀ c,c=a\/V.ref c∈ws.map (·.2)\/V.ref c∉yck a ws:=fun c=>by
   by_cases h1:c=a
   ·exact .inl h1
   ·by_cases h2:V.ref c∈ws.map (·.2)
    ·exact .inr (.inl h2)
    ·refine .inr (.inr fun z=>?_);rcases omc z with z | z
     ·cases z;exact h1 rfl
     ·exact h2 z
  have e2:EnvS X F0 H0 (τ.set i .no) σ F2 (upd H a (.frz ob (.dT ws))):=by
   refine ⟨⟨en.st.hh.upd hfa.2.1 d.obj rfl (fun _ _ z=>nomatch z),en.st.ff.trans sF,fun c u h=>?_,fun c h=>?_⟩,en.t0,by rw [List.length_set];exact en.len,fun j u h=>?_,fun j u h hu=>?_,fun j l u w b hjl hj hl hu hw=>?_,fun j kk h=>?_⟩
   ·rcases cas c with z | z | z
    ·subst z;rw [fa] at h;cases h;exact zag
    ·rw [fv c z] at h;rw [zad fun y=>by subst y;exact hva z];exact h
    ·rw [fo c z] at h;rw [zad fun y=>by subst y;exact z zyc];exact en.st.fh c u h
   ·rcases cas c with z | z | z
    ·subst z;exact .inr (.inl hfa.2.1)
    ·exact .inr (.inl (d.fr c (zx8 _ z)).2.1)
    ·rw [fo c z] at h;exact en.st.nw c h
   ·rcases yag h with ⟨_,q⟩ | ⟨hj,q⟩
    ·cases q
    ·obtain ⟨w,q1,q2⟩:=en.val j u q;exact ⟨w,q1,q2.mono sF⟩
   ·rcases yag h with ⟨_,q⟩ | ⟨hj,q⟩
    ·subst q;cases hu
    ·obtain ⟨b,o,q1,q2,q3,q4,q5⟩:=en.ownG j u q hu;have hn:V.ref b∉yck a ws:=fun z=>(d.fr b z).2.2 j u q hu q1;exact ⟨b,o,q1,by rw [zad fun y=>by subst y;exact hn zyc];exact q2,by rw [fo b hn];exact q3,q4,q5.mono sF⟩
   ·rcases yag hj with ⟨_,q⟩ | ⟨_,q⟩
    ·subst q;cases hu
    ·rcases yag hl with ⟨_,q'⟩ | ⟨_,q'⟩
     ·subst q';cases hw
     ·exact en.disG j l u w b hjl q q' hu hw
   ·rcases yag h with ⟨_,q⟩ | ⟨hj,q⟩
    ·cases q
    ·exact absurd (d.one j _ q rfl) hj
  have hlen:ws.length=qb.length:=(Paired.length d.rep).symm;have wk:Walk X.K (Itv ws a ob) (qb.map fun p=>T.lst p.2) F2:={
   go:=fun j H' hj sm=>⟨sm _ _ fa,by rw [hlen];simpa using hj⟩
   yld:=fun j H' v H5 F' t ht sF' fh y=>by obtain ⟨rfl,y⟩:=y;refine ⟨F',Step.refl fh,?_⟩;rw [zyv] at ht;obtain ⟨p,hp,rfl⟩:=oms ht;obtain ⟨w,c,vs,h1,h2,h3,h4⟩:=d.rep.at hp;rw [zyv,h1] at y;cases y;have hm:V.ref c∈ws.map (·.2):=List.mem_map.mpr ⟨w,zy8 h1,h2⟩;exact ⟨c,vs,h2,Ls.of (sF' _ _ ((fv c hm).trans h3)),(h4.mono sF).mono sF'⟩
   stop:=fun H' sm=>⟨sm _ _ fa,by rw [hlen];simp⟩ }
  exact zi2 fx h1 (fun z=>by rw [htp] at z;cases z) hat e2 wk hf (hw.up sF)
 rw [evS] at hf;split at hf
 ·rename_i qb hsl;exact core H τ qb I en hsl hf
 ·rename_i qb hsl;split at hf
  ·rename_i hc;cases hf;obtain ⟨H1,I1,e3⟩:=zwh I en hsl hc;refine core H1 _ [] I1 e3 (List.getElem?_set_self (ome hsl).1) ?_;rw [List.set_set];rfl
  ·cases hf
 ·cases hf
end
end
section
section
variable {X:Cx} {c:Tc} {G:Glo} {k:Nat} {F0 H0:Hp}
theorem zq4:PSs X [] (spS X F0 H0 (yab G [])):=by refine zig zrs fun D σ H q=>?_;obtain ⟨τ,F,o,en,hf,hw⟩:=q;rw [yab] at hf;cases hf;exact hw _ F H en (Same.refl F)
theorem zn3 {st:Stmt} {rest:List Stmt} {s:S} {ss:List S} (h1:PS X st (spS X F0 H0 (evS G s))) (h2:PSs X rest (spS X F0 H0 (yab G ss))):PSs X (st::rest) (spS X F0 H0 (yab G (s::ss))):=by
 refine zig (zog h1 h2) fun D σ H q=>?_;obtain ⟨τ,F,o,en,hf,hw⟩:=q;rw [yab] at hf;obtain ⟨o1,ho1,hf⟩:=obs hf;refine ⟨τ,F,o1,en,ho1,?_⟩;cases o1 with
 | nx τ'=>exact fun σ' F' H' e s'=>⟨τ',F',o,e,hf,hw.up s'⟩
 | rt t=>cases hf;exact hw
theorem zmv {e:Expr} (h:zfs e=true):∃ p,e=.Dict [] [] p:=by
 cases e with
 | Dict ks vs p =>
  match ks,vs,h with
  | [],[],_=>exact ⟨p,rfl⟩
  | _::_,_,h=>cases h
  | [],_::_,h=>cases h
 | _=>cases h
theorem zrh {o k':Expr} {y:Str} (h:sdC o=some (y,k')):∃ p1 apos cpos lp,o=.Call (.Attribute (.Name y p1) "setdefault" apos) [k',.List [] lp] [] cpos/\(apos.endLine==cpos.line)=true:=by
 cases o with
 | Call f es ks cpos =>
  cases f with
  | Attribute o m apos =>
   cases o with
   | Name z p1 =>
    rcases es with _ | ⟨k,_ | ⟨e2,_ | ⟨_,_⟩⟩⟩
    ·cases h
    ·cases h
    ·cases e2 with
     | List l lp =>
      cases l with
      | cons _ _=>cases h
      | nil =>
       cases ks with
       | cons _ _=>cases h
       | nil =>
        replace h:(if m==("setdefault":Str)&&apos.endLine==cpos.line then some (z,k) else none)=some (y,k'):=h;split at h
        ·rename_i hc;rw [zx7] at hc;cases h;have e:=eq_of_beq hc.1;subst e;exact ⟨_,_,_,_,rfl,hc.2⟩
        ·cases h
     | _=>cases h
    ·cases e2 with
     | List l lp=>cases l<;>cases h
     | _=>cases h
   | _=>cases h
  | _=>cases h
 | _=>cases h
theorem znq {e:Expr} {y:Str} (h:valC e=some y):∃ p1 apos cpos,e=.Call (.Attribute (.Name y p1) "values" apos) [] [] cpos/\(apos.endLine==cpos.line)=true:=by
 cases e with
 | Call f es ks cpos =>
  cases f with
  | Attribute o m apos =>
   cases o with
   | Name z p1 =>
    cases es with
    | cons _ _=>cases h
    | nil =>
     cases ks with
     | cons _ _=>cases h
     | nil =>
      replace h:(if m==("values":Str)&&apos.endLine==cpos.line then some z else none)=some y:=h;split at h
      ·rename_i hc;rw [zx7] at hc;cases h;have e:=eq_of_beq hc.1;subst e;exact ⟨_,_,_,rfl,hc.2⟩
      ·cases h
   | _=>cases h
  | _=>cases h
 | _=>cases h
theorem zga (gd:Gd X c G k) (fx:Fx X c):∀ n,(∀ st s,trS n c st=some s->PS X st (spS X F0 H0 (evS G s)))/\(∀ sts ss,ydq n c sts=some ss->PSs X sts (spS X F0 H0 (yab G ss)))
 | 0=>⟨fun _ _ h=>(by (cases h;done)),fun _ _ h=>(by (cases h;done))⟩
 | n+1=>by
  obtain ⟨i1,i2⟩:=zga gd fx n;refine ⟨fun st s h=>?_,fun sts ss h=>?_⟩
  ·cases st with
   | Assign tgs e pos =>
    match tgs,h with
    | [],h=>(cases h;done)
    | t::_::_,h =>
     cases t with
     | Subscript o _ _=>cases o<;>(cases h;done)
     | _=>(cases h;done)
    | [t],h =>
     cases t with
     | Name x px =>
      replace h:(if zac x&&(c.sc.names.lookup x==some .local||c.sc.names.lookup x==some .cell) then (yam c.nm x).bind fun i=>if zfs e then some (S.dnew i) else ((trV n c e).bind fun y=>if fresh y&&!yfq e then none else some (S.asg i y)) else none)=some s:=h;split at h
      ·rename_i hc;simp only [Bool.and_eq_true,Bool.or_eq_true,beq_iff_eq] at hc;obtain ⟨i,h1,g1⟩:=obs h;clear h;by_cases hd:zfs e=true
       ·rw [if_pos hd] at g1;cases g1;obtain ⟨dp,rfl⟩:=zmv hd;exact zn1 gd fx hc.2 h1
       ·rw [if_neg hd] at g1;obtain ⟨y,h2,g2⟩:=obs g1;clear g1;by_cases hfl:(fresh y&&!yfq e)=true
        ·rw [if_pos hfl] at g2;cases g2
        ·rw [if_neg hfl] at g2;cases g2;cases n with
         | zero=>cases h2
         | succ m =>
          exact zq7 gd fx hc.2 h1 h2 fun hfr=>by rw [hfr,Bool.true_and] at hfl;simpa using hfl
      ·cases h
     | Subscript o ke tp =>
      cases o with
      | Name x px =>
       replace h:(if ybu c.sc x&&zac x&&!yct ke then (yam c.nm x).bind fun i=>(trV n c ke).bind fun y=>(if zhw e then none else (trV n c e).bind fun z=>some (S.dput i y z)) else none)=some s:=h;split at h
       ·rename_i hc;simp only [Bool.and_eq_true] at hc;obtain ⟨i,h1,g1⟩:=obs h;obtain ⟨y,h2,g2⟩:=obs g1;clear g1 h;split at g2
        ·cases g2
        ·rename_i hcomp;obtain ⟨z,h3,g3⟩:=obs g2;cases g3;exact zn0 gd fx hc.1.1 hc.1.2 h1 h2 h3 (by simpa using hcomp)
       ·cases h
      | _=>(cases h;done)
     | _=>(cases h;done)
   | Expr e pos =>
    cases e with
    | Constant cst kk p =>
     cases cst with
     | str x=>(cases h;done)
     | _=>(cases h;done)
    | Call f es ks cpos =>
     cases f with
     | Attribute o m apos =>
      match es,ks,h with
      | [a],[],h =>
       have key:(∀ x p,o≠.Name x p)->PS X (.Expr (.Call (.Attribute o m apos) [a] [] cpos) pos) (spS X F0 H0 (evS G s)):=fun hn=>by
        replace h:(if apos.endLine==cpos.line&&m==("append":Str) then (sdC o).bind fun p=>if ybu c.sc p.1&&zac p.1 then (yam c.nm p.1).bind fun i=>(trV n c p.2).bind fun x=>(trV n c a).bind fun y=>some (S.dapp i x y) else none else none)=some s:=by
         cases o with
         | Name x p=>exact absurd rfl (hn x p)
         | _=>exact h
        split at h
        ·rename_i hc;rw [zx7] at hc;obtain ⟨⟨y,ke⟩,h1,h⟩:=obs h;split at h
         ·rename_i hv;rw [zx7] at hv;obtain ⟨i,h2,h⟩:=obs h;obtain ⟨z,h3,h⟩:=obs h;obtain ⟨w,h4,h⟩:=obs h;cases h;obtain ⟨p1,ap,cp,lp,rfl,hl⟩:=zrh h1;have hm:=eq_of_beq hc.2;subst hm;exact zn2 gd fx hv.1 hv.2 h2 h3 h4 hl hc.1
         ·cases h
        ·cases h
       cases o with
       | Name x px =>
         replace h:(if apos.endLine==cpos.line&&ybu c.sc x&&zac x then (yam c.nm x).bind fun i=>(trV n c a).bind fun y=>(if m==("append":Str) then some (S.app i y) else if m==("extend":Str) then some (S.ext i y) else none) else none)=some s:=h;split at h
         ·rename_i hc;simp only [Bool.and_eq_true] at hc;obtain ⟨i,h1,g1⟩:=obs h;obtain ⟨y,h2,g2⟩:=obs g1;clear g1 h;by_cases hm:(m==("append":Str))=true
          ·rw [if_pos hm] at g2;have hm:=eq_of_beq hm;subst hm;cases g2;exact zq8 gd fx hc.1.2 hc.2 h1 h2 hc.1.1
          ·rw [if_neg hm] at g2;by_cases hm:(m==("extend":Str))=true
           ·rw [if_pos hm] at g2;have hm:=eq_of_beq hm;subst hm;cases g2;exact zq6 gd fx hc.1.2 hc.2 h1 h2 hc.1.1
           ·rw [if_neg hm] at g2;cases g2
         ·cases h
       | _=>exact key fun _ _ z=>by cases z
      | [],_,h=>cases o<;>(cases h;done)
      | [_],_::_,h=>cases o<;>(cases h;done)
      | _::_::_,_,h=>cases o<;>(cases h;done)
     | _=>(cases h;done)
    | _=>(cases h;done)
   | Return e pos =>
    cases e with
    | none=>(cases h;done)
    | some e =>obtain ⟨y,h2,g⟩:=obs h;cases g;exact zq3 gd fx h2
   | If t a b pos =>obtain ⟨z,h1,g⟩:=obs h;obtain ⟨x,h2,g⟩:=obs g;obtain ⟨y,h3,g⟩:=obs g;cases g;exact ztp gd fx h1 (i2 _ _ h2) (i2 _ _ h3)
   | For tg iter body els pos =>
    cases els with
    | cons _ _=>(cases h;done)
    | nil =>
     obtain ⟨xs,h1,g⟩:=obs h;obtain ⟨is,h2,g⟩:=obs g;split at g
     ·rename_i y hval;obtain ⟨i,h3,g⟩:=obs g;obtain ⟨b,h4,g⟩:=obs g;split at g
      ·rename_i hc;simp only [Bool.and_eq_true] at hc;obtain ⟨⟨⟨c1,c2⟩,c3⟩,c4⟩:=hc;cases g;obtain ⟨p1,ap,cp,rfl,hl⟩:=znq hval;exact zkn gd fx h1 (by simpa using c1) (fx.ats c4 h2) c2.1 c2.2 h3 hl (i2 _ _ h4)
      ·cases g
     ·obtain ⟨ki,h3,g⟩:=obs g;obtain ⟨b,h4,g⟩:=obs g;split at g
      ·rename_i hc;simp only [Bool.and_eq_true] at hc;obtain ⟨⟨⟨c1,c2⟩,c3⟩,c4⟩:=hc;cases g;refine zq5 gd fx h1 h2 h3 (fun e=>?_) (fun e=>?_) (fx.ats c4 h2) (i2 _ _ h4)
       ·rw [e] at c1;simpa using c1
       ·rw [e] at c2;simpa using c2
      ·cases g
   | _=>(cases h;done)
  ·cases sts with
   | nil=>cases (show some ([]:List S)=some ss from h);exact zq4
   | cons st rest =>obtain ⟨x,h1,h⟩:=obs h;obtain ⟨xs,h2,h⟩:=obs h;cases h;exact zn3 (i1 _ _ h1) (i2 _ _ h2)
end
section
variable {P:Program} {w:World} {K:PySem.W.Frag} {mg:Str->Option Value} {base:Heap} {R:Pr}
structure FnD (K:PySem.W.Frag) (mg:Str->Option Value) (f:Str) (D:Fd) (st:Stmt) (a:Addr) (fd:FuncData) (ps:List Str):Prop where
 qu:∃ x qual,Fun K x qual st a fd
 sc:FnScope (zbf (zab st)) ps (zab st)
 np:ps.length=D.np
 ns:(zbf (zab st)).length=D.ns
 tr:ydq 60 ⟨zab st,zbf (zab st)⟩ (zbr st)=some D.body
 mg:mg f=some (.ref a)
 kp:PySem.W.keepIn K (.ref a)=true
 bi:Binds K fd ps []
theorem zny {X:Cx} {D:Fd} {N:List Str} {ts:List T} {vs:List V} {F H:Hp} (hN:N.length=D.ns) (fh:Same F H) (tb:Tbk X.K F H) (r:Reps X.K F ts vs):EnvS X F H (yal D ts) (L2.start N vs) F H:=by
 have hl:=r.length;have none:∀ i s,(yal D ts)[i]?=some s->¬ i<ts.length->s=.no:=fun i s h hi=>by
  unfold yal at h;rw [List.getElem?_append_right (by simpa using hi)] at h;rw [List.getElem?_replicate] at h;split at h
  ·cases h;rfl
  ·cases h
 have some':∀ i s,(yal D ts)[i]?=some s->i<ts.length->∃ t,ts[i]?=some t/\s=.val t:=fun i s h hi=>by unfold yal at h;rw [List.getElem?_append_left (by simpa using hi),List.getElem?_map] at h;obtain ⟨t,h1,h2⟩:=oms h;exact ⟨t,h1,h2.symm⟩
 have noown:∀ i (u:Sl),(yal D ts)[i]?=some u->u.isOwn=true->False:=fun i u h hu=>by
  by_cases hi:i<ts.length
  ·obtain ⟨t,_,e⟩:=some' i _ h hi;subst e;cases hu
  ·have:=none i _ h hi;subst this;cases hu
 refine ⟨Step.refl fh,tb,?_,fun i t h=>?_,fun i u h hu=>(noown i u h hu).elim,fun i j u _ a _ h _ hu=>(noown i u h hu).elim,fun i kk h=>?_⟩
 ·unfold yal L2.start;simp only [List.length_append,List.length_map,List.length_replicate];rw [hl,hN]
 ·by_cases hi:i<ts.length
  ·obtain ⟨u,h1,e⟩:=some' i _ h hi;cases e;obtain ⟨v,h2,h3⟩:=r.get h1;refine ⟨v,?_,h3⟩;unfold L2.start;rw [zy4 (by rw [zya,hl];exact hi),zyv,h2];rfl
  ·cases none i _ h hi
 ·by_cases hi:i<ts.length
  ·obtain ⟨t,_,e⟩:=some' i _ h hi;cases e
  ·cases none i _ h hi
def Kn (P:Program) (w:World) (K:PySem.W.Frag) (mg:Str->Option Value) (base:Heap) (R:Pr) (n:Nat) (f:Str):Prop :=
 ∃ (a:Addr) (fd:FuncData) (ps:List Str),FnOk P w K mg base CX0 n a fd ps (spT K (run R n f))/\mg f=some (.ref a)/\PySem.W.keepIn K (.ref a)=true/\Binds K fd ps []
abbrev yeh (P:Program) (w:World) (K:PySem.W.Frag) (mg:Str->Option Value) (base:Heap) (R:Pr) (n:Nat):Prop:=∀ m,m<=n->∀ f D,yc7 f=true->R.fn f=some D->Kn P w K mg base R m f
theorem zmp {a:Addr} {fd:FuncData} {ps:List Str} {f:Str}:FnOk P w K mg base CX0 0 a fd ps (spT K (run R 0 f)):=by
 have no:∀ vs H Q E,¬ spT K (run R 0 f) vs H Q E:=fun vs H Q E h=>by obtain ⟨F,ts,t,_,_,_,h,_⟩:=h;cases h
 exact ⟨fun vs H Q E h=>absurd h (no vs H Q E),fun A outer s H args us vs Q E _ _ _ _ h=>absurd h (no vs H Q E)⟩
theorem zxs {n:Nat} (ih:yeh P w K mg base R n) (nob:∀ x∈bnames,mg x=none) (con:∀ x t,R.con x=some t->∃ u v,mg x=some u/\RelV v u/\∀ F,Rep K F t v)
  {st:Stmt} {ps:List Str} (sc:FnScope (zbf (zab st)) ps (zab st)) {qual:Str} {a:Addr} {cdv:Value} {A:Around} {outer:List PySem.Env} {s:Shared} {H:Hp} {E:XK} (hr:Room n (A.deeper (envOfC qual (zab st) s.heap.objs.size a cdv))) :
  Gd (yeq CX0 P w K mg base (zbf (zab st)) qual (zab st) a cdv A outer s H E).nox ⟨zab st,zbf (zab st)⟩ (glo R (run R n)) n:={
   room:=hr
   calm:=rfl
   nob:=nob
   call:=fun g ts t hp hg=>by
    have hD:∃ D',R.fn g=some D':=by
     cases n with
     | zero=>cases hg
     | succ m =>have hg:run R (m+1) g ts=some t:=hg;rw [run] at hg;obtain ⟨D',h1,_⟩:=obs hg;exact ⟨D',h1⟩
    obtain ⟨D',hD⟩:=hD;exact ih n (zye n) g D' hp hD
   con:=con
   vis:=fun x h=>by
    show (zab st).names.lookup x=_\/(zab st).names.lookup x=_\/(zab st).names.lookup x=_;have h:ybu (zab st) x=true:=h;unfold ybu at h;cases e:(zab st).names.lookup x with
    | none=>rw [e] at h;cases h
    | some q =>
     rw [e] at h;cases q with
     | «local»=>exact .inl rfl
     | cell=>exact .inr (.inl rfl)
     | free=>exact .inr (.inr rfl)
     | _=>cases h
   gl:=fun x h=>by show (zab st).names.lookup x=_;simpa [glB] using h
   cap:=fun x h=>h
   nd:=sc.nd }
theorem zqk {n:Nat} (ih:yeh P w K mg base R n) (nob:∀ x∈bnames,mg x=none) (con:∀ x t,R.con x=some t->∃ u v,mg x=some u/\RelV v u/\∀ F,Rep K F t v)
  {f:Str} {D:Fd} {st:Stmt} {a:Addr} {fd:FuncData} {ps:List Str} (hf:R.fn f=some D) (d:FnD K mg f D st a fd ps):FnOk P w K mg base CX0 (n+1) a fd ps (spT K (run R (n+1) f)):=by
  obtain ⟨x,qual,FU⟩:=d.qu;have inv:∀ {ts:List T} {t:T},run R (n+1) f ts=some t->ts.length=D.np/\zaa (yab (glo R (run R n)) D.body (yal D ts))=some t:=fun {ts t} h=>by
   rw [run,hf] at h;simp only [xbs] at h;split at h
   ·rename_i e;exact ⟨e,h⟩
   ·cases h
  refine FU.ok d.sc (fun vs H Q E h=>?_) (fun cdv A outer s H vs Q E hr h=>?_)
  ·obtain ⟨F,ts,t,fh,tb,r,h,_⟩:=h;rw [r.length,(inv h).1,d.np]
  obtain ⟨F,ts,t,fh,tb,r,h,q⟩:=h;obtain ⟨hl,he⟩:=inv h;have gd:=zxs (outer:=outer) (H:=H) (E:=E) ih nob con d.sc hr;have fx:Fx (yeq CX0 P w K mg base (zbf (zab st)) qual (zab st) a cdv A outer s H E).nox ⟨zab st,zbf (zab st)⟩:=⟨rfl,fun x h=>h,fun _=>rfl,rfl⟩;refine ⟨_,(zga (F0:=F) (H0:=H) gd fx 60).2 _ _ d.tr,?_⟩;cases ho:yab (glo R (run R n)) D.body (yal D ts) with
  | none=>rw [ho] at he;cases he
  | some o =>
   refine ⟨yal D ts,F,o,zny d.ns fh tb r,ho,?_⟩;rw [ho] at he;cases o with
   | nx τ=>cases he;exact fun σ' F' H' e _=>q .non F' H' e.st rfl
   | rt t=>cases he;exact fun v F' H' s r=>q v F' H' s r
theorem zql (L:∀ f D,yc7 f=true->R.fn f=some D->(∃ st a fd ps,FnD K mg f D st a fd ps) \/
   ∃ (a:Addr) (fd:FuncData) (ps:List Str),mg f=some (.ref a)/\PySem.W.keepIn K (.ref a)=true/\Binds K fd ps []/\∀ n,yeh P w K mg base R n->FnOk P w K mg base CX0 (n+1) a fd ps (spT K (run R (n+1) f)))
  (nob:∀ x∈bnames,mg x=none) (con:∀ x t,R.con x=some t->∃ u v,mg x=some u/\RelV v u/\∀ F,Rep K F t v):∀ n,yeh P w K mg base R n
 | 0=>fun m hm f D hp hf=>by
  obtain rfl:m=0:=by omega
  rcases L f D hp hf with ⟨st,a,fd,ps,d⟩ | ⟨a,fd,ps,h1,h2,h3,_⟩
  ·exact ⟨a,fd,ps,zmp,d.mg,d.kp,d.bi⟩
  ·exact ⟨a,fd,ps,zmp,h1,h2,h3⟩
 | n+1=>fun m hm f D hp hf=>by
  have ih:=zql L nob con n;by_cases hmn:m<=n
  ·exact ih m hmn f D hp hf
  ·obtain rfl:m=n+1:=by omega
   rcases L f D hp hf with ⟨st,a,fd,ps,d⟩ | ⟨a,fd,ps,h1,h2,h3,h4⟩
   ·exact ⟨a,fd,ps,zqk ih nob con hf d,d.mg,d.kp,d.bi⟩
   ·exact ⟨a,fd,ps,h4 n ih,h1,h2,h3⟩
end
end
section
theorem zlv {P:Program} {w:World} {K:PySem.W.Frag} {mg mb:Str->Option Value} {CX:CXT} {k:Nat} {fa a:Addr} {fd:FuncData} {x:Str} {sp:Sp} {s₁:Shared} {vs:List Value} {ns:List Int}
  (KX:K.In s₁.heap) (hns:s₁.heap.Ns mainGlobals mg) (hb:s₁.heap.Ns builtinsNs mb) (hbb:∀ x:Str,x≠"__name__"->mb x=bootBuiltins x) (hlim:s₁.heap.NoLimit) (hg:s₁.gens=#[])
  (ha:s₁.heap.get? a=some { cls:=.type "list",data:=.seq vs.toArray }) (hi:IntsAre vs ns) (hl:ns.length<=sizeLine) (hr:Room k callerA)
  (F:∀ base:Heap,K.In base->base.Ns mainGlobals mg->FnOk P w K mg base CX k fa fd [x] sp) (hbind:∀ (s:Shared) (u:Value),BindsTo s fd ⟨[u],[]⟩ [(x,u)])
  (hsp:∀ H:Hp,Only H->Ls K H a (ns.map V.int)->sp [.ref a] H (fun v _=>v=.bl true) fun _ _ _=>False)
  (hCX:∀ H e s',CX [] H s₁ (fun _ _ _=>False) e s'->False) :
  codeAny (model P w) callerA (.call (.ref fa) ⟨[.ref a],[]⟩) (fun r s'=>r=.ok (.ret (.bool true))/\OldK s₁.heap s'.heap/\s'.os=s₁.os/\AllBare s'.gens) s₁:=by
 have rv:=zf4 hi;have lenV:=hi.length;have core:∀ H:Hp,Only H->Ls K H a (ns.map V.int)->HOk P w H s₁.heap->(∀ b,H b≠none->b=a)->(H a≠none->K.lookup a=none) ->
   codeAny (model P w) callerA (.call (.ref fa) ⟨[.ref a],[]⟩) (fun r s'=>r=.ok (.ret (.bool true))/\OldK s₁.heap s'.heap/\s'.os=s₁.os/\AllBare s'.gens) s₁:=by
  intro H hO hS hok hA hK;have base_of:∀ {b:Addr} {o:Obj},s₁.heap.get? b=some o->H b=none->(yd2 s₁.heap H).get? b=some o:=fun e n=>zo5 e n;have noA:∀ {b:Addr} {o:Obj} {es:Array DictEntry} {ep:Nat},s₁.heap.get? b=some o->o.data=.dict es ep->H b=none:=fun {b o es ep} e d=>by
   cases q:H b with
   | none=>rfl
   | some u =>have e':b=a:=hA b (by rw [q];simp);subst e';rw [ha] at e;cases e;have d':Data.seq vs.toArray _=Data.dict es ep:=d;cases d'
  have nsK:∀ {b:Addr} {m:Str->Option Value},s₁.heap.Ns b m->(yd2 s₁.heap H).Ns b m:=fun {b m} ⟨o,es,ep,e,d,r⟩=>⟨o,es,ep,base_of e (noA e d),d,r⟩;have hKb:K.In (yd2 s₁.heap H):=fun b o e=>base_of (KX b o e) (by
   cases q:H b with
   | none=>rfl
   | some u =>have e':b=a:=hA b (by rw [q];simp);subst e';rw [hK (by rw [q];simp)] at e;cases e)
  have hM:Mod K mg (yd2 s₁.heap H):=⟨hKb,nsK hns,⟨mb,nsK hb,hbb⟩,let ⟨mc,h1,h2⟩:=hlim;⟨mc,nsK h1,h2⟩⟩;have e0:Env0 P w K mg (yd2 s₁.heap H) callerA [] s₁ H:=⟨rfl,hM,fun b o e=>zsi e,Nat.le_of_eq (zme _ _),trivial,fun b hb=>absurd (show b∈([]:List Addr) from hb) (by simp),hok,.of_eq hg⟩;refine codeAny_mono ((F _ hKb (nsK hns)).run callerA [] s₁ H ⟨[.ref a],[]⟩ [.ref a] [.ref a] _ _ hr e0 (hbind s₁ (.ref a)) (.cons rfl .nil) (hsp H hO hS)) fun r s' h=>?_;cases r with
  | error e=>exact (hCX H e s' h).elim
  | ok fl =>
   cases fl with
   | next=>exact False.elim h
   | brk=>exact False.elim h
   | cont=>exact False.elim h
   | ret u =>
    obtain ⟨v,H',os,bare,un,hok',r',q⟩:=h;have q':v=.bl true:=q;subst q';obtain rfl:u=Value.bool true:=r';refine ⟨rfl,OldK.of_keep fun b o e=>?_,os,bare⟩;cases q:H b with
    | none=>exact un.keep b o e q (by intro z;exact absurd (show b∈([]:List Addr) from z) (by simp)) (by simp)
    | some u =>
     rcases hO b with z | ⟨ob,xs,z⟩
     ·rw [q] at z;cases z
     ·have z2:=un.frzs b ob _ z;obtain ⟨e1,_⟩:=hok b _ z;obtain ⟨e2,_⟩:=hok' b _ z2;rw [e] at e1;cases e1;exact e2
 cases hk:K.lookup a with
 | some o =>have e:=KX a o hk;rw [ha] at e;cases e;refine core (fun _=>none) (fun _=>.inl rfl) (.inr ⟨vs.toArray,_,hk,by rw [List.size_toArray,lenV];exact hl,by simpa using rv⟩) (fun b u z=>by have z':(none:Option HO)=some u:=z;cases z') (fun b z=>absurd rfl z) fun z=>absurd rfl z
 | none =>
  refine core (fun b=>if b=a then some (.frz { cls:=.type "list",data:=.seq vs.toArray } (.lst (ns.map V.int))) else none) (fun b=>?_) (.inl (.inr ⟨{ cls:=.type "list",data:=.seq vs.toArray },if_pos rfl⟩)) (fun b u z=>?_) (fun b z=>?_) fun _=>hk
  ·by_cases hb:b=a
   ·exact .inr ⟨_,_,if_pos hb⟩
   ·exact .inl (if_neg hb)
  ·by_cases hb:b=a
   ·have z':=(if_pos hb).symm.trans z;cases z';subst hb;exact ⟨ha,by rw [zya];exact hl,vs,_,rv,ha⟩
   ·have z':=(if_neg hb).symm.trans z;cases z'
  ·by_cases hb:b=a
   ·exact hb
   ·exact absurd (if_neg hb) z
end
section
variable {h:Heap} {x:Str} {st:Stmt} {fs:List (Str × Stmt)} {bs:List Str} {cs:List (Str × T)} {mg:Str->Option Value}
def ycv (h:Heap) (ns:Addr) (x:Str):Option (Option Value):=match h.get? ns with
 | some ⟨_,_,.dict es _,_⟩=>(match es.toList.find? (·.key.isStr x) with
   | some e=>some (some e.val)
   | none=>if es.toList.any (·.refKey) then none else some none)
 | _=>none
structure FnV where
 name:Str
 qual:Str
 params:Arguments
 body:FuncBody
 scope:Scope
 globals:Addr
 closure:List (Str × Addr)
 defaults:Value
 builtins:Addr
def fnV (f:FuncData):FnV:=⟨f.name,f.qualname,f.params,f.body,f.scope,f.globals,f.closure,f.defaults,f.builtins⟩
def ydx (x:Str) (st:Stmt):FnV:=fnV (PySem.W.fnOf x x (zcg st) (zbr st) (zab st) .none .none .none .none none .none .none)
def zg9 (h:Heap) (cd:Value) (q:Str):Bool:=match cd with
 | .ref c=>(match h.get? c with
   | some ⟨_,_,.fields vs,_⟩=>(match vs.toList with | _::.str n _::_=>n==q | _=>false)
   | _=>false)
 | _=>false
def ydz (h:Heap) (x:Str):Option (FnV × Bool):=match ycv h mainGlobals x with
 | some (some (.ref a))=>(match h.get? a with
   | some ⟨_,_,.func f,_⟩=>some (fnV f,zg9 h f.code x)
   | _=>none)
 | _=>none
def seeT (h:Heap):Nat->Value->Option T
 | _,.none=>some .non
 | _,.bool b=>some (.bl b)
 | _,.int i _=>some (.int i)
 | _,.str x _=>some (.str x)
 | _,_=>none
def yfu (h:Heap) (x:Str):Option T:=match ycv h mainGlobals x with
 | some (some v)=>seeT h 4 v
 | _=>none
def ybc (fs bs cs:List Str) (h:Heap):List (Option (FnV × Bool)) × List (Option (Option Value)) × List (Option T):=(fs.map (ydz h),bs.map (ycv h mainGlobals),cs.map (yfu h))
def ybg (fs:List (Str × Stmt)) (bs:List Str) (cs:List (Str × T)):List (Option (FnV × Bool)) × List (Option (Option Value)) × List (Option T):=(fs.map fun p=>some (ydx p.1 p.2,true),bs.map fun _=>some none,cs.map fun p=>some p.2)
def zkq (fs:List (Str × Stmt)) (bs:List Str) (cs:List (Str × T)):PySem.W.Hook :=
 ⟨_,fun s=>ybc (fs.map (·.1)) bs (cs.map (·.1)) s.heap,fun _=>ybg fs bs cs,fun _ h=>∃ h0:Heap,(∀ b o,h0.get? b=some o->h.get? b=some o)/\ybc (fs.map (·.1)) bs (cs.map (·.1)) h0=ybg fs bs cs,
  fun _ s e=>⟨s.heap,fun _ _ e=>e,e⟩,fun _ _ _ ⟨h0,a,b⟩ k=>⟨h0,fun c o e=>k c o (a c o e),b⟩⟩
def KH (h:Heap):PySem.W.Frag:=(List.range h.objs.size).filterMap fun a=>(h.get? a).map fun o=>(a,o)
theorem zv9 {a:Addr} {o:Obj} (e:h.get? a=some o):a<h.objs.size:=by
 by_cases hl:a<h.objs.size
 ·exact hl
 ·have:h.objs[a]?=none:=Array.getElem?_eq_none (Nat.le_of_not_lt hl);unfold Heap.get? at e;rw [this] at e;cases e
theorem zls {f:Addr->Option Obj} {a:Addr}:∀ l:List Addr,((l.filterMap fun b=>(f b).map fun o=>(b,o)).lookup a)=if a∈l then f a else none
 | []=>rfl
 | b::l=>by
  have ih:=zls (f:=f) (a:=a) l;rw [zyy];by_cases hab:a=b
  ·subst hab;cases hf:f a with
   | none=>simp only [hf,Option.map_none];rw [ih,hf];simp
   | some o=>simp only [hf,xms];rw [List.lookup_cons];simp
  ·cases hf:f b with
   | none=>simp only [hf,Option.map_none];rw [ih];simp [hab]
   | some o =>simp only [hf,xms];rw [List.lookup_cons,show (a==b)=false by simpa using hab,ih];simp [hab]
theorem zfq (h:Heap) (a:Addr):(KH h).lookup a=h.get? a:=by
 unfold KH;rw [zls];split
 ·rfl
 ·rename_i hn;cases e:h.get? a with
  | none=>rfl
  | some o=>exact absurd (zzd.mpr (zv9 e)) hn
theorem zxm {h':Heap} (k:∀ b o,h.get? b=some o->h'.get? b=some o):(KH h).In h':=fun a o e=>k a o (by rw [<- zfq];exact e)
theorem zo2 {ns:Addr}:PySem.W.nsIn (KH h) ns x=ycv h ns x:=by unfold PySem.W.nsIn ycv;rw [zfq];rfl
theorem zsq {cd:Value} {q:Str}:PySem.W.codeIn (KH h) cd q=zg9 h cd q:=by
 unfold PySem.W.codeIn zg9;cases cd with
 | ref c=>simp only [zfq];rfl
 | _=>rfl
theorem zkp (e:ydz h x=some (ydx x st,true)):∃ f fd,PySem.W.nsIn (KH h) mainGlobals x=some (some (.ref f))/\Fun (KH h) x x st f fd:=by
 unfold ydz at e;split at e
 ·rename_i a ha;split at e
  ·rename_i oc od f sl ho;have e:=zyk e;have e1:=zym Prod.fst e;have e2:=zym Prod.snd e;dsimp only at e1 e2;obtain ⟨n,q,p,b,sc,g,cl,df,kd,doc,pm,an,cd,ct,bi⟩:=f;unfold ydx fnV at e1;dsimp only [PySem.W.fnOf] at e1;obtain ⟨rfl,rfl,rfl,rfl,rfl,rfl,rfl,rfl,rfl⟩:=FnV.mk.inj e1;have hl:(KH h).lookup a=some ⟨oc,od,.func (PySem.W.fnOf q q (zcg st) (zbr st) (zab st) .none kd doc pm an cd ct),sl⟩:=by rw [zfq];exact ho
   refine ⟨a,_,by rw [zo2];exact ha,zwb hl (by rw [zsq];exact e2) ?_⟩;simp only [PySem.W.keepIn,hl]
  ·cases e
 ·cases e
theorem zp4 (e:ybc (fs.map (·.1)) bs (cs.map (·.1)) h=ybg fs bs cs) {p:Str × Stmt} (hp:p∈fs):ydz h p.1=some (ydx p.1 p.2,true):=by have e1:=zym Prod.fst e;unfold ybc ybg at e1;dsimp only at e1;rw [zy3] at e1;exact List.map_inj_left.mp e1 p hp
theorem ztu (e:ybc (fs.map (·.1)) bs (cs.map (·.1)) h=ybg fs bs cs) (hx:x∈bs):ycv h mainGlobals x=some none:=by have e1:=zym (fun p=>p.2.1) e;unfold ybc ybg at e1;dsimp only at e1;exact List.map_inj_left.mp e1 x hx
theorem zw3 (e:ybc (fs.map (·.1)) bs (cs.map (·.1)) h=ybg fs bs cs) {p:Str × T} (hp:p∈cs):yfu h p.1=some p.2:=by have e1:=zym (fun p=>p.2.2) e;unfold ybc ybg at e1;dsimp only at e1;rw [zy3] at e1;exact List.map_inj_left.mp e1 p hp
theorem zre:∀ (n:Nat) (v:Value) (t:T),seeT h n v=some t->∃ x,RelV x v/\∀ F,Rep (KH h) F t x
 | n,.none,t,e=>by cases n<;>(cases e;exact ⟨.non,rfl,fun _=>rfl⟩)
 | n,.bool b,t,e=>by cases n<;>(cases e;exact ⟨.bl b,rfl,fun _=>rfl⟩)
 | n,.int i k,t,e=>by cases n<;>(cases e;exact ⟨.int i,⟨k,rfl⟩,fun _=>rfl⟩)
 | n,.str x k,t,e=>by cases n<;>(cases e;exact ⟨.str x,⟨k,rfl⟩,fun _=>rfl⟩)
 | n,.ref a,t,e=>by cases n<;>cases e
 | n,.float ..,t,e=>by cases n<;>cases e
 | n,.ellipsis,t,e=>by cases n<;>cases e
 | n,.notImplemented,t,e=>by cases n<;>cases e
 | n,.bytes ..,t,e=>by cases n<;>cases e
 | n,.type ..,t,e=>by cases n<;>cases e
 | n,.builtin ..,t,e=>by cases n<;>cases e
theorem zrf {h0:Heap} {t:T} (KX:(KH h0).In h) (G:h.Ns mainGlobals mg) (e:yfu h0 x=some t):∃ u v,mg x=some u/\RelV v u/\∀ F,Rep (KH h0) F t v:=by
 unfold yfu at e;split at e
 ·rename_i v hv;obtain ⟨y,a,b⟩:=zre _ _ _ e;exact ⟨v,y,PySem.W.mg_of KX G (by rw [zo2];exact hv),a,b⟩
 ·cases e
structure St (x:Str) (D:Fd) (st:Stmt) (ps:List Str):Prop where
 sc:FnScope (zbf (zab st)) ps (zab st)
 np:ps.length=D.np
 ns:(zbf (zab st)).length=D.ns
 tr:ydq 60 ⟨zab st,zbf (zab st)⟩ (zbr st)=some D.body
 bi:∀ (kV doc pm:Value) (an:Option Addr) (cdv ct:Value) (us:List Value),us.length=ps.length->bindArgs (PySem.W.fnOf x x (zcg st) (zbr st) (zab st) .none kV doc pm an cdv ct) ⟨us,[]⟩=pure (ps.zip us)
abbrev Tab:=List (Str × Fd × Stmt × List Str)
def Tab.fns (t:Tab):List (Str × Fd):=t.map fun p=>(p.1,p.2.1)
def Tab.sts (t:Tab):List (Str × Stmt):=t.map fun p=>(p.1,p.2.2.1)
def Tab.pr (t:Tab) (cs:List (Str × T)):Pr:=⟨fun f=>t.fns.lookup f,fun x=>cs.lookup x⟩
theorem zfl {α:Type}:∀ {l:List (Str × α)} {f:Str} {D:α},l.lookup f=some D->(f,D)∈l
 | [],_,_,h=>by cases h
 | (g,E)::l,f,D,h=>by
  rw [zy0] at h;split at h
  ·rename_i e;cases h;rw [eq_of_beq e];exact zyc
  ·exact zx8 _ (zfl h)
theorem zvb {F H:Hp} (e:ycv h mainGlobals "_law_spoilt"=some none):Tbk (KH h) F H:=fun p q=>by unfold yfg at q;rw [zo2,e] at q;cases q
theorem zno {l:PySem.W.OpenLaw} {n k:Nat} {q:Program} {loose:List Str} {XP:(Str->Option Value)->Heap->Prop} {d:DefRec} {R:Pr}
  (hn:l.most=some n) (hn2:n<=sizeLine) (hdf:d.params.defaults=[]) (hr:Room k callerA)
  (F:∀ (w:World) (mg:Str->Option Value) (fa:Addr) (h0 h:Heap),(KH h0).In h->ybc (fs.map (·.1)) bs (cs.map (·.1)) h0=ybg fs bs cs->h.Ns mainGlobals mg->mg d.name=some (.ref fa) ->
   ∃ fd:FuncData,(∀ (s:Shared) (u:Value),BindsTo s fd ⟨[u],[]⟩ [(x,u)])/\∀ base:Heap,(KH h0).In base->base.Ns mainGlobals mg->FnOk l.prog w (KH h0) mg base CX0 k fa fd [x] (spT (KH h0) (run R k "law")))
  (hsp:("_law_spoilt":Str)∈bs) (law:∀ ns:List Int,ns.length<=n->run R k "law" [.lst (ns.map .int)]=some (.bl true)) :
  PySem.W.WalkO q loose XP (zkq fs bs cs).says l.row.toRowW d [] (fun f vs=>PySem.call f vs):=by
 refine Att.attach_call hn hdf fun w s₀ s₁ mg mb fa o pm cd doc a vs ns G Y ho hd hcd hmg hobj hints hlen hg=>?_;obtain ⟨h0,k0,e0⟩:=Y;have KX:=zxm k0;obtain ⟨fd,hb,hF⟩:=F w mg fa h0 _ KX e0 G.T.g hmg;exact zlv KX G.T.g G.T.b G.T.builtins G.T.nolimit hg hobj hints (zyr hlen hn2) hr hF hb (fun H hO hS=>by
  have ri:∀ ns:List Int,Reps (KH h0) H (ns.map .int) (ns.map V.int):=fun ns=>by
   induction ns with
   | nil=>exact rfl
   | cons i r ih=>exact ⟨_,_,rfl,rfl,ih⟩
  exact ⟨H,[.lst (ns.map .int)],.bl true,Same.refl H,zvb (ztu e0 hsp),⟨_,_,rfl,⟨a,_,rfl,hS,ri ns⟩,rfl⟩,law ns hlen,fun v F' H' _ r=>r⟩) fun H e s' z=>z
theorem zth {P:Program} {w:World} {fa:Addr} {h0:Heap} {tab:Tab} {D:Fd} {k:Nat} (hst:∀ p∈tab,St p.1 p.2.1 p.2.2.1 p.2.2.2) (KX:(KH h0).In h)
  (e0:ybc (tab.sts.map (·.1)) ("_law_spoilt"::bnames) (cs.map (·.1)) h0=ybg tab.sts ("_law_spoilt"::bnames) cs) (G:h.Ns mainGlobals mg) (hfa:mg "law"=some (.ref fa)) (hl:(("law":Str),D,st,[x])∈tab) (hD:tab.fns.lookup ("law":Str)=some D) :
  ∃ fd:FuncData,(∀ (s:Shared) (u:Value),BindsTo s fd ⟨[u],[]⟩ [(x,u)])/\∀ base:Heap,(KH h0).In base->base.Ns mainGlobals mg->FnOk P w (KH h0) mg base CX0 (k+1) fa fd [x] (spT (KH h0) (run (tab.pr cs) (k+1) "law")):=by
 have nob:∀ x∈bnames,mg x=none:=fun x hx=>PySem.W.mg_none_of KX G (by rw [zo2];exact ztu e0 (zx8 _ hx));have C:∀ x t,(tab.pr cs).con x=some t->∃ u v,mg x=some u/\RelV v u/\∀ F,Rep (KH h0) F t v:=fun x t h=>zrf KX G (zw3 (p:=(x,t)) e0 (zfl h));have one:∀ p∈tab,∃ a fd,FnD (KH h0) mg p.1 p.2.1 p.2.2.1 a fd p.2.2.2:=fun p hp=>by obtain ⟨f,fd,h1,F⟩:=zkp (zp4 (p:=(p.1,p.2.2.1)) e0 (List.mem_map.mpr ⟨p,hp,rfl⟩));have S:=hst p hp;exact ⟨f,fd,⟨_,_,F⟩,S.sc,S.np,S.ns,S.tr,PySem.W.mg_of KX G h1,F.kp,F.binds S.bi⟩
 have L:∀ f D,(tab.pr cs).fn f=some D->∃ st a fd ps,FnD (KH h0) mg f D st a fd ps:=fun f D hf=>by obtain ⟨p,hp,e⟩:=omm (zfl (show tab.fns.lookup f=some D from hf));cases e;obtain ⟨a,fd,M⟩:=one p hp;exact ⟨_,_,_,_,M⟩
 obtain ⟨f,fd,h1,F⟩:=zkp (zp4 (p:=(("law":Str),st)) e0 (List.mem_map.mpr ⟨(("law":Str),D,st,[x]),hl,rfl⟩));have hm:=PySem.W.mg_of KX G h1;rw [hfa] at hm;cases hm;have S:=hst _ hl;have M:FnD (KH h0) mg "law" D st fa fd [x]:=⟨⟨_,_,F⟩,S.sc,S.np,S.ns,S.tr,hfa,F.kp,F.binds S.bi⟩;refine ⟨fd,fun s u=>?_,fun base _ _=>zqk (zql (fun f D _ hf=>.inl (L f D hf)) nob C k) nob C hD M⟩;obtain ⟨oc,od,kV,doc,pm,an,cdv,ct,osl,rfl,_,_⟩:=F.ex;exact .of_eq (S.bi kV doc pm an cdv ct [u] rfl)
theorem zh7:∀ (ps:List Str) (us:List Value),us.length=ps.length->∀ n∈ps,((ps.zip us).lookup n).isNone=false
 | p::ps,u::us,hl,n,hn=>by
  rw [List.zip_cons_cons,zy0];cases e:n==p with
  | true=>rfl
  | false=>exact zh7 ps us (by simpa using hl) n ((omc hn).resolve_left fun z=>by subst z;simp at e)
theorem zpz:∀ (ps:List Str) (us:List Value),us.length=ps.length->ps.Nodup->ps.filterMap (fun n=>((ps.zip us).lookup n).map (n,·))=ps.zip us
 | [],us,_,_=>by cases us<;>rfl
 | p::ps,u::us,hl,hn=>by
  rw [List.nodup_cons] at hn;rw [List.zip_cons_cons,zyy,zy0,beq_self_eq_true];simp only [xms];congr 1;refine Eq.trans (zi5 fun n h=>?_) (zpz ps us (by simpa using hl) hn.2);rw [zy0];cases e:n==p with
  | true=>rw [eq_of_beq e] at h;exact absurd h hn.1
  | false=>rfl
theorem zj8 {fd:FuncData} {as:List Arg} {us:List Value} (h:fd.params=⟨[],as,none,[],[],none,[]⟩) (hd:fd.defaults=.none) (hn:(as.map (·.arg)).Nodup) (hl:us.length=(as.map (·.arg)).length):bindArgs fd ⟨us,[]⟩=pure ((as.map (·.arg)).zip us):=by
 have e1:((as.map (·.arg)).filter fun n=>(((as.map (·.arg)).zip us).lookup n).isNone)=[]:=List.filter_eq_nil_iff.mpr fun n hn=>by rw [zh7 _ us hl n hn];simp
 have e2:=zpz _ us hl hn;have e3:seqItems? Value.none=(pure none:Sem _):=rfl;unfold bindArgs;rw [h,hd];dsimp only;generalize as.map (·.arg)=ps at hn hl e1 e2 ⊢;simp only [xmn,List.nil_append,List.append_nil,List.forIn_nil,pure_bind,e3,Option.getD_none,List.length_nil,hl,gt_iff_lt,Nat.lt_irrefl,decide_false,Bool.false_and,Bool.false_eq_true,if_false,Nat.zero_sub,List.drop_zero,Nat.sub_zero,List.take_length,e1,List.isEmpty_nil,Bool.not_true,List.drop_length,List.zip_nil_left,e2]
 done
def ygp (D:Fd) (st:Stmt) (ps:List Str):Bool :=
 (zab st).kind==.function&&!(zab st).isCoroutine&&!(zab st).isGenerator&&decide ((zbf (zab st)).Nodup)&&decide ((zbf (zab st)).take ps.length=ps) &&
 (ps.all fun x=>(zab st).names.lookup x==some .local||(zab st).names.lookup x==some .cell)&&((zab st).names.all fun y=>!(y.2==.free)) &&
 decide (ps.length=D.np)&&decide ((zbf (zab st)).length=D.ns) &&
 (match zcg st with | ⟨[],as,none,[],[],none,[]⟩=>decide (as.map (·.arg)=ps) | _=>false)
theorem zw0 {D:Fd} {ps:List Str} (h:ygp D st ps=true) (tr:ydq 60 ⟨zab st,zbf (zab st)⟩ (zbr st)=some D.body):St x D st ps:=by
 unfold ygp at h;simp only [Bool.and_eq_true,Bool.not_eq_true',decide_eq_true_eq,beq_iff_eq] at h;obtain ⟨⟨⟨⟨⟨⟨⟨⟨⟨h1,h2⟩,h3⟩,h4⟩,h5⟩,h6⟩,h7⟩,h8⟩,h9⟩,h10⟩:=h;have hnd:ps.Nodup:=by rw [<- h5];exact h4.sublist (List.take_sublist _ _)
 refine ⟨⟨h1,h2,h3,h4,h5,fun y hy=>by simpa using oml h6 y hy,fun y hy=>by simpa using oml h7 y hy⟩,h8,h9,tr,fun kV doc pm an cdv ct us hl=>?_⟩;split at h10
 ·rename_i as ha;rw [zze] at h10;subst h10;exact zj8 ha rfl hnd hl
 ·cases h10
end
end Ev
namespace Ev.K04
open PySem
section
variable {P:Pr}
noncomputable def zal:Fd:=⟨3,4,[.asg 3 (.comp (.idx (.var 0) (.cst (.int 0))) 1 .plain [.idx (.var 0) (.cst (.int 1))] none),
  .ret (.blt .toTuple (.comp (.idx (.var 2) (.mth .index (.var 4) (.var 0))) 1 .plain [.var 2] none))]⟩
noncomputable def zbj:Fd:=⟨3,4,[.asg 3 (.idx (.var 1) (.cst (.int 0))),
  .ite (.cmp .eq (.var 3) (.cst (.str "not"))) [.ret (.call "opposite" [.call "holds" [.var 0,.idx (.var 1) (.cst (.int 1)),.var 2]])] [],
  .ite (.lor (.cmp .eq (.var 3) (.cst (.str "and"))) (.cmp .eq (.var 3) (.cst (.str "or")))) [.ret (.call "joined" [.cmp .eq (.var 3) (.cst (.str "or")),.comp (.call "holds" [.var 1,.var 0,.var 3]) 1 .plain [.sli (.var 1) (some (.cst (.int 1))) none] none])] [],
  .ite (.cmp .eq (.var 3) (.cst (.str "empty"))) [.ret (.cmp .eq (.call "worths_of" [.var 0,.var 2,.sli (.var 1) (some (.cst (.int 1))) none]) (.tup [.cst .non]))] [],
  .ite (.cmp .eq (.var 3) (.cst (.str "is"))) [.ret (.call "compared" [.var 3,.bin .add (.call "worths_of" [.var 0,.var 2,.sli (.var 1) (some (.cst (.int 1))) (some (.cst (.int 2)))]) (.sli (.var 1) (some (.cst (.int 2))) none)])] [],
  .ret (.call "compared" [.var 3,.call "worths_of" [.var 0,.var 2,.sli (.var 1) (some (.cst (.int 1))) none]])]⟩
noncomputable def zbs:Fd:=⟨1,1,[.ite (.cmp .isN (.var 0) (.cst .non)) [.ret (.cst .non)] [],
  .ret (.lnot (.var 0))]⟩
noncomputable def zc9:Fd:=⟨2,2,[.ite (.cmp .isin (.var 0) (.var 1)) [.ret (.var 0)] [],
  .ite (.cmp .isin (.cst .non) (.var 1)) [.ret (.cst .non)] [],
  .ret (.lnot (.var 0))]⟩
noncomputable def za3:Fd:=⟨2,2,[.ite (.cmp .isin (.cst .non) (.var 1)) [.ret (.cst .non)] [],
  .ite (.cmp .eq (.var 0) (.cst (.str "is"))) [.ret (.cmp .eq (.idx (.var 1) (.cst (.int 0))) (.idx (.var 1) (.cst (.int 1))))] [],
  .ret (.cmp .lt (.idx (.var 1) (.cst (.int 0))) (.idx (.var 1) (.cst (.int 1))))]⟩
noncomputable def zbc:Fd:=⟨2,2,[.ite (.cmp .lt (.var 1) (.blt .len (.var 0))) [.ret (.idx (.var 0) (.var 1))] [],
  .ret (.cst (.int 0))]⟩
noncomputable def zch:Fd:=⟨2,3,[.asg 2 (.bin .mod (.bin .mul (.bin .add (.bin .add (.call "_law_cell_at" [.var 0,.var 1]) (.bin .mul (.cst (.int 7919)) (.var 1))) (.cst (.int 1))) (.cst (.int 48271))) (.cst (.int 2147483647))),
  .ret (.bin .mod (.bin .add (.bin .add (.bin .mul (.var 2) (.var 2)) (.bin .mul (.cst (.int 7)) (.var 2))) (.var 1)) (.cst (.int 2147483629)))]⟩
noncomputable def zan:Fd:=⟨2,3,[.asg 2 (.bin .mod (.bin .mul (.bin .add (.bin .add (.var 0) (.bin .mul (.cst (.int 104729)) (.var 1))) (.cst (.int 17))) (.cst (.int 69621))) (.cst (.int 2147483647))),
  .ret (.bin .mod (.bin .add (.bin .add (.bin .mul (.var 2) (.var 2)) (.bin .mul (.cst (.int 3)) (.var 2))) (.var 1)) (.cst (.int 2147483629)))]⟩
noncomputable def za9:Fd:=⟨1,1,[.ret (.comp (.idx (.var 0) (.cst (.int 0))) 1 .plain [.idx (.var 0) (.cst (.int 1))] none)]⟩
noncomputable def zcy:Fd:=⟨2,2,[.ret (.idx (.comp (.var 0) 1 .plain [.var 0] (some (.cmp .eq (.idx (.var 0) (.cst (.int 0))) (.var 2)))) (.cst (.int 0)))]⟩
noncomputable def zb9:Fd:=⟨2,2,[.ret (.blt .toTuple (.comp (.idx (.var 2) (.mth .index (.call "_law_names" [.var 1]) (.var 0))) 1 .plain [.idx (.var 0) (.cst (.int 2))] none))]⟩
noncomputable def zbw:Fd:=⟨3,4,[.asg 3 (.blt .toTuple (.comp (.idx (.var 2) (.mth .index (.call "_law_names" [.var 1]) (.var 0))) 1 .plain [.var 2] none)),
  .ret (.idx (.lst [.var 3,.cst .non]) (.blt .toInt (.cmp .isin (.cst .non) (.var 3))))]⟩
noncomputable def zdk:Fd:=⟨3,3,[.ret (.idx (.var 1) (.mth .index (.comp (.idx (.var 0) (.cst (.int 0))) 1 .plain [.var 0] none) (.var 2)))]⟩
noncomputable def zau:Fd:=⟨3,9,[.asg 3 (.idx (.var 0) (.cst (.int 1))),
  .asg 4 (.idx (.var 3) (.bin .mod (.bin .fdiv (.var 1) (.cst (.int 8))) (.blt .len (.var 3)))),
  .asg 5 (.bin .mod (.var 1) (.cst (.int 8))),
  .ite (.land (.cmp .gt (.var 2) (.cst (.int 1))) (.cmp .gt (.var 5) (.cst (.int 4)))) [.asg 6 (.comp (.call "_law_test" [.var 1,.bin .fdiv (.call "_law_drawn" [.var 2,.var 0]) (.cst (.int 4)),.bin .sub (.var 3) (.cst (.int 1))]) 1 .plain [.tup [.cst (.int 1),.cst (.int 2)]] none),
  .ret (.idx (.lst [.tup [.cst (.str "not"),.idx (.var 6) (.cst (.int 0))],.tup [.cst (.str "and"),.idx (.var 6) (.cst (.int 0)),.idx (.var 6) (.cst (.int 1))],.tup [.cst (.str "or"),.idx (.var 6) (.cst (.int 0)),.idx (.var 6) (.cst (.int 1))]]) (.bin .sub (.var 5) (.cst (.int 5))))] [],
  .ite (.cmp .eq (.var 5) (.cst (.int 0))) [.ret (.tup [.cst (.str "empty"),.idx (.var 4) (.cst (.int 0))])] [],
  .asg 7 (.comp (.idx (.var 0) (.cst (.int 0))) 1 .plain [.var 3] (some (.cmp .eq (.idx (.var 0) (.cst (.int 1))) (.idx (.var 5) (.cst (.int 1)))))),
  .ite (.cmp .eq (.var 5) (.cst (.int 1))) [.ret (.tup [.cst (.str "below"),.idx (.var 4) (.cst (.int 0)),.idx (.var 7) (.bin .mod (.bin .fdiv (.var 1) (.cst (.int 64))) (.blt .len (.var 7)))])] [],
  .asg 8 (.idx (.lst [.tup [.cst (.int 0),.cst (.int 1),.cst (.int 2),.cst (.int 3),.neg (.cst (.int 5)),.cst (.int 999)],.tup [.cst (.str ""),.cst (.str "a"),.cst (.str "b"),.cst (.str "ab"),.cst (.str "x9"),.cst (.str "zzzzzz")]]) (.blt .toInt (.cmp .eq (.idx (.var 4) (.cst (.int 1))) (.cst (.str "text"))))),
  .ret (.tup [.cst (.str "is"),.idx (.var 4) (.cst (.int 0)),.idx (.var 8) (.bin .mod (.bin .fdiv (.var 1) (.cst (.int 64))) (.cst (.int 6)))])]⟩
noncomputable def zbd:Fd:=⟨2,10,[.asg 2 (.tup [.cst (.str "whole"),.cst (.str "whole"),.cst (.str "text"),.cst (.str "whole"),.cst (.str "text"),.cst (.str "whole")]),
  .asg 3 (.lst [.tup [.cst (.str "id"),.idx (.var 2) (.bin .mod (.var 1) (.cst (.int 6))),.cst (.bl false)]]),
  .loop [4,5] .enum [.tup [.cst (.str "n"),.cst (.str "t"),.cst (.str "u")]] [.asg 6 (.bin .fdiv (.call "_law_drawn" [.var 1,.bin .add (.cst (.int 10)) (.var 4)]) (.cst (.int 4))),
  .ite (.cmp .gt (.bin .mod (.var 6) (.cst (.int 4))) (.cst (.int 0))) [.app 3 (.tup [.var 5,.idx (.var 2) (.bin .mod (.bin .fdiv (.var 6) (.cst (.int 4))) (.cst (.int 6))),.cmp .gt (.bin .mod (.bin .fdiv (.var 6) (.cst (.int 32))) (.cst (.int 3))) (.cst (.int 0))])] []],
  .asg 7 (.comp (.idx (.var 0) (.cst (.int 0))) 1 .plain [.var 3] (some (.lnot (.tru (.idx (.var 0) (.cst (.int 2))))))),
  .asg 8 (.tup [.cst (.str "id")]),
  .ite (.land (.cmp .eq (.bin .mod (.bin .fdiv (.var 1) (.cst (.int 8))) (.cst (.int 4))) (.cst (.int 0))) (.cmp .gt (.blt .len (.var 7)) (.cst (.int 1)))) [.asg 8 (.idx (.lst [.tup [.cst (.str "id"),.idx (.var 7) (.cst (.int 1))],.tup [.idx (.var 7) (.cst (.int 1)),.cst (.str "id")]]) (.bin .mod (.bin .fdiv (.var 1) (.cst (.int 32))) (.cst (.int 2))))] [],
  .asg 9 (.bin .mod (.bin .fdiv (.var 1) (.cst (.int 64))) (.blt .len (.var 3))),
  .ret (.tup [.var 0,.blt .toTuple (.bin .add (.sli (.var 3) (some (.var 9)) none) (.sli (.var 3) none (some (.var 9)))),.var 8,.tup []])]⟩
noncomputable def za8:Fd:=⟨2,6,[.asg 2 (.lst [.tup []]),
  .loop [3] .plain [.var 1] [.asg 4 (.lst []),
  .loop [5] .plain [.var 2] [.asg 4 (.bin .add (.var 4) (.comp (.bin .add (.var 6) (.tup [.idx (.var 0) (.cst (.int 0))])) 1 .plain [.idx (.var 0) (.cst (.int 1))] (some (.land (.cmp .eq (.idx (.var 0) (.cst (.int 1))) (.var 4)) (.cmp .notin (.idx (.var 0) (.cst (.int 0))) (.var 6))))))],
  .asg 2 (.var 4)],
  .ret (.var 2)]⟩
noncomputable def za2:Fd:=⟨3,11,[.asg 3 (.idx (.var 0) (.bin .mod (.bin .fdiv (.var 2) (.cst (.int 8))) (.blt .len (.var 0)))),
  .asg 4 (.comp (.idx (.comp (.idx (.var 0) (.cst (.int 1))) 1 .plain [.idx (.var 4) (.cst (.int 1))] (some (.cmp .eq (.idx (.var 0) (.cst (.int 0))) (.var 1)))) (.cst (.int 0))) 1 .plain [.idx (.var 3) (.cst (.int 2))] none),
  .asg 5 (.call "_law_pairs" [.var 1,.var 4]),
  .ite (.land (.cmp .lt (.bin .mod (.var 2) (.cst (.int 8))) (.cst (.int 5))) (.cmp .ne (.var 5) (.lst []))) [.asg 6 (.idx (.var 5) (.bin .mod (.bin .fdiv (.var 2) (.cst (.int 64))) (.blt .len (.var 5)))),
  .asg 7 (.idx (.tup [.cst (.str "along"),.cst (.str "stop"),.cst (.str "late"),.cst (.str "gap"),.cst (.str "along"),.cst (.str "gap")]) (.bin .mod (.bin .fdiv (.var 2) (.cst (.int 1024))) (.cst (.int 6)))),
  .asg 8 (.comp (.var 0) 1 .plain [.idx (.var 1) (.cst (.int 1))] (some (.land (.cmp .isin (.idx (.var 0) (.cst (.int 0))) (.var 7)) (.lnot (.tru (.idx (.var 0) (.cst (.int 2)))))))),
  .ite (.land (.cmp .ne (.var 8) (.lst [])) (.cmp .eq (.var 7) (.cst (.str "gap")))) [.asg 7 (.cst (.str "late"))] [],
  .ret (.tup [.cst (.str "refers"),.var 6,.idx (.var 3) (.cst (.int 0)),.var 7])] [],
  .asg 9 (.comp (.idx (.var 0) (.cst (.int 0))) 1 .plain [.idx (.var 1) (.cst (.int 1))] none),
  .ite (.cmp .eq (.bin .mod (.var 2) (.cst (.int 8))) (.cst (.int 5))) [.asg 10 (.bin .mod (.bin .fdiv (.var 2) (.cst (.int 64))) (.blt .len (.var 9))),
  .ret (.tup [.cst (.str "unlike"),.sli (.bin .add (.sli (.var 9) (some (.var 10)) none) (.sli (.var 9) none (some (.var 10)))) none (some (.bin .add (.cst (.int 1)) (.bin .mod (.bin .fdiv (.var 2) (.cst (.int 1024))) (.cst (.int 2)))))])] [],
  .ret (.tup [.cst (.str "check"),.call "_law_test" [.var 1,.bin .fdiv (.var 2) (.cst (.int 64)),.bin .add (.cst (.int 1)) (.bin .mod (.bin .fdiv (.var 2) (.cst (.int 1024))) (.cst (.int 3)))]])]⟩
noncomputable def zb3:Fd:=⟨1,11,[.asg 1 (.lst [.cst (.str "item"),.cst (.str "user"),.cst (.str "box"),.cst (.str "log")]),
  .asg 2 (.bin .mod (.var 0) (.cst (.int 4))),
  .asg 1 (.sli (.bin .add (.sli (.var 1) (some (.var 2)) none) (.sli (.var 1) none (some (.var 2)))) none (some (.idx (.tup [.cst (.int 2),.cst (.int 1),.cst (.int 3),.cst (.int 4),.cst (.int 2),.cst (.int 3)]) (.bin .mod (.bin .fdiv (.var 0) (.cst (.int 4))) (.cst (.int 6)))))),
  .asg 4 (.comp (.call "_law_bare" [.var 1,.bin .fdiv (.call "_law_drawn" [.var 2,.var 0]) (.cst (.int 4))]) 2 .enum [.var 1] none),
  .asg 5 (.tup []),
  .loop [3,6] .enum [.var 4] [.asg 7 (.bin .fdiv (.call "_law_drawn" [.var 0,.bin .add (.cst (.int 20)) (.var 3)]) (.cst (.int 4))),
  .asg 8 (.lst []),
  .loop [9] .range [.idx (.tup [.cst (.int 1),.cst (.int 2),.cst (.int 0),.cst (.int 1),.cst (.int 3)]) (.bin .mod (.var 7) (.cst (.int 5)))] [.app 8 (.call "_law_rule" [.var 4,.var 6,.bin .fdiv (.call "_law_drawn" [.var 7,.var 9]) (.cst (.int 4))])],
  .asg 10 (.blt .toTuple (.comp (.bin .add (.tup [.idx (.var 0) (.cst (.int 0)),.blt .toTuple (.idx (.var 0) (.cst (.int 1)))]) (.sli (.var 0) (some (.cst (.int 2))) none)) 1 .plain [.var 8] none)),
  .asg 5 (.bin .add (.var 5) (.tup [.bin .add (.sli (.var 6) none (some (.cst (.int 3)))) (.tup [.var 10])]))],
  .ret (.var 5)]⟩
noncomputable def zam:Fd:=⟨2,2,[.ite (.land (.tru (.idx (.var 0) (.cst (.int 2)))) (.cmp .eq (.bin .mod (.var 1) (.cst (.int 4))) (.cst (.int 0)))) [.ret (.cst .non)] [],
  .ite (.cmp .eq (.idx (.var 0) (.cst (.int 1))) (.cst (.str "text"))) [.ret (.idx (.lst [.cst (.str "a"),.cst (.str "b"),.cst (.str ""),.cst (.str "ab"),.cst (.str "a"),.cst (.str "x9")]) (.bin .mod (.bin .fdiv (.var 1) (.cst (.int 4))) (.cst (.int 6))))] [],
  .ret (.idx (.lst [.cst (.int 0),.cst (.int 1),.cst (.int 2),.cst (.int 3),.cst (.int 1),.cst (.int 2),.cst (.int 4),.neg (.cst (.int 5))]) (.bin .mod (.bin .fdiv (.var 1) (.cst (.int 4))) (.cst (.int 8))))]⟩
noncomputable def zc8:Fd:=⟨2,2,[.ret (.blt .toTuple (.comp (.call "_law_worth" [.var 1,.bin .fdiv (.call "_law_drawn" [.var 3,.var 0]) (.cst (.int 4))]) 2 .enum [.idx (.var 0) (.cst (.int 1))] none))]⟩
noncomputable def zaq:Fd:=⟨3,6,[.asg 3 (.idx (.var 1) (.cst (.int 0))),
  .ite (.cmp .eq (.var 3) (.cst (.str "not"))) [.ret (.bin .sub (.cst (.int 2)) (.call "_law_level" [.var 0,.idx (.var 1) (.cst (.int 1)),.var 2]))] [],
  .ite (.cmp .eq (.var 3) (.cst (.str "and"))) [.ret (.blt .least (.comp (.call "_law_level" [.var 1,.var 0,.var 3]) 1 .plain [.sli (.var 1) (some (.cst (.int 1))) none] none))] [],
  .ite (.cmp .eq (.var 3) (.cst (.str "or"))) [.ret (.blt .most (.comp (.call "_law_level" [.var 1,.var 0,.var 3]) 1 .plain [.sli (.var 1) (some (.cst (.int 1))) none] none))] [],
  .asg 4 (.idx (.var 2) (.mth .index (.call "_law_names" [.var 0]) (.idx (.var 1) (.cst (.int 1))))),
  .ite (.cmp .eq (.var 3) (.cst (.str "empty"))) [.ret (.bin .mul (.cst (.int 2)) (.blt .toInt (.cmp .isN (.var 4) (.cst .non))))] [],
  .asg 5 (.idx (.var 1) (.cst (.int 2))),
  .ite (.cmp .eq (.var 3) (.cst (.str "below"))) [.asg 5 (.idx (.var 2) (.mth .index (.call "_law_names" [.var 0]) (.idx (.var 1) (.cst (.int 2)))))] [],
  .ite (.lor (.cmp .isN (.var 4) (.cst .non)) (.cmp .isN (.var 5) (.cst .non))) [.ret (.cst (.int 1))] [],
  .ret (.bin .mul (.cst (.int 2)) (.blt .toInt (.lor (.land (.cmp .eq (.var 3) (.cst (.str "is"))) (.cmp .eq (.var 4) (.var 5))) (.land (.cmp .eq (.var 3) (.cst (.str "below"))) (.cmp .lt (.var 4) (.var 5))))))]⟩
theorem zaf {n:Nat} {f:Str} {D:Fd} {ts:List T} (h:P.fn f=some D) (hl:ts.length=D.np):run P (n+1) f ts=zaa (yab (glo P (run P n)) D.body (yal D ts)):=by rw [run,h];simp [hl]
noncomputable def yas (a k:Int):Int:=((a+104729*k+17)*69621%2147483647*((a+104729*k+17)*69621%2147483647)+3*((a+104729*k+17)*69621%2147483647)+k)%2147483629
noncomputable def ybx (a k:Int):Int:=((a+7919*k+1)*48271%2147483647*((a+7919*k+1)*48271%2147483647)+7*((a+7919*k+1)*48271%2147483647)+k)%2147483629
theorem zd5 {a:Int} (h0:0<=a) (h1:a<2147483647):yc1 a=true:=by unfold yc1;rw [zyo (by omega),zyo (by omega)];rfl
theorem zgb (a:Int):yc1 (a%2147483647)=true:=zd5 (Int.emod_nonneg _ (by decide)) (Int.emod_lt_of_pos _ (by decide))
theorem zbv (h:P.fn "_law_drawn"=some zan) (n:Nat) (a k:Int):run P (n+1) "_law_drawn" [.int a,.int k]=some (.int (yas a k)):=by rw [zaf h rfl];simp [zan,yab,evS,evE,yac,evO,yal,ygq,yad,yaj,yaq,ya1,Sl.get,Sl.frz,ya0,ya5,ybo,ybk,ya6,yap,yai,fresh,zaa,yax,yah,yaz,ybh,items,yae,yan,yay,setAll,yat,yao,bnd,asI,ybb,ybi,ya7,glo,SZ,zgb,zd5,yas]
noncomputable def yb1 (ns:List Int) (k:Nat):Int:=ns.getD k 0
theorem zbi {xs:List T} {k:Nat} {t:T} (h:xs[k]?=some t):ybf xs (k:Int)=some t:=by have hk:k<xs.length:=(ome h).1;unfold ybf ixI;rw [if_pos (by omega),if_pos (by omega)];simpa using h
theorem zpo (h:P.fn "_law_cell_at"=some zbc) (n:Nat) (ns:List Int) (k:Nat):run P (n+1) "_law_cell_at" [.lst (ns.map .int),.int (k:Int)]=some (.int (yb1 ns k)):=by
 rw [zaf h rfl];by_cases hk:k<ns.length
 ·have e:ybf (ns.map T.int) (k:Int)=some (.int (yb1 ns k)):=zbi (by simp [yb1,hk]);have hd:decide ((k:Int)<(ns.length:Int))=true:=zyo (by omega);simp [zbc,yab,evS,evE,yac,evO,yal,ygq,yad,yaj,yaq,ya1,Sl.get,Sl.frz,ya0,ya5,ybo,ybk,ya6,yap,yai,fresh,zaa,yax,yah,yaz,ybh,items,yae,yan,yay,setAll,yat,yao,bnd,asI,ybb,ybi,ya7,glo,SZ,ltC,hk,e]
 ·have e:yb1 ns k=0:=by simp [yb1,List.getD_eq_getElem?_getD,List.getElem?_eq_none (Nat.le_of_not_lt hk)]
  simp [zbc,yab,evS,evE,yac,evO,yal,ygq,yad,yaj,yaq,ya1,Sl.get,Sl.frz,ya0,ya5,ybo,ybk,ya6,yap,yai,fresh,zaa,yax,yah,yaz,ybh,items,yae,yan,yay,setAll,yat,yao,bnd,asI,ybb,ybi,ya7,glo,SZ,ltC,hk,e]
theorem zgh (hc:P.fn "_law_cell_at"=some zbc) (h:P.fn "_law_mixed"=some zch) (n:Nat) (ns:List Int) (k:Nat):run P (n+2) "_law_mixed" [.lst (ns.map .int),.int (k:Int)]=some (.int (ybx (yb1 ns k) k)):=by rw [zaf h rfl];have e:=zpo hc n ns k;simp [zch,yab,evS,evE,yac,evO,yal,ygq,yad,yaj,yaq,ya1,Sl.get,Sl.frz,ya0,ya5,ybo,ybk,ya6,yap,yai,fresh,zaa,yax,yah,yaz,ybh,items,yae,yan,yay,setAll,yat,yao,bnd,asI,ybb,ybi,ya7,glo,SZ,zgb,zd5,ybx,e]
structure Col where
 n:Str
 k:Str
 g:Bool
noncomputable def Col.t (c:Col):T:=.tup [.str c.n,.str c.k,.bl c.g]
noncomputable def kinds6:List Str:=["whole", "whole", "text", "whole", "text", "whole"]
noncomputable def ya2 (i:Int):Str:=kinds6.getD (i%6).toNat "whole"
theorem zpa {xs:List T} {m:Nat} (hm:xs.length=m) (h0:0<m) (i:Int):ybf xs (i%(m:Int))=some (xs.getD (i%(m:Int)).toNat .non):=by have h1:0<=i%(m:Int):=Int.emod_nonneg _ (by omega);have h2:i%(m:Int)<(m:Int):=Int.emod_lt_of_pos _ (by omega);unfold ybf ixI;rw [if_pos h1,if_pos (by omega)];simp only [xbs,List.getD_eq_getElem?_getD];rw [zx6 (by omega)];rfl
theorem ze6 (i:Int):ybf [.str "whole",.str "whole",.str "text",.str "whole",.str "text",.str "whole"] (i%6)=some (.str (ya2 i)):=by
 have h1:0<=i%6:=Int.emod_nonneg _ (by decide);have h2:i%6<6:=Int.emod_lt_of_pos _ (by decide);have e:=zpa (xs:=[.str "whole",.str "whole",.str "text",.str "whole",.str "text",.str "whole"]) (m:=6) rfl (by decide) i;have e':((6:Nat):Int)=6:=rfl;rw [e'] at e;rw [e,ya2,kinds6];have:(i%6).toNat=0\/(i%6).toNat=1\/(i%6).toNat=2\/(i%6).toNat=3\/(i%6).toNat=4\/(i%6).toNat=5:=by omega
 rcases this with z | z | z | z | z | z<;>rw [z]<;>rfl
noncomputable def ybq (k j:Int) (nm:Str):List Col:=if 0<yas k (10+j)/4%4 then [⟨nm,ya2 (yas k (10+j)/4/4),decide (0<yas k (10+j)/4/32%3)⟩] else []
noncomputable def yaa (k:Int):List Col:=[⟨"id",ya2 k,false⟩]++(ybq k 0 "n"++(ybq k 1 "t"++ybq k 2 "u"))
end
section
variable {G:Glo} {ss:List S} {τ:List Sl} {t:T}
theorem zaw {s:S} {τ':List Sl} (h:evS G s τ=some (.nx τ')):yab G (s::ss) τ=yab G ss τ':=by rw [yab,h];rfl
theorem zfe {s:S} (h:evS G s τ=some (.rt t)):yab G (s::ss) τ=some (.rt t):=by rw [yab,h];rfl
theorem zar {i:Nat} {e:E} {τ':List Sl} (h0:yad (yaj e) τ=τ) (h1:evE G e (ygq τ)=some t) (h2:τ.set i (yai e t)=τ'):yab G (.asg i e::ss) τ=yab G ss τ':=zaw (by rw [evS,h0,h1,<- h2];rfl)
theorem zav {e:E} (h0:yad (yaj e) τ=τ) (h1:evE G e (ygq τ)=some t):yab G (.ret e::ss) τ=some (.rt t):=zfe (by rw [evS,h0,h1];rfl)
theorem zay {c:E} {a:List S} (h0:yad (yaj c) τ=τ) (h1:evE G c (ygq τ)=some (.bl false)):yab G (.ite c a []::ss) τ=yab G ss τ:=zaw (by rw [evS,h0,h1];rfl)
theorem zb2 {c:E} {a b:List S} (h0:yad (yaj c) τ=τ) (h1:evE G c (ygq τ)=some (.bl true)) (h2:yab G a τ=some (.rt t)):yab G (.ite c a b::ss) τ=some (.rt t):=zfe (by rw [evS,h0,h1];exact h2)
theorem za1 {α:Type} {enc:α->T} {f:T->Option (Option T)} (g:α->Option T):∀ {l:List α},(∀ a∈l,f (enc a)=some (g a))->yao f (l.map enc)=some (l.filterMap g)
 | [],_=>rfl
 | a::l,h=>by rw [zx4,yao,h a zyc,za1 g fun b hb=>h b (zx8 _ hb),zyy];cases g a<;>rfl
noncomputable def za6 (cs:List Col):List Str:=cs.filterMap fun c=>if c.g then none else some c.n
noncomputable def yb7 (k:Int) (cs:List Col):List Str:=if k/8%4=0/\1<(za6 cs).length then (if k/32%2=0 then ["id",(za6 cs).getD 1 "id"] else [(za6 cs).getD 1 "id", "id"]) else ["id"]
noncomputable def ycc {α:Type} (cs:List α) (b:Nat):List α:=cs.drop b++cs.take b
theorem zcq (k j:Int) (nm:Str):(ybq k j nm).length<=1:=by unfold ybq;split<;>simp
theorem zdq (k:Int):1<=(yaa k).length/\(yaa k).length<=4:=by have h1:=zcq k 0 "n";have h2:=zcq k 1 "t";have h3:=zcq k 2 "u";unfold yaa;simp only [List.length_append,List.length_cons,List.length_nil];omega
theorem zfy (xs:List T) (b:Nat) (h:b<=xs.length):cut xs (some (b:Int)) none=xs.drop b:=by
 unfold cut yc8;have e:min ((b:Int)).toNat xs.length=b:=by omega
 simp only [show ¬ ((b:Int)<0) by omega,if_false,e];rw [List.take_of_length_le];simp
theorem zm0 (xs:List T) (b:Nat) (h:b<=xs.length):cut xs none (some (b:Int))=xs.take b:=by
 unfold cut yc8;have e:min ((b:Int)).toNat xs.length=b:=by omega
 simp only [show ¬ ((b:Int)<0) by omega,if_false,e];simp
noncomputable def ybm (nm:Str) (cs:List Col) (key:List Str) (rules:List T):T:=.tup [.str nm,.tup (cs.map Col.t),.tup (key.map .str),.tup rules]
abbrev kd6:T:=.tup [.str "whole",.str "whole",.str "text",.str "whole",.str "text",.str "whole"]
noncomputable def ydk:List S:=[.asg 6 (.bin .fdiv (.call "_law_drawn" [.var 1,.bin .add (.cst (.int 10)) (.var 4)]) (.cst (.int 4))),
  .ite (.cmp .gt (.bin .mod (.var 6) (.cst (.int 4))) (.cst (.int 0))) [.app 3 (.tup [.var 5,.idx (.var 2) (.bin .mod (.bin .fdiv (.var 6) (.cst (.int 4))) (.cst (.int 6))),.cmp .gt (.bin .mod (.bin .fdiv (.var 6) (.cst (.int 32))) (.cst (.int 3))) (.cst (.int 0))])] []]
theorem znd {nm:T} {k j:Int} {x:Str} {cs:List Col} {s4 s5 s6:Sl} (e:G.call "_law_drawn" [.int k,.int (10+j)]=some (.int (yas k (10+j)))) (hl:cs.length<=10) :
  ((yay [4,5] (.tup [.int j,.str x]) [.val nm,.val (.int k),.val kd6,.own (cs.map Col.t),s4,s5,s6,.no,.no,.no]).bind fun τ'=>yab G ydk τ') =
   some (.nx [.val nm,.val (.int k),.val kd6,.own ((cs++ybq k j x).map Col.t),.val (.int j),.val (.str x),.val (.int (yas k (10+j)/4)),.no,.no,.no]):=by
 show yab G ydk [.val nm,.val (.int k),.val kd6,.own (cs.map Col.t),.val (.int j),.val (.str x),s6,.no,.no,.no]=_;generalize hq:yas k (10+j)=q at e;refine (zar (t:=.int (q/4)) (τ':=[.val nm,.val (.int k),.val kd6,.own (cs.map Col.t),.val (.int j),.val (.str x),.val (.int (q/4)),.no,.no,.no]) rfl (by simp [evE,yac,ygq,Sl.get,ya0,ya5,yap,e]) rfl).trans ?_;unfold ybq;rw [hq];have hc:evE G (.cmp .gt (.bin .mod (.var 6) (.cst (.int 4))) (.cst (.int 0))) (ygq [.val nm,.val (.int k),.val kd6,.own (cs.map Col.t),.val (.int j),.val (.str x),.val (.int (q/4)),.no,.no,.no])=some (.bl (decide (0<q/4%4))):=rfl;by_cases h:0<q/4%4
 ·rw [if_pos h];have hz:(cs.map Col.t).length<16777216:=by rw [zya];omega
  have e3:evE G (.tup [.var 5,.idx (.var 2) (.bin .mod (.bin .fdiv (.var 6) (.cst (.int 4))) (.cst (.int 6))),.cmp .gt (.bin .mod (.bin .fdiv (.var 6) (.cst (.int 32))) (.cst (.int 3))) (.cst (.int 0))]) (ygq [.val nm,.val (.int k),.val kd6,.own (cs.map Col.t),.val (.int j),.val (.str x),.val (.int (q/4)),.no,.no,.no])=some (Col.t ⟨x,ya2 (q/4/4),decide (0<q/4/32%3)⟩):=by simp [evE,yac,ygq,Sl.get,ya0,ya6,yap,yah,ze6,yax,ltC,Col.t]
  have e4:yab G [.app 3 (.tup [.var 5,.idx (.var 2) (.bin .mod (.bin .fdiv (.var 6) (.cst (.int 4))) (.cst (.int 6))),.cmp .gt (.bin .mod (.bin .fdiv (.var 6) (.cst (.int 32))) (.cst (.int 3))) (.cst (.int 0))])] [.val nm,.val (.int k),.val kd6,.own (cs.map Col.t),.val (.int j),.val (.str x),.val (.int (q/4)),.no,.no,.no]=some (.nx [.val nm,.val (.int k),.val kd6,.own ((cs++[(⟨x,ya2 (q/4/4),decide (0<q/4/32%3)⟩:Col)]).map Col.t),.val (.int j),.val (.str x),.val (.int (q/4)),.no,.no,.no]):=by refine (zaw (τ':=[.val nm,.val (.int k),.val kd6,.own ((cs++[(⟨x,ya2 (q/4/4),decide (0<q/4/32%3)⟩:Col)]).map Col.t),.val (.int j),.val (.str x),.val (.int (q/4)),.no,.no,.no]) ?_).trans rfl;rw [evS];refine Eq.trans (zym (fun o=>Option.bind o _) e3) ?_;show (if (cs.map Col.t).length<SZ then _ else none)=_;rw [if_pos hz,zyx];rfl
  exact (zaw (τ':=[.val nm,.val (.int k),.val kd6,.own ((cs++[(⟨x,ya2 (q/4/4),decide (0<q/4/32%3)⟩:Col)]).map Col.t),.val (.int j),.val (.str x),.val (.int (q/4)),.no,.no,.no]) (by rw [evS];refine Eq.trans (zym (fun o=>Option.bind o _) (hc.trans (by rw [zyo h]))) ?_;exact e4)).trans rfl
 ·rw [if_neg h,zyh];exact (zay rfl (hc.trans (by rw [zys h]))).trans rfl
theorem zne {P:Pr} (hd:P.fn "_law_drawn"=some zan) (n:Nat) (nm:T) (k:Int) :
  ∃ a b c,yan (fun x τ=>(yay [4,5] x τ).bind fun τ'=>yab (glo P (run P (n+1))) ydk τ')
   [.tup [.int 0,.str "n"],.tup [.int 1,.str "t"],.tup [.int 2,.str "u"]]
   [.val nm,.val (.int k),.val kd6,.own [Col.t ⟨"id",ya2 k,false⟩],.no,.no,.no,.no,.no,.no] =
   some (.nx [.val nm,.val (.int k),.val kd6,.own ((yaa k).map Col.t),.val a,.val b,.val c,.no,.no,.no]):=by
 have c0:=zcq k 0 "n";have c1:=zcq k 1 "t";have st:=fun (j:Int) (x:Str) (cs:List Col) (s4 s5 s6:Sl) (hl:cs.length<=10)=>znd (G:=glo P (run P (n+1))) (nm:=nm) (k:=k) (j:=j) (x:=x) (cs:=cs) (s4:=s4) (s5:=s5) (s6:=s6) (zbv hd n k (10+j)) hl;refine ⟨.int 2,.str "u",.int (yas k (10+2)/4),?_⟩;rw [yan,show [Col.t ⟨"id",ya2 k,false⟩]=([⟨"id",ya2 k,false⟩]:List Col).map Col.t from rfl,st 0 "n" _ _ _ _ (by simp)];dsimp only [xbs];rw [yan,st 1 "t" _ _ _ _ (by simp;omega)];dsimp only [xbs];rw [yan,st 2 "u" _ _ _ _ (by simp;omega)];dsimp only [xbs];rw [yan,yaa,zzb,zzb]
end
section
theorem zk7 (cs:List Col):(cs.filterMap fun c=>if c.g then none else some (T.str c.n))=(za6 cs).map T.str:=by
 unfold za6
 induction cs with
 | nil=>rfl
 | cons c cs ih=>simp only [List.filterMap_cons];cases c.g<;>simp [ih]
theorem yaw (a:T) (r:List T):ybf (a::r) 0=some a:=by simp [ybf,ixI]
theorem yav (a b:T) (r:List T):ybf (a::b::r) 1=some b:=by have:=zbi (xs:=a::b::r) (k:=1) (t:=b) rfl;exact this
theorem ybj (a b c:T) (r:List T):ybf (a::b::c::r) 2=some c:=by have:=zbi (xs:=a::b::c::r) (k:=2) (t:=c) rfl;exact this
theorem yf1 (a b c d:T) (r:List T):ybf (a::b::c::d::r) 3=some d:=by have:=zbi (xs:=a::b::c::d::r) (k:=3) (t:=d) rfl;exact this
theorem zqw (i:Int):i%2=0\/i%2=1:=by omega
theorem ztg {G:Glo} {i:Nat} {e:E} {ss:List S} {τ τ0 τ':List Sl} {t:T} (h0:yad (yaj e) τ=τ0) (h1:evE G e (ygq τ0)=some t) (h2:τ0.set i (yai e t)=τ'):yab G (.asg i e::ss) τ=yab G ss τ':=zaw (by rw [evS,h0,h1,<- h2];rfl)
noncomputable def bareT2:List S:=zbd.body.drop 3
section
variable {G:Glo} {nm CL KT PL:T} {k:Int} {s4 s5 s6:Sl} {l p:Nat}
theorem znc {by_:Nat} {cs:List T} {id1:Str} {key:List Str} (hcs:CL=.lst cs) (hl:0<cs.length) (hz:cs.length<=1000) (hb:k/64%(cs.length:Int)=(by_:Int)) (hbl:by_<=cs.length)
  (lp:yaz .len PL=some (.int (p:Int))) (ip:1<p->yah PL (.int 1)=some (.str id1)) (hk:key=if k/8%4=0/\1<p then (if k/32%2=0 then ([("id":Str),id1]:List Str) else ([id1, "id"]:List Str)) else (["id"]:List Str)) :
  yab G (bareT2.drop 1) [.val nm,.val (.int k),.val KT,.val CL,s4,s5,s6,.val PL,.no,.no]=some (.rt (.tup [nm,.tup (cs.drop by_++cs.take by_),.tup (key.map .str),.tup []])):=by
 refine (zar (t:=.tup [.str "id"]) (τ':=[.val nm,.val (.int k),.val KT,.val CL,s4,s5,s6,.val PL,.val (.tup [.str "id"]),.no]) rfl (by simp [evE,yac]) rfl).trans ?_;have hc:evE G (.land (.cmp .eq (.bin .mod (.bin .fdiv (.var 1) (.cst (.int 8))) (.cst (.int 4))) (.cst (.int 0))) (.cmp .gt (.blt .len (.var 7)) (.cst (.int 1)))) (ygq [.val nm,.val (.int k),.val KT,.val CL,s4,s5,s6,.val PL,.val (.tup [.str "id"]),.no])=some (.bl (decide (k/8%4=0/\1<p))):=by
  have e1:evE G (.cmp .eq (.bin .mod (.bin .fdiv (.var 1) (.cst (.int 8))) (.cst (.int 4))) (.cst (.int 0))) (ygq [.val nm,.val (.int k),.val KT,.val CL,s4,s5,s6,.val PL,.val (.tup [.str "id"]),.no])=some (.bl (k/8%4==0)):=rfl;rw [evE,e1];by_cases h1:k/8%4=0
  ·rw [show (k/8%4==0)=true by simpa using h1];simp [evE,ygq,Sl.get,lp,yax,ltC,h1];omega
  ·rw [show (k/8%4==0)=false by simpa using h1];simp [h1]
 have mid:yab G (bareT2.drop 2) [.val nm,.val (.int k),.val KT,.val CL,s4,s5,s6,.val PL,.val (.tup [.str "id"]),.no]=yab G (bareT2.drop 3) [.val nm,.val (.int k),.val KT,.val CL,s4,s5,s6,.val PL,.val (.tup (key.map .str)),.no]:=by
  by_cases h:k/8%4=0/\1<p
  ·rw [if_pos h] at hk;have i1:=ip h.2;have e8:evE G (.idx (.lst [.tup [.cst (.str "id"),.idx (.var 7) (.cst (.int 1))],.tup [.idx (.var 7) (.cst (.int 1)),.cst (.str "id")]]) (.bin .mod (.bin .fdiv (.var 1) (.cst (.int 32))) (.cst (.int 2)))) (ygq [.val nm,.val (.int k),.val KT,.val CL,s4,s5,s6,.val PL,.val (.tup [.str "id"]),.no])=ybf [.tup [.str "id",.str id1],.tup [.str id1,.str "id"]] (k/32%2):=by have il:∀ l i,yah (.lst l) (.int i)=ybf l i:=fun _ _=>rfl;simp [evE,yac,ygq,Sl.get,i1,ya0,ya6,yap,il]
   refine zaw ?_;rw [evS];refine Eq.trans (zym (fun o=>Option.bind o _) (hc.trans (by rw [zyo h]))) ?_;refine (zar (t:=.tup (key.map .str)) rfl (e8.trans ?_) rfl).trans rfl;rw [hk];rcases zqw (k/32) with z | z
   ·rw [z,if_pos rfl];exact yaw _ _
   ·rw [z,if_neg (by decide)];exact yav _ _ _
  ·rw [if_neg h] at hk;subst hk;exact zay rfl (hc.trans (by rw [zys h]))
 refine (show yab G (bareT2.drop 2) _=_ from mid).trans ?_;subst hcs;refine (zar (t:=.int (by_:Int)) (τ':=[.val nm,.val (.int k),.val KT,.val (.lst cs),s4,s5,s6,.val PL,.val (.tup (key.map .str)),.val (.int (by_:Int))]) rfl (by have lc:yaz .len (.lst cs)=some (.int (cs.length:Int)):=rfl;simp [evE,ygq,Sl.get,lc,ya0,ya6,yap,hl,hb]) rfl).trans (zav rfl ?_);have hz1:cs.length-by_+min by_ cs.length<=16777216:=by omega
 simp [evE,yac,evO,ygq,Sl.get,asI,ybb,zfy _ _ hbl,zm0 _ _ hbl,ya0,ya5,SZ,hz1,yaz]
end
theorem zpw {P:Pr} (hd:P.fn "_law_drawn"=some zan) (hb:P.fn "_law_bare"=some zbd) (n:Nat) (nm:Str) (k:Int) :
  run P (n+2) "_law_bare" [.str nm,.int k]=some (ybm nm (ycc (yaa k) (k/64%((yaa k).length:Int)).toNat) (yb7 k (yaa k)) []):=by
 rw [zaf hb rfl];obtain ⟨a,b,c,el⟩:=zne hd n (.str nm) k;show zaa (yab (glo P (run P (n+1))) zbd.body [.val (.str nm),.val (.int k),.no,.no,.no,.no,.no,.no,.no,.no])=_;generalize glo P (run P (n+1))=G at *;have hlen:=zdq k;have hm0:0<=k/64%((yaa k).length:Int):=Int.emod_nonneg _ (by omega);have hm1:k/64%((yaa k).length:Int)<((yaa k).length:Int):=Int.emod_lt_of_pos _ (by omega);generalize hby:(k/64%((yaa k).length:Int)).toNat=by_ at *;have hbi:k/64%((yaa k).length:Int)=(by_:Int):=by omega
 generalize hC:yaa k=cs at *;have hbl:by_<=cs.length:=by rw [hbi] at hm1;omega
 have p1:yab G zbd.body [.val (.str nm),.val (.int k),.no,.no,.no,.no,.no,.no,.no,.no]=yab G (zbd.body.drop 2) [.val (.str nm),.val (.int k),.val kd6,.own [Col.t ⟨"id",ya2 k,false⟩],.no,.no,.no,.no,.no,.no] :=
  (zar (t:=kd6) (τ':=[.val (.str nm),.val (.int k),.val kd6,.no,.no,.no,.no,.no,.no,.no]) rfl (by simp [evE,yac,kd6]) rfl).trans (zar (t:=.lst [Col.t ⟨"id",ya2 k,false⟩]) rfl (by simp [evE,yac,ygq,Sl.get,kd6,ya0,ya6,yah,ze6,Col.t]) rfl)
 have p2:yab G (zbd.body.drop 2) [.val (.str nm),.val (.int k),.val kd6,.own [Col.t ⟨"id",ya2 k,false⟩],.no,.no,.no,.no,.no,.no]=yab G bareT2 [.val (.str nm),.val (.int k),.val kd6,.own (cs.map Col.t),.val a,.val b,.val c,.no,.no,.no]:=zaw (by rw [evS];simp only [yaq,yaj,List.append_nil,yad,yac,evE,List.length_cons,List.length_nil];simp only [Nat.reduceAdd,Nat.reduceLeDiff,if_true,xms,xbs,items,yat];exact el);have e7:evE G (.comp (.idx (.var 0) (.cst (.int 0))) 1 .plain [.var 3] (some (.lnot (.tru (.idx (.var 0) (.cst (.int 2))))))) (ygq [.val (.str nm),.val (.int k),.val kd6,.val (.lst (cs.map Col.t)),.val a,.val b,.val c,.no,.no,.no])=some (.lst ((za6 cs).map .str)):=by
  have hz':cs.length<=16777216:=by omega
  simp [evE,yac,evO,ygq,Sl.get,items,yae,bnd,SZ,hz'];rw [za1 (enc:=Col.t) (fun c=>if c.g then none else some (T.str c.n)) (fun c _=>by cases hg:c.g<;>simp [Col.t,hg,yah,yaw,ybj,ybh]),zk7]
 have p3:yab G bareT2 [.val (.str nm),.val (.int k),.val kd6,.own (cs.map Col.t),.val a,.val b,.val c,.no,.no,.no]=yab G (bareT2.drop 1) [.val (.str nm),.val (.int k),.val kd6,.val (.lst (cs.map Col.t)),.val a,.val b,.val c,.val (.lst ((za6 cs).map .str)),.no,.no]:=ztg rfl e7 rfl;rw [p1,p2,p3];have hk:=znc (G:=G) (nm:=.str nm) (KT:=kd6) (CL:=.lst (cs.map Col.t)) (cs:=cs.map Col.t) (PL:=.lst ((za6 cs).map .str)) (k:=k) (s4:=.val a) (s5:=.val b) (s6:=.val c) (p:=(za6 cs).length) (by_:=by_) (id1:=(za6 cs).getD 1 "id") (key:=yb7 k cs) rfl (by rw [List.length_map];omega) (by rw [List.length_map];omega) (by rw [List.length_map];exact hbi) (by rw [List.length_map];exact hbl) (by simp [yaz]) (fun h2=>zbi (xs:=(za6 cs).map T.str) (k:=1) (by rw [List.getElem?_map,List.getElem?_eq_getElem h2,List.getD_eq_getElem?_getD,List.getElem?_eq_getElem h2];rfl)) rfl;rw [hk,ybm,ycc,zyx,List.map_drop,List.map_take];rfl
end
section
variable {cs:List Col}
theorem ze2 {α:Type} {enc:α->T} {f:T->List Sl->Option Out} (I:List α->List Sl->Prop):∀ (l done:List α) (τ:List Sl),I done τ ->
  (∀ l1 a l2,l=l1++a::l2->∀ τ,I (done++l1) τ->∃ τ',f (enc a) τ=some (.nx τ')/\I (done++l1++[a]) τ')->∃ τ',yan f (l.map enc) τ=some (.nx τ')/\I (done++l) τ'
 | [],done,τ,h,_=>⟨τ,rfl,by rw [zyh];exact h⟩
 | a::l,done,τ,h,hs=>by
  obtain ⟨τ1,e1,h1⟩:=hs [] a l rfl τ (by rw [zyh];exact h);rw [zyh] at h1;obtain ⟨τ2,e2,h2⟩:=ze2 I l (done++[a]) τ1 h1 fun l1 b l2 e τ hd=>by have:=hs (a::l1) b l2 (by rw [e];rfl) τ (by simpa using hd);simpa using this
  refine ⟨τ2,?_,by rw [zzb] at h2;exact h2⟩;rw [zx4,yan,e1];exact e2
theorem zas {α:Type} {enc:α->T} {f:T->List Sl->Option Out} (I:List α->List Sl->Prop) (l:List α) (τ:List Sl) (h:I [] τ)
  (hs:∀ l1 a l2,l=l1++a::l2->∀ τ,I l1 τ->∃ τ',f (enc a) τ=some (.nx τ')/\I (l1++[a]) τ'):∃ τ',yan f (l.map enc) τ=some (.nx τ')/\I l τ':=by
 have:=ze2 I l [] τ h fun l1 a l2 e τ hd=>by have:=hs l1 a l2 e τ (by simpa using hd);simpa using this
 simpa using this
theorem zbn {α:Type} {enc:α->T} {cs:List α} (h:cs≠[]) (i:Int):∃ c∈cs,ybf (cs.map enc) (i%(cs.length:Int))=some (enc c):=by
 have hl:0<cs.length:=by cases cs with | nil=>exact absurd rfl h | cons _ _=>simp
 have h1:0<=i%(cs.length:Int):=Int.emod_nonneg _ (by omega);have h2:i%(cs.length:Int)<(cs.length:Int):=Int.emod_lt_of_pos _ (by omega);obtain ⟨j,hj⟩:∃ j:Nat,i%(cs.length:Int)=(j:Int):=⟨(i%(cs.length:Int)).toNat,by omega⟩;rw [hj] at h2 ⊢;have hj':j<cs.length:=by omega
 refine ⟨cs[j],List.getElem_mem _,zbi ?_⟩;rw [zyv,zx6 hj'];rfl
inductive Tst where
 | emp (c:Str) | bel (a b:Str) | isI (c:Str) (i:Int) | isS (c x:Str) | neg (t:Tst) | cnj (a b:Tst) | dsj (a b:Tst)
noncomputable def Tst.t:Tst->T
 | .emp c=>.tup [.str "empty",.str c]
 | .bel a b=>.tup [.str "below",.str a,.str b]
 | .isI c i=>.tup [.str "is",.str c,.int i]
 | .isS c x=>.tup [.str "is",.str c,.str x]
 | .neg t=>.tup [.str "not",t.t]
 | .cnj a b=>.tup [.str "and",a.t,b.t]
 | .dsj a b=>.tup [.str "or",a.t,b.t]
noncomputable def ycr:List Int:=[0,1,2,3,-5,999]
noncomputable def Tst.ok:Nat->Tst->Prop
 | d,.emp c=>1<=d/\c.length<=6
 | d,.bel a b=>1<=d/\a.length<=6/\b.length<=6
 | d,.isI c i=>1<=d/\c.length<=6 /\ -1000<i/\i<1000/\i∈ycr
 | d,.isS c x=>1<=d/\c.length<=6/\x.length<=6/\ybs x=true
 | d+1,.neg t=>t.ok d
 | d+1,.cnj a b=>a.ok d/\b.ok d
 | d+1,.dsj a b=>a.ok d/\b.ok d
 | 0,_=>False
noncomputable def Tst.fit:Nat->Tst->Prop
 | d,.emp _=>1<=d/\True
 | d,.bel _ _=>1<=d/\True
 | d,.isI _ _=>1<=d/\True
 | d,.isS _ _=>1<=d/\True
 | d+1,.neg t=>t.fit d
 | d+1,.cnj a b=>a.fit d/\b.fit d
 | d+1,.dsj a b=>a.fit d/\b.fit d
 | 0,_=>False
theorem Tst.ok.fit:∀ {d:Nat} {t:Tst},t.ok d->t.fit d
 | d+1,.emp _,h=>⟨zzh (zyt d),trivial⟩
 | 0,.emp _,h=>absurd h.1 (by omega)
 | d+1,.bel _ _,h=>⟨zzh (zyt d),trivial⟩
 | 0,.bel _ _,h=>absurd h.1 (by omega)
 | d+1,.isI _ _,h=>⟨zzh (zyt d),trivial⟩
 | 0,.isI _ _,h=>absurd h.1 (by omega)
 | d+1,.isS _ _,h=>⟨zzh (zyt d),trivial⟩
 | 0,.isS _ _,h=>absurd h.1 (by omega)
 | d+1,.neg t,h=>Tst.ok.fit (t:=t) h
 | d+1,.cnj a b,h=>⟨Tst.ok.fit h.1,Tst.ok.fit h.2⟩
 | d+1,.dsj a b,h=>⟨Tst.ok.fit h.1,Tst.ok.fit h.2⟩
 | 0,.neg _,h=>nomatch h
 | 0,.cnj _ _,h=>nomatch h
 | 0,.dsj _ _,h=>nomatch h
noncomputable def Tst.inn (cs:List Col):Tst->Prop
 | .emp c=>∃ o∈cs,o.n=c
 | .bel a b=>∃ o∈cs,∃ p∈cs,o.n=a/\p.n=b/\o.k=p.k
 | .isI c _=>∃ o∈cs,o.n=c/\(o.k==("text":Str))=false
 | .isS c _=>∃ o∈cs,o.n=c/\(o.k==("text":Str))=true
 | .neg t=>t.inn cs
 | .cnj a b=>a.inn cs/\b.inn cs
 | .dsj a b=>a.inn cs/\b.inn cs
noncomputable def Sh (x:Str):Prop:=x.length<=6/\ybs x=true
noncomputable def ycb (cs:List Col):Prop:=cs≠[]/\cs.length<=4/\∀ c∈cs,Sh c.n/\c.k.length<=6
noncomputable def yco:List Str:=["", "a", "b", "ab", "x9", "zzzzzz"]
theorem zjl:∀ x∈yco,ybs x=true:=by decide +kernel
theorem zjk:∀ x∈yco,x.length<=6:=by decide +kernel
theorem zet:∀ i∈ycr,-1000<i/\i<1000:=by decide
theorem zhy (k:Int):∃ i∈ycr,ybf [.int 0,.int 1,.int 2,.int 3,.int (-5),.int 999] (k%6)=some (.int i):=by obtain ⟨c,hc,e⟩:=zbn (enc:=T.int) (cs:=ycr) (by simp [ycr]) k;exact ⟨c,hc,e⟩
theorem zhx (k:Int):∃ x∈yco,ybf [.str "",.str "a",.str "b",.str "ab",.str "x9",.str "zzzzzz"] (k%6)=some (.str x):=by obtain ⟨c,hc,e⟩:=zbn (enc:=T.str) (cs:=yco) (by simp [yco]) k;exact ⟨c,hc,e⟩
noncomputable def alike (cs:List Col) (c:Col):List Str:=cs.filterMap fun o=>if o.k==c.k then some o.n else none
theorem zni (cs:List Col) (c:Col):(cs.filterMap fun o=>if o.k==c.k then some (T.str o.n) else none)=(alike cs c).map T.str:=by
 unfold alike
 induction cs with
 | nil=>rfl
 | cons o cs ih=>simp only [List.filterMap_cons];split<;>simp_all
theorem znh {c:Col} {x:Str} (h:x∈alike cs c):∃ o∈cs,o.n=x/\o.k=c.k:=by
 unfold alike at h;obtain ⟨o,ho,e⟩:=List.mem_filterMap.mp h;split at e
 ·rename_i hk;cases e;exact ⟨o,ho,rfl,eq_of_beq hk⟩
 ·cases e
theorem zjj {c:Col} (h:c∈cs):alike cs c≠[]:=by intro e;have:c.n∈alike cs c:=List.mem_filterMap.mpr ⟨c,h,by simp⟩;rw [e] at this;cases this
end
section
variable {G:Glo} {k:Int} {s0 s3 s6 s7 s8:Sl} {cs:List Col}
noncomputable def ybt (nm:T) (cs:List Col) (key rules:T):T:=.tup [nm,.tup (cs.map Col.t),key,rules]
noncomputable def teB:List S:=zau.body.drop 3
noncomputable def teC:List S:=zau.body.drop 4
theorem znx {j:Int} {s1 s2 s4:Sl}:evE G (.cmp .eq (.var 5) (.cst (.int j))) (ygq [s0,s1,s2,s3,s4,.val (.int k),s6,s7,s8])=some (.bl (k==j)):=rfl
theorem znw {c:Col} {s1 s2 s5:Sl}:evE G (.idx (.var 4) (.cst (.int 0))) (ygq [s0,s1,s2,s3,.val c.t,s5,s6,s7,s8])=some (.str c.n):=by simp [evE,ygq,Sl.get,Col.t,yah,yaw]
theorem zf7 (hc:ycb cs) {c:Col} (hm:c∈cs) (TB:T) (k d:Int) :
  ∃ t:Tst,yab G teC [.val TB,.val (.int k),.val (.int d),.val (.tup (cs.map Col.t)),.val c.t,.val (.int (k%8)),.no,.no,.no]=some (.rt t.t)/\(∀ n,t.ok (n+1))/\t.inn cs:=by
 have hl:cs.length<=16777216:=by have:=hc.2.1;omega
 have hcm:=hc.2.2 c hm;by_cases h0:k%8=0
 ·exact ⟨.emp c.n,zb2 rfl (znx.trans (by rw [h0];rfl)) (zav rfl (by rw [evE,yac,yac,znw];rfl)),fun n=>⟨by omega,hcm.1.1⟩,c,hm,rfl⟩
 ·have e7:evE G (.comp (.idx (.var 0) (.cst (.int 0))) 1 .plain [.var 3] (some (.cmp .eq (.idx (.var 0) (.cst (.int 1))) (.idx (.var 5) (.cst (.int 1)))))) (ygq [.val TB,.val (.int k),.val (.int d),.val (.tup (cs.map Col.t)),.val c.t,.val (.int (k%8)),.no,.no,.no])=some (.lst ((alike cs c).map .str)):=by
   simp [yab,evS,evE,yac,evO,yal,ygq,yad,yaj,yaq,ya1,Sl.get,Sl.frz,ya0,ya5,ybo,ybk,ya6,yap,yai,fresh,zaa,yax,yah,yaz,ybh,items,yae,yan,yay,setAll,yat,yao,bnd,asI,ybb,ybi,ya7,glo,SZ,hl];rw [za1 (enc:=Col.t) (fun o=>if o.k==c.k then some (T.str o.n) else none) (fun o _=>by cases hk:(o.k==c.k)<;>simp [Col.t,yah,yaw,yav,eqC,dpP,yba,eqT,hk]),zni]
  have pre:yab G teC [.val TB,.val (.int k),.val (.int d),.val (.tup (cs.map Col.t)),.val c.t,.val (.int (k%8)),.no,.no,.no]=yab G (teC.drop 2) [.val TB,.val (.int k),.val (.int d),.val (.tup (cs.map Col.t)),.val c.t,.val (.int (k%8)),.no,.val (.lst ((alike cs c).map .str)),.no] :=
   (zay rfl (znx.trans (by rw [show (k%8==0)=false by simpa using h0]))).trans (zar rfl e7 rfl)
  rw [pre];generalize T.tup (cs.map Col.t)=CT;by_cases h1:k%8=1
  ·obtain ⟨x,hx,e⟩:=zbn (enc:=T.str) (zjj hm) (k/64);have hp:0<(alike cs c).length:=by
    have:=zjj hm;cases q:alike cs c with
    | nil=>exact absurd q this
    | cons _ _=>simp
   obtain ⟨o,ho,rfl,hk⟩:=znh hx;refine ⟨.bel c.n o.n,zb2 rfl (znx.trans (by rw [h1];rfl)) (zav rfl ?_),fun n=>⟨by omega,hcm.1.1,(hc.2.2 o ho).1.1⟩,c,hm,o,ho,rfl,rfl,hk.symm⟩;have e':evE G (.idx (.var 7) (.bin .mod (.bin .fdiv (.var 1) (.cst (.int 64))) (.blt .len (.var 7)))) (ygq [.val TB,.val (.int k),.val (.int d),.val CT,.val c.t,.val (.int (k%8)),.no,.val (.lst ((alike cs c).map .str)),.no])=some (.str o.n):=by simp [evE,ygq,Sl.get,yaz,ya0,ya6,yap,hp,yah,e]
   rw [evE,yac,yac,yac,znw,e'];rfl
  ·have pre2:yab G (teC.drop 2) [.val TB,.val (.int k),.val (.int d),.val CT,.val c.t,.val (.int (k%8)),.no,.val (.lst ((alike cs c).map .str)),.no]=yab G (teC.drop 3) [.val TB,.val (.int k),.val (.int d),.val CT,.val c.t,.val (.int (k%8)),.no,.val (.lst ((alike cs c).map .str)),.no]:=zay rfl (znx.trans (by rw [show (k%8==1)=false by simpa using h1]));rw [pre2];generalize T.lst ((alike cs c).map T.str)=AL;obtain ⟨i,hi,ei⟩:=zhy (k/64);obtain ⟨x,hx,ex⟩:=zhx (k/64);cases ht:(c.k==("text":Str)) with
   | true =>refine ⟨.isS c.n x,(zar (t:=.tup [.str "",.str "a",.str "b",.str "ab",.str "x9",.str "zzzzzz"]) (τ':=[.val TB,.val (.int k),.val (.int d),.val CT,.val c.t,.val (.int (k%8)),.no,.val AL,.val (.tup [.str "",.str "a",.str "b",.str "ab",.str "x9",.str "zzzzzz"])]) rfl (by simp [evE,yac,ygq,Sl.get,Col.t,yah,yaw,yav,yax,eqC,dpP,yba,eqT,ht,yaz]) rfl).trans (zav rfl ?_),fun n=>⟨by omega,hcm.1.1,zjk x hx,zjl x hx⟩,c,hm,rfl,ht⟩;rw [evE,yac,yac,yac,znw];simp [evE,yac,ygq,Sl.get,ya0,ya6,yap,yah,ex,Tst.t]
   | false =>refine ⟨.isI c.n i,(zar (t:=.tup [.int 0,.int 1,.int 2,.int 3,.int (-5),.int 999]) (τ':=[.val TB,.val (.int k),.val (.int d),.val CT,.val c.t,.val (.int (k%8)),.no,.val AL,.val (.tup [.int 0,.int 1,.int 2,.int 3,.int (-5),.int 999])]) rfl (by simp [evE,yac,ygq,Sl.get,Col.t,yah,yaw,yav,yax,eqC,dpP,yba,eqT,ht,yaz]) rfl).trans (zav rfl ?_),fun n=>⟨by omega,hcm.1.1,(zet i hi).1,(zet i hi).2,hi⟩,c,hm,rfl,ht⟩;rw [evE,yac,yac,yac,znw];simp [evE,yac,ygq,Sl.get,ya0,ya6,yap,yah,ei,Tst.t]
theorem zh9 {TB CT ct:T} {D:Int} {l:Nat} (i1:yah TB (.int 1)=some CT) (l1:yaz .len CT=some (.int (l:Int))) (hp:0<l) (i2:yah CT (.int (k/8%(l:Int)))=some ct) :
  yab G zau.body [.val TB,.val (.int k),.val (.int D),.no,.no,.no,.no,.no,.no]=yab G teB [.val TB,.val (.int k),.val (.int D),.val CT,.val ct,.val (.int (k%8)),.no,.no,.no] :=
 (zar (t:=CT) (τ':=[.val TB,.val (.int k),.val (.int D),.val CT,.no,.no,.no,.no,.no]) rfl (by simp [evE,ygq,Sl.get,i1]) rfl).trans ((zar (t:=ct) (τ':=[.val TB,.val (.int k),.val (.int D),.val CT,.val ct,.no,.no,.no,.no]) rfl (by simp [evE,ygq,Sl.get,l1,ya0,ya6,yap,hp,i2]) rfl).trans (zar (t:=.int (k%8)) rfl (by simp [evE,ygq,Sl.get,ya0,ya6]) rfl))
theorem zkk {D:Int} {s4:Sl}:evE G (.land (.cmp .gt (.var 2) (.cst (.int 1))) (.cmp .gt (.var 5) (.cst (.int 4)))) (ygq [s0,.val (.int k),.val (.int D),s3,s4,.val (.int (k%8)),s6,s7,s8])=some (.bl (decide (1<D)&&decide (4<k%8))):=by cases h1:decide (1<D)<;>simp [evE,ygq,Sl.get,yax,h1]
theorem znv {P:Pr} (hd:P.fn "_law_drawn"=some zan) (ht:P.fn "_law_test"=some zau) (hc:ycb cs) (nm key rules:T) :
  ∀ (d:Nat) (n:Nat) (k:Int),∃ t:Tst,run P (n+d+2) "_law_test" [ybt nm cs key rules,.int k,.int ((d+1:Nat):Int)]=some t.t/\t.ok (d+1)/\t.inn cs:=by
 have i1:yah (ybt nm cs key rules) (.int 1)=some (.tup (cs.map Col.t)):=by simp [ybt,yah,yav]
 have l1:yaz .len (.tup (cs.map Col.t))=some (.int (cs.length:Int)):=by simp [yaz]
 have hp:0<cs.length:=by cases cs with | nil=>exact absurd rfl hc.1 | cons _ _=>simp
 have i2:∀ k:Int,∃ c∈cs,yah (.tup (cs.map Col.t)) (.int (k/8%(cs.length:Int)))=some c.t:=fun k=>by obtain ⟨c,hm,ec⟩:=zbn (enc:=Col.t) hc.1 (k/8);exact ⟨c,hm,ec⟩
 intro d
 induction d with
 | zero =>intro n k;rw [zaf ht rfl];show ∃ t:Tst,zaa (yab (glo P (run P (n+1))) zau.body [.val (ybt nm cs key rules),.val (.int k),.val (.int 1),.no,.no,.no,.no,.no,.no])=_/\_;obtain ⟨c,hm,ec⟩:=i2 k;obtain ⟨t,e,h,hin⟩:=zf7 (G:=glo P (run P (n+1))) hc hm (ybt nm cs key rules) k 1;refine ⟨t,?_,h 0,hin⟩;rw [zh9 i1 l1 hp ec];exact zym zaa ((zay rfl (zkk.trans rfl)).trans e)
 | succ d ih =>
  intro n k;rw [show n+(d+1)+2=(n+d+2)+1 by omega,zaf ht rfl];obtain ⟨c,hm,ec⟩:=i2 k;have e1:(glo P (run P (n+d+2))).call "_law_drawn" [.int k,.int 1]=_:=zbv hd (n+d+1) k 1;have e2:(glo P (run P (n+d+2))).call "_law_drawn" [.int k,.int 2]=_:=zbv hd (n+d+1) k 2;obtain ⟨t1,r1,o1,n1⟩:=ih n (yas k 1/4);obtain ⟨t2,r2,o2,n2⟩:=ih n (yas k 2/4);have hd1:((d+1+1:Nat):Int)-1=((d+1:Nat):Int):=by omega
  rw [<- hd1] at r1 r2;clear hd1 ih;generalize hD:((d+1+1:Nat):Int)=D at *;have hD1:decide (1<D)=true:=zyo (by omega);have r1:(glo P (run P (n+d+2))).call "_law_test" [ybt nm cs key rules,.int (yas k 1/4),.int (D-1)]=some t1.t:=r1;have r2:(glo P (run P (n+d+2))).call "_law_test" [ybt nm cs key rules,.int (yas k 2/4),.int (D-1)]=some t2.t:=r2;show ∃ t:Tst,zaa (yab (glo P (run P (n+d+2))) zau.body [.val (ybt nm cs key rules),.val (.int k),.val (.int D),.no,.no,.no,.no,.no,.no])=_/\_;rw [zh9 i1 l1 hp ec];obtain ⟨t,e,h,hin⟩:=zf7 (G:=glo P (run P (n+d+2))) hc hm (ybt nm cs key rules) k D;generalize glo P (run P (n+d+2))=G at *;generalize ybt nm cs key rules=TB at *;generalize T.tup (cs.map Col.t)=CT at *;generalize c.t=ct at *;by_cases h4:4<k%8
  ·have h4':decide (4<k%8)=true:=zyo h4;have e6:evE G (.comp (.call "_law_test" [.var 1,.bin .fdiv (.call "_law_drawn" [.var 2,.var 0]) (.cst (.int 4)),.bin .sub (.var 3) (.cst (.int 1))]) 1 .plain [.tup [.cst (.int 1),.cst (.int 2)]] none) (ygq [.val TB,.val (.int k),.val (.int D),.val CT,.val ct,.val (.int (k%8)),.no,.no,.no])=some (.lst [t1.t,t2.t]):=by simp [yab,evS,evE,yac,evO,yal,ygq,yad,yaj,yaq,ya1,Sl.get,Sl.frz,ya0,ya5,ybo,ybk,ya6,yap,yai,fresh,zaa,yax,yah,yaz,ybh,items,yae,yan,yay,setAll,yat,yao,bnd,asI,ybb,ybi,ya7,glo,SZ,e1,e2,r1,r2]
   have pre:∀ u:T,evE G (.idx (.lst [.tup [.cst (.str "not"),.idx (.var 6) (.cst (.int 0))],.tup [.cst (.str "and"),.idx (.var 6) (.cst (.int 0)),.idx (.var 6) (.cst (.int 1))],.tup [.cst (.str "or"),.idx (.var 6) (.cst (.int 0)),.idx (.var 6) (.cst (.int 1))]]) (.bin .sub (.var 5) (.cst (.int 5)))) (ygq [.val TB,.val (.int k),.val (.int D),.val CT,.val ct,.val (.int (k%8)),.val (.lst [t1.t,t2.t]),.no,.no])=some u->yab G teB [.val TB,.val (.int k),.val (.int D),.val CT,.val ct,.val (.int (k%8)),.no,.no,.no]=some (.rt u):=fun u hu =>zb2 rfl (zkk.trans (by rw [hD1,h4'];rfl)) ((zar rfl e6 rfl).trans (zav rfl hu));have hk:k%8=5\/k%8=6\/k%8=7:=by omega
   have ev:evE G (.idx (.lst [.tup [.cst (.str "not"),.idx (.var 6) (.cst (.int 0))],.tup [.cst (.str "and"),.idx (.var 6) (.cst (.int 0)),.idx (.var 6) (.cst (.int 1))],.tup [.cst (.str "or"),.idx (.var 6) (.cst (.int 0)),.idx (.var 6) (.cst (.int 1))]]) (.bin .sub (.var 5) (.cst (.int 5)))) (ygq [.val TB,.val (.int k),.val (.int D),.val CT,.val ct,.val (.int (k%8)),.val (.lst [t1.t,t2.t]),.no,.no])=ybf [.tup [.str "not",t1.t],.tup [.str "and",t1.t,t2.t],.tup [.str "or",t1.t,t2.t]] (k%8-5):=by simp [evE,yac,ygq,Sl.get,yah,yaw,yav,ya0,ybo]
   rcases hk with hk | hk | hk
   ·exact ⟨.neg t1,zym zaa (pre _ (ev.trans (by rw [hk];exact yaw _ _))),o1,n1⟩
   ·exact ⟨.cnj t1 t2,zym zaa (pre _ (ev.trans (by rw [hk];exact yav _ _ _))),⟨o1,o2⟩,n1,n2⟩
   ·exact ⟨.dsj t1 t2,zym zaa (pre _ (ev.trans (by rw [hk];exact ybj _ _ _ _))),⟨o1,o2⟩,n1,n2⟩
  ·refine ⟨t,zym zaa ((zay rfl (zkk.trans (by rw [hD1,zys h4];rfl))).trans e),h (d+1),hin⟩
end
section
variable {cs:List Col}
noncomputable def ya4 (xs:List Str):T:=.tup (xs.map .str)
noncomputable def yef (xs:List Str):Prop:=∀ x∈xs,Sh x
noncomputable def CSh (cs:List Col) (xs:List Str):Prop:=∀ x∈xs,Sh x/\∃ c∈cs,c.n=x
theorem zp1 {x:Str}:∀ (xs:List Str),(xs.map T.str).any (fun z=>eqT z (.str x))=xs.any fun y=>y==x
 | []=>rfl
 | y::ys=>by rw [zx4,List.any_cons,List.any_cons,zp1 ys,eqT]
theorem zwf (y x:Str):dpP (.str y) (.str x)=0:=rfl
theorem zs4 (x:Str) (xs:List Str):dpI (.str x) (xs.map .str)=true:=by unfold dpI;rw [List.all_eq_true];intro z hz;obtain ⟨y,_,rfl⟩:=omm hz;rw [zwf];rfl
theorem zmc (x:Str) (xs:List Str):inC (.str x) (.tup (xs.map .str))=some (xs.any fun y=>y==x):=by simp only [inC,zs4,if_true,zp1]
noncomputable def ydf (cs:List Col) (kd:Str) (row:List Str):List (List Str):=cs.filterMap fun o=>if (o.k==kd)&&!(row.any fun y=>y==o.n) then some (row++[o.n]) else none
theorem zow (cs:List Col) (kd:Str) (row:List Str):(cs.filterMap fun o=>if (o.k==kd)&&!(row.any fun y=>y==o.n) then some (ya4 (row++[o.n])) else none)=(ydf cs kd row).map ya4:=by unfold ydf;rw [List.map_filterMap];congr;funext o;split<;>rfl
theorem zox (cs:List Col) (kd:Str) (row:List Str):(ydf cs kd row).length<=cs.length:=List.length_filterMap_le _ _
theorem zj1 (hc:ycb cs) {kd:Str} {row r:List Str} (hr:CSh cs row) (h:r∈ydf cs kd row):CSh cs r/\r.length=row.length+1:=by
 unfold ydf at h;obtain ⟨o,ho,e⟩:=List.mem_filterMap.mp h;split at e
 ·cases e;refine ⟨fun x hx=>?_,by simp⟩;rcases oma hx with q | q
  ·exact hr x q
  ·rw [omg q];exact ⟨(hc.2.2 o ho).1,o,ho,rfl⟩
 ·cases e
noncomputable def Rows (cs:List Col) (j:Nat) (ps:List (List Str)):Prop:=ps.length<=4 ^ j/\∀ p∈ps,CSh cs p/\p.length=j
theorem zhe {G:Glo} (hc:ycb cs) (nm key rules kt s2:T) (kd:Str) (j:Nat) (hj:j<=1) (ps:List (List Str)) (hp:Rows cs j ps) (s3:Sl) :
  ∃ (qs:List (List Str)) (s5:Sl),yan (fun x τ=>(yay [5] x τ).bind fun τ'=>yab G [.asg 4 (.bin .add (.var 4) (.comp (.bin .add (.var 6) (.tup [.idx (.var 0) (.cst (.int 0))])) 1 .plain [.idx (.var 0) (.cst (.int 1))] (some (.land (.cmp .eq (.idx (.var 0) (.cst (.int 1))) (.var 4)) (.cmp .notin (.idx (.var 0) (.cst (.int 0))) (.var 6))))))] τ')
   (ps.map ya4) [.val (ybt nm cs key rules),.val kt,.val s2,.val (.str kd),.own [],s3] =
   some (.nx [.val (ybt nm cs key rules),.val kt,.val s2,.val (.str kd),.own (qs.map ya4),s5])/\Rows cs (j+1) qs:=by
 have hl4:=hc.2.1;have hl:cs.length<=16777216:=by omega
 have h4j:4 ^ j<=4:=by rcases (by omega:j=0\/j=1) with rfl | rfl<;>decide
 have hpl:ps.length<=4:=zyr hp.1 h4j;obtain ⟨τ',e,qs,s5,rfl,h1,h2⟩:=zas (enc:=ya4) (f:=fun x τ=>(yay [5] x τ).bind fun τ'=>yab G [.asg 4 (.bin .add (.var 4) (.comp (.bin .add (.var 6) (.tup [.idx (.var 0) (.cst (.int 0))])) 1 .plain [.idx (.var 0) (.cst (.int 1))] (some (.land (.cmp .eq (.idx (.var 0) (.cst (.int 1))) (.var 4)) (.cmp .notin (.idx (.var 0) (.cst (.int 0))) (.var 6))))))] τ')
  (fun done τ=>∃ qs s5,τ=[.val (ybt nm cs key rules),.val kt,.val s2,.val (.str kd),.own (qs.map ya4),s5]/\qs.length<=4*done.length/\∀ q∈qs,CSh cs q/\q.length=j+1)
  ps [.val (ybt nm cs key rules),.val kt,.val s2,.val (.str kd),.own [],s3] ⟨[],s3,rfl,by simp,fun q hq=>by cases hq⟩ (by
   rintro done row rest hsp τ ⟨qs,s5,rfl,h1,h2⟩;have hrow:row∈ps:=by rw [hsp];simp
   have hdl:done.length<=ps.length:=by rw [hsp];simp
   have hrs:=(hp.2 row hrow).1;have hml:=zox cs kd row;have hz:qs.length+(ydf cs kd row).length<=16777216:=by omega
   have hrl:row.length+1<=16777216:=by rw [(hp.2 row hrow).2];omega
   refine ⟨[.val (ybt nm cs key rules),.val kt,.val s2,.val (.str kd),.own ((qs++ydf cs kd row).map ya4),.val (ya4 row)],?_,qs++ydf cs kd row,_,rfl,?_,?_⟩
   ·simp [yab,evS,evE,yac,evO,yal,ygq,yad,yaj,yaq,ya1,Sl.get,Sl.frz,ya0,ya5,ybo,ybk,ya6,yap,yai,fresh,zaa,yax,yah,yaz,ybh,items,yae,yan,yay,setAll,yat,yao,bnd,asI,ybb,ybi,ya7,glo,SZ,ybt,yav,hl];rw [za1 (enc:=Col.t) (fun o=>if (o.k==kd)&&!(row.any fun y=>y==o.n) then some (ya4 (row++[o.n])) else none) (fun o _=>by
     cases hk:(o.k==kd) with
     | false=>simp [Col.t,yah,yaw,yav,eqC,dpP,yba,eqT,hk]
     | true =>have hin:=zmc o.n row;cases ha:(row.any fun y=>y==o.n)<;>rw [ha] at hin<;>simp [Col.t,yah,yaw,yav,eqC,dpP,yba,eqT,hk,ya4,hin,hrl]),zow]
    simp [hz]
   ·simp only [List.length_append,List.length_cons,List.length_nil];omega
   ·intro q hq;rcases oma hq with z | z
    ·exact h2 q z
    ·have:=zj1 hc hrs z;exact ⟨this.1,by rw [this.2,(hp.2 row hrow).2]⟩)
 refine ⟨qs,s5,e,?_,h2⟩;have:=hp.1;rw [Nat.pow_succ];omega
end
section
theorem zld {P:Pr} (h:P.fn "_law_pairs"=some za8) (n:Nat) {cs:List Col} (hc:ycb cs) (nm key rules:T) (ks:List Str) (hk:ks.length<=2) :
  ∃ ps,run P (n+1) "_law_pairs" [ybt nm cs key rules,.lst (ks.map .str)]=some (.lst (ps.map ya4))/\Rows cs ks.length ps:=by
 rw [zaf h rfl];unfold za8;dsimp only;rw [zaw (τ':=[.val (ybt nm cs key rules),.val (.lst (ks.map .str)),.own ([[]].map ya4),.no,.no,.no]) (by simp [yab,evS,evE,yac,evO,yal,ygq,yad,yaj,yaq,ya1,Sl.get,Sl.frz,ya0,ya5,ybo,ybk,ya6,yap,yai,fresh,zaa,yax,yah,yaz,ybh,items,yae,yan,yay,setAll,yat,yao,bnd,asI,ybb,ybi,ya7,glo,SZ,ya4])];obtain ⟨τ',e,ps,s2,s3,s4,s5,rfl,h1,h2⟩:=zas (enc:=T.str) (f:=fun x τ=>(yay [3] x τ).bind fun τ'=>yab (glo P (run P n)) [.asg 4 (.lst []),
  .loop [5] .plain [.var 2] [.asg 4 (.bin .add (.var 4) (.comp (.bin .add (.var 6) (.tup [.idx (.var 0) (.cst (.int 0))])) 1 .plain [.idx (.var 0) (.cst (.int 1))] (some (.land (.cmp .eq (.idx (.var 0) (.cst (.int 1))) (.var 4)) (.cmp .notin (.idx (.var 0) (.cst (.int 0))) (.var 6))))))],
  .asg 2 (.var 4)] τ')
  (fun done τ=>∃ ps s2 s3 s4 s5,τ=[.val (ybt nm cs key rules),.val (.lst (ks.map .str)),s2,s3,s4,s5]/\(s2=.own (ps.map ya4)\/s2=.val (.lst (ps.map ya4)))/\Rows cs done.length ps)
  ks [.val (ybt nm cs key rules),.val (.lst (ks.map .str)),.own ([[]].map ya4),.no,.no,.no] ⟨[[]],_,_,_,_,rfl,.inl rfl,by simp,fun p hp=>by rw [omg hp];exact ⟨fun x hx=>(by cases hx),rfl⟩⟩ (by
   rintro done kd rest hsp τ ⟨ps,s2,s3,s4,s5,rfl,h1,h2⟩;have hdl:done.length<=1:=by rw [hsp] at hk;simp at hk;omega
   have hfz:Sl.frz s2=.val (.lst (ps.map ya4)):=by rcases h1 with rfl | rfl<;>rfl
   obtain ⟨qs,s5',el,hq⟩:=zhe (G:=glo P (run P n)) hc nm key rules (.lst (ks.map .str)) (.lst (ps.map ya4)) kd done.length hdl ps h2 s5;refine ⟨[.val (ybt nm cs key rules),.val (.lst (ks.map .str)),.val (.lst (qs.map ya4)),.val (.str kd),.val (.lst (qs.map ya4)),s5'],?_,qs,_,_,_,_,rfl,.inr rfl,by rw [zyj];exact hq⟩;simp only [yay,xbs,xss,xsz];rw [zaw (τ':=[.val (ybt nm cs key rules),.val (.lst (ks.map .str)),s2,.val (.str kd),.own [],s5]) (by simp [yab,evS,evE,yac,evO,yal,ygq,yad,yaj,yaq,ya1,Sl.get,Sl.frz,ya0,ya5,ybo,ybk,ya6,yap,yai,fresh,zaa,yax,yah,yaz,ybh,items,yae,yan,yay,setAll,yat,yao,bnd,asI,ybb,ybi,ya7,glo,SZ])];rw [zaw (s:=.loop _ _ _ _) (τ':=[.val (ybt nm cs key rules),.val (.lst (ks.map .str)),.val (.lst (ps.map ya4)),.val (.str kd),.own (qs.map ya4),s5']) (by rw [evS];simp only [yaq,yaj,List.append_nil,yad,yac,evE,ygq,List.modify_succ_cons,List.modify_zero_cons,hfz,xmc,Sl.get,xmn];simp only [xgs,xgz,xjs,xbs,items];exact el)];simp [yab,evS,evE,yac,evO,yal,ygq,yad,yaj,yaq,ya1,Sl.get,Sl.frz,ya0,ya5,ybo,ybk,ya6,yap,yai,fresh,zaa,yax,yah,yaz,ybh,items,yae,yan,yay,setAll,yat,yao,bnd,asI,ybb,ybi,ya7,glo,SZ])
 rw [zaw (s:=.loop _ _ _ _) (τ':=[.val (ybt nm cs key rules),.val (.lst (ks.map .str)),s2,s3,s4,s5]) (by rw [evS];simp only [yaq,yaj,List.append_nil,yad,yac,evE,ygq,List.modify_succ_cons,List.modify_zero_cons,xmc,Sl.get,Sl.frz,xmn];simp only [xgs,xgz,xjs,xbs,items];exact e)];refine ⟨ps,?_,h2⟩;rcases h1 with rfl | rfl<;>simp [yab,evS,evE,yac,evO,yal,ygq,yad,yaj,yaq,ya1,Sl.get,Sl.frz,ya0,ya5,ybo,ybk,ya6,yap,yai,fresh,zaa,yax,yah,yaz,ybh,items,yae,yan,yay,setAll,yat,yao,bnd,asI,ybb,ybi,ya7,glo,SZ]
end
section
structure Bt where
 nm:Str
 cs:List Col
 key:List Str
noncomputable def Bt.t (b:Bt):T:=ybm b.nm b.cs b.key []
noncomputable def ybd:List Str:=["id", "n", "t", "u"]
structure Bt.ok (b:Bt):Prop where
 nm:b.nm.length<=6
 cs:ycb b.cs
 k1:b.key.length<=2
 ks:yef b.key
 inn:∀ x∈b.key,∃ c∈b.cs,c.n=x
 kn:b.key≠[]
 nd:(b.cs.map (·.n)).Nodup
 kk:∀ c∈b.cs,c.k="whole"\/c.k="text"
 as:∀ c∈b.cs,c.n∈ybd
 na:ybs b.nm=true
 kg:∀ x∈b.key,∃ c∈b.cs,c.n=x/\c.g=false
inductive Rl where
 | ref (cs:List Str) (t w:Str) | unl (cs:List Str) | chk (t:Tst)
noncomputable def Rl.raw:Rl->T
 | .ref cs t w=>.tup [.str "refers",ya4 cs,.str t,.str w]
 | .unl cs=>.tup [.str "unlike",.lst (cs.map .str)]
 | .chk t=>.tup [.str "check",t.t]
noncomputable def Rl.t:Rl->T
 | .ref cs t w=>.tup [.str "refers",ya4 cs,.str t,.str w]
 | .unl cs=>.tup [.str "unlike",ya4 cs]
 | .chk t=>.tup [.str "check",t.t]
noncomputable def Rl.ok:Rl->Prop
 | .ref cs t w=>yef cs/\cs.length<=4/\t.length<=6/\w.length<=6
 | .unl cs=>yef cs/\cs.length<=4
 | .chk t=>t.ok 3
noncomputable def Rl.asc:Rl->Prop
 | .ref _ t w=>ybs t=true/\ybs w=true
 | .unl _=>True
 | .chk t=>∃ cs:List Col,(∀ c∈cs,c.n∈ybd)/\t.inn cs
noncomputable def Rl.fits (ns:List Str) (cs:List Col):Rl->Prop
 | .ref ks t _=>(∀ x∈ks,∃ c∈cs,c.n=x)/\t∈ns
 | .unl ks=>∀ x∈ks,∃ c∈cs,c.n=x
 | .chk t=>t.inn cs
noncomputable def zb5 (cs:List Col) (x:Str):List Str:=cs.filterMap fun c=>if c.n==x then some c.k else none
theorem zhp (cs:List Col) (x:Str):(cs.filterMap fun c=>if c.n==x then some (T.str c.k) else none)=(zb5 cs x).map T.str:=by unfold zb5;rw [List.map_filterMap];congr;funext o;split<;>rfl
theorem zj2 {cs:List Col} {x:Str} (h:∃ c∈cs,c.n=x):∃ y r,zb5 cs x=y::r:=by
 obtain ⟨c,hc,rfl⟩:=h;have:c.k∈zb5 cs c.n:=List.mem_filterMap.mpr ⟨c,hc,by simp⟩;cases q:zb5 cs c.n with
 | nil=>rw [q] at this;cases this
 | cons y r=>exact ⟨y,r,rfl⟩
noncomputable def ydg:List Str:=["along", "stop", "late", "gap", "along", "gap"]
theorem znl:∀ x∈ydg,ybs x=true:=by decide +kernel
theorem zo0:ybs "late"=true:=by decide +kernel
theorem znk:∀ x∈ydg,x.length<=6:=by decide +kernel
theorem zoz:("late":Str).length<=6:=by decide +kernel
theorem zmk (k:Int):∃ x∈ydg,ybf [.str "along",.str "stop",.str "late",.str "gap",.str "along",.str "gap"] (k%6)=some (.str x):=by obtain ⟨c,hc,e⟩:=zbn (enc:=T.str) (cs:=ydg) (by simp [ydg]) k;exact ⟨c,hc,e⟩
noncomputable def ydc (cs:List Col) (p:List Str):List Col:=cs.filterMap fun c=>if (p.any fun y=>y==c.n)&&!c.g then some c else none
theorem zkm (cs:List Col) (p:List Str):(cs.filterMap fun c=>if (p.any fun y=>y==c.n)&&!c.g then some c.t else none)=(ydc cs p).map Col.t:=by unfold ydc;rw [List.map_filterMap];congr;funext o;split<;>rfl
theorem zdn {α:Type} (f:α->T) (l:List α):yb5 (l.map f) []=l.isEmpty:=by cases l<;>rfl
theorem zpk (cs:List Col):(cs.filterMap fun c=>some (T.str c.n))=(cs.map (·.n)).map T.str:=by
 induction cs with
 | nil=>rfl
 | cons c cs ih=>simp [ih]
theorem zmz (xs:List T) (j:Nat):cut xs none (some (j:Int))=xs.take j:=by
 unfold cut yc8;simp only [show ¬ ((j:Int)<0) by omega,if_false,Int.toNat_natCast,Nat.sub_zero,List.drop_zero];by_cases h:j<=xs.length
 ·rw [Nat.min_eq_left h]
 ·rw [Nat.min_eq_right (by omega),List.take_of_length_le (by omega),List.take_of_length_le (by omega)]
theorem Tst.up:∀ {d:Nat} {t:Tst},t.ok d->t.ok (d+1)
 | 0,_,h=>by cases ‹Tst›<;>simp [Tst.ok] at h
 | d+1,.emp c,h=>⟨by omega,h.2⟩
 | d+1,.bel a b,h=>⟨by omega,h.2⟩
 | d+1,.isI c i,h=>⟨by omega,h.2⟩
 | d+1,.isS c x,h=>⟨by omega,h.2⟩
 | d+1,.neg t,h=>Tst.up (d:=d) (t:=t) h
 | d+1,.cnj a b,h=>⟨Tst.up (d:=d) (t:=a) h.1,Tst.up (d:=d) (t:=b) h.2⟩
 | d+1,.dsj a b,h=>⟨Tst.up (d:=d) (t:=a) h.1,Tst.up (d:=d) (t:=b) h.2⟩
theorem zht {G:Glo} {c:E} {a b ss:List S} {τ τ':List Sl} (h0:yad (yaj c) τ=τ) (h1:evE G c (ygq τ)=some (.bl true)) (h2:yab G a τ=some (.nx τ')):yab G (.ite c a b::ss) τ=yab G ss τ':=zaw (by rw [evS,h0,h1];exact h2)
section
variable {G:Glo} {BL bt gt KL PL NL ST pt:T} {k:Int} {s6 s7 s8 s9 s10:Sl}
noncomputable def ruD:List S:=za2.body.drop 3
noncomputable def ruE:List S:=za2.body.drop 4
theorem zw5:evE G (.cmp .lt (.bin .mod (.var 2) (.cst (.int 8))) (.cst (.int 5))) (ygq [.val BL,.val bt,.val (.int k),.val gt,.val KL,.val PL,s6,s7,s8,s9,s10])=some (.bl (decide (k%8<5))):=rfl
theorem ztz:evE G (.cmp .eq (.bin .mod (.var 2) (.cst (.int 8))) (.cst (.int 5))) (ygq [.val BL,.val bt,.val (.int k),.val gt,.val KL,.val PL,s6,s7,s8,s9,s10])=some (.bl (k%8==5)):=rfl
theorem zty {w w' gn:Str} {cl:Nat} (hc:evE G (.land (.cmp .lt (.bin .mod (.var 2) (.cst (.int 8))) (.cst (.int 5))) (.cmp .ne (.var 5) (.lst []))) (ygq [.val BL,.val bt,.val (.int k),.val gt,.val KL,.val PL,.no,.no,.no,.no,.no])=some (.bl true))
  (l5:yaz .len PL=some (.int (cl:Int))) (hcl:0<cl) (i5:yah PL (.int (k/64%(cl:Int)))=some pt) (iw:ybf [.str "along",.str "stop",.str "late",.str "gap",.str "along",.str "gap"] (k/1024%6)=some (.str w))
  (e8:evE G (.comp (.var 0) 1 .plain [.idx (.var 1) (.cst (.int 1))] (some (.land (.cmp .isin (.idx (.var 0) (.cst (.int 0))) (.var 7)) (.lnot (.tru (.idx (.var 0) (.cst (.int 2))))))))  (ygq [.val BL,.val bt,.val (.int k),.val gt,.val KL,.val PL,.val pt,.val (.str w),.no,.no,.no])=some ST)
  (v:Bool) (hne:neC ST (.lst [])=some (.bl v)) (hw:w'=if v&&(w=="gap") then ("late":Str) else w) (ig:yah gt (.int 0)=some (.str gn)) :
  yab G ruD [.val BL,.val bt,.val (.int k),.val gt,.val KL,.val PL,.no,.no,.no,.no,.no]=some (.rt (.tup [.str "refers",pt,.str gn,.str w'])):=by
 refine zb2 rfl hc ?_;refine (zar (t:=pt) (τ':=[.val BL,.val bt,.val (.int k),.val gt,.val KL,.val PL,.val pt,.no,.no,.no,.no]) rfl (by simp [evE,ygq,Sl.get,l5,ya0,ya6,yap,hcl,i5]) rfl).trans ?_;refine (zar (t:=.str w) (τ':=[.val BL,.val bt,.val (.int k),.val gt,.val KL,.val PL,.val pt,.val (.str w),.no,.no,.no]) rfl (by simp [evE,yac,ygq,Sl.get,ya0,ya6,yap,yah,iw]) rfl).trans ?_;refine (zar (t:=ST) (τ':=[.val BL,.val bt,.val (.int k),.val gt,.val KL,.val PL,.val pt,.val (.str w),.val ST,.no,.no]) rfl e8 rfl).trans ?_;have hcd:evE G (.land (.cmp .ne (.var 8) (.lst [])) (.cmp .eq (.var 7) (.cst (.str "gap")))) (ygq [.val BL,.val bt,.val (.int k),.val gt,.val KL,.val PL,.val pt,.val (.str w),.val ST,.no,.no])=some (.bl (v&&(w=="gap"))):=by cases v<;>simp [evE,yac,ygq,Sl.get,yax,hne,eqC,dpP,eqT]
 cases q:(v&&(w==("gap":Str))) with
 | true =>rw [q] at hw hcd;subst hw;exact (zht (τ':=[.val BL,.val bt,.val (.int k),.val gt,.val KL,.val PL,.val pt,.val (.str "late"),.val ST,.no,.no]) rfl hcd (zar (t:=.str "late") rfl rfl rfl)).trans (zav rfl (by simp [evE,yac,ygq,Sl.get,ig]))
 | false =>rw [q] at hw hcd;subst hw;exact (zay rfl hcd).trans (zav rfl (by simp [evE,yac,ygq,Sl.get,ig]))
end
theorem zn8 {P:Pr} (hd:P.fn "_law_drawn"=some zan) (ht:P.fn "_law_test"=some zau) (hp:P.fn "_law_pairs"=some za8) (h:P.fn "_law_rule"=some za2) (n:Nat)
  {bs:List Bt} (hb:∀ b∈bs,b.ok) {b:Bt} (hm:b∈bs) (k:Int):∃ r:Rl,run P (n+6) "_law_rule" [.lst (bs.map Bt.t),b.t,.int k]=some r.raw/\r.ok/\r.asc/\r.fits (bs.map (·.nm)) b.cs:=by
 rw [zaf h rfl];show ∃ r:Rl,zaa (yab (glo P (run P (n+5))) za2.body [.val (.lst (bs.map Bt.t)),.val b.t,.val (.int k),.no,.no,.no,.no,.no,.no,.no,.no])=_/\_;have hne:bs≠[]:=by intro e;rw [e] at hm;cases hm
 obtain ⟨g,hg,eg⟩:=zbn (enc:=Bt.t) hne (k/8);have hbo:=hb b hm;have hgo:=hb g hg;have hbl:0<bs.length:=by cases bs with | nil=>exact absurd rfl hne | cons _ _=>simp
 have hgl:g.cs.length<=16777216:=by have:=hgo.cs.2.1;omega
 have hbcl:b.cs.length<=16777216:=by have:=hbo.cs.2.1;omega
 have hkl:g.key.length<=16777216:=by have:=hgo.k1;omega
 have hb0:0<b.cs.length:=by have:=hbo.cs.1;cases q:b.cs with | nil=>exact absurd q this | cons _ _=>simp
 obtain ⟨ps,ep,hps⟩:=zld hp (n+4) hbo.cs (.str b.nm) (.tup (b.key.map .str)) (.tup []) (g.key.map fun x=>(zb5 g.cs x).headD "") (by rw [zya];exact hgo.k1);have ep:(glo P (run P (n+5))).call "_law_pairs" [b.t,.lst ((g.key.map fun x=>(zb5 g.cs x).headD "").map .str)]=some (.lst (ps.map ya4)):=ep;have tests:∀ d:Nat,d<=2->∃ t:Tst,(glo P (run P (n+5))).call "_law_test" [b.t,.int (k/64),.int ((d+1:Nat):Int)]=some t.t/\t.ok 3/\t.inn b.cs:=fun d hd2=>by
  obtain ⟨t,e,o,hin⟩:=znv hd ht hbo.cs (.str b.nm) (.tup (b.key.map .str)) (.tup []) d (n+3-d) (k/64);rw [show n+3-d+d+2=n+5 by omega] at e;refine ⟨t,e,?_,hin⟩;rcases (by omega:d=0\/d=1\/d=2) with rfl | rfl | rfl
  ·exact Tst.up (Tst.up o)
  ·exact Tst.up o
  ·exact o
 generalize glo P (run P (n+5))=G at *;have lB:yaz .len (.lst (bs.map Bt.t))=some (.int (bs.length:Int)):=by simp [yaz]
 have iB:yah (.lst (bs.map Bt.t)) (.int (k/8%(bs.length:Int)))=some g.t:=eg;have ib1:yah b.t (.int 1)=some (.tup (b.cs.map Col.t)):=by simp [Bt.t,ybm,yah,yav]
 have ig0:yah g.t (.int 0)=some (.str g.nm):=by simp [Bt.t,ybm,yah,yaw]
 have ig1:yah g.t (.int 1)=some (.tup (g.cs.map Col.t)):=by simp [Bt.t,ybm,yah,yav]
 have ig2:yah g.t (.int 2)=some (.tup (g.key.map .str)):=by simp [Bt.t,ybm,yah,ybj]
 generalize T.lst (bs.map Bt.t)=BL at *;generalize b.t=bt at *;generalize g.t=gt at *;have e4:evE G (.comp (.idx (.comp (.idx (.var 0) (.cst (.int 1))) 1 .plain [.idx (.var 4) (.cst (.int 1))] (some (.cmp .eq (.idx (.var 0) (.cst (.int 0))) (.var 1)))) (.cst (.int 0))) 1 .plain [.idx (.var 3) (.cst (.int 2))] none) (ygq [.val BL,.val bt,.val (.int k),.val gt,.no,.no,.no,.no,.no,.no,.no])=some (.lst ((g.key.map fun x=>(zb5 g.cs x).headD "").map .str)):=by
  simp [evE,yac,evO,ygq,Sl.get,items,yae,bnd,SZ,yax,ig1,ig2,hkl];rw [za1 (enc:=T.str) (fun x=>some (T.str ((zb5 g.cs x).headD ""))) (fun x hx=>by
   obtain ⟨y,r,ey⟩:=zj2 (hgo.inn x hx);simp [hgl];rw [za1 (enc:=Col.t) (fun c=>if c.n==x then some (T.str c.k) else none) (fun c _=>by cases hk:(c.n==x)<;>simp [Col.t,yah,yaw,yav,eqC,dpP,eqT,hk]),zhp,ey];simp [yah,yaw])]
  simp [List.filterMap_eq_map']
 generalize T.lst ((g.key.map fun x=>(zb5 g.cs x).headD "").map T.str)=KL at *;have pre:∀ PL:T,G.call "_law_pairs" [bt,KL]=some PL->yab G za2.body [.val BL,.val bt,.val (.int k),.no,.no,.no,.no,.no,.no,.no,.no]=yab G ruD [.val BL,.val bt,.val (.int k),.val gt,.val KL,.val PL,.no,.no,.no,.no,.no]:=fun PL hPL =>
  (zar (t:=gt) (τ':=[.val BL,.val bt,.val (.int k),.val gt,.no,.no,.no,.no,.no,.no,.no]) rfl (by simp [evE,ygq,Sl.get,lB,ya0,ya6,yap,hbl,iB]) rfl).trans
   ((zar (t:=KL) (τ':=[.val BL,.val bt,.val (.int k),.val gt,.val KL,.no,.no,.no,.no,.no,.no]) rfl e4 rfl).trans (zar (t:=PL) rfl (by simp [evE,yac,ygq,Sl.get,hPL]) rfl))
 rw [pre _ ep];have hcd:evE G (.land (.cmp .lt (.bin .mod (.var 2) (.cst (.int 8))) (.cst (.int 5))) (.cmp .ne (.var 5) (.lst []))) (ygq [.val BL,.val bt,.val (.int k),.val gt,.val KL,.val (.lst (ps.map ya4)),.no,.no,.no,.no,.no])=some (.bl (decide (k%8<5)&&!ps.isEmpty)):=by
  rw [evE,zw5];cases decide (k%8<5) with
  | false=>rfl
  | true=>cases ps<;>simp [evE,yac,ygq,Sl.get,yax,neC,dpP,yba,eqT,yb5]
 cases hw:(decide (k%8<5)&&!ps.isEmpty) with
 | true =>
  rw [hw] at hcd;rw [zx7] at hw;have hpn:ps≠[]:=by intro e;rw [e] at hw;simp at hw
  obtain ⟨p,hp',epi⟩:=zbn (enc:=ya4) hpn (k/64);have hpl:0<ps.length:=by cases q:ps with | nil=>exact absurd q hpn | cons _ _=>simp
  obtain ⟨w,hwm,ew⟩:=zmk (k/1024);have hpo:=hps.2 p hp';have e8:evE G (.comp (.var 0) 1 .plain [.idx (.var 1) (.cst (.int 1))] (some (.land (.cmp .isin (.idx (.var 0) (.cst (.int 0))) (.var 7)) (.lnot (.tru (.idx (.var 0) (.cst (.int 2))))))))  (ygq [.val BL,.val bt,.val (.int k),.val gt,.val KL,.val (.lst (ps.map ya4)),.val (ya4 p),.val (.str w),.no,.no,.no])=some (.lst ((ydc b.cs p).map Col.t)):=by
   simp [evE,yac,evO,ygq,Sl.get,items,yae,bnd,SZ,yax,ib1,hbcl];rw [za1 (enc:=Col.t) (fun c=>if (p.any fun y=>y==c.n)&&!c.g then some c.t else none) (fun c _=>by have hin:=zmc c.n p;cases ha:(p.any fun y=>y==c.n)<;>rw [ha] at hin<;>cases hgg:c.g<;>simp [Col.t,yah,yaw,ybj,ya4,hin,hgg,ybh]),zkm]
  have hne2:neC (.lst ((ydc b.cs p).map Col.t)) (.lst [])=some (.bl (!(ydc b.cs p).isEmpty)):=by unfold neC;rw [if_pos (by simp [dpP,yba]),eqT,zdn]
  have key:=zty (G:=G) (w:=w) hcd (by simp [yaz]) hpl epi ew e8 _ hne2 rfl ig0;refine ⟨.ref p g.nm (if (!(ydc b.cs p).isEmpty)&&(w=="gap") then ("late":Str) else w),zym zaa key,⟨fun x hx=>(hpo.1 x hx).1,?_,hgo.nm,?_⟩,⟨hgo.na,?_⟩,fun x hx=>(hpo.1 x hx).2,List.mem_map.mpr ⟨g,hg,rfl⟩⟩
  ·rw [hpo.2,zya];have:=hgo.k1;omega
  ·split
   ·exact zoz
   ·exact znk w hwm
  ·split
   ·exact zo0
   ·exact znl w hwm
 | false =>
  rw [hw] at hcd;generalize T.lst (ps.map ya4)=PL at *;have e9:evE G (.comp (.idx (.var 0) (.cst (.int 0))) 1 .plain [.idx (.var 1) (.cst (.int 1))] none) (ygq [.val BL,.val bt,.val (.int k),.val gt,.val KL,.val PL,.no,.no,.no,.no,.no])=some (.lst ((b.cs.map (·.n)).map .str)):=by simp [evE,yac,evO,ygq,Sl.get,items,yae,bnd,SZ,ib1,hbcl];rw [za1 (enc:=Col.t) (fun c=>some (T.str c.n)) (fun c _=>by simp [Col.t,yah,yaw]),zpk];simp
  have pre2:yab G ruD [.val BL,.val bt,.val (.int k),.val gt,.val KL,.val PL,.no,.no,.no,.no,.no]=yab G (ruE.drop 1) [.val BL,.val bt,.val (.int k),.val gt,.val KL,.val PL,.no,.no,.no,.val (.lst ((b.cs.map (·.n)).map .str)),.no] :=
   (zay rfl hcd).trans (zar rfl e9 rfl)
  rw [pre2];by_cases h5:k%8=5
  ·obtain ⟨j,hj⟩:∃ j:Nat,k/64%(b.cs.length:Int)=(j:Int):=⟨(k/64%(b.cs.length:Int)).toNat,by have:=Int.emod_nonneg (k/64) (show (b.cs.length:Int)≠0 by omega);omega⟩;have hx1:k/64%(b.cs.length:Int)<(b.cs.length:Int):=Int.emod_lt_of_pos _ (by omega);obtain ⟨m,hm2⟩:∃ m:Nat,1+k/1024%2=(m:Int):=⟨(1+k/1024%2).toNat,by omega⟩;have hjl:j<=((b.cs.map (·.n)).map T.str).length:=by simp;omega
   have hz:b.cs.length-j+min j b.cs.length<=16777216:=by omega
   have e10:evE G (.tup [.cst (.str "unlike"),.sli (.bin .add (.sli (.var 9) (some (.var 10)) none) (.sli (.var 9) none (some (.var 10)))) none (some (.bin .add (.cst (.int 1)) (.bin .mod (.bin .fdiv (.var 2) (.cst (.int 1024))) (.cst (.int 2)))))]) (ygq [.val BL,.val bt,.val (.int k),.val gt,.val KL,.val PL,.no,.no,.no,.val (.lst ((b.cs.map (·.n)).map .str)),.val (.int (j:Int))])=some (Rl.unl ((ycc (b.cs.map (·.n)) j).take m)).raw:=by have q1:=zfy _ _ hjl;have q2:=zm0 _ _ hjl;simp only [List.map_map] at q1 q2;simp [evE,yac,evO,ygq,Sl.get,ya0,ya5,ya6,yap,asI,ybb,hm2,q1,q2,SZ,hz,zmz,Rl.raw,ycc]
   refine ⟨.unl ((ycc (b.cs.map (·.n)) j).take m),congrArg zaa (zb2 rfl (ztz.trans (by rw [h5];rfl)) ((zar (t:=.int (j:Int)) (τ':=[.val BL,.val bt,.val (.int k),.val gt,.val KL,.val PL,.no,.no,.no,.val (.lst ((b.cs.map (·.n)).map .str)),.val (.int (j:Int))]) rfl (by simp [evE,ygq,Sl.get,yaz,ya0,ya6,yap,hb0,hj]) rfl).trans (zav rfl e10))),⟨fun x hx=>?_,?_⟩,trivial,fun x hx=>?_⟩
   ·have hx':=List.mem_of_mem_take hx;unfold ycc at hx';have hx2:x∈b.cs.map (·.n):=by
     rcases oma hx' with z | z
     ·exact List.mem_of_mem_drop z
     ·exact List.mem_of_mem_take z
    obtain ⟨c,hc,rfl⟩:=omm hx2;exact (hbo.cs.2.2 c hc).1
   ·unfold ycc;simp only [List.length_take,List.length_append,List.length_drop,List.length_map];have:=hbo.cs.2.1;omega
   ·have hx':=List.mem_of_mem_take hx;unfold ycc at hx';have hx2:x∈b.cs.map (·.n):=by
     rcases oma hx' with z | z
     ·exact List.mem_of_mem_drop z
     ·exact List.mem_of_mem_take z
    exact omm hx2
  ·obtain ⟨d,hd2,hdz⟩:∃ d:Nat,d<=2/\1+k/1024%3=((d+1:Nat):Int):=⟨(k/1024%3).toNat,by omega,by omega⟩;obtain ⟨t,e,o,hin⟩:=tests d hd2;exact ⟨.chk t,congrArg zaa ((zay rfl (ztz.trans (by rw [show (k%8==5)=false by simpa using h5]))).trans (zav rfl (by simp only [Int.natCast_add,Int.cast_ofNat_Int] at e hdz;simp [evE,yac,ygq,Sl.get,ya0,ya5,ya6,yap,hdz,e,Rl.raw]))),o,⟨b.cs,hbo.as,hin⟩,hin⟩
end
section
variable {cs:List Col}
structure Tb where
 nm:Str
 cs:List Col
 key:List Str
 rs:List Rl
noncomputable def Tb.t (b:Tb):T:=ybm b.nm b.cs b.key (b.rs.map Rl.t)
structure Tb.ok (b:Tb):Prop where
 nm:b.nm.length<=6
 cl:b.cs.length<=4
 cs:∀ c∈b.cs,Sh c.n/\c.k.length<=6
 k1:b.key.length<=2
 ks:yef b.key
 rl:b.rs.length<=3
 rs:∀ r∈b.rs,r.ok
 kn:b.key≠[]
 cn:b.cs≠[]
 nd:(b.cs.map (·.n)).Nodup
 kk:∀ c∈b.cs,c.k="whole"\/c.k="text"
 as:∀ c∈b.cs,c.n∈ybd
 na:ybs b.nm=true
 inn:∀ x∈b.key,∃ c∈b.cs,c.n=x
 ra:∀ r∈b.rs,r.asc
 kg:∀ x∈b.key,∃ c∈b.cs,c.n=x/\c.g=false
theorem ziw (i:Int):(ya2 i).length<=6:=by
 have all:∀ x∈kinds6,x.length<=6:=by decide +kernel
 unfold ya2;rw [zyb];cases e:kinds6[(i%6).toNat]? with
 | none=>decide +kernel
 | some x=>exact all x (zy8 e)
theorem zdl (k:Int):∀ c∈yaa k,c.n.length<=6/\c.k.length<=6:=by
 have hc:∀ (j:Int) (nm:Str),nm.length<=6->∀ c∈ybq k j nm,c.n.length<=6/\c.k.length<=6:=fun j nm hn c h=>by
  unfold ybq at h;split at h
  ·rw [omg h];exact ⟨hn,ziw _⟩
  ·cases h
 intro c h;unfold yaa at h;rcases oma h with h | h
 ·rw [omg h];exact ⟨(by decide +kernel:("id":Str).length<=6),ziw _⟩
 ·rcases oma h with h | h
  ·exact hc _ _ (by decide +kernel) c h
  ·rcases oma h with h | h
   ·exact hc _ _ (by decide +kernel) c h
   ·exact hc _ _ (by decide +kernel) c h
theorem zby {α:Type} {l:List α} {b:Nat} {x:α}:x∈ycc l b↔x∈l:=by
 unfold ycc;rw [List.mem_append];constructor
 ·rintro (h | h)
  ·exact List.mem_of_mem_drop h
  ·exact List.mem_of_mem_take h
 ·intro h;rw [<- List.take_append_drop b l,List.mem_append] at h;exact h.symm
theorem zdu {α:Type} (l:List α) (b:Nat):(ycc l b).length=l.length:=by unfold ycc;simp only [List.length_append,List.length_drop,List.length_take];omega
theorem zk6 {x:Str} (h:x∈za6 cs):∃ c∈cs,c.n=x:=by
 unfold za6 at h;obtain ⟨c,hc,e⟩:=List.mem_filterMap.mp h;split at e
 ·cases e
 ·cases e;exact ⟨c,hc,rfl⟩
theorem zv5 (k:Int):∃ c∈yaa k,c.n="id":=⟨⟨"id",ya2 k,false⟩,by unfold yaa;simp,rfl⟩
noncomputable def mkB (nm:Str) (k:Int):Bt:=⟨nm,ycc (yaa k) (k/64%((yaa k).length:Int)).toNat,yb7 k (yaa k)⟩
theorem zl0 (k:Int):∀ x∈yb7 k (yaa k),∃ c∈yaa k,c.n=x:=by
 intro x hx;have hid:=zv5 k;unfold yb7 at hx;split at hx
 ·rename_i h;have hg:∃ c∈yaa k,c.n=(za6 (yaa k)).getD 1 "id":=by refine zk6 ?_;rw [zyb,zx6 h.2];exact List.getElem_mem _
  split at hx<;>simp only [List.mem_cons,List.not_mem_nil,or_false] at hx<;>rcases hx with rfl | rfl<;>assumption
 ·rw [omg hx];exact hid
theorem zrw {x:Str} (h:x∈za6 cs):∃ c∈cs,c.n=x/\c.g=false:=by
 unfold za6 at h;obtain ⟨c,hc,e⟩:=List.mem_filterMap.mp h;cases hg:c.g with
 | true=>rw [hg] at e;cases e
 | false=>rw [hg] at e;exact ⟨c,hc,zyk e,hg⟩
theorem zxn (k:Int):∀ x∈yb7 k (yaa k),∃ c∈yaa k,c.n=x/\c.g=false:=by
 intro x hx;have hid:∃ c∈yaa k,c.n="id"/\c.g=false:=⟨⟨"id",ya2 k,false⟩,by unfold yaa;simp,rfl,rfl⟩;unfold yb7 at hx;split at hx
 ·rename_i h;have hg:∃ c∈yaa k,c.n=(za6 (yaa k)).getD 1 "id"/\c.g=false:=by refine zrw ?_;rw [zyb,zx6 h.2];exact List.getElem_mem _
  split at hx<;>simp only [List.mem_cons,List.not_mem_nil,or_false] at hx<;>rcases hx with rfl | rfl<;>assumption
 ·rw [omg hx];exact hid
theorem zsr (k:Int) (cs:List Col):(yb7 k cs).length<=2:=by unfold yb7;split<;>(try split)<;>simp
theorem zs9 (k:Int):((yaa k).map (·.n)).Nodup:=by
 have e1:(("id":Str)=="n")=false/\(("id":Str)=="t")=false/\(("id":Str)=="u")=false/\(("n":Str)=="t")=false/\(("n":Str)=="u")=false/\(("t":Str)=="u")=false:=by decide +kernel
 obtain ⟨a1,a2,a3,a4,a5,a6⟩:=e1;have b1:=ne_of_beq_false a1;have b2:=ne_of_beq_false a2;have b3:=ne_of_beq_false a3;have b4:=ne_of_beq_false a4;have b5:=ne_of_beq_false a5;have b6:=ne_of_beq_false a6;unfold yaa ybq;split<;>split<;>split<;>simp [b1,b2,b3,b4,b5,b6]
theorem ziv (i:Int):ya2 i="whole"\/ya2 i="text":=by
 have all:∀ x∈kinds6,(x==("whole":Str))=true\/(x==("text":Str))=true:=by decide +kernel
 unfold ya2;rw [zyb];cases e:kinds6[(i%6).toNat]? with
 | none=>exact .inl rfl
 | some x =>
  rcases all x (zy8 e) with h | h
  ·exact .inl (eq_of_beq h)
  ·exact .inr (eq_of_beq h)
theorem zpj (k:Int):∀ c∈yaa k,c.k="whole"\/c.k="text":=by
 have one:∀ (j:Int) (nm:Str),∀ c∈ybq k j nm,c.k="whole"\/c.k="text":=by
  intro j nm c hc;unfold ybq at hc;split at hc
  ·rw [omg hc];exact ziv _
  ·cases hc
 intro c hc;unfold yaa at hc;rcases oma hc with h | h
 ·rw [omg h];exact ziv _
 ·rcases oma h with h | h
  ·exact one _ _ c h
  ·rcases oma h with h | h
   ·exact one _ _ c h
   ·exact one _ _ c h
theorem zh1 (k:Int):∀ c∈yaa k,c.n∈ybd:=by
 have one:∀ (j:Int) (nm:Str),nm∈ybd->∀ c∈ybq k j nm,c.n∈ybd:=by
  intro j nm hn c hc;unfold ybq at hc;split at hc
  ·rw [omg hc];exact hn
  ·cases hc
 intro c hc;unfold yaa at hc;rcases oma hc with h | h
 ·rw [omg h];simp [ybd]
 ·rcases oma h with h | h
  ·exact one _ _ (by simp [ybd]) c h
  ·rcases oma h with h | h
   ·exact one _ _ (by simp [ybd]) c h
   ·exact one _ _ (by simp [ybd]) c h
theorem zqq:∀ x∈ybd,ybs x=true:=by decide +kernel
theorem zvg (nm:Str) (hn:nm.length<=6) (ha:ybs nm=true) (k:Int):(mkB nm k).ok where
 kg:=fun x hx=>by obtain ⟨c,hc,e⟩:=zxn k x hx;exact ⟨c,zby.mpr hc,e⟩
 nm:=hn
 cs:=by have h:=zdq k;refine ⟨fun e=>?_,by show (ycc _ _).length<=4;rw [zdu];exact h.2,fun c hc=>⟨⟨(zdl k c (zby.mp hc)).1,zqq _ (zh1 k c (zby.mp hc))⟩,(zdl k c (zby.mp hc)).2⟩⟩;have e':(ycc (yaa k) (k/64%((yaa k).length:Int)).toNat).length=([]:List Col).length:=zym List.length e;rw [zdu] at e';simp at e';rw [e'] at h;simp at h
 k1:=zsr k _
 ks:=fun x hx=>by obtain ⟨c,hc,rfl⟩:=zl0 k x hx;exact ⟨(zdl k c hc).1,zqq _ (zh1 k c hc)⟩
 inn:=fun x hx=>by obtain ⟨c,hc,e⟩:=zl0 k x hx;exact ⟨c,zby.mpr hc,e⟩
 kn:=by show yb7 k (yaa k)≠[];unfold yb7;split<;>(try split)<;>simp
 nd:=by show ((ycc (yaa k) _).map (·.n)).Nodup;have h:=zs9 k;unfold ycc;rw [zyx];rw [<- List.take_append_drop (k/64%((yaa k).length:Int)).toNat (yaa k),zyx] at h;exact (List.perm_append_comm.nodup_iff).mp h
 kk:=fun c hc=>zpj k c (zby.mp hc)
 as:=fun c hc=>zh1 k c (zby.mp hc)
 na:=ha
theorem zb7 {α:Type} (enc:α->T):∀ (l:List α) (i:Nat),yat (l.map enc) i=(l.zipIdx i).map fun p=>.tup [.int (p.2:Int),enc p.1]
 | [],_=>rfl
 | a::l,i=>by rw [zx4,yat,zb7 enc l (i+1),List.zipIdx_cons,zx4]
theorem zej:∀ (l:List T) (i:Nat),(yat l i).length=l.length
 | [],_=>rfl
 | a::l,i=>by rw [yat,zyq,zyq,zej l (i+1)]
theorem zkt {G:Glo} (r:Rl) (e:Env):evE G (.bin .add (.tup [.idx (.var 0) (.cst (.int 0)),.blt .toTuple (.idx (.var 0) (.cst (.int 1)))]) (.sli (.var 0) (some (.cst (.int 2))) none)) (some r.raw::e)=some r.t:=by
 cases r with
 | ref cs t w=>simp [evE,yac,evO,ya0,ya5,yah,yaz,asI,ybb,SZ,Rl.raw,Rl.t,yaw,yav,cut,yc8,ya4]
 | unl cs=>simp [evE,yac,evO,ya0,ya5,yah,yaz,asI,ybb,SZ,Rl.raw,Rl.t,yaw,yav,cut,yc8,ya4]
 | chk t=>cases t<;>simp [evE,yac,evO,ya0,ya5,yah,yaz,asI,ybb,SZ,Rl.raw,Rl.t,Tst.t,yaw,yav,cut,yc8]
theorem zjt {P:Pr} (hd:P.fn "_law_drawn"=some zan) (ht:P.fn "_law_test"=some zau) (hp:P.fn "_law_pairs"=some za8) (hr:P.fn "_law_rule"=some za2) (n:Nat)
  {bs:List Bt} (hb:∀ b∈bs,b.ok) {b:Bt} (hm:b∈bs) (k d c:Int) (s1 s2 s3 s5:T) (m:Nat) (hm3:m<=3) (s9 s10:Sl) :
  ∃ (rs:List Rl) (s9':Sl),yan (fun x τ=>(yay [9] x τ).bind fun τ'=>yab (glo P (run P (n+6))) [.app 8 (.call "_law_rule" [.var 4,.var 6,.bin .fdiv (.call "_law_drawn" [.var 7,.var 9]) (.cst (.int 4))])] τ')
   ((List.range m).map fun (i:Nat)=>T.int (i:Int)) [.val (.int k),.val s1,.val s2,.val s3,.val (.lst (bs.map Bt.t)),.val s5,.val b.t,.val (.int d),.own [],s9,s10] =
   some (.nx [.val (.int k),.val s1,.val s2,.val s3,.val (.lst (bs.map Bt.t)),.val s5,.val b.t,.val (.int d),.own (rs.map Rl.raw),s9',s10])/\rs.length=m/\∀ r∈rs,r.ok/\r.asc/\r.fits (bs.map (·.nm)) b.cs:=by
 obtain ⟨τ',e,rs,s9',rfl,h1,h2⟩:=zas (enc:=fun (i:Nat)=>T.int (i:Int)) (f:=fun x τ=>(yay [9] x τ).bind fun τ'=>yab (glo P (run P (n+6))) [.app 8 (.call "_law_rule" [.var 4,.var 6,.bin .fdiv (.call "_law_drawn" [.var 7,.var 9]) (.cst (.int 4))])] τ')
  (fun done τ=>∃ rs s9',τ=[.val (.int k),.val s1,.val s2,.val s3,.val (.lst (bs.map Bt.t)),.val s5,.val b.t,.val (.int d),.own (rs.map Rl.raw),s9',s10]/\rs.length=done.length/\∀ r∈rs,r.ok/\r.asc/\r.fits (bs.map (·.nm)) b.cs)
  (List.range m) [.val (.int k),.val s1,.val s2,.val s3,.val (.lst (bs.map Bt.t)),.val s5,.val b.t,.val (.int d),.own [],s9,s10] ⟨[],s9,rfl,rfl,fun r h=>by cases h⟩ (by
   rintro done i rest hsp τ ⟨rs,s9',rfl,h1,h2⟩;obtain ⟨r,er,hro⟩:=zn8 hd ht hp hr n hb hm (yas d i/4);have ed:=zbv hd (n+5) d i;have hdl:done.length<=3:=by have:=zym List.length hsp;simp at this;omega
   have hz:rs.length<16777216:=by omega
   refine ⟨[.val (.int k),.val s1,.val s2,.val s3,.val (.lst (bs.map Bt.t)),.val s5,.val b.t,.val (.int d),.own ((rs++[r]).map Rl.raw),.val (.int i),s10],?_,rs++[r],_,rfl,by simp [h1],fun q hq=>?_⟩
   ·simp [yab,evS,evE,yac,ygq,yad,yaj,yaq,Sl.get,Sl.frz,ya0,yap,yay,glo,SZ,ed,er,hz]
   ·rcases oma hq with z | z
    ·exact h2 q z
    ·rw [omg z];exact hro)
 exact ⟨rs,s9',e,by rw [h1];simp,h2⟩
end
section
noncomputable def names4:List Str:=["item", "user", "box", "log"]
theorem zjz:∀ x∈names4,x.length<=6:=by decide +kernel
theorem zli:∀ x∈names4,ybs x=true:=by decide +kernel
noncomputable def yfn:List Int:=[2,1,3,4,2,3]
noncomputable def yfp:List Int:=[1,2,0,1,3]
theorem zpm:∀ c∈yfn,1<=c/\c<=4:=by decide
theorem zpn:∀ c∈yfp,0<=c/\c<=3:=by decide
theorem zml (k:Int):∃ i∈yfn,ybf [.int 2,.int 1,.int 3,.int 4,.int 2,.int 3] (k%6)=some (.int i):=by obtain ⟨c,hc,e⟩:=zbn (enc:=T.int) (cs:=yfn) (by simp [yfn]) k;exact ⟨c,hc,e⟩
theorem zmm (k:Int):∃ i∈yfp,ybf [.int 1,.int 2,.int 0,.int 1,.int 3] (k%5)=some (.int i):=by obtain ⟨c,hc,e⟩:=zbn (enc:=T.int) (cs:=yfp) (by simp [yfp]) k;exact ⟨c,hc,e⟩
theorem zfa {α β:Type} (f:α->β) (l:List α):(l.filterMap fun a=>some (f a))=l.map f:=by
 induction l with
 | nil=>rfl
 | cons a l ih=>simp [ih]
theorem zft (G:Glo) (elt:E) (n:Nat) (k:Ik) (src:List E) (cond:Option E) (r:Env):evE G (.comp elt n k src cond) r=(yac G src r).bind fun xs=>(yae k xs).bind fun qc =>
   (yao (fun x=>(bnd n x r).bind fun r'=>(evO G cond r').bind fun c=>match c with
    | none=>(evE G elt r').map some
    | some (.bl true)=>(evE G elt r').map some
    | some (.bl false)=>some none
    | some _=>none) qc).map .lst:=by rw [evE];try rfl
theorem zs1 (G:Glo) (i:Nat) (r:Env):evE G (.var i) r=(r[i]?).join:=by rw [evE]
theorem zbq (G:Glo) (f:Bn) (a:E) (r:Env):evE G (.blt f a) r=(evE G a r).bind fun x=>yaz f x:=by rw [evE]
theorem zhs (q:Nat) (h:q<=3):items .range [.int (q:Int)]=some ((List.range q).map fun (i:Nat)=>T.int (i:Int)):=by simp only [items,ybn,Int.toNat_natCast];rw [if_pos (by omega)]
theorem zbp {G:Glo} {is:List Nat} {k:Ik} {src:List E} {body:List S} {τ τ0:List Sl} {xs qc:List T} {o:Out} (h0:yad (yaq src) τ=τ0) (h1:yac G src (ygq τ0)=some xs) (h2:items k xs=some qc)
  (h3:yan (fun x τ=>(yay is x τ).bind fun τ'=>yab G body τ') qc τ0=some o):evS G (.loop is k src body) τ=some o:=by
 rw [evS,h0,h1,zx0,h2,zx0];exact h3
noncomputable def yes:List S:=[.asg 7 (.bin .fdiv (.call "_law_drawn" [.var 0,.bin .add (.cst (.int 20)) (.var 3)]) (.cst (.int 4))),
  .asg 8 (.lst []),
  .loop [9] .range [.idx (.tup [.cst (.int 1),.cst (.int 2),.cst (.int 0),.cst (.int 1),.cst (.int 3)]) (.bin .mod (.var 7) (.cst (.int 5)))] [.app 8 (.call "_law_rule" [.var 4,.var 6,.bin .fdiv (.call "_law_drawn" [.var 7,.var 9]) (.cst (.int 4))])],
  .asg 10 (.blt .toTuple (.comp (.bin .add (.tup [.idx (.var 0) (.cst (.int 0)),.blt .toTuple (.idx (.var 0) (.cst (.int 1)))]) (.sli (.var 0) (some (.cst (.int 2))) none)) 1 .plain [.var 8] none)),
  .asg 5 (.bin .add (.var 5) (.tup [.bin .add (.sli (.var 6) none (some (.cst (.int 3)))) (.tup [.var 10])]))]
set_option maxRecDepth 1000000 in
theorem zha {P:Pr} (hd:P.fn "_law_drawn"=some zan) (ht:P.fn "_law_test"=some zau) (hp:P.fn "_law_pairs"=some za8) (hr:P.fn "_law_rule"=some za2) (n:Nat)
  {bs:List Bt} (hbo:∀ b∈bs,b.ok) {b:Bt} (hbm:b∈bs) (k:Int) (s1:T) (s2:Int) (i:Nat) (S:List Tb) (hS:S.length<=4) (s7 s8 s9 s10:Sl) :
  ∃ (rs:List Rl) (s9':Sl),yab (glo P (run P (n+6))) yes [.val (.int k),.val s1,.val (.int s2),.val (.int (i:Int)),.val (.lst (bs.map Bt.t)),.val (.tup (S.map Tb.t)),.val b.t,s7,s8,s9,s10] =
   some (.nx [.val (.int k),.val s1,.val (.int s2),.val (.int (i:Int)),.val (.lst (bs.map Bt.t)),.val (.tup ((S++[(⟨b.nm,b.cs,b.key,rs⟩:Tb)]).map Tb.t)),.val b.t,.val (.int (yas k (20+i)/4)),.val (.lst (rs.map Rl.raw)),s9',.val (.tup (rs.map Rl.t))])/\rs.length<=3/\∀ r∈rs,r.ok/\r.asc/\r.fits (bs.map (·.nm)) b.cs:=by
 have e1:=zbv hd (n+5) k (20+i);obtain ⟨c,hc,ecn⟩:=zmm (yas k (20+i)/4);have hcm:=zpn c hc;obtain ⟨q,rfl⟩:∃ q:Nat,c=(q:Int):=⟨c.toNat,by omega⟩;have hq3:q<=3:=by omega
 obtain ⟨rs,s9',el,hrl,hro⟩:=zjt hd ht hp hr n hbo hbm k (yas k (20+i)/4) 0 s1 (.int s2) (.int (i:Int)) (.tup (S.map Tb.t)) q hq3 s9 s10;have hz1:rs.length<=16777216:=by omega
 have hz2:S.length+1<=16777216:=by omega
 refine ⟨rs,s9',?_,by omega,hro⟩;unfold yes;rw [zaw (τ':=[.val (.int k),.val s1,.val (.int s2),.val (.int (i:Int)),.val (.lst (bs.map Bt.t)),.val (.tup (S.map Tb.t)),.val b.t,.val (.int (yas k (20+i)/4)),s8,s9,s10]) (by simp [evS,evE,yac,ygq,yad,yaj,yaq,Sl.get,Sl.frz,ya0,ya5,yap,yai,fresh,glo,SZ,e1])];rw [zaw (τ':=[.val (.int k),.val s1,.val (.int s2),.val (.int (i:Int)),.val (.lst (bs.map Bt.t)),.val (.tup (S.map Tb.t)),.val b.t,.val (.int (yas k (20+i)/4)),.own [],s9,s10]) (by simp [evS,evE,yac,yad,yaj,yaq,yai,fresh])];rw [zaw (s:=.loop _ _ _ _) (τ':=[.val (.int k),.val s1,.val (.int s2),.val (.int (i:Int)),.val (.lst (bs.map Bt.t)),.val (.tup (S.map Tb.t)),.val b.t,.val (.int (yas k (20+i)/4)),.own (rs.map Rl.raw),s9',s10]) (by refine zbp (qc:=(List.range q).map fun (i:Nat)=>T.int (i:Int)) (xs:=[.int (q:Int)]) (τ0:=[.val (.int k),.val s1,.val (.int s2),.val (.int (i:Int)),.val (.lst (bs.map Bt.t)),.val (.tup (S.map Tb.t)),.val b.t,.val (.int (yas k (20+i)/4)),.own [],s9,s10]) (by simp [yaq,yaj,yad,Sl.frz]) ?_ (zhs q hq3) el;simp [evE,yac,ygq,Sl.get,ya0,ya6,yah,ecn])];rw [zaw (τ':=[.val (.int k),.val s1,.val (.int s2),.val (.int (i:Int)),.val (.lst (bs.map Bt.t)),.val (.tup (S.map Tb.t)),.val b.t,.val (.int (yas k (20+i)/4)),.val (.lst (rs.map Rl.raw)),s9',.val (.tup (rs.map Rl.t))]) (by
  simp only [evS,ygq,yad,yaj,yaq,ya1,List.append_nil,List.nil_append,List.cons_append,List.filterMap_cons,List.filterMap_nil,Nat.reduceLeDiff,if_false,List.modify_succ_cons,List.modify_zero_cons,Sl.frz,xmc,xmn,Sl.get];rw [zbq,zft];simp only [yac,zs1,xgs,xgz,xjs,xbs,yae,items,List.length_map,SZ,hz1,if_true];rw [za1 (enc:=Rl.raw) (fun r=>some r.t) (fun r _=>by simp only [bnd,if_true,xbs,evO];rw [zkt];rfl),zfa];simp [yai,fresh,yaz])]
 simp [yab,evS,evE,yac,evO,ygq,yad,yaj,yaq,ya1,Sl.get,Sl.frz,ya0,ya5,yai,fresh,asI,ybb,SZ,Bt.t,ybm,cut,yc8,hz2,Tb.t]
theorem zhb {P:Pr} (hd:P.fn "_law_drawn"=some zan) (ht:P.fn "_law_test"=some zau) (hp:P.fn "_law_pairs"=some za8) (hr:P.fn "_law_rule"=some za2)
  (hb:P.fn "_law_bare"=some zbd) (h:P.fn "_law_schema"=some zb3) (n:Nat) (k:Int) :
  ∃ S:List Tb,run P (n+7) "_law_schema" [.int k]=some (.tup (S.map Tb.t))/\S.length<=4/\(∀ b∈S,b.ok)/\0<S.length/\(S.map (·.nm)).Nodup/\∀ b∈S,∀ r∈b.rs,r.fits (S.map (·.nm)) b.cs:=by
 rw [zaf h rfl];obtain ⟨c,hc,ec⟩:=zml (k/4);have hc':=zpm c hc;obtain ⟨m,rfl⟩:∃ m:Nat,c=(m:Int):=⟨c.toNat,by omega⟩;have hk0:0<=k%4:=Int.emod_nonneg _ (by decide);have hk1:k%4<4:=Int.emod_lt_of_pos _ (by decide);obtain ⟨j,hj⟩:∃ j:Nat,k%4=(j:Int):=⟨(k%4).toNat,by omega⟩;have hjl:j<=(names4.map T.str).length:=by simp [names4];omega
 generalize hN:(ycc names4 j).take m=N;have hNl:N.length<=4:=by rw [<- hN,List.length_take,zdu];simp [names4];omega
 have hNp:0<N.length:=by rw [<- hN,List.length_take,zdu];simp [names4];omega
 have hNs:∀ x∈N,x.length<=6:=fun x hx=>by rw [<- hN] at hx;exact zjz x (zby.mp (List.mem_of_mem_take hx))
 have hNa:∀ x∈N,ybs x=true:=fun x hx=>by rw [<- hN] at hx;exact zli x (zby.mp (List.mem_of_mem_take hx))
 unfold zb3;dsimp only;rw [zaw (τ':=[.val (.int k),.own (names4.map .str),.no,.no,.no,.no,.no,.no,.no,.no,.no]) (by simp [evS,evE,yac,yal,yad,yaj,yaq,yai,fresh,names4])];rw [zaw (τ':=[.val (.int k),.own (names4.map .str),.val (.int (j:Int)),.no,.no,.no,.no,.no,.no,.no,.no]) (by simp [evS,evE,ygq,yad,yaj,Sl.get,Sl.frz,ya0,ya6,yai,fresh,hj])];rw [zaw (τ':=[.val (.int k),.val (.lst (N.map .str)),.val (.int (j:Int)),.no,.no,.no,.no,.no,.no,.no,.no]) (by
  have hz:(names4.map T.str).length-j+min j (names4.map T.str).length<=16777216:=by simp [names4];omega
  have hz':names4.length-j+min j names4.length<=16777216:=by simpa using hz
  simp only [evS,evE,yac,evO,ygq,yad,yaj,yaq,ya1,List.append_nil,List.nil_append,List.cons_append,List.modify_succ_cons,List.modify_zero_cons,Sl.frz,xmc,xmn,Sl.get,xgs,xgz,xjs,xbs,xms,asI,ybb,zfy _ _ hjl,zm0 _ _ hjl];simp [ya0,ya5,ya6,yap,yai,fresh,yah,SZ,hz',ec,zmz,ycc,<- hN])]
 generalize hB:(N.zipIdx 0).map (fun p=>mkB p.1 (yas k p.2/4))=bs;have hbl:bs.length=N.length:=by rw [<- hB];simp
 have hbo:∀ b∈bs,b.ok:=fun b hb'=>by
  rw [<- hB] at hb';obtain ⟨p,hp',rfl⟩:=omm hb';have hmm:p.1∈N:=by have:=List.mem_zipIdx' hp';rw [this.2];exact List.getElem_mem _
  exact zvg _ (hNs _ hmm) (hNa _ hmm) _
 rw [zaw (τ':=[.val (.int k),.val (.lst (N.map .str)),.val (.int (j:Int)),.no,.val (.lst (bs.map Bt.t)),.no,.no,.no,.no,.no,.no]) (by
  have hz:N.length<=16777216:=by omega
  simp only [evS,evE,yac,evO,ygq,yad,yaj,yaq,ya1,List.append_nil,List.nil_append,List.cons_append,List.filterMap_cons,List.filterMap_nil,Nat.reduceLeDiff,if_true,if_false,Nat.reduceSub,List.modify_succ_cons,List.modify_zero_cons,Sl.frz,xmc,xmn,Sl.get,xgs,xgz,xjs,xbs,yae,items,zej,List.length_map,SZ,hz];rw [zb7 T.str N 0,za1 (enc:=fun (p:Str × Nat)=>T.tup [.int (p.2:Int),.str p.1]) (fun p=>some (mkB p.1 (yas k p.2/4)).t) (fun p _=>by have e1:=zbv hd (n+5) k p.2;have e2:=zpw hd hb (n+4) p.1 (yas k p.2/4);simp [bnd,ya0,yap,glo,e1,e2,mkB,Bt.t]),zfa];simp [yai,fresh,<- hB])]
 rw [zaw (τ':=[.val (.int k),.val (.lst (N.map .str)),.val (.int (j:Int)),.no,.val (.lst (bs.map Bt.t)),.val (.tup []),.no,.no,.no,.no,.no]) (by simp [evS,evE,yac,yad,yaj,yaq,yai,fresh])];obtain ⟨τ',e,S,s3,s6,s7,s8,s9,s10,rfl,h1,h2,h3,h4⟩:=zas (enc:=fun (p:Bt × Nat)=>T.tup [.int (p.2:Int),p.1.t]) (f:=fun x τ=>(yay [3,6] x τ).bind fun τ'=>yab (glo P (run P (n+6))) yes τ')
  (fun done τ=>∃ (S:List Tb),∃ s3 s6 s7 s8 s9 s10,τ=[.val (.int k),.val (.lst (N.map .str)),.val (.int (j:Int)),s3,.val (.lst (bs.map Bt.t)),.val (.tup (S.map Tb.t)),s6,s7,s8,s9,s10]/\S.length=done.length/\(∀ b∈S,b.ok)/\S.map (·.nm)=done.map (·.1.nm)/\∀ b∈S,∀ r∈b.rs,r.fits (bs.map (·.nm)) b.cs)
  (bs.zipIdx 0) [.val (.int k),.val (.lst (N.map .str)),.val (.int (j:Int)),.no,.val (.lst (bs.map Bt.t)),.val (.tup []),.no,.no,.no,.no,.no] ⟨[],_,_,_,_,_,_,rfl,rfl,(fun b hb'=>by cases hb'),rfl,fun b hb'=>by cases hb'⟩ (by
   rintro done ⟨b,i⟩ rest hsp τ ⟨S,s3,s6,s7,s8,s9,s10,rfl,h1,h2,h3,h4⟩;have hbm:b∈bs:=by
    have:(b,i)∈bs.zipIdx 0:=by rw [hsp];simp
    have:=List.mem_zipIdx' this;rw [this.2];exact List.getElem_mem _
   have hdl:done.length<=4:=by have:=zym List.length hsp;simp at this;omega
   obtain ⟨rs,s9',est,hrl,hro⟩:=zha hd ht hp hr n hbo hbm k (.lst (N.map .str)) (j:Int) i S (by omega) s7 s8 s9 s10;refine ⟨[.val (.int k),.val (.lst (N.map .str)),.val (.int (j:Int)),.val (.int (i:Int)),.val (.lst (bs.map Bt.t)),.val (.tup ((S++[(⟨b.nm,b.cs,b.key,rs⟩:Tb)]).map Tb.t)),.val b.t,.val (.int (yas k (20+i)/4)),.val (.lst (rs.map Rl.raw)),s9',.val (.tup (rs.map Rl.t))],?_,S++[(⟨b.nm,b.cs,b.key,rs⟩:Tb)],_,_,_,_,_,_,rfl,by simp [h1],fun x hx=>?_,by simp [h3],fun x hx=>?_⟩
   ·simp only [yay,setAll,xbs,xss,xsz];exact est
   ·rcases oma hx with z | z
    ·exact h2 x z
    ·rw [omg z];have bo:=hbo b hbm;exact ⟨bo.nm,bo.cs.2.1,bo.cs.2.2,bo.k1,bo.ks,by show rs.length<=3;omega,fun r hr=>(hro r hr).1,bo.kn,bo.cs.1,bo.nd,bo.kk,bo.as,bo.na,bo.inn,fun r hr=>(hro r hr).2.1,bo.kg⟩
   ·rcases oma hx with z | z
    ·exact h4 x z
    ·rw [omg z];exact fun r hr=>(hro r hr).2.2)
 rw [zaw (s:=.loop _ _ _ _) (τ':=[.val (.int k),.val (.lst (N.map .str)),.val (.int (j:Int)),s3,.val (.lst (bs.map Bt.t)),.val (.tup (S.map Tb.t)),s6,s7,s8,s9,s10]) (by rw [evS];simp only [yaq,yaj,List.append_nil,yad,yac,evE,ygq,List.modify_succ_cons,List.modify_zero_cons,xmc,Sl.get,Sl.frz,xmn];simp only [xgs,xgz,xjs,xbs,items,zb7];exact e)];refine ⟨S,by simp [yab,evS,evE,ygq,yad,yaj,Sl.get,Sl.frz,zaa],by rw [h1];simp;omega,h2,by rw [h1];simp;omega,?_,?_⟩
 ·have e1:(bs.zipIdx 0).map (·.1.nm)=N:=by
   have z:(bs.zipIdx 0).map (·.1.nm)=((bs.zipIdx 0).map Prod.fst).map (·.nm):=by rw [zy3];rfl
   rw [z,List.zipIdx_map_fst,<- hB,zy3];have y:(N.zipIdx 0).map ((·.nm)∘fun p=>mkB p.1 (yas k p.2/4))=(N.zipIdx 0).map Prod.fst:=rfl;rw [y,List.zipIdx_map_fst]
  rw [h3,e1,<- hN];have all:∀ j:Fin 4,∀ m:Fin 5,((ycc names4 j.val).take m.val).Nodup:=by decide +kernel
  exact all ⟨j,by omega⟩ ⟨m,by omega⟩
 ·have e2:S.map (·.nm)=bs.map (·.nm):=by
   have z:(bs.zipIdx 0).map (·.1.nm)=((bs.zipIdx 0).map Prod.fst).map (·.nm):=by rw [zy3];rfl
   rw [h3,z,List.zipIdx_map_fst]
  rw [e2];exact h4
end
section
variable {ps:List (Col × T)}
noncomputable def Wok (c:Col) (w:T):Prop:=w=.non\/((c.k==("text":Str))=true/\∃ x,w=.str x)\/((c.k==("text":Str))=false/\∃ i,w=.int i)
noncomputable def rowS:List Str:=["a", "b", "", "ab", "a", "x9"]
noncomputable def rowI:List Int:=[0,1,2,3,1,2,4,-5]
theorem zgo (k:Int):∃ x,ybf [.str "a",.str "b",.str "",.str "ab",.str "a",.str "x9"] (k%6)=some (.str x):=by obtain ⟨c,_,e⟩:=zbn (enc:=T.str) (cs:=rowS) (by simp [rowS]) k;exact ⟨c,e⟩
theorem zgp (k:Int):∃ x,ybf [.int 0,.int 1,.int 2,.int 3,.int 1,.int 2,.int 4,.int (-5)] (k%8)=some (.int x):=by obtain ⟨c,_,e⟩:=zbn (enc:=T.int) (cs:=rowI) (by simp [rowI]) k;exact ⟨c,e⟩
theorem zkb {P:Pr} (h:P.fn "_law_worth"=some zam) (n:Nat) (c:Col) (k:Int):∃ w,run P (n+1) "_law_worth" [c.t,.int k]=some w/\Wok c w:=by
 rw [zaf h rfl];obtain ⟨x,ex⟩:=zgo (k/4);obtain ⟨i,ei⟩:=zgp (k/4);cases hg:c.g with
 | true =>
  cases h4:(k%4==0) with
  | true=>exact ⟨.non,by simp [zam,yab,evS,evE,yac,evO,yal,ygq,yad,yaj,yaq,ya1,Sl.get,Sl.frz,ya0,ya5,ybo,ybk,ya6,yap,yai,fresh,zaa,yax,yah,yaz,ybh,items,yae,yan,yay,setAll,yat,yao,bnd,asI,ybb,ybi,ya7,glo,SZ,Col.t,yaw,yav,ybj,hg,h4,eqC,dpP,yba,eqT],.inl rfl⟩
  | false =>
   cases ht:(c.k==("text":Str)) with
   | true=>exact ⟨.str x,by simp [zam,yab,evS,evE,yac,evO,yal,ygq,yad,yaj,yaq,ya1,Sl.get,Sl.frz,ya0,ya5,ybo,ybk,ya6,yap,yai,fresh,zaa,yax,yah,yaz,ybh,items,yae,yan,yay,setAll,yat,yao,bnd,asI,ybb,ybi,ya7,glo,SZ,Col.t,yaw,yav,ybj,hg,h4,eqC,dpP,yba,eqT,ht,ex],.inr (.inl ⟨ht,x,rfl⟩)⟩
   | false=>exact ⟨.int i,by simp [zam,yab,evS,evE,yac,evO,yal,ygq,yad,yaj,yaq,ya1,Sl.get,Sl.frz,ya0,ya5,ybo,ybk,ya6,yap,yai,fresh,zaa,yax,yah,yaz,ybh,items,yae,yan,yay,setAll,yat,yao,bnd,asI,ybb,ybi,ya7,glo,SZ,Col.t,yaw,yav,ybj,hg,h4,eqC,dpP,yba,eqT,ht,ei],.inr (.inr ⟨ht,i,rfl⟩)⟩
 | false =>
  cases ht:(c.k==("text":Str)) with
  | true=>exact ⟨.str x,by simp [zam,yab,evS,evE,yac,evO,yal,ygq,yad,yaj,yaq,ya1,Sl.get,Sl.frz,ya0,ya5,ybo,ybk,ya6,yap,yai,fresh,zaa,yax,yah,yaz,ybh,items,yae,yan,yay,setAll,yat,yao,bnd,asI,ybb,ybi,ya7,glo,SZ,Col.t,yaw,yav,ybj,hg,eqC,dpP,yba,eqT,ht,ex],.inr (.inl ⟨ht,x,rfl⟩)⟩
  | false=>exact ⟨.int i,by simp [zam,yab,evS,evE,yac,evO,yal,ygq,yad,yaj,yaq,ya1,Sl.get,Sl.frz,ya0,ya5,ybo,ybk,ya6,yap,yai,fresh,zaa,yax,yah,yaz,ybh,items,yae,yan,yay,setAll,yat,yao,bnd,asI,ybb,ybi,ya7,glo,SZ,Col.t,yaw,yav,ybj,hg,eqC,dpP,yba,eqT,ht,ei],.inr (.inr ⟨ht,i,rfl⟩)⟩
theorem za0 (G:Glo) (elt:E) (n:Nat) (k:Ik) (src:List E) (r:Env):evE G (.comp elt n k src none) r=(yac G src r).bind fun xs=>(yae k xs).bind fun qc =>
   (yao (fun x=>(bnd n x r).bind fun r'=>(evE G elt r').map some) qc).map .lst:=by
 rw [zft];simp only [evO,xbs]
noncomputable def nmT (p:Col × T):T:=.str p.1.n
theorem zii:∀ {ps:List (Col × T)} {p:Col × T},p∈ps->(ps.map (·.1.n)).Nodup->∃ i:Nat,zcd (.str p.1.n) (ps.map nmT)=some i/\(ps.map (·.2))[i]?=some p.2
 | [],_,h,_=>by cases h
 | q::ps,p,h,hn=>by
  rw [zx4,List.nodup_cons] at hn;by_cases hq:q.1.n=p.1.n
  ·have:q=p:=by
    rcases omc h with e | hp
    ·exact e.symm
    ·exact absurd (List.mem_map.mpr ⟨p,hp,hq.symm⟩) hn.1
   subst this;refine ⟨0,?_,rfl⟩;simp [zcd,nmT,eqT]
  ·rcases omc h with e | hp
   ·exact absurd (by rw [e]) hq
   ·obtain ⟨i,e1,e2⟩:=zii hp hn.2;refine ⟨i+1,?_,by simpa using e2⟩;have hb:(q.1.n==p.1.n)=false:=by simpa using hq
    simp [zcd,nmT,eqT,hb];simpa [nmT] using e1
theorem zsj:∀ ps:List (Col × T),(ps.map nmT).all flat=true
 | []=>rfl
 | p::ps=>by simp [nmT,flat]
theorem zck {p:Col × T} (h:p∈ps) (hn:(ps.map (·.1.n)).Nodup):∃ i:Int,ya7 .index (.lst (ps.map nmT)) (.str p.1.n)=some (.int i)/\ybf (ps.map (·.2)) i=some p.2:=by obtain ⟨i,e1,e2⟩:=zii h hn;refine ⟨(i:Int),?_,zbi e2⟩;simp only [ya7];rw [if_pos (by rw [zsj];rfl),e1];rfl
theorem zax {α:Type} {enc:α->T} {f:T->Option (Option T)} (g:α->T) {l:List α} (h:∀ a∈l,f (enc a)=some (some (g a))):yao f (l.map enc)=some (l.map g):=by rw [za1 (fun a=>some (g a)) h,zfa]
noncomputable def ych (nm:T) (ps:List (Col × T)) (key rules:T):T:=ybt nm (ps.map (·.1)) key rules
theorem zd9 {P:Pr} (h:P.fn "_law_names"=some za9) (n:Nat) (ps:List (Col × T)) (hl:ps.length<=4) (nm key rules:T):run P (n+1) "_law_names" [ych nm ps key rules]=some (.lst (ps.map nmT)):=by
 rw [zaf h rfl];have hl':ps.length<=16777216:=by omega
 have e:=zax (enc:=fun p:Col × T=>p.1.t) (f:=fun x=>(yah x (.int 0)).map some) nmT (l:=ps) (fun p _=>by simp [Col.t,yah,yaw,nmT]);simp [za9,yab,evS,evE,yac,evO,yal,ygq,yad,yaj,yaq,ya1,Sl.get,Sl.frz,ya0,ya5,ybo,ybk,ya6,yap,yai,fresh,zaa,yax,yah,yaz,ybh,items,yae,yan,yay,setAll,yat,yao,bnd,asI,ybb,ybi,ya7,glo,SZ,ych,ybt,yav,hl',Function.comp_def] at e ⊢;simp [e]
theorem zde {P:Pr} (h:P.fn "worths_of"=some zal) (n:Nat) (hl:ps.length<=4) (hn:(ps.map (·.1.n)).Nodup) (nm key rules:T) {qs:List (Col × T)} (hq:∀ q∈qs,q∈ps) (hql:qs.length<=4) :
  run P (n+1) "worths_of" [ych nm ps key rules,.tup (ps.map (·.2)),.tup (qs.map nmT)]=some (.tup (qs.map (·.2))):=by
 rw [zaf h rfl];have hl':ps.length<=16777216:=by omega
 have hl2:qs.length<=16777216:=by omega
 have e:=zax (enc:=fun p:Col × T=>p.1.t) (f:=fun x=>(yah x (.int 0)).map some) nmT (l:=ps) (fun p _=>by simp [Col.t,yah,yaw,nmT]);have e2:=zax (enc:=nmT) (f:=fun x=>((ya7 .index (.lst (ps.map nmT)) x).bind fun y=>yah (.tup (ps.map (·.2))) y).map some) (fun q=>q.2) (l:=qs) (fun q hq'=>by obtain ⟨i,e1,e2⟩:=zck (hq q hq') hn;simp only [nmT,e1,xbs,yah,e2,xms]);unfold zal;dsimp only;rw [zaw (τ':=[.val (ych nm ps key rules),.val (.tup (ps.map (·.2))),.val (.tup (qs.map nmT)),.val (.lst (ps.map nmT))]) (by simp [yab,evS,evE,yac,evO,yal,ygq,yad,yaj,yaq,ya1,Sl.get,Sl.frz,ya0,ya5,ybo,ybk,ya6,yap,yai,fresh,zaa,yax,yah,yaz,ybh,items,yae,yan,yay,setAll,yat,yao,bnd,asI,ybb,ybi,ya7,glo,SZ,ych,ybt,yav,hl',Function.comp_def] at e ⊢;simp [e])];have ee:evE (glo P (run P n)) (.blt .toTuple (.comp (.idx (.var 2) (.mth .index (.var 4) (.var 0))) 1 .plain [.var 2] none)) (ygq [Sl.val (ych nm ps key rules),.val (.tup (ps.map (·.2))),.val (.tup (qs.map nmT)),.val (.lst (ps.map nmT))])=some (.tup (qs.map (·.2))):=by rw [zbq,za0];simp only [yac,evE,ygq,xmc,xmn,Sl.get,xgs,xgz,xjs,xbs,yae,items,List.length_map,evO,bnd,if_true];rw [if_pos (show qs.length<=SZ from hl2)];simp only [xbs];rw [e2];rfl
 rw [zfe (t:=.tup (qs.map (·.2))) (by rw [evS];rw [show yad (yaj (.blt .toTuple (.comp (.idx (.var 2) (.mth .index (.var 4) (.var 0))) 1 .plain [.var 2] none))) [Sl.val (ych nm ps key rules),.val (.tup (ps.map (·.2))),.val (.tup (qs.map nmT)),.val (.lst (ps.map nmT))]=[Sl.val (ych nm ps key rules),.val (.tup (ps.map (·.2))),.val (.tup (qs.map nmT)),.val (.lst (ps.map nmT))] from rfl,ee];rfl)];rfl
end
section
variable {a b v u:T} {P:Pr}
noncomputable def val (ps:List (Col × T)) (x:Str):T:=match ps.find? (fun p=>p.1.n==x) with | some p=>p.2 | none=>.non
theorem zbz:∀ {ps:List (Col × T)} {p:Col × T},p∈ps->(ps.map (·.1.n)).Nodup->val ps p.1.n=p.2
 | [],_,h,_=>by cases h
 | q::ps,p,h,hn=>by
  rw [zx4,List.nodup_cons] at hn;by_cases hq:q.1.n=p.1.n
  ·have:q=p:=by
    rcases omc h with e | hp
    ·exact e.symm
    ·exact absurd (List.mem_map.mpr ⟨p,hp,hq.symm⟩) hn.1
   subst this;simp [val]
  ·rcases omc h with e | hp
   ·exact absurd (by rw [e]) hq
   ·have e:=zbz hp hn.2;have hb:(q.1.n==p.1.n)=false:=by simpa using hq
    unfold val at e ⊢;rw [List.find?_cons,hb];exact e
noncomputable def yar:T->Bool
 | .non=>true
 | _=>false
noncomputable def ltV:T->T->Bool
 | .int a,.int b=>decide (a<b)
 | .str a,.str b=>decide (a.cps.toList<b.cps.toList)
 | _,_=>false
noncomputable def yf0:Option Bool->Option Bool->Option Bool
 | some false,_=>some false
 | none,some false=>some false
 | none,_=>none
 | some true,b=>b
noncomputable def or3:Option Bool->Option Bool->Option Bool
 | some true,_=>some true
 | none,some true=>some true
 | none,_=>none
 | some false,b=>b
noncomputable def ybl:Option Bool->T
 | none=>.non
 | some b=>.bl b
noncomputable def yc2:Option Bool->Int
 | some false=>0
 | none=>1
 | some true=>2
noncomputable def hv (ps:List (Col × T)):Tst->Option Bool
 | .emp c=>some (yar (val ps c))
 | .bel a b=>if yar (val ps a)||yar (val ps b) then none else some (ltV (val ps a) (val ps b))
 | .isI c i=>if yar (val ps c) then none else some (eqT (val ps c) (.int i))
 | .isS c x=>if yar (val ps c) then none else some (eqT (val ps c) (.str x))
 | .neg t=>(hv ps t).map not
 | .cnj a b=>yf0 (hv ps a) (hv ps b)
 | .dsj a b=>or3 (hv ps a) (hv ps b)
theorem yfx (ha:flat a=true) (hb:flat b=true):inC .non (.tup [a,b])=some (yar a||yar b):=by cases a<;>cases b<;>first | rfl | (exact absurd ha zyg) | (exact absurd hb zyg)
theorem zm2 (h:P.fn "compared"=some za3) (n:Nat) {w:Str} (ha:flat a=true) (hb:flat b=true) (hn:(yar a||yar b)=true):run P (n+1) "compared" [.str w,.tup [a,b]]=some .non:=by rw [zaf h rfl];simp [za3,yab,evS,evE,yac,evO,yal,ygq,yad,yaj,yaq,ya1,Sl.get,Sl.frz,ya0,ya5,ybo,ybk,ya6,yap,yai,fresh,zaa,yax,yah,yaz,ybh,items,yae,yan,yay,setAll,yat,yao,bnd,asI,ybb,ybi,ya7,glo,SZ,yfx ha hb,hn]
theorem zxp:(("is":Str)=="is")=true:=by decide +kernel
theorem zwn (h:P.fn "compared"=some za3) (n:Nat) (ha:flat a=true) (hb:flat b=true) (hn:(yar a||yar b)=false) (ho:dpP a b<=30):run P (n+1) "compared" [.str "is",.tup [a,b]]=some (.bl (eqT a b)):=by
 rw [zaf h rfl];have e:eqC a b=some (.bl (eqT a b)):=by unfold eqC;rw [if_pos ho]
 have e2:eqC (.str "is") (.str "is")=some (.bl true):=by unfold eqC eqT;rw [zxp];rfl
 simp [za3,yab,evS,evE,yac,evO,yal,ygq,yad,yaj,yaq,ya1,Sl.get,Sl.frz,ya0,ya5,ybo,ybk,ya6,yap,yai,fresh,zaa,yax,yah,yaz,ybh,items,yae,yan,yay,setAll,yat,yao,bnd,asI,ybb,ybi,ya7,glo,SZ,yfx ha hb,hn,yaw,yav,e,e2]
theorem zxx:(("below":Str)=="is")=false:=by decide +kernel
theorem zwm (h:P.fn "compared"=some za3) (n:Nat) (ha:flat a=true) (hb:flat b=true) (hn:(yar a||yar b)=false) (ho:ltC a b=some (.bl (ltV a b))):run P (n+1) "compared" [.str "below",.tup [a,b]]=some (.bl (ltV a b)):=by
 rw [zaf h rfl];have e2:eqC (.str "below") (.str "is")=some (.bl false):=by unfold eqC eqT;rw [zxx];rfl
 simp [za3,yab,evS,evE,yac,evO,yal,ygq,yad,yaj,yaq,ya1,Sl.get,Sl.frz,ya0,ya5,ybo,ybk,ya6,yap,yai,fresh,zaa,yax,yah,yaz,ybh,items,yae,yan,yay,setAll,yat,yao,bnd,asI,ybb,ybi,ya7,glo,SZ,yfx ha hb,hn,yaw,yav,ho,e2]
theorem zsa (h:P.fn "opposite"=some zbs) (n:Nat) (a:Option Bool):run P (n+1) "opposite" [ybl a]=some (ybl (a.map not)):=by
 rw [zaf h rfl];cases a with
 | none=>simp [zbs,yab,evS,evE,yac,evO,yal,ygq,yad,yaj,yaq,ya1,Sl.get,Sl.frz,ya0,ya5,ybo,ybk,ya6,yap,yai,fresh,zaa,yax,yah,yaz,ybh,items,yae,yan,yay,setAll,yat,yao,bnd,asI,ybb,ybi,ya7,glo,SZ,ybl]
 | some b=>cases b<;>simp [zbs,yab,evS,evE,yac,evO,yal,ygq,yad,yaj,yaq,ya1,Sl.get,Sl.frz,ya0,ya5,ybo,ybk,ya6,yap,yai,fresh,zaa,yax,yah,yaz,ybh,items,yae,yan,yay,setAll,yat,yao,bnd,asI,ybb,ybi,ya7,glo,SZ,ybl]
theorem in3 (s:Bool) (a b:Option Bool):inC (.bl s) (.lst [ybl a,ybl b])=some (decide (a=some s)||decide (b=some s)):=by cases s<;>rcases a with _ | _ | _<;>rcases b with _ | _ | _<;>rfl
theorem in3n (a b:Option Bool):inC .non (.lst [ybl a,ybl b])=some (decide (a=none)||decide (b=none)):=by rcases a with _ | _ | _<;>rcases b with _ | _ | _<;>rfl
theorem ziz (h:P.fn "joined"=some zc9) (n:Nat) (s:Bool) (a b:Option Bool):run P (n+1) "joined" [.bl s,.lst [ybl a,ybl b]]=some (ybl (if s then or3 a b else yf0 a b)):=by
 rw [zaf h rfl];generalize glo P (run P n)=G;show zaa (yab G [.ite (.cmp .isin (.var 0) (.var 1)) [.ret (.var 0)] [],.ite (.cmp .isin (.cst .non) (.var 1)) [.ret (.cst .non)] [],.ret (.lnot (.var 0))] [.val (.bl s),.val (.lst [ybl a,ybl b])])=_;have c1:evE G (.cmp .isin (.var 0) (.var 1)) (ygq [.val (.bl s),.val (.lst [ybl a,ybl b])])=some (.bl (decide (a=some s)||decide (b=some s))):=by show (inC (.bl s) (.lst [ybl a,ybl b])).map T.bl=_;rw [in3];rfl
 have c2:evE G (.cmp .isin (.cst .non) (.var 1)) (ygq [.val (.bl s),.val (.lst [ybl a,ybl b])])=some (.bl (decide (a=none)||decide (b=none))):=by show (inC .non (.lst [ybl a,ybl b])).map T.bl=_;rw [in3n];rfl
 have r1:yab G [.ret (.var 0)] [.val (.bl s),.val (.lst [ybl a,ybl b])]=some (.rt (.bl s)):=zav rfl rfl;have r2:yab G [.ret (.cst .non)] [.val (.bl s),.val (.lst [ybl a,ybl b])]=some (.rt .non):=zav rfl rfl;have r3:yab G [.ret (.lnot (.var 0))] [.val (.bl s),.val (.lst [ybl a,ybl b])]=some (.rt (.bl (!s))):=zav rfl rfl;cases k1:(decide (a=some s)||decide (b=some s)) with
 | true =>rw [k1] at c1;rw [zb2 rfl c1 r1];cases s<;>rcases a with _ | _ | _<;>rcases b with _ | _ | _<;>first | rfl | (cases k1;done)
 | false =>
  rw [k1] at c1;rw [zay rfl c1];cases k2:(decide (a=none)||decide (b=none)) with
  | true =>rw [k2] at c2;rw [zb2 rfl c2 r2];cases s<;>rcases a with _ | _ | _<;>rcases b with _ | _ | _<;>first | rfl | (cases k1;done) | (cases k2;done)
  | false =>rw [k2] at c2;rw [zay rfl c2,r3];cases s<;>rcases a with _ | _ | _<;>rcases b with _ | _ | _<;>first | rfl | (cases k1;done) | (cases k2;done)
theorem ws1:(("not":Str)=="not")=true/\(("and":Str)=="not")=false/\(("or":Str)=="not")=false/\(("empty":Str)=="not")=false/\(("is":Str)=="not")=false/\(("below":Str)=="not")=false:=by decide +kernel
theorem ws2:(("and":Str)=="and")=true/\(("or":Str)=="and")=false/\(("empty":Str)=="and")=false/\(("is":Str)=="and")=false/\(("below":Str)=="and")=false:=by decide +kernel
theorem ws3:(("or":Str)=="or")=true/\(("and":Str)=="or")=false/\(("empty":Str)=="or")=false/\(("is":Str)=="or")=false/\(("below":Str)=="or")=false:=by decide +kernel
theorem ws4:(("empty":Str)=="empty")=true/\(("is":Str)=="empty")=false/\(("below":Str)=="empty")=false:=by decide +kernel
theorem ws5:(("is":Str)=="is")=true/\(("below":Str)=="is")=false/\(("is":Str)=="below")=false/\(("below":Str)=="below")=true:=by decide +kernel
theorem eqs (a b:Str):eqC (.str a) (.str b)=some (.bl (a==b)):=rfl
theorem Wok.flat {c:Col} {w:T} (h:Wok c w):Ev.flat w=true:=by rcases h with rfl | ⟨_,x,rfl⟩ | ⟨_,x,rfl⟩<;>rfl
theorem zes {ps:List (Col × T)} {o:Col} (h:o∈ps.map (·.1)):∃ p∈ps,p.1=o:=by obtain ⟨p,hp,e⟩:=omm h;exact ⟨p,hp,e⟩
theorem zm6 {p q:Col × T} (hp:Wok p.1 p.2) (hq:Wok q.1 q.2) (hk:p.1.k=q.1.k) (h:(yar p.2||yar q.2)=false):ltC p.2 q.2=some (.bl (ltV p.2 q.2)):=by
 rcases hp with e | ⟨h1,x,e⟩ | ⟨h1,x,e⟩<;>rcases hq with f | ⟨h2,y,f⟩ | ⟨h2,y,f⟩<;>rw [e,f] at h ⊢
 all_goals first | rfl | (exfalso;rw [hk,h2] at h1;cases h1;done) | (cases h;done)
theorem eq1N {w:T} (h:Ev.flat w=true):eqC (.tup [w]) (.tup [.non])=some (.bl (yar w)):=by cases w<;>first | rfl | (exact absurd h zyg)
theorem ix0 (a:T) (r:List T):yah (.tup (a::r)) (.int 0)=some a:=yaw a r
section
variable {G:Glo} {X tt R:T} {w:Str}
theorem zsy (hw:yah tt (.int 0)=some (.str w)):yab G zbj.body [.val X,.val tt,.val R,.no]=yab G (zbj.body.drop 1) [.val X,.val tt,.val R,.val (.str w)] :=
 zar (t:=.str w) rfl (show (yah tt (.int 0))=_ from hw) rfl
theorem h_c (u:Str) (b:Bool) (h:(w==u)=b):evE G (.cmp .eq (.var 3) (.cst (.str u))) (ygq [.val X,.val tt,.val R,.val (.str w)])=some (.bl b):=by rw [<- h];rfl
theorem h_ao (b:Bool) (h:((w=="and")||(w=="or"))=b):evE G (.lor (.cmp .eq (.var 3) (.cst (.str "and"))) (.cmp .eq (.var 3) (.cst (.str "or")))) (ygq [.val X,.val tt,.val R,.val (.str w)])=some (.bl b):=by
 rw [evE,h_c "and" _ rfl];subst h;cases w==("and":Str) with
 | true=>rfl
 | false=>exact h_c (G:=G) (X:=X) (tt:=tt) (R:=R) "or" _ rfl
theorem zmf (hw:yah tt (.int 0)=some (.str w)) (n1:(w=="not")=false) (n2:(w=="and")=false) (n3:(w=="or")=false):yab G zbj.body [.val X,.val tt,.val R,.no]=yab G (zbj.body.drop 3) [.val X,.val tt,.val R,.val (.str w)] :=
 (zsy hw).trans ((zay rfl (h_c "not" _ n1)).trans (zay rfl (h_ao false (by rw [n2,n3];rfl))))
theorem zxr {c:Str} {b:Bool} (e:G.call "worths_of" [X,R,.tup [.str c]]=some a) (he:eqC a (.tup [.non])=some (.bl b)) (ht:tt=.tup [.str "empty",.str c]):yab G zbj.body [.val X,.val tt,.val R,.no]=some (.rt (.bl b)):=by subst ht;refine (zmf (ix0 _ _) ws1.2.2.2.1 ws2.2.2.1 ws3.2.2.1).trans (zb2 rfl (h_c "empty" _ ws4.1) (zav rfl ?_));have e1:evE G (.call "worths_of" [.var 0,.var 2,.sli (.var 1) (some (.cst (.int 1))) none]) (ygq [.val X,.val (.tup [.str "empty",.str c]),.val R,.val (.str "empty")])=some a:=e;rw [evE,e1];exact he
theorem zv7 {c:Str} (e:G.call "worths_of" [X,R,.tup [.str c]]=some (.tup [a])) (e2:G.call "compared" [.str "is",.tup [a,v]]=some u) (ht:tt=.tup [.str "is",.str c,v]):yab G zbj.body [.val X,.val tt,.val R,.no]=some (.rt u):=by subst ht;refine (zmf (ix0 _ _) ws1.2.2.2.2.1 ws2.2.2.2.1 ws3.2.2.2.1).trans ((zay rfl (h_c "empty" _ ws4.2.1)).trans (zb2 rfl (h_c "is" _ ws5.1) (zav rfl ?_)));have e1:evE G (.call "worths_of" [.var 0,.var 2,.sli (.var 1) (some (.cst (.int 1))) (some (.cst (.int 2)))]) (ygq [.val X,.val (.tup [.str "is",.str c,v]),.val R,.val (.str "is")])=some (.tup [a]):=e;rw [evE,yac,yac,evE.eq_4,e1];exact e2
theorem zv8 {a b:Str} (e:G.call "worths_of" [X,R,.tup [.str a,.str b]]=some v) (e2:G.call "compared" [.str "below",v]=some u) (ht:tt=.tup [.str "below",.str a,.str b]):yab G zbj.body [.val X,.val tt,.val R,.no]=some (.rt u):=by subst ht;refine (zmf (ix0 _ _) ws1.2.2.2.2.2 ws2.2.2.2.2 ws3.2.2.2.2).trans ((zay rfl (h_c "empty" _ ws4.2.2)).trans ((zay rfl (h_c "is" _ ws5.2.1)).trans (zav rfl ?_)));have e1:evE G (.call "worths_of" [.var 0,.var 2,.sli (.var 1) (some (.cst (.int 1))) none]) (ygq [.val X,.val (.tup [.str "below",.str a,.str b]),.val R,.val (.str "below")])=some v:=e;rw [evE,yac,yac,e1];exact e2
theorem zxq {t:T} (e:G.call "holds" [X,t,R]=some v) (e2:G.call "opposite" [v]=some u) (ht:tt=.tup [.str "not",t]):yab G zbj.body [.val X,.val tt,.val R,.no]=some (.rt u):=by subst ht;refine (zsy (ix0 _ _)).trans (zb2 rfl (h_c "not" _ ws1.1) (zav rfl ?_));have e1:evE G (.call "holds" [.var 0,.idx (.var 1) (.cst (.int 1)),.var 2]) (ygq [.val X,.val (.tup [.str "not",t]),.val R,.val (.str "not")])=some v:=e;rw [evE,yac,e1];exact e2
theorem zv6 {x y v':T} (hn:(w=="not")=false) (h:((w=="and")||(w=="or"))=true) (e:G.call "holds" [X,x,R]=some v) (e':G.call "holds" [X,y,R]=some v') (e2:G.call "joined" [.bl (w=="or"),.lst [v,v']]=some u) (ht:tt=.tup [.str w,x,y]):yab G zbj.body [.val X,.val tt,.val R,.no]=some (.rt u):=by
 subst ht;refine (zsy (ix0 _ _)).trans ((zay rfl (h_c "not" _ hn)).trans (zb2 rfl (h_ao true h) (zav rfl ?_)));rw [evE,yac,yac,yac,za0];have s1:yac G [.sli (.var 1) (some (.cst (.int 1))) none] (ygq [.val X,.val (.tup [.str w,x,y]),.val R,.val (.str w)])=some [.tup [x,y]]:=rfl;have s2:yae .plain [.tup [x,y]]=some [x,y]:=rfl;rw [s1,zx0,s2,zx0];have s3:(yao (fun q=>(bnd 1 q (ygq [.val X,.val (.tup [.str w,x,y]),.val R,.val (.str w)])).bind fun r'=>(evE G (.call "holds" [.var 1,.var 0,.var 3]) r').map some) [x,y])=some [v,v']:=by
  have f:∀ q u,G.call "holds" [X,q,R]=some u->((bnd 1 q (ygq [.val X,.val (.tup [.str w,x,y]),.val R,.val (.str w)])).bind fun r'=>(evE G (.call "holds" [.var 1,.var 0,.var 3]) r').map some)=some (some u):=fun q u hq=>by show (G.call "holds" [X,q,R]).map some=_;rw [hq];rfl
  rw [yao,f x v e,yao,f y v' e'];rfl
 rw [s3];exact e2
end
theorem zmd (h:P.fn "holds"=some zbj) (hw:P.fn "worths_of"=some zal) (hc:P.fn "compared"=some za3) (ho:P.fn "opposite"=some zbs) (hj:P.fn "joined"=some zc9)
  {ps:List (Col × T)} (hl:ps.length<=4) (hn:(ps.map (·.1.n)).Nodup) (hp:∀ p∈ps,Wok p.1 p.2) (nm key rules:T) :
  ∀ (d n:Nat) (t:Tst),t.fit d->t.inn (ps.map (·.1))->run P (n+d+1) "holds" [ych nm ps key rules,t.t,.tup (ps.map (·.2))]=some (ybl (hv ps t)):=by
 have one:∀ (m:Nat) (p:Col × T),p∈ps->run P (m+1) "worths_of" [ych nm ps key rules,.tup (ps.map (·.2)),.tup [.str p.1.n]]=some (.tup [p.2]):=fun m p hpm=>zde hw m hl hn nm key rules (qs:=[p]) (fun q hq=>by rw [omg hq];exact hpm) (by simp);intro d
 induction d with
 | zero =>intro n t hk _;cases t<;>first | exact absurd hk.1 (by omega) | exact nomatch hk
 | succ d ih =>
  intro n t hk hi;rw [show n+(d+1)+1=(n+d+1)+1 by omega,zaf h rfl];show zaa (yab (glo P (run P (n+d+1))) zbj.body [.val (ych nm ps key rules),.val t.t,.val (.tup (ps.map (·.2))),.no])=_;have isV:∀ (p:Col × T) (v:T),p∈ps->flat v=true->yar v=false->dpP p.2 v<=30->t.t=.tup [.str "is",.str p.1.n,v]->hv ps t=(if yar p.2 then none else some (eqT p.2 v))->zaa (yab (glo P (run P (n+d+1))) zbj.body [.val (ych nm ps key rules),.val t.t,.val (.tup (ps.map (·.2))),.no])=some (ybl (hv ps t)):=fun p v hpm fv nv hd ht hvt=>by
   have f1:=(hp p hpm).flat;rw [hvt];cases hz:yar p.2 with
   | true=>exact zym zaa (zv7 (one _ p hpm) (zm2 hc (n+d) (w:="is") f1 fv (by rw [hz];rfl)) ht)
   | false=>exact zym zaa (zv7 (one _ p hpm) (zwn hc (n+d) f1 fv (by rw [hz,nv];rfl) hd) ht)
  cases t with
  | emp c =>obtain ⟨o,hm,rfl⟩:=hi;obtain ⟨p,hpm,rfl⟩:=zes hm;rw [hv,zbz hpm hn];exact zym zaa (zxr (one _ p hpm) (eq1N (hp p hpm).flat) rfl)
  | bel a b =>
   obtain ⟨o,hm,o',hm',rfl,rfl,hkk⟩:=hi;obtain ⟨p,hpm,rfl⟩:=zes hm;obtain ⟨q,hqm,rfl⟩:=zes hm';have e:=zde hw (n+d) hl hn nm key rules (qs:=[p,q]) (fun r hr=>by
    rcases omc hr with rfl | hr
    ·exact hpm
    ·rw [omg hr];exact hqm) (by simp)
   have f1:=(hp p hpm).flat;have f2:=(hp q hqm).flat;rw [hv,zbz hpm hn,zbz hqm hn];cases hz:(yar p.2||yar q.2) with
   | true=>exact zym zaa (zv8 e (zm2 hc (n+d) (w:="below") f1 f2 hz) rfl)
   | false=>exact zym zaa (zv8 e (zwm hc (n+d) f1 f2 hz (zm6 (hp p hpm) (hp q hqm) hkk hz)) rfl)
  | isI c i =>obtain ⟨o,hm,rfl,hkt⟩:=hi;obtain ⟨p,hpm,rfl⟩:=zes hm;exact isV p (.int i) hpm rfl rfl (by rcases hp p hpm with hq | ⟨h1,x,hq⟩ | ⟨h1,x,hq⟩<;>rw [hq]<;>exact zyt 30) rfl (by rw [hv,zbz hpm hn])
  | isS c i =>obtain ⟨o,hm,rfl,hkt⟩:=hi;obtain ⟨p,hpm,rfl⟩:=zes hm;exact isV p (.str i) hpm rfl rfl (by rcases hp p hpm with hq | ⟨h1,x,hq⟩ | ⟨h1,x,hq⟩<;>rw [hq]<;>exact zyt 30) rfl (by rw [hv,zbz hpm hn])
  | neg t=>exact zym zaa (zxq (ih n t hk hi) (zsa ho (n+d) (hv ps t)) rfl)
  | cnj a b=>exact zym zaa (zv6 (w:="and") ws1.2.1 (by rw [ws2.1];rfl) (ih n a hk.1 hi.1) (ih n b hk.2 hi.2) (by rw [ws3.2.1];exact ziz hj (n+d) false (hv ps a) (hv ps b)) rfl)
  | dsj a b=>exact zym zaa (zv6 (w:="or") ws1.2.2.1 (by rw [ws3.1,Bool.or_true]) (ih n a hk.1 hi.1) (ih n b hk.2 hi.2) (by rw [ws3.1];exact ziz hj (n+d) true (hv ps a) (hv ps b)) rfl)
end
section
variable {r:Env} {v:Bool} {c:Str} {i:Int} {a:T}
theorem zsn (a:Option Bool):(2:Int)-yc2 a=yc2 (a.map not):=by rcases a with _ | _ | _<;>rfl
theorem zso (a b:Option Bool):yep [yc2 a,yc2 b]=some (.int (yc2 (yf0 a b))):=by rcases a with _ | _ | _<;>rcases b with _ | _ | _<;>rfl
theorem zvm (a b:Option Bool):yfc [yc2 a,yc2 b]=some (.int (yc2 (or3 a b))):=by rcases a with _ | _ | _<;>rcases b with _ | _ | _<;>rfl
theorem zhv (v:T):yax .isN v .non=some (.bl (yar v)):=by cases v<;>rfl
theorem ye3 (b:Bool):yc2 (some b)=if b then 2 else 0:=by cases b<;>rfl
theorem zs0 {G:Glo} {p q:E} {x y:Bool} (h1:evE G p r=some (.bl x)) (h2:evE G q r=some (.bl y)):evE G (.lor p q) r=some (.bl (x||y)):=by
 rw [evE,h1];cases x with
 | true=>rfl
 | false=>exact h2
theorem zi6 {G:Glo} {p q:E} {x y:Bool} (h1:evE G p r=some (.bl x)) (h2:x=true->evE G q r=some (.bl y)):evE G (.land p q) r=some (.bl (x&&y)):=by
 rw [evE,h1];cases x with
 | true=>exact h2 rfl
 | false=>rfl
theorem ix1 (a b:T) (r:List T):yah (.tup (a::b::r)) (.int 1)=some b:=yav a b r
theorem zkf {G:Glo} {p:E} (h:evE G p r=some (.bl v)):evE G (.bin .mul (.cst (.int 2)) (.blt .toInt p)) r=some (.int (if v then 2 else 0)):=by rw [evE,evE,evE,h];cases v<;>rfl
section
variable {G:Glo} {X tt:T} {rs:List T} {w:Str} {s4 s5:Sl}
theorem zo1 (hw:yah tt (.int 0)=some (.str w)):yab G zaq.body [.val X,.val tt,.val (.tup rs),.no,.no,.no]=yab G (zaq.body.drop 1) [.val X,.val tt,.val (.tup rs),.val (.str w),.no,.no] :=
 zar (t:=.str w) rfl (show (yah tt (.int 0))=_ from hw) rfl
theorem l_c (u:Str) (b:Bool) (h:(w==u)=b):evE G (.cmp .eq (.var 3) (.cst (.str u))) (ygq [.val X,.val tt,.val (.tup rs),.val (.str w),s4,s5])=some (.bl b):=by rw [<- h];rfl
theorem zly {NL:T} (hw:yah tt (.int 0)=some (.str w)) (n1:(w=="not")=false) (n2:(w=="and")=false) (n3:(w=="or")=false) (h1:yah tt (.int 1)=some (.str c)) (hN:G.call "_law_names" [X]=some NL) (hi:ya7 .index NL (.str c)=some (.int i)) (ha:ybf rs i=some a) :
  yab G zaq.body [.val X,.val tt,.val (.tup rs),.no,.no,.no]=yab G (zaq.body.drop 5) [.val X,.val tt,.val (.tup rs),.val (.str w),.val a,.no]:=by
 refine (zo1 hw).trans ((zay rfl (l_c "not" _ n1)).trans ((zay rfl (l_c "and" _ n2)).trans ((zay rfl (l_c "or" _ n3)).trans (zar (t:=a) rfl ?_ rfl))));have e1:evE G (.call "_law_names" [.var 0]) (ygq [.val X,.val tt,.val (.tup rs),.val (.str w),.no,.no])=some NL:=hN;have e2:evE G (.idx (.var 1) (.cst (.int 1))) (ygq [.val X,.val tt,.val (.tup rs),.val (.str w),.no,.no])=some (.str c):=h1;have e3:evE G (.mth .index (.call "_law_names" [.var 0]) (.idx (.var 1) (.cst (.int 1)))) (ygq [.val X,.val tt,.val (.tup rs),.val (.str w),.no,.no])=some (.int i):=by rw [evE,e1,e2];exact hi
 rw [evE,e3];exact ha
theorem zvp {b:T} (hv:(yar a||yar b)=false->evE G (.lor (.land (.cmp .eq (.var 3) (.cst (.str "is"))) (.cmp .eq (.var 4) (.var 5))) (.land (.cmp .eq (.var 3) (.cst (.str "below"))) (.cmp .lt (.var 4) (.var 5)))) (ygq [.val X,.val tt,.val (.tup rs),.val (.str w),.val a,.val b])=some (.bl v)) :
  yab G (zaq.body.drop 8) [.val X,.val tt,.val (.tup rs),.val (.str w),.val a,.val b]=some (.rt (.int (if (yar a||yar b)=true then 1 else if v then 2 else 0))):=by
 have c1:evE G (.lor (.cmp .isN (.var 4) (.cst .non)) (.cmp .isN (.var 5) (.cst .non))) (ygq [.val X,.val tt,.val (.tup rs),.val (.str w),.val a,.val b])=some (.bl (yar a||yar b)):=zs0 (zhv a) (zhv b);cases hz:(yar a||yar b) with
 | true=>rw [hz] at c1;exact zb2 rfl c1 (zav rfl rfl)
 | false=>rw [hz] at c1;exact (zay rfl c1).trans (zav rfl (zkf (hv hz)))
theorem l_is {NL v:T} {b:Bool} (hN:G.call "_law_names" [X]=some NL) (hi:ya7 .index NL (.str c)=some (.int i)) (ha:ybf rs i=some a) (hb:(yar a||yar v)=false->eqC a v=some (.bl b)) (ht:tt=.tup [.str "is",.str c,v]) :
  yab G zaq.body [.val X,.val tt,.val (.tup rs),.no,.no,.no]=some (.rt (.int (if (yar a||yar v)=true then 1 else if b then 2 else 0))):=by
 subst ht;have e5:evE G (.idx (.var 1) (.cst (.int 2))) (ygq [.val X,.val (.tup [.str "is",.str c,v]),.val (.tup rs),.val (.str "is"),.val a,.no])=some v:=rfl;refine (zly (ix0 _ _) ws1.2.2.2.2.1 ws2.2.2.2.1 ws3.2.2.2.1 (ix1 _ _ _) hN hi ha).trans ((zay rfl (l_c "empty" _ ws4.2.1)).trans ((zar (t:=v) rfl e5 rfl).trans ((zay rfl (l_c "below" _ ws5.2.2.1)).trans (zvp fun hz=>?_))));have hb':evE G (.cmp .eq (.var 4) (.var 5)) (ygq [.val X,.val (.tup [.str "is",.str c,v]),.val (.tup rs),.val (.str "is"),.val a,.val v])=some (.bl b):=hb hz;have:=zs0 (zi6 (l_c "is" _ ws5.1) fun _=>hb') (zi6 (q:=.cmp .lt (.var 4) (.var 5)) (y:=false) (l_c (G:=G) (X:=X) (tt:=.tup [.str "is",.str c,v]) (rs:=rs) (s4:=.val a) (s5:=.val v) "below" _ ws5.2.2.1) fun z=>by cases z)
 rwa [Bool.true_and,Bool.false_and,Bool.or_false] at this
theorem zxk {NL:T} {d:Str} {j:Int} {b:T} (hN:G.call "_law_names" [X]=some NL) (hi:ya7 .index NL (.str c)=some (.int i)) (ha:ybf rs i=some a) (hj:ya7 .index NL (.str d)=some (.int j)) (hb:ybf rs j=some b) (hv:(yar a||yar b)=false->ltC a b=some (.bl v)) (ht:tt=.tup [.str "below",.str c,.str d]) :
  yab G zaq.body [.val X,.val tt,.val (.tup rs),.no,.no,.no]=some (.rt (.int (if (yar a||yar b)=true then 1 else if v then 2 else 0))):=by
 subst ht;have e5:evE G (.idx (.var 1) (.cst (.int 2))) (ygq [.val X,.val (.tup [.str "below",.str c,.str d]),.val (.tup rs),.val (.str "below"),.val a,.no])=some (.str d):=rfl;refine (zly (ix0 _ _) ws1.2.2.2.2.2 ws2.2.2.2.2 ws3.2.2.2.2 (ix1 _ _ _) hN hi ha).trans ((zay rfl (l_c "empty" _ ws4.2.2)).trans ((zar (t:=.str d) (τ':=[.val X,.val (.tup [.str "below",.str c,.str d]),.val (.tup rs),.val (.str "below"),.val a,.val (.str d)]) rfl e5 rfl).trans ((zht (τ':=[.val X,.val (.tup [.str "below",.str c,.str d]),.val (.tup rs),.val (.str "below"),.val a,.val b]) rfl (l_c "below" _ ws5.2.2.2) ?_).trans (zvp fun hz=>?_))))
 ·refine zar (t:=b) rfl ?_ rfl;have e1:evE G (.call "_law_names" [.var 0]) (ygq [.val X,.val (.tup [.str "below",.str c,.str d]),.val (.tup rs),.val (.str "below"),.val a,.val (.str d)])=some NL:=hN;have e2:evE G (.idx (.var 1) (.cst (.int 2))) (ygq [.val X,.val (.tup [.str "below",.str c,.str d]),.val (.tup rs),.val (.str "below"),.val a,.val (.str d)])=some (.str d):=rfl;have e3:evE G (.mth .index (.call "_law_names" [.var 0]) (.idx (.var 1) (.cst (.int 2)))) (ygq [.val X,.val (.tup [.str "below",.str c,.str d]),.val (.tup rs),.val (.str "below"),.val a,.val (.str d)])=some (.int j):=by rw [evE,e1,e2];exact hj
  rw [evE,e3];exact hb
 ·have hv':evE G (.cmp .lt (.var 4) (.var 5)) (ygq [.val X,.val (.tup [.str "below",.str c,.str d]),.val (.tup rs),.val (.str "below"),.val a,.val b])=some (.bl v):=hv hz;have:=zs0 (zi6 (q:=.cmp .eq (.var 4) (.var 5)) (y:=false) (l_c (G:=G) (X:=X) (tt:=.tup [.str "below",.str c,.str d]) (rs:=rs) (s4:=.val a) (s5:=.val b) "is" _ ws5.2.1) fun z=>by cases z) (zi6 (l_c "below" _ ws5.2.2.2) fun _=>hv')
  rwa [Bool.false_and,Bool.false_or,Bool.true_and] at this
theorem zvo {x y:T} {p q:Int} (hw:yah tt (.int 0)=some (.str w)) (ht:tt=.tup [.str w,x,y]) (e:G.call "_law_level" [X,x,.tup rs]=some (.int p)) (e':G.call "_law_level" [X,y,.tup rs]=some (.int q)) :
  evE G (.comp (.call "_law_level" [.var 1,.var 0,.var 3]) 1 .plain [.sli (.var 1) (some (.cst (.int 1))) none] none) (ygq [.val X,.val tt,.val (.tup rs),.val (.str w),.no,.no])=some (.lst [.int p,.int q]):=by
 subst ht;rw [za0];have s1:yac G [.sli (.var 1) (some (.cst (.int 1))) none] (ygq [.val X,.val (.tup [.str w,x,y]),.val (.tup rs),.val (.str w),.no,.no])=some [.tup [x,y]]:=rfl;have s2:yae .plain [.tup [x,y]]=some [x,y]:=rfl;have f:∀ q u,G.call "_law_level" [X,q,.tup rs]=some u->((bnd 1 q (ygq [.val X,.val (.tup [.str w,x,y]),.val (.tup rs),.val (.str w),.no,.no])).bind fun r'=>(evE G (.call "_law_level" [.var 1,.var 0,.var 3]) r').map some)=some (some u):=fun q u hq=>by show (G.call "_law_level" [X,q,.tup rs]).map some=_;rw [hq];rfl
 rw [s1,zx0,s2,zx0,yao,f x _ e,yao,f y _ e'];rfl
end
theorem zsm {P:Pr} (h:P.fn "_law_level"=some zaq) (hw:P.fn "_law_names"=some za9)
  {ps:List (Col × T)} (hl:ps.length<=4) (hn:(ps.map (·.1.n)).Nodup) (hp:∀ p∈ps,Wok p.1 p.2) (nm key rules:T) :
  ∀ (d n:Nat) (t:Tst),t.ok d->t.inn (ps.map (·.1))->run P (n+d+1) "_law_level" [ych nm ps key rules,t.t,.tup (ps.map (·.2))]=some (.int (yc2 (hv ps t))):=by
 intro d
 induction d with
 | zero =>intro n t hk _;cases t<;>first | exact absurd hk.1 (by omega) | exact nomatch hk
 | succ d ih =>
  intro n t hk hi;have e:(glo P (run P (n+d+1))).call "_law_names" [ych nm ps key rules]=some (.lst (ps.map nmT)):=zd9 hw (n+d) ps hl nm key rules;rw [show n+(d+1)+1=(n+d+1)+1 by omega,zaf h rfl];show zaa (yab (glo P (run P (n+d+1))) zaq.body [.val (ych nm ps key rules),.val t.t,.val (.tup (ps.map (·.2))),.no,.no,.no])=_;have isV:∀ (p:Col × T) (v:T),p∈ps->yar v=false->dpP p.2 v<=30->t.t=.tup [.str "is",.str p.1.n,v]->hv ps t=(if yar p.2 then none else some (eqT p.2 v))->zaa (yab (glo P (run P (n+d+1))) zaq.body [.val (ych nm ps key rules),.val t.t,.val (.tup (ps.map (·.2))),.no,.no,.no])=some (.int (yc2 (hv ps t))):=fun p v hpm nv hd ht hvt=>by
   obtain ⟨i,e1,e2⟩:=zck hpm hn;rw [hvt];refine (zym zaa (l_is (b:=eqT p.2 v) e e1 e2 (fun _=>by unfold eqC;rw [if_pos hd]) ht)).trans ?_;rw [nv,Bool.or_false];cases yar p.2 with
   | true=>rfl
   | false =>show some (T.int (if eqT p.2 v then 2 else 0))=some (T.int (yc2 (some (eqT p.2 v))));rw [ye3]
  cases t with
  | emp c =>obtain ⟨o,hm,rfl⟩:=hi;obtain ⟨p,hpm,rfl⟩:=zes hm;obtain ⟨i,e1,e2⟩:=zck hpm hn;rw [hv,zbz hpm hn,ye3];exact zym zaa ((zly (ix0 _ _) ws1.2.2.2.1 ws2.2.2.1 ws3.2.2.1 (ix1 _ _ _) e e1 e2).trans (zb2 rfl (l_c "empty" _ ws4.1) (zav rfl (zkf (zhv p.2)))))
  | bel a b =>
   obtain ⟨o,hm,o',hm',rfl,rfl,hkk⟩:=hi;obtain ⟨p,hpm,rfl⟩:=zes hm;obtain ⟨q,hqm,rfl⟩:=zes hm';obtain ⟨i,e1,e2⟩:=zck hpm hn;obtain ⟨j,e3,e4⟩:=zck hqm hn;rw [hv,zbz hpm hn,zbz hqm hn];refine (zym zaa (zxk (v:=ltV p.2 q.2) e e1 e2 e3 e4 (zm6 (hp p hpm) (hp q hqm) hkk) rfl)).trans ?_;cases yar p.2||yar q.2 with
   | true=>rfl
   | false =>show some (T.int (if ltV p.2 q.2 then 2 else 0))=some (T.int (yc2 (some (ltV p.2 q.2))));rw [ye3]
  | isI c i =>obtain ⟨o,hm,rfl,hkt⟩:=hi;obtain ⟨p,hpm,rfl⟩:=zes hm;exact isV p (.int i) hpm rfl (by rcases hp p hpm with hq | ⟨h1,x,hq⟩ | ⟨h1,x,hq⟩<;>rw [hq]<;>exact zyt 30) rfl (by rw [hv,zbz hpm hn])
  | isS c i =>obtain ⟨o,hm,rfl,hkt⟩:=hi;obtain ⟨p,hpm,rfl⟩:=zes hm;exact isV p (.str i) hpm rfl (by rcases hp p hpm with hq | ⟨h1,x,hq⟩ | ⟨h1,x,hq⟩<;>rw [hq]<;>exact zyt 30) rfl (by rw [hv,zbz hpm hn])
  | neg t =>have e1:evE (glo P (run P (n+d+1))) (.call "_law_level" [.var 0,.idx (.var 1) (.cst (.int 1)),.var 2]) (ygq [.val (ych nm ps key rules),.val (.tup [.str "not",t.t]),.val (.tup (ps.map (·.2))),.val (.str "not"),.no,.no])=some (.int (yc2 (hv ps t))):=ih n t hk hi;refine zym zaa ((zo1 (ix0 _ _)).trans (zb2 rfl (l_c "not" _ ws1.1) (zav rfl ?_)));rw [evE,e1,hv,<- zsn];rfl
  | cnj a b =>refine zym zaa ((zo1 (ix0 _ _)).trans ((zay rfl (l_c "not" _ ws1.2.1)).trans (zb2 rfl (l_c "and" _ ws2.1) (zav rfl ?_))));rw [zbq,zvo (ix0 _ _) rfl (ih n a hk.1 hi.1) (ih n b hk.2 hi.2)];exact zso _ _
  | dsj a b =>refine zym zaa ((zo1 (ix0 _ _)).trans ((zay rfl (l_c "not" _ ws1.2.2.1)).trans ((zay rfl (l_c "and" _ ws2.2.1)).trans (zb2 rfl (l_c "or" _ ws3.1) (zav rfl ?_)))));rw [zbq,zvo (ix0 _ _) rfl (ih n a hk.1 hi.1) (ih n b hk.2 hi.2)];exact zvm _ _
end
section
noncomputable def ygc (acc:List Kt) (k:Kt):Bool:=acc.any fun x=>decide (x=k)
noncomputable def un1 (acc:List Kt) (k:Kt):List Kt:=if ygc acc k=true then acc else acc++[k]
noncomputable def unl (l:List Kt):List Kt:=l.foldl un1 []
theorem any_map (f:Kt->T) (l:List Kt) (k:Kt):((l.map fun x=>(x,f x)).any fun kv=>decide (kv.1=k))=ygc l k:=by unfold ygc;rw [List.any_map];rfl
end
section
variable {c:Col} {b:Tb} {ps:List (Col × T)}
noncomputable def zb8:Fd:=⟨2,3,[.loop [2] .plain [.var 0] [.ite (.cmp .eq (.idx (.var 2) (.cst (.int 0))) (.var 1)) [.ret (.var 2)] []],
  .ret (.cst .non)]⟩
noncomputable def zcn:Fd:=⟨3,5,[.loop [3,4] .zip [.var 0,.var 1] [.ite (.cmp .eq (.idx (.var 3) (.cst (.int 0))) (.var 2)) [.ret (.var 4)] []],
  .ret (.tup [])]⟩
noncomputable def zcz:Fd:=⟨2,8,[.asg 2 (.tup []),
  .loop [3,4] .enum [.var 0] [.dnew 5,
  .loop [6] .range [.bin .mod (.bin .fdiv (.var 1) (.idx (.tup [.cst (.int 1),.cst (.int 5),.cst (.int 25),.cst (.int 125)]) (.var 3))) (.cst (.int 5))] [.asg 7 (.call "_law_row" [.var 4,.bin .fdiv (.call "_law_drawn" [.var 1,.bin .add (.bin .mul (.cst (.int 10)) (.var 3)) (.var 6)]) (.cst (.int 4))]),
  .dput 5 (.call "_law_key" [.var 4,.var 7]) (.var 7)],
  .asg 2 (.bin .add (.var 2) (.tup [.blt .toTuple (.comp (.idx (.var 6) (.var 0)) 1 .plain [.blt .sorted (.var 5)] none)]))],
  .ret (.var 2)]⟩
structure RowOk (b:Tb) (ps:List (Col × T)):Prop where
 cs:ps.map (·.1)=b.cs
 wk:∀ p∈ps,Wok p.1 p.2
 ng:∀ p∈ps,p.1.g=false->p.2≠.non
noncomputable def yaf (ps:List (Col × T)):T:=.tup (ps.map (·.2))
noncomputable def kk (t:T):Kt:=(ye5 t).getD (.inl 0)
noncomputable def ybe (b:Tb) (ps:List (Col × T)):List Kt:=b.key.map fun x=>kk (val ps x)
theorem zvt {w:T} (h:Wok c w):ye5 w=some (kk w)/\kT (kk w)=w:=by rcases h with rfl | ⟨_,x,rfl⟩ | ⟨_,i,rfl⟩<;>exact ⟨rfl,rfl⟩
theorem zsp {w u:T} (h1:Wok c w) (h2:Wok c u) (n1:w≠.non) (n2:u≠.non):ycn (kk w) (kk u)=true:=by
 rcases h1 with rfl | ⟨e1,x,rfl⟩ | ⟨e1,i,rfl⟩
 ·exact absurd rfl n1
 ·rcases h2 with rfl | ⟨e2,y,rfl⟩ | ⟨e2,j,rfl⟩
  ·exact absurd rfl n2
  ·rfl
  ·rw [e1] at e2;cases e2
 ·rcases h2 with rfl | ⟨e2,y,rfl⟩ | ⟨e2,j,rfl⟩
  ·exact absurd rfl n2
  ·rw [e1] at e2;cases e2
  ·rfl
theorem zqs {P:Pr} (h:P.fn "_law_worth"=some zam) (n:Nat) (c:Col) (k:Int) (hg:c.g=false):∃ w,run P (n+1) "_law_worth" [c.t,.int k]=some w/\w≠.non:=by
 rw [zaf h rfl];obtain ⟨x,ex⟩:=zgo (k/4);obtain ⟨i,ei⟩:=zgp (k/4);cases ht:(c.k==("text":Str)) with
 | true=>exact ⟨.str x,by simp [zam,yab,evS,evE,yac,evO,yal,ygq,yad,yaj,yaq,ya1,Sl.get,Sl.frz,ya0,ya5,ybo,ybk,ya6,yap,yai,fresh,zaa,yax,yah,yaz,ybh,items,yae,yan,yay,setAll,yat,yao,bnd,asI,ybb,ybi,ya7,glo,SZ,Col.t,yaw,yav,ybj,hg,eqC,dpP,yba,eqT,ht,ex],by simp⟩
 | false=>exact ⟨.int i,by simp [zam,yab,evS,evE,yac,evO,yal,ygq,yad,yaj,yaq,ya1,Sl.get,Sl.frz,ya0,ya5,ybo,ybk,ya6,yap,yai,fresh,zaa,yax,yah,yaz,ybh,items,yae,yan,yay,setAll,yat,yao,bnd,asI,ybb,ybi,ya7,glo,SZ,Col.t,yaw,yav,ybj,hg,eqC,dpP,yba,eqT,ht,ei],by simp⟩
theorem zjf {α:Type} {enc:α->T} {Q:α->T->Prop} {f:T->Option (Option T)}:∀ (l:List α),(∀ a∈l,∃ w,f (enc a)=some (some w)/\Q a w)->∃ ps:List (α × T),ps.map (·.1)=l/\yao f (l.map enc)=some (ps.map (·.2))/\∀ p∈ps,Q p.1 p.2
 | [],_=>⟨[],rfl,rfl,fun p h=>by cases h⟩
 | a::l,h=>by
  obtain ⟨w,e,hw⟩:=h a zyc;obtain ⟨ps,e1,e2,h2⟩:=zjf (Q:=Q) l fun c hc=>h c (zx8 _ hc);refine ⟨(a,w)::ps,by simp [e1],?_,fun p hp=>?_⟩
  ·simp only [xmc,yao,e,e2,xbs]
  ·rcases omc hp with rfl | hp
   ·exact hw
   ·exact h2 p hp
theorem ycs {Q:Col->T->Prop} {f:T->Option (Option T)}:∀ (cs:List Col) (i:Nat),(∀ c∈cs,∀ j:Nat,∃ w,f (.tup [.int (j:Int),c.t])=some (some w)/\Q c w) ->
  ∃ ps:List (Col × T),ps.map (·.1)=cs/\yao f (yat (cs.map Col.t) i)=some (ps.map (·.2))/\∀ p∈ps,Q p.1 p.2
 | [],_,_=>⟨[],rfl,rfl,fun p h=>by cases h⟩
 | c::cs,i,h=>by
  obtain ⟨w,e,hw⟩:=h c zyc i;obtain ⟨ps,e1,e2,h2⟩:=ycs cs (i+1) fun c hc=>h c (zx8 _ hc);refine ⟨(c,w)::ps,by simp [e1],?_,fun p hp=>?_⟩
  ·simp only [xmc,yat,yao,e,e2,xbs]
  ·rcases omc hp with rfl | hp
   ·exact hw
   ·exact h2 p hp
theorem ydj {P:Pr} (hd:P.fn "_law_drawn"=some zan) (hw:P.fn "_law_worth"=some zam) (h:P.fn "_law_row"=some zc8) (n:Nat) (hb:b.ok) (k:Int) :
  ∃ ps,run P (n+2) "_law_row" [b.t,.int k]=some (yaf ps)/\RowOk b ps:=by
 rw [zaf h rfl];have hl:b.cs.length<=16777216:=by have:=hb.cl;omega
 obtain ⟨ps,e1,e2,h2⟩:=ycs (Q:=fun c w=>Wok c w/\(c.g=false->w≠.non)) (f:=fun x=>(bnd 2 x (ygq [Sl.val b.t,Sl.val (.int k)])).bind fun r'=>(evE (glo P (run P (n+1))) (.call "_law_worth" [.var 1,.bin .fdiv (.call "_law_drawn" [.var 3,.var 0]) (.cst (.int 4))]) r').map some) b.cs 0 (fun c _ j=>by
  have e1:=zbv hd n k (j:Int);obtain ⟨w,e2,hw'⟩:=zkb hw n c (yas k (j:Int)/4);refine ⟨w,?_,hw',fun hg=>?_⟩
  ·simp [bnd,evO,evE,yac,ygq,Sl.get,glo,e1,e2,ya0,yap]
  ·obtain ⟨u,e3,hu⟩:=zqs hw n c (yas k (j:Int)/4) hg;rw [e2] at e3;cases e3;exact hu)
 refine ⟨ps,?_,e1,fun p hp=>(h2 p hp).1,fun p hp=>(h2 p hp).2⟩;show zaa (yab (glo P (run P (n+1))) [.ret (.blt .toTuple (.comp (.call "_law_worth" [.var 1,.bin .fdiv (.call "_law_drawn" [.var 3,.var 0]) (.cst (.int 4))]) 2 .enum [.idx (.var 0) (.cst (.int 1))] none))] [Sl.val b.t,Sl.val (.int k)])=_;rw [zav (t:=yaf ps) rfl (by
  rw [zbq,za0];have s1:yac (glo P (run P (n+1))) [.idx (.var 0) (.cst (.int 1))] (ygq [Sl.val b.t,Sl.val (.int k)])=some [.tup (b.cs.map Col.t)]:=by simp [yac,evE,ygq,Sl.get,yah,Tb.t,ybm,yav]
  have s2:yae .enum [.tup (b.cs.map Col.t)]=some (yat (b.cs.map Col.t) 0):=by simp [yae,items,zej,hl]
  rw [s1,zx0,s2,zx0,e2];rfl)]
 rfl
theorem zfr {ps:List (Col × T)}:∀ {ks:List Str},(∀ k∈ks,∃ p∈ps,p.1.n=k)->∃ qs:List (Col × T),qs.map nmT=ks.map .str/\qs.map (·.1.n)=ks/\(∀ q∈qs,q∈ps)/\qs.length=ks.length
 | [],_=>⟨[],rfl,rfl,fun q h=>absurd h (by simp),rfl⟩
 | k::ks,h=>by
  obtain ⟨p,hp,e⟩:=h k zyc;obtain ⟨qs,e1,e0,e2,e3⟩:=zfr fun k hk=>h k (zx8 _ hk);refine ⟨p::qs,by simp [nmT,e,e1],by simp [e,e0],fun q hq=>?_,by simp [e3]⟩;rcases omc hq with rfl | hq
  ·exact hp
  ·exact e2 q hq
theorem RowOk.col (h:RowOk b ps) (hc:c∈b.cs):∃ p∈ps,p.1=c:=by rw [<- h.cs] at hc;obtain ⟨p,hp,e⟩:=omm hc;exact ⟨p,hp,e⟩
theorem RowOk.nd {b:Tb} {ps:List (Col × T)} (h:RowOk b ps) (hb:b.ok):(ps.map (·.1.n)).Nodup:=by have:=hb.nd;rw [<- h.cs,zy3] at this;exact this
theorem RowOk.len (h:RowOk b ps) (hb:b.ok):ps.length<=4:=by have:=zym List.length h.cs;rw [zya] at this;rw [this];exact hb.cl
theorem RowOk.tab (h:RowOk b ps):b.t=ych (.str b.nm) ps (.tup (b.key.map .str)) (.tup (b.rs.map Rl.t)):=by rw [ych,h.cs];rfl
theorem zix {P:Pr} (hn:P.fn "_law_names"=some za9) (h:P.fn "_law_key"=some zb9) (n:Nat) (hb:b.ok) (hp:RowOk b ps):run P (n+2) "_law_key" [b.t,yaf ps]=some (tkT (ybe b ps)):=by
 have hl:=hp.len hb;have hnd:=hp.nd hb;obtain ⟨qs,q1,q0,q2,q3⟩:=zfr (ps:=ps) (ks:=b.key) fun x hx=>by obtain ⟨c,hc,e⟩:=hb.inn x hx;obtain ⟨p,hp',rfl⟩:=hp.col hc;exact ⟨p,hp',e⟩
 have hz:qs.length<=16777216:=by have:=hb.k1;omega
 rw [zaf h rfl];show zaa (yab (glo P (run P (n+1))) zb9.body [.val b.t,.val (yaf ps)])=_;have i2:yah b.t (.int 2)=some (.tup (qs.map nmT)):=by rw [q1,Tb.t,ybm,yah,ybj]
 have cn:(glo P (run P (n+1))).call "_law_names" [b.t]=some (.lst (ps.map nmT)):=by rw [hp.tab];exact zd9 hn n ps hl _ _ _
 have ek:ybe b ps=qs.map fun q=>kk q.2:=by unfold ybe;rw [<- q0,zy3];exact List.map_congr_left fun q hq=>by show kk (val ps q.1.n)=kk q.2;rw [zbz (q2 q hq) hnd]
 have et:tkT (ybe b ps)=.tup (qs.map (·.2)):=by unfold tkT;rw [ek,zy3];exact zym T.tup (List.map_congr_left fun q hq=>(zvt (hp.wk q (q2 q hq))).2)
 rw [et];generalize b.t=X at *;unfold zb9;dsimp only;rw [zav (t:=.tup (qs.map (·.2))) rfl (by
  rw [zbq,za0];have s1:yac (glo P (run P (n+1))) [.idx (.var 0) (.cst (.int 2))] (ygq [Sl.val X,Sl.val (yaf ps)])=some [.tup (qs.map nmT)]:=by simp [yac,evE,ygq,Sl.get,i2]
  have s2:yae .plain [.tup (qs.map nmT)]=some (qs.map nmT):=by simp [yae,items,hz]
  rw [s1,zx0,s2,zx0,zax (fun q=>q.2) fun q hq'=>by obtain ⟨i,e1,e2⟩:=zck (q2 q hq') hnd;simp only [bnd,if_true,xbs,evE,yac,ygq,Sl.get,xmc,xmn,xgs,xgz,xjs,cn];rw [show nmT q=.str q.1.n from rfl,e1];simp only [xbs,yaf,yah,e2,xms]];rfl)]
 rfl
theorem zdm (hb:b.ok) {qs:List (Col × T)} (hp:RowOk b ps) (hq:RowOk b qs):Ev.alike (ybe b ps) (ybe b qs)=true:=by
 have:∀ ks:List Str,(∀ x∈ks,∃ c∈b.cs,c.n=x/\c.g=false)->Ev.alike (ks.map fun x=>kk (val ps x)) (ks.map fun x=>kk (val qs x))=true:=by
  intro ks
  induction ks with
  | nil=>intro _;rfl
  | cons x ks ih =>
   intro h;obtain ⟨c,hc,e,hg⟩:=h x zyc;obtain ⟨p,hp1,hp2⟩:=hp.col hc;obtain ⟨q,hq1,hq2⟩:=hq.col hc;have v1:val ps x=p.2:=by rw [<- e,<- hp2];exact zbz hp1 (hp.nd hb)
   have v2:val qs x=q.2:=by rw [<- e,<- hq2];exact zbz hq1 (hq.nd hb)
   rw [zx4,zx4,Ev.alike,zx7,v1,v2];have w1:=hp.wk p hp1;have w2:=hq.wk q hq1;rw [hp2] at w1;rw [hq2] at w2;exact ⟨zsp w1 w2 (hp.ng p hp1 (by rw [hp2];exact hg)) (hq.ng q hq1 (by rw [hq2];exact hg)),ih fun y hy=>h y (zx8 _ hy)⟩
 exact this b.key hb.kg
theorem zqd (hb:b.ok) (ps:List (Col × T)):ybe b ps≠[]:=by unfold ybe;intro e;exact hb.kn (List.map_eq_nil_iff.mp e)
theorem zct:∀ ks:List Kt,yb8 (ks.map kT)=some ks
 | []=>rfl
 | k::ks=>by rw [zx4,yb8,zct ks];rcases k with _ | _ | _<;>rfl
end
section
variable {qb:List (List Kt × T)} {k:List Kt} {v:T} {b:Tb}
noncomputable def slD:List (List Kt × T)->Sl
 | []=>.dk []
 | p::r=>.dt (p::r)
noncomputable def dD:List (List Kt × T)->T
 | []=>.dk [] []
 | p::r=>.dt ((p::r).map (·.1)) ((p::r).map (·.2))
theorem zrd (l:List (List Kt × T)):Sl.frz (slD l)=.val (dD l):=by cases l<;>rfl
theorem zt9:∃ p r,yby qb k v=p::r:=by
 unfold yby;cases qb with
 | nil=>exact ⟨_,_,rfl⟩
 | cons a l=>split<;>exact ⟨_,_,rfl⟩
theorem zub (qb:List (List Kt × T)) (k:List Kt) (v:T) (h:qb.length<=5):yel (some (slD qb)) (tkT k) v=some (slD (yby qb k v)):=by
 have hk:tkO (tkT k)=some k:=zct k;have hz:qb.length<SZ:=by show qb.length<16777216;omega
 cases qb with
 | nil =>show (tkO (tkT k)).map (fun q=>Sl.dt [(q,v)])=some (slD (yby [] k v));rw [hk];rfl
 | cons a l =>show ((tkO (tkT k)).bind fun q=>if (a::l).length<SZ then some (.dt (yby (a::l) q v)) else none)=some (slD (yby (a::l) k v));rw [hk,zx0,if_pos hz];obtain ⟨p,r,e⟩:=zt9 (qb:=a::l) (k:=k) (v:=v);rw [e];rfl
theorem zrn {p:List Kt × T} (h:p∈yby qb k v):p∈qb\/p=(k,v):=by
 unfold yby at h;split at h
 ·obtain ⟨q,hq,rfl⟩:=omm h;by_cases e:q.1=k
  ·rw [if_pos e,e];exact .inr rfl
  ·rw [if_neg e];exact .inl hq
 ·rcases oma h with h | h
  ·exact .inl h
  ·exact .inr (omg h)
theorem zua (h:(qb.map (·.1)).Nodup):((yby qb k v).map (·.1)).Nodup:=by
 unfold yby;split
 ·rw [zy3];have:(qb.map ((·.1)∘fun kv=>if kv.1=k then (kv.1,v) else kv))=qb.map (·.1):=List.map_congr_left fun q _=>by show (if q.1=k then (q.1,v) else q).1=q.1;split<;>rfl
  rw [this];exact h
 ·rename_i hn;rw [zyx];refine List.nodup_append.mpr ⟨h,by simp,fun a ha c hc e=>?_⟩;have hc:c=k:=omg hc;subst hc;subst e;obtain ⟨q,hq,rfl⟩:=omm ha;exact hn (List.any_eq_true.mpr ⟨q,hq,by simp⟩)
theorem zro:(yby qb k v).length<=qb.length+1:=by
 unfold yby;split
 ·rw [zya];omega
 ·rw [List.length_append];simp
theorem zlr:∀ {qb:List (List Kt × T)} {k:List Kt},k∈qb.map (·.1)->∃ v,ycw (qb.map (·.1)) (qb.map (·.2)) k=some v/\(k,v)∈qb
 | p::qb,k,h=>by
  rw [zx4,zx4,ycw];by_cases e:p.1=k
  ·rw [if_pos e,<- e];exact ⟨p.2,rfl,zyc⟩
  ·rw [if_neg e];obtain ⟨v,h1,h2⟩:=zlr (qb:=qb) ((omc h).resolve_left fun z=>e z.symm);exact ⟨v,h1,zx8 _ h2⟩
structure Book (b:Tb) (qb:List (List Kt × T)):Prop where
 nd:(qb.map (·.1)).Nodup
 rw:∀ p∈qb,∃ ps,RowOk b ps/\p=(ybe b ps,yaf ps)
theorem Book.srt (hb:b.ok) (h:Book b qb) (h5:qb.length<=5):yaz .sorted (dD qb)=some (.lst ((ya3 (qb.map (·.1))).map tkT)):=by
 cases qb with
 | nil=>rfl
 | cons p r =>
  show ycf ((p::r).map (·.1))=_;unfold ycf ydh;rw [if_pos]
  ·rfl
  ·refine ⟨by rw [zya];omega,h.nd,List.all_eq_true.mpr fun x hx=>?_⟩;obtain ⟨q,hq,rfl⟩:=omm hx;obtain ⟨ps,h1,rfl⟩:=h.rw q hq;rw [zx7];constructor
   ·cases e:ybe b ps with
    | nil=>exact absurd e (zqd hb ps)
    | cons _ _=>rfl
   ·refine List.all_eq_true.mpr fun y hy=>?_;obtain ⟨q',hq',rfl⟩:=omm hy;obtain ⟨ps',h2,rfl⟩:=h.rw q' hq';exact zdm hb h1 h2
theorem Book.get (h:Book b qb) (hk:k∈ya3 (qb.map (·.1))):∃ w,yah (dD qb) (tkT k)=some w/\∃ ps,RowOk b ps/\w=yaf ps/\ybe b ps=k:=by
 have hk:=zbu.mp hk;obtain ⟨v,h1,h2⟩:=zlr hk;obtain ⟨ps,h3,e⟩:=h.rw _ h2;injection e with e1 e2;refine ⟨v,?_,ps,h3,e2,e1.symm⟩;cases qb with
 | nil=>cases hk
 | cons p r =>show (yb8 (k.map kT)).bind _=_;rw [zct];exact h1
noncomputable def d4:List Int:=[1,5,25,125]
theorem zwj {i:Nat} (h:i<4):∃ d:Int,ybf [.int 1,.int 5,.int 25,.int 125] (i:Int)=some (.int d)/\0<d/\d<1073741824:=by
 match i,h with
 | 0,_=>exact ⟨1,zbi rfl,by decide,by decide⟩
 | 1,_=>exact ⟨5,zbi rfl,by decide,by decide⟩
 | 2,_=>exact ⟨25,zbi rfl,by decide,by decide⟩
 | 3,_=>exact ⟨125,zbi rfl,by decide,by decide⟩
noncomputable def lin:List S:=[.asg 7 (.call "_law_row" [.var 4,.bin .fdiv (.call "_law_drawn" [.var 1,.bin .add (.bin .mul (.cst (.int 10)) (.var 3)) (.var 6)]) (.cst (.int 4))]),
  .dput 5 (.call "_law_key" [.var 4,.var 7]) (.var 7)]
noncomputable def lex:E:=.bin .add (.var 2) (.tup [.blt .toTuple (.comp (.idx (.var 6) (.var 0)) 1 .plain [.blt .sorted (.var 5)] none)])
noncomputable def yft:List S:=[.dnew 5,.loop [6] .range [.bin .mod (.bin .fdiv (.var 1) (.idx (.tup [.cst (.int 1),.cst (.int 5),.cst (.int 25),.cst (.int 125)]) (.var 3))) (.cst (.int 5))] lin,.asg 2 lex]
theorem zi8 (G:Glo) (o:Bo) (a b:E) (r:Env):evE G (.bin o a b) r=(evE G a r).bind fun x=>(evE G b r).bind fun y=>ya0 o x y:=by rw [evE]
theorem zq9:yc1 10=true:=by decide
section
variable {P:Pr} (hd:P.fn "_law_drawn"=some zan) (hw:P.fn "_law_worth"=some zam) (hr:P.fn "_law_row"=some zc8) (hn:P.fn "_law_names"=some za9) (hk:P.fn "_law_key"=some zb9)
include hd hw hr hn hk
theorem zoy (n:Nat) (hb:b.ok) (S Z:T) (N:Int) (i j:Nat) (hB:Book b qb) (h5:qb.length<=4) (s7:Sl) :
  ∃ kvs' s7',yab (glo P (run P (n+2))) lin [.val S,.val (.int N),.val Z,.val (.int (i:Int)),.val b.t,slD qb,.val (.int (j:Int)),s7]=some (.nx [.val S,.val (.int N),.val Z,.val (.int (i:Int)),.val b.t,slD kvs',.val (.int (j:Int)),s7'])/\Book b kvs'/\kvs'.length<=qb.length+1:=by
 obtain ⟨ps,e1,hp⟩:=ydj hd hw hr n hb (yas N (10*i+j)/4);have e2:=zbv hd (n+1) N (10*i+j);have e3:=zix hn hk n hb hp;refine ⟨yby qb (ybe b ps) (yaf ps),.val (yaf ps),?_,⟨zua hB.nd,fun p h=>?_⟩,zro⟩
 ·unfold lin;rw [zar (t:=yaf ps) (τ':=[.val S,.val (.int N),.val Z,.val (.int (i:Int)),.val b.t,slD qb,.val (.int (j:Int)),.val (yaf ps)]) rfl (by simp [evE,yac,ygq,Sl.get,glo,ya0,ya5,ybk,zq9,yap,e2,e1]) rfl];have e4:evS (glo P (run P (n+2))) (.dput 5 (.call "_law_key" [.var 4,.var 7]) (.var 7)) [.val S,.val (.int N),.val Z,.val (.int (i:Int)),.val b.t,slD qb,.val (.int (j:Int)),.val (yaf ps)]=some (.nx [.val S,.val (.int N),.val Z,.val (.int (i:Int)),.val b.t,slD (yby qb (ybe b ps) (yaf ps)),.val (.int (j:Int)),.val (yaf ps)]):=by
   have hf:yad (yaj (.var 7)++yaj (.call "_law_key" [.var 4,.var 7])) [Sl.val S,.val (.int N),.val Z,.val (.int (i:Int)),.val b.t,slD qb,.val (.int (j:Int)),.val (yaf ps)]=[Sl.val S,.val (.int N),.val Z,.val (.int (i:Int)),.val b.t,slD qb,.val (.int (j:Int)),.val (yaf ps)]:=rfl;have v1:evE (glo P (run P (n+2))) (.var 7) (ygq [Sl.val S,.val (.int N),.val Z,.val (.int (i:Int)),.val b.t,slD qb,.val (.int (j:Int)),.val (yaf ps)])=some (yaf ps):=by simp [evE,ygq,Sl.get]
   have v2:evE (glo P (run P (n+2))) (.call "_law_key" [.var 4,.var 7]) (ygq [Sl.val S,.val (.int N),.val Z,.val (.int (i:Int)),.val b.t,slD qb,.val (.int (j:Int)),.val (yaf ps)])=some (tkT (ybe b ps)):=by simp [evE,yac,ygq,Sl.get,glo,e3]
   rw [evS,hf,v1,zx0,v2,zx0];show ((yel (some (slD qb)) (tkT (ybe b ps)) (yaf ps)).map _)=_;rw [zub qb _ _ (by omega)];rfl
  rw [zaw e4,yab]
 ·rcases zrn h with h | h
  ·exact hB.rw p h
  ·exact ⟨ps,hp,h⟩
theorem zlp (n:Nat) (hb:b.ok) (S:T) (N:Int) (i:Nat) (hi:i<4) (Z:List T) (hZ:Z.length<=4) (s5 s6 s7:Sl) :
  ∃ (R:List (List (Col × T))) (s5' s6' s7':Sl),yab (glo P (run P (n+2))) yft [.val S,.val (.int N),.val (.tup Z),.val (.int (i:Int)),.val b.t,s5,s6,s7]=some (.nx [.val S,.val (.int N),.val (.tup (Z++[.tup (R.map yaf)])),.val (.int (i:Int)),.val b.t,s5',s6',s7'])/\R.length<=4/\(∀ ps∈R,RowOk b ps)/\(R.map (ybe b)).Pairwise (fun x y=>ya8 x y=true):=by
 obtain ⟨d,ed,d0,d1⟩:=zwj hi;obtain ⟨m,em,m4⟩:∃ m:Nat,N/d%5=(m:Int)/\m<=4:=⟨(N/d%5).toNat,by omega,by omega⟩;obtain ⟨τ',el,qb,s6',s7',rfl,hB,hl⟩:=zas (enc:=fun j:Nat=>T.int (j:Int)) (f:=fun x τ=>(yay [6] x τ).bind fun τ'=>yab (glo P (run P (n+2))) lin τ')
  (fun done τ=>∃ qb s6 s7,τ=[.val S,.val (.int N),.val (.tup Z),.val (.int (i:Int)),.val b.t,slD qb,s6,s7]/\Book b qb/\qb.length<=done.length)
  (List.range m) [.val S,.val (.int N),.val (.tup Z),.val (.int (i:Int)),.val b.t,slD [],s6,s7] ⟨[],s6,s7,rfl,⟨List.nodup_nil,fun p h=>by cases h⟩,zye _⟩ (by
   rintro l1 j l2 hsp τ ⟨qb,s6,s7,rfl,hB,hl⟩;have hl4:qb.length<=4:=by have:=zym List.length hsp;simp at this;omega
   obtain ⟨kvs',s7',e,hB',hl'⟩:=zoy hd hw hr hn hk n hb S (.tup Z) N i j hB hl4 s7;refine ⟨[.val S,.val (.int N),.val (.tup Z),.val (.int (i:Int)),.val b.t,slD kvs',.val (.int (j:Int)),s7'],?_,kvs',.val (.int (j:Int)),s7',rfl,hB',by simp;omega⟩;simp only [yay,xbs,xss,xsz];exact e)
 have hl4:qb.length<=4:=by simp at hl;omega
 obtain ⟨pr,p1,p2,p3⟩:=zjf (enc:=tkT) (Q:=fun k w=>∃ ps,RowOk b ps/\w=yaf ps/\ybe b ps=k) (f:=fun x=>(yah (dD qb) x).map some) (ya3 (qb.map (·.1))) fun k hk'=>by obtain ⟨w,w1,w2⟩:=hB.get hk';exact ⟨w,by rw [w1];rfl,w2⟩
 obtain ⟨R,r1,r2,r3⟩:∃ R:List (List (Col × T)),pr.map (·.2)=R.map yaf/\(∀ ps∈R,RowOk b ps)/\R.map (ybe b)=pr.map (·.1):=by
  clear p1 p2
  induction pr with
  | nil=>exact ⟨[],rfl,(fun ps h=>by cases h),rfl⟩
  | cons p pr ih =>
   obtain ⟨ps,h1,h2,h3⟩:=p3 p zyc;obtain ⟨R,r1,r2,r3⟩:=ih fun q hq=>p3 q (zx8 _ hq);refine ⟨ps::R,by rw [zx4,zx4,r1,h2],fun q hq=>?_,by rw [zx4,zx4,r3,h3]⟩;rcases omc hq with rfl | hq
   ·exact h1
   ·exact r2 q hq
 have hRl:R.length<=4:=by have e1:=zym List.length r1;have e2:=zym List.length p1;rw [zya,zya] at e1;rw [zya,zc5,zya] at e2;omega
 refine ⟨R,.val (dD qb),s6',s7',?_,hRl,r2,by rw [r3,p1];refine zfi hB.nd fun x hx y hy=>?_;obtain ⟨q,hq,rfl⟩:=omm hx;obtain ⟨q',hq',rfl⟩:=omm hy;obtain ⟨ps,h1,rfl⟩:=hB.rw q hq;obtain ⟨ps',h2,rfl⟩:=hB.rw q' hq';exact zdm hb h1 h2⟩;unfold yft;rw [zaw (s:=.dnew 5) (τ':=[.val S,.val (.int N),.val (.tup Z),.val (.int (i:Int)),.val b.t,slD [],s6,s7]) (by rw [evS];rfl)];rw [zaw (zbp (xs:=[.int (m:Int)]) (qc:=(List.range m).map fun (j:Nat)=>T.int (j:Int)) (τ0:=[.val S,.val (.int N),.val (.tup Z),.val (.int (i:Int)),.val b.t,slD [],s6,s7]) rfl (by
  simp [yac,evE,ygq,Sl.get,yah,ed,ya0,yap,ya6,d0,d1,em]) (by
  simp only [items,ybn,Int.toNat_natCast];rw [if_pos (by omega)]) el)]
 have hsz:(ya3 (qb.map (·.1))).length<=16777216:=by rw [zc5,zya];omega
 have hz:Z.length+1<=16777216:=by omega
 rw [ztg (i:=2) (e:=lex) (τ0:=[.val S,.val (.int N),.val (.tup Z),.val (.int (i:Int)),.val b.t,.val (dD qb),s6',s7']) (t:=.tup (Z++[.tup (R.map yaf)])) (τ':=[.val S,.val (.int N),.val (.tup (Z++[.tup (R.map yaf)])),.val (.int (i:Int)),.val b.t,.val (dD qb),s6',s7']) (by
   show [Sl.val S,.val (.int N),.val (.tup Z),.val (.int (i:Int)),.val b.t,Sl.frz (Sl.frz (slD qb)),s6',s7']=_;rw [zrd];rfl) (by
   have ec:evE (glo P (run P (n+2))) (.comp (.idx (.var 6) (.var 0)) 1 .plain [.blt .sorted (.var 5)] none) (ygq [Sl.val S,.val (.int N),.val (.tup Z),.val (.int (i:Int)),.val b.t,.val (dD qb),s6',s7'])=some (.lst (R.map yaf)):=by
    rw [za0];have s1:yac (glo P (run P (n+2))) [.blt .sorted (.var 5)] (ygq [Sl.val S,.val (.int N),.val (.tup Z),.val (.int (i:Int)),.val b.t,.val (dD qb),s6',s7'])=some [.lst ((ya3 (qb.map (·.1))).map tkT)]:=by simp [yac,evE,ygq,Sl.get,hB.srt hb (by omega)]
    have s2:yae .plain [.lst ((ya3 (qb.map (·.1))).map tkT)]=some ((ya3 (qb.map (·.1))).map tkT):=by simp [yae,items,hsz]
    have ef:(fun x=>(bnd 1 x (ygq [Sl.val S,.val (.int N),.val (.tup Z),.val (.int (i:Int)),.val b.t,.val (dD qb),s6',s7'])).bind fun r'=>(evE (glo P (run P (n+2))) (.idx (.var 6) (.var 0)) r').map some)=fun x=>(yah (dD qb) x).map some:=by funext x;simp [bnd,evE,ygq,Sl.get]
    rw [s1,zx0,s2,zx0,ef,p2,r1];rfl
   unfold lex;rw [zi8];rw [show evE (glo P (run P (n+2))) (.tup [.blt .toTuple (.comp (.idx (.var 6) (.var 0)) 1 .plain [.blt .sorted (.var 5)] none)]) (ygq [Sl.val S,.val (.int N),.val (.tup Z),.val (.int (i:Int)),.val b.t,.val (dD qb),s6',s7'])=some (.tup [.tup (R.map yaf)]) by rw [evE,yac,zbq,ec];rfl];simp [evE,ygq,Sl.get,ya0,ya5,hz]) rfl,yab]
theorem zlo (hl:P.fn "_law_loose"=some zcz) (n:Nat) {S:List Tb} (hS:∀ b∈S,b.ok) (h4:S.length<=4) (N:Int) :
  ∃ Z:List (Tb × List (List (Col × T))),run P (n+3) "_law_loose" [.tup (S.map Tb.t),.int N]=some (.tup (Z.map fun z=>.tup (z.2.map yaf)))/\Z.map (·.1)=S/\∀ z∈Z,z.2.length<=4/\(∀ ps∈z.2,RowOk z.1 ps)/\(z.2.map (ybe z.1)).Pairwise (fun x y=>ya8 x y=true):=by
 rw [zaf hl rfl];show ∃ Z:List (Tb × List (List (Col × T))),zaa (yab (glo P (run P (n+2))) [.asg 2 (.tup []),.loop [3,4] .enum [.var 0] yft,.ret (.var 2)] [.val (.tup (S.map Tb.t)),.val (.int N),.no,.no,.no,.no,.no,.no])=_/\_;rw [zar (t:=.tup []) (τ':=[.val (.tup (S.map Tb.t)),.val (.int N),.val (.tup []),.no,.no,.no,.no,.no]) rfl (by simp [evE,yac]) rfl];obtain ⟨τ',el,Z,s3,s4,s5,s6,s7,rfl,h1,h2⟩:=zas (enc:=fun (p:Tb × Nat)=>T.tup [.int (p.2:Int),p.1.t]) (f:=fun x τ=>(yay [3,4] x τ).bind fun τ'=>yab (glo P (run P (n+2))) yft τ')
  (fun done τ=>∃ (Z:List (Tb × List (List (Col × T)))),∃ s3 s4 s5 s6 s7,τ=[.val (.tup (S.map Tb.t)),.val (.int N),.val (.tup (Z.map fun z=>.tup (z.2.map yaf))),s3,s4,s5,s6,s7]/\Z.map (·.1)=done.map (·.1)/\∀ z∈Z,z.2.length<=4/\(∀ ps∈z.2,RowOk z.1 ps)/\(z.2.map (ybe z.1)).Pairwise (fun x y=>ya8 x y=true))
  (S.zipIdx 0) [.val (.tup (S.map Tb.t)),.val (.int N),.val (.tup []),.no,.no,.no,.no,.no] ⟨[],.no,.no,.no,.no,.no,rfl,rfl,fun z h=>by cases h⟩ (by
   rintro done ⟨b,i⟩ rest hsp τ ⟨Z,s3,s4,s5,s6,s7,rfl,h1,h2⟩;have hm:(b,i)∈S.zipIdx 0:=by rw [hsp];simp
   have hb:b∈S:=by have:=List.mem_zipIdx' hm;rw [this.2];exact List.getElem_mem _
   have hi:i<4:=by have:=(List.mem_zipIdx' hm).1;omega
   have hzl:Z.length<=4:=by have e1:=zym List.length h1;have e2:=zym List.length hsp;simp at e1 e2;omega
   obtain ⟨R,s5',s6',s7',e,r1,r2,r3⟩:=zlp hd hw hr hn hk n (hS b hb) (.tup (S.map Tb.t)) N i hi (Z.map fun z=>.tup (z.2.map yaf)) (by rw [zya];exact hzl) s5 s6 s7;refine ⟨[.val (.tup (S.map Tb.t)),.val (.int N),.val (.tup ((Z++[(b,R)]).map fun z=>.tup (z.2.map yaf))),.val (.int (i:Int)),.val b.t,s5',s6',s7'],?_,Z++[(b,R)],_,_,_,_,_,rfl,by simp [h1],fun z hz=>?_⟩
   ·simp only [yay,setAll,xbs,xss,xsz];rw [e,zyx];rfl
   ·rcases oma hz with z' | z'
    ·exact h2 z z'
    ·rw [omg z'];exact ⟨r1,r2,r3⟩)
 refine ⟨Z,?_,by rw [h1,List.zipIdx_map_fst],h2⟩;rw [zaw (zbp (xs:=[.tup (S.map Tb.t)]) (qc:=(S.zipIdx 0).map fun (p:Tb × Nat)=>T.tup [.int (p.2:Int),p.1.t]) (τ0:=[.val (.tup (S.map Tb.t)),.val (.int N),.val (.tup []),.no,.no,.no,.no,.no]) rfl (by simp [yac,evE,ygq,Sl.get]) (by simp only [items,zb7]) el)];rw [zav (t:=.tup (Z.map fun z=>.tup (z.2.map yaf))) rfl (by simp [evE,ygq,Sl.get])];rfl
end
end
section
abbrev Zt:=Tb × List (List (Col × T))
noncomputable def yak (Z:List Zt):T:=.tup (Z.map fun z=>z.1.t)
noncomputable def rwT (z:Zt):T:=.tup (z.2.map yaf)
noncomputable def stT (Z:List Zt):T:=.tup (Z.map rwT)
theorem ztj:∀ Z:List Zt,ycm (Z.map fun z=>z.1.t) (Z.map rwT)=Z.map fun z=>.tup [z.1.t,rwT z]
 | []=>rfl
 | z::Z=>by rw [zx4,zx4,zx4,ycm,ztj Z]
theorem t0 (b:Tb):yah b.t (.int 0)=some (.str b.nm):=by rw [Tb.t,ybm,yah,yaw]
theorem t1 (b:Tb):yah b.t (.int 1)=some (.tup (b.cs.map Col.t)):=by rw [Tb.t,ybm,yah,yav]
theorem zdh {α:Type} {enc:α->T} {nm:α->Str} {f:T->List Sl->Option Out} {I:List Sl->Prop} {r:α->T} (x:Str) (hit:∀ a τ,I τ->nm a=x->f (enc a) τ=some (.rt (r a))) (miss:∀ a τ,I τ->nm a≠x->∃ τ',f (enc a) τ=some (.nx τ')/\I τ') :
  ∀ {l:List α} {a:α},a∈l->(l.map nm).Nodup->nm a=x->∀ τ,I τ->yan f (l.map enc) τ=some (.rt (r a))
 | b::l,a,ha,nd,e,τ,h=>by
  rw [zx4] at nd;obtain ⟨n1,n2⟩:=List.nodup_cons.mp nd;rw [zx4,yan];by_cases hb:nm b=x
  ·rcases omc ha with rfl | ha
   ·rw [hit _ τ h hb];rfl
   ·exact absurd (List.mem_map.mpr ⟨a,ha,e.trans hb.symm⟩) n1
  ·rcases omc ha with rfl | ha
   ·exact absurd e hb
   ·obtain ⟨τ',h1,h2⟩:=miss b τ h hb;rw [h1];exact zdh x hit miss ha n2 e τ' h2
theorem zkl {P:Pr} (h:P.fn "table_of"=some zb8) (n:Nat) {Z:List Zt} {z:Zt} (hz:z∈Z) (nd:(Z.map (·.1.nm)).Nodup):run P (n+1) "table_of" [yak Z,.str z.1.nm]=some z.1.t:=by
 rw [zaf h rfl];show zaa (yab (glo P (run P n)) [.loop [2] .plain [.var 0] [.ite (.cmp .eq (.idx (.var 2) (.cst (.int 0))) (.var 1)) [.ret (.var 2)] []],.ret (.cst .non)] [.val (yak Z),.val (.str z.1.nm),.no])=_;have el:=zdh (enc:=fun z:Zt=>z.1.t) (nm:=fun z:Zt=>z.1.nm) (r:=fun z:Zt=>z.1.t) (I:=fun τ=>∃ s2,τ=[Sl.val (yak Z),.val (.str z.1.nm),s2])
  (f:=fun x τ=>(yay [2] x τ).bind fun τ'=>yab (glo P (run P n)) [.ite (.cmp .eq (.idx (.var 2) (.cst (.int 0))) (.var 1)) [.ret (.var 2)] []] τ') z.1.nm
  (fun a τ ⟨s2,hτ⟩ e=>by subst hτ;show yab (glo P (run P n)) [.ite (.cmp .eq (.idx (.var 2) (.cst (.int 0))) (.var 1)) [.ret (.var 2)] []] [.val (yak Z),.val (.str z.1.nm),.val a.1.t]=_;exact zb2 rfl (by simp [evE,ygq,Sl.get,t0,yax,eqs,e]) (zav rfl (by simp [evE,ygq,Sl.get])))
  (fun a τ ⟨s2,hτ⟩ e=>by subst hτ;refine ⟨[.val (yak Z),.val (.str z.1.nm),.val a.1.t],?_,_,rfl⟩;show yab (glo P (run P n)) [.ite (.cmp .eq (.idx (.var 2) (.cst (.int 0))) (.var 1)) [.ret (.var 2)] []] [.val (yak Z),.val (.str z.1.nm),.val a.1.t]=_;rw [zay rfl (by simp [evE,ygq,Sl.get,t0,yax,eqs,e]),yab])
  hz nd rfl [Sl.val (yak Z),.val (.str z.1.nm),.no] ⟨_,rfl⟩
 rw [zfe (zbp (xs:=[yak Z]) (qc:=Z.map fun z=>z.1.t) (τ0:=[Sl.val (yak Z),.val (.str z.1.nm),.no]) rfl (by simp [yac,evE,ygq,Sl.get]) rfl el)];rfl
theorem zff {P:Pr} (h:P.fn "rows_of"=some zcn) (n:Nat) {Z:List Zt} {z:Zt} (hz:z∈Z) (nd:(Z.map (·.1.nm)).Nodup):run P (n+1) "rows_of" [yak Z,stT Z,.str z.1.nm]=some (rwT z):=by
 rw [zaf h rfl];show zaa (yab (glo P (run P n)) [.loop [3,4] .zip [.var 0,.var 1] [.ite (.cmp .eq (.idx (.var 3) (.cst (.int 0))) (.var 2)) [.ret (.var 4)] []],.ret (.tup [])] [.val (yak Z),.val (stT Z),.val (.str z.1.nm),.no,.no])=_;have el:=zdh (enc:=fun z:Zt=>T.tup [z.1.t,rwT z]) (nm:=fun z:Zt=>z.1.nm) (r:=rwT) (I:=fun τ=>∃ s3 s4,τ=[Sl.val (yak Z),.val (stT Z),.val (.str z.1.nm),s3,s4])
  (f:=fun x τ=>(yay [3,4] x τ).bind fun τ'=>yab (glo P (run P n)) [.ite (.cmp .eq (.idx (.var 3) (.cst (.int 0))) (.var 2)) [.ret (.var 4)] []] τ') z.1.nm
  (fun a τ ⟨s3,s4,hτ⟩ e=>by subst hτ;show yab (glo P (run P n)) [.ite (.cmp .eq (.idx (.var 3) (.cst (.int 0))) (.var 2)) [.ret (.var 4)] []] [.val (yak Z),.val (stT Z),.val (.str z.1.nm),.val a.1.t,.val (rwT a)]=_;exact zb2 rfl (by simp [evE,ygq,Sl.get,t0,yax,eqs,e]) (zav rfl (by simp [evE,ygq,Sl.get])))
  (fun a τ ⟨s3,s4,hτ⟩ e=>by subst hτ;refine ⟨[.val (yak Z),.val (stT Z),.val (.str z.1.nm),.val a.1.t,.val (rwT a)],?_,_,_,rfl⟩;show yab (glo P (run P n)) [.ite (.cmp .eq (.idx (.var 3) (.cst (.int 0))) (.var 2)) [.ret (.var 4)] []] [.val (yak Z),.val (stT Z),.val (.str z.1.nm),.val a.1.t,.val (rwT a)]=_;rw [zay rfl (by simp [evE,ygq,Sl.get,t0,yax,eqs,e]),yab])
  hz nd rfl [Sl.val (yak Z),.val (stT Z),.val (.str z.1.nm),.no,.no] ⟨_,_,rfl⟩
 rw [zfe (zbp (xs:=[yak Z,stT Z]) (qc:=Z.map fun z=>T.tup [z.1.t,rwT z]) (τ0:=[Sl.val (yak Z),.val (stT Z),.val (.str z.1.nm),.no,.no]) rfl (by simp [yac,evE,ygq,Sl.get]) (by show some (ycm (Z.map fun z=>z.1.t) (Z.map rwT))=_;rw [ztj]) el)];rfl
theorem zi7 (G:Glo) (a b:E) (r:Env):evE G (.idx a b) r=(evE G a r).bind fun x=>(evE G b r).bind fun y=>yah x y:=by rw [evE]
theorem zpd (G:Glo) (m:Mt) (a b:E) (r:Env):evE G (.mth m a b) r=(evE G a r).bind fun x=>(evE G b r).bind fun y=>ya7 m x y:=by rw [evE]
theorem zk8 {z:Zt}:∀ {Z:List Zt},z∈Z->(Z.map (·.1.nm)).Nodup->∃ i:Nat,zcd (.str z.1.nm) (Z.map fun z=>T.str z.1.nm)=some i/\(Z.map rwT)[i]?=some (rwT z)
 | y::Z,h,nd=>by
  rw [zx4] at nd;obtain ⟨n1,n2⟩:=List.nodup_cons.mp nd;rw [zx4,zcd];by_cases e:y.1.nm=z.1.nm
  ·rcases omc h with rfl | h
   ·exact ⟨0,by simp [eqT],rfl⟩
   ·exact absurd (List.mem_map.mpr ⟨z,h,e.symm⟩) n1
  ·rcases omc h with rfl | h
   ·exact absurd rfl e
   ·obtain ⟨i,h1,h2⟩:=zk8 h n2;refine ⟨i+1,?_,by simpa using h2⟩;rw [h1];simp [eqT,e]
theorem zgi {P:Pr} (h:P.fn "_law_rows"=some zdk) (n:Nat) {Z:List Zt} (h4:Z.length<=4) {z:Zt} (hz:z∈Z) (nd:(Z.map (·.1.nm)).Nodup):run P (n+1) "_law_rows" [yak Z,stT Z,.str z.1.nm]=some (rwT z):=by
 rw [zaf h rfl];obtain ⟨i,h1,h2⟩:=zk8 hz nd;have hz':Z.length<=16777216:=by omega
 show zaa (yab (glo P (run P n)) [.ret (.idx (.var 1) (.mth .index (.comp (.idx (.var 0) (.cst (.int 0))) 1 .plain [.var 0] none) (.var 2)))] [.val (yak Z),.val (stT Z),.val (.str z.1.nm)])=_;have ec:evE (glo P (run P n)) (.comp (.idx (.var 0) (.cst (.int 0))) 1 .plain [.var 0] none) (ygq [Sl.val (yak Z),.val (stT Z),.val (.str z.1.nm)])=some (.lst (Z.map fun z=>T.str z.1.nm)):=by
  rw [za0];have s1:yac (glo P (run P n)) [.var 0] (ygq [Sl.val (yak Z),.val (stT Z),.val (.str z.1.nm)])=some [yak Z]:=by simp [yac,evE,ygq,Sl.get]
  have s2:yae .plain [yak Z]=some (Z.map fun z=>z.1.t):=by simp [yae,items,yak,hz']
  rw [s1,zx0,s2,zx0,zax (fun z:Zt=>T.str z.1.nm) fun a _=>by simp [bnd,evE,ygq,Sl.get,t0]];rfl
 have hf:((Z.map fun z=>T.str z.1.nm).all flat)=true:=by rw [List.all_eq_true];intro t ht;obtain ⟨a,_,rfl⟩:=omm ht;rfl
 have em:ya7 .index (.lst (Z.map fun z=>T.str z.1.nm)) (.str z.1.nm)=some (.int (i:Int)):=by simp only [ya7];rw [if_pos (by rw [hf];rfl),h1];rfl
 rw [zav (t:=rwT z) rfl (by rw [zi7,zpd,ec];simp only [evE,ygq,xmc,xmn,Sl.get,xgs,xgz,xjs,xbs,em];show ybf (Z.map rwT) (i:Int)=_;exact zbi h2)];rfl
end
section
variable {n:Nat}
theorem zgr:∀ {l:List T},(∀ w∈l,eqT w w=true)->yb5 l l=true
 | [],_=>by rw [yb5]
 | w::l,h=>by rw [yb5,h w zyc,zgr fun u hu=>h u (zx8 _ hu)];rfl
theorem zgt {n:Nat}:∀ {l:List T},(∀ w∈l,dpP w w<=n)->yba l l<=n
 | [],_=>by rw [yba]<;>first | exact Nat.zero_le _ | simp
 | w::l,h=>by rw [yba];exact Nat.max_le.mpr ⟨h w zyc,zgt fun u hu=>h u (zx8 _ hu)⟩
noncomputable def Slf (n:Nat) (t:T):Prop:=eqT t t=true/\dpP t t<=n
theorem zfd {t:T} (h:flat t=true):Slf 0 t:=by cases t<;>first | exact ⟨by simp [eqT],Nat.le_refl _⟩ | cases h
theorem zg8 {l:List T} (h:∀ w∈l,Slf n w):Slf (n+1) (.tup l) :=
 ⟨by rw [eqT];exact zgr fun w hw=>(h w hw).1,by rw [dpP];exact zzh (zgt fun w hw=>(h w hw).2)⟩
theorem zp3 {m:Nat} {t:T} (h:Slf n t) (hm:n<=m):Slf m t:=⟨h.1,zyr h.2 hm⟩
theorem zvd {t:T} (h:Slf n t) (hn:n<=30):neC t t=some (.bl false):=by unfold neC;rw [if_pos (zyr h.2 hn),h.1];rfl
theorem ztr (k:List Kt):Slf 1 (tkT k):=zg8 fun w hw=>by obtain ⟨x,_,rfl⟩:=omm hw;exact zfd (by rcases x with _ | _ | _<;>rfl)
end
section
structure Tr where
 nm:Str
 j:Nat
 k:List Kt
noncomputable def trT (x:Tr):T:=.tup [.str x.nm,.int (x.j:Int),tkT x.k]
noncomputable def code (x:Tr):List Kt:=.inr (some x.nm)::.inl (x.j:Int)::x.k
theorem zst (a b:Kt):eqT (kT a) (kT b)=decide (a=b):=by
 rcases a with i | _ | x<;>rcases b with j | _ | y<;>simp only [kT,eqT]
 all_goals first | (simp;done) | (by_cases e:i=j<;>simp [e]) | (by_cases e:x=y<;>simp [e])
theorem zqf:∀ a b:List Kt,yb5 (a.map kT) (b.map kT)=decide (a=b)
 | [],[]=>by rw [List.map_nil,yb5];rfl
 | [],_::_=>by rw [List.map_cons,List.map_nil,yb5]<;>simp
 | _::_,[]=>by rw [List.map_cons,List.map_nil,yb5]<;>simp
 | x::a,y::b=>by rw [zx4,zx4,yb5,zst,zqf a b];by_cases e:x=y<;>by_cases f:a=b<;>simp [e,f]
theorem zqy (a b:List Kt):eqT (tkT a) (tkT b)=decide (a=b):=by rw [tkT,tkT,eqT,zqf]
theorem zxv (a b:Kt):dpP (kT a) (kT b)=0:=by rcases a with _ | _ | _<;>rcases b with _ | _ | _<;>rfl
theorem zqp:∀ a b:List Kt,yba (a.map kT) (b.map kT)=0
 | [],_=>by rw [List.map_nil,yba];simp
 | _::_,[]=>by rw [List.map_nil,yba];simp
 | x::a,y::b=>by rw [zx4,zx4,yba,zxv,zqp a b];rfl
theorem zs3 (a b:List Kt):dpP (tkT a) (tkT b)=1:=by rw [tkT,tkT,dpP,zqp]
theorem zvj:∀ {a b:List Kt},Ev.alike a b=true->ybz (a.map kT) (b.map kT)=some (ya8 a b)
 | [],[],_=>rfl
 | [],_::_,h=>by cases h
 | _::_,[],h=>by cases h
 | x::a,y::b,h=>by
  rw [Ev.alike,zx7] at h;rw [zx4,zx4,ybz];show (if eqT (kT x) (kT y)=true then ybz (a.map kT) (b.map kT) else ltD (kT x) (kT y))=_;rw [zst,ya8];by_cases e:x=y
  ·rw [if_pos (zyo e),if_pos e];exact zvj h.2
  ·rw [if_neg (by simpa using e),if_neg e];rcases x with i | _ | x<;>rcases y with j | _ | y<;>first | rfl | (exact absurd h.1 zyg)
theorem zvc {a b:Str} (h:a≠b):(Sum.inr (some a):Kt)≠.inr (some b):=fun z=>h (zyk (Sum.inr.inj z))
theorem j_ne {a b:Nat} (h:a≠b):(Sum.inl (a:Int):Kt)≠.inl (b:Int):=fun z=>h (by have:=Sum.inl.inj z;omega)
theorem zh2 (x y:Tr):ya8 (code x) (code y)=if x.nm=y.nm then (if x.j=y.j then ya8 x.k y.k else kLt (.inl (x.j:Int)) (.inl (y.j:Int))) else kLt (.inr (some x.nm)) (.inr (some y.nm)):=by
 show (if (Sum.inr (some x.nm):Kt)=.inr (some y.nm) then (if (Sum.inl (x.j:Int):Kt)=.inl (y.j:Int) then ya8 x.k y.k else kLt (.inl (x.j:Int)) (.inl (y.j:Int))) else kLt (.inr (some x.nm)) (.inr (some y.nm)))=_;by_cases e:x.nm=y.nm
 ·rw [if_pos (by rw [e]),if_pos e];by_cases f:x.j=y.j
  ·rw [if_pos (by rw [f]),if_pos f]
  ·rw [if_neg (j_ne f),if_neg f]
 ·rw [if_neg (zvc e),if_neg e]
theorem zvi {x y:Tr} (h:x.nm=y.nm->Ev.alike x.k y.k=true):ltD (trT x) (trT y)=some (ya8 (code x) (code y)):=by
 show ybz [.str x.nm,.int (x.j:Int),tkT x.k] [.str y.nm,.int (y.j:Int),tkT y.k]=_;rw [zh2,ybz];show (if (x.nm==y.nm)=true then ybz [.int (x.j:Int),tkT x.k] [.int (y.j:Int),tkT y.k] else ltD (.str x.nm) (.str y.nm))=_;by_cases e:x.nm=y.nm
 ·rw [if_pos (beq_iff_eq.mpr e),if_pos e,ybz];show (if ((x.j:Int)==(y.j:Int))=true then ybz [tkT x.k] [tkT y.k] else ltD (.int (x.j:Int)) (.int (y.j:Int)))=_;by_cases f:x.j=y.j
  ·rw [if_pos (by rw [f];exact beq_self_eq_true _),if_pos f,ybz];show (if eqT (tkT x.k) (tkT y.k)=true then ybz [] [] else ybz (x.k.map kT) (y.k.map kT))=_;rw [zqy,zvj (h e)];by_cases g:x.k=y.k
   ·rw [if_pos (zyo g),g,zcs];rfl
   ·rw [if_neg (by simpa using g)]
  ·have f':¬ (x.j:Int)=(y.j:Int):=by omega
   rw [if_neg (by simpa using f'),if_neg f];rfl
 ·rw [if_neg (by simpa using e),if_neg e];rfl
theorem zfo:∀ {a b c:List Kt},ya8 a b=true->ya8 b c=true->ya8 a c=true
 | [],_,_,h,_=>by cases h
 | _::_,[],_,h,_=>by cases h
 | _::_,_::_,[],_,h=>by cases h
 | x::a,y::b,z::c,h1,h2=>by
  rw [ya8] at h1 h2 ⊢;by_cases e:x=y
  ·rw [if_pos e] at h1;by_cases f:y=z
   ·rw [if_pos f] at h2;rw [if_pos (e.trans f)];exact zfo h1 h2
   ·rw [if_neg f] at h2;rw [if_neg (fun g=>f (e.symm.trans g)),e];exact h2
  ·rw [if_neg e] at h1;by_cases f:y=z
   ·rw [if_neg (fun g=>e (g.trans f.symm)),<- f];exact h1
   ·rw [if_neg f] at h2;have h3:=zqg h1 h2;rw [if_neg fun g=>by rw [g,zl6] at h3;cases h3];exact h3
theorem zpl {x y:Tr} (h:x.nm=y.nm->Ev.alike x.k y.k=true) (hn:x≠y):ya8 (code y) (code x)=!ya8 (code x) (code y):=by
 rw [zh2,zh2];by_cases e:x.nm=y.nm
 ·rw [if_pos e.symm,if_pos e];by_cases f:x.j=y.j
  ·rw [if_pos f.symm,if_pos f];refine zc4 (h e) fun g=>hn ?_;obtain ⟨a,b,c⟩:=x;obtain ⟨a',b',c'⟩:=y;cases e;cases f;cases g;rfl
  ·rw [if_neg (fun z=>f z.symm),if_neg f];exact zhr rfl (j_ne f)
 ·rw [if_neg (fun z=>e z.symm),if_neg e];exact zhr rfl (zvc e)
structure TrOk (l:List Tr):Prop where
 len:l.length<=60
 nd:l.Nodup
 al:∀ x∈l,∀ y∈l,x.nm=y.nm->Ev.alike x.k y.k=true
theorem TrOk.cd {l:List Tr} (h:TrOk l) {x y:Tr} (hx:x∈l) (hy:y∈l):cD (trT x) (trT y)=ya8 (code x) (code y):=by unfold cD;rw [zvi (h.al x hx y hy)];cases ya8 (code x) (code y)<;>rfl
theorem TrOk.tot {l:List Tr} (h:TrOk l):(l.map trT).Pairwise fun x y=>cD y x=!cD x y:=by refine List.pairwise_map.mpr (List.Pairwise.imp_of_mem (fun {x y} hx hy hn=>?_) h.nd);rw [h.cd hx hy,h.cd hy hx];exact zpl (h.al x hx y hy) hn
theorem TrOk.tr {l:List Tr} (h:TrOk l):∀ x∈l.map trT,∀ y∈l.map trT,∀ z∈l.map trT,cD x y=true->cD y z=true->cD x z=true:=fun x hx y hy z hz=>by obtain ⟨x',mx,rfl⟩:=omm hx;obtain ⟨y',my,rfl⟩:=omm hy;obtain ⟨z',mz,rfl⟩:=omm hz;rw [h.cd mx my,h.cd my mz,h.cd mx mz];exact zfo
theorem TrOk.okN {l:List Tr} (h:TrOk l):OkN (l.map trT):=by
 refine ⟨by rw [zya];exact h.len,fun x hx y hy=>?_,fun x hx y hy=>?_,⟨1,fun x hx=>?_⟩,h.tot,h.tr⟩
 ·obtain ⟨x',mx,rfl⟩:=omm hx;obtain ⟨y',my,rfl⟩:=omm hy;show yba [.str x'.nm,.int (x'.j:Int),tkT x'.k] [.str y'.nm,.int (y'.j:Int),tkT y'.k]+1<=20;rw [yba,yba,yba,zs3,yba]<;>first | (simp [dpP];done) | simp
 ·obtain ⟨x',mx,rfl⟩:=omm hx;obtain ⟨y',my,rfl⟩:=omm hy;exact ⟨_,zvi (h.al x' mx y' my)⟩
 ·obtain ⟨x',mx,rfl⟩:=omm hx;exact ⟨_,_,rfl,rfl⟩
theorem TrOk.sorted {l:List Tr} (h:TrOk l):yaz .sorted (.lst (l.map trT))=some (.lst (ycl (l.map trT))):=by
 cases l with
 | nil=>simp [yaz,yez,ycf,ydh,ya3,ycl]
 | cons x l =>have e:yez ((x::l).map trT)=none:=rfl;show (match (yez ((x::l).map trT)).bind ycf with | some r=>some r | none=>ycp ((x::l).map trT))=_;rw [e];show ycp _=_;unfold ycp;rw [if_pos h.okN]
theorem TrOk.perm {l m:List Tr} (h:TrOk l) (p:l.Perm m):TrOk m/\ycl (l.map trT)=ycl (m.map trT):=by have hm:TrOk m:=⟨by rw [<- p.length_eq];exact h.len,p.nodup_iff.mp h.nd,fun x hx y hy=>h.al x (p.mem_iff.mpr hx) y (p.mem_iff.mpr hy)⟩;refine ⟨hm,zk1 (zee h.tot h.tr) (zee hm.tot hm.tr) (fun x hx y hy h1 h2=>?_) ((za7 _).trans ((p.map trT).trans (za7 _).symm))⟩;obtain ⟨x',mx,rfl⟩:=omm ((za7 _).mem_iff.mp hx);obtain ⟨y',my,rfl⟩:=omm ((za7 _).mem_iff.mp hy);rw [h.cd mx my] at h1;rw [h.cd my mx] at h2;have:=zfo h1 h2;rw [zcs] at this;cases this
end
section
section
variable {α κ:Type} [DecidableEq κ] (W:α->κ)
noncomputable def cls (R:List α) (q:κ):List α:=R.filter fun r=>decide (W r=q)
theorem zjg:∀ (D:List κ) (R:List α),D.Nodup->(∀ r∈R,W r∈D)->(D.flatMap (cls W R)).Perm R
 | [],R,_,h=>by
  cases R with
  | nil=>exact .refl _
  | cons r R=>exact absurd (h r List.mem_cons_self) (by simp)
 | q::D,R,nd,h=>by
  rw [List.nodup_cons] at nd;rw [List.flatMap_cons];have e:D.flatMap (cls W R)=D.flatMap (cls W (R.filter fun r=>!decide (W r=q))):=by
   have:∀ D':List κ,(∀ x∈D',x≠q)->D'.flatMap (cls W R)=D'.flatMap (cls W (R.filter fun r=>!decide (W r=q))):=fun D'=>by
    induction D' with
    | nil=>intro _;rfl
    | cons x D' ih =>
     intro hx;rw [List.flatMap_cons,List.flatMap_cons,ih fun y hy=>hx y (zx8 _ hy)];congr 1;unfold cls;rw [List.filter_filter];refine List.filter_congr fun r _=>?_;by_cases e:W r=x
     ·have:¬ x=q:=hx x zyc;simp [e,this]
     ·simp [e]
   exact this D fun x hx z=>nd.1 (z▸hx)
  rw [e];refine (List.Perm.append_left _ (zjg D (R.filter fun r=>!decide (W r=q)) nd.2 fun r hr=>?_)).trans (List.filter_append_perm _ R);obtain ⟨h1,h2⟩:=List.mem_filter.mp hr;rcases omc (h r h1) with z | z
  ·rw [z] at h2;simp at h2
  ·exact z
noncomputable def two (R:List α):List α:=R.filter fun r=>decide (1<(cls W R (W r)).length)
theorem zns {D:List κ} {R:List α} (nd:D.Nodup) (h:∀ r∈R,W r∈D):(D.flatMap fun q=>if 1<(cls W R q).length then cls W R q else []).Perm (two W R):=by
 have e:(D.flatMap fun q=>if 1<(cls W R q).length then cls W R q else [])=D.flatMap (cls W (two W R)):=by
  clear nd h
  induction D with
  | nil=>rfl
  | cons q D ih =>
   rw [List.flatMap_cons,List.flatMap_cons,ih];congr 1;show _=(two W R).filter _;unfold two;rw [List.filter_filter];split
   ·rename_i hq;refine List.filter_congr fun r _=>?_;by_cases e:W r=q
    ·simp [e,hq]
    ·simp [e]
   ·rename_i hq;refine (List.filter_eq_nil_iff.mpr fun r _=>?_).symm;by_cases e:W r=q
    ·simp [e,hq]
    ·simp [e]
 rw [e];exact zjg W D (two W R) nd fun r hr=>h r (List.mem_filter.mp hr).1
end
section
variable {α:Type} (W:α->List Kt) (key:α->T)
noncomputable def grp (R:List α) (D:List (List Kt)):List (List Kt × List T):=D.map fun q=>(q,(cls W R q).map key)
theorem zmh (R:List α) (D:List (List Kt)) (q:List Kt):((grp W key R D).any fun p=>decide (p.1=q))=true↔q∈D:=by
 rw [List.any_eq_true];constructor
 ·rintro ⟨p,hp,e⟩;obtain ⟨x,hx,rfl⟩:=omm hp;have:x=q:=zy6 e;exact this▸hx
 ·exact fun h=>⟨_,List.mem_map.mpr ⟨q,h,rfl⟩,zyo rfl⟩
theorem zf0 (R:List α) (r:α) (q:List Kt):cls W (R++[r]) q=cls W R q++(if W r=q then [r] else []):=by unfold cls;rw [List.filter_append,List.filter_cons];by_cases e:W r=q<;>simp [e]
theorem ztb {R:List α} {q:List Kt} (h:∀ r∈R,W r≠q):cls W R q=[]:=List.filter_eq_nil_iff.mpr fun r hr=>by simpa using h r hr
theorem zo6 {R:List α} {D:List (List Kt)} (nd:D.Nodup) (h:∀ r∈R,W r∈D) (r:α) :
  ∃ D',D'.Nodup/\(∀ x∈R++[r],W x∈D')/\D'.length<=D.length+1/\apP (sdP (grp W key R D) (W r)) (W r) (key r)=grp W key (R++[r]) D':=by
 unfold sdP;rcases Classical.em (W r∈D) with hq | hq
 ·refine ⟨D,nd,fun x hx=>?_,Nat.le_succ _,?_⟩
  ·rcases oma hx with hx | hx
   ·exact h x hx
   ·rw [omg hx];exact hq
  ·rw [if_pos ((zmh W key R D _).mpr hq)];unfold apP grp;rw [zy3];refine List.map_congr_left fun q _=>?_;show (if q=W r then (q,(cls W R q).map key++[key r]) else (q,(cls W R q).map key))=(q,(cls W (R++[r]) q).map key);rw [zf0];by_cases e:q=W r
   ·rw [if_pos e,if_pos e.symm,zyx];rfl
   ·rw [if_neg e,if_neg (fun z=>e z.symm),zyh]
 ·refine ⟨D++[W r],?_,fun x hx=>?_,by simp,?_⟩
  ·refine List.nodup_append.mpr ⟨nd,by simp,fun a ha b hb=>?_⟩;rw [omg hb];exact fun z=>hq (z▸ha)
  ·rcases oma hx with hx | hx
   ·exact List.mem_append.mpr (.inl (h x hx))
   ·rw [omg hx];simp
  ·rw [if_neg fun z=>hq ((zmh W key R D _).mp z)];unfold apP grp;rw [zyx,zyx,zy3];have e1:cls W (R++[r]) (W r)=[r]:=by rw [zf0,ztb W fun x hx z=>hq (by rw [<- z];exact h x hx),if_pos rfl];rfl
   have e2:[(W r,([]:List T))].map (fun p=>if p.1=W r then (p.1,p.2++[key r]) else p)=[W r].map fun q=>(q,(cls W (R++[r]) q).map key):=by simp [e1]
   rw [e2];congr 1;refine List.map_congr_left fun q hqD=>?_;have hne:¬ q=W r:=fun z=>hq (z▸hqD);show (if q=W r then (q,(cls W R q).map key++[key r]) else (q,(cls W R q).map key))=(q,(cls W (R++[r]) q).map key);rw [if_neg hne,zf0,if_neg (fun z=>hne z.symm),zyh]
theorem zo7 (R:List α) (D:List (List Kt)):((grp W key R D).flatMap fun p=>if 1<p.2.length then p.2 else [])=(D.flatMap fun q=>if 1<(cls W R q).length then cls W R q else []).map key:=by
 unfold grp
 induction D with
 | nil=>rfl
 | cons q D ih =>rw [zx4,List.flatMap_cons,List.flatMap_cons,ih,zyx];congr 1;show (if 1<((cls W R q).map key).length then (cls W R q).map key else [])=_;rw [zya];split<;>rfl
end
end
section
variable {b:Tb} {qa:List Str} {P:Pr}
noncomputable def zci:Fd:=⟨2,2,[.ret (.call "worths_of" [.var 0,.var 1,.idx (.var 0) (.cst (.int 2))])]⟩
noncomputable def zbb:Fd:=⟨3,4,[.asg 3 (.call "table_of" [.var 0,.var 2]),
  .ret (.blt .dict (.comp (.tup [.call "key_of" [.var 4,.var 0],.var 0]) 1 .plain [.call "rows_of" [.var 0,.var 1,.var 2]] none))]⟩
noncomputable def zek:Fd:=⟨3,3,[.ret (.cmp .notF (.call "holds" [.var 0,.idx (.var 2) (.cst (.int 1)),.var 1]) (.cst (.bl false)))]⟩
noncomputable def zao:Fd:=⟨3,4,[.asg 3 (.call "worths_of" [.var 0,.var 2,.idx (.var 1) (.cst (.int 1))]),
  .ite (.cmp .isin (.cst .non) (.var 3)) [.ret (.cst .non)] [],
  .ret (.var 3)]⟩
noncomputable def zbo:Fd:=⟨3,6,[.asg 3 (.lst []),
  .loop [4] .plain [.var 2] [.asg 5 (.call "key_referred_to" [.var 0,.var 1,.var 4]),
  .ite (.cmp .notN (.var 5) (.cst .non)) [.app 3 (.tup [.tup [.idx (.var 0) (.cst (.int 0)),.call "key_of" [.var 0,.var 4]],.var 1,.tup [.idx (.var 1) (.cst (.int 2)),.var 5]])] []],
  .ret (.var 3)]⟩
noncomputable def zd0:Fd:=⟨2,7,[.asg 2 (.lst []),
  .loop [3] .plain [.var 0] [.loop [4,5] .enum [.idx (.var 3) (.cst (.int 3))] [.loop [6] .plain [.call "keys_that_break" [.var 0,.var 1,.var 3,.var 5]] [.app 2 (.tup [.idx (.var 3) (.cst (.int 0)),.var 4,.var 6])]]],
  .ret (.blt .toTuple (.blt .sorted (.var 2)))]⟩
noncomputable def zel:Fd:=⟨2,2,[.ret (.cmp .eq (.blt .len (.call "breaks" [.var 0,.var 1])) (.cst (.int 0)))]⟩
noncomputable def zbe:Fd:=⟨4,5,[.asg 4 (.call "rows_of" [.var 0,.var 1,.idx (.var 2) (.cst (.int 0))]),
  .ite (.cmp .eq (.idx (.var 3) (.cst (.int 0))) (.cst (.str "check"))) [.ret (.comp (.call "key_of" [.var 3,.var 0]) 1 .plain [.var 4] (some (.lnot (.tru (.call "is_kept" [.var 3,.var 0,.var 4])))))] [],
  .ite (.cmp .eq (.idx (.var 3) (.cst (.int 0))) (.cst (.str "unlike"))) [.ret (.call "keys_alike" [.var 2,.var 3,.var 4])] [],
  .ret (.call "keys_referring_to_none" [.var 0,.var 1,.var 2,.var 3])]⟩
noncomputable def zco:Fd:=⟨3,8,[.dnew 3,
  .loop [4] .plain [.var 2] [.asg 5 (.call "worths_of" [.var 0,.var 4,.idx (.var 1) (.cst (.int 1))]),
  .ite (.cmp .notin (.cst .non) (.var 5)) [.dapp 3 (.var 5) (.call "key_of" [.var 0,.var 4])] []],
  .asg 6 (.lst []),
  .vloop [7] 3 [.ite (.cmp .gt (.blt .len (.var 7)) (.cst (.int 1))) [.ext 6 (.var 7)] []],
  .ret (.var 6)]⟩
noncomputable def zaj:Fd:=⟨4,6,[.asg 4 (.call "rows_by_key" [.var 0,.var 1,.idx (.var 3) (.cst (.int 2))]),
  .asg 5 (.call "references_by" [.var 2,.var 3,.call "rows_of" [.var 0,.var 1,.idx (.var 2) (.cst (.int 0))]]),
  .ret (.comp (.idx (.var 0) (.cst (.int 1))) 3 .plain [.var 5] (some (.cmp .notin (.idx (.var 2) (.cst (.int 1))) (.var 7))))]⟩
noncomputable def zdo:Fd:=⟨4,11,[.asg 4 (.call "_law_rows" [.var 0,.var 1,.idx (.var 2) (.cst (.int 0))]),
  .ite (.cmp .eq (.idx (.var 3) (.cst (.int 0))) (.cst (.str "check"))) [.ret (.comp (.call "_law_key" [.var 3,.var 0]) 1 .plain [.var 4] (some (.cmp .eq (.call "_law_level" [.var 3,.idx (.var 4) (.cst (.int 1)),.var 0]) (.cst (.int 0)))))] [],
  .asg 6 (.comp (.call "_law_worths" [.var 3,.var 0,.idx (.var 4) (.cst (.int 1))]) 1 .plain [.var 4] none),
  .asg 7 (.lst []),
  .loop [5,8] .zip [.var 4,.var 6] [.asg 9 (.land (.cmp .notN (.var 8) (.cst .non)) (.cmp .gt (.mth .count (.var 6) (.var 8)) (.cst (.int 1)))),
  .ite (.land (.cmp .eq (.idx (.var 3) (.cst (.int 0))) (.cst (.str "refers"))) (.cmp .notN (.var 8) (.cst .non))) [.asg 10 (.call "_law_table" [.var 0,.idx (.var 3) (.cst (.int 2))]),
  .asg 9 (.cmp .notin (.var 8) (.comp (.call "_law_key" [.var 11,.var 0]) 1 .plain [.call "_law_rows" [.var 0,.var 1,.idx (.var 3) (.cst (.int 2))]] none))] [],
  .ite (.tru (.var 9)) [.app 7 (.call "_law_key" [.var 2,.var 5])] []],
  .ret (.var 7)]⟩
noncomputable def zh0:Fd:=⟨1,8,[.asg 1 (.call "_law_schema" [.call "_law_mixed" [.var 0,.cst (.int 0)]]),
  .asg 2 (.call "_law_loose" [.var 1,.call "_law_mixed" [.var 0,.cst (.int 1)]]),
  .asg 3 (.lst []),
  .loop [4] .plain [.var 1] [.loop [5,6] .enum [.idx (.var 4) (.cst (.int 3))] [.asg 3 (.bin .add (.var 3) (.comp (.tup [.idx (.var 5) (.cst (.int 0)),.var 6,.var 0]) 1 .plain [.call "_law_broken" [.var 1,.var 2,.var 4,.var 6]] none))]],
  .ite (.cmp .ne (.call "breaks" [.var 1,.var 2]) (.blt .toTuple (.blt .sorted (.var 3)))) [.ret (.cst (.bl false))] [],
  .asg 7 (.call "is_good" [.var 1,.var 2]),
  .ret (.land (.isi (.var 7) .tbool) (.cmp .eq (.var 7) (.cmp .eq (.var 3) (.lst []))))]⟩
abbrev Row:=List (Col × T)
noncomputable def wK (qa:List Str) (ps:Row):List Kt:=qa.map fun x=>kk (val ps x)
noncomputable def ybr (k:List Kt):Bool:=k.any fun x=>decide (x=.inr none)
noncomputable def kyT (b:Tb) (ps:Row):T:=tkT (ybe b ps)
noncomputable def woT (qa:List Str) (ps:Row):T:=if ybr (wK qa ps)=true then .non else tkT (wK qa ps)
theorem zmb (k:List Kt):inC .non (tkT k)=some (ybr k):=by
 have h1:dpI .non (k.map kT)=true:=by unfold dpI;rw [List.all_map];exact List.all_eq_true.mpr fun x _=>by rcases x with _ | _ | _<;>rfl
 have h2:((k.map kT).any fun z=>eqT z .non)=ybr k:=by rw [List.any_map,ybr];congr;funext x;exact zst x (.inr none)
 show (if dpI .non (k.map kT)=true then some ((k.map kT).any fun z=>eqT z .non) else none)=_;rw [if_pos h1,h2]
theorem zk9 (hb:b.ok) {ps:Row} (hp:RowOk b ps) (hc:∀ x∈qa,∃ c∈b.cs,c.n=x):∃ qs:Row,qs.map nmT=qa.map .str/\(∀ q∈qs,q∈ps)/\qs.length=qa.length/\T.tup (qs.map (·.2))=tkT (wK qa ps):=by
 have hnd:=hp.nd hb;obtain ⟨qs,q1,q0,q2,q3⟩:=zfr (ps:=ps) (ks:=qa) fun x hx=>by obtain ⟨c,hc,e⟩:=hc x hx;obtain ⟨p,hp',rfl⟩:=hp.col hc;exact ⟨p,hp',e⟩
 refine ⟨qs,q1,q2,q3,?_⟩;have ek:wK qa ps=qs.map fun q=>kk q.2:=by unfold wK;rw [<- q0,zy3];exact List.map_congr_left fun q hq=>by show kk (val ps q.1.n)=kk q.2;rw [zbz (q2 q hq) hnd]
 unfold tkT;rw [ek,zy3];exact zym T.tup (List.map_congr_left fun q hq=>((zvt (hp.wk q (q2 q hq))).2).symm)
theorem zkc (h:P.fn "worths_of"=some zal) (n:Nat) (hb:b.ok) {ps:Row} (hp:RowOk b ps) (hc:∀ x∈qa,∃ c∈b.cs,c.n=x) (h4:qa.length<=4):run P (n+1) "worths_of" [b.t,yaf ps,ya4 qa]=some (tkT (wK qa ps)):=by obtain ⟨qs,q1,q2,q3,q4⟩:=zk9 hb hp hc;rw [hp.tab,ya4,<- q1,<- q4];exact zde h n (hp.len hb) (hp.nd hb) _ _ _ q2 (by omega)
theorem t2 (b:Tb):yah b.t (.int 2)=some (ya4 b.key):=by rw [Tb.t,ybm,yah,ybj];rfl
theorem t3 (b:Tb):yah b.t (.int 3)=some (.tup (b.rs.map Rl.t)):=by rw [Tb.t,ybm,yah,yf1]
theorem ziu (hw:P.fn "worths_of"=some zal) (h:P.fn "key_of"=some zci) (n:Nat) (hb:b.ok) {ps:Row} (hp:RowOk b ps):run P (n+2) "key_of" [b.t,yaf ps]=some (kyT b ps):=by rw [zaf h rfl];have e:(glo P (run P (n+1))).call "worths_of" [b.t,yaf ps,ya4 b.key]=some (kyT b ps):=zkc hw n hb hp hb.inn (by have:=hb.k1;omega);show zaa (yab (glo P (run P (n+1))) [.ret (.call "worths_of" [.var 0,.var 1,.idx (.var 0) (.cst (.int 2))])] [.val b.t,.val (yaf ps)])=_;generalize glo P (run P (n+1))=G at *;rw [zav (t:=kyT b ps) rfl (by simp only [evE,yac,ygq,Sl.get,xmc,xmn,xgs,xgz,xjs,xbs,t2,e])];rfl
theorem zvq (hw:P.fn "worths_of"=some zal) (h:P.fn "key_referred_to"=some zao) (n:Nat) (hb:b.ok) {ps:Row} (hp:RowOk b ps) (hc:∀ x∈qa,∃ c∈b.cs,c.n=x) (h4:qa.length<=4) {r:T} (hr:yah r (.int 1)=some (ya4 qa)) :
  run P (n+2) "key_referred_to" [b.t,r,yaf ps]=some (woT qa ps):=by
 rw [zaf h rfl];have e:(glo P (run P (n+1))).call "worths_of" [b.t,yaf ps,ya4 qa]=some (tkT (wK qa ps)):=zkc hw n hb hp hc h4;show zaa (yab (glo P (run P (n+1))) zao.body [.val b.t,.val r,.val (yaf ps),.no])=_;generalize glo P (run P (n+1))=G at *;unfold zao;dsimp only;rw [zar (t:=tkT (wK qa ps)) (τ':=[.val b.t,.val r,.val (yaf ps),.val (tkT (wK qa ps))]) rfl (by simp only [evE,yac,ygq,Sl.get,xmc,xmn,xgs,xgz,xjs,xbs,hr,e]) rfl];have ec:evE G (.cmp .isin (.cst .non) (.var 3)) (ygq [.val b.t,.val r,.val (yaf ps),.val (tkT (wK qa ps))])=some (.bl (ybr (wK qa ps))):=by simp only [evE,ygq,Sl.get,xmc,xmn,xgs,xgz,xjs,xbs,yax,zmb,xms]
 unfold woT;cases hN:ybr (wK qa ps) with
 | true=>rw [hN] at ec;rw [zb2 rfl ec (zav (t:=.non) rfl (by rw [evE])),if_pos rfl];rfl
 | false=>rw [hN] at ec;rw [zay rfl ec,zav (t:=tkT (wK qa ps)) rfl (by simp only [evE,ygq,Sl.get,xmc,xmn,xgs,xgz,xjs]),if_neg (by simp)];rfl
theorem zwc {α β:Type} (c:α->Bool) (f:α->β):∀ l:List α,(l.filterMap fun a=>if c a=true then some (f a) else none)=(l.filter c).map f
 | []=>rfl
 | a::l=>by rw [zyy,List.filter_cons,zwc c f l];cases c a<;>rfl
theorem zfz {G:Glo} {elt cond:E} {src:List E} {r:Env} {n:Nat} {α:Type} {enc:α->T} {R:List α} (c:α->Bool) (f:α->T) {xs:List T} (h1:yac G src r=some xs) (h2:yae .plain xs=some (R.map enc))
  (hb:∀ a∈R,∃ r',bnd n (enc a) r=some r'/\evE G cond r'=some (.bl (c a))/\(c a=true->evE G elt r'=some (f a))):evE G (.comp elt n .plain src (some cond)) r=some (.lst ((R.filter c).map f)):=by
 rw [zft,h1,zx0,h2,zx0,za1 (enc:=enc) (fun a=>if c a=true then some (f a) else none) fun a ha=>by
  obtain ⟨r',e1,e2,e3⟩:=hb a ha;rw [e1,zx0,evO,e2,Option.map_some,zx0];cases hc:c a with
  | true=>rw [if_pos rfl];simp only [e3 hc,xms]
  | false=>rfl]
 rw [zwc];rfl
theorem zc6 (R:List Row) (h4:R.length<=4):yae .plain [.tup (R.map yaf)]=some (R.map yaf):=by
 have hz:R.length<=16777216:=by omega
 simp [yae,items,hz]
noncomputable def yb3 (b:Tb) (r:T) (g:Str) (qa:List Str) (ps:Row):T:=.tup [.tup [.str b.nm,kyT b ps],r,.tup [.str g,tkT (wK qa ps)]]
noncomputable def ful (qa:List Str) (R:List Row):List Row:=R.filter fun ps=>!ybr (wK qa ps)
noncomputable def rbB:List S:=[.asg 5 (.call "key_referred_to" [.var 0,.var 1,.var 4]),
  .ite (.cmp .notN (.var 5) (.cst .non)) [.app 3 (.tup [.tup [.idx (.var 0) (.cst (.int 0)),.call "key_of" [.var 0,.var 4]],.var 1,.tup [.idx (.var 1) (.cst (.int 2)),.var 5]])] []]
theorem zhk (qa:List Str) (ps:Row):yax .notN (woT qa ps) .non=some (.bl (!ybr (wK qa ps))):=by unfold woT;cases ybr (wK qa ps)<;>rfl
theorem zt5 (hw:P.fn "worths_of"=some zal) (hk:P.fn "key_of"=some zci) (hkr:P.fn "key_referred_to"=some zao) (h:P.fn "references_by"=some zbo) (n:Nat) (hb:b.ok) {R:List Row} (h4R:R.length<=4) (hR:∀ ps∈R,RowOk b ps) (hc:∀ x∈qa,∃ c∈b.cs,c.n=x) (h4:qa.length<=4) {r:T} {g:Str} (hr:yah r (.int 1)=some (ya4 qa)) (hr2:yah r (.int 2)=some (.str g)) :
  run P (n+3) "references_by" [b.t,r,.tup (R.map yaf)]=some (.lst ((ful qa R).map (yb3 b r g qa))):=by
 rw [zaf h rfl];have ek:∀ ps∈R,(glo P (run P (n+2))).call "key_of" [b.t,yaf ps]=some (kyT b ps):=fun ps hp=>ziu hw hk n hb (hR ps hp);have er:∀ ps∈R,(glo P (run P (n+2))).call "key_referred_to" [b.t,r,yaf ps]=some (woT qa ps):=fun ps hp=>zvq hw hkr n hb (hR ps hp) hc h4 hr;show zaa (yab (glo P (run P (n+2))) [.asg 3 (.lst []),.loop [4] .plain [.var 2] rbB,.ret (.var 3)] [.val b.t,.val r,.val (.tup (R.map yaf)),.no,.no,.no])=_;generalize glo P (run P (n+2))=G at *;rw [zar (t:=.lst []) (τ':=[.val b.t,.val r,.val (.tup (R.map yaf)),.own [],.no,.no]) rfl (by rw [evE];rfl) rfl];obtain ⟨τ',el,s4,s5,rfl⟩:=zas (enc:=yaf) (f:=fun x τ=>(yay [4] x τ).bind fun τ'=>yab G rbB τ')
  (fun done τ=>∃ s4 s5,τ=[.val b.t,.val r,.val (.tup (R.map yaf)),.own ((ful qa done).map (yb3 b r g qa)),s4,s5])
  R [.val b.t,.val r,.val (.tup (R.map yaf)),.own [],.no,.no] ⟨_,_,rfl⟩ (by
   rintro l1 ps l2 hsp τ ⟨s4,s5,rfl⟩;have hm:ps∈R:=by rw [hsp];simp
   refine ⟨[.val b.t,.val r,.val (.tup (R.map yaf)),.own ((ful qa (l1++[ps])).map (yb3 b r g qa)),.val (yaf ps),.val (woT qa ps)],?_,_,_,rfl⟩;simp only [yay,xbs,xss,xsz];unfold rbB;rw [zar (t:=woT qa ps) (τ':=[.val b.t,.val r,.val (.tup (R.map yaf)),.own ((ful qa l1).map (yb3 b r g qa)),.val (yaf ps),.val (woT qa ps)]) rfl (by simp only [evE,yac,ygq,Sl.get,xmc,xmn,xgs,xgz,xjs,xbs,er ps hm]) rfl];have ec:evE G (.cmp .notN (.var 5) (.cst .non)) (ygq [.val b.t,.val r,.val (.tup (R.map yaf)),.own ((ful qa l1).map (yb3 b r g qa)),.val (yaf ps),.val (woT qa ps)])=some (.bl (!ybr (wK qa ps))):=by simp only [evE,ygq,Sl.get,xmc,xmn,xgs,xgz,xjs,xbs,zhk]
   have ef:ful qa (l1++[ps])=ful qa l1++if ybr (wK qa ps)=true then [] else [ps]:=by unfold ful;rw [List.filter_append,List.filter_cons];cases ybr (wK qa ps)<;>rfl
   rw [ef];cases hN:ybr (wK qa ps) with
   | true =>rw [hN] at ec;rw [zay rfl ec,yab,if_pos rfl,zyh]
   | false =>
    rw [hN] at ec;have hl:((ful qa l1).map (yb3 b r g qa)).length<SZ:=by have h1:=zym List.length hsp;have h2:(ful qa l1).length<=l1.length:=List.length_filter_le _ _;simp at h1;rw [zya];show _<16777216;omega
    have ew:woT qa ps=tkT (wK qa ps):=by unfold woT;rw [hN];rfl
    rw [if_neg (by simp),List.map_append];rw [zht (τ':=[.val b.t,.val r,.val (.tup (R.map yaf)),.own ((ful qa l1).map (yb3 b r g qa)++[yb3 b r g qa ps]),.val (yaf ps),.val (woT qa ps)]) rfl ec (by
     rw [zaw (τ':=[.val b.t,.val r,.val (.tup (R.map yaf)),.own ((ful qa l1).map (yb3 b r g qa)++[yb3 b r g qa ps]),.val (yaf ps),.val (woT qa ps)]) (by
      rw [evS];have e1:evE G (.tup [.tup [.idx (.var 0) (.cst (.int 0)),.call "key_of" [.var 0,.var 4]],.var 1,.tup [.idx (.var 1) (.cst (.int 2)),.var 5]]) (ygq [.val b.t,.val r,.val (.tup (R.map yaf)),.own ((ful qa l1).map (yb3 b r g qa)),.val (yaf ps),.val (woT qa ps)])=some (yb3 b r g qa ps):=by simp only [evE,yac,ygq,Sl.get,xmc,xmn,xgs,xgz,xjs,xbs,t0,hr2,ek ps hm,List.length_cons,List.length_nil,Nat.zero_add,Nat.reduceAdd,Nat.reduceLeDiff,if_true,xms,ew,yb3]
      rw [show yad (yaj (.tup [.tup [.idx (.var 0) (.cst (.int 0)),.call "key_of" [.var 0,.var 4]],.var 1,.tup [.idx (.var 1) (.cst (.int 2)),.var 5]])) [.val b.t,.val r,.val (.tup (R.map yaf)),.own ((ful qa l1).map (yb3 b r g qa)),.val (yaf ps),.val (woT qa ps)]=[.val b.t,.val r,.val (.tup (R.map yaf)),.own ((ful qa l1).map (yb3 b r g qa)),.val (yaf ps),.val (woT qa ps)] from rfl,e1,zx0];show (if ((ful qa l1).map (yb3 b r g qa)).length<SZ then _ else none)=_;rw [if_pos hl];rfl),yab]),yab]
    rfl)
 rw [zaw (zbp (xs:=[.tup (R.map yaf)]) (qc:=R.map yaf) (τ0:=[.val b.t,.val r,.val (.tup (R.map yaf)),.own [],.no,.no]) rfl (by simp only [evE,yac,ygq,Sl.get,xmc,xmn,xgs,xgz,xjs,xbs]) rfl el)];rw [zfe (t:=.lst ((ful qa R).map (yb3 b r g qa))) (by rw [evS,show yad (yaj (.var 3)) [.val b.t,.val r,.val (.tup (R.map yaf)),.own ((ful qa R).map (yb3 b r g qa)),s4,s5]=[.val b.t,.val r,.val (.tup (R.map yaf)),.val (.lst ((ful qa R).map (yb3 b r g qa))),s4,s5] from rfl];simp only [evE,ygq,Sl.get,xmc,xmn,xgs,xgz,xjs,xms])];rfl
theorem zrp {qb:List (List Kt × T)} {k q:List Kt} {v:T}:((yby qb k v).any fun p=>decide (p.1=q))=((qb.any fun p=>decide (p.1=q))||decide (k=q)):=by
 unfold yby;split
 ·rename_i h;have e:((qb.map fun kv=>if kv.1=k then (kv.1,v) else kv).any fun p=>decide (p.1=q))=qb.any fun p=>decide (p.1=q):=by rw [List.any_map];congr;funext p;show decide ((if p.1=k then (p.1,v) else p).1=q)=_;split<;>rfl
  rw [e];by_cases z:k=q
  ·subst z;rw [h];rfl
  ·simp [z]
 ·rw [List.any_append,List.any_cons,List.any_nil,Bool.or_false]
theorem zjc (q:List Kt):∀ (l acc:List (List Kt × T)),((l.foldl (fun acc p=>yby acc p.1 p.2) acc).any fun p=>decide (p.1=q))=((acc.any fun p=>decide (p.1=q))||l.any fun p=>decide (p.1=q))
 | [],acc=>by simp
 | p::l,acc=>by rw [List.foldl_cons,zjc q l,zrp,List.any_cons,Bool.or_assoc]
theorem zey (b:Tb):∀ R:List Row,ybv (R.map fun ps=>.tup [kyT b ps,yaf ps])=some (R.map fun ps=>(ybe b ps,yaf ps))
 | []=>rfl
 | ps::R=>by rw [zx4,ybv,zey b R];show ((yb8 ((ybe b ps).map kT)).map fun k=>(k,yaf ps)).bind _=_;rw [zct];rfl
noncomputable def yem (b:Tb) (R:List Row):T:=.dt ((yb2 (R.map fun ps=>(ybe b ps,yaf ps))).map (·.1)) ((yb2 (R.map fun ps=>(ybe b ps,yaf ps))).map (·.2))
noncomputable def gks (b:Tb) (R:List Row) (k:List Kt):Bool:=R.any fun ps=>decide (ybe b ps=k)
theorem zsx (b:Tb) (R:List Row) (k:List Kt):inC (tkT k) (yem b R)=some (gks b R k):=by show (yb8 (k.map kT)).map _=_;rw [zct];show some _=some _;congr 1;dsimp only;rw [List.any_map];have:=zjc k (R.map fun ps=>(ybe b ps,yaf ps)) [];rw [List.any_nil,Bool.false_or,List.any_map] at this;exact this
theorem zwt (hw:P.fn "worths_of"=some zal) (hk:P.fn "key_of"=some zci) (htb:P.fn "table_of"=some zb8) (hro:P.fn "rows_of"=some zcn) (h:P.fn "rows_by_key"=some zbb) (n:Nat) {Z:List Zt} {z:Zt} (hz:z∈Z) (nd:(Z.map (·.1.nm)).Nodup) (hb:z.1.ok) (h4:z.2.length<=4) (hR:∀ ps∈z.2,RowOk z.1 ps) :
  run P (n+3) "rows_by_key" [yak Z,stT Z,.str z.1.nm]=some (yem z.1 z.2):=by
 rw [zaf h rfl];have e1:(glo P (run P (n+2))).call "table_of" [yak Z,.str z.1.nm]=some z.1.t:=zkl htb (n+1) hz nd;have e2:(glo P (run P (n+2))).call "rows_of" [yak Z,stT Z,.str z.1.nm]=some (rwT z):=zff hro (n+1) hz nd;have e3:∀ ps∈z.2,(glo P (run P (n+2))).call "key_of" [z.1.t,yaf ps]=some (kyT z.1 ps):=fun ps hp=>ziu hw hk n hb (hR ps hp);show zaa (yab (glo P (run P (n+2))) zbb.body [.val (yak Z),.val (stT Z),.val (.str z.1.nm),.no])=_;generalize glo P (run P (n+2))=G at *;unfold zbb;dsimp only;rw [zar (t:=z.1.t) (τ':=[.val (yak Z),.val (stT Z),.val (.str z.1.nm),.val z.1.t]) rfl (by simp only [evE,yac,ygq,Sl.get,xmc,xmn,xgs,xgz,xjs,xbs,e1]) rfl];rw [zav (t:=yem z.1 z.2) rfl (by
  rw [zbq,za0];have s1:yac G [.call "rows_of" [.var 0,.var 1,.var 2]] (ygq [.val (yak Z),.val (stT Z),.val (.str z.1.nm),.val z.1.t])=some [.tup (z.2.map yaf)]:=by simp only [evE,yac,ygq,Sl.get,xmc,xmn,xgs,xgz,xjs,xbs,e2];rfl
  rw [s1,zx0,zc6 z.2 h4,zx0,zax (fun ps=>.tup [kyT z.1 ps,yaf ps]) fun ps hp=>by simp only [bnd,if_true,xbs,evE,yac,ygq,Sl.get,xmc,xmn,xgs,xgz,xjs,e3 ps hp,List.length_cons,List.length_nil,Nat.zero_add,Nat.reduceAdd,Nat.reduceLeDiff,xms]];show (ybv _).bind _=_;rw [zey,zx0,if_pos (by rw [zya];omega)];rfl)]
 rfl
noncomputable def yer (g:Zt) (qa:List Str) (R:List Row):List Row:=R.filter fun ps=>!ybr (wK qa ps)&&!gks g.1 g.2 (wK qa ps)
theorem zvs (hw:P.fn "worths_of"=some zal) (hk:P.fn "key_of"=some zci) (hkr:P.fn "key_referred_to"=some zao) (htb:P.fn "table_of"=some zb8) (hro:P.fn "rows_of"=some zcn) (hbk:P.fn "rows_by_key"=some zbb) (hrb:P.fn "references_by"=some zbo) (h:P.fn "keys_referring_to_none"=some zaj) (n:Nat)
  {Z:List Zt} (nd:(Z.map (·.1.nm)).Nodup) (hZ:∀ z∈Z,z.1.ok/\z.2.length<=4/\∀ ps∈z.2,RowOk z.1 ps) {z g:Zt} (hz:z∈Z) (hg:g∈Z) {qa:List Str} (hc:∀ x∈qa,∃ c∈z.1.cs,c.n=x) (h4:qa.length<=4) {w:Str} :
  run P (n+4) "keys_referring_to_none" [yak Z,stT Z,z.1.t,(Rl.ref qa g.1.nm w).t]=some (.lst ((yer g qa z.2).map (kyT z.1))):=by
 rw [zaf h rfl];obtain ⟨hb,hl,hR⟩:=hZ z hz;obtain ⟨hgb,hgl,hgR⟩:=hZ g hg;have i1:yah (Rl.ref qa g.1.nm w).t (.int 1)=some (ya4 qa):=by rw [Rl.t,yah,yav]
 have i2:yah (Rl.ref qa g.1.nm w).t (.int 2)=some (.str g.1.nm):=by rw [Rl.t,yah,ybj]
 have e1:(glo P (run P (n+3))).call "rows_by_key" [yak Z,stT Z,.str g.1.nm]=some (yem g.1 g.2):=zwt hw hk htb hro hbk n hg nd hgb hgl hgR;have e2:(glo P (run P (n+3))).call "rows_of" [yak Z,stT Z,.str z.1.nm]=some (rwT z):=zff hro (n+2) hz nd;have e3:(glo P (run P (n+3))).call "references_by" [z.1.t,(Rl.ref qa g.1.nm w).t,rwT z]=some (.lst ((ful qa z.2).map (yb3 z.1 (Rl.ref qa g.1.nm w).t g.1.nm qa))):=zt5 hw hk hkr hrb n hb hl hR hc h4 i1 i2;show zaa (yab (glo P (run P (n+3))) zaj.body [.val (yak Z),.val (stT Z),.val z.1.t,.val (Rl.ref qa g.1.nm w).t,.no,.no])=_;generalize glo P (run P (n+3))=G at *;generalize (Rl.ref qa g.1.nm w).t=r at *;unfold zaj;dsimp only;rw [zar (t:=yem g.1 g.2) (τ':=[.val (yak Z),.val (stT Z),.val z.1.t,.val r,.val (yem g.1 g.2),.no]) rfl (by simp only [evE,yac,ygq,Sl.get,xmc,xmn,xgs,xgz,xjs,xbs,i2,e1]) rfl];rw [zar (t:=.lst ((ful qa z.2).map (yb3 z.1 r g.1.nm qa))) (τ':=[.val (yak Z),.val (stT Z),.val z.1.t,.val r,.val (yem g.1 g.2),.val (.lst ((ful qa z.2).map (yb3 z.1 r g.1.nm qa)))]) rfl (by simp only [evE,yac,ygq,Sl.get,xmc,xmn,xgs,xgz,xjs,xbs,t0,e2,e3]) rfl];have hfl:(ful qa z.2).length<=4:=zyr (List.length_filter_le _ _) hl;have ee:(ful qa z.2).filter (fun ps=>!gks g.1 g.2 (wK qa ps))=yer g qa z.2:=by unfold ful yer;rw [List.filter_filter];refine List.filter_congr fun ps _=>Bool.and_comm _ _
 rw [zav (t:=.lst ((yer g qa z.2).map (kyT z.1))) rfl (by
  rw [<- ee];refine zfz (enc:=yb3 z.1 r g.1.nm qa) (fun ps=>!gks g.1 g.2 (wK qa ps)) (kyT z.1) (xs:=[.lst ((ful qa z.2).map (yb3 z.1 r g.1.nm qa))]) (by simp only [evE,yac,ygq,Sl.get,xmc,xmn,xgs,xgz,xjs,xbs]) (by
   have hz:(ful qa z.2).length<=16777216:=by omega
   simp [yae,items,hz]) fun ps _=>?_
  refine ⟨some (.tup [.str z.1.nm,kyT z.1 ps])::some r::some (.tup [.str g.1.nm,tkT (wK qa ps)])::ygq [.val (yak Z),.val (stT Z),.val z.1.t,.val r,.val (yem g.1 g.2),.val (.lst ((ful qa z.2).map (yb3 z.1 r g.1.nm qa)))],rfl,?_,fun _=>?_⟩
  ·simp only [evE,ygq,Sl.get,xmc,xmn,xgs,xgz,xjs,xbs,yah,yav,yax,zsx,xms]
  ·simp only [evE,xgz,xjs,xbs,yah,yav])]
 rfl
end
section
variable {qb:List (List Kt × List T)} {τ:List Sl} {i:Nat} {qa:List Str}
noncomputable def slL:List (List Kt × List T)->Sl
 | []=>.dk []
 | p::r=>.dl (p::r)
theorem ztt (h:qb≠[]):slL qb=.dl qb:=by cases qb with | nil=>exact absurd rfl h | cons _ _=>rfl
theorem zxy (qb:List (List Kt × List T)) (q:List Kt) (y:T):apP (sdP qb q) q y≠[]:=by
 unfold apP sdP;intro e;have e:=List.map_eq_nil_iff.mp e;split at e
 ·rename_i h;rw [e] at h;cases h
 ·simp at e
theorem zw4 {q:List Kt} (h3:τ[i]?=some (slL qb)) (hd:qb=[]->τ.any Sl.isDl=false) (hz:qb.length<SZ):sdS τ i q=some (sdP qb q):=by
 unfold sdS;rw [h3];cases qb with
 | nil =>show (if (true&&!τ.any Sl.isDl)=true then some [(q,([]:List T))] else none)=_;rw [hd rfl];rfl
 | cons p r =>show (if (p::r).length<SZ then some (sdP (p::r) q) else none)=_;rw [if_pos hz]
theorem zmw {G:Glo} {ke ve:E} {q:List Kt} {y:T} (hf:yad (yaj ke++yaj ve) τ=τ) (h1:evE G ke (ygq τ)=some (tkT q)) (h2:evE G ve (ygq τ)=some y) (h3:τ[i]?=some (slL qb)) (hd:qb=[]->τ.any Sl.isDl=false) (hz:qb.length<SZ) (h4:∀ p∈qb,p.2.length<SZ) :
  evS G (.dapp i ke ve) τ=some (.nx (τ.set i (slL (apP (sdP qb q) q y)))):=by
 have hk:tkO (tkT q)=some q:=zct q;have ha:((sdP qb q).all fun p=>decide (p.2.length<SZ))=true:=by
  rw [List.all_eq_true];intro p hp;refine zyo ?_;unfold sdP at hp;split at hp
  ·exact h4 p hp
  ·rcases oma hp with hp | hp
   ·exact h4 p hp
   ·rw [omg hp];exact Nat.zero_lt_succ _
 rw [evS,hf,h1,zx0,hk,zx0,zw4 h3 hd hz,zx0,h2,zx0,if_pos ha,ztt (zxy qb q y)]
theorem zqt {G:Glo} {is:List Nat} {body:List S} (h3:τ[i]?=some (slL qb)) (hd:qb=[]->τ.any Sl.isDl=false) :
  evS G (.vloop is i body) τ=yan (fun x τ=>(yay is x τ).bind fun τ'=>yab G body τ') (qb.map fun p=>T.lst p.2) (τ.set i .no):=by
 rw [evS,h3];cases qb with
 | nil =>show (if (true&&!τ.any Sl.isDl)=true then some (Out.nx (τ.set i .no)) else none)=_;rw [hd rfl];rfl
 | cons p r=>rfl
noncomputable def kaB:List S:=[.asg 5 (.call "worths_of" [.var 0,.var 4,.idx (.var 1) (.cst (.int 1))]),
  .ite (.cmp .notin (.cst .non) (.var 5)) [.dapp 3 (.var 5) (.call "key_of" [.var 0,.var 4])] []]
noncomputable def kaV:List S:=[.ite (.cmp .gt (.blt .len (.var 7)) (.cst (.int 1))) [.ext 6 (.var 7)] []]
noncomputable def lng (p:List Kt × List T):List T:=if 1<p.2.length then p.2 else []
theorem zsl (h:∀ p∈qb,p.2.length<=4):(qb.flatMap lng).length<=4*qb.length:=by
 induction qb with
 | nil=>simp
 | cons p r ih =>
  rw [List.flatMap_cons,zyj,zyq];have h1:=ih fun q hq=>h q (zx8 _ hq);have h2:(lng p).length<=4:=by
   have:=h p zyc;unfold lng;split
   ·exact this
   ·simp
  omega
theorem zmg {R:List Row} (h4:R.length<=4) (qa:List Str) (key:Row->T) (D:List (List Kt)):∀ p∈grp (wK qa) key R D,p.2.length<=4:=fun p hp=>by obtain ⟨q,_,rfl⟩:=omm hp;show ((cls (wK qa) R q).map key).length<=4;rw [zya];exact zyr (List.length_filter_le _ _) h4
theorem zpb (qa:List Str) (l1:List Row) (ps:Row):ful qa (l1++[ps])=ful qa l1++if ybr (wK qa ps)=true then [] else [ps]:=by unfold ful;rw [List.filter_append,List.filter_cons];cases ybr (wK qa ps)<;>rfl
theorem zmo {R:List Row}:(ful qa R).length<=R.length:=List.length_filter_le _ _
theorem zv1 {P:Pr} (hw:P.fn "worths_of"=some zal) (hk:P.fn "key_of"=some zci) (h:P.fn "keys_alike"=some zco) (n:Nat) {b:Tb} (hb:b.ok) {R:List Row} (h4R:R.length<=4) (hR:∀ ps∈R,RowOk b ps) (hc:∀ x∈qa,∃ c∈b.cs,c.n=x) (h4:qa.length<=4) {r:T} (hr:yah r (.int 1)=some (ya4 qa)) :
  ∃ L:List Row,L.Perm (two (wK qa) (ful qa R))/\run P (n+3) "keys_alike" [b.t,r,.tup (R.map yaf)]=some (.lst (L.map (kyT b))):=by
 have ek:∀ ps∈R,(glo P (run P (n+2))).call "key_of" [b.t,yaf ps]=some (kyT b ps):=fun ps hp=>ziu hw hk n hb (hR ps hp);have er:∀ ps∈R,(glo P (run P (n+2))).call "worths_of" [b.t,yaf ps,ya4 qa]=some (tkT (wK qa ps)):=fun ps hp=>zkc hw (n+1) hb (hR ps hp) hc h4;rw [zaf h rfl];show ∃ L:List Row,_/\zaa (yab (glo P (run P (n+2))) [.dnew 3,.loop [4] .plain [.var 2] kaB,.asg 6 (.lst []),.vloop [7] 3 kaV,.ret (.var 6)] [.val b.t,.val r,.val (.tup (R.map yaf)),.no,.no,.no,.no,.no])=_;generalize glo P (run P (n+2))=G at *;obtain ⟨τ',el,D,s4,s5,rfl,nd,cov,hDl,n4,n5⟩:=zas (enc:=yaf) (f:=fun x τ=>(yay [4] x τ).bind fun τ'=>yab G kaB τ')
  (fun done τ=>∃ D s4 s5,τ=[.val b.t,.val r,.val (.tup (R.map yaf)),slL (grp (wK qa) (kyT b) (ful qa done) D),s4,s5,.no,.no]/\D.Nodup/\(∀ x∈ful qa done,wK qa x∈D)/\D.length<=done.length/\s4.isDl=false/\s5.isDl=false)
  R [.val b.t,.val r,.val (.tup (R.map yaf)),.dk [],.no,.no,.no,.no] ⟨[],.no,.no,rfl,List.nodup_nil,(fun x hx=>by cases hx),zye _,rfl,rfl⟩ (by
   rintro l1 ps l2 hsp τ ⟨D,s4,s5,rfl,nd,cov,hDl,n4,n5⟩;have hm:ps∈R:=by rw [hsp];simp
   have hl1:l1.length<=4:=by have h1:=zym List.length hsp;simp at h1;omega
   have hfl:(ful qa l1).length<=4:=zyr zmo hl1;generalize hK:grp (wK qa) (kyT b) (ful qa l1) D=qb;have hkl:qb.length<=4:=by rw [<- hK];unfold grp;rw [zya];omega
   simp only [yay,xbs,xss,xsz];unfold kaB;have s1:∀ ss,yab G (.asg 5 (.call "worths_of" [.var 0,.var 4,.idx (.var 1) (.cst (.int 1))])::ss) [.val b.t,.val r,.val (.tup (R.map yaf)),slL qb,.val (yaf ps),s5,.no,.no]=yab G ss [.val b.t,.val r,.val (.tup (R.map yaf)),slL qb,.val (yaf ps),.val (tkT (wK qa ps)),.no,.no]:=fun ss =>zar (t:=tkT (wK qa ps)) rfl (by simp only [evE,yac,ygq,Sl.get,xmc,xmn,xgs,xgz,xjs,xbs,hr,er ps hm]) rfl;rw [s1,zpb];have ec:evE G (.cmp .notin (.cst .non) (.var 5)) (ygq [.val b.t,.val r,.val (.tup (R.map yaf)),slL qb,.val (yaf ps),.val (tkT (wK qa ps)),.no,.no])=some (.bl (!ybr (wK qa ps))):=by simp only [evE,ygq,Sl.get,xmc,xmn,xgs,xgz,xjs,xbs,yax,zmb,xms]
   cases hN:ybr (wK qa ps) with
   | true =>
    rw [hN] at ec;refine ⟨_,(zay rfl ec).trans (by rw [yab]),D,.val (yaf ps),.val (tkT (wK qa ps)),?_,nd,?_,?_,rfl,rfl⟩
    ·rw [if_pos rfl,zyh,hK]
    ·rw [if_pos rfl,zyh];exact cov
    ·rw [zyj];omega
   | false =>
    rw [hN] at ec;obtain ⟨D',nd',cov',hD',eg⟩:=zo6 (wK qa) (kyT b) nd cov ps;rw [hK] at eg;have e4:=zmw (G:=G) (i:=3) (ke:=.var 5) (ve:=.call "key_of" [.var 0,.var 4]) (q:=wK qa ps) (y:=kyT b ps) (qb:=qb) (τ:=[.val b.t,.val r,.val (.tup (R.map yaf)),slL qb,.val (yaf ps),.val (tkT (wK qa ps)),.no,.no]) rfl
     (by simp only [evE,ygq,Sl.get,xmc,xmn,xgs,xgz,xjs]) (by simp only [evE,yac,ygq,Sl.get,xmc,xmn,xgs,xgz,xjs,xbs,ek ps hm]) rfl (fun z=>by rw [z];rfl) (by show _<16777216;omega) (fun p hp=>by have:=zmg hfl qa (kyT b) D p (by rw [hK];exact hp);show _<16777216;omega)
    rw [eg] at e4;refine ⟨_,(zht rfl ec (by rw [zaw e4,yab])).trans (by rw [yab]),D',.val (yaf ps),.val (tkT (wK qa ps)),?_,nd',?_,?_,rfl,rfl⟩
    ·rw [if_neg (by simp)];rfl
    ·rw [if_neg (by simp)];exact cov'
    ·rw [zyj,List.length_singleton];omega)
 have hfl:(ful qa R).length<=4:=zyr zmo h4R;have hgl:=zmg hfl qa (kyT b) D;have hkl:(grp (wK qa) (kyT b) (ful qa R) D).length<=4:=by unfold grp;rw [zya];omega
 refine ⟨_,zns (wK qa) nd cov,?_⟩;rw [<- zo7];generalize hK:grp (wK qa) (kyT b) (ful qa R) D=qb at *;rw [zaw (s:=.dnew 3) (τ':=[.val b.t,.val r,.val (.tup (R.map yaf)),.dk [],.no,.no,.no,.no]) (by rw [evS];rfl)];rw [zaw (zbp (xs:=[.tup (R.map yaf)]) (qc:=R.map yaf) (τ0:=[.val b.t,.val r,.val (.tup (R.map yaf)),.dk [],.no,.no,.no,.no]) rfl (by simp only [evE,yac,ygq,Sl.get,xmc,xmn,xgs,xgz,xjs,xbs]) rfl el)];rw [zar (t:=.lst []) (τ':=[.val b.t,.val r,.val (.tup (R.map yaf)),slL qb,s4,s5,.own [],.no]) rfl (by rw [evE];rfl) rfl];obtain ⟨τ2,el2,s7,rfl⟩:=zas (enc:=fun p:List Kt × List T=>T.lst p.2) (f:=fun x τ=>(yay [7] x τ).bind fun τ'=>yab G kaV τ')
  (fun done τ=>∃ s7,τ=[.val b.t,.val r,.val (.tup (R.map yaf)),.no,s4,s5,.own (done.flatMap lng),s7])
  qb [.val b.t,.val r,.val (.tup (R.map yaf)),.no,s4,s5,.own [],.no] ⟨_,rfl⟩ (by
   rintro l1 p l2 hsp τ ⟨s7,rfl⟩;have hp4:=hgl p (by rw [hsp];simp);have hl1:l1.length<=4:=by have h1:=zym List.length hsp;simp at h1;omega
   have hll:=zsl (qb:=l1) fun q hq=>hgl q (by rw [hsp];simp [hq]);refine ⟨[.val b.t,.val r,.val (.tup (R.map yaf)),.no,s4,s5,.own ((l1++[p]).flatMap lng),.val (.lst p.2)],?_,_,rfl⟩;simp only [yay,xbs,xss,xsz];have ea:(l1++[p]).flatMap lng=l1.flatMap lng++lng p:=by rw [List.flatMap_append,List.flatMap_cons,List.flatMap_nil,zyh]
   rw [ea];unfold kaV;have ec:evE G (.cmp .gt (.blt .len (.var 7)) (.cst (.int 1))) (ygq [.val b.t,.val r,.val (.tup (R.map yaf)),.no,s4,s5,.own (l1.flatMap lng),.val (.lst p.2)])=some (.bl (decide ((1:Int)<(p.2.length:Int)))):=by simp only [evE,ygq,Sl.get,xmc,xmn,xgs,xgz,xjs,xbs,yaz,yax]
   by_cases hq:1<p.2.length
   ·rw [zyo (by omega)] at ec;have hln:lng p=p.2:=by unfold lng;rw [if_pos hq]
    rw [hln];refine (zht (τ':=[.val b.t,.val r,.val (.tup (R.map yaf)),.no,s4,s5,.own (l1.flatMap lng++p.2),.val (.lst p.2)]) rfl ec ?_).trans (by rw [yab]);rw [zaw (τ':=[.val b.t,.val r,.val (.tup (R.map yaf)),.no,s4,s5,.own (l1.flatMap lng++p.2),.val (.lst p.2)]) (by
     rw [evS,show yad (yaj (.var 7)) [.val b.t,.val r,.val (.tup (R.map yaf)),.no,s4,s5,.own (l1.flatMap lng),.val (.lst p.2)]=[.val b.t,.val r,.val (.tup (R.map yaf)),.no,s4,s5,.own (l1.flatMap lng),.val (.lst p.2)] from rfl];have e7:evE G (.var 7) (ygq [.val b.t,.val r,.val (.tup (R.map yaf)),.no,s4,s5,.own (l1.flatMap lng),.val (.lst p.2)])=some (.lst p.2):=by simp only [evE,ygq,Sl.get,xmc,xmn,xgs,xgz,xjs]
     rw [e7,zx0];show (if (l1.flatMap lng).length+p.2.length<=16777216 then _ else none)=_;rw [if_pos (by omega)];rfl),yab]
   ·rw [zys (by omega)] at ec;have hln:lng p=[]:=by unfold lng;rw [if_neg hq]
    rw [hln,zyh];exact (zay rfl ec).trans (by rw [yab]))
 rw [zaw ((zqt (qb:=qb) rfl fun z=>by subst z;show (false||(false||(false||(false||(s4.isDl||(s5.isDl||(false||(false||false))))))))=false;rw [n4,n5];rfl).trans el2)];rw [zfe (t:=.lst (qb.flatMap lng)) (by rw [evS,show yad (yaj (.var 6)) [.val b.t,.val r,.val (.tup (R.map yaf)),.no,s4,s5,.own (qb.flatMap lng),s7]=[.val b.t,.val r,.val (.tup (R.map yaf)),.no,s4,s5,.val (.lst (qb.flatMap lng)),s7] from rfl];simp only [evE,ygq,Sl.get,xmc,xmn,xgs,xgz,xjs,xms])];rfl
theorem rw1:(("check":Str)=="check")=true/\(("unlike":Str)=="check")=false/\(("refers":Str)=="check")=false/\(("unlike":Str)=="unlike")=true/\(("refers":Str)=="unlike")=false/\(("unlike":Str)=="refers")=false/\(("refers":Str)=="refers")=true:=by decide +kernel
theorem yf5 (a:Option Bool):yax .notF (ybl a) (.bl false)=some (.bl (!decide (a=some false))):=by rcases a with _ | _ | _<;>rfl
noncomputable def yge (t:Tst) (R:List Row):List Row:=R.filter fun ps=>decide (hv ps t=some false)
theorem zvr {P:Pr} (hh:P.fn "holds"=some zbj) (hwo:P.fn "worths_of"=some zal) (hcm:P.fn "compared"=some za3) (hop:P.fn "opposite"=some zbs) (hj:P.fn "joined"=some zc9) (h:P.fn "is_kept"=some zek) (n:Nat) {b:Tb} (hb:b.ok) {ps:Row} (hp:RowOk b ps) {t:Tst} (hto:t.fit 3) (hti:t.inn b.cs) :
  run P (n+5) "is_kept" [b.t,yaf ps,(Rl.chk t).t]=some (.bl (!decide (hv ps t=some false))):=by
 rw [zaf h rfl];have eh:=zmd hh hwo hcm hop hj (hp.len hb) (hp.nd hb) hp.wk (.str b.nm) (.tup (b.key.map .str)) (.tup (b.rs.map Rl.t)) 3 n t hto (by rw [hp.cs];exact hti);rw [<- hp.tab] at eh;have eh':(glo P (run P (n+4))).call "holds" [b.t,t.t,yaf ps]=some (ybl (hv ps t)):=eh;have i1:yah (Rl.chk t).t (.int 1)=some t.t:=by rw [Rl.t,yah,yav]
 show zaa (yab (glo P (run P (n+4))) [.ret (.cmp .notF (.call "holds" [.var 0,.idx (.var 2) (.cst (.int 1)),.var 1]) (.cst (.bl false)))] [.val b.t,.val (yaf ps),.val (Rl.chk t).t])=_;generalize glo P (run P (n+4))=G at *;rw [zav (t:=.bl (!decide (hv ps t=some false))) rfl (by simp only [evE,yac,ygq,Sl.get,xmc,xmn,xgs,xgz,xjs,xbs,i1,eh',yf5])];rfl
structure Prg (P:Pr):Prop where
 hh:P.fn "holds"=some zbj
 hwo:P.fn "worths_of"=some zal
 hcm:P.fn "compared"=some za3
 hop:P.fn "opposite"=some zbs
 hj:P.fn "joined"=some zc9
 htb:P.fn "table_of"=some zb8
 hro:P.fn "rows_of"=some zcn
 hk:P.fn "key_of"=some zci
 hkp:P.fn "is_kept"=some zek
 hkr:P.fn "key_referred_to"=some zao
 hbk:P.fn "rows_by_key"=some zbb
 hrb:P.fn "references_by"=some zbo
 hkn:P.fn "keys_referring_to_none"=some zaj
 hka:P.fn "keys_alike"=some zco
 hkb:P.fn "keys_that_break"=some zbe
structure Sto (Z:List Zt):Prop where
 l4:Z.length<=4
 nd:(Z.map (·.1.nm)).Nodup
 ok:∀ z∈Z,z.1.ok/\z.2.length<=4/\∀ ps∈z.2,RowOk z.1 ps
 fit:∀ z∈Z,∀ r∈z.1.rs,r.fits (Z.map (·.1.nm)) z.1.cs
 pw:∀ z∈Z,(z.2.map (ybe z.1)).Pairwise (fun x y=>ya8 x y=true)
inductive Brk (Z:List Zt) (z:Zt):Rl->List Row->Prop where
 | chk (t:Tst):Brk Z z (.chk t) (yge t z.2)
 | unl (qa:List Str):Brk Z z (.unl qa) (two (wK qa) (ful qa z.2))
 | ref (qa:List Str) (g:Zt) (w:Str) (hg:g∈Z):Brk Z z (.ref qa g.1.nm w) (yer g qa z.2)
theorem zvz {P:Pr} (p:Prg P) (n:Nat) {Z:List Zt} (H:Sto Z) {z:Zt} (hz:z∈Z) {r:Rl} (hr:r∈z.1.rs) {B:List Row} (hB:Brk Z z r B) :
  ∃ L:List Row,L.Perm B/\run P (n+6) "keys_that_break" [yak Z,stT Z,z.1.t,r.t]=some (.lst (L.map (kyT z.1))):=by
 obtain ⟨hb,h4,hR⟩:=H.ok z hz;have hok:=hb.rs r hr;have hfit:=H.fit z hz r hr;have e1:(glo P (run P (n+5))).call "rows_of" [yak Z,stT Z,.str z.1.nm]=some (rwT z):=zff p.hro (n+4) hz H.nd;have body:∀ (i0:Str) (u:T),yah r.t (.int 0)=some (.str i0)->yab (glo P (run P (n+5))) (zbe.body.drop 1) [.val (yak Z),.val (stT Z),.val z.1.t,.val r.t,.val (rwT z)]=some (.rt u)->run P (n+6) "keys_that_break" [yak Z,stT Z,z.1.t,r.t]=some u:=fun i0 u hi hu=>by rw [zaf p.hkb rfl];show zaa (yab (glo P (run P (n+5))) (.asg 4 (.call "rows_of" [.var 0,.var 1,.idx (.var 2) (.cst (.int 0))])::zbe.body.drop 1) [.val (yak Z),.val (stT Z),.val z.1.t,.val r.t,.no])=_;rw [zar (t:=rwT z) (τ':=[.val (yak Z),.val (stT Z),.val z.1.t,.val r.t,.val (rwT z)]) rfl (by simp only [evE,yac,ygq,Sl.get,xmc,xmn,xgs,xgz,xjs,xbs,t0,e1]) rfl,hu];rfl
 have test:∀ (i0 w:Str),yah r.t (.int 0)=some (.str i0)->evE (glo P (run P (n+5))) (.cmp .eq (.idx (.var 3) (.cst (.int 0))) (.cst (.str w))) (ygq [.val (yak Z),.val (stT Z),.val z.1.t,.val r.t,.val (rwT z)])=some (.bl (i0==w)):=fun i0 w hi=>by simp only [evE,ygq,Sl.get,xmc,xmn,xgs,xgz,xjs,xbs,hi,yax,eqs]
 cases hB with
 | chk t =>
  have i0:yah (Rl.chk t).t (.int 0)=some (.str "check"):=by rw [Rl.t,yah,yaw]
  refine ⟨_,.refl _,body "check" _ i0 (zb2 rfl ((test _ _ i0).trans (by rw [rw1.1])) (zav rfl ?_))⟩;have e2:∀ ps∈z.2,(glo P (run P (n+5))).call "key_of" [z.1.t,yaf ps]=some (kyT z.1 ps):=fun ps hp=>ziu p.hwo p.hk (n+3) hb (hR ps hp);have e3:∀ ps∈z.2,(glo P (run P (n+5))).call "is_kept" [z.1.t,yaf ps,(Rl.chk t).t]=some (.bl (!decide (hv ps t=some false))):=fun ps hp=>zvr p.hh p.hwo p.hcm p.hop p.hj p.hkp n hb (hR ps hp) hok.fit hfit;generalize glo P (run P (n+5))=G at *;refine zfz (enc:=yaf) (fun ps=>decide (hv ps t=some false)) (kyT z.1) (xs:=[.tup (z.2.map yaf)]) (by simp only [evE,yac,ygq,Sl.get,xmc,xmn,xgs,xgz,xjs,xbs];rfl) (zc6 _ h4) fun ps hp=>?_;refine ⟨some (yaf ps)::ygq [.val (yak Z),.val (stT Z),.val z.1.t,.val (Rl.chk t).t,.val (rwT z)],rfl,?_,fun _=>?_⟩
  ·simp only [evE,yac,ygq,Sl.get,xmc,xmn,xgs,xgz,xjs,xbs,e3 ps hp,ybh,xms,Bool.not_not]
  ·simp only [evE,yac,ygq,Sl.get,xmc,xmn,xgs,xgz,xjs,xbs,e2 ps hp]
 | unl qa =>
  have i0:yah (Rl.unl qa).t (.int 0)=some (.str "unlike"):=by rw [Rl.t,yah,yaw]
  have i1:yah (Rl.unl qa).t (.int 1)=some (ya4 qa):=by rw [Rl.t,yah,yav]
  obtain ⟨L,hL,e2⟩:=zv1 p.hwo p.hk p.hka (n+2) hb h4 hR hfit hok.2 i1;have e2':(glo P (run P (n+5))).call "keys_alike" [z.1.t,(Rl.unl qa).t,rwT z]=some (.lst (L.map (kyT z.1))):=e2;refine ⟨L,hL,body "unlike" _ i0 ((zay rfl ((test _ _ i0).trans (by rw [rw1.2.1]))).trans (zb2 rfl ((test _ _ i0).trans (by rw [rw1.2.2.2.1])) (zav rfl ?_)))⟩;generalize glo P (run P (n+5))=G at *;simp only [evE,yac,ygq,Sl.get,xmc,xmn,xgs,xgz,xjs,xbs,e2']
 | ref qa g w hg =>
  have i0:yah (Rl.ref qa g.1.nm w).t (.int 0)=some (.str "refers"):=by rw [Rl.t,yah,yaw]
  have e2:(glo P (run P (n+5))).call "keys_referring_to_none" [yak Z,stT Z,z.1.t,(Rl.ref qa g.1.nm w).t]=some (.lst ((yer g qa z.2).map (kyT z.1))):=zvs p.hwo p.hk p.hkr p.htb p.hro p.hbk p.hrb p.hkn (n+1) H.nd H.ok hz hg hfit.1 hok.2.1;refine ⟨_,.refl _,body "refers" _ i0 ((zay rfl ((test _ _ i0).trans (by rw [rw1.2.2.1]))).trans ((zay rfl ((test _ _ i0).trans (by rw [rw1.2.2.2.2.1]))).trans (zav rfl ?_)))⟩;generalize glo P (run P (n+5))=G at *;simp only [evE,yac,ygq,Sl.get,xmc,xmn,xgs,xgz,xjs,xbs,e2]
end
section
theorem zvh {P:Pr} (hn:P.fn "_law_names"=some za9) (h:P.fn "_law_worths"=some zbw) (n:Nat) {b:Tb} (hb:b.ok) {ps:Row} (hp:RowOk b ps) {qa:List Str} (hc:∀ x∈qa,∃ c∈b.cs,c.n=x) (h4:qa.length<=4):run P (n+2) "_law_worths" [b.t,yaf ps,ya4 qa]=some (woT qa ps):=by
 obtain ⟨qs,q1,q2,q3,q4⟩:=zk9 hb hp hc;have hnd:=hp.nd hb;have hz:qs.length<=16777216:=by omega
 rw [zaf h rfl];have cn:(glo P (run P (n+1))).call "_law_names" [b.t]=some (.lst (ps.map nmT)):=by rw [hp.tab];exact zd9 hn n ps (hp.len hb) _ _ _
 show zaa (yab (glo P (run P (n+1))) zbw.body [.val b.t,.val (yaf ps),.val (ya4 qa),.no])=_;generalize glo P (run P (n+1))=G at *;generalize b.t=X at *;unfold zbw;dsimp only;rw [zar (t:=tkT (wK qa ps)) (τ':=[.val X,.val (yaf ps),.val (ya4 qa),.val (tkT (wK qa ps))]) rfl (by
  rw [zbq,za0];have s1:yac G [.var 2] (ygq [Sl.val X,.val (yaf ps),.val (ya4 qa),.no])=some [.tup (qs.map nmT)]:=by simp only [evE,yac,ygq,Sl.get,xmc,xmn,xgs,xgz,xjs,xbs,ya4,q1]
  have s2:yae .plain [.tup (qs.map nmT)]=some (qs.map nmT):=by simp [yae,items,hz]
  rw [s1,zx0,s2,zx0,zax (fun q=>q.2) fun q hq'=>by obtain ⟨i,e1,e2⟩:=zck (q2 q hq') hnd;simp only [bnd,if_true,xbs,evE,yac,ygq,Sl.get,xmc,xmn,xgs,xgz,xjs,cn];rw [show nmT q=.str q.1.n from rfl,e1];simp only [xbs,yaf,yah,e2,xms]];show some (T.tup (qs.map (·.2)))=_;rw [q4]) rfl]
 rw [zav (t:=woT qa ps) rfl (by
  simp only [evE,yac,ygq,Sl.get,xmc,xmn,xgs,xgz,xjs,xbs,yax,zmb,xms,yaz,List.length_cons,List.length_nil,Nat.zero_add,Nat.reduceAdd,Nat.reduceLeDiff,if_true];unfold woT;cases ybr (wK qa ps) with
  | true=>rw [if_pos rfl,if_pos rfl,yah,yav]
  | false=>rw [if_neg (by simp),if_neg (by simp),yah,yaw])]
 rfl
theorem yek {g:Zt}:∀ {Z:List Zt},g∈Z->(Z.map (·.1.nm)).Nodup->(Z.filter fun z=>z.1.nm==g.1.nm)=[g]
 | y::Z,h,nd=>by
  rw [zx4] at nd;obtain ⟨n1,n2⟩:=List.nodup_cons.mp nd;rw [List.filter_cons];by_cases e:y.1.nm=g.1.nm
  ·rcases omc h with rfl | h
   ·rw [if_pos (beq_iff_eq.mpr rfl),List.filter_eq_nil_iff.mpr fun z hz q=>n1 (List.mem_map.mpr ⟨z,hz,eq_of_beq q⟩)]
   ·exact absurd (List.mem_map.mpr ⟨g,h,e.symm⟩) n1
  ·rw [if_neg (by simpa using e)];rcases omc h with rfl | h
   ·exact absurd rfl e
   ·exact yek h n2
theorem ye6 {P:Pr} (h:P.fn "_law_table"=some zcy) (n:Nat) {Z:List Zt} (H:Sto Z) {g:Zt} (hg:g∈Z):run P (n+1) "_law_table" [yak Z,.str g.1.nm]=some g.1.t:=by
 rw [zaf h rfl];show zaa (yab (glo P (run P n)) [.ret (.idx (.comp (.var 0) 1 .plain [.var 0] (some (.cmp .eq (.idx (.var 0) (.cst (.int 0))) (.var 2)))) (.cst (.int 0)))] [.val (yak Z),.val (.str g.1.nm)])=_;generalize glo P (run P n)=G;have ec:=zfz (G:=G) (elt:=.var 0) (cond:=.cmp .eq (.idx (.var 0) (.cst (.int 0))) (.var 2)) (src:=[.var 0]) (r:=ygq [.val (yak Z),.val (.str g.1.nm)]) (n:=1) (enc:=fun z:Zt=>z.1.t) (R:=Z) (fun z=>z.1.nm==g.1.nm) (fun z=>z.1.t) (xs:=[yak Z]) (by
  simp only [evE,yac,ygq,Sl.get,xmc,xmn,xgz,xjs,xbs]) (by
  have hz:Z.length<=16777216:=by have:=H.l4;omega
  simp [yae,items,yak,hz]) fun z _=>⟨some z.1.t::ygq [.val (yak Z),.val (.str g.1.nm)],rfl,by
   simp only [evE,ygq,Sl.get,xmc,xmn,xgs,xgz,xjs,xbs,t0,yax,eqs],fun _=>by
   simp only [evE,xgz,xjs]⟩
 rw [yek hg H.nd] at ec;rw [zav (t:=g.1.t) rfl (by rw [zi7,ec,evE,zx0,zx0];show ybf [g.1.t] 0=_;rw [yaw])];rfl
theorem zwl (qa:List Str) (R:List Row) (k:List Kt):ya7 .count (.lst (R.map (woT qa))) (tkT k)=some (.int ((cls (wK qa) (ful qa R) k).length:Nat)):=by
 have hd:dpI (tkT k) (R.map (woT qa))=true:=by
  unfold dpI;rw [List.all_map];refine List.all_eq_true.mpr fun ps _=>zyo ?_;show dpP (woT qa ps) (tkT k)<=30;unfold woT;split
  ·exact zyt _
  ·rw [zs3];omega
 show (if dpI (tkT k) (R.map (woT qa)) then some (T.int (((R.map (woT qa)).filter fun z=>eqT z (tkT k)).length:Nat)) else none)=_;rw [if_pos hd,List.filter_map,zya];have e:R.filter ((fun z=>eqT z (tkT k))∘woT qa)=cls (wK qa) (ful qa R) k:=by
  unfold cls ful;rw [List.filter_filter];refine List.filter_congr fun ps _=>?_;show eqT (woT qa ps) (tkT k)=_;unfold woT;cases ybr (wK qa ps) with
  | true=>rw [if_pos rfl,tkT,eqT]<;>simp
  | false=>rw [if_neg (by simp),zqy];simp
 rw [e]
theorem zsw (b:Tb) (R:List Row) (k:List Kt):inC (tkT k) (.lst (R.map (kyT b)))=some (gks b R k):=by
 have hd:dpI (tkT k) (R.map (kyT b))=true:=by unfold dpI;rw [List.all_map];refine List.all_eq_true.mpr fun ps _=>zyo ?_;show dpP (tkT _) (tkT k)<=30;rw [zs3];omega
 show (if dpI (tkT k) (R.map (kyT b)) then some ((R.map (kyT b)).any fun z=>eqT z (tkT k)) else none)=_;rw [if_pos hd,List.any_map];congr 2;funext ps;exact zqy _ _
theorem zpy (qa:List Str):∀ R:List Row,ycm (R.map yaf) (R.map (woT qa))=R.map fun ps=>.tup [yaf ps,woT qa ps]
 | []=>rfl
 | ps::R=>by rw [zx4,zx4,zx4,ycm,zpy qa R]
structure Lws (P:Pr):Prop where
 hnm:P.fn "_law_names"=some za9
 hlv:P.fn "_law_level"=some zaq
 hky:P.fn "_law_key"=some zb9
 hlr:P.fn "_law_rows"=some zdk
 hlw:P.fn "_law_worths"=some zbw
 hlt:P.fn "_law_table"=some zcy
 hlb:P.fn "_law_broken"=some zdo
noncomputable def lbA:S:=.asg 9 (.land (.cmp .notN (.var 8) (.cst .non)) (.cmp .gt (.mth .count (.var 6) (.var 8)) (.cst (.int 1))))
noncomputable def lbB:S:=.ite (.land (.cmp .eq (.idx (.var 3) (.cst (.int 0))) (.cst (.str "refers"))) (.cmp .notN (.var 8) (.cst .non))) [.asg 10 (.call "_law_table" [.var 0,.idx (.var 3) (.cst (.int 2))]),
  .asg 9 (.cmp .notin (.var 8) (.comp (.call "_law_key" [.var 11,.var 0]) 1 .plain [.call "_law_rows" [.var 0,.var 1,.idx (.var 3) (.cst (.int 2))]] none))] []
noncomputable def lbC:S:=.ite (.tru (.var 9)) [.app 7 (.call "_law_key" [.var 2,.var 5])] []
theorem zqb {G:Glo} {a b:E} {r:Env} (h:evE G a r=some (.bl false)):evE G (.land a b) r=some (.bl false):=by rw [evE,h];rfl
theorem zlx {G:Glo} {a b:E} {r:Env} (h:evE G a r=some (.bl true)):evE G (.land a b) r=evE G b r:=by rw [evE,h];rfl
section
variable {G:Glo} {St Sr X r RT:T} {qa:List Str} {R:List Row}
theorem lb_a {ss:List S} {F:Sl} {s9 s10:Sl} {ps:Row}:yab G (lbA::ss) [.val St,.val Sr,.val X,.val r,.val RT,.val (yaf ps),.val (.lst (R.map (woT qa))),F,.val (woT qa ps),s9,s10] =
  yab G ss [.val St,.val Sr,.val X,.val r,.val RT,.val (yaf ps),.val (.lst (R.map (woT qa))),F,.val (woT qa ps),.val (.bl (!ybr (wK qa ps)&&decide (1<(cls (wK qa) (ful qa R) (wK qa ps)).length))),s10]:=by
 unfold lbA;refine zar rfl ?_ rfl;have e1:evE G (.cmp .notN (.var 8) (.cst .non)) (ygq [.val St,.val Sr,.val X,.val r,.val RT,.val (yaf ps),.val (.lst (R.map (woT qa))),F,.val (woT qa ps),s9,s10])=some (.bl (!ybr (wK qa ps))):=by simp only [evE,ygq,Sl.get,xmc,xmn,xgs,xgz,xjs,xbs,zhk]
 cases hN:ybr (wK qa ps) with
 | true=>rw [hN] at e1;exact zqb e1
 | false =>
  rw [hN] at e1;rw [zlx e1];have ew:woT qa ps=tkT (wK qa ps):=by unfold woT;rw [hN];rfl
  rw [ew];simp only [evE,ygq,Sl.get,xmc,xmn,xgs,xgz,xjs,xbs,zwl,yax];congr 2;rw [Bool.not_false,Bool.true_and];exact decide_eq_decide.mpr ⟨fun h=>by omega,fun h=>by omega⟩
theorem lb_c {b:Tb} {L:List T} {s10:Sl} {ps:Row} {bad:Bool} (hX:G.call "_law_key" [X,yaf ps]=some (kyT b ps)) (hl:L.length<SZ):yab G [lbC] [.val St,.val Sr,.val X,.val r,.val RT,.val (yaf ps),.val (.lst (R.map (woT qa))),.own L,.val (woT qa ps),.val (.bl bad),s10] =
  some (.nx [.val St,.val Sr,.val X,.val r,.val RT,.val (yaf ps),.val (.lst (R.map (woT qa))),.own (L++if bad=true then [kyT b ps] else []),.val (woT qa ps),.val (.bl bad),s10]):=by
 unfold lbC;have e1:evE G (.tru (.var 9)) (ygq [.val St,.val Sr,.val X,.val r,.val RT,.val (yaf ps),.val (.lst (R.map (woT qa))),.own L,.val (woT qa ps),.val (.bl bad),s10])=some (.bl bad):=by simp only [evE,ygq,Sl.get,xmc,xmn,xgs,xgz,xjs,xbs,ybh,xms]
 cases bad with
 | false=>rw [zay rfl e1,yab,if_neg (by simp),List.append_nil]
 | true =>
  rw [if_pos rfl];refine (zht rfl e1 ?_).trans (by rw [yab]);rw [zaw (τ':=[.val St,.val Sr,.val X,.val r,.val RT,.val (yaf ps),.val (.lst (R.map (woT qa))),.own (L++[kyT b ps]),.val (woT qa ps),.val (.bl true),s10]) (by
   rw [evS,show yad (yaj (.call "_law_key" [.var 2,.var 5])) [.val St,.val Sr,.val X,.val r,.val RT,.val (yaf ps),.val (.lst (R.map (woT qa))),.own L,.val (woT qa ps),.val (.bl true),s10]=[.val St,.val Sr,.val X,.val r,.val RT,.val (yaf ps),.val (.lst (R.map (woT qa))),.own L,.val (woT qa ps),.val (.bl true),s10] from rfl];have e2:evE G (.call "_law_key" [.var 2,.var 5]) (ygq [.val St,.val Sr,.val X,.val r,.val RT,.val (yaf ps),.val (.lst (R.map (woT qa))),.own L,.val (woT qa ps),.val (.bl true),s10])=some (kyT b ps):=by simp only [evE,yac,ygq,Sl.get,xmc,xmn,xgs,xgz,xjs,xbs,hX]
   rw [e2,zx0];show (if L.length<SZ then _ else none)=_;rw [if_pos hl];rfl),yab]
end
theorem zvn {P:Pr} (p:Lws P) (n:Nat) {Z:List Zt} (H:Sto Z) {z:Zt} (hz:z∈Z) {r:Rl} (hr:r∈z.1.rs) {B:List Row} (hB:Brk Z z r B):run P (n+5) "_law_broken" [yak Z,stT Z,z.1.t,r.t]=some (.lst (B.map (kyT z.1))):=by
 obtain ⟨hb,h4,hR⟩:=H.ok z hz;have hok:=hb.rs r hr;have hfit:=H.fit z hz r hr;rw [zaf p.hlb rfl];have e1:(glo P (run P (n+4))).call "_law_rows" [yak Z,stT Z,.str z.1.nm]=some (rwT z):=zgi p.hlr (n+3) H.l4 hz H.nd;have e2:∀ g∈Z,∀ ps∈g.2,(glo P (run P (n+4))).call "_law_key" [g.1.t,yaf ps]=some (kyT g.1 ps):=fun g hg ps hp=>zix p.hnm p.hky (n+2) (H.ok g hg).1 ((H.ok g hg).2.2 ps hp);have ev:∀ t:Tst,t.ok 3->t.inn z.1.cs->∀ ps∈z.2,(glo P (run P (n+4))).call "_law_level" [z.1.t,t.t,yaf ps]=some (.int (yc2 (hv ps t))):=fun t ht hi ps hp=>by have hp:=hR ps hp;have ev:=zsm p.hlv p.hnm (hp.len hb) (hp.nd hb) hp.wk (.str z.1.nm) (.tup (z.1.key.map .str)) (.tup (z.1.rs.map Rl.t)) 3 n t ht (by rw [hp.cs];exact hi);rw [<- hp.tab] at ev;exact ev
 have elw:∀ qa:List Str,(∀ x∈qa,∃ c∈z.1.cs,c.n=x)->qa.length<=4->∀ ps∈z.2,(glo P (run P (n+4))).call "_law_worths" [z.1.t,yaf ps,ya4 qa]=some (woT qa ps):=fun qa hc hl ps hp=>zvh p.hnm p.hlw (n+2) hb (hR ps hp) hc hl;have elt:∀ g∈Z,(glo P (run P (n+4))).call "_law_table" [yak Z,.str g.1.nm]=some g.1.t:=fun g hg=>ye6 p.hlt (n+3) H hg;have elr:∀ g∈Z,(glo P (run P (n+4))).call "_law_rows" [yak Z,stT Z,.str g.1.nm]=some (rwT g):=fun g hg=>zgi p.hlr (n+3) H.l4 hg H.nd;show zaa (yab (glo P (run P (n+4))) [.asg 4 (.call "_law_rows" [.var 0,.var 1,.idx (.var 2) (.cst (.int 0))]),
  .ite (.cmp .eq (.idx (.var 3) (.cst (.int 0))) (.cst (.str "check"))) [.ret (.comp (.call "_law_key" [.var 3,.var 0]) 1 .plain [.var 4] (some (.cmp .eq (.call "_law_level" [.var 3,.idx (.var 4) (.cst (.int 1)),.var 0]) (.cst (.int 0)))))] [],
  .asg 6 (.comp (.call "_law_worths" [.var 3,.var 0,.idx (.var 4) (.cst (.int 1))]) 1 .plain [.var 4] none),
  .asg 7 (.lst []),.loop [5,8] .zip [.var 4,.var 6] [lbA,lbB,lbC],.ret (.var 7)] [.val (yak Z),.val (stT Z),.val z.1.t,.val r.t,.no,.no,.no,.no,.no,.no,.no])=_
 generalize glo P (run P (n+4))=G at *;rw [zar (t:=rwT z) (τ':=[.val (yak Z),.val (stT Z),.val z.1.t,.val r.t,.val (rwT z),.no,.no,.no,.no,.no,.no]) rfl (by simp only [evE,yac,ygq,Sl.get,xmc,xmn,xgs,xgz,xjs,xbs,t0,e1]) rfl];have test:∀ (i0:Str),yah r.t (.int 0)=some (.str i0)->evE G (.cmp .eq (.idx (.var 3) (.cst (.int 0))) (.cst (.str "check"))) (ygq [.val (yak Z),.val (stT Z),.val z.1.t,.val r.t,.val (rwT z),.no,.no,.no,.no,.no,.no])=some (.bl (i0=="check")):=fun i0 hi=>by simp only [evE,ygq,Sl.get,xmc,xmn,xgs,xgz,xjs,xbs,hi,yax,eqs]
 have rest:∀ (qa:List Str) (i0:Str) (bad:Row->Bool),(∀ x∈qa,∃ c∈z.1.cs,c.n=x)->qa.length<=4->yah r.t (.int 0)=some (.str i0)->(i0=="check")=false->yah r.t (.int 1)=some (ya4 qa) ->
   (∀ ps∈z.2,∀ (L:List T) (s10:Sl),∃ s10',yab G [lbB,lbC] [.val (yak Z),.val (stT Z),.val z.1.t,.val r.t,.val (rwT z),.val (yaf ps),.val (.lst (z.2.map (woT qa))),.own L,.val (woT qa ps),.val (.bl (!ybr (wK qa ps)&&decide (1<(cls (wK qa) (ful qa z.2) (wK qa ps)).length))),s10] =
    yab G [lbC] [.val (yak Z),.val (stT Z),.val z.1.t,.val r.t,.val (rwT z),.val (yaf ps),.val (.lst (z.2.map (woT qa))),.own L,.val (woT qa ps),.val (.bl (bad ps)),s10']) ->
   zaa (yab G [.ite (.cmp .eq (.idx (.var 3) (.cst (.int 0))) (.cst (.str "check"))) [.ret (.comp (.call "_law_key" [.var 3,.var 0]) 1 .plain [.var 4] (some (.cmp .eq (.call "_law_level" [.var 3,.idx (.var 4) (.cst (.int 1)),.var 0]) (.cst (.int 0)))))] [],
  .asg 6 (.comp (.call "_law_worths" [.var 3,.var 0,.idx (.var 4) (.cst (.int 1))]) 1 .plain [.var 4] none),
  .asg 7 (.lst []),.loop [5,8] .zip [.var 4,.var 6] [lbA,lbB,lbC],.ret (.var 7)] [.val (yak Z),.val (stT Z),.val z.1.t,.val r.t,.val (rwT z),.no,.no,.no,.no,.no,.no])=some (.lst ((z.2.filter bad).map (kyT z.1))):=fun qa i0 bad hc hl hi hne hi1 hbad=>by
  rw [zay rfl ((test i0 hi).trans (by rw [hne]))];rw [zar (t:=.lst (z.2.map (woT qa))) (τ':=[.val (yak Z),.val (stT Z),.val z.1.t,.val r.t,.val (rwT z),.no,.val (.lst (z.2.map (woT qa))),.no,.no,.no,.no]) rfl (by
   rw [za0];have s1:yac G [.var 4] (ygq [.val (yak Z),.val (stT Z),.val z.1.t,.val r.t,.val (rwT z),.no,.no,.no,.no,.no,.no])=some [.tup (z.2.map yaf)]:=by simp only [evE,yac,ygq,Sl.get,xmc,xmn,xgs,xgz,xjs,xbs];rfl
   rw [s1,zx0,zc6 _ h4,zx0,zax (woT qa) fun ps hp=>by simp only [bnd,if_true,xbs,evE,yac,ygq,Sl.get,xmc,xmn,xgs,xgz,xjs,hi1,elw qa hc hl ps hp,xms]];rfl) rfl]
  rw [zar (t:=.lst []) (τ':=[.val (yak Z),.val (stT Z),.val z.1.t,.val r.t,.val (rwT z),.no,.val (.lst (z.2.map (woT qa))),.own [],.no,.no,.no]) rfl (by rw [evE];rfl) rfl];obtain ⟨τ',el,s5,s8,s9,s10,rfl⟩:=zas (enc:=fun ps=>T.tup [yaf ps,woT qa ps]) (f:=fun x τ=>(yay [5,8] x τ).bind fun τ'=>yab G [lbA,lbB,lbC] τ')
   (fun done τ=>∃ s5 s8 s9 s10,τ=[.val (yak Z),.val (stT Z),.val z.1.t,.val r.t,.val (rwT z),s5,.val (.lst (z.2.map (woT qa))),.own ((done.filter bad).map (kyT z.1)),s8,s9,s10])
   z.2 [.val (yak Z),.val (stT Z),.val z.1.t,.val r.t,.val (rwT z),.no,.val (.lst (z.2.map (woT qa))),.own [],.no,.no,.no] ⟨_,_,_,_,rfl⟩ (by
    rintro l1 ps l2 hsp τ ⟨s5,s8,s9,s10,rfl⟩;have hm:ps∈z.2:=by rw [hsp];simp
    have hll:((l1.filter bad).map (kyT z.1)).length<SZ:=by have h1:=zym List.length hsp;have h2:(l1.filter bad).length<=l1.length:=List.length_filter_le _ _;simp at h1;rw [zya];show _<16777216;omega
    obtain ⟨s10',e3⟩:=hbad ps hm ((l1.filter bad).map (kyT z.1)) s10;refine ⟨[.val (yak Z),.val (stT Z),.val z.1.t,.val r.t,.val (rwT z),.val (yaf ps),.val (.lst (z.2.map (woT qa))),.own (((l1++[ps]).filter bad).map (kyT z.1)),.val (woT qa ps),.val (.bl (bad ps)),s10'],?_,_,_,_,_,rfl⟩;simp only [yay,setAll,xbs,xss,xsz];rw [lb_a,e3,lb_c (e2 z hz ps hm) hll];have ef:((l1++[ps]).filter bad).map (kyT z.1)=(l1.filter bad).map (kyT z.1)++if bad ps=true then [kyT z.1 ps] else []:=by rw [List.filter_append,List.filter_cons,zyx];cases bad ps<;>rfl
    rw [ef])
  rw [zaw (zbp (xs:=[rwT z,.lst (z.2.map (woT qa))]) (qc:=z.2.map fun ps=>T.tup [yaf ps,woT qa ps]) (τ0:=[.val (yak Z),.val (stT Z),.val z.1.t,.val r.t,.val (rwT z),.no,.val (.lst (z.2.map (woT qa))),.own [],.no,.no,.no]) rfl (by
   simp only [evE,yac,ygq,Sl.get,xmc,xmn,xgs,xgz,xjs,xbs]) (by
   show some (ycm (z.2.map yaf) (z.2.map (woT qa)))=_;rw [zpy]) el)]
  rw [zfe (t:=.lst ((z.2.filter bad).map (kyT z.1))) (by rw [evS,show yad (yaj (.var 7)) [.val (yak Z),.val (stT Z),.val z.1.t,.val r.t,.val (rwT z),s5,.val (.lst (z.2.map (woT qa))),.own ((z.2.filter bad).map (kyT z.1)),s8,s9,s10]=[.val (yak Z),.val (stT Z),.val z.1.t,.val r.t,.val (rwT z),s5,.val (.lst (z.2.map (woT qa))),.val (.lst ((z.2.filter bad).map (kyT z.1))),s8,s9,s10] from rfl];simp only [evE,ygq,Sl.get,xmc,xmn,xgs,xgz,xjs,xms])];rfl
 cases hB with
 | chk t =>
  have i0:yah (Rl.chk t).t (.int 0)=some (.str "check"):=by rw [Rl.t,yah,yaw]
  have i1:yah (Rl.chk t).t (.int 1)=some t.t:=by rw [Rl.t,yah,yav]
  rw [zb2 rfl ((test _ i0).trans (by rw [rw1.1])) (zav (t:=.lst ((yge t z.2).map (kyT z.1))) rfl (by
   refine zfz (enc:=yaf) (fun ps=>decide (hv ps t=some false)) (kyT z.1) (xs:=[.tup (z.2.map yaf)]) (by simp only [evE,yac,ygq,Sl.get,xmc,xmn,xgs,xgz,xjs,xbs];rfl) (zc6 _ h4) fun ps hp=>?_;refine ⟨some (yaf ps)::ygq [.val (yak Z),.val (stT Z),.val z.1.t,.val (Rl.chk t).t,.val (rwT z),.no,.no,.no,.no,.no,.no],rfl,?_,fun _=>?_⟩
   ·simp only [evE,yac,ygq,Sl.get,xmc,xmn,xgs,xgz,xjs,xbs,i1,ev t hok hfit ps hp,yax];rcases hv ps t with _ | _ | _<;>rfl
   ·simp only [evE,yac,ygq,Sl.get,xmc,xmn,xgs,xgz,xjs,xbs,e2 z hz ps hp]))]
  rfl
 | unl qa =>
  have i0:yah (Rl.unl qa).t (.int 0)=some (.str "unlike"):=by rw [Rl.t,yah,yaw]
  have i1:yah (Rl.unl qa).t (.int 1)=some (ya4 qa):=by rw [Rl.t,yah,yav]
  have e3:=rest qa "unlike" (fun ps=>!ybr (wK qa ps)&&decide (1<(cls (wK qa) (ful qa z.2) (wK qa ps)).length)) hfit hok.2 i0 rw1.2.1 i1 fun ps hp L s10=>⟨s10,by unfold lbB;refine zay rfl (zqb ?_);simp only [evE,ygq,Sl.get,xmc,xmn,xgs,xgz,xjs,xbs,i0,yax,eqs,rw1.2.2.2.2.2.1]⟩;rw [e3];unfold two;congr 3;show _=(ful qa z.2).filter _
  conv=>rhs;unfold ful
  rw [List.filter_filter];exact List.filter_congr fun ps _=>Bool.and_comm _ _
 | ref qa g w hg =>
  have i0:yah (Rl.ref qa g.1.nm w).t (.int 0)=some (.str "refers"):=by rw [Rl.t,yah,yaw]
  have i1:yah (Rl.ref qa g.1.nm w).t (.int 1)=some (ya4 qa):=by rw [Rl.t,yah,yav]
  have i2:yah (Rl.ref qa g.1.nm w).t (.int 2)=some (.str g.1.nm):=by rw [Rl.t,yah,ybj]
  refine rest qa "refers" (fun ps=>!ybr (wK qa ps)&&!gks g.1 g.2 (wK qa ps)) hfit.1 hok.2.1 i0 rw1.2.2.1 i1 fun ps hp L s10=>?_;have c1:∀ s9:Sl,evE G (.land (.cmp .eq (.idx (.var 3) (.cst (.int 0))) (.cst (.str "refers"))) (.cmp .notN (.var 8) (.cst .non))) (ygq [.val (yak Z),.val (stT Z),.val z.1.t,.val (Rl.ref qa g.1.nm w).t,.val (rwT z),.val (yaf ps),.val (.lst (z.2.map (woT qa))),.own L,.val (woT qa ps),s9,s10])=some (.bl (!ybr (wK qa ps))):=fun s9=>by rw [zlx (by simp only [evE,ygq,Sl.get,xmc,xmn,xgs,xgz,xjs,xbs,i0,yax,eqs,rw1.2.2.2.2.2.2])];simp only [evE,ygq,Sl.get,xmc,xmn,xgs,xgz,xjs,xbs,zhk]
  unfold lbB;cases hN:ybr (wK qa ps) with
  | true =>refine ⟨s10,(zay rfl ((c1 _).trans (by rw [hN];rfl))).trans ?_⟩;rw [Bool.not_true,Bool.false_and,Bool.false_and]
  | false =>
   have ew:woT qa ps=tkT (wK qa ps):=by unfold woT;rw [hN];rfl
   refine ⟨.val g.1.t,?_⟩;rw [zht (τ':=[.val (yak Z),.val (stT Z),.val z.1.t,.val (Rl.ref qa g.1.nm w).t,.val (rwT z),.val (yaf ps),.val (.lst (z.2.map (woT qa))),.own L,.val (woT qa ps),.val (.bl (!gks g.1 g.2 (wK qa ps))),.val g.1.t]) rfl ((c1 _).trans (by rw [hN];rfl)) (by
    rw [zar (t:=g.1.t) (τ':=[.val (yak Z),.val (stT Z),.val z.1.t,.val (Rl.ref qa g.1.nm w).t,.val (rwT z),.val (yaf ps),.val (.lst (z.2.map (woT qa))),.own L,.val (woT qa ps),.val (.bl (!false&&decide (1<(cls (wK qa) (ful qa z.2) (wK qa ps)).length))),.val g.1.t]) rfl (by simp only [evE,yac,ygq,Sl.get,xmc,xmn,xgs,xgz,xjs,xbs,i2,elt g hg]) rfl];rw [zar (t:=.bl (!gks g.1 g.2 (wK qa ps))) (τ':=[.val (yak Z),.val (stT Z),.val z.1.t,.val (Rl.ref qa g.1.nm w).t,.val (rwT z),.val (yaf ps),.val (.lst (z.2.map (woT qa))),.own L,.val (woT qa ps),.val (.bl (!gks g.1 g.2 (wK qa ps))),.val g.1.t]) rfl (by
     rw [evE];have ec:evE G (.comp (.call "_law_key" [.var 11,.var 0]) 1 .plain [.call "_law_rows" [.var 0,.var 1,.idx (.var 3) (.cst (.int 2))]] none) (ygq [.val (yak Z),.val (stT Z),.val z.1.t,.val (Rl.ref qa g.1.nm w).t,.val (rwT z),.val (yaf ps),.val (.lst (z.2.map (woT qa))),.own L,.val (woT qa ps),.val (.bl (!false&&decide (1<(cls (wK qa) (ful qa z.2) (wK qa ps)).length))),.val g.1.t])=some (.lst (g.2.map (kyT g.1))):=by
      rw [za0];have s1:yac G [.call "_law_rows" [.var 0,.var 1,.idx (.var 3) (.cst (.int 2))]] (ygq [.val (yak Z),.val (stT Z),.val z.1.t,.val (Rl.ref qa g.1.nm w).t,.val (rwT z),.val (yaf ps),.val (.lst (z.2.map (woT qa))),.own L,.val (woT qa ps),.val (.bl (!false&&decide (1<(cls (wK qa) (ful qa z.2) (wK qa ps)).length))),.val g.1.t])=some [.tup (g.2.map yaf)]:=by simp only [evE,yac,ygq,Sl.get,xmc,xmn,xgs,xgz,xjs,xbs,i2,elr g hg];rfl
      rw [s1,zx0,zc6 _ (H.ok g hg).2.1,zx0,zax (kyT g.1) fun qs hq=>by simp only [bnd,if_true,xbs,evE,yac,ygq,Sl.get,xmc,xmn,xgs,xgz,xjs,e2 g hg qs hq,xms]];rfl
     rw [ec,ew];simp only [evE,ygq,Sl.get,xmc,xmn,xgs,xgz,xjs,xbs,yax,zsw,xms]) rfl]
    rw [yab])]
   rw [Bool.not_false,Bool.true_and]
end
section
variable {G:Glo}
noncomputable def yen (Z:List Zt) (z:Zt):Rl->List Row
 | .chk t=>yge t z.2
 | .unl qa=>two (wK qa) (ful qa z.2)
 | .ref qa g _=>match Z.find? fun y=>y.1.nm==g with
  | some y=>yer y qa z.2
  | none=>[]
theorem zc0 {Z:List Zt} (H:Sto Z) {z:Zt} (hz:z∈Z) {r:Rl} (hr:r∈z.1.rs):Brk Z z r (yen Z z r)/\(yen Z z r).Sublist z.2:=by
 cases r with
 | chk t=>exact ⟨.chk t,List.filter_sublist⟩
 | unl qa=>exact ⟨.unl qa,List.filter_sublist.trans List.filter_sublist⟩
 | ref qa g w =>
  obtain ⟨_,hg⟩:=H.fit z hz _ hr;obtain ⟨g',hg',rfl⟩:=omm hg;rw [yen];cases e:Z.find? fun y=>y.1.nm==g'.1.nm with
  | none=>exact absurd (List.find?_eq_none.mp e g' hg') (by simp)
  | some y =>
   have h1:=List.mem_of_find?_eq_some e;have h2:y.1.nm=g'.1.nm:=by have:=List.find?_some e;exact eq_of_beq this
   rw [<- h2];exact ⟨.ref qa y w h1,List.filter_sublist⟩
theorem zpx:∀ {Z:List Zt} {z y:Zt},z∈Z->y∈Z->(Z.map (·.1.nm)).Nodup->z.1.nm=y.1.nm->z=y
 | a::Z,z,y,hz,hy,nd,e=>by
  rw [zx4,List.nodup_cons] at nd;rcases omc hz with h1 | hz
  ·rcases omc hy with h2 | hy
   ·exact h1.trans h2.symm
   ·exact absurd (List.mem_map.mpr ⟨y,hy,by rw [<- e,h1]⟩) nd.1
  ·rcases omc hy with h2 | hy
   ·exact absurd (List.mem_map.mpr ⟨z,hz,by rw [e,h2]⟩) nd.1
   ·exact zpx hz hy nd.2 e
noncomputable def trO (z:Zt) (j:Nat) (ps:Row):Tr:=⟨z.1.nm,j,ybe z.1 ps⟩
noncomputable def ydo (Z:List Zt) (z:Zt) (p:Rl × Nat):List Tr:=(yen Z z p.1).map (trO z p.2)
noncomputable def yde (Z:List Zt) (z:Zt):List Tr:=(z.1.rs.zipIdx 0).flatMap (ydo Z z)
noncomputable def due (Z:List Zt):List Tr:=Z.flatMap (yde Z)
theorem zeh {α β:Type} {f:α->List β} {n:Nat}:∀ {l:List α},(∀ a∈l,(f a).length<=n)->(l.flatMap f).length<=n*l.length
 | [],_=>by simp
 | a::l,h=>by have h1:=h a zyc;have h2:=zeh (l:=l) fun b hb=>h b (zx8 _ hb);rw [List.flatMap_cons,zyj,zyq,Nat.mul_add,Nat.mul_one];omega
theorem zbk {α:Type} {l:List α} {p:α × Nat} (h:p∈l.zipIdx 0):p.1∈l:=by have:=List.mem_zipIdx' h;rw [this.2];exact List.getElem_mem _
section
variable {Z:List Zt} (H:Sto Z)
include H
theorem zfx {z:Zt} (hz:z∈Z) {p:Rl × Nat} (hp:p.1∈z.1.rs):(ydo Z z p).length<=4:=by rw [ydo,zya];exact zyr (zc0 H hz hp).2.length_le (H.ok z hz).2.1
theorem zfv {z:Zt} (hz:z∈Z):(yde Z z).length<=12:=by have h1:=zeh (f:=ydo Z z) (n:=4) (l:=z.1.rs.zipIdx 0) fun p hp=>zfx H hz (zbk hp);have h2:=(H.ok z hz).1.rl;rw [List.length_zipIdx] at h1;unfold yde;omega
theorem zs2:(due Z).length<=48:=by have h1:=zeh (f:=yde Z) (n:=12) (l:=Z) fun z hz=>zfv H hz;have h2:=H.l4;unfold due;omega
theorem zfw {z:Zt} (hz:z∈Z) {p:Rl × Nat} (hp:p.1∈z.1.rs) {x:Tr} (hx:x∈ydo Z z p):x.nm=z.1.nm/\x.j=p.2/\∃ ps∈z.2,x.k=ybe z.1 ps:=by obtain ⟨ps,h1,rfl⟩:=omm hx;exact ⟨rfl,rfl,ps,(zc0 H hz hp).2.subset h1,rfl⟩
theorem zdy {z:Zt} (hz:z∈Z) {x:Tr} (hx:x∈yde Z z):x.nm=z.1.nm/\∃ ps∈z.2,x.k=ybe z.1 ps:=by obtain ⟨p,hp,hx⟩:=List.mem_flatMap.mp hx;obtain ⟨h1,_,h2⟩:=zfw H hz (zbk hp) hx;exact ⟨h1,h2⟩
theorem zqn:TrOk (due Z):=by
 refine ⟨zyr (zs2 H) (by omega),?_,fun x hx y hy e=>?_⟩
 ·refine List.pairwise_flatMap.mpr ⟨fun z hz=>List.pairwise_flatMap.mpr ⟨fun p hp=>?_,?_⟩,?_⟩
  ·refine List.pairwise_map.mpr ?_;have h1:(yen Z z p.1).Pairwise fun a b=>ya8 (ybe z.1 a) (ybe z.1 b)=true:=(List.pairwise_map.mp (H.pw z hz)).sublist (zc0 H hz (zbk hp)).2;refine List.Pairwise.imp ?_ h1;intro a b hab e;have ek:ybe z.1 a=ybe z.1 b:=zym Tr.k e;rw [ek,zcs] at hab;cases hab
  ·have h1:(z.1.rs.zipIdx 0).Pairwise fun a b=>a.2≠b.2:=by have:=List.nodup_range' (s:=0) (n:=z.1.rs.length);rw [<- List.zipIdx_map_snd] at this;exact List.pairwise_map.mp this
   refine List.Pairwise.imp_of_mem (fun {a b} ha hb hab x hx y hy e=>hab ?_) h1;rw [<- (zfw H hz (zbk ha) hx).2.1,<- (zfw H hz (zbk hb) hy).2.1,e]
  ·refine List.Pairwise.imp_of_mem (fun {a b} ha hb hab x hx y hy e=>hab ?_) (List.pairwise_map.mp H.nd);rw [<- (zdy H ha hx).1,<- (zdy H hb hy).1,e]
 ·obtain ⟨z,hz,hx⟩:=List.mem_flatMap.mp hx;obtain ⟨y',hy',hy⟩:=List.mem_flatMap.mp hy;obtain ⟨n1,ps,hp,k1⟩:=zdy H hz hx;obtain ⟨n2,qs,hq,k2⟩:=zdy H hy' hy;have ez:z=y':=zpx hz hy' H.nd (by rw [<- n1,<- n2,e]);subst ez;rw [k1,k2];obtain ⟨hb,_,hR⟩:=H.ok z hz;exact zdm hb (hR ps hp) (hR qs hq)
end
noncomputable def bkI:List S:=[.app 2 (.tup [.idx (.var 3) (.cst (.int 0)),.var 4,.var 6])]
noncomputable def bkM:List S:=[.loop [6] .plain [.call "keys_that_break" [.var 0,.var 1,.var 3,.var 5]] bkI]
noncomputable def bkO:List S:=[.loop [4,5] .enum [.idx (.var 3) (.cst (.int 3))] bkM]
theorem zxw {St Sr r:T} {z:Zt} {j:Nat} {L:List Row} (hL:L.length<=4) (X:List Tr) (hX:X.length<=100) (s6:Sl) (hc:G.call "keys_that_break" [St,Sr,z.1.t,r]=some (.lst (L.map (kyT z.1)))) :
  ∃ s6',yab G bkM [.val St,.val Sr,.own (X.map trT),.val z.1.t,.val (.int (j:Int)),.val r,s6]=some (.nx [.val St,.val Sr,.own ((X++L.map (trO z j)).map trT),.val z.1.t,.val (.int (j:Int)),.val r,s6']):=by
 obtain ⟨τ',el,s6',rfl⟩:=zas (enc:=kyT z.1) (f:=fun x τ=>(yay [6] x τ).bind fun τ'=>yab G bkI τ')
  (fun done τ=>∃ s6,τ=[.val St,.val Sr,.own ((X++done.map (trO z j)).map trT),.val z.1.t,.val (.int (j:Int)),.val r,s6])
  L [.val St,.val Sr,.own (X.map trT),.val z.1.t,.val (.int (j:Int)),.val r,s6] ⟨s6,by rw [List.map_nil,zyh]⟩ (by
   rintro l1 ps l2 hsp τ ⟨s6,rfl⟩;have hl:((X++l1.map (trO z j)).map trT).length<SZ:=by have h1:=zym List.length hsp;simp at h1;rw [zya,zyj,zya];show _<16777216;omega
   refine ⟨[.val St,.val Sr,.own ((X++(l1++[ps]).map (trO z j)).map trT),.val z.1.t,.val (.int (j:Int)),.val r,.val (kyT z.1 ps)],?_,_,rfl⟩;simp only [yay,xbs,xss,xsz];have ee:(X++(l1++[ps]).map (trO z j)).map trT=(X++l1.map (trO z j)).map trT++[trT (trO z j ps)]:=by rw [zyx (f:=trO z j),<- zzb,zyx (l₁:=X++l1.map (trO z j))];rfl
   rw [ee];generalize (X++l1.map (trO z j)).map trT=Y at *;unfold bkI;rw [zaw (τ':=[.val St,.val Sr,.own (Y++[trT (trO z j ps)]),.val z.1.t,.val (.int (j:Int)),.val r,.val (kyT z.1 ps)]) (by
    rw [evS,show yad (yaj (.tup [.idx (.var 3) (.cst (.int 0)),.var 4,.var 6])) [.val St,.val Sr,.own Y,.val z.1.t,.val (.int (j:Int)),.val r,.val (kyT z.1 ps)]=[.val St,.val Sr,.own Y,.val z.1.t,.val (.int (j:Int)),.val r,.val (kyT z.1 ps)] from rfl];have e1:evE G (.tup [.idx (.var 3) (.cst (.int 0)),.var 4,.var 6]) (ygq [.val St,.val Sr,.own Y,.val z.1.t,.val (.int (j:Int)),.val r,.val (kyT z.1 ps)])=some (trT (trO z j ps)):=by simp only [evE,yac,ygq,Sl.get,xmc,xmn,xgs,xgz,xjs,xbs,t0,List.length_cons,List.length_nil,Nat.zero_add,Nat.reduceAdd,Nat.reduceLeDiff,if_true,xms];rfl
    rw [e1,zx0];show (if Y.length<SZ then _ else none)=_;rw [if_pos hl];rfl),yab])
 refine ⟨s6',?_⟩;unfold bkM;rw [zaw (zbp (xs:=[.lst (L.map (kyT z.1))]) (qc:=L.map (kyT z.1)) (τ0:=[.val St,.val Sr,.own (X.map trT),.val z.1.t,.val (.int (j:Int)),.val r,s6]) rfl (by simp only [evE,yac,ygq,Sl.get,xmc,xmn,xgs,xgz,xjs,xbs,hc]) rfl el),yab]
theorem ze7 {P:Pr} (p:Prg P) (h:P.fn "breaks"=some zd0) (n:Nat) {Z:List Zt} (H:Sto Z):run P (n+7) "breaks" [yak Z,stT Z]=some (.tup (ycl ((due Z).map trT))):=by
 rw [zaf h rfl];have ek:∀ z∈Z,∀ r∈z.1.rs,∃ L:List Row,L.Perm (yen Z z r)/\(glo P (run P (n+6))).call "keys_that_break" [yak Z,stT Z,z.1.t,r.t]=some (.lst (L.map (kyT z.1))):=fun z hz r hr=>zvz p n H hz hr (zc0 H hz hr).1;show zaa (yab (glo P (run P (n+6))) [.asg 2 (.lst []),.loop [3] .plain [.var 0] bkO,.ret (.blt .toTuple (.blt .sorted (.var 2)))] [.val (yak Z),.val (stT Z),.no,.no,.no,.no,.no])=_;generalize glo P (run P (n+6))=G at *;rw [zar (t:=.lst []) (τ':=[.val (yak Z),.val (stT Z),.own [],.no,.no,.no,.no]) rfl (by rw [evE];rfl) rfl];obtain ⟨τ',el,X,s3,s4,s5,s6,rfl,hX⟩:=zas (enc:=fun z:Zt=>z.1.t) (f:=fun x τ=>(yay [3] x τ).bind fun τ'=>yab G bkO τ')
  (fun done τ=>∃ (X:List Tr) (s3 s4 s5 s6:Sl),τ=[.val (yak Z),.val (stT Z),.own (X.map trT),s3,s4,s5,s6]/\X.Perm (done.flatMap (yde Z)))
  Z [.val (yak Z),.val (stT Z),.own [],.no,.no,.no,.no] ⟨[],_,_,_,_,rfl,.refl _⟩ (by
   rintro l1 z l2 hsp τ ⟨X,s3,s4,s5,s6,rfl,hX⟩;have hz:z∈Z:=by rw [hsp];simp
   have hl1:l1.length<=3:=by have h1:=zym List.length hsp;have h2:=H.l4;simp at h1;omega
   have hXl:X.length<=36:=by rw [hX.length_eq];have:=zeh (f:=yde Z) (n:=12) (l:=l1) fun y hy=>zfv H (by rw [hsp];simp [hy]);omega
   obtain ⟨τ',el,Y,s4',s5',s6',rfl,hY⟩:=zas (enc:=fun (p:Rl × Nat)=>T.tup [.int (p.2:Int),p.1.t]) (f:=fun x τ=>(yay [4,5] x τ).bind fun τ'=>yab G bkM τ')
    (fun done τ=>∃ (Y:List Tr) (s4 s5 s6:Sl),τ=[.val (yak Z),.val (stT Z),.own (Y.map trT),.val z.1.t,s4,s5,s6]/\Y.Perm (X++done.flatMap (ydo Z z)))
    (z.1.rs.zipIdx 0) [.val (yak Z),.val (stT Z),.own (X.map trT),.val z.1.t,s4,s5,s6] ⟨X,_,_,_,rfl,by rw [List.flatMap_nil,zyh]⟩ (by
     rintro m1 p m2 hsp2 τ ⟨Y,s4,s5,s6,rfl,hY⟩;have hp:p∈z.1.rs.zipIdx 0:=by rw [hsp2];simp
     have hr:=zbk hp;obtain ⟨L,hL,eL⟩:=ek z hz p.1 hr;have hLl:L.length<=4:=by rw [hL.length_eq];exact zyr (zc0 H hz hr).2.length_le (H.ok z hz).2.1
     have hYl:Y.length<=100:=by rw [hY.length_eq,zyj];have h1:=zeh (f:=ydo Z z) (n:=4) (l:=m1) fun q hq=>zfx H hz (zbk (by rw [hsp2];simp [hq]));have h2:=zym List.length hsp2;have h3:=(H.ok z hz).1.rl;simp at h2;omega
     obtain ⟨s6',e⟩:=zxw (j:=p.2) hLl Y hYl s6 eL;refine ⟨[.val (yak Z),.val (stT Z),.own ((Y++L.map (trO z p.2)).map trT),.val z.1.t,.val (.int (p.2:Int)),.val p.1.t,s6'],?_,Y++L.map (trO z p.2),_,_,_,rfl,?_⟩
     ·simp only [yay,setAll,xbs,xss,xsz];exact e
     ·rw [List.flatMap_append,List.flatMap_cons,List.flatMap_nil,zyh,<- zzb];exact hY.append (hL.map _))
   refine ⟨[.val (yak Z),.val (stT Z),.own (Y.map trT),.val z.1.t,s4',s5',s6'],?_,Y,_,_,_,_,rfl,?_⟩
   ·simp only [yay,xbs,xss,xsz];unfold bkO;rw [zaw (zbp (xs:=[.tup (z.1.rs.map Rl.t)]) (qc:=(z.1.rs.zipIdx 0).map fun (p:Rl × Nat)=>T.tup [.int (p.2:Int),p.1.t]) (τ0:=[.val (yak Z),.val (stT Z),.own (X.map trT),.val z.1.t,s4,s5,s6]) rfl (by simp only [evE,yac,ygq,Sl.get,xmc,xmn,xgs,xgz,xjs,xbs,t3]) (by simp only [items,zb7]) el),yab]
   ·rw [List.flatMap_append,List.flatMap_cons,List.flatMap_nil,zyh];exact hY.trans (hX.append_right _))
 rw [zaw (zbp (xs:=[yak Z]) (qc:=Z.map fun z=>z.1.t) (τ0:=[.val (yak Z),.val (stT Z),.own [],.no,.no,.no,.no]) rfl (by simp only [evE,yac,ygq,Sl.get,xmc,xmn,xgz,xjs,xbs]) rfl el)];obtain ⟨hok,he⟩:=(zqn H).perm (show (due Z).Perm X from hX.symm);rw [zfe (t:=.tup (ycl ((due Z).map trT))) (by
  rw [evS,show yad (yaj (.blt .toTuple (.blt .sorted (.var 2)))) [.val (yak Z),.val (stT Z),.own (X.map trT),s3,s4,s5,s6]=[.val (yak Z),.val (stT Z),.val (.lst (X.map trT)),s3,s4,s5,s6] from rfl];rw [zbq,zbq];have e2:evE G (.var 2) (ygq [.val (yak Z),.val (stT Z),.val (.lst (X.map trT)),s3,s4,s5,s6])=some (.lst (X.map trT)):=by simp only [evE,ygq,Sl.get,xmc,xmn,xgs,xgz,xjs]
  rw [e2,zx0,hok.sorted,he];rfl)]
 rfl
theorem zo8 {P:Pr} (p:Prg P) (hbr:P.fn "breaks"=some zd0) (h:P.fn "is_good"=some zel) (n:Nat) {Z:List Zt} (H:Sto Z):run P (n+8) "is_good" [yak Z,stT Z]=some (.bl ((due Z).isEmpty)):=by
 rw [zaf h rfl];have e1:(glo P (run P (n+7))).call "breaks" [yak Z,stT Z]=some (.tup (ycl ((due Z).map trT))):=ze7 p hbr n H;show zaa (yab (glo P (run P (n+7))) [.ret (.cmp .eq (.blt .len (.call "breaks" [.var 0,.var 1])) (.cst (.int 0)))] [.val (yak Z),.val (stT Z)])=_;generalize glo P (run P (n+7))=G at *;have hl:(ycl ((due Z).map trT)).length=(due Z).length:=by rw [(za7 _).length_eq,zya]
 rw [zav (t:=.bl ((due Z).isEmpty)) rfl (by
  simp only [evE,yac,ygq,Sl.get,xmc,xmn,xgs,xgz,xjs,xbs,e1,yaz,yax,hl];cases due Z with
  | nil=>rfl
  | cons a l=>rfl)]
 rfl
theorem zv3 {c:E} {a:List S} {ss:List S} {τ τ0:List Sl} (h0:yad (yaj c) τ=τ0) (h1:evE G c (ygq τ0)=some (.bl false)):yab G (.ite c a []::ss) τ=yab G ss τ0:=zaw (by rw [evS,h0,h1];rfl)
noncomputable def llI:List S:=[.asg 3 (.bin .add (.var 3) (.comp (.tup [.idx (.var 5) (.cst (.int 0)),.var 6,.var 0]) 1 .plain [.call "_law_broken" [.var 1,.var 2,.var 4,.var 6]] none))]
noncomputable def llO:List S:=[.loop [5,6] .enum [.idx (.var 4) (.cst (.int 3))] llI]
theorem zxj {N St Sr r:T} {z:Zt} {j:Nat} {L:List Row} (hL:L.length<=4) (X:List Tr) (hX:X.length<=100) (s7:Sl) (hc:G.call "_law_broken" [St,Sr,z.1.t,r]=some (.lst (L.map (kyT z.1)))) :
  yab G llI [.val N,.val St,.val Sr,.own (X.map trT),.val z.1.t,.val (.int (j:Int)),.val r,s7]=some (.nx [.val N,.val St,.val Sr,.own ((X++L.map (trO z j)).map trT),.val z.1.t,.val (.int (j:Int)),.val r,s7]):=by
 unfold llI;rw [ztg (t:=.lst ((X++L.map (trO z j)).map trT)) (τ0:=[.val N,.val St,.val Sr,.val (.lst (X.map trT)),.val z.1.t,.val (.int (j:Int)),.val r,s7]) (τ':=[.val N,.val St,.val Sr,.own ((X++L.map (trO z j)).map trT),.val z.1.t,.val (.int (j:Int)),.val r,s7]) rfl (by
  rw [zi8];have ec:evE G (.comp (.tup [.idx (.var 5) (.cst (.int 0)),.var 6,.var 0]) 1 .plain [.call "_law_broken" [.var 1,.var 2,.var 4,.var 6]] none) (ygq [.val N,.val St,.val Sr,.val (.lst (X.map trT)),.val z.1.t,.val (.int (j:Int)),.val r,s7])=some (.lst ((L.map (trO z j)).map trT)):=by
   rw [za0];have s1:yac G [.call "_law_broken" [.var 1,.var 2,.var 4,.var 6]] (ygq [.val N,.val St,.val Sr,.val (.lst (X.map trT)),.val z.1.t,.val (.int (j:Int)),.val r,s7])=some [.lst (L.map (kyT z.1))]:=by simp only [evE,yac,ygq,Sl.get,xmc,xmn,xgs,xgz,xjs,xbs,hc]
   have s2:yae .plain [.lst (L.map (kyT z.1))]=some (L.map (kyT z.1)):=by
    have hz:L.length<=16777216:=by omega
    simp [yae,items,hz]
   rw [s1,zx0,s2,zx0,zax (fun ps=>trT (trO z j ps)) fun ps hp=>by simp only [bnd,if_true,xbs,evE,yac,ygq,Sl.get,xmc,xmn,xgs,xgz,xjs,t0,List.length_cons,List.length_nil,Nat.zero_add,Nat.reduceAdd,Nat.reduceLeDiff,xms];rfl];rw [zy3];rfl
  have e3:evE G (.var 3) (ygq [.val N,.val St,.val Sr,.val (.lst (X.map trT)),.val z.1.t,.val (.int (j:Int)),.val r,s7])=some (.lst (X.map trT)):=by simp only [evE,ygq,Sl.get,xmc,xmn,xgs,xgz,xjs]
  rw [ec,e3,zx0,zx0,zyx];show (if (X.map trT).length+((L.map (trO z j)).map trT).length<=16777216 then _ else none)=_;rw [if_pos (by simp only [List.length_map];omega)]) rfl,yab]
theorem ztq (x:Tr):Slf 2 (trT x):=zg8 fun w hw=>by
 rcases omc hw with rfl | hw
 ·exact zp3 (zfd rfl) (by omega)
 ·rcases omc hw with rfl | hw
  ·exact zp3 (zfd rfl) (by omega)
  ·rw [omg hw];exact ztr _
theorem zrb (l:List Tr):Slf 3 (.tup (ycl (l.map trT))):=zg8 fun w hw=>by obtain ⟨x,_,rfl⟩:=omm ((za7 _).mem_iff.mp hw);exact ztq x
theorem zlw {P:Pr} (hc:P.fn "_law_cell_at"=some zbc) (hm:P.fn "_law_mixed"=some zch) (hd:P.fn "_law_drawn"=some zan) (ht:P.fn "_law_test"=some zau) (hp:P.fn "_law_pairs"=some za8) (hr:P.fn "_law_rule"=some za2)
  (hb:P.fn "_law_bare"=some zbd) (hs:P.fn "_law_schema"=some zb3) (hw:P.fn "_law_worth"=some zam) (hrw:P.fn "_law_row"=some zc8) (hlo:P.fn "_law_loose"=some zcz) (q:Lws P) (p:Prg P) (hbr:P.fn "breaks"=some zd0) (hgd:P.fn "is_good"=some zel) (hl:P.fn "law"=some zh0) (ns:List Int) :
  run P 20 "law" [.lst (ns.map .int)]=some (.bl true):=by
 obtain ⟨S,es,hSl,hSo,hSp,hSn,hSf⟩:=zhb hd ht hp hr hb hs 12 (ybx (yb1 ns 0) 0);have em0:(glo P (run P 19)).call "_law_mixed" [.lst (ns.map .int),.int 0]=some (.int (ybx (yb1 ns 0) 0)):=zgh hc hm 17 ns 0;have em1:(glo P (run P 19)).call "_law_mixed" [.lst (ns.map .int),.int 1]=some (.int (ybx (yb1 ns 1) 1)):=zgh hc hm 17 ns 1;obtain ⟨Z,ez,hZS,hZ⟩:=zlo hd hw hrw q.hnm q.hky hlo 16 hSo hSl (ybx (yb1 ns 1) 1);subst hZS;have eS:T.tup ((Z.map (·.1)).map Tb.t)=yak Z:=by rw [zy3];rfl
 have es':(glo P (run P 19)).call "_law_schema" [.int (ybx (yb1 ns 0) 0)]=some (yak Z):=by rw [<- eS];exact es
 have ez':(glo P (run P 19)).call "_law_loose" [yak Z,.int (ybx (yb1 ns 1) 1)]=some (stT Z):=by rw [<- eS];exact ez
 have H:Sto Z:=by refine ⟨by simpa using hSl,by rw [List.map_map] at hSn;exact hSn,fun z hz=>⟨hSo z.1 (List.mem_map.mpr ⟨z,hz,rfl⟩),(hZ z hz).1,(hZ z hz).2.1⟩,fun z hz r hr=>?_,fun z hz=>(hZ z hz).2.2⟩;have:=hSf z.1 (List.mem_map.mpr ⟨z,hz,rfl⟩) r hr;rw [zy3] at this;exact this
 have ek:∀ z∈Z,∀ r∈z.1.rs,(glo P (run P 19)).call "_law_broken" [yak Z,stT Z,z.1.t,r.t]=some (.lst ((yen Z z r).map (kyT z.1))):=fun z hz r hr=>zvn q 14 H hz hr (zc0 H hz hr).1;have eb:(glo P (run P 19)).call "breaks" [yak Z,stT Z]=some (.tup (ycl ((due Z).map trT))):=ze7 p hbr 12 H;have eg:(glo P (run P 19)).call "is_good" [yak Z,stT Z]=some (.bl ((due Z).isEmpty)):=zo8 p hbr hgd 11 H;rw [zaf hl rfl];show zaa (yab (glo P (run P 19)) [.asg 1 (.call "_law_schema" [.call "_law_mixed" [.var 0,.cst (.int 0)]]),.asg 2 (.call "_law_loose" [.var 1,.call "_law_mixed" [.var 0,.cst (.int 1)]]),.asg 3 (.lst []),.loop [4] .plain [.var 1] llO,
  .ite (.cmp .ne (.call "breaks" [.var 1,.var 2]) (.blt .toTuple (.blt .sorted (.var 3)))) [.ret (.cst (.bl false))] [],.asg 7 (.call "is_good" [.var 1,.var 2]),.ret (.land (.isi (.var 7) .tbool) (.cmp .eq (.var 7) (.cmp .eq (.var 3) (.lst []))))] [.val (.lst (ns.map .int)),.no,.no,.no,.no,.no,.no,.no])=_
 generalize glo P (run P 19)=G at *;generalize T.lst (ns.map .int)=N at *;rw [zar (t:=yak Z) (τ':=[.val N,.val (yak Z),.no,.no,.no,.no,.no,.no]) rfl (by simp only [evE,yac,ygq,Sl.get,xmc,xmn,xgz,xjs,xbs,em0,es']) rfl];rw [zar (t:=stT Z) (τ':=[.val N,.val (yak Z),.val (stT Z),.no,.no,.no,.no,.no]) rfl (by simp only [evE,yac,ygq,Sl.get,xmc,xmn,xgs,xgz,xjs,xbs,em1,ez']) rfl];rw [zar (t:=.lst []) (τ':=[.val N,.val (yak Z),.val (stT Z),.own [],.no,.no,.no,.no]) rfl (by rw [evE];rfl) rfl];obtain ⟨τ',el,s4,s5,s6,s7,rfl⟩:=zas (enc:=fun z:Zt=>z.1.t) (f:=fun x τ=>(yay [4] x τ).bind fun τ'=>yab G llO τ')
  (fun done τ=>∃ (s4 s5 s6 s7:Sl),τ=[.val N,.val (yak Z),.val (stT Z),.own ((done.flatMap (yde Z)).map trT),s4,s5,s6,s7])
  Z [.val N,.val (yak Z),.val (stT Z),.own [],.no,.no,.no,.no] ⟨_,_,_,_,rfl⟩ (by
   rintro l1 z l2 hsp τ ⟨s4,s5,s6,s7,rfl⟩;have hz:z∈Z:=by rw [hsp];simp
   have hl1:l1.length<=3:=by have h1:=zym List.length hsp;have h2:=H.l4;simp at h1;omega
   have hXl:(l1.flatMap (yde Z)).length<=36:=by have:=zeh (f:=yde Z) (n:=12) (l:=l1) fun y hy=>zfv H (by rw [hsp];simp [hy]);omega
   generalize hX:l1.flatMap (yde Z)=X at *;obtain ⟨τ',el,s5',s6',s7',rfl⟩:=zas (enc:=fun (p:Rl × Nat)=>T.tup [.int (p.2:Int),p.1.t]) (f:=fun x τ=>(yay [5,6] x τ).bind fun τ'=>yab G llI τ')
    (fun done τ=>∃ (s5 s6 s7:Sl),τ=[.val N,.val (yak Z),.val (stT Z),.own ((X++done.flatMap (ydo Z z)).map trT),.val z.1.t,s5,s6,s7])
    (z.1.rs.zipIdx 0) [.val N,.val (yak Z),.val (stT Z),.own (X.map trT),.val z.1.t,s5,s6,s7] ⟨_,_,_,by rw [List.flatMap_nil,zyh]⟩ (by
     rintro m1 p m2 hsp2 τ ⟨s5,s6,s7,rfl⟩;have hp:p∈z.1.rs.zipIdx 0:=by rw [hsp2];simp
     have hr:=zbk hp;have hLl:(yen Z z p.1).length<=4:=zyr (zc0 H hz hr).2.length_le (H.ok z hz).2.1;have hYl:(X++m1.flatMap (ydo Z z)).length<=100:=by rw [zyj];have h1:=zeh (f:=ydo Z z) (n:=4) (l:=m1) fun q hq=>zfx H hz (zbk (by rw [hsp2];simp [hq]));have h2:=zym List.length hsp2;have h3:=(H.ok z hz).1.rl;simp at h2;omega
     have e:=zxj (N:=N) (j:=p.2) hLl _ hYl s7 (ek z hz p.1 hr);refine ⟨[.val N,.val (yak Z),.val (stT Z),.own ((X++(m1++[p]).flatMap (ydo Z z)).map trT),.val z.1.t,.val (.int (p.2:Int)),.val p.1.t,s7],?_,_,_,_,rfl⟩;simp only [yay,setAll,xbs,xss,xsz];rw [e,List.flatMap_append,List.flatMap_cons,List.flatMap_nil,zyh,<- zzb];rfl)
   refine ⟨[.val N,.val (yak Z),.val (stT Z),.own (((l1++[z]).flatMap (yde Z)).map trT),.val z.1.t,s5',s6',s7'],?_,_,_,_,_,rfl⟩;simp only [yay,xbs,xss,xsz];unfold llO;rw [zaw (zbp (xs:=[.tup (z.1.rs.map Rl.t)]) (qc:=(z.1.rs.zipIdx 0).map fun (p:Rl × Nat)=>T.tup [.int (p.2:Int),p.1.t]) (τ0:=[.val N,.val (yak Z),.val (stT Z),.own (X.map trT),.val z.1.t,s5,s6,s7]) rfl (by simp only [evE,yac,ygq,Sl.get,xmc,xmn,xgs,xgz,xjs,xbs,t3]) (by simp only [items,zb7]) el),yab];rw [List.flatMap_append,List.flatMap_cons,List.flatMap_nil,zyh,hX];rfl)
 rw [zaw (zbp (xs:=[yak Z]) (qc:=Z.map fun z=>z.1.t) (τ0:=[.val N,.val (yak Z),.val (stT Z),.own [],.no,.no,.no,.no]) rfl (by simp only [evE,yac,ygq,Sl.get,xmc,xmn,xgs,xgz,xjs,xbs]) rfl el)];have e3:∀ s7:Sl,evE G (.var 3) (ygq [.val N,.val (yak Z),.val (stT Z),.val (.lst ((due Z).map trT)),s4,s5,s6,s7])=some (.lst ((due Z).map trT)):=fun s7=>by simp only [evE,ygq,Sl.get,xmc,xmn,xgs,xgz,xjs]
 rw [zv3 (τ0:=[.val N,.val (yak Z),.val (stT Z),.val (.lst ((due Z).map trT)),s4,s5,s6,s7]) rfl (by rw [evE,zbq,zbq,e3,zx0,(zqn H).sorted];simp only [evE,yac,ygq,Sl.get,xmc,xmn,xgs,xgz,xjs,xbs,eb];exact zvd (zrb (due Z)) (by omega))];rw [zar (t:=.bl ((due Z).isEmpty)) (τ':=[.val N,.val (yak Z),.val (stT Z),.val (.lst ((due Z).map trT)),s4,s5,s6,.val (.bl ((due Z).isEmpty))]) rfl (by simp only [evE,yac,ygq,Sl.get,xmc,xmn,xgs,xgz,xjs,xbs,eg]) rfl];rw [zav (t:=.bl true) rfl (by
  rw [zlx (by simp only [evE,ygq,Sl.get,xmc,xmn,xgs,xgz,xjs,xbs];rfl)];have eq0:yax .eq (.lst ((due Z).map trT)) (.lst [])=some (.bl ((due Z).isEmpty)):=by show eqC _ _=_;unfold eqC;rw [if_pos (by simp [dpP,yba]),eqT,zdn]
  simp only [evE,yac,ygq,Sl.get,xmc,xmn,xgs,xgz,xjs,xbs,List.length_nil,Nat.zero_le,if_true,xms,eq0];cases (due Z).isEmpty<;>rfl)]
 rfl
end
end Ev.K04
section
section
lay_quick PySem.Challenge.pw_dealtables_k20_breaks
namespace Ev
open PySem Spec PyProof.Rows L2 K04
noncomputable def pT:Program:=PySem.W.Fast.tw16732972995920917910
theorem yfh:PySem.Challenge.pw_dealtables_k20_breaks=pT:=PySem.W.Fast.te16732972995920917910
noncomputable def top (i:Nat):Stmt:=pT.main.body.getD i (.Pass ⟨0,0,0,0⟩)
noncomputable def tab:Tab:=("table_of",zb8,top 1,["schema", "name"])::("worths_of",zal,top 2,["table", "row", "names"])::("holds",zbj,top 4,["table", "test", "row"])::("opposite",zbs,top 5,["answer"])::("joined",zc9,top 6,["settling", "answers"])::("compared",za3,top 7,["word", "worths"])::("key_of",zci,top 9,["table", "row"])::("rows_of",zcn,top 10,["schema", "store", "name"])::("rows_by_key",zbb,top 11,["schema", "store", "name"])::("is_kept",zek,top 12,["table", "row", "rule"])::("key_referred_to",zao,top 13,["table", "rule", "row"])::("references_by",zbo,top 14,["table", "rule", "rows"])::("breaks",zd0,top 15,["schema", "store"])::("is_good",zel,top 16,["schema", "store"])::("keys_that_break",zbe,top 17,["schema", "store", "table", "rule"])::("keys_alike",zco,top 18,["table", "rule", "rows"])::("keys_referring_to_none",zaj,top 19,["schema", "store", "table", "rule"])::("_law_cell_at",zbc,top 21,["_law_script", "_law_k"])::("_law_mixed",zch,top 22,["_law_script", "_law_k"])::("_law_drawn",zan,top 23,["_law_number", "_law_k"])::("_law_names",za9,top 24,["_law_table_here"])::("_law_table",zcy,top 25,["_law_schema_here", "_law_name"])::("_law_key",zb9,top 26,["_law_table_here", "_law_row_here"])::("_law_worths",zbw,top 27,["_law_table_here", "_law_row_here", "_law_columns"])::("_law_rows",zdk,top 28,["_law_schema_here", "_law_store", "_law_name"])::("_law_test",zau,top 29,["_law_table_here", "_law_number", "_law_deep"])::("_law_bare",zbd,top 30,["_law_name", "_law_number"])::("_law_pairs",za8,top 31,["_law_table_here", "_law_kinds"])::("_law_rule",za2,top 32,["_law_bare_here", "_law_table_here", "_law_number"])::("_law_schema",zb3,top 33,["_law_number"])::("_law_worth",zam,top 34,["_law_column", "_law_number"])::("_law_row",zc8,top 35,["_law_table_here", "_law_number"])::("_law_level",zaq,top 36,["_law_table_here", "_law_test_here", "_law_row_here"])::("_law_broken",zdo,top 37,["_law_schema_here", "_law_store", "_law_table_here", "_law_rule_here"])::("_law_loose",zcz,top 38,["_law_schema_here", "_law_number"])::("law",zh0,top 39,["_law_script"])::[]
noncomputable def cons:List (Str × T):=[]
theorem ygj:(tab.all fun p=>ygp p.2.1 p.2.2.1 p.2.2.2)=true:=by kernel_rfl
theorem ygh:(tab.map fun p=>ydq 60 ⟨zab p.2.2.1,zbf (zab p.2.2.1)⟩ (zbr p.2.2.1))=tab.map fun p=>some p.2.1.body:=by kernel_rfl
theorem tab_st:∀ p∈tab,St p.1 p.2.1 p.2.2.1 p.2.2.2:=fun p hp=>zw0 (oml ygj p hp) (List.map_inj_left.mp ygh p hp)
theorem law_mem:(("law":Str),zh0,top 39,[("_law_script":Str)])∈tab:=(.tail _ (.tail _ (.tail _ (.tail _ (.tail _ (.tail _ (.tail _ (.tail _ (.tail _ (.tail _ (.tail _ (.tail _ (.tail _ (.tail _ (.tail _ (.tail _ (.tail _ (.tail _ (.tail _ (.tail _ (.tail _ (.tail _ (.tail _ (.tail _ (.tail _ (.tail _ (.tail _ (.tail _ (.tail _ (.tail _ (.tail _ (.tail _ (.tail _ (.tail _ (.tail _ (.head _))))))))))))))))))))))))))))))))))))
theorem law_pure:∀ ns:List Int,ns.length<=63->run (tab.pr cons) 20 "law" [.lst (ns.map .int)]=some (.bl true):=fun ns _=>K04.zlw rfl rfl rfl rfl rfl rfl rfl rfl rfl rfl rfl ⟨rfl,rfl,rfl,rfl,rfl,rfl,rfl⟩ ⟨rfl,rfl,rfl,rfl,rfl,rfl,rfl,rfl,rfl,rfl,rfl,rfl,rfl,rfl,rfl⟩ rfl rfl rfl ns
end Ev
end
end
section
section
namespace Ev
open PySem PySem.Spec PySem.W PyProof.Rows L2
noncomputable def qT:Program:=PySem.W.view pT [1,2,4,5,6,7,9,10,11,12,13,14,15,16,17,18,19,21,22,23,24,25,26,27,28,29,30,31,32,33,34,35,36,37,38,39]
noncomputable def xT (s:Shared):Bool:=xlAt qT [] s&&recOk [] s
noncomputable def sts:List (Str × Stmt):=("table_of",top 1)::("worths_of",top 2)::("holds",top 4)::("opposite",top 5)::("joined",top 6)::("compared",top 7)::("key_of",top 9)::("rows_of",top 10)::("rows_by_key",top 11)::("is_kept",top 12)::("key_referred_to",top 13)::("references_by",top 14)::("breaks",top 15)::("is_good",top 16)::("keys_that_break",top 17)::("keys_alike",top 18)::("keys_referring_to_none",top 19)::("_law_cell_at",top 21)::("_law_mixed",top 22)::("_law_drawn",top 23)::("_law_names",top 24)::("_law_table",top 25)::("_law_key",top 26)::("_law_worths",top 27)::("_law_rows",top 28)::("_law_test",top 29)::("_law_bare",top 30)::("_law_pairs",top 31)::("_law_rule",top 32)::("_law_schema",top 33)::("_law_worth",top 34)::("_law_row",top 35)::("_law_level",top 36)::("_law_broken",top 37)::("_law_loose",top 38)::("law",top 39)::[]
noncomputable def hkT:Hook:=zkq sts ("_law_spoilt"::bnames) cons
noncomputable def hdL (w:World):=(openEnds treeTable pT w 2244).map fun s=>(openSeen qT [] (importedModules pT.main.body) xT true s,ybc (sts.map (·.1)) ("_law_spoilt"::bnames) (cons.map (·.1)) s.heap)
noncomputable def hdR (w:World):=some (openGood qT [],ybg sts ("_law_spoilt"::bnames) cons)
lay_quick Ev.hdL Ev.hdR
theorem yex:∀ w,PySem.W.Fast.tw16613198539260469538 w=PySem.W.Fast.tw4742246816059606431 w:=fun w=>by kernel_rfl
theorem hd_left':LeftO PySem.Challenge.pw_dealtables_k20_breaks qT [] xT hkT.obs hkT.val 2244:=by rw [yfh];exact fun w=>((congrFun PySem.W.Fast.te16613198539260469538 w).trans (yex w)).trans (congrFun PySem.W.Fast.te4742246816059606431 w).symm
theorem nm_law:("law":Str)=⟨#[108,97,119]⟩:=by decide +kernel
noncomputable def dL:DefRec:=⟨⟨#[108,97,119]⟩,zcg (top 39),zbr (top 39),zab (top 39),(match top 39 with | .FunctionDef _ _ _ _ _ _ _ _ _ p=>p | _=>⟨0,0,0,0⟩)⟩
theorem hd_def:defOf qT ("law":Str)=some (dL,[]):=by rw [nm_law];kernel_rfl
theorem hd_the:Program.theDef PySem.Challenge.pw_dealtables_k20_breaks ("law":Str)=some (dL.params,dL.body,dL.scope):=by rw [yfh,nm_law];kernel_rfl
end Ev
open PySem PySem.W PyProof.Rows
set_option maxRecDepth 100000 in
set_option maxHeartbeats 0 in
theorem PySem.Challenge.cw_dealtables_k20_breaks_holds : PySem.Challenge.rw_dealtables_k20_breaks.Holds := by
 w_on;o_law
 refine PySem.W.holds_open (q:=Ev.qT) (loose:=[]) (Xt:=Ev.xT) (XP:=XL Ev.qT []) (Yf:=Ev.hkT.obs) (Ya:=Ev.hkT.val) (YP:=Ev.hkT.says) (N:=2244) Ev.hd_left' Ev.hkT.of Ev.hkT.keeps (fun s e=>xl_of s (Bool.and_eq_true_iff.mp e).1) XL.keeps Ev.hd_def Ev.hd_the rfl (fun s e=>recFacts_of (Bool.and_eq_true_iff.mp e).2) rfl (by assumption) (by first | k_qdec | decide +kernel) ⟨rfl,rfl,rfl,rfl,rfl,by decide +kernel⟩ ?hw ?hc
 case hw=>w_witness2
 case hc=>exact Ev.zno (l:=PySem.Challenge.rw_dealtables_k20_breaks) (n:=63) (k:=20) (x:="_law_script") (fs:=Ev.tab.sts) (R:=Ev.tab.pr Ev.cons) rfl (by decide) rfl ⟨rfl,by decide,by decide⟩ (fun w mg fa h0 h KX e0 G hmg=>Ev.zth Ev.tab_st KX e0 G (by rw [Ev.nm_law];exact hmg) Ev.law_mem rfl) (.head _) Ev.law_pure
end
end

end
