import PyProof.Rows.All
import Wide.All
import OpenK.AllK
import Wide.FinOn
import Lean
import PyProof.EqAt
import PyProof.EqKinds
import PyProof.TupleCall
import PySem.Syntax
import PySem.Builtin.Str.Common
import PySem.Eval
import PyProof.CompFree
import PyProof.Cells
import PyProof.NeKinds
import PyProof.FString5
import PyProof.Draws
import PyProof.EnumMake
import PyProof.TupleIter
import PyProof.EnumFor
import KE.KSortTup
import KE.KDictSum
import KE.KItemsList
import PyProof.ZipIter
import PyProof.Rows.SetFrom
import PyProof.Rows.SetListFold
import KE.KLam
import PySem.Challenge.RW_dealtables_k07_lists_anywhere
set_option Elab.async false
set_option linter.all false
set_option maxRecDepth 100000
set_option maxHeartbeats 8000000
noncomputable section
open PySem PySem.Spec PyProof.Rows
def zyb:=@Heap.get?_push_of_some
def zyc:=@wpAny_bind
def zyd:=@Bool.and_eq_true
def zye:=@Option.bind_some
def zyf:=@wpAny_pure
def zyg:=@Heap.get?_push_size
def zyh:=@List.map_cons
def zyi:=@List.getElem?_eq_getElem
def zyj:=@List.length_map
def zyk:=@List.size_toArray
def zyl:=@Nat.le_refl
def zym:=@Heap.lt_size
def zyn:=@List.mem_cons_of_mem
def zyo:=@Heap.size_push
def zyp:=@List.getD_eq_getElem?_getD
def zyq:=@Nat.lt_of_lt_of_le
def zyr:=@decide_eq_true_eq
def zys:=@List.mem_cons_self
def zyt:=@List.length_cons
def zyu:=@List.getElem?_cons_succ
def zyv:=@List.getElem?_cons_zero
def zyw:=@decide_eq_true
def zyx:=@List.length_append
def zyy:=@Nat.ne_of_lt
def zyz:=@Bool.false_ne_true
def zy0:=@decide_eq_false
def zy1:=@Nat.lt_irrefl
def zy2:=@List.not_mem_nil
def zy3:=@List.mem_append_right
def zy4:=@List.lookup_cons
def zy5:=@Option.some.inj
def zy6:=@List.append_nil
def zy7:=@wpAny_callSpecial?_slot
def zy8:=@of_decide_eq_true
def zy9:=@Nat.zero_le
def zza:=@Array.length_toList
def zzb:=@wpAny_newObj_type
def zzc:=@List.getElem?_map
def zzd:=@Int.toNat_natCast
def zze:=@wpAny_call_entry
def zzf:=@congrArg
def zzg:=@List.filterMap_cons
def zzh:=@Bool.false_eq_true
def zzi:=@List.getElem?_set_ne
def zzj:=@List.getElem?_append_left
def zzk:=@List.map_map
def zzl:=@List.getElem?_append_right
def zzm:=@List.mem_of_getElem?
def zzn:=@Nat.le_trans
def zzo:=@List.mem_range
def zzp:=@List.append_assoc
def zzq:=@List.length_take
def zzr:=@Array.getElem?_toList
def zzs:=@List.map_append
def zzt:=@List.length_singleton
def zzu:=@wpAny_attempt
def zzv:=@Nat.lt_succ_self
def zzw:=@wpAny_mono
end
theorem obs {α β:Type} {o:Option α} {f:α->Option β} {b:β}:o.bind f=some b->∃ a,o=some a/\f a=some b:=Option.bind_eq_some_iff.mp
theorem oms {α β:Type} {o:Option α} {f:α->β} {b:β}:o.map f=some b->∃ a,o=some a/\f a=b:=Option.map_eq_some_iff.mp
theorem omc {α:Type} {a b:α} {l:List α}:a∈b::l->a=b\/a∈l:=List.mem_cons.mp
theorem oma {α:Type} {a:α} {s t:List α}:a∈s++t->a∈s\/a∈t:=List.mem_append.mp
theorem omm {α β:Type} {f:α->β} {l:List α} {b:β}:b∈l.map f->∃ a,a∈l/\f a=b:=List.mem_map.mp
theorem omg {α:Type} {a b:α}:a∈[b]->a=b:=List.mem_singleton.mp
theorem oml {α:Type} {p:α->Bool} {l:List α}:l.all p=true->∀ x,x∈l->p x=true:=List.all_eq_true.mp
theorem ome {α:Type} {l:List α} {i:Nat} {a:α}:l[i]?=some a->∃ h:i<l.length,l[i]=a:=List.getElem?_eq_some_iff.mp
section
namespace L2
open PySem PySem.Spec PyProof.Rows
abbrev Key:=Sum Int (Option Str)
def isNon:Value->Bool
 | .none=>true
 | _=>false
theorem zhw {v:Value} (h:isNon v=true):v=Value.none:=by cases v<;>first | rfl | cases h
def keyIs:Key->Value->Bool
 | .inl k,v=>Value.isInt k v
 | .inr (some x),v=>Value.isStrOf x v
 | .inr none,v=>isNon v
def keyH (w:World):Key->Int
 | .inl k=>hashInt k
 | .inr (some x)=>hashStr w x
 | .inr none=>4238894112
theorem keyIs_shape:∀ {k:Key} {v:Value},keyIs k v=true->(∃ i t,k=Sum.inl i/\v=Value.int i t)\/(∃ x t,k=Sum.inr (some x)/\v=Value.str x t)\/(k=Sum.inr none/\v=Value.none)
 | .inl i,v,h=>by
  obtain ⟨t,e⟩:=Value.isInt_shape (k:=i) (v:=v) h
  exact .inl ⟨i,t,rfl,e⟩
 | .inr (some x),v,h=>by
  obtain ⟨t,e⟩:=Value.isStrOf_shape (x:=x) (v:=v) h
  exact .inr (.inl ⟨x,t,rfl,e⟩)
 | .inr none,v,h=>.inr (.inr ⟨rfl,zhw h⟩)
theorem zgl (i:Int) (t:Tok):keyIs (.inl i) (.int i t)=true:=by simp [keyIs,Value.isInt]
theorem zgk (x:Str) (t:Tok):keyIs (.inr (some x)) (.str x t)=true:=by simp [keyIs,Value.isStrOf]
theorem zwl (a b:Int):decide ((Sum.inl a:Key)=Sum.inl b)=(a==b):=by
 by_cases e:a=b
 ·subst e;simp
 ·have h:¬ (Sum.inl a:Key)=Sum.inl b:=fun q=>e (Sum.inl.inj q)
  rw [zy0 h]
  exact (beq_eq_false_iff_ne.mpr e).symm
theorem zwi (a b:Str):decide ((Sum.inr (some a):Key)=Sum.inr (some b))=decide (a=b):=by
 by_cases e:a=b
 ·subst e;simp
 ·have h:¬ (Sum.inr (some a):Key)=Sum.inr (some b):=fun q=>e (zy5 (Sum.inr.inj q))
  rw [zy0 h,zy0 e]
theorem zq7 (a:Int) (b:Option Str):decide ((Sum.inl a:Key)=Sum.inr b)=false:=zy0 (fun q=>nomatch q)
theorem zq6 (a:Option Str) (b:Int):decide ((Sum.inr a:Key)=Sum.inl b)=false:=zy0 (fun q=>nomatch q)
theorem zwh (a:Str):decide ((Sum.inr (some a):Key)=Sum.inr none)=false:=zy0 (fun q=>nomatch (Sum.inr.inj q))
theorem zwj (a:Str):decide ((Sum.inr none:Key)=Sum.inr (some a))=false:=zy0 (fun q=>nomatch (Sum.inr.inj q))
theorem zwk:decide ((Sum.inr none:Key)=Sum.inr none)=true:=zyw rfl
theorem zdo {prog:Program} {w:World} {A:Around} {E:Value->Shared->Prop} {s:Shared} {Q:Int->Shared->Prop} (h:Q 4238894112 { s with toks:=s.toks+1 }):wpAny (model prog w) A (PySem.pyHash .none) Q E s :=
 PySem.W.pyHash_slot (T:="NoneType") rfl PySem.F.slot_NoneType_hash PySem.F.entry_NoneType_hash (PySem.F.args_NoneType_hash_1 _) (beq_builtin_none _) (.inl rfl) (zyc (zyf (zyc (wpAny_mkInt (zyf ⟨_,_,rfl,h⟩)))))
def zah (prog:Program) (w:World):PySem.KeyKind prog w Key where
 is:=keyIs
 hash:=keyH w
 inj:=fun v a b ha hb=>by
  rcases keyIs_shape ha with ⟨i,t,rfl,rfl⟩ | ⟨x,t,rfl,rfl⟩ | ⟨rfl,rfl⟩<;>rcases keyIs_shape hb with ⟨j,u,rfl,e⟩ | ⟨y,u,rfl,e⟩ | ⟨rfl,e⟩<;>first | (cases e;rfl) | cases e
 byValue:=fun k v h=>by
  rcases keyIs_shape h with ⟨i,t,rfl,rfl⟩ | ⟨x,t,rfl,rfl⟩ | ⟨rfl,rfl⟩<;>rfl
 pyHash:=fun hv h=>by
  rcases keyIs_shape hv with ⟨i,t,rfl,rfl⟩ | ⟨x,t,rfl,rfl⟩ | ⟨rfl,rfl⟩
  ·exact wpAny_pyHash_int h
  ·exact wpAny_pyHash_str h
  ·exact zdo h
 eqBool:=fun hu hv h=>by
  rcases keyIs_shape hu with ⟨i,t,rfl,rfl⟩ | ⟨x,t,rfl,rfl⟩ | ⟨rfl,rfl⟩
  ·rcases keyIs_shape hv with ⟨j,u,rfl,rfl⟩ | ⟨y,u,rfl,rfl⟩ | ⟨rfl,rfl⟩
   ·rw [zwl] at h;exact wpAny_eqBool_int h
   ·rw [zq7] at h;exact SeqAt.EqAt.int_str i t y u _ _ _ _ h
   ·rw [zq7] at h;exact SeqAt.EqAt.int_none i t _ _ _ _ h
  ·rcases keyIs_shape hv with ⟨j,u,rfl,rfl⟩ | ⟨y,u,rfl,rfl⟩ | ⟨rfl,rfl⟩
   ·rw [zq6] at h;exact SeqAt.EqAt.str_int x t j u _ _ _ _ h
   ·rw [zwi] at h;exact wpAny_eqBool_str h
   ·rw [zwh] at h;exact SeqAt.EqAt.str_none x t _ _ _ _ h
  ·rcases keyIs_shape hv with ⟨j,u,rfl,rfl⟩ | ⟨y,u,rfl,rfl⟩ | ⟨rfl,rfl⟩
   ·rw [zq6] at h;exact SeqAt.EqAt.none_int j u _ _ _ _ h
   ·rw [zwj] at h;exact SeqAt.EqAt.none_str y u _ _ _ _ h
   ·rw [zwk] at h;exact SeqAt.EqAt.same .none _ _ _ _ h
 «strs»:=fun k x t v h=>by
  rcases keyIs_shape h with ⟨i,u,rfl,e⟩ | ⟨y,u,rfl,e⟩ | ⟨rfl,e⟩
  ·exact nomatch e
  ·injection e with e1 _
   subst e1
   cases v<;>rfl
  ·exact nomatch e
theorem zhp (prog:Program) (w:World) (i:Int) (t:Tok):(zah prog w).is (.inl i) (.int i t)=true:=zgl i t
theorem zho (prog:Program) (w:World) (x:Str) (t:Tok):(zah prog w).is (.inr (some x)) (.str x t)=true:=zgk x t
end L2
namespace L2
open PySem PySem.Spec PyProof.Rows
variable {b:Addr}
inductive V where
 | non | bl (b:Bool) | int (i:Int) | str (x:Str) | byt (b:Array UInt8) | flt (b:UInt64) | ref (a:Addr) | ty (n:String)
 deriving DecidableEq
def RelV:V->Value->Prop
 | .non,u=>u=Value.none
 | .bl b,u=>u=Value.bool b
 | .int i,u=>∃ t,u=Value.int i t
 | .str x,u=>∃ t,u=Value.str x t
 | .byt b,u=>∃ t,u=Value.bytes b t
 | .flt b,u=>∃ t,u=Value.float b t
 | .ref a,u=>u=Value.ref a
 | .ty n,u=>u=Value.type n
abbrev Vals:List V->List Value->Prop:=Paired RelV
theorem Vals.length {xs:List V} {us:List Value} (r:Vals xs us):xs.length=us.length:=Paired.length r
theorem Vals.get:∀ {xs:List V} {us:List Value} {i:Nat} {x:V},Vals xs us->xs[i]?=some x->∃ u,us[i]?=some u/\RelV x u
 | _,_,_,_,.nil,e=>by simp at e
 | _,_,0,_,.cons r _,e=>by simp at e;subst e;exact ⟨_,rfl,r⟩
 | _,_,i+1,x,.cons _ t,e=>by
  obtain ⟨u,h1,h2⟩:=Vals.get (i:=i) (x:=x) t (by simpa using e)
  exact ⟨u,by simpa using h1,h2⟩
theorem Vals.append:∀ {xs ys:List V} {us ws:List Value},Vals xs us->Vals ys ws->Vals (xs++ys) (us++ws)
 | _,_,_,_,.nil,s=>s
 | _,_,_,_,.cons r t,s=>.cons r (Vals.append t s)
theorem Vals.take:∀ {xs:List V} {us:List Value} (n:Nat),Vals xs us->Vals (xs.take n) (us.take n)
 | _,_,0,_=>.nil
 | _,_,_+1,.nil=>.nil
 | _,_,n+1,.cons r t=>.cons r (Vals.take n t)
theorem Vals.drop:∀ {xs:List V} {us:List Value} (n:Nat),Vals xs us->Vals (xs.drop n) (us.drop n)
 | _,_,0,r=>r
 | _,_,_+1,.nil=>.nil
 | _,_,n+1,.cons _ t=>Vals.drop n t
def RelO:Option V->Option Value->Prop
 | some v,some u=>RelV v u
 | none,none=>True
 | _,_=>False
def KV {κ:Type}:List (κ × V)->List (κ × Value)->Prop:=Paired fun (p:κ × V) (q:κ × Value)=>p.1=q.1/\RelV p.2 q.2
def kV:Key->V
 | .inl i=>.int i
 | .inr (some x)=>.str x
 | .inr none=>.non
inductive HO where
  | lst (xs:List V)
  | tup (xs:List V)
  | dK (kvs:List (Key × V)) | dT (kvs:List (List Key × V))
  | set (S:Int->Bool) (n:Nat)
  | ins (C dx:Addr) (fs:List (Str × V))
  | own (x:Addr)
  | xd (fs:List (Str × V))
  | met (f x:Addr)
  | rng (lo hi:Int)
  | frz (o:Obj) (u:HO)
  | tbl (ps:Array Value)
  | ext (φ:Heap->Prop)
abbrev Hp:=Addr->Option HO
def upd (H:Hp) (a:Addr) (o:HO):Hp:=fun b=>if b=a then some o else H b
theorem zae {H:Hp} {a:Addr} {o:HO}:upd H a o a=some o:=by unfold upd;rw [if_pos rfl]
theorem zad {H:Hp} {a:Addr} {o:HO} (h:b≠a):upd H a o b=H b:=by unfold upd;rw [if_neg h]
theorem zcb {H:Hp} {a:Addr} {o u:HO} (h:H a=some o) (h':H b=some u) (d:o≠u):a≠b:=by
 intro e;subst e;rw [h] at h';exact d (zy5 h')
theorem zac {H:Hp} {a:Addr} {o:HO} (h:H a=some o) (h':H b=none):a≠b:=by
 intro e;subst e;rw [h] at h';cases h'
section
variable (P:Program) (w:World)
def ObjOk (H:Hp) (h:Heap) (a:Addr):HO->Prop
 | .lst xs=>xs.length<=sizeLine/\∃ (its:List Value) (n:Nat),Vals xs its/\h.get? a=some { cls:=.type "list",data:=.seq its.toArray n }
 | .tup xs=>xs.length<=sizeLine/\∃ its:List Value,Vals xs its/\IsTup h a its.toArray
 | .dK kvs=>kvs.length<=sizeLine/\(a==sysModules)=false/\∃ vs,KV kvs vs/\h.DictOf (zah P w) a vs
 | .dT kvs=>kvs.length<=sizeLine/\(a==sysModules)=false/\∃ xs:List (List Key × Addr × Value),
   Paired (fun (p:List Key × V) (q:List Key × Addr × Value)=>p.1=q.1/\H q.2.1=some (.tup (p.1.map kV))/\RelV p.2 q.2.2) kvs xs /\
   ∃ o es ep,h.get? a=some o/\o.ExactDict/\o.data=.dict es ep/\es.toList=xs.map (entryOfKey (tupleKind (zah P w)))/\(xs.map (·.1)).Nodup
 | .set S n=>h.SetOf (intKind P w) a S n
 | .ins C dx fs=>H dx=some (.own a)/\fs.length<=1000/\dx≠a/\h.get? a=some (PySem.W.instObj C dx) /\
   ∃ mA,h.Ns1 dx mA/\(∀ f,RelO (fs.lookup f) (mA f))/\PySem.Within mA (fs.map (·.1))
 | .own _=>∃ o,h.get? a=some o
 | .xd fs=>∃ mA,h.Ns1 a mA/\∀ f,RelO (fs.lookup f) (mA f)
 | .rng lo hi=>∃ t u v,h.get? a=some { cls:=.type "range",data:=.fields #[.int lo t,.int hi u,.int 1 v] }
 | .frz o u=>h.get? a=some o/\ObjOk H h a u
 | .tbl ps=>h.get? a=some { cls:=.none,data:=.fields ps }
 | .met f x=>h.get? a=some (PySem.W.methodObj (.ref f) (.ref x))
 | .ext φ=>φ h/\(∃ o,h.get? a=some o)/\∀ h1 h2:Heap,φ h1->(∀ o,h1.get? a=some o->h2.get? a=some o)->φ h2
def HOk (H:Hp) (h:Heap):Prop:=∀ a o,H a=some o->ObjOk P w H h a o
end
section
variable {P:Program} {w:World} {H H':Hp} {h h':Heap} {a:Addr} {o:HO}
theorem ObjOk.lt (x:ObjOk P w H h a o):a<h.objs.size:=by
 cases o with
 | lst xs=>obtain ⟨_,_,_,_,e⟩:=x;exact zym e
 | tup xs=>obtain ⟨_,_,_,p⟩:=x;exact p.lt
 | dK kvs=>obtain ⟨_,_,_,_,o,_,_,e,_⟩:=x;exact zym e
 | dT kvs=>obtain ⟨_,_,_,_,o,_,_,e,_⟩:=x;exact zym e
 | set S n=>obtain ⟨o,_,_,_,e,_⟩:=x;exact zym e
 | ins C dx fs=>obtain ⟨_,_,_,e,_⟩:=x;exact zym e
 | own y=>obtain ⟨_,e⟩:=x;exact zym e
 | xd fs=>obtain ⟨_,⟨_,_,_,e,_⟩,_⟩:=x;exact zym e
 | rng lo hi=>obtain ⟨_,_,_,e⟩:=x;exact zym e
 | frz ob u=>obtain ⟨e,_⟩:=x;exact zym e
 | tbl ps=>exact zym (show h.get? a=some _ from x)
 | met f y=>exact zym (show h.get? a=some _ from x)
 | ext φ=>obtain ⟨_,⟨_,e⟩,_⟩:=x;exact zym e
theorem Paired.mapP {α β:Type} {F G:α->β->Prop}:∀ {l₁:List α} {l₂:List β},Paired F l₁ l₂->(∀ a b,F a b->G a b)->Paired G l₁ l₂
 | _,_,.nil,_=>.nil
 | _,_,.cons r t,f=>.cons (f _ _ r) (Paired.mapP t f)
theorem ObjOk.stay (x:ObjOk P w H h a o) (k:∀ b u,(b=a\/H b=some (.own a))->h.get? b=some u->h'.get? b=some u)
  (ho:∀ b,H b=some (.own a)->H' b=some (.own a)) (ht:∀ b xs,H b=some (.tup xs)->H' b=some (.tup xs)):ObjOk P w H' h' a o:=by
 induction o with
 | lst xs=>obtain ⟨z,its,n,r,e⟩:=x;exact ⟨z,its,n,r,k _ _ (.inl rfl) e⟩
 | tup xs=>obtain ⟨z,its,r,ob,e,c⟩:=x;exact ⟨z,its,r,ob,k _ _ (.inl rfl) e,c⟩
 | dK kvs=>obtain ⟨z,y,vs,r,ob,es,ep,e,c⟩:=x;exact ⟨z,y,vs,r,ob,es,ep,k _ _ (.inl rfl) e,c⟩
 | dT kvs =>
  obtain ⟨z,y,xs,r,ob,es,ep,e,c⟩:=x
  exact ⟨z,y,xs,Paired.mapP r fun p q z=>⟨z.1,ht _ _ z.2.1,z.2.2⟩,ob,es,ep,k _ _ (.inl rfl) e,c⟩
 | set S n=>obtain ⟨ob,es,ep,t,e,c⟩:=x;exact ⟨ob,es,ep,t,k _ _ (.inl rfl) e,c⟩
 | ins C dx fs =>
  obtain ⟨d,z,ne,e,mA,⟨od,es,ep,e2,c⟩,r⟩:=x
  exact ⟨ho _ d,z,ne,k _ _ (.inl rfl) e,mA,⟨od,es,ep,k _ _ (.inr d) e2,c⟩,r⟩
 | own y=>obtain ⟨ob,e⟩:=x;exact ⟨ob,k _ _ (.inl rfl) e⟩
 | xd fs=>obtain ⟨mA,⟨od,es,ep,e,c⟩,r⟩:=x;exact ⟨mA,⟨od,es,ep,k _ _ (.inl rfl) e,c⟩,r⟩
 | rng lo hi=>obtain ⟨t,u,v,e⟩:=x;exact ⟨t,u,v,k _ _ (.inl rfl) e⟩
 | frz ob u ih=>obtain ⟨e,q⟩:=x;exact ⟨k _ _ (.inl rfl) e,ih q⟩
 | tbl ps =>
  have e:h.get? a=some { cls:=.none,data:=.fields ps }:=x
  show h'.get? a=some { cls:=.none,data:=.fields ps }
  exact k a _ (.inl rfl) e
 | met f y =>
  have e:h.get? a=some (PySem.W.methodObj (.ref f) (.ref y)):=x
  show h'.get? a=some (PySem.W.methodObj (.ref f) (.ref y))
  exact k a _ (.inl rfl) e
 | ext φ=>obtain ⟨p,⟨o,e⟩,st⟩:=x;exact ⟨st _ _ p fun o q=>k _ _ (.inl rfl) q,⟨o,k _ _ (.inl rfl) e⟩,st⟩
theorem HOk.lt (x:HOk P w H h) (e:H a=some o):a<h.objs.size:=(x a o e).lt
theorem HOk.fresh (x:HOk P w H h) (e:h.objs.size<=a):H a=none:=by
 cases q:H a with
 | none=>rfl
 | some u=>exact absurd (zyq (x.lt q) e) (zy1 _)
theorem HOk.kept (x:HOk P w H h) (k:∀ b u,h.get? b=some u->h'.get? b=some u):HOk P w H h':=fun a o e =>
 (x a o e).stay (fun b u _ q=>k b u q) (fun _ q=>q) fun _ _ q=>q
theorem HOk.laid (x:HOk P w H h) (k:∀ b u,h.get? b=some u->h'.get? b=some u) (hp:h.objs.size<=a) (new:ObjOk P w (upd H a o) h' a o):HOk P w (upd H a o) h':=fun b u e=>by
 have hn:=x.fresh hp
 by_cases hb:b=a
 ·subst hb;rw [zae] at e;cases e;exact new
 ·rw [zad hb] at e
  exact (x b u e).stay (fun c v _ q=>k c v q) (fun c q=>by rw [zad (zac q hn)];exact q) fun c xs q=>by rw [zad (zac q hn)];exact q
end
def Rd (H:Hp) (a:Addr) (u:HO):Prop:=H a=some u\/∃ o,H a=some (.frz o u)
theorem Rd.ok {P:Program} {w:World} {H:Hp} {h:Heap} {a:Addr} {u:HO} (r:Rd H a u) (x:HOk P w H h):ObjOk P w H h a u:=by
 rcases r with r | ⟨o,r⟩
 ·exact x a u r
 ·obtain ⟨_,q⟩:=x a _ r
  exact q
def Mut:Option HO->Prop
 | some (.lst _)=>True
 | some (.dK _)=>True
 | some (.dT _)=>True
 | some (.set _ _)=>True
 | some (.ins _ _ _)=>True
 | some (.ext _)=>True
 | _=>False
section
variable {P:Program} {w:World} {H:Hp} {h h':Heap} {x e:Addr} {o':HO}
theorem HOk.write (ok:HOk P w H h) (mu:Mut (H x)) (he:e=x\/H e=some (.own x)) (k:∀ b u,b≠e->h.get? b=some u->h'.get? b=some u) (heo:∃ u,h'.get? e=some u)
  (new:ObjOk P w (upd H x o') h' x o'):HOk P w (upd H x o') h':=fun b u q=>by
 have nown:∀ c y,H c=some (.own y)->c≠x:=fun c y r z=>by subst z;rw [r] at mu;exact mu
 have ntup:∀ c xs,H c=some (.tup xs)->c≠x:=fun c xs r z=>by subst z;rw [r] at mu;exact mu
 by_cases hb:b=x
 ·subst hb;rw [zae] at q;cases q;exact new
 ·rw [zad hb] at q
  by_cases hbe:b=e
  ·have q':H b=some (.own x):=by
    rcases he with z | z
    ·exact absurd (hbe.trans z) hb
    ·rw [hbe];exact z
   rw [q] at q';cases q'
   obtain ⟨v,hv⟩:=heo
   exact ⟨v,by rw [hbe];exact hv⟩
  ·refine (ok b u q).stay (fun c v hc r=>k c v ?_ r) (fun c r=>by rw [zad (nown c b r)];exact r) fun c xs r=>by rw [zad (ntup c xs r)];exact r
   rcases hc with rfl | hc
   ·exact hbe
   ·rintro rfl
    rcases he with z | z
    ·exact nown c b hc z
    ·rw [hc] at z;cases z;exact hb rfl
end
structure Un (fs ex:List Addr) (H H':Hp) (h h':Heap):Prop where
 keep:∀ b o,h.get? b=some o->H b=none->b∉fs->b∉ex->h'.get? b=some o
 slot:∀ b o,h.get? b=some o->H b=none->b∈fs->b∉ex->∃ sl,h'.get? b=some { o with slots:=sl }
 free:∀ b o,h.get? b=some o->H b=none->b∉ex->H' b=none
 there:∀ b o,h.get? b=some o->b∉ex->∃ o',h'.get? b=some o'
 tups:∀ b xs,H b=some (.tup xs)->H' b=some (.tup xs)
 frzs:∀ b o u,H b=some (.frz o u)->H' b=some (.frz o u)
 tbls:∀ b ps,H b=some (.tbl ps)->∃ more,H' b=some (.tbl (ps++more))
section
variable {fs fs' ex ex':List Addr} {H H1 H2:Hp} {h h1 h2 h':Heap} {a x e:Addr} {o:HO}
theorem Un.any (u:Un fs ex H H1 h h1) {ob:Obj} (q:h.get? b=some ob) (n:H b=none) (hx:b∉ex):∃ sl,h1.get? b=some { ob with slots:=sl }:=by
 by_cases hb:b∈fs
 ·exact u.slot b ob q n hb hx
 ·exact ⟨ob.slots,u.keep b ob q n hb hx⟩
theorem Un.trans (a:Un fs ex H H1 h h1) (b:Un fs ex H1 H2 h1 h2):Un fs ex H H2 h h2 where
 keep:=fun c ob q n hc hx=>b.keep c ob (a.keep c ob q n hc hx) (a.free c ob q n hx) hc hx
 slot:=fun c ob q n hc hx=>by
  obtain ⟨sl,e1⟩:=a.slot c ob q n hc hx
  obtain ⟨sl',e2⟩:=b.slot c _ e1 (a.free c ob q n hx) hc hx
  exact ⟨sl',e2⟩
 free:=fun c ob q n hx=>by
  obtain ⟨o',e1⟩:=a.there c ob q hx
  exact b.free c o' e1 (a.free c ob q n hx) hx
 there:=fun c ob q hx=>by
  obtain ⟨o',e1⟩:=a.there c ob q hx
  exact b.there c o' e1 hx
 tups:=fun c xs q=>b.tups c xs (a.tups c xs q)
 frzs:=fun c ob xs q=>b.frzs c ob xs (a.frzs c ob xs q)
 tbls:=fun c ps q=>by
  obtain ⟨m1,e1⟩:=a.tbls c ps q
  obtain ⟨m2,e2⟩:=b.tbls c _ e1
  exact ⟨m1++m2,by rw [e2,Array.append_assoc]⟩
theorem Un.kept (k:∀ b u,h.get? b=some u->h'.get? b=some u):Un fs ex H H h h' :=
 ⟨fun b ob q _ _ _=>k b ob q,fun b ob q _ _ _=>⟨ob.slots,k b ob q⟩,fun _ _ _ n _=>n,fun b ob q _=>⟨ob,k b ob q⟩,fun _ _ q=>q,fun _ _ _ q=>q,fun _ ps q=>⟨#[],by rw [q];simp⟩⟩
theorem Un.refl:Un fs ex H H h h:=Un.kept fun _ _ q=>q
theorem Un.laid (k:∀ b u,h.get? b=some u->h'.get? b=some u) (hp:h.objs.size<=a) (hn:H a=none):Un fs ex H (upd H a o) h h' where
 keep:=fun b u q _ _ _=>k b u q
 slot:=fun b u q _ _ _=>⟨u.slots,k b u q⟩
 free:=fun b u q n _=>by rw [zad (zyy (zyq (zym q) hp))];exact n
 there:=fun b u q _=>⟨u,k b u q⟩
 tups:=fun b xs q=>by rw [zad (zac q hn)];exact q
 frzs:=fun b u xs q=>by rw [zad (zac q hn)];exact q
 tbls:=fun b ps q=>⟨#[],by rw [zad (zac q hn),q];simp⟩
theorem Un.write (mu:Mut (H x)) (he:e=x\/H e=some (.own x)) (k:∀ b u,b≠e->h.get? b=some u->h'.get? b=some u) (heo:∃ u,h'.get? e=some u):Un fs ex H (upd H x o) h h':=by
 have hx:∀ b,H b=none->b≠x:=fun b n z=>by subst z;rw [n] at mu;exact mu
 have hb:∀ b,H b=none->b≠e:=fun b n z=>by
  subst z
  rcases he with r | r
  ·exact hx b n r
  ·rw [n] at r;cases r
 have hm:∀ b u,H b=some u->¬ Mut (some u)->b≠x:=fun b u q nm z=>by subst z;rw [q] at mu;exact nm mu
 refine ⟨fun b u q n _ _=>k b u (hb b n) q,fun b u q n _ _=>⟨u.slots,k b u (hb b n) q⟩,fun b u q n _=>by rw [zad (hx b n)];exact n,fun b u q _=>?_,
  fun b xs q=>by rw [zad (hm b _ q fun z=>z)];exact q,fun b u xs q=>by rw [zad (hm b _ q fun z=>z)];exact q,fun b ps q=>⟨#[],by rw [zad (hm b _ q fun z=>z),q];simp⟩⟩
 by_cases hbe:b=e
 ·subst hbe;exact heo
 ·exact ⟨u,k b u hbe q⟩
end
def trk (h:Heap) (H:Hp):List Addr:=(List.range h.objs.size).filter fun a=>(H a).isSome
def hidT (h:Heap) (H:Hp):Heap:=PySem.W.hideAll h (trk h H)
theorem zm2 (h:Heap) (H:Hp):(hidT h H).objs.size=h.objs.size:=PySem.W.hideAll_size _ _
theorem zpw {h:Heap} {H:Hp} {o:Obj} (e:h.get? b=some o) (n:H b=none):(hidT h H).get? b=some o :=
 PySem.W.hideAll_get _ e fun hm=>by
  have q:(H b).isSome=true:=(List.mem_filter.mp hm).2
  rw [n] at q;simp at q
theorem zs9 {h:Heap} {H:Hp} {o:Obj} (e:(hidT h H).get? b=some o):h.get? b=some o/\H b=none:=by
 have e':h.get? b=some o:=PySem.W.of_hideAll (trk h H) e
 refine ⟨e',?_⟩
 cases q:H b with
 | none=>rfl
 | some x =>
  have hm:b∈trk h H:=List.mem_filter.mpr ⟨List.mem_range.mpr (Heap.lt_size e'),by simp [q]⟩
  have z:(hidT h H).get? b=none:=PySem.W.hideAll_none (trk h H) hm
  rw [z] at e;cases e
def zue (g h:Heap) (L:Addr):List (Addr × Obj):=(List.range h.objs.size).filterMap fun a=>if a=L\/(g.get? a).isSome=true then none else (h.get? a).map fun o=>(a,o)
def rest (g h:Heap) (L d:Addr):List (Addr × Obj):=(zue g h L).filter fun p=>decide (p.1≠d)
end L2
namespace L2
open PySem PySem.Spec PyProof.Rows
variable {t' i:Nat} {ch:List Addr} {x:Str} {A:Around} {E:Value->Shared->Prop}
structure Mod (K:PySem.W.Frag) (mg:Str->Option Value) (base:Heap):Prop where
 kin:K.In base
 glob:base.Ns mainGlobals mg
 blt:∃ mb,base.Ns builtinsNs mb/\∀ x:Str,x≠"__name__"->mb x=bootBuiltins x
 nolimit:base.NoLimit
structure Cx where
 prog:Program
 w:World
 K:PySem.W.Frag
 mg:Str->Option Value
 base:Heap
 A:Around
 N:List Str
 s₀:Shared
 H₀:Hp
 env:Env
 outer:List Env
 stack:List Env
 ex:List Addr
 fn:Str->Bool
 calm:Bool
 pn:List (Addr × Obj)
 xe:Value->Shared->Prop
def frs (l:List Env):List Addr:=l.filterMap (·.frame)
abbrev Cx.fs (X:Cx):List Addr:=frs X.outer
def Vis (sc:Scope) (x:Str):Prop:=sc.names.lookup x=some .local\/sc.names.lookup x=some .cell\/sc.names.lookup x=some .free
def Loc (sc:Scope) (x:Str):Prop:=sc.names.lookup x=some .local\/sc.names.lookup x=some .cell
def Look (env:Env) (h:Heap) (m:Str->Option Value) (x:Str) (u:Value):Prop :=
 (env.kindOf x=some .local/\m x=some u)\/((env.kindOf x=some .cell\/env.kindOf x=some .free)/\∃ c,env.cells.lookup x=some c/\h.IsCell c (some u))
structure Cx.Ok (X:Cx):Prop where
 mod:Mod X.K X.mg X.base
 kind:X.env.scope.kind=.function
 glob:X.env.globals=mainGlobals
 blt:X.env.builtins=builtinsNs
 above:X.s₀.heap.objs.size<=X.env.locals
 inj:∀ x y c,X.env.cells.lookup x=some c->X.env.cells.lookup y=some c->x=y
 has:∀ x,(X.env.kindOf x=some .cell\/X.env.kindOf x=some .free)->∃ c,X.env.cells.lookup x=some c
 cab:∀ x c,X.fn x=true->X.env.cells.lookup x=some c->X.s₀.heap.objs.size<=c
 hd:X.calm=true->X.A.handled=none
 frames:X.A.frames=some X.stack
 stk:X.stack=X.outer\/(X.stack=X.env::X.outer/\X.env.frame=some X.env.locals)
 exf:∀ b∈X.ex,b≠X.env.locals/\∀ x c,X.env.cells.lookup x=some c->c≠b
 bs:∀ b o,X.base.get? b=some o->X.s₀.heap.get? b=some o/\X.H₀ b=none
 bsz:X.base.objs.size<=X.s₀.heap.objs.size
 noex:∀ b o,X.base.get? b=some o->b∉X.ex
 exfs:∀ b∈X.ex,b∉X.fs
 funs:X.s₀.heap.FunFrames X.base X.outer
 frf:∀ b∈X.fs,X.H₀ b=none
structure Inv (X:Cx) (pins:List (Addr × Obj)) (σ:List (Option V)) (H:Hp) (s:Shared):Prop where
 ok:X.Ok
 os:s.os=X.s₀.os
 bare:AllBare s.gens
 base:Un X.fs X.ex X.H₀ H X.s₀.heap s.heap
 loc:∃ m,s.heap.Ns X.env.locals m/\∀ (i:Nat) (x:Str) (v:V),X.N[i]?=some x->σ[i]?=some (some v)->Vis X.env.scope x->∃ u,RelV v u/\Look X.env s.heap m x u
 cell:∀ x c,X.env.cells.lookup x=some c->∃ v,s.heap.IsCell c v
 free:H X.env.locals=none
 freeC:∀ x c,X.env.cells.lookup x=some c->H c=none
 pin:∀ p∈X.pn++pins,s.heap.get? p.1=some p.2/\H p.1=none/\p.1≠X.env.locals/\p.1∉X.fs/\∀ v,p.2.data≠.cell v
 hok:HOk X.prog X.w H s.heap
 len:σ.length=X.N.length
section
variable {X:Cx} {pins:List (Addr × Obj)} {σ:List (Option V)} {H H':Hp} {s:Shared} {h':Heap}
theorem Cx.Ok.nofr (ok:X.Ok) {b:Addr} {o:Obj} (e:X.base.get? b=some o):b∉X.fs:=fun hb=>by
 have:=(ok.funs.mem hb).1
 rw [e] at this;cases this
theorem Inv.bs (I:Inv X pins σ H s):∀ b o,X.base.get? b=some o->s.heap.get? b=some o/\H b=none:=fun b o e =>
 ⟨I.base.keep b o (I.ok.bs b o e).1 (I.ok.bs b o e).2 (I.ok.nofr e) (I.ok.noex b o e),I.base.free b o (I.ok.bs b o e).1 (I.ok.bs b o e).2 (I.ok.noex b o e)⟩
theorem Inv.bk (I:Inv X pins σ H s):∀ b o,X.base.get? b=some o->s.heap.get? b=some o:=fun b o e=>(I.bs b o e).1
theorem Inv.mod (I:Inv X pins σ H s):Mod X.K X.mg X.base:=I.ok.mod
theorem Inv.kIn (I:Inv X pins σ H s):X.K.In s.heap:=I.ok.mod.kin.keeps I.bk
theorem Inv.lt (I:Inv X pins σ H s):X.env.locals<s.heap.objs.size:=let ⟨_,hn,_⟩:=I.loc;hn.lt
theorem Inv.sz (I:Inv X pins σ H s):X.s₀.heap.objs.size<=s.heap.objs.size:=zzn I.ok.above (Nat.le_of_lt I.lt)
theorem Inv.nofs (I:Inv X pins σ H s) {a:Addr} (h:s.heap.objs.size<=a):a∉X.fs:=fun hb=>by
 obtain ⟨_,o,ho,_⟩:=I.ok.funs.mem hb
 exact absurd (zyq (zym ho) (zzn I.sz h)) (zy1 _)
theorem Inv.cne (I:Inv X pins σ H s):∀ x c,X.env.cells.lookup x=some c->c≠X.env.locals:=fun x c e z=>by
 obtain ⟨v,o,ho,hd⟩:=I.cell x c e
 obtain ⟨m,⟨o',es,ep,ho',hd',_⟩,_⟩:=I.loc
 rw [z,ho'] at ho;cases ho;rw [hd'] at hd;cases hd
theorem Inv.funs (I:Inv X pins σ H s):s.heap.FunFrames X.base X.outer:=by
 have all:∀ (l:List Env),(∀ b∈frs l,b∈X.fs)->X.s₀.heap.FunFrames X.base l->s.heap.FunFrames X.base l:=by
  intro l
  induction l with
  | nil=>intro _ _;trivial
  | cons env r ih =>
   intro hs hl
   obtain ⟨hk,⟨L,o,hf,hn,ho,hd⟩,hr⟩:=hl
   have hL:L∈X.fs:=hs L (by unfold frs;rw [zzg,hf];exact zys)
   obtain ⟨sl,e⟩:=I.base.slot L o ho (I.ok.frf L hL) hL fun z=>I.ok.exfs L z hL
   exact ⟨hk,⟨L,_,hf,hn,e,hd⟩,ih (fun b hb=>hs b (by unfold frs;rw [zzg,hf];exact zyn _ hb)) hr⟩
 exact all X.outer (fun _ hb=>hb) I.ok.funs
theorem Inv.stack (I:Inv X pins σ H s):s.heap.FunFrames X.base X.stack:=by
 rcases I.ok.stk with e | ⟨e,hf⟩
 ·rw [e];exact I.funs
 ·rw [e]
  obtain ⟨m,hn,_⟩:=I.loc
  refine .cons (by rw [I.ok.kind];decide) hf hn ?_ I.funs
  exact Heap.get?_none_of_le (zzn I.ok.bsz I.ok.above)
theorem Inv.stkSub (I:Inv X pins σ H s):∀ b∈frs X.stack,b∈X.env.locals::X.fs:=fun b hb=>by
 rcases I.ok.stk with e | ⟨e,hf⟩
 ·rw [e] at hb;exact zyn _ hb
 ·rw [e] at hb
  unfold frs at hb
  rw [zzg,hf] at hb
  exact hb
theorem Inv.stkFree (I:Inv X pins σ H s):∀ b∈frs X.stack,H b=none:=fun b hb=>by
 rcases omc (I.stkSub b hb) with e | hb
 ·rw [e];exact I.free
 ·obtain ⟨_,o,ho,_⟩:=I.ok.funs.mem hb
  exact I.base.free b o ho (I.ok.frf b hb) fun z=>I.ok.exfs b z hb
theorem Inv.step {g':Array GenState} {d':Drawn} (I:Inv X pins σ H s)
  (hch:∀ b∈ch,(b∈X.ex\/X.s₀.heap.objs.size<=b)/\b≠X.env.locals/\(∀ x c,X.env.cells.lookup x=some c->c≠b)/\∀ p∈X.pn++pins,p.1≠b)
  (keep:∀ b o,b≠X.env.locals->b∉X.fs->b∉ch->s.heap.get? b=some o->H b=none->h'.get? b=some o)
  (slot:∀ b o,b≠X.env.locals->b∈X.fs->b∉ch->s.heap.get? b=some o->H b=none->∃ sl,h'.get? b=some { o with slots:=sl }) (free:∀ b o,b∉ch->s.heap.get? b=some o->H b=none->H' b=none)
  (there:∀ b o,b∉ch->s.heap.get? b=some o->∃ o',h'.get? b=some o')
  (tups:∀ b xs,H b=some (.tup xs)->H' b=some (.tup xs)) (frzs:∀ b o u,H b=some (.frz o u)->H' b=some (.frz o u)) (tbls:∀ b ps,H b=some (.tbl ps)->∃ more,H' b=some (.tbl (ps++more)))
  (ns:∀ m,s.heap.Ns X.env.locals m->h'.Ns X.env.locals m) (hok:HOk X.prog X.w H' h') (hg:AllBare g') :
  Inv X pins σ H' { s with heap:=h',gens:=g',drawn:=d',toks:=t' }:=by
 have neL:∀ b o,X.s₀.heap.get? b=some o->b≠X.env.locals:=fun b o e=>zyy (zyq (zym e) I.ok.above)
 have neC:∀ b o,X.s₀.heap.get? b=some o->b∉X.ex->b∉ch:=fun b o e hx hb=>by
  rcases (hch b hb).1 with z | z
  ·exact hx z
  ·exact absurd (zyq (zym e) z) (zy1 _)
 have cellK:∀ x c,X.env.cells.lookup x=some c->∀ v,s.heap.IsCell c v->h'.IsCell c v:=fun x c e v ⟨o,ho,hd⟩=>by
  have nch:c∉ch:=fun z=>(hch c z).2.2.1 x c e rfl
  by_cases hc:c∈X.fs
  ·obtain ⟨sl,q⟩:=slot c o (I.cne x c e) hc nch ho (I.freeC x c e)
   exact ⟨_,q,hd⟩
  ·exact ⟨o,keep c o (I.cne x c e) hc nch ho (I.freeC x c e),hd⟩
 refine ⟨I.ok,I.os,hg,⟨fun b o e n hb hx=>?_,fun b o e n hb hx=>?_,fun b o e n hx=>?_,fun b o e hx=>?_,fun b xs e=>tups b xs (I.base.tups b xs e),fun b o xs e=>frzs b o xs (I.base.frzs b o xs e),fun b ps e=>?_⟩,?_,fun x c e=>?_,?_,fun x c e=>?_,fun p hp=>?_,hok,I.len⟩
 ·exact keep b o (neL b o e) hb (neC b o e hx) (I.base.keep b o e n hb hx) (I.base.free b o e n hx)
 ·obtain ⟨sl,e1⟩:=I.base.slot b o e n hb hx
  obtain ⟨sl',e2⟩:=slot b _ (neL b o e) hb (neC b o e hx) e1 (I.base.free b o e n hx)
  exact ⟨sl',e2⟩
 ·obtain ⟨o',e1⟩:=I.base.there b o e hx
  exact free b o' (neC b o e hx) e1 (I.base.free b o e n hx)
 ·obtain ⟨o',e1⟩:=I.base.there b o e hx
  exact there b o' (neC b o e hx) e1
 ·obtain ⟨m1,e1⟩:=I.base.tbls b ps e
  obtain ⟨m2,e2⟩:=tbls b _ e1
  exact ⟨m1++m2,by rw [e2,Array.append_assoc]⟩
 ·obtain ⟨m,hn,hl⟩:=I.loc
  refine ⟨m,ns m hn,fun i x v e1 e2 e3=>?_⟩
  obtain ⟨u,r,l⟩:=hl i x v e1 e2 e3
  refine ⟨u,r,?_⟩
  rcases l with l | ⟨k,c,e,z⟩
  ·exact .inl l
  ·exact .inr ⟨k,c,e,cellK x c e _ z⟩
 ·obtain ⟨v,z⟩:=I.cell x c e
  exact ⟨v,cellK x c e v z⟩
 ·obtain ⟨m,⟨o,_,_,ho,_⟩,_⟩:=I.loc
  exact free _ o (fun z=>(hch _ z).2.1 rfl) ho I.free
 ·obtain ⟨v,o,ho,hd⟩:=I.cell x c e
  exact free c o (fun z=>(hch c z).2.2.1 x c e rfl) ho (I.freeC x c e)
 ·obtain ⟨e,n,ne,nf,d⟩:=I.pin p hp
  have nch:p.1∉ch:=fun z=>(hch p.1 z).2.2.2 p hp rfl
  exact ⟨keep p.1 p.2 ne nf nch e n,free p.1 p.2 nch e n,ne,nf,d⟩
theorem Inv.un (I:Inv X pins σ H s) (u:Un X.fs [] H H' s.heap h') (hok:HOk X.prog X.w H' h'):Inv X pins σ H' { s with heap:=h',toks:=t' }:=by
 obtain ⟨m,⟨o,es,ep,ho,r⟩,_⟩:=id I.loc
 obtain ⟨sl,hL⟩:=u.any ho I.free (by simp)
 exact I.step (g':=s.gens) (d':=s.drawn) (ch:=[]) (fun _ z=>nomatch z) (fun b o _ hb _ e n=>u.keep b o e n hb (by simp)) (fun b o _ hb _ e n=>u.slot b o e n hb (by simp)) (fun b o _ e n=>u.free b o e n (by simp)) (fun b o _ e=>u.there b o e (by simp)) u.tups u.frzs u.tbls (fun m' hm=>by
  obtain ⟨o',es',ep',ho',r'⟩:=hm
  rw [ho] at ho';cases ho'
  exact ⟨_,es',ep',hL,r'⟩) hok I.bare
theorem Inv.call {g':Array GenState} {d':Drawn} (I:Inv X pins σ H s) (u:Un (frs X.stack) ch H H' s.heap h') (hok:HOk X.prog X.w H' h') (hg:AllBare g')
  (hch:∀ b∈ch,(b∈X.ex\/X.s₀.heap.objs.size<=b)/\b≠X.env.locals/\(∀ x c,X.env.cells.lookup x=some c->c≠b)/\∀ p∈X.pn++pins,p.1≠b) :
  Inv X pins σ H' { s with heap:=h',gens:=g',drawn:=d',toks:=t' }:=by
 obtain ⟨m,⟨o,es,ep,ho,r⟩,_⟩:=id I.loc
 obtain ⟨sl,hL⟩:=u.any ho I.free fun z=>(hch _ z).2.1 rfl
 exact I.step (ch:=ch) hch (fun b o hL hb hc e n=>u.keep b o e n (fun z=>(omc (I.stkSub b z)).elim hL hb) hc) (fun b o _ _ hc e n=>u.any e n hc) (fun b o hc e n=>u.free b o e n hc) (fun b o hc e=>u.there b o e hc) u.tups u.frzs u.tbls (fun m' hm=>by
  obtain ⟨o',es',ep',ho',r'⟩:=hm
  rw [ho] at ho';cases ho'
  exact ⟨_,es',ep',hL,r'⟩) hok hg
theorem Inv.turned {it:Addr} (I:Inv X pins σ H s) (k:∀ b o,b≠it->s.heap.get? b=some o->h'.get? b=some o) (hn:H it=none) (hL:it≠X.env.locals)
  (h1:it∈X.ex\/X.s₀.heap.objs.size<=it) (h2:∀ x c,X.env.cells.lookup x=some c->c≠it) (h3:∀ p∈X.pn++pins,p.1≠it):Inv X pins σ H { s with heap:=h',toks:=t' }:=by
 have nit:∀ b u,H b=some u->b≠it:=fun b u e z=>by rw [z,hn] at e;cases e
 refine I.step (g':=s.gens) (d':=s.drawn) (ch:=[it]) (fun b hb=>?_) (fun b o _ _ hc e _=>k b o (fun z=>hc (by simp [z])) e) (fun b o _ _ hc e _=>⟨o.slots,k b o (fun z=>hc (by simp [z])) e⟩) (fun _ _ _ _ n=>n)
  (fun b o hc e=>⟨o,k b o (fun z=>hc (by simp [z])) e⟩) (fun _ _ e=>e) (fun _ _ _ e=>e) (fun b ps e=>⟨#[],by rw [e];simp⟩) (fun m hm=>?_) (fun b u e=>?_) I.bare
 ·have e:b=it:=by simpa using hb
  subst e
  exact ⟨h1,hL,h2,h3⟩
 ·obtain ⟨o,es,ep,ho,r⟩:=hm
  exact ⟨o,es,ep,k _ o (Ne.symm hL) ho,r⟩
 ·refine (I.hok b u e).stay (fun c v hc q=>k c v ?_ q) (fun _ q=>q) fun _ _ q=>q
  rcases hc with z | z
  ·rw [z];exact nit b u e
  ·exact nit c _ z
theorem Inv.tok (I:Inv X pins σ H s) (t:Nat):Inv X pins σ H { s with toks:=t }:=I.un (h':=s.heap) (t':=t) Un.refl I.hok
theorem Inv.kept {t':Nat} (I:Inv X pins σ H s) (k:∀ b u,s.heap.get? b=some u->h'.get? b=some u):Inv X pins σ H { s with heap:=h',toks:=t' }:=I.un (Un.kept k) (I.hok.kept k)
theorem Inv.laid {a:Addr} {o:HO} {t':Nat} (I:Inv X pins σ H s) (k:∀ b u,s.heap.get? b=some u->h'.get? b=some u) (hp:s.heap.objs.size<=a) (new:ObjOk X.prog X.w (upd H a o) h' a o) :
  Inv X pins σ (upd H a o) { s with heap:=h',toks:=t' }:=I.un (Un.laid k hp (I.hok.fresh hp)) (I.hok.laid k hp new)
theorem Inv.write {x e:Addr} {o:HO} {t':Nat} (I:Inv X pins σ H s) (mu:Mut (H x)) (he:e=x\/H e=some (.own x)) (k:∀ b u,b≠e->s.heap.get? b=some u->h'.get? b=some u) (heo:∃ u,h'.get? e=some u)
  (new:ObjOk X.prog X.w (upd H x o) h' x o):Inv X pins σ (upd H x o) { s with heap:=h',toks:=t' }:=I.un (Un.write mu he k heo) (I.hok.write mu he k heo new)
theorem Inv.pins_of {pins':List (Addr × Obj)} (I:Inv X pins σ H s) (h:∀ p∈pins',s.heap.get? p.1=some p.2/\H p.1=none/\p.1≠X.env.locals/\p.1∉X.fs/\∀ v,p.2.data≠.cell v):Inv X pins' σ H s :=
 ⟨I.ok,I.os,I.bare,I.base,I.loc,I.cell,I.free,I.freeC,fun p hp=>(oma hp).elim (fun z=>I.pin p (List.mem_append_left _ z)) (h p),I.hok,I.len⟩
theorem zi2 {N:List Str} (hN:N.Nodup) {j:Nat} (a:N[i]?=some x) (b:N[j]?=some x):i=j:=by
 obtain ⟨h1,e1⟩:=ome a
 obtain ⟨h2,e2⟩:=ome b
 exact (List.getElem_inj hN).mp (e1.trans e2.symm)
theorem zf3 {M:Model} {v:V} {u:Value} {Q:Unit->Shared->Prop} (I:Inv X pins σ H s) (hN:X.N.Nodup) (hi:X.N[i]?=some x) (hx:Loc X.env.scope x) (r:RelV v u)
  (h:∀ s',Inv X pins (σ.set i (some v)) H s'->(∃ a,Heap.SameBut a s.heap s'.heap/\(a=X.env.locals\/X.env.cells.lookup x=some a))->Q () s') (hf:X.fn x=true\/X.env.scope.names.lookup x=some .local:=by first | exact .inl rfl | exact .inr rfl | assumption):wpAny M A (storeName X.env x u) Q E s:=by
 obtain ⟨m,hn,hl⟩:=id I.loc
 have hcls:(X.env.scope.kind==.class||(X.env.scope.kind==.module&&X.env.locals != X.env.globals))=false:=by rw [I.ok.kind];rfl
 have hiσ:i<σ.length:=by rw [I.len];exact (ome hi).1
 have cne:=I.cne
 have tracked:∀ {a:Addr} {h':Heap},(∃ o,s.heap.get? a=some o/\H a=none)->Heap.SameBut a s.heap h'->HOk X.prog X.w H h':=fun {a h'} ha hs b ob e=>by
  obtain ⟨_,_,hfree⟩:=ha
  refine (I.hok b ob e).stay (fun c w' hc q=>(hs.2 c ?_).trans q) (fun _ q=>q) fun _ _ q=>q
  rintro rfl
  rcases hc with rfl | hc
  ·rw [hfree] at e;cases e
  ·rw [hfree] at hc;cases hc
 rcases hx with hk | hk
 ·refine wpAny_storeName_local hk hn (fun h' hn' hs=>?_) hcls
  obtain ⟨oL,_,_,hoL,_⟩:=id hn
  refine h _ ⟨I.ok,I.os,I.bare,⟨fun b o e n hb hx=>?_,fun b o e n hb hx=>?_,I.base.free,fun b o e hx=>?_,I.base.tups,I.base.frzs,I.base.tbls⟩,⟨_,hn',fun j y v' e1 e2 e3=>?_⟩,fun y c e=>?_,I.free,I.freeC,fun p hp=>?_,tracked ⟨oL,hoL,I.free⟩ hs,by simpa using I.len⟩ ⟨_,hs,.inl rfl⟩
  ·exact (hs.2 b (zyy (zyq (zym e) I.ok.above))).trans (I.base.keep b o e n hb hx)
  ·obtain ⟨sl,e1⟩:=I.base.slot b o e n hb hx
   exact ⟨sl,(hs.2 b (zyy (zyq (zym e) I.ok.above))).trans e1⟩
  ·obtain ⟨o',e1⟩:=I.base.there b o e hx
   exact ⟨o',(hs.2 b (zyy (zyq (zym e) I.ok.above))).trans e1⟩
  ·by_cases hj:j=i
   ·subst hj
    rw [hi] at e1;cases e1
    rw [List.getElem?_set_self hiσ] at e2
    cases e2
    exact ⟨u,r,.inl ⟨hk,by simp⟩⟩
   ·rw [zzi (Ne.symm hj)] at e2
    obtain ⟨u',r',q⟩:=hl j y v' e1 e2 e3
    refine ⟨u',r',?_⟩
    rcases q with ⟨k,e⟩ | ⟨k,c,e,z⟩
    ·refine .inl ⟨k,?_⟩
     have:y≠x:=fun e=>hj (zi2 hN e1 (e▸hi))
     simp [this,e]
    ·exact .inr ⟨k,c,e,z.sameBut hs (cne y c e)⟩
  ·obtain ⟨w',z⟩:=I.cell y c e
   exact ⟨w',z.sameBut hs (cne y c e)⟩
  ·obtain ⟨e,n,ne,nf,d⟩:=I.pin p hp
   exact ⟨(hs.2 p.1 ne).trans e,n,ne,nf,d⟩
 ·have hfn:X.fn x=true:=by
   rcases hf with z | z
   ·exact z
   ·rw [z] at hk;cases hk
  obtain ⟨c,hc⟩:=I.ok.has x (.inl hk)
  obtain ⟨w',z⟩:=I.cell x c hc
  refine wpAny_storeName_cell I.ok.kind hk hc z (fun h' hc' hs=>?_)
  obtain ⟨oc,hoc,hocd⟩:=id z
  refine h { s with heap:=h' } ⟨I.ok,I.os,I.bare,⟨fun b o e n hb hx=>?_,fun b o e n hb hx=>?_,I.base.free,fun b o e hx=>?_,I.base.tups,I.base.frzs,I.base.tbls⟩,⟨m,hn.sameBut hs (Ne.symm (cne x c hc)),fun j y v' e1 e2 e3=>?_⟩,fun y c' e=>?_,I.free,I.freeC,fun p hp=>?_,tracked ⟨oc,hoc,I.freeC x c hc⟩ hs,by simpa using I.len⟩ ⟨c,hs,.inr hc⟩
  ·exact (hs.2 b (zyy (zyq (zym e) (I.ok.cab x c hfn hc)))).trans (I.base.keep b o e n hb hx)
  ·obtain ⟨sl,e1⟩:=I.base.slot b o e n hb hx
   exact ⟨sl,(hs.2 b (zyy (zyq (zym e) (I.ok.cab x c hfn hc)))).trans e1⟩
  ·obtain ⟨o',e1⟩:=I.base.there b o e hx
   exact ⟨o',(hs.2 b (zyy (zyq (zym e) (I.ok.cab x c hfn hc)))).trans e1⟩
  ·by_cases hj:j=i
   ·subst hj
    rw [hi] at e1;cases e1
    rw [List.getElem?_set_self hiσ] at e2
    cases e2
    exact ⟨u,r,.inr ⟨.inl hk,c,hc,hc'⟩⟩
   ·rw [zzi (Ne.symm hj)] at e2
    obtain ⟨u',r',q⟩:=hl j y v' e1 e2 e3
    refine ⟨u',r',?_⟩
    rcases q with q | ⟨k,c',e,z'⟩
    ·exact .inl q
    ·refine .inr ⟨k,c',e,z'.sameBut hs ?_⟩
     rintro rfl
     exact hj (zi2 hN e1 (I.ok.inj _ _ _ e hc▸hi))
  ·by_cases hcc:c'=c
   ·subst hcc;exact ⟨_,hc'⟩
   ·obtain ⟨w2,z2⟩:=I.cell y c' e
    exact ⟨w2,z2.sameBut hs hcc⟩
  ·obtain ⟨e,n,ne,nf,d⟩:=I.pin p hp
   refine ⟨(hs.2 p.1 ?_).trans e,n,ne,nf,d⟩
   intro q
   rw [q,hoc] at e
   have q':oc=p.2:=zy5 e
   exact d w' (by rw [<- q'];exact hocd)
theorem zik {M:Model} {v:V} {u:Value} {Q:Unit->Shared->Prop} (I:Inv X pins σ H s) (hN:X.N.Nodup) (hi:X.N[i]?=some x) (hx:Loc X.env.scope x) (r:RelV v u)
  (h:∀ s',Inv X pins (σ.set i (some v)) H s'->Q () s') (hf:X.fn x=true\/X.env.scope.names.lookup x=some .local:=by first | exact .inl rfl | exact .inr rfl | assumption):wpAny M A (storeName X.env x u) Q E s :=
 zf3 I hN hi hx r (fun s' I' _=>h s' I') hf
theorem Inv.call' {s':Shared} (I:Inv X pins σ H s) (ho:s'.os=s.os) (u:Un (frs X.stack) ch H H' s.heap s'.heap) (hok:HOk X.prog X.w H' s'.heap) (hg:AllBare s'.gens)
  (hch:∀ b∈ch,(b∈X.ex\/X.s₀.heap.objs.size<=b)/\b≠X.env.locals/\(∀ x c,X.env.cells.lookup x=some c->c≠b)/\∀ p∈X.pn++pins,p.1≠b):Inv X pins σ H' s':=by
 obtain ⟨h',g',d',t',o'⟩:=s'
 have e:o'=s.os:=ho
 subst e
 exact I.call (g':=g') (t':=t') (d':=d') u hok hg hch
end
abbrev XK:=Value->Option Addr->Hp->Prop
abbrev St:=List (Option V)
abbrev VK:=V->Hp->Prop
abbrev TE:=St->Hp->VK->Prop
abbrev TT:=St->Hp->(Bool->Hp->Prop)->Prop
abbrev TA:=St->Hp->(List V->Hp->Prop)->Prop
structure Ends where
 nx:St->Hp->Prop
 rt:VK
 bk:St->Hp->Prop:=fun _ _=>False
 ct:St->Hp->Prop:=fun _ _=>False
abbrev TS:=Ends->St->Hp->Prop
def EP (X:Cx) (pins:List (Addr × Obj)) (σ:St) (Q:VK) (u:Value) (s':Shared):Prop:=∃ v H',Inv X pins σ H' s'/\RelV v u/\Q v H'
def TP (X:Cx) (pins:List (Addr × Obj)) (σ:St) (Q:Bool->Hp->Prop) (b:Bool) (s':Shared):Prop:=∃ H',Inv X pins σ H' s'/\Q b H'
def AP (X:Cx) (pins:List (Addr × Obj)) (σ:St) (Q:List V->Hp->Prop) (us:List Value) (s':Shared):Prop:=∃ vs H',Inv X pins σ H' s'/\Vals vs us/\Q vs H'
def SP (X:Cx) (pins:List (Addr × Obj)) (D:Ends) (f:Flow) (s':Shared):Prop :=
 match f with
 | .next=>∃ σ' H',Inv X pins σ' H' s'/\D.nx σ' H'
 | .brk=>∃ σ' H',Inv X pins σ' H' s'/\D.bk σ' H'
 | .cont=>∃ σ' H',Inv X pins σ' H' s'/\D.ct σ' H'
 | .ret u=>∃ v σ' H',Inv X pins σ' H' s'/\RelV v u/\D.rt v H'
def PE (X:Cx) (e:Expr) (t:TE):Prop :=
 ∀ (pins:List (Addr × Obj)) (s:Shared) (σ:St) (H:Hp) (Q:VK),Inv X pins σ H s->t σ H Q->wpAny (model X.prog X.w) X.A (eval e X.env) (EP X pins σ Q) X.xe s
def PT (X:Cx) (e:Expr) (t:TT):Prop :=
 ∀ (pins:List (Addr × Obj)) (s:Shared) (σ:St) (H:Hp) (Q:Bool->Hp->Prop),Inv X pins σ H s->t σ H Q->wpAny (model X.prog X.w) X.A (isTrue e X.env (eval e X.env)) (TP X pins σ Q) X.xe s
def PW (X:Cx) (e:Expr) (t:TT):Prop :=
 ∀ (whole:Sem Value) (pins:List (Addr × Obj)) (s:Shared) (σ:St) (H:Hp) (Q:Bool->Hp->Prop),Inv X pins σ H s->t σ H Q->wpAny (model X.prog X.w) X.A (isTrue e X.env whole) (TP X pins σ Q) X.xe s
theorem PW.pt {X:Cx} {e:Expr} {t:TT} (h:PW X e t):PT X e t:=h _
def PA (X:Cx) (es:List Expr) (t:TA):Prop :=
 ∀ (pos:Pos) (pins:List (Addr × Obj)) (s:Shared) (σ:St) (H:Hp) (Q:List V->Hp->Prop),Inv X pins σ H s->t σ H Q->wpAny (model X.prog X.w) X.A (spliced (backTo pos (starEach es X.env))) (AP X pins σ Q) X.xe s
def PS (X:Cx) (st:Stmt) (t:TS):Prop :=
 ∀ (pins:List (Addr × Obj)) (s:Shared) (σ:St) (H:Hp) (D:Ends),Inv X pins σ H s->t D σ H->wpAny (model X.prog X.w) X.A (exec st X.env) (SP X pins D) X.xe s
def PSs (X:Cx) (st:List Stmt) (t:TS):Prop :=
 ∀ (pins:List (Addr × Obj)) (s:Shared) (σ:St) (H:Hp) (D:Ends),Inv X pins σ H s->t D σ H->wpAny (model X.prog X.w) X.A (execs st X.env) (SP X pins D) X.xe s
theorem thn {α:Type} {t:Sem α} {Q Q':α->Shared->Prop} {M:Model} {s:Shared} (h:wpAny M A t Q E s) (hQ:∀ a s,Q a s->Q' a s):wpAny M A t Q' E s:=zzw h hQ fun _ _ x=>x
end L2
namespace L2
open PySem PySem.Spec PyProof.Rows
variable {x:Str} {E Q:Value->Shared->Prop} {pins:List (Addr × Obj)} {u:Value}
section
variable {X:Cx}
def tVar (i:Nat):TE:=fun σ H Q=>∃ v,σ[i]?=some (some v)/\Q v H
def tC (v:V):TE:=fun _ H Q=>Q v H
theorem zdi {i:Nat} {pos:Pos} (hN:X.N[i]?=some x) (hv:Vis X.env.scope x) (hd:(x==("__debug__":Str))=false:=by decide) (hcd:(x==("__classdict__":Str))=false:=by decide):PE X (.Name x pos) (tVar i):=by
 intro pins s σ H Q I h
 obtain ⟨v,e,h⟩:=h
 obtain ⟨m,hn,hl⟩:=I.loc
 obtain ⟨u,r,l⟩:=hl i x v hN e hv
 have fin:EP X pins σ Q u s:=⟨v,H,I,r,h⟩
 rcases l with ⟨hk,hm⟩ | ⟨hk,c,hc,hcell⟩
 ·exact wpAny_Name (wpAny_loadName_local I.ok.kind hk hn hm fin) hd
 ·rcases hk with hk | hk
  ·exact wpAny_Name (wpAny_loadName_cell I.ok.kind hk hc hcell fin) hd
  ·exact wpAny_Name (wpAny_loadName_free I.ok.kind hk hc hcell fin hcd) hd
theorem zvo {i j pos}:PE X (.Constant (.int i) j pos) (tC (.int i)):=fun _ _ _ H _ I h=>wpAny_Constant_int ⟨.int i,H,I.tok _,⟨_,rfl⟩,h⟩
theorem zxw {b j pos}:PE X (.Constant (.bool b) j pos) (tC (.bl b)):=fun _ _ _ H _ I h=>Constant_bool ⟨.bl b,H,I,rfl,h⟩
theorem zvl {j pos}:PE X (.Constant .none j pos) (tC .non):=fun _ _ _ H _ I h=>Constant_none ⟨.non,H,I,rfl,h⟩
theorem zqw {x j pos}:PE X (.Constant (.str x) j pos) (tC (.str x)):=fun _ _ _ H _ I h=>Calls.Constant_str ⟨.str x,H,I.tok _,⟨_,rfl⟩,h⟩
def Gl (X:Cx) (x:Str):Prop:=X.env.kindOf x=some .globalImplicit
theorem zhr {s:Shared} {σ:St} {H:Hp} {pos:Pos} (I:Inv X pins σ H s) (hg:Gl X x) (hm:X.mg x=some u) (h:Q u s)
  (hd:(x==("__debug__":Str))=false:=by decide):wpAny (model X.prog X.w) X.A (eval (.Name x pos) X.env) Q E s :=
 Calls.Name_function_global I.ok.kind hg (Calls.loadGlobal_global (by rw [I.ok.glob];exact I.mod.glob.keeps I.bk) hm h) hd
theorem zew {s:Shared} {σ:St} {H:Hp} {pos:Pos} (I:Inv X pins σ H s) (hg:Gl X x) (hm:X.mg x=none) (hv:bootBuiltins x=some u) (h:Q u s)
  (hn:x≠"__name__":=by decide) (hd:(x==("__debug__":Str))=false:=by decide):wpAny (model X.prog X.w) X.A (eval (.Name x pos) X.env) Q E s:=by
 obtain ⟨mb,h1,h2⟩:=I.mod.blt
 exact Calls.Name_function_global I.ok.kind hg (Calls.loadGlobal_builtin (by rw [I.ok.glob];exact I.mod.glob.keeps I.bk) hm (by rw [I.ok.blt];exact h1.keeps I.bk) ((h2 x hn).trans hv) h) hd
theorem zst {v:V} {pos:Pos} (hg:Gl X x) (hm:X.mg x=some u) (r:RelV v u) (hd:(x==("__debug__":Str))=false:=by decide):PE X (.Name x pos) (tC v) :=
 fun _ _ _ H _ I h=>zhr I hg hm ⟨v,H,I,r,h⟩ hd
theorem zsv {v:V} {pos:Pos} (hg:Gl X x) (hm:X.mg x=none) (hv:bootBuiltins x=some u) (r:RelV v u) (hn:x≠"__name__":=by decide) (hd:(x==("__debug__":Str))=false:=by decide):PE X (.Name x pos) (tC v) :=
 fun _ _ _ H _ I h=>zew I hg hm hv ⟨v,H,I,r,h⟩ hn hd
variable {a b:Expr} {ta tb:TE} {pos:Pos}
variable {tA tB':TT} {rest:List Expr}
def tAnd (t u:TT):TT:=fun σ H Q=>t σ H fun c H1=>if c=true then u σ H1 Q else Q false H1
def tOr (t u:TT):TT:=fun σ H Q=>t σ H fun c H1=>if c=true then Q true H1 else u σ H1 Q
def tNot (t:TT):TT:=fun σ H Q=>t σ H fun c H1=>Q (!c) H1
theorem zsf (ha:PT X a tA):PW X (.BoolOp .And [a] pos) tA:=by
 intro wh pins s σ H Q I h
 refine isTrue_and (thn (ha pins s σ H Q I h) fun c s1 e=>?_)
 cases c with
 | true=>exact isTrue_and_nil e
 | false=>exact e
theorem zu5 (ha:PT X a tA):PW X (.BoolOp .Or [a] pos) tA:=by
 intro wh pins s σ H Q I h
 refine isTrue_or (thn (ha pins s σ H Q I h) fun c s1 e=>?_)
 cases c with
 | false=>exact isTrue_or_nil e
 | true=>exact e
theorem zu6 (ha:PT X a tA) (hb:PW X (.BoolOp .And (b::rest) pos) tB'):PW X (.BoolOp .And (a::b::rest) pos) (tAnd tA tB'):=by
 intro wh pins s σ H Q I h
 refine isTrue_and (thn (ha pins s σ H _ I h) fun c s1 ⟨H1,I1,q1⟩=>?_)
 cases c with
 | true=>exact hb wh pins s1 σ H1 Q I1 q1
 | false=>exact ⟨H1,I1,q1⟩
theorem zxq (ha:PT X a tA) (hb:PW X (.BoolOp .Or (b::rest) pos) tB'):PW X (.BoolOp .Or (a::b::rest) pos) (tOr tA tB'):=by
 intro wh pins s σ H Q I h
 refine isTrue_or (thn (ha pins s σ H _ I h) fun c s1 ⟨H1,I1,q1⟩=>?_)
 cases c with
 | true=>exact ⟨H1,I1,q1⟩
 | false=>exact hb wh pins s1 σ H1 Q I1 q1
theorem zvb (ha:PT X a tA):PT X (.UnaryOp .Not a pos) (tNot tA):=by
 intro pins s σ H Q I h
 exact isTrue_not (ha pins s σ H (fun c H1=>Q (!c) H1) I h)
def tAndV (ta tb:TE):TE:=fun σ H Q=>ta σ H fun x H1=>∃ c,x=.bl c/\if c=true then tb σ H1 Q else Q (.bl false) H1
def tOrV (ta tb:TE):TE:=fun σ H Q=>ta σ H fun x H1=>∃ c,x=.bl c/\if c=true then Q (.bl true) H1 else tb σ H1 Q
def tNotV (ta:TE):TE:=fun σ H Q=>ta σ H fun x H1=>∃ c,x=.bl c/\Q (.bl (!c)) H1
theorem zvj {op} {t:TE} (h:PE X a t):PE X (.BoolOp op [a] pos) t:=fun pins s σ H Q I hw=>BoolOp_one (h pins s σ H Q I hw)
theorem zvq (ha:PE X a ta) (hb:PE X (.BoolOp .And (b::rest) pos) tb):PE X (.BoolOp .And (a::b::rest) pos) (tAndV ta tb):=by
 intro pins s σ H Q I h
 refine BoolOp_and (thn (ha pins s σ H _ I h) fun v s1 ⟨x,H1,I1,r1,q1⟩=>?_)
 obtain ⟨c,rfl,q1⟩:=q1
 cases r1
 refine wpAny_truthy_bool ?_
 cases c with
 | true=>exact hb pins s1 σ H1 Q I1 q1
 | false=>exact ⟨.bl false,H1,I1,rfl,q1⟩
theorem zxs (ha:PE X a ta) (hb:PE X (.BoolOp .Or (b::rest) pos) tb):PE X (.BoolOp .Or (a::b::rest) pos) (tOrV ta tb):=by
 intro pins s σ H Q I h
 refine BoolOp_or (thn (ha pins s σ H _ I h) fun v s1 ⟨x,H1,I1,r1,q1⟩=>?_)
 obtain ⟨c,rfl,q1⟩:=q1
 cases r1
 refine wpAny_truthy_bool ?_
 cases c with
 | false=>exact hb pins s1 σ H1 Q I1 q1
 | true=>exact ⟨.bl true,H1,I1,rfl,q1⟩
theorem zvk (ha:PE X a ta):PE X (.UnaryOp .Not a pos) (tNotV ta):=by
 intro pins s σ H Q I h
 refine UnaryOp_ (thn (ha pins s σ H _ I h) fun v s1 ⟨x,H1,I1,r1,q1⟩=>?_)
 obtain ⟨c,rfl,q1⟩:=q1
 cases r1
 exact not_of (wpAny_truthy_bool ⟨.bl (!c),H1,I1,rfl,q1⟩)
end
end L2
namespace L2
open PySem PySem.Spec PyProof.Rows
variable {K:PySem.W.Frag} {es:List Expr} {tg:Expr} {P:Program} {w:World}
def SqL (K:PySem.W.Frag) (H:Hp) (a:Addr) (xs:List V):Prop :=
 Rd H a (.lst xs) \/
  ∃ (o:Obj) (its:Array Value) (n:Nat),K.lookup a=some o/\o.cls=.type "list"/\o.dict=none/\o.data=.seq its n/\its.size<=sizeLine/\Vals xs its.toList
def SqT (K:PySem.W.Frag) (H:Hp) (a:Addr) (xs:List V):Prop :=
 Rd H a (.tup xs) \/
  ∃ (o:Obj) (its:Array Value) (n:Nat),K.lookup a=some o/\o.cls=.type "tuple"/\o.data=.seq its n/\its.size<=sizeLine/\Vals xs its.toList
def absV:Value->Option V
 | .none=>some .non
 | .bool b=>some (.bl b)
 | .int i _=>some (.int i)
 | .str x _=>some (.str x)
 | .bytes b _=>some (.byt b)
 | .float b _=>some (.flt b)
 | .ref a=>some (.ref a)
 | .type n=>some (.ty n)
 | _=>none
theorem RelV.abs {x:V} {u:Value} (r:RelV x u):absV u=some x:=by
 cases x with
 | non=>cases r;rfl
 | bl _=>cases r;rfl
 | int _=>obtain ⟨t,rfl⟩:=r;rfl
 | str _=>obtain ⟨t,rfl⟩:=r;rfl
 | byt _=>obtain ⟨t,rfl⟩:=r;rfl
 | flt _=>obtain ⟨t,rfl⟩:=r;rfl
 | ref _=>cases r;rfl
 | ty _=>cases r;rfl
theorem RelV.inj {x y:V} {u:Value} (r:RelV x u) (q:RelV y u):x=y:=zy5 (r.abs.symm.trans q.abs)
theorem Vals.inj:∀ {xs ys:List V} {us:List Value},Vals xs us->Vals ys us->xs=ys
 | _,_,_,.nil,.nil=>rfl
 | _,_,_,.cons r t,.cons r' t'=>by rw [r.inj r',Vals.inj t t']
section
variable {X:Cx} {pins:List (Addr × Obj)} {σ:St} {H:Hp} {s:Shared} {a:Addr} {xs ys:List V}
theorem SqL.of (h:H a=some (.lst xs)):SqL K H a xs:=.inl (.inl h)
theorem SqT.of (h:H a=some (.tup xs)):SqT K H a xs:=.inl (.inl h)
theorem Inv.list (I:Inv X pins σ H s) (h:SqL X.K H a xs):∃ its:List Value,Vals xs its/\PlainL s.heap a its.toArray/\xs.length<=sizeLine:=by
 rcases h with h | ⟨o,its,n,hk,hc,hd,hs,hz,r⟩
 ·obtain ⟨z,its,n,r,e⟩:=h.ok I.hok
  exact ⟨its,r,⟨_,n,e,rfl,rfl,rfl⟩,z⟩
 ·refine ⟨its.toList,r,⟨o,n,I.kIn a o hk,hc,hd,by simpa using hs⟩,?_⟩
  have e:=r.length
  simp only [Array.length_toList] at e
  omega
theorem Inv.tuple (I:Inv X pins σ H s) (h:SqT X.K H a xs):∃ its:List Value,Vals xs its/\IsTup s.heap a its.toArray/\xs.length<=sizeLine:=by
 rcases h with h | ⟨o,its,n,hk,hc,hs,hz,r⟩
 ·obtain ⟨z,its,r,p⟩:=h.ok I.hok
  exact ⟨its,r,p,z⟩
 ·refine ⟨its.toList,r,⟨o,I.kIn a o hk,hc,n,by simpa using hs⟩,?_⟩
  have e:=r.length
  simp only [Array.length_toList] at e
  omega
theorem Inv.list_inj (I:Inv X pins σ H s) (h:SqL X.K H a xs) (h':SqL X.K H a ys):xs=ys:=by
 obtain ⟨its,r,⟨o,n,e,_,_,d⟩,_⟩:=I.list h
 obtain ⟨its',r',⟨o',n',e',_,_,d'⟩,_⟩:=I.list h'
 rw [e] at e';cases e'
 rw [d] at d'
 injection d' with d1 _
 have:its=its':=by simpa using congrArg Array.toList d1
 subst this
 exact r.inj r'
theorem Inv.tuple_inj (I:Inv X pins σ H s) (h:SqT X.K H a xs) (h':SqT X.K H a ys):xs=ys:=by
 obtain ⟨its,r,⟨o,e,_,n,d⟩,_⟩:=I.tuple h
 obtain ⟨its',r',⟨o',e',_,n',d'⟩,_⟩:=I.tuple h'
 rw [e] at e';cases e'
 rw [d] at d'
 injection d' with d1 _
 have:its=its':=by simpa using congrArg Array.toList d1
 subst this
 exact r.inj r'
end
abbrev Cx.wish (X:Cx) (E:Value->Shared->Prop):Cx:={ X with xe:=E }
abbrev Cx.nox (X:Cx):Cx:=X.wish fun _ _=>False
theorem Cx.Ok.wish {X:Cx} (ok:X.Ok) (E:Value->Shared->Prop):(X.wish E).Ok :=
 ⟨ok.mod,ok.kind,ok.glob,ok.blt,ok.above,ok.inj,ok.has,ok.cab,ok.hd,ok.frames,ok.stk,ok.exf,ok.bs,ok.bsz,ok.noex,ok.exfs,ok.funs,ok.frf⟩
theorem Cx.Ok.unwish {X:Cx} {E:Value->Shared->Prop} (ok:(X.wish E).Ok):X.Ok :=
 ⟨ok.mod,ok.kind,ok.glob,ok.blt,ok.above,ok.inj,ok.has,ok.cab,ok.hd,ok.frames,ok.stk,ok.exf,ok.bs,ok.bsz,ok.noex,ok.exfs,ok.funs,ok.frf⟩
section
variable {X:Cx} {pins:List (Addr × Obj)} {σ:St} {H:Hp} {s:Shared} {E:Value->Shared->Prop}
theorem Inv.wish (I:Inv X pins σ H s) (E:Value->Shared->Prop):Inv (X.wish E) pins σ H s:=⟨I.ok.wish E,I.os,I.bare,I.base,I.loc,I.cell,I.free,I.freeC,I.pin,I.hok,I.len⟩
theorem Inv.unwish (I:Inv (X.wish E) pins σ H s):Inv X pins σ H s:=⟨I.ok.unwish,I.os,I.bare,I.base,I.loc,I.cell,I.free,I.freeC,I.pin,I.hok,I.len⟩
theorem SP.unwish {D:Ends} {f:Flow} {s':Shared} (h:SP (X.wish E) pins D f s'):SP X pins D f s':=by
 cases f with
 | next=>obtain ⟨σ',H',I,q⟩:=h;exact ⟨σ',H',I.unwish,q⟩
 | brk=>obtain ⟨σ',H',I,q⟩:=h;exact ⟨σ',H',I.unwish,q⟩
 | cont=>obtain ⟨σ',H',I,q⟩:=h;exact ⟨σ',H',I.unwish,q⟩
 | ret u=>obtain ⟨v,σ',H',I,r,q⟩:=h;exact ⟨v,σ',H',I.unwish,r,q⟩
theorem PSs.nox {st:List Stmt} {t:TS} (h:PSs X.nox st t):PSs X st t:=fun pins s σ H D I hw =>
 zzw (h pins s σ H D (I.wish _) hw) (fun _ _ q=>q.unwish) fun _ _ z=>False.elim z
end
section
variable {X:Cx} {st:Stmt} {rest:List Stmt} {t u:TS} {e:Expr} {te:TE} {pos:Pos}
def tNext:TS:=fun D σ H=>D.nx σ H
def tSeq (t u:TS):TS:=fun D σ H=>t { D with nx:=u D } σ H
theorem zlu:PSs X [] tNext:=fun _ _ σ H _ I h=>wpAny_execs_nil ⟨σ,H,I,h⟩
theorem zci (h1:PS X st t) (h2:PSs X rest u):PSs X (st::rest) (tSeq t u):=by
 intro pins s σ H D I h
 refine wpAny_execs_cons (thn (h1 pins s σ H { D with nx:=u D } I h) fun f s1 q=>?_)
 cases f with
 | next =>
  obtain ⟨σ',H',I',q⟩:=q
  exact h2 pins s1 σ' H' D I' q
 | ret v=>exact q
 | brk=>exact q
 | cont=>exact q
theorem zhi (h1:PS X st t):PSs X [st] t:=by
 intro pins s σ H D I h
 refine wpAny_execs_cons (thn (h1 pins s σ H D I h) fun f s1 q=>?_)
 cases f with
 | next=>exact wpAny_execs_nil q
 | ret v=>exact q
 | brk=>exact q
 | cont=>exact q
theorem Inv.quiet {pins:List (Addr × Obj)} {σ:St} {H:Hp} {s:Shared} (I:Inv X pins σ H s):interactive X.env=false:=by simp [interactive,I.ok.kind]
def tDrop (te:TE):TS:=fun D σ H=>te σ H fun _ H1=>D.nx σ H1
theorem zsm (he:PE X e te) (hs:swapsWith e none pos.line X.env=pure false:=by rfl):PS X (.Expr e pos) (tDrop te):=by
 intro pins s σ H D I h
 exact wpAny_Expr_any (thn (he pins s σ H _ I h) fun v s1 ⟨x,H1,I1,r1,q1⟩=>⟨σ,H1,I1,q1⟩) I.quiet hs
def tRet (te:TE):TS:=fun D σ H=>te σ H D.rt
theorem ziv (he:PE X e te):PS X (.Return (some e) pos) (tRet te):=by
 intro pins s σ H D I h
 exact wpAny_Return_some (thn (he pins s σ H _ I h) fun v s1 ⟨x,H1,I1,r1,q1⟩=>⟨x,σ,H1,I1,r1,q1⟩)
def tIfS (c:TT) (t u:TS):TS:=fun D σ H=>c σ H fun b H1=>if b=true then t D σ H1 else u D σ H1
theorem zvc {c:Expr} {a b:List Stmt} {tc:TT} (hc:PT X c tc) (ha:PSs X a t) (hb:PSs X b u):PS X (.If c a b pos) (tIfS tc t u):=by
 intro pins s σ H D I h
 refine wpAny_If (thn (hc pins s σ H _ I h) fun d s1 ⟨H1,I1,q1⟩=>?_)
 cases d with
 | true=>exact ha pins s1 σ H1 D I1 q1
 | false=>exact hb pins s1 σ H1 D I1 q1
end
abbrev TG:=V->St->Hp->(St->Hp->Prop)->Prop
abbrev TGs:=List V->St->Hp->(St->Hp->Prop)->Prop
def PG (X:Cx) (target:Expr) (t:TG):Prop :=
 ∀ (pins:List (Addr × Obj)) (s:Shared) (σ:St) (H:Hp) (v:V) (u:Value) (Q:St->Hp->Prop),Inv X pins σ H s->RelV v u->t v σ H Q ->
  wpAny (model X.prog X.w) X.A (assign target X.env u) (fun _ s'=>∃ σ' H',Inv X pins σ' H' s'/\Q σ' H') X.xe s
def PGs (X:Cx) (ts:List Expr) (t:TGs):Prop :=
 ∀ (pins:List (Addr × Obj)) (s:Shared) (σ:St) (H:Hp) (vs:List V) (us:List Value) (Q:St->Hp->Prop),Inv X pins σ H s->Vals vs us->t vs σ H Q ->
  wpAny (model X.prog X.w) X.A (assignInOrder ((assignEach ts X.env).map (·.2)) us) (fun _ s'=>∃ σ' H',Inv X pins σ' H' s'/\Q σ' H') X.xe s
section
variable {X:Cx} {pos:Pos}
def gName (i:Nat):TG:=fun v σ H Q=>Q (σ.set i (some v)) H
theorem zl5 {i:Nat} {x:Str} (hN:X.N.Nodup) (hi:X.N[i]?=some x) (hx:Loc X.env.scope x) (hf:X.fn x=true\/X.env.scope.names.lookup x=some .local:=by first | exact .inl rfl | exact .inr rfl | assumption):PG X (.Name x pos) (gName i):=by
 intro pins s σ H v u Q I r h
 exact wpAny_assign_Name (zik I hN hi hx r (fun s' I'=>⟨_,H,I',h⟩) hf)
def gNil:TGs:=fun vs σ H Q=>vs=[]/\Q σ H
def gCons (t:TG) (u:TGs):TGs:=fun vs σ H Q=>∃ v r,vs=v::r/\t v σ H fun σ' H'=>u r σ' H' Q
theorem zss:PGs X [] gNil:=by
 intro pins s σ H vs us Q I r h
 obtain ⟨e,h⟩:=h
 subst e
 cases r
 exact assignInOrder_nil ⟨σ,H,I,h⟩
theorem zpd {e:Expr} {t:TG} {u:TGs} (h1:PG X e t) (h2:PGs X es u)
  (hs:(assignEach (e::es) X.env).map (·.2)=assign e X.env::(assignEach es X.env).map (·.2):=by rfl):PGs X (e::es) (gCons t u):=by
 intro pins s σ H vs us Q I r h
 obtain ⟨v,vr,e1,h⟩:=h
 subst e1
 cases r with
 | cons r rr =>
  rw [hs]
  refine assignInOrder_cons (thn (h1 pins s σ H _ _ _ I r h) fun _ s1 ⟨σ1,H1,I1,q1⟩=>?_)
  exact h2 pins s1 σ1 H1 _ _ Q I1 rr q1
def gTup (K:PySem.W.Frag) (n:Nat) (t:TGs):TG:=fun v σ H Q=>∃ a xs,v=.ref a/\SqT K H a xs/\xs.length=n/\t xs σ H Q
theorem zvg {k:Nat} {t:TGs} {n:Nat} (hc:X.calm=true) (h:PGs X es t)
  (hn:(assignEach es X.env).length=n:=by rfl) (hst:(assignEach es X.env).findIdx? (·.1)=none:=by rfl):PG X (.Tuple es k pos) (gTup X.K n t):=by
 intro pins s σ H v u Q I r hw
 obtain ⟨a,xs,e1,hq,hl,hw⟩:=hw
 subst e1
 cases r
 obtain ⟨its,rv,ht,hz⟩:=I.tuple hq
 refine assign_Tuple_tuple (I.ok.hd hc) ht (by simp [hn,<- hl,rv.length]) hst fun h' hx=>?_
 have I1:Inv X pins σ H { s with heap:=h' }:=I.kept (t':=s.toks) fun b o e=>hx b o (zyy (zym e)) e
 exact h pins _ σ H xs _ Q I1 (by simpa using rv) hw
def tAsg (te:TE) (g:TG):TS:=fun D σ H=>te σ H fun x H1=>g x σ H1 D.nx
theorem zep {i:Nat} {x:Str} {e:Expr} {te:TE} {pos':Pos} (hN:X.N.Nodup) (hi:X.N[i]?=some x) (hx:Loc X.env.scope x) (he:PE X e te) (hs:swapsWith e (some (.Name x pos')) pos.line X.env=pure false:=by rfl) (hf:X.fn x=true\/X.env.scope.names.lookup x=some .local:=by first | exact .inl rfl | exact .inr rfl | assumption) :
  PS X (.Assign [.Name x pos'] e pos) (tAsg te (gName i)):=by
 intro pins s σ H D I h
 refine wpAny_Assign_Name (thn (he pins s σ H _ I h) fun v s1 ⟨y,H1,I1,r1,q1⟩=>?_) hs
 exact zik I1 hN hi hx r1 (fun s2 I2=>⟨_,H1,I2,q1⟩) hf
end
section
variable {X:Cx} {pos:Pos}
end
structure It where
 go:Nat->Hp->Prop
 yld:Nat->Hp->V->Hp->Prop
 stop:Nat->Hp->Prop
def FpOk (X:Cx) (pins:List (Addr × Obj)) (H:Hp) (b:Addr):Prop :=
 H b=none/\b≠X.env.locals/\b∉X.fs/\(b∈X.ex\/X.s₀.heap.objs.size<=b)/\(∀ x c,X.env.cells.lookup x=some c->c≠b)/\∀ p∈X.pn++pins,p.1≠b
theorem Inv.fpOk {X:Cx} {pins:List (Addr × Obj)} {σ:St} {H H':Hp} {s:Shared} {b:Addr} (I:Inv X pins σ H s) (hb:s.heap.objs.size<=b) (hn:H' b=none):FpOk X pins H' b:=by
 refine ⟨hn,Nat.ne_of_gt (zyq I.lt hb),I.nofs hb,.inr (zzn I.sz hb),fun x c e z=>?_,fun p hp z=>?_⟩
 ·obtain ⟨v,q⟩:=I.cell x c e
  exact absurd (zyq q.lt (by rw [z];exact hb)) (zy1 _)
 ·exact absurd (zyq (zym (I.pin p hp).1) (by rw [z];exact hb)) (zy1 _)
structure Turn (P:Program) (w:World) (K:PySem.W.Frag) (tg:Expr) (J:It) (fp:List Addr) (it:Addr) (tn:Nat->Heap->Prop):Prop where
 mem:it∈fp
 obj:∀ i h,tn i h->∀ b∈fp,∃ o,h.get? b=some o/\∀ v,o.data≠.cell v
 keep:∀ i h h',tn i h->(∀ b∈fp,∀ o,h.get? b=some o->h'.get? b=some o)->tn i h'
 item:∀ (X:Cx),X.prog=P->X.w=w->X.K=K->X.calm=true->∀ (i:Nat) (pins:List (Addr × Obj)) (s:Shared) (σ:St) (H:Hp) (E:Value->Shared->Prop),Inv X pins σ H s->(∀ b∈fp,FpOk X pins H b)->tn i s.heap->J.go i H ->
  wpAny (model P w) X.A (pyNext (.ref it)) (fun r s1=>∃ u,r=some u /\
   wpAny (model P w) X.A (letOwnedTupleGo tg (.ref it) u) (fun _ s2=>∃ x H',Inv X pins σ H' s2/\RelV x u/\J.yld i H x H'/\tn (i+1) s2.heap/\∀ b∈fp,H' b=none) E s1) E s
 done:∀ (X:Cx),X.prog=P->X.w=w->X.K=K->X.calm=true->∀ (i:Nat) (pins:List (Addr × Obj)) (s:Shared) (σ:St) (H:Hp) (E:Value->Shared->Prop),Inv X pins σ H s->(∀ b∈fp,FpOk X pins H b)->tn i s.heap->J.stop i H ->
  wpAny (model P w) X.A (pyNext (.ref it)) (fun r s1=>r=none/\Inv X pins σ H s1) E s
 self:∀ (A:Around) (i:Nat) (s:Shared) (Q:Value->Shared->Prop) (E:Value->Shared->Prop),tn i s.heap->Q (.ref it) s->wpAny (model P w) A (pyIter (.ref it)) Q E s
abbrev TI:=St->Hp->(It->Hp->Prop)->Prop
def PIE (X:Cx) (pins:List (Addr × Obj)) (σ:St) (tg:Expr) (R:It->Hp->Prop) (itv:Value) (s2:Shared):Prop :=
 ∃ (it:Addr) (fp:List Addr) (tn:Nat->Heap->Prop) (J:It) (H':Hp),itv=.ref it/\Inv X pins σ H' s2/\Turn X.prog X.w X.K tg J fp it tn/\tn 0 s2.heap/\(∀ b∈fp,FpOk X pins H' b)/\R J H'
def PI (X:Cx) (tg iter:Expr) (wi:TI):Prop :=
 ∀ (pins:List (Addr × Obj)) (s:Shared) (σ:St) (H:Hp) (R:It->Hp->Prop),Inv X pins σ H s->wi σ H R ->
  wpAny (model X.prog X.w) X.A (eval iter X.env) (fun v s1=>wpAny (model X.prog X.w) X.A (pyIter v) (PIE X pins σ tg R) X.xe s1) X.xe s
theorem zpx {M:Model} {A:Around} {E:Value->Shared->Prop} {s:Shared} {it:Addr} {u:Value} {o:Obj} {n:String} {vs:Array Value} {Q:Unit->Shared->Prop} (ho:s.heap.get? it=some o) (hc:o.cls=.type n) (hd:o.data=.fields vs)
  (hn:["enumerate", "zip", "dict_itemiterator", "dict_reverseitemiterator", "odict_iterator", "itertools.zip_longest", "itertools.pairwise"].contains n=false) (hQ:Q () s):wpAny M A (letOwnedTupleGo tg (.ref it) u) Q E s:=by
 unfold letOwnedTupleGo
 cases tg<;>first
  | exact zyf hQ
  | (cases u<;>first
    | exact zyf hQ
    | (refine zyc (wpAny_load ho ?_)
       rw [hc,hd]
       show wpAny M A (if (["enumerate", "zip", "dict_itemiterator", "dict_reverseitemiterator", "odict_iterator", "itertools.zip_longest", "itertools.pairwise"].contains n&&vs[0]?==some (rawInt _))=true then _ else _) Q E s
       rw [if_neg (by intro h;rw [hn,Bool.false_and] at h;cases h)]
       exact zyf hQ))
def Itl (K:PySem.W.Frag) (a:Addr):It :=
 ⟨fun i H=>∃ xs x,SqL K H a xs/\xs[i]?=some x,fun i H x H'=>H'=H/\∀ xs,SqL K H a xs->xs[i]?=some x,fun i H=>∃ xs,SqL K H a xs/\xs.length<=i⟩
def Itt (K:PySem.W.Frag) (a:Addr):It :=
 ⟨fun i H=>∃ xs x,SqT K H a xs/\xs[i]?=some x,fun i H x H'=>H'=H/\∀ xs,SqT K H a xs->xs[i]?=some x,fun i H=>∃ xs,SqT K H a xs/\xs.length<=i⟩
def Itr (lo:Int) (n:Nat):It:=⟨fun i _=>i<n,fun i H x H'=>H'=H/\x=.int (lo+i),fun i _=>n<=i⟩
theorem zk1 (a it:Addr):Turn P w K tg (Itl K a) [it] it (fun i h=>h.IsListIter it a i) where
 mem:=by simp
 obj:=fun i h st b hb=>by
  have e:b=it:=by simpa using hb
  subst e
  obtain ⟨o,e,c,d⟩:=st
  exact ⟨o,e,fun v z=>by rw [d] at z;cases z⟩
 keep:=fun i h h' st k=>st.at fun o e=>k it (by simp) o e
 item:=by
  intro X hP hw hK hc i pins s σ H E I hf st hg
  subst hP hw hK
  obtain ⟨xs,x,hq,hx⟩:=hg
  obtain ⟨its,rv,p,hz⟩:=I.list hq
  obtain ⟨u,hu,ru⟩:=rv.get hx
  obtain ⟨f0,f1,f2,f3,f4,f5⟩:=hf it (by simp)
  refine wpAny_pyNext_list_item st p.isList (x:=u) (by simpa using hu) fun h' st' sb=>?_
  have I1:Inv X pins σ H { s with heap:=h' }:=I.turned (t':=s.toks) (fun b o hb e=>(sb.2 b hb).trans e) f0 f1 f3 f4 f5
  obtain ⟨o,e,c,d⟩:=id st'
  exact ⟨u,rfl,zpx (s:={ s with heap:=h' }) e c d (by decide) ⟨x,H,I1,ru,⟨rfl,fun ys hy=>by rw [I.list_inj hy hq];exact hx⟩,st',fun b hb=>(hf b hb).1⟩⟩
 done:=by
  intro X hP hw hK hc i pins s σ H E I hf st hg
  subst hP hw hK
  obtain ⟨xs,hq,hx⟩:=hg
  obtain ⟨its,rv,p,hz⟩:=I.list hq
  obtain ⟨f0,f1,f2,f3,f4,f5⟩:=hf it (by simp)
  have hl:=rv.length
  exact wpAny_pyNext_list_end (I.ok.hd hc) st p.isList (by simp;omega) fun h' eb=>⟨rfl,I.turned (t':=s.toks) (fun b o hb e=>eb b o hb e) f0 f1 f3 f4 f5⟩
 self:=fun _ _ _ _ _ st h=>wpAny_pyIter_listiter st h
theorem zjy (a it:Addr):Turn P w K tg (Itt K a) [it] it (fun i h=>h.IsTupleIter it a i) where
 mem:=by simp
 obj:=fun i h st b hb=>by
  have e:b=it:=by simpa using hb
  subst e
  obtain ⟨o,e,c,d⟩:=st
  exact ⟨o,e,fun v z=>by rw [d] at z;cases z⟩
 keep:=fun i h h' st k=>st.at fun o e=>k it (by simp) o e
 item:=by
  intro X hP hw hK hc i pins s σ H E I hf st hg
  subst hP hw hK
  obtain ⟨xs,x,hq,hx⟩:=hg
  obtain ⟨its,rv,p,hz⟩:=I.tuple hq
  obtain ⟨u,hu,ru⟩:=rv.get hx
  obtain ⟨f0,f1,f2,f3,f4,f5⟩:=hf it (by simp)
  refine wpAny_pyNext_tuple_item st (show s.heap.IsTuple a its.toArray from p) (x:=u) (by simpa using hu) fun h' st' sb=>?_
  have I1:Inv X pins σ H { s with heap:=h' }:=I.turned (t':=s.toks) (fun b o hb e=>(sb.2 b hb).trans e) f0 f1 f3 f4 f5
  obtain ⟨o,e,c,d⟩:=id st'
  exact ⟨u,rfl,zpx (s:={ s with heap:=h' }) e c d (by decide) ⟨x,H,I1,ru,⟨rfl,fun ys hy=>by rw [I.tuple_inj hy hq];exact hx⟩,st',fun b hb=>(hf b hb).1⟩⟩
 done:=by
  intro X hP hw hK hc i pins s σ H E I hf st hg
  subst hP hw hK
  obtain ⟨xs,hq,hx⟩:=hg
  obtain ⟨its,rv,p,hz⟩:=I.tuple hq
  obtain ⟨f0,f1,f2,f3,f4,f5⟩:=hf it (by simp)
  have hl:=rv.length
  exact wpAny_pyNext_tuple_end (I.ok.hd hc) st (show s.heap.IsTuple a its.toArray from p) (by simp;omega) fun h' eb=>⟨rfl,I.turned (t':=s.toks) (fun b o hb e=>eb b o hb e) f0 f1 f3 f4 f5⟩
 self:=fun _ _ _ _ _ st h=>wpAny_pyIter_tupleiter st h
theorem zjz (it:Addr) (lo:Int) (n:Nat):Turn P w K tg (Itr lo n) [it] it (fun i h=>IsRangeIter h it (lo+(i:Nat)*1) ((n:Int)-(i:Nat)) 1) where
 mem:=by simp
 obj:=fun i h st b hb=>by
  have e:b=it:=by simpa using hb
  subst e
  exact ⟨_,st,fun v z=>by
   have z':Data.fields _=Data.cell v:=z
   cases z'⟩
 keep:=fun i h h' st k=>k it (by simp) _ st
 item:=by
  intro X hP hw hK hc i pins s σ H E I hf st hg
  subst hP hw hK
  obtain ⟨f0,f1,f2,f3,f4,f5⟩:=hf it (by simp)
  have W:=Walks.range (prog:=X.prog) (w:=X.w) (I.ok.hd hc) it lo 1 n
  refine W.item i s _ _ hg st fun v h' tk hv st' kk=>?_
  obtain ⟨t,rfl⟩:=hv
  have I1:Inv X pins σ H { s with heap:=h',toks:=tk }:=I.turned (fun b o hb e=>kk b o (by simpa using hb) e) f0 f1 f3 f4 f5
  refine ⟨_,rfl,zpx (s:={ s with heap:=h',toks:=tk }) (n:="range_iterator") st' rfl rfl (by decide) ⟨.int (lo+i),H,I1,⟨t,?_⟩,⟨rfl,rfl⟩,st',fun b hb=>(hf b hb).1⟩⟩
  rw [Int.mul_one]
 done:=by
  intro X hP hw hK hc i pins s σ H E I hf st hg
  subst hP hw hK
  obtain ⟨f0,f1,f2,f3,f4,f5⟩:=hf it (by simp)
  exact wpAny_pyNext_range_end (I.ok.hd hc) st (by have:n<=i:=hg;omega) fun h' eb=>⟨rfl,I.turned (t':=s.toks) (fun b o hb e=>eb b o hb e) f0 f1 f3 f4 f5⟩
 self:=fun _ _ _ _ _ st h=>wpAny_pyIter_rangeiter st h
end L2
namespace L2
open PySem PySem.Spec PyProof.Rows
variable {pins:List (Addr × Obj)} {s:Shared} {fp:List Addr}
section
variable {X:Cx} {tg:Expr}
theorem zo6 {σ:St} {H:Hp} {R:It->Hp->Prop} {E:Value->Shared->Prop} {lo hi:Int} {t u v:Tok} {tk:Nat} (I:Inv X pins σ H s) (h1 : -(2 ^ 62)<=lo) (h2:lo<2 ^ 62) (h3 : -(2 ^ 62)<=hi) (h4:hi<2 ^ 62)
  (q:R (Itr lo (hi-lo).toNat) H):wpAny (model X.prog X.w) X.A (pyIter (.ref s.heap.objs.size)) (PIE X pins σ tg R) E { s with heap:=s.heap.push { cls:=.type "range",data:=.fields #[.int lo t,.int hi u,.int 1 v] },toks:=tk }:=by
 refine wpAny_pyIter_range (IsRange.new ..) (small_one h1 h2 h3 h4) ?_
 have I1:Inv X pins σ H { s with heap:=s.heap.push { cls:=.type "range",data:=.fields #[.int lo t,.int hi u,.int 1 v] },toks:=tk }:=I.kept fun b o e=>zyb _ e
 refine ⟨(s.heap.push { cls:=.type "range",data:=.fields #[.int lo t,.int hi u,.int 1 v] }).objs.size,[(s.heap.push { cls:=.type "range",data:=.fields #[.int lo t,.int hi u,.int 1 v] }).objs.size],_,_,H,rfl,
  I1.kept (t':=tk) fun b o e=>zyb _ e,zjz _ lo (hi-lo).toNat,?_,fun b hb=>?_,q⟩
 ·have e1:lo+((0:Nat):Int)*1=lo:=by simp
  have e2:(((hi-lo).toNat:Nat):Int)-((0:Nat):Int)=Builtin.Range.rangeSize lo hi 1:=by rw [rangeSize_one];split<;>omega
  show IsRangeIter _ _ (lo+((0:Nat):Int)*1) ((((hi-lo).toNat:Nat):Int)-((0:Nat):Int)) 1
  rw [e1,e2]
  exact zyg _ rfl
 ·have e:b=(s.heap.push { cls:=.type "range",data:=.fields #[.int lo t,.int hi u,.int 1 v] }).objs.size:=by simpa using hb
  subst e
  exact I1.fpOk (zyl _) (I1.hok.fresh (zyl _))
def iRng1 (ta:TA):TI:=fun σ H R=>ta σ H fun vs H1=>∃ j:Int,vs=[.int j] /\ -(2 ^ 62)<=j/\j<2 ^ 62/\R (Itr 0 j.toNat) H1
theorem zl4 {a:Expr} {ta:TA} {p pos:Pos} (hg:Gl X "range") (hm:X.mg "range"=none) (ha:PA X [a] ta) (hs:starEach [a] X.env=[(false,eval a X.env)]:=by rfl):PI X tg (.Call (.Name "range" p) [a] [] pos) (iRng1 ta):=by
 intro pins s σ H R I h
 refine Call_ (zew I hg hm boot_range (PyProof.Rows.callWith_type1 (thn (ha pos pins s σ H _ I h) fun us s1 ⟨vs,H1,I1,r1,q1⟩=>?_) hs rfl))
 obtain ⟨j,e,q1,q2,q⟩:=q1
 subst e
 cases r1 with
 | cons r rr =>
  cases rr
  obtain ⟨t,rfl⟩:=r
  exact call_range_1 (zo6 I1 (by omega) (by omega) q1 q2 (by simpa using q))
def tFor (wi:TI) (g:TG) (tb:TS):TS:=fun D σ H=>wi σ H fun J H1=>∃ W:Nat->Nat->St->Hp->Prop,(∃ m,W 0 m σ H1)/\∀ i m σ H,W i m σ H ->
 (J.stop i H/\D.nx σ H)\/(J.go i H/\∃ N:St->Hp->Prop,(∀ σ' H',N σ' H'->∃ m',m'<m/\W (i+1) m' σ' H')/\∀ x H',J.yld i H x H'->g x σ H' fun σ2 H2=>tb { D with nx:=N,ct:=N,bk:=D.nx } σ2 H2)
def pinsAt (fp:List Addr) (h:Heap):List (Addr × Obj):=fp.filterMap fun b=>(h.get? b).map fun o=>(b,o)
theorem zcj {h:Heap} {b:Addr} {o:Obj} (hb:b∈fp) (e:h.get? b=some o):(b,o)∈pinsAt fp h:=List.mem_filterMap.mpr ⟨b,hb,by rw [e];rfl⟩
theorem zmc {h:Heap} {p:Addr × Obj} (hp:p∈pinsAt fp h):p.1∈fp/\h.get? p.1=some p.2:=by
 obtain ⟨b,hb,e⟩:=List.mem_filterMap.mp hp
 cases q:h.get? b with
 | none=>rw [q] at e;cases e
 | some o =>
  rw [q] at e
  have e':(b,o)=p:=zy5 e
  subst e'
  exact ⟨hb,q⟩
theorem Inv.pinned {σ:St} {H:Hp} (I:Inv X pins σ H s) (hf:∀ b∈fp,FpOk X pins H b) (ho:∀ b∈fp,∃ o,s.heap.get? b=some o/\∀ v,o.data≠.cell v):Inv X (pins++pinsAt fp s.heap) σ H s :=
 I.pins_of fun p hp=>(oma hp).elim (fun z=>I.pin p (zy3 _ z)) fun z=>by
  obtain ⟨hb,e⟩:=zmc z
  obtain ⟨f0,f1,f2,_⟩:=hf p.1 hb
  obtain ⟨o,e',d⟩:=ho p.1 hb
  rw [e] at e';cases e'
  exact ⟨e,f0,f1,f2,d⟩
theorem Inv.unpinned {pl:List (Addr × Obj)} {σ:St} {H:Hp} (I:Inv X (pins++pl) σ H s):Inv X pins σ H s:=I.pins_of fun p hp=>I.pin p (zy3 _ (List.mem_append_left _ hp))
theorem zvd {iter:Expr} {body:List Stmt} {wi:TI} {g:TG} {tb:TS} {pos:Pos} (hp:PassesOwn (model X.prog X.w) X.A X.env X.xe) (hc:X.calm=true) (hi:PI X tg iter wi) (hg:PG X tg g) (hb:PSs X body tb)
  (hs:∀ x,foldedSetIterable iter X.env x=pure x:=by intro _;rfl):PS X (.For tg iter body [] pos) (tFor wi g tb):=by
 intro pins s σ H D I h
 refine wpAny_For (thn (hi pins s σ H _ I h) fun v s1 h1=>thn h1 fun itv s2 h2=>?_) hs
 obtain ⟨it,fp,tn,J,H2,e,I2,T,st2,f2,W,⟨m0,w0⟩,turn⟩:=h2
 subst e
 have stat:∀ {H':Hp},(∀ b∈fp,H' b=none)->∀ b∈fp,FpOk X pins H' b:=fun hn b hb=>⟨hn b hb,(f2 b hb).2⟩
 refine codeAny_forLoop_any (fun n s'=>∃ i σ' H',Inv X pins σ' H' s'/\tn i s'.heap/\(∀ b∈fp,H' b=none)/\W i n σ' H') ?_ m0 ⟨0,σ,H2,I2,st2,fun b hb=>(f2 b hb).1,w0⟩
 rintro n s3 ⟨i,σ3,H3,I3,st3,fr3,w3⟩
 rcases turn i n σ3 H3 w3 with ⟨stop,qn⟩ | ⟨go,N,hN,step⟩
 ·refine wpAny_passesOwn hp (thn (T.done X rfl rfl rfl hc i pins s3 σ3 H3 X.xe I3 (stat fr3) st3 stop) fun r s4 ⟨hr,I4⟩=>?_)
  subst hr
  exact wpAny_execs_nil ⟨σ3,H3,I4,qn⟩
 ·refine wpAny_passesOwn hp (thn (T.item X rfl rfl rfl hc i pins s3 σ3 H3 X.xe I3 (stat fr3) st3 go) fun r s4 ⟨u,hr,h4⟩=>?_)
  subst hr
  refine wpAny_passesOwn hp (thn h4 fun _ s5 ⟨x,H5,I5,r5,y5,st5,fr5⟩=>?_)
  have I5':=I5.pinned (stat fr5) (T.obj _ _ st5)
  refine wpAny_passesOwn hp (thn (hg _ s5 σ3 H5 x u _ I5' r5 (step x H5 y5)) fun _ s6 ⟨σ6,H6,I6,q6⟩=>?_)
  refine wpAny_passesOwn hp (thn (hb _ s6 σ6 H6 _ I6 q6) fun f s7 q7=>?_)
  have again:∀ {σ7:St} {H7:Hp},Inv X (pins++pinsAt fp s5.heap) σ7 H7 s7->N σ7 H7->∃ m,m<n/\∃ i σ' H',Inv X pins σ' H' s7/\tn i s7.heap/\(∀ b∈fp,H' b=none)/\W i m σ' H':=fun {σ7 H7} I7 n7=>by
   obtain ⟨m',hm,w7⟩:=hN σ7 H7 n7
   refine ⟨m',hm,i+1,σ7,H7,I7.unpinned,T.keep _ _ _ st5 fun b hb o e=>(I7.pin (b,o) (zy3 _ (zy3 _ (zcj hb e)))).1,fun b hb=>?_,w7⟩
   obtain ⟨o,e,d⟩:=T.obj _ _ st5 b hb
   exact (I7.pin (b,o) (zy3 _ (zy3 _ (zcj hb e)))).2.1
  cases f with
  | next=>obtain ⟨σ7,H7,I7,n7⟩:=q7;exact again I7 n7
  | cont=>obtain ⟨σ7,H7,I7,n7⟩:=q7;exact again I7 n7
  | brk=>obtain ⟨σ7,H7,I7,q7⟩:=q7;exact ⟨σ7,H7,I7.unpinned,q7⟩
  | ret v=>obtain ⟨x7,σ7,H7,I7,r7,q7⟩:=q7;exact ⟨x7,σ7,H7,I7.unpinned,r7,q7⟩
end
end L2
namespace L2
open PySem PySem.Spec PyProof.Rows
variable {pins:List (Addr × Obj)} {op:CmpOp} {g:Int->Int->Int} {us:List Value}
abbrev R2:=V->V->Hp->VK->Prop
def OpR (X:Cx) (f:Value->Value->Sem Value) (r:R2):Prop :=
 ∀ (pins:List (Addr × Obj)) (s:Shared) (σ:St) (H:Hp) (x y:V) (v u:Value) (Q:VK),Inv X pins σ H s->RelV x v->RelV y u->r x y H Q ->
  wpAny (model X.prog X.w) X.A (f v u) (EP X pins σ Q) X.xe s
def UnR (X:Cx) (f:Value->Sem Value) (r:V->Hp->VK->Prop):Prop :=
 ∀ (pins:List (Addr × Obj)) (s:Shared) (σ:St) (H:Hp) (x:V) (v:Value) (Q:VK),Inv X pins σ H s->RelV x v->r x H Q ->
  wpAny (model X.prog X.w) X.A (f v) (EP X pins σ Q) X.xe s
def CallR (X:Cx) (f:Value) (r:List V->Hp->VK->Prop):Prop :=
 ∀ (pins:List (Addr × Obj)) (s:Shared) (σ:St) (H:Hp) (xs:List V) (us:List Value) (Q:VK),Inv X pins σ H s->Vals xs us->r xs H Q ->
  wpAny (model X.prog X.w) X.A (call f us) (EP X pins σ Q) X.xe s
def TruR (X:Cx) (r:V->Hp->(Bool->Hp->Prop)->Prop):Prop :=
 ∀ (pins:List (Addr × Obj)) (s:Shared) (σ:St) (H:Hp) (x:V) (v:Value) (Q:Bool->Hp->Prop),Inv X pins σ H s->RelV x v->r x H Q ->
  wpAny (model X.prog X.w) X.A (truthy v) (TP X pins σ Q) X.xe s
def tOp (r:R2) (ta tb:TE):TE:=fun σ H Q=>ta σ H fun x H1=>tb σ H1 fun y H2=>r x y H2 Q
def tUn (r:V->Hp->VK->Prop) (ta:TE):TE:=fun σ H Q=>ta σ H fun x H1=>r x H1 Q
def rI (C:Int->Int->Prop) (g:Int->Int->V):R2:=fun x y H Q=>∃ i j,x=.int i/\y=.int j/\C i j/\Q (g i j) H
def rI0 (g:Int->Int->V):R2:=fun x y H Q=>∃ i j,x=.int i/\y=.int j/\Q (g i j) H
def rU (g:Int->V):V->Hp->VK->Prop:=fun x H Q=>∃ i,x=.int i/\Q (g i) H
section
variable {X:Cx} {a b c:Expr} {ta tb tc:TE} {pos:Pos}
theorem binT (ha:PE X a ta) (hb:PE X b tb) {s:Shared} {σ:St} {H:Hp} {R:V->V->Hp->Prop} (I:Inv X pins σ H s)
  (h:ta σ H fun x H1=>tb σ H1 fun y H2=>R x y H2) {Q:Value->Shared->Prop} {f:Value->Value->Sem Value}
  (hf:∀ v u s2 x y H2,Inv X pins σ H2 s2->RelV x v->RelV y u->R x y H2->wpAny (model X.prog X.w) X.A (f v u) Q X.xe s2) :
  wpAny (model X.prog X.w) X.A (eval a X.env) (fun v s₁=>wpAny (model X.prog X.w) X.A (eval b X.env) (fun u s₂=>wpAny (model X.prog X.w) X.A (f v u) Q X.xe s₂) X.xe s₁) X.xe s:=by
 refine thn (ha pins s σ H _ I h) fun v s1 ⟨x,H1,I1,r1,q1⟩=>?_
 refine thn (hb pins s1 σ H1 _ I1 q1) fun u s2 ⟨y,H2,I2,r2,q2⟩=>?_
 exact hf v u s2 x y H2 I2 r1 r2 q2
theorem zvi {op:Operator} {r:R2} (ho:OpR X (binaryOp op) r) (ha:PE X a ta) (hb:PE X b tb):PE X (.BinOp a op b pos) (tOp r ta tb):=by
 intro pins s σ H Q I h
 exact wpAny_BinOp (binT ha hb I h fun v u s2 x y H2 I2 rx ry q=>ho pins s2 σ H2 x y v u Q I2 rx ry q)
theorem zxr {op:UnaryOp} {r:V->Hp->VK->Prop} (ho:UnR X (unaryOp op) r) (ha:PE X a ta):PE X (.UnaryOp op a pos) (tUn r ta):=by
 intro pins s σ H Q I h
 exact UnaryOp_ (thn (ha pins s σ H _ I h) fun v s1 ⟨x,H1,I1,r1,q1⟩=>ho pins s1 σ H1 x v Q I1 r1 q1)
theorem opI {f:Value->Value->Sem Value} {C:Int->Int->Prop}
  (rule:∀ (i j:Int) (t u:Tok) (s:Shared) (Q:Value->Shared->Prop) (E:Value->Shared->Prop),C i j->Q (.int (g i j) s.toks) { s with toks:=s.toks+1 }->wpAny (model X.prog X.w) X.A (f (.int i t) (.int j u)) Q E s) :
  OpR X f (rI C fun i j=>.int (g i j)):=by
 intro pins s σ H x y v u Q I rx ry h
 obtain ⟨i,j,rfl,rfl,hc,q⟩:=h
 obtain ⟨t,rfl⟩:=rx
 obtain ⟨t',rfl⟩:=ry
 exact rule i j t t' s _ _ hc ⟨.int (g i j),H,I.tok _,⟨_,rfl⟩,q⟩
theorem opI0 {f:Value->Value->Sem Value}
  (rule:∀ (i j:Int) (t u:Tok) (s:Shared) (Q:Value->Shared->Prop) (E:Value->Shared->Prop),Q (.int (g i j) s.toks) { s with toks:=s.toks+1 }->wpAny (model X.prog X.w) X.A (f (.int i t) (.int j u)) Q E s) :
  OpR X f (rI0 fun i j=>.int (g i j)):=by
 intro pins s σ H x y v u Q I rx ry h
 obtain ⟨i,j,rfl,rfl,q⟩:=h
 obtain ⟨t,rfl⟩:=rx
 obtain ⟨t',rfl⟩:=ry
 exact rule i j t t' s _ _ ⟨.int (g i j),H,I.tok _,⟨_,rfl⟩,q⟩
theorem opB0 {f:Value->Value->Sem Value} {g:Int->Int->Bool}
  (rule:∀ (i j:Int) (t u:Tok) (s:Shared) (Q:Value->Shared->Prop) (E:Value->Shared->Prop),Q (.bool (g i j)) s->wpAny (model X.prog X.w) X.A (f (.int i t) (.int j u)) Q E s) :
  OpR X f (rI0 fun i j=>.bl (g i j)):=by
 intro pins s σ H x y v u Q I rx ry h
 obtain ⟨i,j,rfl,rfl,q⟩:=h
 obtain ⟨t,rfl⟩:=rx
 obtain ⟨t',rfl⟩:=ry
 exact rule i j t t' s _ _ ⟨.bl (g i j),H,I,rfl,q⟩
def CDiv (i j:Int):Prop:=0<j/\j<1073741824
def CMul (i j:Int):Prop:=(-(2 ^ 64)<i/\i<2 ^ 64)\/(-(2 ^ 64)<j/\j<2 ^ 64)
theorem CMul.ok {i j:Int} (h:CMul i j):IntMulOk i j:=by
 rcases h with ⟨h1,h2⟩ | ⟨h1,h2⟩
 ·exact .of_left (intBits_le_64 h1 h2)
 ·exact .of_right (intBits_le_64 h1 h2)
theorem zvw:OpR X (binaryOp .Add) (rI0 fun i j=>.int (i+j)):=opI0 fun _ _ _ _ _ _ _ q=>add_int q
theorem zvu:OpR X (binaryOp .Sub) (rI0 fun i j=>.int (i-j)):=opI0 fun _ _ _ _ _ _ _ q=>sub_int q
theorem op_mul:OpR X (binaryOp .Mult) (rI CMul fun i j=>.int (i*j)):=opI fun _ _ _ _ _ _ _ hc q=>mul_int q hc.ok
theorem op_fdiv:OpR X (binaryOp .FloorDiv) (rI CDiv fun i j=>.int (i/j)):=opI fun i j _ _ _ _ _ hc q=>by
 have h1:(0:Int)<j:=hc.1
 have h2:j<1073741824:=hc.2
 exact floordiv_int (by omega) (by rw [Int.fdiv_eq_ediv_of_nonneg i (by omega)];exact q) (.inl (PyProof.noPylong_small (by omega)))
theorem op_mod:OpR X (binaryOp .Mod) (rI (fun _ j=>0<j) fun i j=>.int (i%j)):=opI fun i j _ _ _ _ _ hc q=>by
 have h1:(0:Int)<j:=hc
 exact mod_int' (by omega) (by rw [Int.fmod_eq_emod_of_nonneg i (by omega)];exact q)
theorem unI {f:Value->Sem Value} {g:Int->Int}
  (rule:∀ (i:Int) (t:Tok) (s:Shared) (Q:Value->Shared->Prop) (E:Value->Shared->Prop),Q (.int (g i) s.toks) { s with toks:=s.toks+1 }->wpAny (model X.prog X.w) X.A (f (.int i t)) Q E s) :
  UnR X f (rU fun i=>.int (g i)):=by
 intro pins s σ H x v Q I rx h
 obtain ⟨i,rfl,q⟩:=h
 obtain ⟨t,rfl⟩:=rx
 exact rule i t s _ _ ⟨.int (g i),H,I.tok _,⟨_,rfl⟩,q⟩
theorem zui:UnR X (unaryOp .USub) (rU fun i=>.int (-i)):=unI fun _ _ _ _ _ q=>neg_int q
end
section
variable {X:Cx} {a b c:Expr} {ta tb tc:TE} {pos:Pos}
theorem zjh {σ:St} {H:Hp} {s:Shared} {Q:VK} {k k':Bool} (I:Inv X pins σ H s) (q:Q (.bl k) H) (e:k=k'):EP X pins σ Q (.bool k') s:=by
 subst e
 exact ⟨.bl k,H,I,rfl,q⟩
theorem zxx:OpR X (compareOp .Lt) (rI0 fun i j=>.bl (decide (i<j))):=opB0 fun _ _ _ _ _ _ _ q=>lt_int q
theorem zxy:OpR X (compareOp .LtE) (rI0 fun i j=>.bl (decide (i<=j))):=opB0 fun _ _ _ _ _ _ _ q=>le_int q
theorem zxz:OpR X (compareOp .Gt) (rI0 fun i j=>.bl (decide (j<i))):=opB0 fun _ _ _ _ _ _ _ q=>gt_int q
theorem zma:OpR X (compareOp .In) (fun x y H Q=>∃ i j,x=.str i/\y=.str j/\Q (.bl (!(Builtin.Str.occurrences j i 0 j.length 1).isEmpty)) H):=by
 intro pins s σ H x y v u Q I rx ry h
 obtain ⟨i,j,rfl,rfl,q⟩:=h
 obtain ⟨t,rfl⟩:=rx
 obtain ⟨t',rfl⟩:=ry
 exact in_str (zjh I q rfl)
theorem zvv:OpR X (compareOp .Is) (fun x y H Q=>y=.non/\Q (.bl (decide (x=.non))) H):=by
 intro pins s σ H x y v u Q I rx ry h
 obtain ⟨rfl,q⟩:=h
 cases ry
 refine is_none_gen (zjh I q ?_)
 cases x<;>first
  | (cases rx;rfl)
  | (obtain ⟨t,rfl⟩:=rx;rfl)
theorem zs1:OpR X (compareOp .IsNot) (fun x y H Q=>y=.non/\Q (.bl (!decide (x=.non))) H):=by
 intro pins s σ H x y v u Q I rx ry h
 obtain ⟨rfl,q⟩:=h
 cases ry
 refine isnot_none_gen (zjh I q ?_)
 cases x<;>first
  | (cases rx;rfl)
  | (obtain ⟨t,rfl⟩:=rx;rfl)
theorem zga:OpR X (compareOp .NotIn) (fun x y H Q=>∃ i j,x=.str i/\y=.str j/\Q (.bl (!(!(Builtin.Str.occurrences j i 0 j.length 1).isEmpty))) H):=by
 intro pins s σ H x y v u Q I rx ry h
 obtain ⟨i,j,rfl,rfl,q⟩:=h
 obtain ⟨t,rfl⟩:=rx
 obtain ⟨t',rfl⟩:=ry
 exact notIn_str (zjh I q rfl)
theorem nomark (b:Expr) (h:op≠.In:=by decide) (h2:op≠.NotIn:=by decide):behindInMarks op b=false:=by
 have e1:(op==CmpOp.In)=false:=by cases op<;>first | rfl | exact absurd rfl h
 have e2:(op==CmpOp.NotIn)=false:=by cases op<;>first | rfl | exact absurd rfl h2
 cases b<;>simp [behindInMarks,e1,e2]
theorem zsu {r:R2} (ho:OpR X (compareOp op) r) (ha:PE X a ta) (hb:PE X b tb) (hm:behindInMarks op b=false):PE X (.Compare a [op] [b] pos) (tOp r ta tb):=by
 intro pins s σ H Q I h
 exact wpAny_Compare1 (binT ha hb I h fun v u s2 x y H2 I2 rx ry q=>ho pins s2 σ H2 x y v u Q I2 rx ry q) hm
def tTest (t:TE):TT:=fun σ H Q=>t σ H fun x H'=>∃ k,x=.bl k/\Q k H'
theorem zsl {r:R2} (ho:OpR X (compareOp op) r) (ha:PE X a ta) (hb:PE X b tb) (hm:behindInMarks op b=false):PT X (.Compare a [op] [b] pos) (tTest (tOp r ta tb)):=by
 intro pins s σ H Q I h
 refine wpAny_isTrue_Compare1 (thn (ha pins s σ H _ I h) fun v s1 ⟨x,H1,I1,r1,q1⟩=>thn (hb pins s1 σ H1 _ I1 q1) fun u s2 ⟨y,H2,I2,r2,q2⟩ =>
  thn (ho pins s2 σ H2 x y v u _ I2 r1 r2 q2) fun c s3 ⟨z,H3,I3,r3,k,e,q3⟩=>?_) hm
 subst e
 cases r3
 exact wpAny_truthy_bool ⟨H3,I3,q3⟩
def tChain (r r':R2) (ta tb tc:TE):TE:=fun σ H Q=>ta σ H fun x H1=>tb σ H1 fun y H2=>r x y H2 fun z H3=>∃ k,z=.bl k /\
 (if k=true then tc σ H3 fun w' H4=>r' y w' H4 Q else Q (.bl false) H3)
theorem zpf {op':CmpOp} {r r':R2} (ho:OpR X (compareOp op) r) (ho':OpR X (compareOp op') r') (ha:PE X a ta) (hb:PE X b tb) (hc:PE X c tc)
  (hm:lastMarks [op,op'] [b,c]=false:=by with_unfolding_all rfl):PE X (.Compare a [op,op'] [b,c] pos) (tChain r r' ta tb tc):=by
 intro pins s σ H Q I h
 refine Compare_chain (thn (ha pins s σ H _ I h) fun v s1 ⟨x,H1,I1,r1,q1⟩=>chain_link (thn (hb pins s1 σ H1 _ I1 q1) fun u s2 ⟨y,H2,I2,r2,q2⟩ =>
  thn (ho pins s2 σ H2 x y v u _ I2 r1 r2 q2) fun d s3 ⟨z,H3,I3,r3,k,e,q3⟩=>?_)) hm
 subst e
 cases r3
 refine wpAny_truthy_bool ?_
 cases k with
 | false=>exact ite_ff ⟨.bl false,H3,I3,rfl,q3⟩
 | true=>exact ite_tt (chain_last (thn (hc pins s3 σ H3 _ I3 q3) fun w' s4 ⟨z',H4,I4,r4,q4⟩=>ho' pins s4 σ H4 y z' u w' Q I4 r2 r4 q4))
theorem zpa {op':CmpOp} {r r':R2} (ho:OpR X (compareOp op) r) (ho':OpR X (compareOp op') r') (ha:PE X a ta) (hb:PE X b tb) (hc:PE X c tc)
  (hm:lastMarks [op,op'] [b,c]=false:=by with_unfolding_all rfl):PT X (.Compare a [op,op'] [b,c] pos) (tTest (tChain r r' ta tb tc)):=by
 intro pins s σ H Q I h
 refine isTrue_chain (thn (ha pins s σ H _ I h) fun v s1 ⟨x,H1,I1,r1,q1⟩=>test_link (thn (hb pins s1 σ H1 _ I1 q1) fun u s2 ⟨y,H2,I2,r2,q2⟩ =>
  thn (ho pins s2 σ H2 x y v u _ I2 r1 r2 q2) fun d s3 ⟨z,H3,I3,r3,k,e,q3⟩=>?_)) hm
 subst e
 cases r3
 refine wpAny_truthy_bool ?_
 cases k with
 | false =>
  obtain ⟨k',e',q'⟩:=q3
  cases e'
  exact ite_ff ⟨H3,I3,q'⟩
 | true =>
  refine ite_tt (test_last (thn (hc pins s3 σ H3 _ I3 q3) fun w' s4 ⟨z',H4,I4,r4,q4⟩=>thn (ho' pins s4 σ H4 y z' u w' _ I4 r2 r4 q4) fun d' s5 ⟨z2,H5,I5,r5,k2,e2,q5⟩=>?_))
  subst e2
  cases r5
  exact wpAny_truthy_bool ⟨H5,I5,q5⟩
def TruV (K:PySem.W.Frag) (x:V) (H:Hp) (k:Bool):Prop :=
 match x with
 | .non=>k=false
 | .bl b=>k=b
 | .int i=>k=(i != 0)
 | .str y=>y.length<=sizeLine/\k=((y.length:Int) != 0)
 | .byt y=>y.size<=sizeLine/\k=((y.size:Int) != 0)
 | .ref p=>(∃ xs,SqL K H p xs/\k=!xs.isEmpty)\/(∃ xs,SqT K H p xs/\k=!xs.isEmpty)\/∃ kvs,H p=some (.dK kvs)/\k=!kvs.isEmpty
 | _=>False
theorem zki {κ:Type} {kvs:List (κ × V)} {vs:List (κ × Value)} (r:KV kvs vs):(!vs.isEmpty)=!kvs.isEmpty:=by
 cases r<;>rfl
theorem ze0 {xs:List V} {its:List Value} (r:Vals xs its):(!its.toArray.isEmpty)=!xs.isEmpty:=by
 cases r<;>simp
theorem line63:(sizeLine:Nat)<2 ^ 63:=by rw [sizeLine_eq];decide
theorem zul:TruR X (fun x H Q=>∃ k,TruV X.K x H k/\Q k H):=by
 intro pins s σ H x v Q I rx h
 obtain ⟨k,e,q⟩:=h
 have hl:=line63
 have hs:sizeLine=16777216:=sizeLine_eq
 cases x with
 | non =>
  cases rx
  have e':k=false:=e
  subst e'
  exact truthy_none ⟨H,I,q⟩
 | bl b =>
  cases rx
  have e':k=b:=e
  subst e'
  exact wpAny_truthy_bool ⟨H,I,q⟩
 | int i =>
  obtain ⟨t,rfl⟩:=rx
  have e':k=(i != 0):=e
  subst e'
  exact PySem.P.truthy_int ⟨H,I,q⟩
 | str y =>
  obtain ⟨t,rfl⟩:=rx
  obtain ⟨hy,e'⟩:y.length<=sizeLine/\k=((y.length:Int) != 0):=e
  subst e'
  exact PySem.P.truthy_str (by omega) ⟨H,I.tok _,q⟩
 | byt y =>
  obtain ⟨t,rfl⟩:=rx
  obtain ⟨hy,e'⟩:y.size<=sizeLine/\k=((y.size:Int) != 0):=e
  subst e'
  exact PySem.W.truthy_bytes (by omega) ⟨H,I.tok _,q⟩
 | ref p =>
  cases rx
  have e':(∃ xs,SqL X.K H p xs/\k=!xs.isEmpty)\/(∃ xs,SqT X.K H p xs/\k=!xs.isEmpty)\/∃ kvs,H p=some (.dK kvs)/\k=!kvs.isEmpty:=e
  rcases e' with ⟨xs,hx,e'⟩ | ⟨xs,hx,e'⟩ | ⟨kvs,hx,e'⟩
  ·subst e'
   obtain ⟨its,r,pl,hz⟩:=I.list hx
   have hlen:=r.length
   exact wpAny_truthy_list pl.isList (by simp only [List.size_toArray];omega) ⟨H,I.tok _,by rw [ze0 r];exact q⟩
  ·subst e'
   obtain ⟨its,r,pl,hz⟩:=I.tuple hx
   have hlen:=r.length
   exact truthy_tuple pl (by simp only [List.size_toArray];omega) ⟨H,I.tok _,by rw [ze0 r];exact q⟩
  ·subst e'
   obtain ⟨hz,hS,vs,r,m⟩:kvs.length<=sizeLine/\(p==sysModules)=false/\∃ vs,KV kvs vs/\s.heap.DictOf (zah X.prog X.w) p vs:=I.hok p _ hx
   have hlen:kvs.length=vs.length:=Paired.length r
   exact wpAny_truthy_dict hS m (by omega) ⟨H,I.tok _,by rw [zki r];exact q⟩
 | _=>exact (show False from e).elim
theorem zo9 (ha:PE X a ta) (he:∀ whole,isTrue a X.env whole=(do let v <- whole;standAt a.pos;holding [v] (truthy v))) :
  PT X a (fun σ H Q=>ta σ H fun x H'=>∃ k,TruV X.K x H' k/\Q k H'):=by
 intro pins s σ H Q I h
 exact isTrue_plain (thn (ha pins s σ H _ I h) fun v s1 ⟨x,H1,I1,r1,q1⟩=>zul pins s1 σ H1 x v Q I1 r1 q1) (he _)
theorem op_add_str:OpR X (binaryOp .Add) (fun x y H Q=>∃ i j,x=.str i/\y=.str j/\i.length+j.length<=sizeLine/\Q (.str (i++j)) H):=by
 intro pins s σ H x y v u Q I rx ry h
 obtain ⟨i,j,rfl,rfl,hz,q⟩:=h
 obtain ⟨t,rfl⟩:=rx
 obtain ⟨t',rfl⟩:=ry
 exact add_str (fun t' tk=>⟨.str (i++j),H,I.tok _,⟨_,rfl⟩,q⟩) hz
theorem vals1 {x:V} (r:Vals [x] us):∃ u,us=[u]/\RelV x u:=by
 cases r with
 | cons r1 r2=>cases r2;exact ⟨_,rfl,r1⟩
theorem vals2 {x y:V} (r:Vals [x,y] us):∃ u w',us=[u,w']/\RelV x u/\RelV y w':=by
 cases r with
 | cons r1 r2 =>
  cases r2 with
  | cons r3 r4=>cases r4;exact ⟨_,_,rfl,r1,r3⟩
theorem znu:CallR X (.type "int") (fun xs H Q=>(∃ i,xs=[.int i]/\Q (.int i) H)\/∃ k,xs=[.bl k]/\Q (.int (if k then 1 else 0)) H):=by
 intro pins s σ H xs us Q I r h
 rcases h with ⟨i,rfl,q⟩ | ⟨k,rfl,q⟩
 ·obtain ⟨u,rfl,t,rfl⟩:=vals1 r
  exact call_int_int ⟨.int i,H,I,⟨_,rfl⟩,q⟩
 ·obtain ⟨u,rfl,r1⟩:=vals1 r
  cases r1
  exact call_int_bool ⟨.int (if k then 1 else 0),H,I.tok _,⟨_,rfl⟩,q⟩
theorem call_str_int:CallR X (.type "str") (fun xs H Q=>∃ i,xs=[.int i]/\i.natAbs.log2<1920/\Q (.str (toString i)) H):=by
 intro pins s σ H xs us Q I r h
 obtain ⟨i,rfl,hz,q⟩:=h
 obtain ⟨u,rfl,t,rfl⟩:=vals1 r
 exact PySem.P.str_of_int hz ⟨.str _,H,I.tok _,⟨_,rfl⟩,q⟩
end
end L2
namespace L2
open PySem PySem.Spec PyProof.Rows
structure ObjM (h:Heap) (x dx C:Addr) (mA:Str->Option Value):Prop where
 obj:h.get? x=some (PySem.W.instObj C dx)
 ns:h.Ns1 dx mA
 ne:dx≠x
section
variable {prog:Program} {w:World} {A:Around} {E:Value->Shared->Prop} {s:Shared} {K:PySem.W.Frag} {x dx C f:Addr} {mA:Str->Option Value} {name:Str} {v:Value}
end
def putF (f:Str) (v:V):List (Str × V)->List (Str × V)
 | []=>[(f,v)]
 | (g,x)::r=>if g=f then (g,v)::r else (g,x)::putF f v r
theorem RelO.some_of {v:V} {o:Option Value} (r:RelO (some v) o):∃ u,o=some u/\RelV v u:=by
 cases o with
 | none=>exact (show False from r).elim
 | some u=>exact ⟨u,rfl,r⟩
section
variable {P:Program} {w:World} {H H':Hp} {h h':Heap} {a C dx:Addr} {fs fs':List (Str × V)}
end
structure Cls (K:PySem.W.Frag) (C:Addr):Prop where
 pg:PySem.W.plainGet K C Str.empty=true
 hd:PySem.W.hasDictIn K C=true
 po:PySem.W.plainOver K C=true
 sa:PySem.W.findIn K (.ref C) "__setattr__"=some (some (.builtin "object.__setattr__"))
structure Con (K:PySem.W.Frag) (C:Addr) (f:Str) (v:V) (u:Value):Prop where
 at_:PySem.W.findIn K (.ref C) f=some (some u)
 rel:RelV v u
 get:PySem.W.specialIn K u "__get__"=some none
 cp:PySem.W.copiedNames.contains f=false
structure Meth (K:PySem.W.Frag) (C:Addr) (m:Str) (f:Addr):Prop where
 at_:PySem.W.findIn K (.ref C) m=some (some (.ref f))
 fn:PySem.W.isFn K (.ref f)=true
 kp:PySem.W.keepIn K (.ref f)=true
section
variable {X:Cx} {pins:List (Addr × Obj)} {σ:St} {H:Hp} {s:Shared} {a C dx:Addr} {fs:List (Str × V)} {f:Str} {v:V} {A:Around} {E:Value->Shared->Prop}
end
section
variable {X:Cx} {o e value:Expr} {f:Str} {pos pos' tpos:Pos} {ta tv:TE}
end
section
variable {X:Cx} {pins:List (Addr × Obj)} {σ:St} {H:Hp} {s:Shared} {A:Around} {E:Value->Shared->Prop} {Q:Value->Shared->Prop} {c:Value} {b:Bool}
end
end L2
namespace L2
open PySem PySem.Spec PyProof.Rows
variable {K:PySem.W.Frag} {us:List Value} {mg:Str->Option Value} {scope:Scope}
structure Room (k:Nat) (A:Around):Prop where
 hd:A.handled=none
 dp:A.depth+3*k+5<recursionLimit
 un:A.units+16*k+200<cLine
theorem Room.deeper {k:Nat} {A:Around} (r:Room (k+1) A) (env:Env):Room k (A.deeper env) :=
 ⟨r.hd,by have:=r.dp;show A.depth+1+3*k+5<_;omega,by have:=r.un;show A.units+3+16*k+200<_;omega⟩
theorem Room.depth {k:Nat} {A:Around} (r:Room k A):A.depth<recursionLimit:=by have:=r.dp;omega
def tNil:TA:=fun _ H Q=>Q [] H
def tCons (ta:TE) (tr:TA):TA:=fun σ H Q=>ta σ H fun x H1=>tr σ H1 fun xs H2=>Q (x::xs) H2
section
variable {X:Cx} {e:Expr} {es:List Expr} {te:TE} {t:TA} {pos:Pos}
theorem zer:PA X [] tNil:=fun _ _ _ _ H Q I h=>Calls.spliced_nil ⟨[],H,I,.nil,h⟩
theorem zbq (ha:PE X e te) (hr:PA X es t) (hs:starEach (e::es) X.env=(false,eval e X.env)::starEach es X.env:=by rfl):PA X (e::es) (tCons te t):=by
 intro pos pins s σ H Q I h
 rw [hs]
 show wpAny _ _ (spliced ((false,eval e X.env)::backTo pos (starEach es X.env))) _ _ s
 refine Calls.spliced_cons (thn (ha pins s σ H _ I h) fun u s1 ⟨x,H1,I1,r1,q1⟩=>?_)
 exact thn (hr pos pins s1 σ H1 _ I1 q1) fun us s2 ⟨xs,H2,I2,r2,q2⟩=>⟨x::xs,H2,I2,.cons r1 r2,q2⟩
def tTup (t:TA):TE:=fun σ H Q=>t σ H fun xs H1=>xs.length<=sizeLine/\∀ p,H1 p=none->Q (.ref p) (upd H1 p (.tup xs))
def tLst (t:TA):TE:=fun σ H Q=>t σ H fun xs H1=>xs.length<=sizeLine/\∀ p,H1 p=none->Q (.ref p) (upd H1 p (.lst xs))
theorem zvh {x1} (h:PA X es t):PE X (.Tuple es x1 pos) (tTup t):=by
 intro pins s σ H Q I hq
 refine wpAny_Tuple_spliced (thn (h pos pins s σ H _ I hq) fun us s1 ⟨xs,H1,I1,r,z,q⟩=>⟨by rw [<- r.length];exact z,?_⟩)
 have hf:H1 s1.heap.objs.size=none:=I1.hok.fresh (zyl _)
 refine ⟨.ref s1.heap.objs.size,upd H1 s1.heap.objs.size (.tup xs),I1.laid (t':=s1.toks) (fun b u e=>zyb _ e) (zyl _) ?_,rfl,q _ hf⟩
 exact ⟨z,us,r,⟨_,zyg _ rfl,rfl,_,rfl⟩⟩
theorem zvm (h:PA X es t):PE X (.List es pos) (tLst t):=by
 intro pins s σ H Q I hq
 refine wpAny_List_spliced (thn (h pos pins s σ H _ I hq) fun us s1 ⟨xs,H1,I1,r,z,q⟩=>⟨by rw [<- r.length];exact z,?_⟩)
 have hf:H1 s1.heap.objs.size=none:=I1.hok.fresh (zyl _)
 refine ⟨.ref s1.heap.objs.size,upd H1 s1.heap.objs.size (.lst xs),I1.laid (t':=s1.toks) (fun b u e=>zyb _ e) (zyl _) ?_,rfl,q _ hf⟩
 exact ⟨z,us,0,r,zyg _ rfl⟩
end
abbrev Sp:=List V->Hp->VK->XK->Prop
abbrev CXT:=List Env->Hp->Shared->XK->Value->Shared->Prop
structure Env0 (P:Program) (w:World) (K:PySem.W.Frag) (mg:Str->Option Value) (base:Heap) (A:Around) (outer:List Env) (s:Shared) (H:Hp):Prop where
 frames:A.frames=some outer
 mod:Mod K mg base
 bs:∀ b o,base.get? b=some o->s.heap.get? b=some o/\H b=none
 bsz:base.objs.size<=s.heap.objs.size
 funs:s.heap.FunFrames base outer
 frf:∀ b∈frs outer,H b=none
 hok:HOk P w H s.heap
 bare:AllBare s.gens
def CE (outer:List Env) (P:Program) (w:World) (H:Hp) (s:Shared) (Q:VK) (u:Value) (s':Shared):Prop :=
 ∃ v H',s'.os=s.os/\AllBare s'.gens/\Un (frs outer) [] H H' s.heap s'.heap/\HOk P w H' s'.heap/\RelV v u/\Q v H'
def CR (CX:CXT) (outer:List Env) (P:Program) (w:World) (H:Hp) (s:Shared) (Q:VK) (E:XK) (r:Result) (s':Shared):Prop :=
 match r with
 | .ok (.ret u)=>CE outer P w H s Q u s'
 | .ok _=>False
 | .error e=>CX outer H s E e s'
structure FnOk (P:Program) (w:World) (K:PySem.W.Frag) (mg:Str->Option Value) (base:Heap) (CX:CXT) (k:Nat) (f:Addr) (fd:FuncData) (ps:List Str) (sp:Sp):Prop where
 len:∀ vs H Q E,sp vs H Q E->vs.length=ps.length
 run:∀ (A:Around) (outer:List Env) (s:Shared) (H:Hp) (args:Args) (us:List Value) (vs:List V) (Q:VK) (E:XK),Room k A->Env0 P w K mg base A outer s H->BindsTo s fd args (ps.zip us)->Vals vs us->sp vs H Q E ->
  codeAny (model P w) A (.call (.ref f) args) (CR CX outer P w H s Q E) s
section
variable {X:Cx} {pins:List (Addr × Obj)} {σ:St} {H:Hp} {s s':Shared}
theorem Inv.env0 (I:Inv X pins σ H s):Env0 X.prog X.w X.K X.mg X.base X.A X.stack s H :=
 ⟨I.ok.frames,I.ok.mod,I.bs,zzn I.ok.bsz I.sz,I.stack,I.stkFree,I.hok,I.bare⟩
theorem Inv.after {Q:VK} {u:Value} (I:Inv X pins σ H s) (h:CE X.stack X.prog X.w H s Q u s'):EP X pins σ Q u s':=by
 obtain ⟨v,H',os,bare,un,hok,r,q⟩:=h
 obtain ⟨hh,g,d,t,os'⟩:=s'
 obtain rfl:os'=s.os:=os
 exact ⟨v,H',I.call (h':=hh) (g':=g) (d':=d) (t':=t) (ch:=[]) un hok bare (fun b z=>absurd z (by simp)),r,q⟩
end
def tCall (sp:Sp) (dvs:List V) (E:XK) (t:TA):TE:=fun σ H Q=>t σ H fun vs H1=>sp (vs++dvs) H1 Q E
def Binds (K:PySem.W.Frag) (fd:FuncData) (ps:List Str) (ds:List Value):Prop :=
 ∀ (s:Shared) (us:List Value),K.In s.heap->(us++ds).length=ps.length->BindsTo s fd ⟨us,[]⟩ (ps.zip (us++ds))
theorem Binds.all {fd:FuncData} {ps:List Str} (h:∀ us:List Value,us.length=ps.length->bindArgs fd ⟨us,[]⟩=pure (ps.zip us)):Binds K fd ps []:=fun s us _ hl=>by
 rw [zy6] at hl ⊢
 exact .of_eq (h us hl)
def Passes (CX:CXT) (X:Cx) (E:XK):Prop:=∀ (pins:List (Addr × Obj)) (σ:St) (H:Hp) (s:Shared) (e:Value) (s':Shared),Inv X pins σ H s->CX X.stack H s E e s'->X.xe e s'
section
variable {X:Cx} {CX:CXT} {k:Nat} {f C:Addr} {fd:FuncData} {ps:List Str} {sp:Sp} {dvs:List V} {ds:List Value} {E:XK} {x m:Str} {p pos apos:Pos} {e o:Expr} {es:List Expr} {ta:TE} {t:TA}
theorem zuw {pins:List (Addr × Obj)} {σ:St} {H:Hp} {s:Shared} {Q:VK} {vs:List V} (F:FnOk X.prog X.w X.K X.mg X.base CX k f fd ps sp) (hr:Room k X.A) (hb:Binds X.K fd ps ds) (hd:Vals dvs ds) (hx:Passes CX X E)
  (I:Inv X pins σ H s) (r:Vals vs us) (h:sp (vs++dvs) H Q E):wpAny (model X.prog X.w) X.A (call (.ref f) us) (EP X pins σ Q) X.xe s:=by
 have r2:Vals (vs++dvs) (us++ds):=r.append hd
 have hl:(us++ds).length=ps.length:=by rw [<- r2.length];exact F.len _ _ _ _ h
 refine wpAny_call (codeAny_mono (F.run X.A X.stack s H ⟨us,[]⟩ (us++ds) (vs++dvs) Q E hr I.env0 (hb s us I.kIn hl) r2 h) fun r s' hq=>?_)
 cases r with
 | error e=>exact hx pins σ H s e s' I hq
 | ok fl =>
  cases fl with
  | ret u=>exact I.after hq
  | next=>exact False.elim hq
  | brk=>exact False.elim hq
  | cont=>exact False.elim hq
theorem zl6 (F:FnOk X.prog X.w X.K X.mg X.base CX k f fd ps sp) (hr:Room k X.A) (hg:Gl X x) (hm:X.mg x=some (.ref f)) (hk:PySem.W.keepIn X.K (.ref f)=true) (hb:Binds X.K fd ps ds) (hd:Vals dvs ds) (hx:Passes CX X E)
  (ha:PA X (e::es) t) (hdb:(x==("__debug__":Str))=false:=by decide) (he:starEach (e::es) X.env=(false,eval e X.env)::starEach es X.env:=by rfl) (hpl:(backTo pos (starEach es X.env)).any (·.1)=false:=by rfl) :
  PE X (.Call (.Name x p) (e::es) [] pos) (tCall sp dvs E t):=by
 intro pins s σ H Q I h
 refine wpAny_Call_Name_kw (zhr I hg hm ?_ hdb)
 refine PySem.W.callWith_K (h₀:=X.base) I.ok.mod.kin hk (thn (ha pos pins s σ H _ I h) fun us s1 ⟨vs,H1,I1,r,q⟩=>⟨I1.kIn,?_⟩) he hpl
 exact zuw F hr hb hd hx I1 r q
structure Mk (K:PySem.W.Frag) (C f:Addr):Prop where
 makes:PySem.W.makesIn K C=true
 init:PySem.W.findIn K (.ref C) "__init__"=some (some (.ref f))
 fn:PySem.W.isFn K (.ref f)=true
 kp:PySem.W.keepIn K (.ref C)=true
end
section
variable {X:Cx} {CX:CXT} {k:Nat} {f C:Addr} {fd:FuncData} {ps ks:List Str} {sp:Sp} {E:XK} {x m:Str} {p pos apos kpos:Pos} {e o:Expr} {es:List Expr} {kws:List Keyword} {te ta:TE} {t tk:TA} {nm:Option Str}
structure KBinds (K:PySem.W.Frag) (fd:FuncData) (ps ks:List Str) (g:List Value->List Value->List Value) (gV:List V->List V->List V):Prop where
 to:∀ (s:Shared) (us ws:List Value),K.In s.heap->(g us ws).length=ps.length->BindsTo s fd ⟨us,ks.zip ws⟩ (ps.zip (g us ws))
 rel:∀ {vs:List V} {us:List Value} {zs:List V} {ws:List Value},Vals vs us->Vals zs ws->Vals (gV vs zs) (g us ws)
variable {g:List Value->List Value->List Value} {gV:List V->List V->List V}
end
structure FnScope (N P:List Str) (sc:Scope):Prop where
 kind:sc.kind=.function
 co:sc.isCoroutine=false
 gen:sc.isGenerator=false
 nd:N.Nodup
 pre:N.take P.length=P
 par:∀ x∈P,sc.names.lookup x=some .local\/sc.names.lookup x=some .cell
 nofree:∀ y∈sc.names,y.2≠.free
theorem zgz {kindOf:Str->Option NameKind} {x:Str}:∀ {binds:List (Str × Value)} {m:Str->Option Value},(∀ v,(x,v)∉binds)->bindL kindOf binds m x=m x
 | [],_,_=>rfl
 | (n,v)::r,m,h=>by
  unfold bindL
  rw [zgz fun w hw=>h w (zyn _ hw)]
  split
  ·have:x≠n:=by rintro rfl;exact h v zys
   simp [this]
  ·rfl
theorem zg1 {kindOf:Str->Option NameKind} {x:Str}:∀ {binds:List (Str × Value)} {m:Str->Option Value},(∀ v,(x,v)∉binds)->bindC kindOf binds m x=m x
 | [],_,_=>rfl
 | (n,v)::r,m,h=>by
  unfold bindC
  rw [zg1 fun w hw=>h w (zyn _ hw)]
  split
  ·rfl
  ·have:x≠n:=by rintro rfl;exact h v zys
   simp [this]
theorem zg0 {kindOf:Str->Option NameKind} {x:Str} {v:Value}:∀ {P:List Str} {vs:List Value} {i:Nat} {m:Str->Option Value},P.Nodup->P[i]?=some x->vs[i]?=some v->kindOf x=some .local ->
  bindL kindOf (P.zip vs) m x=some v
 | [],_,_,_,_,h,_,_=>by simp at h
 | _::_,[],_,_,_,_,h,_=>by simp at h
 | p::P,w::vs,0,m,nd,h1,h2,hk=>by
  simp at h1 h2;subst h1;subst h2
  show bindL kindOf ((p,w)::P.zip vs) m p=_
  unfold bindL
  rw [zgz fun v hv=>(List.nodup_cons.mp nd).1 (List.of_mem_zip hv).1,if_pos hk]
  simp
 | p::P,w::vs,i+1,m,nd,h1,h2,hk=>by
  show bindL kindOf ((p,w)::P.zip vs) m x=_
  unfold bindL
  exact zg0 (i:=i) (List.nodup_cons.mp nd).2 (by simpa using h1) (by simpa using h2) hk
theorem zg2 {kindOf:Str->Option NameKind} {x:Str} {v:Value}:∀ {P:List Str} {vs:List Value} {i:Nat} {m:Str->Option Value},P.Nodup->P[i]?=some x->vs[i]?=some v->kindOf x≠some .local ->
  bindC kindOf (P.zip vs) m x=some v
 | [],_,_,_,_,h,_,_=>by simp at h
 | _::_,[],_,_,_,_,h,_=>by simp at h
 | p::P,w::vs,0,m,nd,h1,h2,hk=>by
  simp at h1 h2;subst h1;subst h2
  show bindC kindOf ((p,w)::P.zip vs) m p=_
  unfold bindC
  rw [zg1 fun v hv=>(List.nodup_cons.mp nd).1 (List.of_mem_zip hv).1,if_neg hk]
  simp
 | p::P,w::vs,i+1,m,nd,h1,h2,hk=>by
  show bindC kindOf ((p,w)::P.zip vs) m x=_
  unfold bindC
  exact zg2 (i:=i) (List.nodup_cons.mp nd).2 (by simpa using h1) (by simpa using h2) hk
def start (N:List Str) (vs:List V):St:=vs.map some++List.replicate (N.length-vs.length) none
def cxOf (CX:CXT) (P:Program) (w:World) (K:PySem.W.Frag) (mg:Str->Option Value) (base:Heap) (N:List Str) (qual:Str) (scope:Scope) (f:Addr) (cd:Value) (A:Around) (outer:List Env) (s:Shared) (H:Hp) (E:XK):Cx where
 prog:=P
 w:=w
 K:=K
 mg:=mg
 base:=base
 A:=A.deeper (envOfC qual scope s.heap.objs.size f cd)
 N:=N
 s₀:=s
 H₀:=H
 env:=envOfC qual scope s.heap.objs.size f cd
 outer:=outer
 stack:=envOfC qual scope s.heap.objs.size f cd::outer
 ex:=[]
 calm:=true
 fn:=fun _=>true
 pn:=[]
 xe:=fun e s'=>wpAny (model P w) (A.deeper (envOfC qual scope s.heap.objs.size f cd)) (leaving (envOfC qual scope s.heap.objs.size f cd) e) (fun _ s''=>CX outer H s E e s'') (fun e' s''=>CX outer H s E e' s'') s'
theorem zfv {sc:Scope} {n:Nat} {x:Str} (h:sc.names.lookup x=some .cell):∃ c,(cellsFrom n sc.names []).lookup x=some c:=by
 have q:=PySem.W.cellsFrom_some sc.names n [] (.inl h)
 exact Option.isSome_iff_exists.mp q
theorem zmy {CX:CXT} {P:Program} {w:World} {base:Heap} {N ps:List Str} {qual:Str} {f:Addr} {cd:Value} {A:Around} {outer:List Env} {s s1:Shared} {H:Hp} {E:XK} {vs:List V}
  (S:FnScope N ps scope) (hd:A.handled=none) (e0:Env0 P w K mg base A outer s H) (hl:vs.length=ps.length) (r:Vals vs us)
  (x:InCallC s s.heap.objs.size (bindL (envOfC qual scope s.heap.objs.size f cd).kindOf (ps.zip us) fun _=>none) (cellsFrom (s.heap.objs.size+1) scope.names []) (bindC (envOfC qual scope s.heap.objs.size f cd).kindOf (ps.zip us) fun _=>none) s1) :
  Inv (cxOf CX P w K mg base N qual scope f cd A outer s H E) [] (start N vs) H s1:=by
 have hpl:ps.length<=N.length:=by have:=zzf List.length S.pre;rw [zzq] at this;omega
 obtain ⟨h1,tk,rfl,hk⟩:=x.done
 have noA:∀ b:Addr,b∉(cxOf CX P w K mg base N qual scope f cd A outer s H E).ex:=fun b z=>absurd (show b∈([]:List Addr) from z) (by simp)
 refine ⟨⟨e0.mod,S.kind,rfl,rfl,zyl _,fun y z c h1 h2=>?_,fun y hy=>?_,fun y c _ h=>?_,fun _=>hd,Around.frames_deeper e0.frames,.inr ⟨rfl,rfl⟩,fun b z=>absurd z (noA b),e0.bs,e0.bsz,fun b _ _=>noA b,fun b z=>absurd z (noA b),e0.funs,e0.frf⟩,
  rfl,e0.bare,Un.kept hk,⟨_,x.toInCall.ns,fun i y v h1 h2 h3=>?_⟩,fun y c h=>⟨_,x.cell y c h⟩,e0.hok.fresh (Nat.le_refl _),fun y c h=>?_,fun p hp=>absurd (show p∈([]:List (Addr × Obj)) from hp) (by simp),e0.hok.kept hk,?_⟩
 ·exact name_of_addr x.apart (PySem.mem_of_lookup h1) (PySem.mem_of_lookup h2)
 ·have hy:scope.names.lookup y=some .cell\/scope.names.lookup y=some .free:=hy
  rcases hy with hy | hy
  ·exact zfv hy
  ·exact absurd rfl (S.nofree _ (PySem.mem_of_lookup hy))
 ·exact Nat.le_of_lt (x.above y c (PySem.mem_of_lookup h))
 ·have hi:i<vs.length:=by
   unfold start at h2
   by_cases hi:i<vs.length
   ·exact hi
   ·rw [List.getElem?_append_right (by simpa using hi)] at h2
    rw [List.getElem?_replicate] at h2
    split at h2<;>cases h2
  have ha:vs[i]?=some v:=by
   unfold start at h2
   rw [List.getElem?_append_left (by simpa using hi),List.getElem?_map] at h2
   cases e:vs[i]? with
   | none=>rw [e] at h2;cases h2
   | some a=>rw [e] at h2;cases h2;rfl
  obtain ⟨u,hu,rv⟩:=r.get ha
  have hp:ps[i]?=some y:=by
   rw [<- S.pre,List.getElem?_take_of_lt (by omega)];exact h1
  have ndP:ps.Nodup:=by rw [<- S.pre];exact S.nd.sublist (List.take_sublist _ _)
  refine ⟨u,rv,?_⟩
  rcases S.par y (zzm hp) with k | k
  ·exact .inl ⟨k,zg0 ndP hp hu k⟩
  ·obtain ⟨c,e⟩:=zfv (n:=s.heap.objs.size+1) k
   refine .inr ⟨.inl k,c,e,?_⟩
   have q:=x.cell y c e
   rw [zg2 ndP hp hu (by show scope.names.lookup y≠_;rw [k];decide)] at q
   exact q
 ·exact e0.hok.fresh (Nat.le_of_lt (x.above y c (PySem.mem_of_lookup h)))
 ·unfold start
  show _=N.length
  rw [zyx,zyj,List.length_replicate]
  omega
theorem zwu {CX:CXT} {P:Program} {w:World} {base:Heap} {k:Nat} {f:Addr} {name qual:Str} {params:Arguments} {body:List Stmt} {dV kV doc pm cdv ct oc:Value} {an od:Option Addr}
  {osl:Array (Option Value)} {N ps:List Str} {sp:Sp} (lk:K.lookup f=some ⟨oc,od,.func (PySem.W.fnOf name qual params body scope dV kV doc pm an cdv ct),osl⟩) (hcd:PySem.W.codeIn K cdv qual=true) (S:FnScope N ps scope)
  (len:∀ vs H Q E,sp vs H Q E->vs.length=ps.length)
  (hbody:∀ (A:Around) (outer:List Env) (s:Shared) (H:Hp) (vs:List V) (Q:VK) (E:XK),Room k (A.deeper (envOfC qual scope s.heap.objs.size f cdv))->sp vs H Q E ->
   ∃ t,PSs (cxOf CX P w K mg base N qual scope f cdv A outer s H E) body t/\t { nx:=fun _ H'=>Q .non H',rt:=Q } (start N vs) H) :
  FnOk P w K mg base CX (k+1) f (PySem.W.fnOf name qual params body scope dV kV doc pm an cdv ct) ps sp:=by
 refine ⟨len,fun A outer s H args us vs Q E hr e0 hb r hsp=>?_⟩
 have hl:=len _ _ _ _ hsp
 have KX:K.In s.heap:=e0.mod.kin.keeps fun b o e=>(e0.bs b o e).1
 have lim:s.heap.NoLimit:=e0.mod.nolimit.keeps fun b o e=>(e0.bs b o e).1
 have hkind:∀ y∈ps.zip us,scope.names.lookup y.1=some .local\/(scope.names.lookup y.1=some .cell/\((cellsFrom (s.heap.objs.size+1) scope.names []).lookup y.1).isSome=true):=fun ⟨n,v⟩ hy=>by
  rcases S.par n (List.of_mem_zip hy).1 with q | q
  ·exact .inl q
  ·exact .inr ⟨q,PySem.W.cellsFrom_some _ _ _ (.inl q)⟩
 refine codeAny_call_function hr.depth (KX _ _ lk) rfl S.co S.gen rfl (PySem.W.codeRec_of KX hcd) (hb _ _ _ _ ?_)
 refine wpAny_newFunctionEnv_cells S.kind hkind fun env he s1 x=>?_
 subst he
 refine ⟨lim.keeps x.toInCall.keep,codeAny_func ?_⟩
 obtain ⟨t,ht,hq⟩:=hbody A outer s H vs Q E (hr.deeper _) hsp
 have I:Inv (cxOf CX P w K mg base N qual scope f cdv A outer s H E) [] (start N vs) H s1:=zmy S hr.hd e0 hl r x
 refine zzw (ht [] s1 (start N vs) H _ I hq) (fun fl s' hs=>?_) fun e s' hs=>hs
 have fin:∀ {σ':St} {H':Hp} {v:V} {u:Value},Inv (cxOf CX P w K mg base N qual scope f cdv A outer s H E) [] σ' H' s'->RelV v u->Q v H'->CE outer P w H s Q u s' :=
  fun {σ' H' v u} J rv q=>⟨v,H',J.os,J.bare,J.base,J.hok,rv,q⟩
 cases fl with
 | ret u =>
  obtain ⟨v,σ',H',J,rv,q⟩:=hs
  exact fin J rv q
 | next =>
  obtain ⟨σ',H',J,q⟩:=hs
  exact fin (v:=V.non) (u:=Value.none) J rfl q
 | brk =>
  obtain ⟨_,_,_,q⟩:=hs
  exact False.elim q
 | cont =>
  obtain ⟨_,_,_,q⟩:=hs
  exact False.elim q
end L2
namespace L2
open PySem PySem.Spec PyProof.Rows
section
variable {X:Cx} {x:Str} {p pos:Pos} {e:Expr} {es:List Expr} {t:TA} {id T:String} {r:List V->Hp->VK->Prop}
def tCB (r:List V->Hp->VK->Prop) (t:TA):TE:=fun σ H Q=>t σ H fun vs H1=>r vs H1 Q
theorem zfd (hc:CallR X (.builtin id) r) (hg:Gl X x) (hm:X.mg x=none) (hv:bootBuiltins x=some (.builtin id)) (ha:PA X (e::es) t) (hn:x≠"__name__":=by decide) (hdb:(x==("__debug__":Str))=false:=by decide)
  (he:starEach (e::es) X.env=(false,eval e X.env)::starEach es X.env:=by rfl) (hpl:(backTo pos (starEach es X.env)).any (·.1)=false:=by rfl):PE X (.Call (.Name x p) (e::es) [] pos) (tCB r t):=by
 intro pins s σ H Q I h
 refine wpAny_Call_Name_kw (zew I hg hm hv ?_ hn hdb)
 exact PyProof.Rows.callWith_builtin1 (thn (ha pos pins s σ H _ I h) fun us s1 ⟨vs,H1,I1,r1,q1⟩=>hc pins s1 σ H1 vs us Q I1 r1 q1) he hpl
theorem zf9 (hc:CallR X (.type T) r) (hg:Gl X x) (hm:X.mg x=none) (hv:bootBuiltins x=some (.type T)) (ha:PA X (e::es) t) (hn:x≠"__name__":=by decide) (hdb:(x==("__debug__":Str))=false:=by decide)
  (he:starEach (e::es) X.env=(false,eval e X.env)::starEach es X.env:=by rfl) (hpl:(backTo pos (starEach es X.env)).any (·.1)=false:=by rfl):PE X (.Call (.Name x p) (e::es) [] pos) (tCB r t):=by
 intro pins s σ H Q I h
 refine wpAny_Call_Name_kw (zew I hg hm hv ?_ hn hdb)
 exact PyProof.Rows.callWith_type1 (thn (ha pos pins s σ H _ I h) fun us s1 ⟨vs,H1,I1,r1,q1⟩=>hc pins s1 σ H1 vs us Q I1 r1 q1) he hpl
end
end L2
namespace HT
open PySem PyProof.Rows
variable {Q:Value->Shared->Prop} {lo hi:Option Int}
section
open PySem.SeqAt
open PySem.AutoSeq1 (wpAny_loadPart')
open PySem.MeetsSeq PySem.MeetsSeq2 PySem.MeetsSeq3
end
section
variable {prog:Program} {w:World} {A:Around} {E:Value->Shared->Prop} {s:Shared}
theorem cat_tup {t b:Addr} {vs ws:List Value} (ht:IsTup s.heap t vs.toArray) (hb:IsTup s.heap b ws.toArray) (hv:vs≠[])
  (h1:ws=[]->Q (.ref t) s) (h2:ws≠[]->Q (.ref s.heap.objs.size) { s with heap:=s.heap.push { cls:=.type "tuple",data:=.seq (vs++ws).toArray } })
  (hsz:vs.length+ws.length<=sizeLine):wpAny (model prog w) A (binaryOp .Add (.ref t) (.ref b)) Q E s:=by
 obtain ⟨⟨cls,dd,data,sl⟩,ho,hc,n,hd⟩:=id ht
 obtain ⟨⟨cls2,dd2,data2,sl2⟩,ho2,hc2,n2,hd2⟩:=id hb
 simp only at hc hd hc2 hd2
 subst hc hd hc2 hd2
 have e:vs.toArray++ws.toArray=(vs++ws).toArray:=by simp
 by_cases hw:ws=[]
 ·exact concat_meets ⟨_,ho,rfl⟩ ⟨_,ho2,rfl⟩ noFill_tuple_add seq_tuple_add PySem.F.slot_tuple_add PySem.F.entry_tuple_add (PySem.F.args_tuple_add_2 _ _)
   (tuple_addW1 t b vs.toArray ws.toArray n n2 dd dd2 sl sl2 (by simpa using hv) (by simp [hw])) ⟨ho,ho2,h1 hw⟩
 ·refine concat_meets ⟨_,ho,rfl⟩ ⟨_,ho2,rfl⟩ noFill_tuple_add seq_tuple_add PySem.F.slot_tuple_add PySem.F.entry_tuple_add (PySem.F.args_tuple_add_2 _ _)
   (tuple_addW2 t b vs.toArray ws.toArray n n2 dd dd2 sl sl2 (by simpa using hv) (by simpa using hw) (by rw [List.size_toArray,List.size_toArray];exact hsz)) ⟨ho,ho2,?_⟩
  rw [e]
  exact h2 hw
def sIx (n d:Nat):Option Int->Nat
 | none=>d
 | some v=>if v<0 then (v+(n:Int)).toNat else min v.toNat n
theorem zuv (n d:Nat) (hd:d<=n) (o:Option Int):sIx n d o<=n:=by
 cases o with
 | none=>exact hd
 | some v =>
  show (if v<0 then (v+(n:Int)).toNat else min v.toNat n)<=n
  by_cases hv:v<0
  ·rw [if_pos hv];omega
  ·rw [if_neg hv];exact Nat.min_le_right _ _
theorem znp (v:Int) (n d:Nat):(if v<0 then max (v+(n:Int)) 0 else min v (n:Int))=((sIx n d (some v):Nat):Int):=by
 show (if v<0 then max (v+(n:Int)) 0 else min v (n:Int))=(((if v<0 then (v+(n:Int)).toNat else min v.toNat n):Nat):Int)
 by_cases hv:v<0
 ·simp only [if_pos hv];omega
 ·simp only [if_neg hv];omega
theorem zko (lo hi:Option Int) (n:Nat):Builtin.Slice.sliceAdjust lo hi 1 (n:Int)=(((sIx n 0 lo:Nat):Int),((sIx n n hi:Nat):Int)):=by
 have h1:¬ ((1:Int)<0):=by omega
 unfold Builtin.Slice.sliceAdjust
 simp only [h1,if_false]
 refine Prod.ext ?_ ?_
 ·cases lo with
  | none=>rfl
  | some v=>exact znp v n 0
 ·cases hi with
  | none=>rfl
  | some v=>exact znp v n n
theorem zj6 (i j:Nat):Builtin.Slice.slicePlaces (i:Int) (j:Int) 1=j-i:=by
 unfold Builtin.Slice.slicePlaces
 have h1:(1:Int)>0:=by omega
 simp only [h1,if_true,Int.ediv_one]
 split<;>omega
theorem zen {v:Value} {o:Option Int} {Q:Option Int->Shared->Prop} (p:IsPart v o) (h:Q o s):wpAny (model prog w) A (Builtin.Slice.slicePartIndex v) Q E s:=by
 cases p with
 | none=>exact slicePart_none h
 | int i t=>exact slicePart_int h
theorem sliceApplied_gen {sl:Addr} {vl vu:Value} {n:Nat} {Q:Int × Int × Nat->Shared->Prop} (hs:s.heap.IsSliceOf sl vl vu .none) (pl:IsPart vl lo) (pu:IsPart vu hi)
  (h:Q (((sIx n 0 lo:Nat):Int),1,sIx n n hi-sIx n 0 lo) s):wpAny (model prog w) A (Builtin.Slice.sliceApplied (.ref sl) (pure (n:Int))) Q E s:=by
 obtain ⟨os,hos,hcs,hds⟩:=id hs
 unfold Builtin.Slice.sliceApplied Builtin.Slice.sliceFields
 refine zyc (zyc (wpAny_field hos hds (x:=vl) rfl (zyc (wpAny_field hos hds (x:=vu) rfl (zyc (wpAny_field hos hds (x:=.none) rfl (zyf ?_)))))))
 refine zyc (slicePart_none ?_)
 show wpAny _ _ (if ((1:Int)==0)=true then _ else _) _ _ s
 rw [if_neg (by decide)]
 refine zyc (zen pl (zyc (zen pu (zyc (zyf ?_)))))
 show wpAny _ _ (match Builtin.Slice.sliceAdjust lo hi 1 (n:Int) with | (lo,hi)=>pure (lo,(1:Int),Builtin.Slice.slicePlaces lo hi 1)) _ _ s
 rw [zko lo hi n]
 show wpAny _ _ (pure (((sIx n 0 lo:Nat):Int),(1:Int),Builtin.Slice.slicePlaces ((sIx n 0 lo:Nat):Int) ((sIx n n hi:Nat):Int) 1)) _ _ s
 rw [zj6]
 exact zyf h
theorem zpc (xs:Array Value) (i k:Nat):((List.range k).filterMap fun (m:Nat)=>xs[((i:Int)+(m:Int)*1).toNat]?).toArray=((xs.toList.drop i).take k).toArray:=by
 have e:(fun (m:Nat)=>xs[((i:Int)+(m:Int)*1).toNat]?)=fun m=>xs[i+m]?:=by
  funext m
  have:((i:Int)+(m:Int)*1).toNat=i+m:=by omega
  rw [this]
 rw [e]
 have:=pick_run xs i k
 rw [List.filterMap_map] at this
 have e2:((fun x=>xs[x]?)∘fun x=>i+x)=fun m=>xs[i+m]?:=rfl
 rw [e2] at this
 rw [this]
theorem getItem_tuple_cut {t sl:Addr} {items:Array Value} {vl vu:Value} (ht:IsTup s.heap t items) (hs:s.heap.IsSliceOf sl vl vu .none) (pl:IsPart vl lo) (pu:IsPart vu hi)
  (hw:¬ (sIx items.size 0 lo=0/\sIx items.size items.size hi=items.size))
  (h:Q (.ref s.heap.objs.size) { s with heap:=s.heap.push { cls:=.type "tuple",data:=.seq ((items.toList.drop (sIx items.size 0 lo)).take (sIx items.size items.size hi-sIx items.size 0 lo)).toArray } })
  (hsz:items.size<=sizeLine):wpAny (model prog w) A (getItem (.ref t) (.ref sl)) Q E s:=by
 have htake:sizeOk (.seq ((items.toList.drop (sIx items.size 0 lo)).take (sIx items.size items.size hi-sIx items.size 0 lo)).toArray):=by
  show ((items.toList.drop (sIx items.size 0 lo)).take (sIx items.size items.size hi-sIx items.size 0 lo)).toArray.size<=sizeLine
  rw [zyk,zzq,List.length_drop,zza]
  omega
 have hj:sIx items.size items.size hi<=items.size:=zuv _ _ (zyl _) hi
 obtain ⟨os,hos,hcs,hds⟩:=id hs
 have hTs:s.TypeIs (.ref sl) "slice":=⟨os,hos,hcs⟩
 unfold getItem
 try with_reducible refine wpAny_holding ?_
 first | refine zyc (zyf ?_) | skip
 refine zyc (wpAny_sequenceKey ht.typeIs (by decide) ?_)
 refine zyc (zy7 (name:=Str.ofString "__getitem__") ht.typeIs PyProof.Rows.slot_tuple_getitem
  (zze PyProof.Rows.slot_tuple_getitem ht.typeIs entry_tuple_getitem ?_ (args_tuple_getitem _ _)))
 show wpAny _ _ (Builtin.Tuple.tupleItemsOf (.ref t) >>= _) _ _ s
 refine zyc (tupleItemsOf_ ht ?_)
 refine zyc (wpAny_typeOf hTs ?_)
 rw [if_pos (by decide)]
 refine zyc (sliceApplied_gen hs pl pu ?_)
 have hno:¬ ((((sIx items.size 0 lo:Nat):Int)==0&&(1:Int)==1&&(sIx items.size items.size hi-sIx items.size 0 lo)==items.size)=true):=by
  intro q
  rw [zyd,zyd] at q
  have q1:((sIx items.size 0 lo:Nat):Int)=0:=eq_of_beq q.1.1
  have q2:sIx items.size items.size hi-sIx items.size 0 lo=items.size:=eq_of_beq q.2
  exact hw ⟨by omega,by omega⟩
 show wpAny _ _ (if (((sIx items.size 0 lo:Nat):Int)==0&&(1:Int)==1&&(sIx items.size items.size hi-sIx items.size 0 lo)==items.size)=true then _ else _) _ _ s
 rw [if_neg hno,zpc]
 first
  | exact zyc (m:=Builtin.Tuple.tupleExact _) (zzb (zyf ⟨_,rfl,zyf h⟩) htake)
  | exact zyc (m:=Builtin.Tuple.tupleExact _) (zzb (zyc (zyf (zyf ⟨_,rfl,zyf h⟩))) htake)
  | exact zyc (zyc (m:=Builtin.Tuple.tupleExact _) (zzb (zyf (zyf ⟨_,rfl,zyf h⟩)) htake))
  | exact zyc (zyc (m:=Builtin.Tuple.tupleExact _) (zzb (zyf ⟨_,rfl,zyf h⟩) htake))
end
end HT
namespace L2
open PySem PySem.Spec PyProof.Rows
abbrev TO:=St->Hp->(Option Int->Hp->Prop)->Prop
def PO (X:Cx) (e:Option Expr) (t:TO):Prop :=
 ∀ (pins:List (Addr × Obj)) (s:Shared) (σ:St) (H:Hp) (Q:Option Int->Hp->Prop),Inv X pins σ H s->t σ H Q ->
  wpAny (model X.prog X.w) X.A (evalPart e X.env) (fun u s'=>∃ o H',Inv X pins σ H' s'/\IsPart u o/\Q o H') X.xe s
def zrs:TO:=fun _ H Q=>Q none H
def tPart (t:TE):TO:=fun σ H Q=>t σ H fun x H1=>∃ i,x=.int i/\Q (some i) H1
section
variable {X:Cx} {e:Expr} {te:TE} {lo hi:Option Expr} {tl th:TO} {pos p2:Pos}
theorem zsp:PO X none zrs:=by
 intro pins s σ H Q I h
 rw [evalPart_none]
 exact zyf ⟨none,H,I,.none,h⟩
theorem zso (h:PE X e te):PO X (some e) (tPart te):=by
 intro pins s σ H Q I hw
 rw [evalPart_some]
 refine thn (h pins s σ H _ I hw) fun u s1 ⟨x,H1,I1,r1,q1⟩=>?_
 obtain ⟨i,rfl,q⟩:=q1
 obtain ⟨t,rfl⟩:=r1
 exact ⟨some i,H1,I1,.int i t,q⟩
def SlR (X:Cx) (r:V->Option Int->Option Int->Hp->VK->Prop):Prop :=
 ∀ (pins:List (Addr × Obj)) (s:Shared) (σ:St) (H:Hp) (x:V) (v vl vu:Value) (lo hi:Option Int) (sl:Addr) (Q:VK),Inv X pins σ H s->RelV x v->s.heap.IsSliceOf sl vl vu .none->IsPart vl lo->IsPart vu hi->r x lo hi H Q ->
  ∃ T id,typeLookup (.type T) "__getitem__"=pure (some (.builtin id))/\s.TypeIs v T/\wpAny (model X.prog X.w) X.A (getItem v (.ref sl)) (EP X pins σ Q) X.xe s
def tSl (r:V->Option Int->Option Int->Hp->VK->Prop) (te:TE) (tl th:TO):TE:=fun σ H Q=>te σ H fun x H1=>tl σ H1 fun l H2=>th σ H2 fun u H3=>r x l u H3 Q
theorem zpe {r:V->Option Int->Option Int->Hp->VK->Prop} (hr:SlR X r) (he:PE X e te) (hl:PO X lo tl) (hu:PO X hi th):PE X (.Subscript e (.Slice lo hi none p2) pos) (tSl r te tl th):=by
 intro pins s σ H Q I h
 refine Subscript_ (thn (he pins s σ H _ I h) fun v s1 ⟨x,H1,I1,r1,q1⟩=>?_)
 refine wpAny_Slice (thn (hl pins s1 σ H1 _ I1 q1) fun vl s2 ⟨l,H2,I2,pl,q2⟩=>thn (hu pins s2 σ H2 _ I2 q2) fun vu s3 ⟨u,H3,I3,pu,q3⟩=>?_)
 rw [evalPart_none]
 refine zyf ?_
 have I4:Inv X pins σ H3 { s3 with heap:=s3.heap.push { cls:=.type "slice",data:=.fields #[vl,vu,.none] } }:=I3.kept (t':=s3.toks) fun b ob q=>zyb _ q
 obtain ⟨T,id,hT,ht,hg⟩:=hr pins { s3 with heap:=s3.heap.push { cls:=.type "slice",data:=.fields #[vl,vu,.none] } } σ H3 x v vl vu l u s3.heap.objs.size Q I4 r1 (Heap.IsSliceOf.new ..) pl pu q3
 show wpAny (model X.prog X.w) X.A (subscriptTail e (.Slice lo hi none p2) v (.ref s3.heap.objs.size)) (EP X pins σ Q) X.xe { s3 with heap:=s3.heap.push { cls:=.type "slice",data:=.fields #[vl,vu,.none] } }
 exact tail_any (ops:=[.ref s3.heap.objs.size,v]) ht hT hg (by with_unfolding_all rfl)
def cutV (xs:List V) (lo hi:Option Int):List V:=(xs.drop (HT.sIx xs.length 0 lo)).take (HT.sIx xs.length xs.length hi-HT.sIx xs.length 0 lo)
theorem zed (xs:List V) (lo hi:Option Int):(cutV xs lo hi).length<=xs.length:=by
 unfold cutV
 rw [List.length_take,List.length_drop]
 exact Nat.le_trans (Nat.min_le_right _ _) (Nat.sub_le _ _)
def rSlT (K:PySem.W.Frag):V->Option Int->Option Int->Hp->VK->Prop:=fun x lo hi H Q=>∃ a xs,x=.ref a/\SqT K H a xs /\
 ¬ (HT.sIx xs.length 0 lo=0/\HT.sIx xs.length xs.length hi=xs.length)/\∀ p,H p=none->Q (.ref p) (upd H p (.tup (cutV xs lo hi)))
theorem zus:SlR X (rSlT X.K):=by
 intro pins s σ H x v vl vu lo hi sl Q I rx hs pl pu h
 obtain ⟨a,xs,rfl,hx,hw,q⟩:=h
 cases rx
 obtain ⟨its,r,ht,hz⟩:=I.tuple hx
 have hlen:its.toArray.size=xs.length:=by rw [zyk];exact r.length.symm
 refine ⟨"tuple",_,PyProof.Rows.slot_tuple_getitem.lookup,ht.typeIs,?_⟩
 refine HT.getItem_tuple_cut ht hs pl pu (by rw [hlen];exact hw) ?_ (by rw [hlen];exact hz)
 rw [hlen]
 refine ⟨.ref s.heap.objs.size,_,I.laid (t':=s.toks) (o:=.tup (cutV xs lo hi)) (fun b ob q=>zyb _ q) (zyl _) ?_,rfl,q _ (I.hok.fresh (zyl _))⟩
 exact ⟨zzn (zed xs lo hi) hz,_,(r.drop (HT.sIx xs.length 0 lo)).take (HT.sIx xs.length xs.length hi-HT.sIx xs.length 0 lo),IsTup.new _ _⟩
end
end L2
namespace L2
open PySem PySem.Spec PyProof.Rows
def ixN (n:Nat) (i:Int):Option Nat:=if 0<=i then (if i<n then some i.toNat else none) else if -(n:Int)<=i then some (i+n).toNat else none
def atI {α:Type} (xs:List α) (i:Int):Option α:=(ixN xs.length i).bind fun j=>xs[j]?
theorem ztn {n:Nat} {i:Int} {j:Nat} (h:ixN n i=some j):seqIndex? i n=some j/\j<n /\ -(n:Int)<=i/\i<n:=by
 unfold ixN at h
 by_cases h0:0<=i
 ·rw [if_pos h0] at h
  by_cases h1:i<n
  ·rw [if_pos h1] at h
   have e:i.toNat=j:=zy5 h
   exact ⟨by rw [seqIndex_of h0 h1,e],by omega,by omega,h1⟩
  ·rw [if_neg h1] at h;cases h
 ·rw [if_neg h0] at h
  by_cases h1 : -(n:Int)<=i
  ·rw [if_pos h1] at h
   have e:(i+n).toNat=j:=zy5 h
   exact ⟨by rw [seqIndex_neg (by omega) h1,e],by omega,h1,by omega⟩
  ·rw [if_neg h1] at h;cases h
theorem zn5 {α:Type} {xs:List α} {i:Int} {v:α} (h:atI xs i=some v):∃ j,seqIndex? i xs.length=some j/\xs[j]?=some v/\j<xs.length /\ -(xs.length:Int)<=i/\i<xs.length:=by
 unfold atI at h
 cases e:ixN xs.length i with
 | none=>rw [e] at h;cases h
 | some j =>
  rw [e] at h
  obtain ⟨h1,h2,h3,h4⟩:=ztn e
  exact ⟨j,h1,h,h2,h3,h4⟩
def zh8 (b:Expr):Prop:=∀ o i,subscripted b false o i=operate [o,i] (getItem o i)
def IxR (X:Cx) (r:R2):Prop :=
 ∀ (value slice:Expr) (pins:List (Addr × Obj)) (s:Shared) (σ:St) (H:Hp) (x y:V) (v u:Value) (Q:VK),Inv X pins σ H s->RelV x v->RelV y u->r x y H Q ->
  subscripted slice false v u=operate [v,u] (getItem v u)->wpAny (model X.prog X.w) X.A (subscriptTail value slice v u) (EP X pins σ Q) X.xe s
def MtR (X:Cx) (id:String) (r:V->List V->Hp->VK->Prop):Prop :=
 ∀ (pins:List (Addr × Obj)) (s:Shared) (σ:St) (H:Hp) (x:V) (xs:List V) (v:Value) (us:List Value) (Q:VK),Inv X pins σ H s->RelV x v->Vals xs us->r x xs H Q ->
  wpAny (model X.prog X.w) X.A (call (.builtin id) (v::us)) (EP X pins σ Q) X.xe s
section
variable {X:Cx} {a b:Expr} {ta tb:TE} {pos:Pos}
theorem zxv {r:R2} (hr:IxR X r) (ha:PE X a ta) (hb:PE X b tb) (hs:zh8 b):PE X (.Subscript a b pos) (tOp r ta tb):=by
 intro pins s σ H Q I h
 exact Subscript_ (binT ha hb I h fun v u s2 x y H2 I2 rx ry q=>hr a b pins s2 σ H2 x y v u Q I2 rx ry q (hs _ _))
def rIxL (K:PySem.W.Frag):R2:=fun x y H Q=>∃ p xs i v,x=.ref p/\y=.int i/\SqL K H p xs/\atI xs i=some v/\Q v H
def rIxT (K:PySem.W.Frag):R2:=fun x y H Q=>∃ p xs i v,x=.ref p/\y=.int i/\SqT K H p xs/\atI xs i=some v/\Q v H
theorem ztm:IxR X (rIxL X.K):=by
 intro value slice pins s σ H x y v u Q I rx ry h hs
 obtain ⟨p,xs,i,z,rfl,rfl,hq,he,q⟩:=h
 cases rx
 obtain ⟨t,rfl⟩:=ry
 obtain ⟨its,r,pl,hz⟩:=I.list hq
 obtain ⟨j,h1,h2,h3,h4,h5⟩:=zn5 he
 obtain ⟨w,ew,rw'⟩:=r.get h2
 have hl:=r.length
 have hn:=line63
 have fin:EP X pins σ Q w s:=⟨z,H,I,rw',q⟩
 by_cases h0:0<=i
 ·have hj:i.toNat=j:=by
   rw [seqIndex_of h0 h5] at h1
   exact zy5 h1
  exact item_listR pl.isList h0 (by omega) (by rw [hj];simpa using ew) fin hs
 ·have hj:(i+(its.toArray.size:Int)).toNat=j:=by
   rw [seqIndex_neg (by omega) h4] at h1
   rw [zyk,<- hl]
   exact zy5 h1
  exact subscriptTail_builtinR (x:=w) pl.isList.typeIs slot_list_getitem.lookup
   (wpAny_getItem_list_neg (Q:=fun r s'=>r=w/\EP X pins σ Q r s') pl.isList (by omega) (by rw [List.size_toArray]<;>omega) (by omega) (by rw [hj];simpa using ew) ⟨rfl,fin⟩) hs
theorem zwn:IxR X (rIxT X.K):=by
 intro value slice pins s σ H x y v u Q I rx ry h hs
 obtain ⟨p,xs,i,z,rfl,rfl,hq,he,q⟩:=h
 cases rx
 obtain ⟨t,rfl⟩:=ry
 obtain ⟨its,r,pl,hz⟩:=I.tuple hq
 obtain ⟨j,h1,h2,h3,h4,h5⟩:=zn5 he
 obtain ⟨w,ew,rw'⟩:=r.get h2
 have hl:=r.length
 have hn:=line63
 have fin:EP X pins σ Q w s:=⟨z,H,I,rw',q⟩
 exact subscriptTail_builtinR (x:=w) pl.typeIs slot_tuple_getitem.lookup
  (getItem_tuple (j:=j) (Q:=fun r s'=>r=w/\EP X pins σ Q r s') pl (by omega) (by omega) (by rw [List.size_toArray,<- hl];exact h1) (by simpa using ew) ⟨rfl,fin⟩) hs
theorem zf6 (lo hi:Option Int) (n:Nat):(sliceBounds lo hi none n).1=((HT.sIx n 0 lo:Nat):Int)/\(sliceBounds lo hi none n).2.1=((HT.sIx n n hi:Nat):Int)/\(sliceBounds lo hi none n).2.2=1:=by
 refine ⟨?_,?_,rfl⟩
 ·cases lo with
  | none=>simp [sliceBounds,HT.sIx]
  | some i =>
   simp only [sliceBounds,HT.sIx,Option.getD_none,show (1:Int)>0 by decide,if_true]
   by_cases h:i<0
   ·simp only [h,if_true]<;>omega
   ·simp only [h,if_false]<;>omega
 ·cases hi with
  | none=>simp [sliceBounds,HT.sIx]
  | some i =>
   simp only [sliceBounds,HT.sIx,Option.getD_none,show (1:Int)>0 by decide,if_true]
   by_cases h:i<0
   ·simp only [h,if_true]<;>omega
   ·simp only [h,if_false]<;>omega
theorem ze7 (its:List Value) (lo hi:Option Int):slicePick its.toArray lo hi none=((its.drop (HT.sIx its.length 0 lo)).take (HT.sIx its.length its.length hi-HT.sIx its.length 0 lo)).toArray:=by
 obtain ⟨h1,h2,h3⟩:=zf6 lo hi its.toArray.size
 unfold slicePick
 rw [h1,h2,h3]
 simp only [sliceRange_one,pick_run,List.size_toArray]<;>rfl
def rSlL (K:PySem.W.Frag):V->Option Int->Option Int->Hp->VK->Prop:=fun x lo hi H Q=>∃ a xs,x=.ref a/\SqL K H a xs/\∀ p,H p=none->Q (.ref p) (upd H p (.lst (cutV xs lo hi)))
theorem zr6:SlR X (rSlL X.K):=by
 intro pins s σ H x v vl vu lo hi sl Q I rx hs pl pu h
 obtain ⟨a,xs,rfl,hx,q⟩:=h
 cases rx
 obtain ⟨its,r,ht,hz⟩:=I.list hx
 have hlen:=r.length
 refine ⟨"list",_,slot_list_getitem.lookup,ht.isList.typeIs,?_⟩
 refine wpAny_getItem_list_slice ht.isList hs pl pu .none (by simp) ?_ (by rw [List.size_toArray]<;>omega)
 rw [ze7,<- hlen]
 refine ⟨.ref s.heap.objs.size,_,I.laid (t':=s.toks) (o:=.lst (cutV xs lo hi)) (fun b ob q=>zyb _ q) (zyl _) ?_,rfl,q _ (I.hok.fresh (zyl _))⟩
 exact ⟨zzn (zed xs lo hi) hz,_,0,(r.drop (HT.sIx xs.length 0 lo)).take (HT.sIx xs.length xs.length hi-HT.sIx xs.length 0 lo),zyg _ rfl⟩
def flatV:V->Bool
 | .non=>true
 | .bl _=>true
 | .int _=>true
 | .str _=>true
 | _=>false
def eqV:V->V->Bool
 | .non,.non=>true
 | .bl a,.bl b=>a==b
 | .bl a,.int b=>(if a then 1 else 0)==b
 | .int a,.bl b=>a==(if b then 1 else 0)
 | .int a,.int b=>a==b
 | .str a,.str b=>a==b
 | _,_=>false
theorem zwx {A:Around} {s:Shared} {y x:V} {u v:Value} (ry:RelV y u) (rx:RelV x v) (fy:flatV y=true) (fx:flatV x=true):SeqAt.EqAt A s u v (eqV y x):=by
 cases y with
 | non =>
  cases ry
  cases x with
  | non=>cases rx;exact SeqAt.EqAt.same _
  | bl b=>cases rx;exact SeqAt.EqAt.none_bool b
  | int b=>obtain ⟨t,rfl⟩:=rx;exact SeqAt.EqAt.none_int b t
  | str b=>obtain ⟨t,rfl⟩:=rx;exact SeqAt.EqAt.none_str b t
  | _=>exact absurd (show false=true from fx) zyz
 | bl a =>
  cases ry
  cases x with
  | non=>cases rx;exact SeqAt.EqAt.bool_none a
  | bl b=>cases rx;exact SeqAt.EqAt.bool_bool a b
  | int b=>obtain ⟨t,rfl⟩:=rx;exact SeqAt.EqAt.bool_int a b t
  | str b=>obtain ⟨t,rfl⟩:=rx;exact SeqAt.EqAt.bool_str a b t
  | _=>exact absurd (show false=true from fx) zyz
 | int a =>
  obtain ⟨t',rfl⟩:=ry
  cases x with
  | non=>cases rx;exact SeqAt.EqAt.int_none a t'
  | bl b=>cases rx;exact SeqAt.EqAt.int_bool a t' b
  | int b=>obtain ⟨t,rfl⟩:=rx;exact SeqAt.EqAt.int_int a t' b t
  | str b=>obtain ⟨t,rfl⟩:=rx;exact SeqAt.EqAt.int_str a t' b t
  | _=>exact absurd (show false=true from fx) zyz
 | str a =>
  obtain ⟨t',rfl⟩:=ry
  cases x with
  | non=>cases rx;exact SeqAt.EqAt.str_none a t'
  | bl b=>cases rx;exact SeqAt.EqAt.str_bool a t' b
  | int b=>obtain ⟨t,rfl⟩:=rx;exact SeqAt.EqAt.str_int a t' b t
  | str b=>obtain ⟨t,rfl⟩:=rx;exact SeqAt.EqAt.str_str a t' b t
  | _=>exact absurd (show false=true from fx) zyz
 | _=>exact absurd (show false=true from fy) zyz
def eqU (x:V) (u:Value):Bool:=match u with
 | .none=>eqV .non x
 | .bool b=>eqV (.bl b) x
 | .int i _=>eqV (.int i) x
 | .str z _=>eqV (.str z) x
 | _=>false
theorem zrg {x y:V} {u:Value} (r:RelV y u) (f:flatV y=true):eqU x u=eqV y x:=by
 cases y with
 | non=>cases r;rfl
 | bl b=>cases r;rfl
 | int i=>obtain ⟨t,rfl⟩:=r;rfl
 | str z=>obtain ⟨t,rfl⟩:=r;rfl
 | _=>exact absurd (show false=true from f) zyz
theorem zi4 {A:Around} {s:Shared} {x:V} {v:Value} (rx:RelV x v) (fx:flatV x=true):∀ {xs:List V} {us:List Value},Vals xs us->xs.all flatV=true->∀ u∈us,SeqAt.EqAt A s u v (eqU x u)
 | _,_,.nil,_=>fun u hu=>by cases hu
 | y::xs,u::us,.cons r t,f=>fun u' hu=>by
  rw [List.all_cons,zyd] at f
  rcases omc hu with rfl | hu
  ·rw [zrg r f.1];exact zwx r rx f.1 fx
  ·exact zi4 rx fx t f.2 u' hu
theorem zdl:CallR X (.builtin "len") (fun xs H Q=>∃ p ys,xs=[.ref p]/\(SqL X.K H p ys\/SqT X.K H p ys)/\Q (.int ys.length) H):=by
 intro pins s σ H xs us Q I r h
 obtain ⟨p,ys,rfl,hq,q⟩:=h
 obtain ⟨u,rfl,rx⟩:=vals1 r
 cases rx
 have hn:=line63
 rcases hq with hq | hq
 ·obtain ⟨its,r',pl,hz⟩:=I.list hq
  have hlen:=r'.length
  exact Calls.call_len_list pl.isList (by simp only [List.size_toArray]<;>omega) ⟨.int ys.length,H,I.tok _,⟨s.toks+1,by rw [List.size_toArray,hlen]⟩,q⟩
 ·obtain ⟨its,r',pl,hz⟩:=I.tuple hq
  have hlen:=r'.length
  exact len_tuple pl (by simp only [List.size_toArray]<;>omega) ⟨.int ys.length,H,I.tok _,⟨s.toks+1,by rw [List.size_toArray,hlen]⟩,q⟩
theorem call_len_str:CallR X (.builtin "len") (fun xs H Q=>∃ z,xs=[.str z]/\z.length<=sizeLine/\Q (.int z.length) H):=by
 intro pins s σ H xs us Q I r h
 obtain ⟨z,rfl,hz,q⟩:=h
 obtain ⟨u,rfl,t,rfl⟩:=vals1 r
 have hn:=line63
 exact len_str (by omega) ⟨.int z.length,H,I.tok _,⟨_,rfl⟩,q⟩
theorem zgw:CallR X (.type "list") (fun xs H Q=>∃ p ys,xs=[.ref p]/\(SqL X.K H p ys\/SqT X.K H p ys)/\∀ l,H l=none->Q (.ref l) (upd H l (.lst ys))):=by
 intro pins s σ H xs us Q I r h
 obtain ⟨p,ys,rfl,hq,q⟩:=h
 obtain ⟨u,rfl,rx⟩:=vals1 r
 cases rx
 have fin:∀ (its:List Value),Vals ys its->ys.length<=sizeLine->∀ (h':Heap) (c':Nat),(∀ b o',s.heap.get? b=some o'->h'.get? b=some o') ->
   h'.get? s.heap.objs.size=some { cls:=.type "list",dict:=none,data:=.seq its.toArray c',slots:=#[] }->EP X pins σ Q (.ref s.heap.objs.size) { s with heap:=h' }:=fun its r' hz h' c' kp e =>
  ⟨.ref s.heap.objs.size,_,I.laid (t':=s.toks) kp (zyl _) (show ObjOk X.prog X.w _ h' _ (.lst ys) from ⟨hz,its,c',r',e⟩),rfl,q _ (I.hok.fresh (zyl _))⟩
 rcases hq with hq | hq
 ·obtain ⟨its,r',pl,hz⟩:=I.list hq
  have hlen:=r'.length
  obtain ⟨o,ho,hc,n,hd⟩:=pl.isList
  exact call_list_seq p (.inl rfl) ho hc hd (fun h' c' kp e=>fin its r' hz h' c' kp e) (by simp only [List.size_toArray]<;>omega)
 ·obtain ⟨its,r',pl,hz⟩:=I.tuple hq
  have hlen:=r'.length
  obtain ⟨o,ho,hc,n,hd⟩:=pl
  exact call_list_seq p (.inr rfl) ho hc hd (fun h' c' kp e=>fin its r' hz h' c' kp e) (by simp only [List.size_toArray]<;>omega)
theorem zc9:CallR X (.type "tuple") (fun xs H Q=>∃ p ys,xs=[.ref p]/\((SqL X.K H p ys/\∀ l,H l=none->Q (.ref l) (upd H l (.tup ys)))\/(SqT X.K H p ys/\Q (.ref p) H))):=by
 intro pins s σ H xs us Q I r h
 obtain ⟨p,ys,rfl,h⟩:=h
 obtain ⟨u,rfl,rx⟩:=vals1 r
 cases rx
 rcases h with ⟨hq,q⟩ | ⟨hq,q⟩
 ·obtain ⟨its,r',pl,hz⟩:=I.list hq
  have hlen:=r'.length
  refine call_tuple_list pl.isList (fun h' kp=>?_) (by simp only [List.size_toArray]<;>omega)
  have I1:Inv X pins σ H { s with heap:=h' }:=I.kept (t':=s.toks) kp
  have I2:Inv X pins σ (upd H h'.objs.size (.tup ys)) { s with heap:=h'.push { cls:=.type "tuple",data:=.seq its.toArray } } :=
   I1.laid (t':=s.toks) (fun b o e=>zyb _ e) (zyl _) (show ObjOk X.prog X.w _ _ _ (.tup ys) from ⟨hz,its,r',IsTup.new _ _⟩)
  exact ⟨.ref h'.objs.size,_,I2,rfl,q _ (I1.hok.fresh (zyl _))⟩
 ·obtain ⟨its,r',pl,hz⟩:=I.tuple hq
  exact call_tuple_same pl ⟨.ref p,H,I,rfl,q⟩
def tyV (K:PySem.W.Frag) (T:String) (x:V) (H:Hp):Prop:=match x with
 | .str _=>T="str"
 | .int _=>T="int"
 | .ref p=>(T="list"/\∃ xs,SqL K H p xs)\/(T="tuple"/\∃ o,K.lookup p=some o/\o.cls=.type "tuple"/\o.dict=none) \/
   (T="dict"/\((∃ kvs,H p=some (.dK kvs))\/∃ kvs,H p=some (.dT kvs)))\/(T="set"/\∃ S n,H p=some (.set S n))
 | _=>False
theorem zuj {pins:List (Addr × Obj)} {σ:St} {H:Hp} {s:Shared} {T:String} {x:V} {v:Value} (I:Inv X pins σ H s) (r:RelV x v) (ty:tyV X.K T x H) :
  s.TypeIs v T/\∀ a,v=.ref a->∃ ob,s.heap.get? a=some ob/\ob.dict=none:=by
 cases x with
 | str z =>
  obtain ⟨t,rfl⟩:=r
  cases (show T="str" from ty)
  exact ⟨typeIs_str s z t,fun _ e=>nomatch e⟩
 | int i =>
  obtain ⟨t,rfl⟩:=r
  cases (show T="int" from ty)
  exact ⟨typeIs_int s i t,fun _ e=>nomatch e⟩
 | ref p =>
  cases r
  rcases ty with ⟨rfl,xs,hq⟩ | ⟨rfl,o,hk,hc,hd⟩ | ⟨rfl,hk⟩ | ⟨rfl,S,n,hk⟩
  ·obtain ⟨its,_,pl,_⟩:=I.list hq
   refine ⟨pl.isList.typeIs,fun a e=>?_⟩
   cases e
   obtain ⟨o,n,e,c,hd,_⟩:=pl
   exact ⟨o,e,hd⟩
  ·refine ⟨⟨o,I.kIn p o hk,hc⟩,fun a e=>?_⟩
   cases e
   exact ⟨o,I.kIn _ o hk,hd⟩
  ·have z:∃ o,s.heap.get? p=some o/\o.ExactDict:=by
    rcases hk with ⟨kvs,hk⟩ | ⟨kvs,hk⟩
    ·obtain ⟨_,_,_,_,o,_,_,e,ex,_⟩:=I.hok p _ hk
     exact ⟨o,e,ex⟩
    ·obtain ⟨_,_,_,_,o,_,_,e,ex,_⟩:=I.hok p _ hk
     exact ⟨o,e,ex⟩
   obtain ⟨o,e,ex⟩:=z
   refine ⟨⟨o,e,ex.1⟩,fun a e2=>?_⟩
   cases e2
   exact ⟨o,e,ex.2.1⟩
  ·obtain ⟨o,_,_,_,e,ex,_⟩:=I.hok p _ hk
   refine ⟨⟨o,e,ex.1⟩,fun a e2=>?_⟩
   cases e2
   exact ⟨o,e,ex.2.1⟩
 | _=>exact False.elim ty
def tBM (K:PySem.W.Frag) (T:String) (r:V->List V->Hp->VK->Prop) (to:TE) (t:TA):TE:=fun σ H Q=>to σ H fun x H1=>tyV K T x H1/\t σ H1 fun xs H2=>r x xs H2 Q
variable {o e:Expr} {es:List Expr} {to:TE} {t:TA} {name:Str} {apos cpos:Pos} {T id:String} {r:V->List V->Hp->VK->Prop}
theorem zvp (pa:PlainAttrs T) (slot:Slot T name id) (hty:typeOf (.builtin id)=pure (.type "method_descriptor")) (hm:MtR X id r) (ho:PE X o to) (ha:PA X (e::es) t)
  (hbase:attributeBase o name X.env (eval o X.env)=eval o X.env:=by rfl)
  (hfew:((backTo cpos (starEach (e::es) X.env)).all (fun x=>!x.1)&&(backToKw cpos (keywordEach [] X.env)).all (fun x=>x.1.isSome)
   && decide ((e::es).length+([]:List Keyword).length+(if ([]:List Keyword).isEmpty then 0 else 1)<30))=true:=by rfl)
  (hline:(apos.endLine==cpos.line)=true:=by rfl) (hs:starEach (e::es) X.env=(false,eval e X.env)::starEach es X.env:=by rfl) (hplain:(backTo cpos (starEach es X.env)).any (·.1)=false:=by rfl) :
  PE X (.Call (.Attribute o name apos) (e::es) [] cpos) (tBM X.K T r to t):=by
 intro pins s σ H Q I h
 refine wpAny_Call_method_late hbase hfew hline rfl (thn (ho pins s σ H _ I h) fun v s1 ⟨x,H1,I1,r1,ty,q1⟩=>?_)
 obtain ⟨h1,h2⟩:=zuj I1 r1 ty
 refine ⟨T,id,pa,slot,hty,h1,h2,?_⟩
 have hA:=ha cpos pins s1 σ H1 _ I1 q1
 rw [hs] at hA ⊢
 refine Calls.callWith_builtin (by show (false||(backTo cpos (starEach es X.env)).any (·.1))=false;rw [hplain]<;>rfl) (Calls.evalArgs_plain ?_)
 exact thn hA fun us s2 ⟨vs,H2,I2,r2,q2⟩=>hm pins s2 σ H2 x vs v us Q I2 r1 r2 q2
end
end L2
namespace L2
open PySem PySem.Spec PyProof.Rows
variable {its:List Value}
def MtM (X:Cx) (id:String) (r:V->List V->Hp->VK->Prop):Prop :=
 ∀ (pins:List (Addr × Obj)) (s:Shared) (σ:St) (H:Hp) (x:V) (xs:List V) (v:Value) (us:List Value) (Q:VK),Inv X pins σ H s->RelV x v->Vals xs us->r x xs H Q ->
  wpAny (model X.prog X.w) X.A (call (.builtin id) (v::us)) (EP X pins σ Q) X.xe s
theorem Vals.one:∀ {x:V} {us:List Value},Vals [x] us->∃ u,us=[u]/\RelV x u
 | _,_,.cons r .nil=>⟨_,rfl,r⟩
section
variable {X:Cx} {pins:List (Addr × Obj)} {σ:St} {H:Hp} {s:Shared} {l b:Addr} {xs ys zs:List V}
theorem Inv.lset {its':List Value} {n:Nat} {f:Array Value->Array Value} {t':Nat} (I:Inv X pins σ H s) (hH:H l=some (.lst xs))
  (e:s.heap.get? l=some { cls:=.type "list",data:=.seq its.toArray n }) (hf:f its.toArray=its'.toArray) (hv:Vals ys its') (hz:ys.length<=sizeLine) :
  Inv X pins σ (upd H l (.lst ys)) { s with heap:=s.heap.update l (Obj.mapSeq f),toks:=t' }:=by
 have q:=PySem.IsL.update e f
 rw [hf] at q
 refine I.write (x:=l) (e:=l) (by rw [hH];exact trivial) (.inl rfl) (fun b' u hb hu=>(Heap.get?_update_other s.heap (Obj.mapSeq f) (Ne.symm hb)).trans hu) ⟨_,q⟩ ?_
 exact ⟨hz,its',_,hv,q⟩
theorem Inv.lnew {t':Nat} (I:Inv X pins σ H s) (hv:Vals ys its) (hz:ys.length<=sizeLine) :
  Inv X pins σ (upd H s.heap.objs.size (.lst ys)) { s with heap:=s.heap.push { cls:=.type "list",data:=.seq its.toArray },toks:=t' } :=
 I.laid (fun _ _ q=>zyb _ q) (zyl _) ⟨hz,its,0,hv,zyg _ rfl⟩
theorem Inv.fresh (I:Inv X pins σ H s):H s.heap.objs.size=none:=I.hok.fresh (zyl _)
theorem Inv.lstM (I:Inv X pins σ H s) (hH:H l=some (.lst xs)):xs.length<=sizeLine/\∃ (its:List Value) (n:Nat),Vals xs its/\xs.length=its.length/\s.heap.get? l=some { cls:=.type "list",data:=.seq its.toArray n }:=by
 obtain ⟨z,its,n,r,e⟩:=I.hok l _ hH
 exact ⟨z,its,n,r,r.length,e⟩
end
section
variable {X:Cx}
def zse:V->List V->Hp->VK->Prop:=fun x vs H Q=>∃ l xs y,x=.ref l/\vs=[y]/\H l=some (.lst xs)/\xs.length<sizeLine/\Q .non (upd H l (.lst (xs++[y])))
theorem zgf:MtM X "list.append" zse:=by
 intro pins s σ H x vs v us Q I rx rv h
 obtain ⟨l,xs,y,rfl,rfl,hH,hz,q⟩:=h
 cases rx
 obtain ⟨u,rfl,ru⟩:=rv.one
 obtain ⟨z,its,n,r,hl,e⟩:=I.lstM hH
 refine call_meets F.slot_list_append ⟨_,e,rfl⟩ F.entry_list_append (F.args_list_append_2 _ _) (PySem.list_append l its.toArray n u (by rw [zyk];omega)) ⟨e,?_⟩
 refine ⟨.non,_,I.lset (its':=its++[u]) hH e (by simp) (r.append (.cons ru .nil)) ?_,rfl,q⟩
 rw [zyx,zzt]
 omega
end
section
variable {prog:Program} {w:World} {A:Around} {E:Value->Shared->Prop} {s:Shared}
set_option maxRecDepth 100000 in
end
section
variable {X:Cx}
end
end L2
namespace Att
open PySem PySem.W PySem.Calls PyProof.Rows
theorem zea {P:Params} {h:Heap}:∀ (ns:List Int) (vs:List Value),WellAll P h vs (ns.map WData.int)->IntsAre vs ns:=by
 intro ns
 induction ns with
 | nil =>
  intro vs w
  rw [List.map_nil] at w
  cases w
  exact .nil
 | cons n ns ih =>
  intro vs w
  rw [zyh] at w
  cases w with
  | cons a b =>
   cases a
   exact .cons _ _ (ih _ b)
theorem zli {l:OpenLaw} {n:Nat} (hn:l.most=some n) {P:Params} {h:Heap} {args:List WData} {vals:List Value}
  (hpre:l.row.toRowW.claim.pre args=true) (hwl:WellAll P h vals args) :
  ∃ a vs ns,vals=[Value.ref a]/\args=[WData.list (ns.map WData.int)]/\h.get? a=some { cls:=.type "list",data:=.seq vs.toArray }/\IntsAre vs ns/\ns.length<=n:=by
 have hsh:WShape.hasAll [] args [.list .int]=true:=(pre_splitW hpre).1
 have hc:l.pre.holds [] { args:=args }=true:=(pre_splitW hpre).2
 obtain ⟨d,r,rfl,h1,h2⟩:=hasAllW_cons hsh
 obtain rfl:=hasAllW_nil h2
 obtain ⟨xs,rfl,h3⟩:=hasW_list h1
 obtain ⟨ns,rfl⟩:=items_int h3
 have hlen:ns.length<=n:=by
  unfold OpenLaw.pre at hc
  have h4:(WTm.not (.lt (.lit (.int (n:Int))) (.len (.arg 0)))).holds [] { args:=[.list (ns.map .int)] }=true:=by
   have h4:=(holds_andW hc).1
   rw [hn] at h4
   exact h4
  have h5:=condW_of h4 (w_not (w_lt w_lit (w_len_list (w_arg rfl))))
  rw [zyj] at h5
  refine Nat.le_of_not_lt fun q=>?_
  have q':(n:Int)<((ns.length:Nat):Int):=by omega
  first
   | (rw [zyw q'] at h5;exact absurd h5 (by decide))
   | (simp at h5;omega)
 cases hwl with
 | cons w1 w2 =>
  cases w2
  cases w1 with
  | list ho hall=>exact ⟨_,_,ns,rfl,rfl,ho,zea ns _ hall,hlen⟩
theorem zlx (l:OpenLaw) (args:List WData):l.row.toRowW.claim.post args (.bool true) args=true :=
 postW_of (r:=l.row.toRowW) (X:=(true==true))
  (show WShape.has [] (.bool true) .bool=true by first | rfl | decide | simp [WShape.has,WShape.arms,WShape.armsAll])
  (show (WTm.eq .res (.lit (.bool true))).value [] { args:=args,res:=some (.bool true),after:=args }=some (.bool (true==true)) from w_eq_bool (w_res rfl) w_lit) rfl
theorem attach_call {l:OpenLaw} {n:Nat} {q:Program} {loose:List Str} {XP:(Str->Option Value)->Heap->Prop} {YP:World->Heap->Prop} {d:DefRec}
  (hn:l.most=some n) (hdf:d.params.defaults=[])
  (call:∀ (w:World) (s₀ s₁:Shared) (mg mb:Str->Option Value) (fa:Addr) (o:Obj) (pm cd doc:Value) (a:Addr) (vs:List Value) (ns:List Int),
   Ground q loose [] XP w s₀ mg mb s₁.heap->YP w s₁.heap ->
   s₁.heap.get? fa=some o->o.data=.func (docDef d.name d.params d.body d.scope pm cd doc)->s₁.heap.CodeRec cd d.name->mg d.name=some (.ref fa) ->
   s₁.heap.get? a=some { cls:=.type "list",data:=.seq vs.toArray }->IntsAre vs ns->ns.length<=n->s₁.gens=#[] ->
   codeAny (model l.prog w) callerA (.call (.ref fa) ⟨[.ref a],[]⟩) (fun r s'=>r=.ok (.ret (.bool true))/\OldK s₁.heap s'.heap/\s'.os=s₁.os/\AllBare s'.gens) s₁) :
  WalkO q loose XP YP l.row.toRowW d [] (fun f vs=>PySem.call f vs):=by
 intro w s₀ s₁ mg mb G Y fa o pm cd doc dV kV ho hd hcd hD hmg hg args vals as hpre hlay hrd hwl hlo
 obtain rfl:dV=.none:=Dflts.none hD hdf
 obtain rfl:kV=.none:=Dflts.noKw hD
 obtain ⟨a,vs,ns,rfl,rfl,hobj,hints,hlen⟩:=zli hn hpre hwl
 refine enter_call (codeAny_mono (call w s₀ s₁ mg mb fa o pm cd doc a vs ns G Y ho (fd_plain hd) hcd hmg hobj hints hlen hg) fun r s' hq=>?_)
 obtain ⟨rfl,h2,h3,h4⟩:=hq
 exact ⟨.inl ⟨.bool true,.bool true,[],rfl,fun _=>rfl,.bool true,zlx l _,fun _=>⟨List.Pairwise.nil,fun _ hm=>(nomatch hm)⟩⟩,h2,h3,h4⟩
section
variable {prog:Program} {w:World} {A:Around} {E:Value->Shared->Prop} {s:Shared} {K:Frag}
def ledger (h:Heap) (L d:Addr):List (Addr × Obj):=(List.range h.objs.size).filterMap fun a=>if a=L\/a=d then none else (h.get? a).map fun o=>(a,o)
end
end Att
namespace L2
open PySem PySem.Spec PyProof.Rows
theorem zf0:∀ {vs:List Value} {ns:List Int},IntsAre vs ns->Vals (ns.map V.int) vs
 | _,_,.nil=>.nil
 | _,_,.cons n t h=>.cons ⟨t,rfl⟩ (zf0 h)
end L2
namespace L2
open PySem PySem.Spec PyProof.Rows
abbrev KOf {K:PySem.W.Frag} {h:Heap} (_:K.In h):PySem.W.Frag:=K
end L2
namespace L2
open PySem PySem.Spec PyProof.Rows
variable {x qual:Str} {st:Stmt} {f:Addr} {fd:FuncData} {ps:List Str}
def za4 (s:Stmt):Arguments:=match s with
 | .FunctionDef _ a _ _ _ _ _ _ _ _=>a
 | _=>{ posonlyargs:=[],args:=[],vararg:=none,kwonlyargs:=[],kw_defaults:=[],kwarg:=none,defaults:=[] }
def defBody (s:Stmt):List Stmt:=match s with
 | .FunctionDef _ _ b _ _ _ _ _ _ _=>b
 | _=>[]
def zab (s:Stmt):Scope:=match s with
 | .FunctionDef _ _ _ _ _ _ sc _ _ _=>sc
 | _=>{ kind:=.function,names:=[],isGenerator:=false,isCoroutine:=false }
abbrev CX0:CXT:=fun _ _ _ _ _ _=>False
abbrev E0:XK:=fun _ _ _=>False
theorem pass0 {X:Cx}:Passes CX0 X E0:=fun _ _ _ _ _ _ _ h=>h.elim
structure Fun (K:PySem.W.Frag) (x qual:Str) (st:Stmt) (f:Addr) (fd:FuncData):Prop where
 ex:∃ (oc:Value) (od:Option Addr) (kV doc pm:Value) (an:Option Addr) (cdv ct:Value) (osl:Array (Option Value)),
  fd=PySem.W.fnOf x qual (za4 st) (defBody st) (zab st) .none kV doc pm an cdv ct/\K.lookup f=some ⟨oc,od,.func fd,osl⟩/\PySem.W.codeIn K cdv qual=true
 kp:PySem.W.keepIn K (.ref f)=true
section
variable {P:Program} {w:World} {K:PySem.W.Frag} {mg:Str->Option Value} {base:Heap}
theorem Fun.ok {N:List Str} {k:Nat} {sp:Sp} (F:Fun K x qual st f fd) (S:FnScope N ps (zab st)) (len:∀ vs H Q E,sp vs H Q E->vs.length=ps.length)
  (hbody:∀ (cdv:Value) (A:Around) (outer:List Env) (s:Shared) (H:Hp) (vs:List V) (Q:VK) (E:XK),Room k (A.deeper (envOfC qual (zab st) s.heap.objs.size f cdv))->sp vs H Q E ->
   ∃ t,PSs (cxOf CX0 P w K mg base N qual (zab st) f cdv A outer s H E).nox (defBody st) t/\t { nx:=fun _ H'=>Q .non H',rt:=Q } (start N vs) H):FnOk P w K mg base CX0 (k+1) f fd ps sp:=by
 obtain ⟨oc,od,kV,doc,pm,an,cdv,ct,osl,rfl,lk,hcd⟩:=F.ex
 refine zwu lk hcd S len fun A outer s H vs Q E hr hsp=>?_
 obtain ⟨t,h,q⟩:=hbody cdv A outer s H vs Q E hr hsp
 exact ⟨t,h.nox,q⟩
theorem Fun.binds (F:Fun K x qual st f fd)
  (h:∀ (kV doc pm:Value) (an:Option Addr) (cdv ct:Value) (us:List Value),us.length=ps.length->bindArgs (PySem.W.fnOf x qual (za4 st) (defBody st) (zab st) .none kV doc pm an cdv ct) ⟨us,[]⟩=pure (ps.zip us)):Binds K fd ps []:=by
 obtain ⟨oc,od,kV,doc,pm,an,cdv,ct,osl,rfl,lk,hcd⟩:=F.ex
 exact .all (h kV doc pm an cdv ct)
theorem zwt {oc:Value} {od an:Option Addr} {osl:Array (Option Value)} {kV doc pm cdv ct:Value} (l:K.lookup f=some ⟨oc,od,.func (PySem.W.fnOf x qual (za4 st) (defBody st) (zab st) .none kV doc pm an cdv ct),osl⟩)
  (c:PySem.W.codeIn K cdv qual=true) (k:PySem.W.keepIn K (.ref f)=true):Fun K x qual st f (PySem.W.fnOf x qual (za4 st) (defBody st) (zab st) .none kV doc pm an cdv ct):=⟨⟨oc,od,kV,doc,pm,an,cdv,ct,osl,rfl,l,c⟩,k⟩
end
theorem zf5 {n:Nat} (h:n<=1000):n<sizeLine:=Nat.lt_of_le_of_lt h (by decide)
section
variable {X:Cx}
end
theorem iteF {A B:Prop} (h:B):if false=true then A else B:=by
 rw [if_neg zyz]
 exact h
theorem iteT {A B:Prop} (h:A):if true=true then A else B:=by
 rw [if_pos rfl]
 exact h
def Same (H H':Hp):Prop:=∀ b o,H b=some o->H' b=some o
theorem Same.refl (H:Hp):Same H H:=fun _ _ h=>h
theorem Same.trans {H H1 H2:Hp} (a:Same H H1) (b:Same H1 H2):Same H H2:=fun c o h=>b c o (a c o h)
theorem Same.free {H H':Hp} (e:Same H H') {l:Addr} (h:H' l=Option.none):H l=Option.none:=by
 cases q:H l with
 | none=>rfl
 | some o =>
  rw [e l o q] at h
  cases h
theorem Same.seq {K:PySem.W.Frag} {H H':Hp} {a:Addr} {xs:List V} (e:Same H H') (h:SqL K H a xs):SqL K H' a xs:=by
 rcases h with (h | ⟨o,h⟩) | h
 ·exact .inl (.inl (e _ _ h))
 ·exact .inl (.inr ⟨o,e _ _ h⟩)
 ·exact .inr h
end L2
end
noncomputable section
noncomputable section
noncomputable section
namespace Ev
open PySem
abbrev Kt:=Sum Int (Option Str)
inductive T where
 | non | bl (b:Bool) | int (i:Int) | str (x:Str) | tup (xs:List T) | lst (xs:List T)
 | dk (ks:List Kt) (vs:List T) | dt (ks:List (List Kt)) (vs:List T)
 deriving Inhabited
inductive Bo where
 | add | sub | mul | fdiv | mod
 deriving DecidableEq
inductive Co where
 | eq | ne | lt | le | gt | isin | notin | isN | notN
 deriving DecidableEq
inductive Ik where
 | plain | range | enum | zip
 deriving DecidableEq
noncomputable def Ik.pair:Ik->Bool
 | .enum=>true
 | .zip=>true
 | _=>false
inductive Ty where
 | tint | tstr | tbool | ttup | tlst
 deriving DecidableEq
inductive Bn where
 | len | toInt | toStr | toList | toTuple | all | sorted | sset
 deriving DecidableEq
inductive Mt where
 | index
 deriving DecidableEq
inductive E where
 | var (i:Nat) | cst (t:T) | glb (x:Str)
 | bin (o:Bo) (a b:E) | cmp (o:Co) (a b:E) | chn (o o':Co) (a b c:E)
 | land (a b:E) | lor (a b:E) | lnot (a:E) | neg (a:E) | tru (a:E)
 | tup (es:List E) | lst (es:List E)
 | idx (a b:E) | sli (a:E) (lo hi:Option E)
 | call (f:Str) (es:List E) | blt (f:Bn) (a:E) | isi (a:E) (k:Ty) | mth (m:Mt) (a b:E)
 | comp (elt:E) (n:Nat) (k:Ik) (src:List E) (cond:Option E)
 deriving Inhabited
inductive S where
 | asg (i:Nat) (e:E)
 | app (i:Nat) (e:E)
 | dnew (i:Nat)
 | dput (i:Nat) (k v:E)
 | ret (e:E)
 | ite (c:E) (a b:List S)
 | loop (is:List Nat) (k:Ik) (src:List E) (body:List S)
 deriving Inhabited
abbrev SZ:Nat:=16777216
abbrev Env:=List (Option T)
structure Glo where
 call:Str->List T->Option T
 con:Str->Option T
noncomputable def keyO:T->Option Kt
 | .int i=>some (.inl i)
 | .str x=>some (.inr (some x))
 | .non=>some (.inr none)
 | _=>none
noncomputable def keysO:List T->Option (List Kt)
 | []=>some []
 | x::r=>(keyO x).bind fun k=>(keysO r).bind fun ks=>some (k::ks)
noncomputable def tkO:T->Option (List Kt)
 | .tup xs=>keysO xs
 | _=>none
noncomputable def tksO:List T->Option (List (List Kt))
 | []=>some []
 | x::r=>(tkO x).bind fun k=>(tksO r).bind fun ks=>some (k::ks)
noncomputable def kT:Kt->T
 | .inl i=>.int i
 | .inr (some x)=>.str x
 | .inr none=>.non
noncomputable def tkT (k:List Kt):T:=.tup (k.map kT)
section
variable {κ β:Type} [DecidableEq κ]
noncomputable def lookP:List κ->List β->κ->Option β
 | k::ks,v::vs,q=>if k=q then some v else lookP ks vs q
 | _,_,_=>none
noncomputable def valP:List (κ × β)->κ->Option β
 | [],_=>none
 | p::r,k=>if p.1=k then some p.2 else valP r k
noncomputable def putP (kvs:List (κ × β)) (k:κ) (v:β):List (κ × β) :=
 if (kvs.any fun kv=>decide (kv.1=k))=true then kvs.map (fun kv=>if kv.1=k then (kv.1,v) else kv) else kvs++[(k,v)]
noncomputable def dropP (kvs:List (κ × β)) (k:κ):List (κ × β):=kvs.filter fun kv=>decide (kv.1≠k)
end
noncomputable def kLt:Kt->Kt->Bool
 | .inl a,.inl b=>decide (a<b)
 | .inr (some a),.inr (some b)=>decide (a.cps.toList<b.cps.toList)
 | _,_=>false
noncomputable def kSame:Kt->Kt->Bool
 | .inl _,.inl _=>true
 | .inr (some _),.inr (some _)=>true
 | _,_=>false
noncomputable def lexL:List Kt->List Kt->Bool
 | x::xs,y::ys=>if x=y then lexL xs ys else kLt x y
 | _,_=>false
noncomputable def alike:List Kt->List Kt->Bool
 | [],[]=>true
 | x::xs,y::ys=>kSame x y&&alike xs ys
 | _,_=>false
noncomputable def insL (k:List Kt):List (List Kt)->List (List Kt)
 | []=>[k]
 | x::r=>if lexL k x then k::x::r else x::insL k r
noncomputable def sortL:List (List Kt)->List (List Kt)
 | []=>[]
 | k::r=>insL k (sortL r)
noncomputable def sortK (l:List (List Kt)):Option (List (List Kt)):=if l.length<=5/\l.Nodup/\(l.all fun x=>(!x.isEmpty)&&l.all fun y=>alike x y)=true then some (sortL l) else none
noncomputable def sortT (l:List (List Kt)):Option T:=(sortK l).map fun r=>.lst (r.map tkT)
noncomputable def dedL:List (List Kt)->List (List Kt)
 | []=>[]
 | k::r=>if (r.any fun y=>decide (y=k))=true then dedL r else k::dedL r
noncomputable def ssetT (l:List (List Kt)):Option T:=if (dedL l).length<=4 then sortT (dedL l) else none
noncomputable def small (i:Int):Bool:=decide (-18446744073709551616<i)&&decide (i<18446744073709551616)
noncomputable def addT:T->T->Option T
 | .int a,y=>(match y with
  | .int b=>some (.int (a+b))
  | _=>none)
 | .str a,y=>(match y with
  | .str b=>if a.length+b.length<=SZ then some (.str (a++b)) else none
  | _=>none)
 | .lst a,y=>(match y with
  | .lst b=>if a.length+b.length<=SZ then some (.lst (a++b)) else none
  | _=>none)
 | .tup a,y=>(match y with
  | .tup b=>if a.length+b.length<=SZ then some (.tup (a++b)) else none
  | _=>none)
 | _,_=>none
noncomputable def subT:T->T->Option T
 | .int a,.int b=>some (.int (a-b))
 | _,_=>none
noncomputable def mulT:T->T->Option T
 | .int a,.int b=>if small a||small b then some (.int (a*b)) else none
 | _,_=>none
noncomputable def fdivT:T->T->Option T
 | .int a,.int b=>if 0<b/\b<1073741824 then some (.int (a/b)) else none
 | _,_=>none
noncomputable def modT:T->T->Option T
 | .int a,.int b=>if 0<b then some (.int (a%b)) else none
 | _,_=>none
noncomputable def binT:Bo->T->T->Option T
 | .add=>addT | .sub=>subT | .mul=>mulT | .fdiv=>fdivT | .mod=>modT
mutual
noncomputable def eqT:T->T->Bool
 | .non,y=>(match y with
  | .non=>true
  | _=>false)
 | .bl a,y=>(match y with
  | .bl b=>a==b
  | .int b=>(if a then 1 else 0)==b
  | _=>false)
 | .int a,y=>(match y with
  | .bl b=>a==(if b then 1 else 0)
  | .int b=>a==b
  | _=>false)
 | .str a,y=>(match y with
  | .str b=>a==b
  | _=>false)
 | .tup a,y=>(match y with
  | .tup b=>eqTs a b
  | _=>false)
 | .lst a,y=>(match y with
  | .lst b=>eqTs a b
  | _=>false)
 | _,_=>false
noncomputable def eqTs:List T->List T->Bool
 | [],[]=>true
 | x::xs,y::ys=>eqT x y&&eqTs xs ys
 | _,_=>false
end
mutual
noncomputable def dpP:T->T->Nat
 | .non,y=>(match y with
  | .non=>0
  | _=>20000)
 | .bl _,y=>(match y with
  | .bl _=>0
  | _=>20000)
 | .int _,y=>(match y with
  | .int _=>0
  | _=>20000)
 | .str _,y=>(match y with
  | .str _=>0
  | _=>20000)
 | .tup a,y=>(match y with
  | .tup b=>dpPs a b+1
  | _=>20000)
 | .lst a,y=>(match y with
  | .lst b=>dpPs a b+1
  | _=>20000)
 | _,_=>20000
noncomputable def dpPs:List T->List T->Nat
 | x::xs,y::ys=>max (dpP x y) (dpPs xs ys)
 | _,_=>0
end
noncomputable def flat:T->Bool
 | .tup _=>false
 | .lst _=>false
 | .dk _ _=>false
 | .dt _ _=>false
 | _=>true
noncomputable def eqC (x y:T):Option T:=if dpP x y<=30 then some (.bl (eqT x y)) else none
noncomputable def neC (x y:T):Option T:=if dpP x y<=30 then some (.bl (!eqT x y)) else none
noncomputable def ltC:T->T->Option T
 | .int a,.int b=>some (.bl (decide (a<b)))
 | .tup a,.tup b=>(keysO a).bind fun k=>(keysO b).bind fun l=>if alike k l=true then some (.bl (lexL k l)) else none
 | _,_=>none
noncomputable def leC:T->T->Option T
 | .int a,.int b=>some (.bl (decide (a<=b)))
 | _,_=>none
noncomputable def seqOf:T->Option (List T)
 | .tup xs=>some xs
 | .lst xs=>some xs
 | _=>none
noncomputable def occ (a b:Str):Bool:=!(PySem.Builtin.Str.occurrences b a 0 b.length 1).isEmpty
noncomputable def inS:T->Str->Option Bool
 | .str a,b=>some (occ a b)
 | _,_=>none
noncomputable def dpI (x:T) (xs:List T):Bool:=xs.all fun z=>flat z&&decide (dpP z x<=30)
noncomputable def inC (x y:T):Option Bool :=
 match y with
 | .tup xs=>if dpI x xs then some (xs.any fun z=>eqT z x) else none
 | .lst xs=>if dpI x xs then some (xs.any fun z=>eqT z x) else none
 | .str b=>inS x b
 | _=>none
noncomputable def cmpT:Co->T->T->Option T
 | .eq,x,y=>eqC x y
 | .ne,x,y=>neC x y
 | .lt,x,y=>ltC x y
 | .le,x,y=>leC x y
 | .gt,x,y=>(match x,y with
  | .int a,.int b=>some (.bl (decide (b<a)))
  | _,_=>none)
 | .isin,x,y=>(inC x y).map .bl
 | .notin,x,y=>(inC x y).map fun b=>.bl (!b)
 | .isN,x,y=>(match x,y with
  | .non,.non=>some (.bl true)
  | _,.non=>some (.bl false)
  | _,_=>none)
 | .notN,x,y=>(match x,y with
  | .non,.non=>some (.bl false)
  | _,.non=>some (.bl true)
  | _,_=>none)
noncomputable def ixI (n:Nat) (i:Int):Option Nat:=if 0<=i then (if i<n then some i.toNat else none) else if -(n:Int)<=i then some (i+n).toNat else none
noncomputable def getI (xs:List T) (i:Int):Option T:=(ixI xs.length i).bind fun j=>xs[j]?
noncomputable def idxT:T->T->Option T
 | .tup xs,.int i=>getI xs i
 | .lst xs,.int i=>getI xs i
 | .dt ks vs,.tup xs=>(keysO xs).bind fun k=>lookP ks vs k
 | _,_=>none
noncomputable def clip (n d:Nat):Option Int->Nat
 | none=>d
 | some v=>if v<0 then (v+(n:Int)).toNat else min v.toNat n
noncomputable def cut (xs:List T) (lo hi:Option Int):List T:=(xs.drop (clip xs.length 0 lo)).take (clip xs.length xs.length hi-clip xs.length 0 lo)
noncomputable def sliT:T->Option Int->Option Int->Option T
 | .tup xs,lo,hi=>some (.tup (cut xs lo hi))
 | .lst xs,lo,hi=>some (.lst (cut xs lo hi))
 | _,_,_=>none
noncomputable def truT:T->Option Bool
 | .non=>some false
 | .bl b=>some b
 | .int i=>some (i != 0)
 | .tup xs=>some (!xs.isEmpty)
 | .lst xs=>some (!xs.isEmpty)
 | _=>none
noncomputable def isiT (x:T):Ty->Bool
 | .tint=>(match x with
  | .int _=>true
  | .bl _=>true
  | _=>false)
 | .tbool=>(match x with
  | .bl _=>true
  | _=>false)
 | .tstr=>(match x with
  | .str _=>true
  | _=>false)
 | .ttup=>(match x with
  | .tup _=>true
  | _=>false)
 | .tlst=>(match x with
  | .lst _=>true
  | _=>false)
noncomputable def zei:List T->Option (List Bool)
 | []=>some []
 | .bl b::r=>(zei r).map (b::·)
 | _=>none
noncomputable def bltT:Bn->T->Option T
 | .len,x=>(match x with
  | .tup xs=>some (.int xs.length)
  | .lst xs=>some (.int xs.length)
  | .str x=>if x.length<=SZ then some (.int x.length) else none
  | _=>none)
 | .toInt,x=>(match x with
  | .bl b=>some (.int (if b then 1 else 0))
  | _=>none)
 | .toStr,x=>(match x with
  | .int i=>if i.natAbs.log2<1920 then some (.str (toString i)) else none
  | _=>none)
 | .toList,x=>(match x with
  | .tup xs=>some (.lst xs)
  | _=>none)
 | .toTuple,x=>(match x with
  | .tup xs=>some (.tup xs)
  | .lst xs=>some (.tup xs)
  | _=>none)
 | .all,x=>(match x with
  | .lst xs=>(zei xs).map fun bs=>.bl (bs.all id)
  | _=>none)
 | .sorted,x=>(match x with
  | .dt ks _=>sortT ks
  | .dk [] _=>some (.lst [])
  | _=>none)
 | .sset,x=>(match x with
  | .lst xs=>(tksO xs).bind ssetT
  | _=>none)
noncomputable def zco (x:T):List T->Option Nat
 | []=>none
 | y::r=>if eqT y x then some 0 else (zco x r).map (·+1)
noncomputable def mthT:Mt->T->T->Option T
 | .index,.lst xs,y=>if flat y&&xs.all flat then (zco y xs).map fun (i:Nat)=>T.int (i:Int) else none
 | _,_,_=>none
noncomputable def enumT:List T->Nat->List T
 | [],_=>[]
 | x::r,i=>.tup [.int i,x]::enumT r (i+1)
noncomputable def zipT:List T->List T->List T
 | x::xs,y::ys=>.tup [x,y]::zipT xs ys
 | _,_=>[]
noncomputable def rangeT (n:Nat):List T:=(List.range n).map fun (i:Nat)=>T.int (i:Int)
noncomputable def ascii (x:Str):Bool:=x.cps.all (·<128)
noncomputable def charsT (x:Str):List T:=x.cps.toList.map fun c=>T.str ⟨#[c]⟩
noncomputable def items:Ik->List T->Option (List T)
 | .plain,l=>(match l with
  | [.tup xs]=>some xs
  | [.lst xs]=>some xs
  | [.str x]=>if ascii x then some (charsT x) else none
  | _=>none)
 | .range,l=>(match l with
  | [.int n]=>if -4611686018427387904<=n/\n<4611686018427387904 then some (rangeT n.toNat) else none
  | _=>none)
 | .enum,l=>(match l with
  | [.tup xs]=>some (enumT xs 0)
  | [.lst xs]=>some (enumT xs 0)
  | _=>none)
 | .zip,l=>(match l with
  | [x,y]=>(seqOf x).bind fun xs=>(seqOf y).bind fun ys=>some (zipT xs ys)
  | _=>none)
noncomputable def itemsC (k:Ik) (xs:List T):Option (List T):=(items k xs).bind fun its=>if its.length<=SZ then some its else none
noncomputable def bnd (n:Nat) (x:T) (ρ:Env):Option Env :=
 if n=1 then some (some x::ρ) else
  match x with
  | .tup xs=>if xs.length=n then some (xs.map some++ρ) else none
  | _=>none
noncomputable def compM (f:T->Option (Option T)):List T->Option (List T)
 | []=>some []
 | x::xs=>(f x).bind fun r=>(compM f xs).bind fun rs=>match r with
  | none=>some rs
  | some y=>some (y::rs)
noncomputable def asI:Option T->Option (Option Int)
 | none=>some none
 | some (.int i)=>some (some i)
 | some _=>none
mutual
noncomputable def evE (G:Glo):E->Env->Option T
 | .var i,ρ=>(ρ[i]?).join
 | .cst t,_=>some t
 | .glb x,_=>G.con x
 | .bin o a b,ρ=>(evE G a ρ).bind fun x=>(evE G b ρ).bind fun y=>binT o x y
 | .cmp o a b,ρ=>(evE G a ρ).bind fun x=>(evE G b ρ).bind fun y=>cmpT o x y
 | .chn o o' a b c,ρ=>(evE G a ρ).bind fun x=>(evE G b ρ).bind fun y=>(cmpT o x y).bind fun r=>match r with
  | .bl true=>(evE G c ρ).bind fun z=>cmpT o' y z
  | .bl false=>some (.bl false)
  | _=>none
 | .land a b,ρ=>(evE G a ρ).bind fun x=>match x with
  | .bl true=>evE G b ρ
  | .bl false=>some (.bl false)
  | _=>none
 | .lor a b,ρ=>(evE G a ρ).bind fun x=>match x with
  | .bl true=>some (.bl true)
  | .bl false=>evE G b ρ
  | _=>none
 | .lnot a,ρ=>(evE G a ρ).bind fun x=>match x with
  | .bl b=>some (.bl (!b))
  | _=>none
 | .neg a,ρ=>(evE G a ρ).bind fun x=>match x with
  | .int i=>some (.int (-i))
  | _=>none
 | .tru a,ρ=>(evE G a ρ).bind fun x=>(truT x).map .bl
 | .tup es,ρ=>if es.length<=1000 then (evEs G es ρ).map .tup else none
 | .lst es,ρ=>if es.length<=1000 then (evEs G es ρ).map .lst else none
 | .idx a b,ρ=>(evE G a ρ).bind fun x=>(evE G b ρ).bind fun y=>idxT x y
 | .sli a lo hi,ρ=>(evE G a ρ).bind fun x=>(evO G lo ρ).bind fun l=>(evO G hi ρ).bind fun h=>(asI l).bind fun l'=>(asI h).bind fun h'=>sliT x l' h'
 | .call f es,ρ=>(evEs G es ρ).bind fun xs=>G.call f xs
 | .blt f a,ρ=>(evE G a ρ).bind fun x=>bltT f x
 | .isi a k,ρ=>(evE G a ρ).bind fun x=>some (.bl (isiT x k))
 | .mth m a b,ρ=>(evE G a ρ).bind fun x=>(evE G b ρ).bind fun y=>mthT m x y
 | .comp elt n k src cond,ρ=>(evEs G src ρ).bind fun xs=>(itemsC k xs).bind fun its =>
   (compM (fun x=>(bnd n x ρ).bind fun ρ'=>(evO G cond ρ').bind fun c=>match c with
    | none=>(evE G elt ρ').map some
    | some (.bl true)=>(evE G elt ρ').map some
    | some (.bl false)=>some none
    | some _=>none) its).map .lst
noncomputable def evEs (G:Glo):List E->Env->Option (List T)
 | [],_=>some []
 | e::es,ρ=>(evE G e ρ).bind fun x=>(evEs G es ρ).bind fun xs=>some (x::xs)
noncomputable def evO (G:Glo):Option E->Env->Option (Option T)
 | none,_=>some none
 | some e,ρ=>(evE G e ρ).map some
end
inductive Sl where
 | no | val (t:T) | own (ts:List T) | dk (kvs:List (Kt × T)) | dt (kvs:List (List Kt × T))
 deriving Inhabited
noncomputable def Sl.get:Sl->Option T
 | .val t=>some t
 | _=>none
noncomputable def Sl.frz:Sl->Sl
 | .own ts=>.val (.lst ts)
 | .dk kvs=>.val (.dk (kvs.map (·.1)) (kvs.map (·.2)))
 | .dt kvs=>.val (.dt (kvs.map (·.1)) (kvs.map (·.2)))
 | s=>s
inductive Out where
 | nx (τ:List Sl) | rt (t:T)
 deriving Inhabited
noncomputable def view (τ:List Sl):Env:=τ.map Sl.get
noncomputable def frzAt:List Nat->List Sl->List Sl
 | [],τ=>τ
 | i::r,τ=>frzAt r (τ.modify i Sl.frz)
mutual
noncomputable def vars:E->List Nat
 | .var i=>[i]
 | .cst _=>[] | .glb _=>[]
 | .bin _ a b=>vars a++vars b
 | .cmp _ a b=>vars a++vars b
 | .chn _ _ a b c=>vars a++(vars b++vars c)
 | .land a b=>vars a++vars b
 | .lor a b=>vars a++vars b
 | .lnot a=>vars a
 | .neg a=>vars a
 | .tru a=>vars a
 | .tup es=>varsL es
 | .lst es=>varsL es
 | .idx a b=>vars a++vars b
 | .sli a lo hi=>vars a++(varsO lo++varsO hi)
 | .call _ es=>varsL es
 | .blt _ a=>vars a
 | .isi a _=>vars a
 | .mth _ a b=>vars a++vars b
 | .comp elt n _ src cond=>varsL src++((vars elt++varsO cond).filterMap fun i=>if n<=i then some (i-n) else none)
noncomputable def varsL:List E->List Nat
 | []=>[]
 | e::es=>vars e++varsL es
noncomputable def varsO:Option E->List Nat
 | none=>[]
 | some e=>vars e
end
noncomputable def fresh:E->Bool
 | .lst _=>true
 | .bin .add _ _=>true
 | _=>false
noncomputable def slotOf (e:E) (t:T):Sl:=match fresh e,t with
 | true,.lst ts=>.own ts
 | _,t=>.val t
noncomputable def setAll:List Nat->List T->List Sl->Option (List Sl)
 | [],[],τ=>some τ
 | i::is,x::xs,τ=>setAll is xs (τ.set i (.val x))
 | _,_,_=>none
noncomputable def bndS (is:List Nat) (x:T) (τ:List Sl):Option (List Sl) :=
 match is,x with
 | [i],x=>some (τ.set i (.val x))
 | is,.tup xs=>setAll is xs τ
 | _,_=>none
noncomputable def loopM (f:T->List Sl->Option Out):List T->List Sl->Option Out
 | [],τ=>some (.nx τ)
 | x::xs,τ=>(f x τ).bind fun o=>match o with
  | .nx τ'=>loopM f xs τ'
  | .rt t=>some (.rt t)
noncomputable def putS (s:Option Sl) (k v:T):Option Sl :=
 match s with
 | some (.dk kvs)=>(match keyO k,kvs with
  | some q,_=>if kvs.length<SZ then some (.dk (putP kvs q v)) else none
  | none,[]=>(tkO k).map fun q=>.dt [(q,v)]
  | none,_=>none)
 | some (.dt kvs)=>(tkO k).bind fun q=>if kvs.length<SZ then some (.dt (putP kvs q v)) else none
 | _=>none
mutual
noncomputable def evS (G:Glo):S->List Sl->Option Out
 | .asg i e,τ=>(evE G e (view (frzAt (vars e) τ))).bind fun t=>some (.nx ((frzAt (vars e) τ).set i (slotOf e t)))
 | .app i e,τ=>(evE G e (view (frzAt (vars e) τ))).bind fun t=>match (frzAt (vars e) τ)[i]? with
  | some (.own ts)=>if ts.length<SZ then some (.nx ((frzAt (vars e) τ).set i (.own (ts++[t])))) else none
  | _=>none
 | .dnew i,τ=>some (.nx (τ.set i (.dk [])))
 | .dput i k v,τ=>(evE G v (view (frzAt (vars v++vars k) τ))).bind fun y=>(evE G k (view (frzAt (vars v++vars k) τ))).bind fun x =>
   (putS (frzAt (vars v++vars k) τ)[i]? x y).map fun s=>.nx ((frzAt (vars v++vars k) τ).set i s)
 | .ret e,τ=>(evE G e (view (frzAt (vars e) τ))).map .rt
 | .ite c a b,τ=>(evE G c (view (frzAt (vars c) τ))).bind fun t=>match t with
  | .bl true=>evSs G a (frzAt (vars c) τ)
  | .bl false=>evSs G b (frzAt (vars c) τ)
  | _=>none
 | .loop is k src body,τ=>(evEs G src (view (frzAt (varsL src) τ))).bind fun xs=>(items k xs).bind fun its =>
   loopM (fun x τ=>(bndS is x τ).bind fun τ'=>evSs G body τ') its (frzAt (varsL src) τ)
noncomputable def evSs (G:Glo):List S->List Sl->Option Out
 | [],τ=>some (.nx τ)
 | s::ss,τ=>(evS G s τ).bind fun o=>match o with
  | .nx τ'=>evSs G ss τ'
  | o=>some o
end
structure Fd where
 np:Nat
 ns:Nat
 body:List S
 deriving Inhabited
noncomputable def begin' (D:Fd) (ts:List T):List Sl:=ts.map .val++List.replicate (D.ns-ts.length) .no
noncomputable def zaa:Option Out->Option T
 | some (.nx _)=>some .non
 | some (.rt t)=>some t
 | _=>none
structure Pr where
 fn:Str->Option Fd
 con:Str->Option T
noncomputable def glo (P:Pr) (run:Str->List T->Option T):Glo:=⟨run,P.con⟩
noncomputable def run (P:Pr):Nat->Str->List T->Option T
 | 0,_,_=>none
 | n+1,f,ts=>(P.fn f).bind fun D=>if ts.length=D.np then zaa (evSs (glo P (run P n)) D.body (begin' D ts)) else none
end Ev
end
end
end
noncomputable section
noncomputable section
noncomputable section
namespace Ev
open PySem
noncomputable def nameIx:List Str->Str->Option Nat
 | [],_=>none
 | y::r,x=>if y==x then some 0 else (nameIx r x).map (·+1)
structure Tc where
 sc:Scope
 nm:List Str
noncomputable def visB (sc:Scope) (x:Str):Bool:=match sc.names.lookup x with
 | some .local=>true
 | some .cell=>true
 | some .free=>true
 | _=>false
noncomputable def glB (sc:Scope) (x:Str):Bool:=sc.names.lookup x==some .globalImplicit
noncomputable def zaf (x:Str):Bool:=!(x==("__debug__":Str))&&!(x==("__classdict__":Str))&&!(x==("__name__":Str))&&(!(x==(".0":Str))&&(!(x==(".put":Str))&&!(x==(".lam":Str))))
noncomputable def tyOf (x:Str):Option Ty :=
 if x==("str":Str) then some .tstr else if x==("int":Str) then some .tint else if x==("bool":Str) then some .tbool else if x==("tuple":Str) then some .ttup else if x==("list":Str) then some .tlst else none
noncomputable def bnOf (x:Str):Option Bn :=
 if x==("len":Str) then some .len else if x==("int":Str) then some .toInt else if x==("str":Str) then some .toStr else if x==("list":Str) then some .toList else if x==("tuple":Str) then some .toTuple else if x==("all":Str) then some .all else if x==("sorted":Str) then some .sorted else none
noncomputable def mtOf (x:Str):Option Mt:=if x==("index":Str) then some .index else none
noncomputable def bnames:List Str:=["len", "int", "str", "list", "tuple", "bool", "isinstance", "range", "enumerate", "zip", "all", "any", "set", "sorted", "min", "max", "sum"]
noncomputable def boOf:Operator->Option Bo
 | .Add=>some .add | .Sub=>some .sub | .Mult=>some .mul | .FloorDiv=>some .fdiv | .Mod=>some .mod
 | _=>none
noncomputable def zmw:Expr->Bool
 | .Constant .none _ _=>true
 | _=>false
noncomputable def coOf:CmpOp->Expr->Option Co
 | .Eq,_=>some .eq | .NotEq,_=>some .ne | .Lt,_=>some .lt | .LtE,_=>some .le | .Gt,_=>some .gt | .GtE,_=>none
 | .In,e=>if behindInMarks .In e then none else some .isin
 | .NotIn,e=>if behindInMarks .NotIn e then none else some .notin
 | .Is,e=>if zmw e then some .isN else none
 | .IsNot,e=>if zmw e then some .notN else none
noncomputable def coC:CmpOp->Option Co
 | .Eq=>some .eq | .NotEq=>some .ne | .Lt=>some .lt | .LtE=>some .le | .Gt=>some .gt
 | _=>none
noncomputable def zby:Expr->Option (List Str)
 | .Name x _=>some [x]
 | .Tuple es _ _=>es.mapM fun e=>match e with
  | .Name x _=>some x
  | _=>none
 | _=>none
noncomputable def sliceE:Expr->Bool
 | .Slice ..=>true
 | .Tuple ..=>true
 | .Starred ..=>true
 | _=>false
noncomputable def nodupB:List Str->Bool
 | []=>true
 | x::r=>!r.contains x&&nodupB r
noncomputable def zcf (out sc:Scope) (xs:List Str):Bool :=
 sc.kind==.function&&nodupB xs&&(xs.all fun x=>zaf x&&(sc.names.lookup x==some .local||sc.names.lookup x==some .cell)) &&
 (sc.names.all fun p=>match p.2 with
  | .free=>(sc.names.lookup p.1==some .free)&&(out.names.lookup p.1==some .cell||out.names.lookup p.1==some .free)
  | .local=>(sc.names.lookup p.1==some .local)&&(xs.contains p.1||p.1==(".0":Str))
  | .cell=>(sc.names.lookup p.1==some .cell)&&xs.contains p.1
  | _=>true)
noncomputable def isTupE:Expr->Bool
 | .Tuple ..=>true
 | _=>false
noncomputable def mapO {α β:Type} (f:α->Option β):List α->Option (List β)
 | []=>some []
 | x::r=>(f x).bind fun y=>(mapO f r).bind fun ys=>some (y::ys)
noncomputable def optO {α β:Type} (f:α->Option β):Option α->Option (Option β)
 | none=>some none
 | some x=>(f x).map some
noncomputable def kStr:Option Expr->Option Str
 | some (.Constant (.str k) _ _)=>some k
 | _=>none
noncomputable def vInt:Expr->Option Int
 | .Constant (.int v) _ _=>some v
 | _=>none
noncomputable def dictC:List (Option Expr)->List Expr->Option (List (Str × Int))
 | [a,b,c],[x,y,z]=>(kStr a).bind fun k1=>(kStr b).bind fun k2=>(kStr c).bind fun k3=>(vInt x).bind fun v1=>(vInt y).bind fun v2=>(vInt z).bind fun v3 =>
  if k1==k2||k1==k3||k2==k3 then none else some [(k1,v1),(k2,v2),(k3,v3)]
 | _,_=>none
noncomputable def dgC:Expr->Expr->Option (List (Str × Int) × Int)
 | .Dict ks vs _,.Constant (.int d) _ _=>(dictC ks vs).map fun kvs=>(kvs,d)
 | _,_=>none
noncomputable def zg8:Bn->Expr->Option Expr
 | .sorted,.Call (.Name g _) [b] [] _=>if g==("set":Str) then some b else none
 | _,_=>none
inductive Md where
 | val | tst
 deriving DecidableEq
mutual
noncomputable def tr:Nat->Tc->Md->Expr->Option E
 | 0,_,_,_=>none
 | n+1,c,.tst,e=>trT n c e
 | n+1,c,.val,e=>trV n c e
noncomputable def trT:Nat->Tc->Expr->Option E
 | 0,_,_=>none
 | n+1,c,.BoolOp .And [a] _=>trT n c a
 | n+1,c,.BoolOp .And (a::b::r) pos=>(trT n c a).bind fun x=>(trT n c (.BoolOp .And (b::r) pos)).bind fun y=>some (.land x y)
 | n+1,c,.BoolOp .Or [a] _=>trT n c a
 | n+1,c,.BoolOp .Or (a::b::r) pos=>(trT n c a).bind fun x=>(trT n c (.BoolOp .Or (b::r) pos)).bind fun y=>some (.lor x y)
 | n+1,c,.UnaryOp .Not a _=>(trT n c a).bind fun x=>some (.lnot x)
 | n+1,c,.Compare a [op] [b] _=>(coOf op b).bind fun o=>(trV n c a).bind fun x=>(trV n c b).bind fun y=>some (.cmp o x y)
 | n+1,c,.Compare a [op,op'] [b,d] _=>(coC op).bind fun o=>(coC op').bind fun o'=>(trV n c a).bind fun x=>(trV n c b).bind fun y=>(trV n c d).bind fun z=>some (.chn o o' x y z)
 | n+1,c,.Name x pos=>(trV n c (.Name x pos)).bind fun x=>some (.tru x)
 | n+1,c,.Call f es ks pos=>(trV n c (.Call f es ks pos)).bind fun x=>some (.tru x)
 | n+1,c,.Subscript a b pos=>(trV n c (.Subscript a b pos)).bind fun x=>some (.tru x)
 | _,_,_=>none
noncomputable def trV:Nat->Tc->Expr->Option E
 | 0,_,_=>none
 | _+1,_,.Constant .none _ _=>some (.cst .non)
 | _+1,_,.Constant (.bool b) _ _=>some (.cst (.bl b))
 | _+1,_,.Constant (.int i) _ _=>some (.cst (.int i))
 | _+1,_,.Constant (.str x) _ _=>some (.cst (.str x))
 | _+1,c,.Name x _=>if zaf x then (if visB c.sc x then (nameIx c.nm x).map .var else if glB c.sc x&&!bnames.contains x then some (.glb x) else none) else none
 | n+1,c,.BinOp a op b _=>(boOf op).bind fun o=>(trV n c a).bind fun x=>(trV n c b).bind fun y=>some (.bin o x y)
 | n+1,c,.UnaryOp .Not a _=>(trV n c a).bind fun x=>some (.lnot x)
 | n+1,c,.UnaryOp .USub a _=>(trV n c a).bind fun x=>some (.neg x)
 | n+1,c,.BoolOp _ [a] _=>trV n c a
 | n+1,c,.BoolOp .And (a::b::r) pos=>(trV n c a).bind fun x=>(trV n c (.BoolOp .And (b::r) pos)).bind fun y=>some (.land x y)
 | n+1,c,.BoolOp .Or (a::b::r) pos=>(trV n c a).bind fun x=>(trV n c (.BoolOp .Or (b::r) pos)).bind fun y=>some (.lor x y)
 | n+1,c,.Compare a [op] [b] _=>(coOf op b).bind fun o=>(trV n c a).bind fun x=>(trV n c b).bind fun y=>some (.cmp o x y)
 | n+1,c,.Compare a [op,op'] [b,d] _=>(coC op).bind fun o=>(coC op').bind fun o'=>(trV n c a).bind fun x=>(trV n c b).bind fun y=>(trV n c d).bind fun z=>some (.chn o o' x y z)
 | n+1,c,.Tuple es _ _=>(mapO (trV n c) es).bind fun xs=>some (.tup xs)
 | n+1,c,.List es _=>(mapO (trV n c) es).bind fun xs=>some (.lst xs)
 | n+1,c,.Subscript a (.Slice lo hi none _) _=>(trV n c a).bind fun x=>(optO (trV n c) lo).bind fun l=>(optO (trV n c) hi).bind fun h=>some (.sli x l h)
 | n+1,c,.Subscript a b _=>if sliceE b then none else (trV n c a).bind fun x=>(trV n c b).bind fun y=>some (.idx x y)
 | n+1,c,.Call (.Name f _) [a,b] [] _ =>
  if f==("isinstance":Str) then
   (match b with
   | .Name ty _=>if glB c.sc f&&glB c.sc ty then (tyOf ty).bind fun k=>(trV n c a).bind fun x=>some (.isi x k) else none
   | _=>none)
  else if glB c.sc f&&zaf f&&!bnames.contains f then (mapO (trV n c) [a,b]).bind fun xs=>some (.call f xs) else none
 | n+1,c,.Call (.Name f _) [a] [] _=>if glB c.sc f&&zaf f then (match bnOf f with
  | some k=>(match zg8 k a with
    | some b=>if glB c.sc ("set":Str) then (trV n c b).bind fun x=>some (.blt .sset x) else none
    | none=>(trV n c a).bind fun x=>some (.blt k x))
  | none=>if bnames.contains f then none else (trV n c a).bind fun x=>some (.call f [x])) else none
 | n+1,c,.Call (.Name f _) (e::es) [] _=>if glB c.sc f&&zaf f&&!bnames.contains f then (mapO (trV n c) (e::es)).bind fun xs=>some (.call f xs) else none
 | n+1,c,.Call (.Attribute o m apos) [a] [] cpos=>if apos.endLine==cpos.line then (mtOf m).bind fun k=>(trV n c o).bind fun x=>(trV n c a).bind fun y=>some (.mth k x y) else none
 | n+1,c,.ListComp elt [⟨tg,iter,ifs,0⟩] scope _=>(zby tg).bind fun xs=>(trI n c iter).bind fun ki=>if zcf c.sc scope xs&&(!ki.1.pair||isTupE tg)&&(!isTupE tg||decide (2<=xs.length)) then
   (match ifs with
   | []=>(trV n ⟨scope,xs++c.nm⟩ elt).bind fun x=>some (.comp x xs.length ki.1 ki.2 none)
   | [t]=>(trV n ⟨scope,xs++c.nm⟩ elt).bind fun x=>(trT n ⟨scope,xs++c.nm⟩ t).bind fun y=>some (.comp x xs.length ki.1 ki.2 (some y))
   | _=>none) else none
 | _,_,_=>none
noncomputable def trI:Nat->Tc->Expr->Option (Ik × List E)
 | 0,_,_=>none
 | n+1,c,.Call (.Name f p) [a] [] pos=>if f==("range":Str)&&glB c.sc f then (trV n c a).bind fun x=>some (.range,[x])
   else if f==("enumerate":Str)&&glB c.sc f then (trV n c a).bind fun x=>some (.enum,[x])
   else (trV n c (.Call (.Name f p) [a] [] pos)).bind fun x=>some (.plain,[x])
 | n+1,c,.Call (.Name f p) [a,b] [] pos=>if f==("zip":Str)&&glB c.sc f then (trV n c a).bind fun x=>(trV n c b).bind fun y=>some (.zip,[x,y])
   else (trV n c (.Call (.Name f p) [a,b] [] pos)).bind fun x=>some (.plain,[x])
 | n+1,c,e=>(trV n c e).bind fun x=>some (.plain,[x])
noncomputable def trF:Nat->Tc->Expr->Option E
 | 0,_,_=>none
 | n+1,c,.FormattedValue e cv none _=>if cv = -1 then trV n c e else none
 | n+1,c,.Constant (.str x) k pos=>trV n c (.Constant (.str x) k pos)
 | _,_,_=>none
end
noncomputable def litE:Expr->Bool
 | .List ..=>true
 | .BinOp ..=>true
 | _=>false
noncomputable def zhx:Expr->Bool
 | .ListComp ..=>true
 | _=>false
noncomputable def isUnpE:Expr->Bool
 | .ListComp ..=>true
 | .Call ..=>true
 | _=>false
noncomputable def incC (x:Str):Expr->Option Expr
 | .BinOp (.Call (.Attribute (.Name y _) m apos) [k,.Constant (.int 0) _ _] [] cpos) .Add (.Constant (.int 1) _ _) _=>if y==x&&m==("get":Str)&&apos.endLine==cpos.line then some k else none
 | _=>none
noncomputable def popC:Expr->Option Str
 | .Call (.Attribute (.Name y _) m apos) [.Constant .none _ _,.Constant (.int 0) _ _] [] cpos=>if m==("pop":Str)&&apos.endLine==cpos.line then some y else none
 | _=>none
noncomputable def zfl:Expr->Bool
 | .Dict [] [] _=>true
 | _=>false
mutual
noncomputable def trS:Nat->Tc->Stmt->Option S
 | 0,_,_=>none
 | n+1,c,.Assign [.Subscript (.Name x _) k _] v _=>if visB c.sc x&&zaf x&&!sliceE k then (nameIx c.nm x).bind fun i=>(trV n c k).bind fun y=>(if zhx v then none else (trV n c v).bind fun z=>some (.dput i y z)) else none
 | n+1,c,.Assign [.Name x _] e _=>if zaf x&&(c.sc.names.lookup x==some .local||c.sc.names.lookup x==some .cell) then (nameIx c.nm x).bind fun i=>if zfl e then some (.dnew i) else ((trV n c e).bind fun y=>if fresh y&&!litE e then none else some (.asg i y)) else none
 | n+1,c,.Expr (.Call (.Attribute (.Name x _) m apos) [a] [] cpos) _=>if apos.endLine==cpos.line&&visB c.sc x&&zaf x then (nameIx c.nm x).bind fun i=>(trV n c a).bind fun y =>
   (if m==("append":Str) then some (.app i y) else none) else none
 | n+1,c,.Return (some e) _=>(trV n c e).bind fun y=>some (.ret y)
 | n+1,c,.If t a b _=>(trT n c t).bind fun z=>(trSs n c a).bind fun x=>(trSs n c b).bind fun y=>some (.ite z x y)
 | n+1,c,.For tg iter body [] _=>(zby tg).bind fun xs=>(mapO (nameIx c.nm) xs).bind fun is=>(trI n c iter).bind fun ki=>(trSs n c body).bind fun b=>if (!ki.1.pair||isTupE tg)&&(!isTupE tg||decide (2<=xs.length))&&nodupB xs&&(xs.all fun x=>zaf x&&(c.sc.names.lookup x==some .local||c.sc.names.lookup x==some .cell)) then some (.loop is ki.1 ki.2 b) else none
 | _,_,_=>none
noncomputable def trSs:Nat->Tc->List Stmt->Option (List S)
 | 0,_,_=>none
 | _+1,_,[]=>some []
 | n+1,c,s::ss=>(trS n c s).bind fun x=>(trSs n c ss).bind fun xs=>some (x::xs)
end
noncomputable def zar (sc:Scope):List Str:=(sc.names.filter fun p=>p.2==.local||p.2==.cell).map (·.1)
noncomputable def trD:Stmt->Option (Str × Fd)
 | .FunctionDef name args body _ _ _ sc _ _ _=>(trSs 60 ⟨sc,zar sc⟩ body).bind fun b=>some (name,⟨args.args.length,(zar sc).length,b⟩)
 | _=>none
end Ev
end
end
end
noncomputable section
noncomputable section
noncomputable section
namespace L2
open PySem
variable {scope:Scope} {env:Env}
def za2 (env:Env):List (Str × NameKind)->List (Str × Addr)->List (Str × Addr)
 | [],acc=>acc
 | (n,k)::r,acc=>if k==.free then za2 env r ((n,(env.cells.lookup n).getD 0)::acc) else za2 env r acc
theorem zee {env:Env} (f:Str × NameKind->List (Str × Addr)->Sem (ForInStep (List (Str × Addr))))
  (hf:∀ n k cs,f (n,k) cs=if k==.free then (do let a <- cellOf env n;pure (ForInStep.yield ((n,a)::cs))) else pure (.yield cs)) :
  ∀ (names:List (Str × NameKind)) (acc:List (Str × Addr)),(∀ y∈names,y.2=.free->∃ c,env.cells.lookup y.1=some c)->(forIn names acc f:Sem _)=pure (za2 env names acc)
 | [],acc,_=>rfl
 | (n,k)::r,acc,h=>by
  rw [List.forIn_cons,hf]
  unfold za2
  by_cases hk:(k==.free)=true
  ·rw [if_pos hk,if_pos hk]
   obtain ⟨c,hc⟩:=h (n,k) List.mem_cons_self (by simpa using hk)
   have e:cellOf env n=pure c:=by unfold cellOf;rw [hc]
   rw [e,hc]
   simp only [pure_bind,Option.getD_some]
   exact zee f hf r _ fun y hy=>h y (zyn _ hy)
  ·rw [if_neg hk,if_neg hk]
   simp only [pure_bind]
   exact zee f hf r _ fun y hy=>h y (zyn _ hy)
theorem zc6 (h:∀ y∈scope.names,y.2=.free->∃ c,env.cells.lookup y.1=some c):closureFor scope env=pure (za2 env scope.names []):=by
 simp only [closureFor]
 rw [zee (env:=env) _ (fun n k cs=>by by_cases hk:(k==NameKind.free)=true<;>simp [hk]) scope.names [] h]
 simp only [pure_bind]
theorem zd0 {env:Env}:∀ (names:List (Str × NameKind)) (acc:List (Str × Addr)),(∀ x c,acc.lookup x=some c->env.cells.lookup x=some c)->(∀ y∈names,y.2=.free->∃ c,env.cells.lookup y.1=some c) ->
  ∀ x c,(za2 env names acc).lookup x=some c->env.cells.lookup x=some c
 | [],acc,h,_,x,c,e=>h x c e
 | (n,k)::r,acc,h,hn,x,c,e=>by
  unfold za2 at e
  have hr:∀ y∈r,y.2=.free->∃ c,env.cells.lookup y.1=some c:=fun y hy=>hn y (zyn _ hy)
  by_cases hk:(k==.free)=true
  ·rw [if_pos hk] at e
   obtain ⟨c',hc'⟩:=hn (n,k) List.mem_cons_self (by simpa using hk)
   refine zd0 r _ (fun x c e=>?_) hr x c e
   rw [zy4] at e
   cases hb:x==n with
   | true =>
    rw [hb] at e
    have e':some ((env.cells.lookup n).getD 0)=some c:=e
    rw [hc'] at e'
    cases e'
    rw [beq_iff_eq.mp hb]
    exact hc'
   | false=>rw [hb] at e;exact h x c e
  ·rw [if_neg hk] at e
   exact zd0 r acc h hr x c e
theorem zd1 {env:Env} {x:Str}:∀ (names:List (Str × NameKind)) (acc:List (Str × Addr)),((x,NameKind.free)∈names\/(acc.lookup x).isSome=true)->((za2 env names acc).lookup x).isSome=true
 | [],acc,h=>h.elim (fun z=>nomatch z) id
 | (n,k)::r,acc,h=>by
  unfold za2
  have up:∀ a:Addr,(acc.lookup x).isSome=true->(List.lookup x ((n,a)::acc)).isSome=true:=fun a z=>by
   rw [zy4]
   cases x==n with
   | true=>rfl
   | false=>exact z
  by_cases hk:(k==.free)=true
  ·rw [if_pos hk]
   refine zd1 r _ ?_
   rcases h with h | h
   ·rcases omc h with e | e
    ·cases e
     right
     rw [zy4,beq_self_eq_true]
     rfl
    ·exact .inl e
   ·exact .inr (up _ h)
  ·rw [if_neg hk]
   refine zd1 r _ ?_
   rcases h with h | h
   ·rcases omc h with e | e
    ·cases e
     exact absurd rfl hk
    ·exact .inl e
   ·exact .inr h
theorem clos_get {x:Str} {names:List (Str × NameKind)} (hn:∀ y∈names,y.2=.free->∃ c,env.cells.lookup y.1=some c) (h:(x,NameKind.free)∈names):(za2 env names []).lookup x=env.cells.lookup x:=by
 obtain ⟨c,hc⟩:=Option.isSome_iff_exists.mp (zd1 (env:=env) names [] (.inl h))
 rw [hc,zd0 names [] (fun _ _ e=>by cases e) hn x c hc]
theorem zb5:∀ (names:List (Str × NameKind)) (n:Nat) (acc:List (Str × Addr)),cellsFrom n names acc=cellsFrom n names []++acc
 | [],n,acc=>rfl
 | (x,k)::r,n,acc=>by
  unfold cellsFrom
  by_cases hk:(k==.cell)=true
  ·rw [if_pos hk,if_pos hk,zb5 r (n+1) ((x,n)::acc),zb5 r (n+1) [(x,n)],zzp]
   rfl
  ·rw [if_neg hk,if_neg hk]
   exact zb5 r n acc
theorem zc7 {x:Str} {c:Addr}:∀ (names:List (Str × NameKind)) (n:Nat),(x,c)∈cellsFrom n names []->n<=c/\(x,NameKind.cell)∈names
 | [],n,h=>by cases h
 | (y,k)::r,n,h=>by
  unfold cellsFrom at h
  by_cases hk:(k==.cell)=true
  ·rw [if_pos hk,zb5] at h
   have ek:k=.cell:=by simpa using hk
   rcases oma h with h | h
   ·obtain ⟨h1,h2⟩:=zc7 r (n+1) h
    exact ⟨by omega,zyn _ h2⟩
   ·have e:(x,c)=(y,n):=by simpa using h
    cases e
    exact ⟨zyl _,by rw [ek];exact zys⟩
  ·rw [if_neg hk] at h
   obtain ⟨h1,h2⟩:=zc7 r n h
   exact ⟨h1,zyn _ h2⟩
theorem zc8 {x:Str}:∀ (names:List (Str × NameKind)) (n:Nat) (acc:List (Str × Addr)),((x,NameKind.cell)∈names\/(acc.lookup x).isSome=true)->((cellsFrom n names acc).lookup x).isSome=true
 | [],_,acc,h=>h.elim (fun z=>nomatch z) id
 | (y,k)::r,n,acc,h=>by
  unfold cellsFrom
  by_cases hk:(k==.cell)=true
  ·rw [if_pos hk]
   refine zc8 r _ _ ?_
   rcases h with h | h
   ·rcases omc h with e | e
    ·cases e
     right
     rw [zy4,beq_self_eq_true]
     rfl
    ·exact .inl e
   ·right
    rw [zy4]
    cases x==y with
    | true=>rfl
    | false=>exact h
  ·rw [if_neg hk]
   refine zc8 r _ _ ?_
   rcases h with h | h
   ·rcases omc h with e | e
    ·cases e
     exact absurd rfl hk
    ·exact .inl e
   ·exact .inr h
theorem cells_look {x:Str} {c:Addr} {names:List (Str × NameKind)} {n:Nat} {acc:List (Str × Addr)} (h:(cellsFrom n names acc).lookup x=some c) :
  (x,c)∈cellsFrom n names []\/((cellsFrom n names []).lookup x=none/\acc.lookup x=some c):=by
 rw [zb5,List.lookup_append] at h
 cases e:(cellsFrom n names []).lookup x with
 | none=>rw [e] at h;exact .inr ⟨rfl,by simpa using h⟩
 | some d =>
  rw [e] at h
  have h':some d=some c:=by simpa using h
  cases h'
  exact .inl (mem_of_lookup e)
section
variable {M:Model} {A:Around} {E:Value->Shared->Prop} {s:Shared}
theorem zpl {globals:Addr} {cl:List (Str × Addr)} {qual:Str} {Q:Env->Shared->Prop}
  (hQ:Q { scope:=scope,locals:=s.heap.objs.size,globals:=globals,cells:=cellsFrom (s.heap.objs.size+1) scope.names cl,qual:=qual,func:=none,code:=env.code,frame:=env.frame,builtins:=env.builtins }
   { s with heap:=pushCells (s.heap.push { cls:=.type "dict",data:=.dict #[] }) scope.names }) :
  wpAny M A (newFunctionEnv scope globals cl [] qual none .none (some env)) Q E s:=by
 simp only [newFunctionEnv,Option.isSome_some,if_true]
 refine zyc (wpAny_alloc ?_)
 refine wpAny_bind (wpAny_layCells _ (fun name kind cells=>by cases hkc:kind==NameKind.cell<;>simp []) _ _ _ _ ?_)
 rw [show ({ s with heap:=s.heap.push { cls:=.type "dict",data:=.dict #[] } }:Shared).heap.objs.size=s.heap.objs.size+1 from zyo ..]
 simp only [List.forIn_nil,pure_bind]
 exact zyf hQ
end
end L2
end
end
end
noncomputable section
noncomputable section
noncomputable section
namespace Ev
open PySem PySem.Spec PyProof.Rows L2
open AutoSeq1 (wpAny_loadPart')
section
variable {X:Cx}
end
section
variable {prog:Program} {w:World} {A:Around} {E:Value->Shared->Prop} {s:Shared}
theorem zjg {α β:Type} {f g:α->Option β}:∀ {l:List α},(∀ a∈l,f a=g a)->l.filterMap f=l.filterMap g
 | [],_=>rfl
 | a::l,h=>by
  rw [zzg,zzg,h a zys,zjg fun b hb=>h b (zyn _ hb)]
theorem zm4 {t sl:Addr} {zs:Array Value} {vl vu:Value} {lo hi:Option Int} {Q:Value->Shared->Prop} (ht:IsTup s.heap t zs) (hs:s.heap.IsSliceOf sl vl vu .none) (pl:IsPart vl lo) (pu:IsPart vu hi)
  (hw:HT.sIx zs.size 0 lo=0/\HT.sIx zs.size zs.size hi=zs.size) (h:Q (.ref t) s):wpAny (model prog w) A (getItem (.ref t) (.ref sl)) Q E s:=by
 obtain ⟨os,hos,hcs,hds⟩:=id hs
 have hT:s.TypeIs (.ref sl) "slice":=⟨os,hos,hcs⟩
 unfold getItem
 try with_reducible refine wpAny_holding ?_
 first | refine zyc (zyf ?_) | skip
 refine zyc (wpAny_sequenceKey ht.typeIs (by decide) ?_)
 refine zyc (zy7 (name:=Str.ofString "__getitem__") ht.typeIs PyProof.Rows.slot_tuple_getitem (zze PyProof.Rows.slot_tuple_getitem ht.typeIs PyProof.Rows.entry_tuple_getitem ?_ (PyProof.Rows.args_tuple_getitem _ _)))
 show wpAny _ _ (Builtin.Tuple.tupleItemsOf (.ref t) >>= _) _ _ s
 refine zyc (tupleItemsOf_ ht ?_)
 refine zyc (wpAny_typeOf hT ?_)
 rw [if_pos (by decide)]
 refine zyc (HT.sliceApplied_gen hs pl pu ?_)
 have hyes:(((HT.sIx zs.size 0 lo:Nat):Int)==0&&(1:Int)==1&&(HT.sIx zs.size zs.size hi-HT.sIx zs.size 0 lo)==zs.size)=true:=by
  rw [hw.1,hw.2];simp
 show wpAny _ _ (if (((HT.sIx zs.size 0 lo:Nat):Int)==0&&(1:Int)==1&&(HT.sIx zs.size zs.size hi-HT.sIx zs.size 0 lo)==zs.size)=true then _ else _) _ _ s
 rw [if_pos hyes]
 refine zyc (show wpAny _ _ (Builtin.Tuple.tupleIsExact (.ref t)) _ _ s from ?_)
 unfold Builtin.Tuple.tupleIsExact
 refine zyc (wpAny_typeOf ht.typeIs (zyf ?_))
 simp only [beq_self_eq_true,if_true]
 exact zyc (wpAny_rule (zyf ⟨_,rfl,zyf h⟩))
end
section
variable {X:Cx} {c:Tc} {a:Expr} {pos p2:Pos}
theorem zox:SlR X (fun x lo hi H Q=>∃ a xs,x=.ref a/\SqT X.K H a xs/\(HT.sIx xs.length 0 lo=0/\HT.sIx xs.length xs.length hi=xs.length)/\Q (.ref a) H):=by
 intro pins s σ H x v vl vu lo hi sl Q I rx hs pl pu h
 obtain ⟨a,xs,rfl,hx,hw,q⟩:=h
 cases rx
 obtain ⟨its,r,ht,hz⟩:=I.tuple hx
 have hlen:its.toArray.size=xs.length:=by rw [zyk];exact r.length.symm
 exact ⟨"tuple",_,PyProof.Rows.slot_tuple_getitem.lookup,ht.typeIs,zm4 ht hs pl pu (by rw [hlen];exact hw) ⟨.ref a,H,I,rfl,q⟩⟩
end
end Ev
end
end
end
noncomputable section
noncomputable section
noncomputable section
namespace Ev
open PySem PySem.Spec PyProof.Rows L2
variable {K:PySem.W.Frag} {H F F' H' H1:Hp} {xs:List V} {o:HO} {p:Addr} {e:Expr} {f g:Env->Option T} {h:T->T->Option T}
def Ls (K:PySem.W.Frag) (H:Hp) (a:Addr) (xs:List V):Prop :=
 Rd H a (.lst xs)\/∃ (its:Array Value) (n:Nat),K.lookup a=some { cls:=.type "list",data:=.seq its n }/\its.size<=sizeLine/\Vals xs its.toList
theorem Ls.of {a:Addr} (h:H a=some (.lst xs)):Ls K H a xs:=.inl (.inl h)
theorem Ls.sq {a:Addr} (h:Ls K H a xs):SqL K H a xs:=by
 rcases h with h | ⟨its,n,h1,h2,h3⟩
 ·exact .inl h
 ·exact .inr ⟨_,its,n,h1,rfl,rfl,rfl,h2,h3⟩
theorem Ls.ok {X:Cx} {pins:List (Addr × Obj)} {σ:L2.St} {H:Hp} {s:Shared} {a:Addr} {xs:List V} (h:Ls X.K H a xs) (I:Inv X pins σ H s) :
  xs.length<=sizeLine/\∃ (its:List Value) (n:Nat),Vals xs its/\s.heap.get? a=some { cls:=.type "list",data:=.seq its.toArray n }:=by
 rcases h with h | ⟨its,n,h1,h2,h3⟩
 ·obtain ⟨z,its,n,r,e⟩:=h.ok I.hok
  exact ⟨z,its,n,r,e⟩
 ·exact ⟨by rw [h3.length,zza];exact h2,its.toList,n,h3,by rw [Array.toArray_toList];exact I.kIn a _ h1⟩
abbrev Tq (_K:PySem.W.Frag) (F:Hp) (a:Addr) (xs:List V):Prop:=F a=some (.tup xs)
mutual
def Rep (K:PySem.W.Frag) (F:Hp):T->V->Prop
 | .non,v=>v=.non
 | .bl b,v=>v=.bl b
 | .int i,v=>v=.int i
 | .str x,v=>v=.str x
 | .tup ts,v=>∃ a vs,v=.ref a/\Tq K F a vs/\Reps K F ts vs
 | .lst ts,v=>∃ a vs,v=.ref a/\Ls K F a vs/\Reps K F ts vs
 | .dk ks ts,v=>∃ a ws,v=.ref a/\F a=some (.dK ws)/\ws.map (·.1)=ks/\Reps K F ts (ws.map (·.2))
 | .dt ks ts,v=>∃ a ws,v=.ref a/\F a=some (.dT ws)/\ws.map (·.1)=ks/\Reps K F ts (ws.map (·.2))
def Reps (K:PySem.W.Frag) (F:Hp):List T->List V->Prop
 | [],vs=>vs=[]
 | t::ts,vs=>∃ v r,vs=v::r/\Rep K F t v/\Reps K F ts r
end
theorem zlj {a:Addr} (e:Same F F') (h:Rd F a o):Rd F' a o:=by
 rcases h with h | ⟨b,h⟩
 ·exact .inl (e _ _ h)
 ·exact .inr ⟨b,e _ _ h⟩
theorem Ls.same {a:Addr} (e:Same F F') (h:Ls K F a xs):Ls K F' a xs:=by
 rcases h with h | h
 ·exact .inl (zlj e h)
 ·exact .inr h
theorem zam {a:Addr} (e:Same F F') (h:Tq K F a xs):SqT K F' a xs:=SqT.of (e _ _ h)
mutual
theorem Rep.mono {K:PySem.W.Frag} {F F':Hp} (e:Same F F'):∀ {t:T} {v:V},Rep K F t v->Rep K F' t v
 | .non,_,h=>h
 | .bl _,_,h=>h
 | .int _,_,h=>h
 | .str _,_,h=>h
 | .tup _,_,h=>by
  obtain ⟨a,vs,h1,h2,h3⟩:=h
  exact ⟨a,vs,h1,e _ _ h2,Reps.mono e h3⟩
 | .lst _,_,h=>by
  obtain ⟨a,vs,h1,h2,h3⟩:=h
  exact ⟨a,vs,h1,Ls.same e h2,Reps.mono e h3⟩
 | .dk _ _,_,h=>by
  obtain ⟨a,ws,h1,h2,h3,h4⟩:=h
  exact ⟨a,ws,h1,e _ _ h2,h3,Reps.mono e h4⟩
 | .dt _ _,_,h=>by
  obtain ⟨a,ws,h1,h2,h3,h4⟩:=h
  exact ⟨a,ws,h1,e _ _ h2,h3,Reps.mono e h4⟩
theorem Reps.mono {K:PySem.W.Frag} {F F':Hp} (e:Same F F'):∀ {ts:List T} {vs:List V},Reps K F ts vs->Reps K F' ts vs
 | [],_,h=>h
 | _::_,_,h=>by
  obtain ⟨v,r,h1,h2,h3⟩:=h
  exact ⟨v,r,h1,Rep.mono e h2,Reps.mono e h3⟩
end
theorem Reps.length {K:PySem.W.Frag} {F:Hp}:∀ {ts:List T} {vs:List V},Reps K F ts vs->vs.length=ts.length
 | [],_,h=>by cases h;rfl
 | _::_,_,h=>by
  obtain ⟨v,r,rfl,_,h3⟩:=h
  simp [Reps.length h3]
theorem Reps.cons {t:T} {v:V} {ts:List T} {vs:List V} (h:Rep K F t v) (r:Reps K F ts vs):Reps K F (t::ts) (v::vs):=⟨v,vs,rfl,h,r⟩
theorem Reps.app {K:PySem.W.Frag} {F:Hp}:∀ {ts us:List T} {vs ws:List V},Reps K F ts vs->Reps K F us ws->Reps K F (ts++us) (vs++ws)
 | [],_,_,_,h,r=>by cases h;exact r
 | _::_,_,_,_,h,r=>by
  obtain ⟨v,q,rfl,h2,h3⟩:=h
  exact ⟨v,_,rfl,h2,Reps.app h3 r⟩
theorem Reps.drop {K:PySem.W.Frag} {F:Hp}:∀ (n:Nat) {ts:List T} {vs:List V},Reps K F ts vs->Reps K F (ts.drop n) (vs.drop n)
 | 0,_,_,h=>h
 | _+1,[],_,h=>by cases h;exact rfl
 | n+1,_::_,_,h=>by
  obtain ⟨v,q,rfl,h2,h3⟩:=h
  exact Reps.drop n h3
theorem Reps.take {K:PySem.W.Frag} {F:Hp}:∀ (n:Nat) {ts:List T} {vs:List V},Reps K F ts vs->Reps K F (ts.take n) (vs.take n)
 | 0,_,_,_=>rfl
 | _+1,[],_,h=>by cases h;exact rfl
 | n+1,_::_,_,h=>by
  obtain ⟨v,q,rfl,h2,h3⟩:=h
  exact ⟨v,_,rfl,h2,Reps.take n h3⟩
theorem Reps.get {K:PySem.W.Frag} {F:Hp}:∀ {ts:List T} {vs:List V} {i:Nat} {t:T},Reps K F ts vs->ts[i]?=some t->∃ v,vs[i]?=some v/\Rep K F t v
 | [],_,_,_,_,e=>by simp at e
 | _::_,_,0,_,h,e=>by
  obtain ⟨v,q,rfl,h2,h3⟩:=h
  simp at e;subst e
  exact ⟨v,rfl,h2⟩
 | _::_,_,i+1,t,h,e=>by
  obtain ⟨v,q,rfl,h2,h3⟩:=h
  obtain ⟨w,h4,h5⟩:=Reps.get (i:=i) (t:=t) h3 (by simpa using e)
  exact ⟨w,by simpa using h4,h5⟩
def isTbl:HO->Bool
 | .tbl _=>true
 | _=>false
def lamQ:Str:="_law_spoilt.<locals>.<lambda>"
def CdAt (H:Hp) (cv:Value):Prop:=∃ a oc vs t,cv=.ref a/\H a=some (.frz oc (.own 0))/\oc.data=.fields vs/\vs[1]?=some (.str lamQ t)
def TbAt (H:Hp) (b:Addr):Prop:=∃ ps:Array Value,H b=some (.tbl ps)/\TriplesOk ps.toList/\∀ pos cv,codeAmong pos ps.toList=some cv->CdAt H cv
theorem CdAt.up {cv:Value} (h:CdAt H cv) (k:∀ a o u,H a=some (.frz o u)->H' a=some (.frz o u)):CdAt H' cv:=by
 obtain ⟨a,oc,vs,t,h1,h2,h3,h4⟩:=h
 exact ⟨a,oc,vs,t,h1,k _ _ _ h2,h3,h4⟩
theorem TbAt.up {H H':Hp} {b:Addr} (h:TbAt H b) (k:∀ a o u,H a=some (.frz o u)->H' a=some (.frz o u)) (kt:∀ a ps,H a=some (.tbl ps)->H' a=some (.tbl ps)):TbAt H' b:=by
 obtain ⟨ps,h1,h2,h3⟩:=h
 exact ⟨ps,kt _ _ h1,h2,fun pos cv e=>(h3 pos cv e).up k⟩
structure SameT (H H':Hp):Prop where
 st:∀ b u,H b=some u->isTbl u=false->H' b=some u
 fr:∀ b,H' b=none->H b=none
 tb:∀ b,TbAt H b->TbAt H' b
 tt:∀ b ps,H b=some (.tbl ps)->∃ qs,H' b=some (.tbl qs)
theorem sameT (e:Same H H'):SameT H H':=⟨fun b u h _=>e b u h,fun _ h=>e.free h,fun _ h=>h.up (fun a o u q=>e a _ q) fun a ps q=>e a _ q,fun b ps h=>⟨ps,e b _ h⟩⟩
theorem SameT.refl (H:Hp):SameT H H:=sameT (Same.refl H)
theorem SameT.free (e:SameT H H') {l:Addr} (h:H' l=none):H l=none:=e.fr l h
theorem SameT.trans {H2:Hp} (a:SameT H H1) (b:SameT H1 H2):SameT H H2:=⟨fun c u h q=>b.st c u (a.st c u h q) q,fun c h=>a.fr c (b.fr c h),fun c h=>b.tb c (a.tb c h),fun c ps h=>let ⟨qs,g⟩:=a.tt c ps h;b.tt c qs g⟩
theorem SameT.upd {H H1:Hp} {a:Addr} {o o1:HO} (e:SameT H H1) (h0:H a=none) (h1:H1 a=some o1) (k1:isTbl o1=false) (k2:∀ p u,o1≠.frz p u):SameT H (upd H1 a o):=by
 refine ⟨fun b u h q=>?_,fun b h=>?_,fun b h=>?_,fun b ps h=>?_⟩
 ·rw [zad (zac h h0)];exact e.st b u h q
 ·by_cases hb:b=a
  ·subst hb;exact h0
  ·rw [zad hb] at h;exact e.fr b h
 ·refine (e.tb b h).up (fun c p u q=>?_) fun c ps q=>?_
  ·rw [zad (zcb q h1 fun z=>k2 _ _ z.symm)];exact q
  ·rw [zad (zcb q h1 (by intro z;subst z;cases k1))];exact q
 ·obtain ⟨qs,g⟩:=e.tt b ps h
  exact ⟨qs,by rw [zad (zac h h0)];exact g⟩
def fnCode:Option Obj->Option Addr
 | some ⟨_,_,.func fd,_⟩=>(match fd.code with | .ref c=>some c | _=>none)
 | _=>none
def fldAt (i:Nat):Option Obj->Option Addr
 | some ⟨_,_,.fields vs,_⟩=>(match vs.getD i .none with | .ref c=>some c | _=>none)
 | _=>none
def nsRef:Option (Option Value)->Option Addr
 | some (some (.ref f))=>some f
 | _=>none
def tabOf (K:PySem.W.Frag):Option Addr:=(nsRef (PySem.W.nsIn K mainGlobals "_law_spoilt")).bind fun f=>(fnCode (K.lookup f)).bind fun c=>fldAt 11 (K.lookup c)
structure Step (F H F' H':Hp):Prop where
 hh:SameT H H'
 ff:Same F F'
 fh:Same F' H'
 nw:∀ a,F' a≠none->F a≠none\/H a=none\/∃ xs,H a=some (.tup xs)
theorem Step.refl {F H:Hp} (h:Same F H):Step F H F H:=⟨SameT.refl H,Same.refl F,h,fun _ z=>.inl z⟩
def Tbk (K:PySem.W.Frag) (F H:Hp):Prop:=∀ p,tabOf K=some p->F p=none/\TbAt H p
theorem Tbk.up (h:Tbk K F H) (S:Step F H F' H'):Tbk K F' H':=fun p q=>by
 obtain ⟨h1,h2⟩:=h p q
 refine ⟨?_,S.hh.tb p h2⟩
 cases e:F' p with
 | none=>rfl
 | some v =>
  rcases S.nw p (by rw [e];simp) with z | z | ⟨xs,z⟩
  ·exact absurd h1 z
  ·obtain ⟨ps,h3,_⟩:=h2;rw [h3] at z;cases z
  ·obtain ⟨ps,h3,_⟩:=h2;rw [h3] at z;cases z
theorem Step.trans {F H F1 H1 F2 H2:Hp} (a:Step F H F1 H1) (b:Step F1 H1 F2 H2):Step F H F2 H2 :=
 ⟨a.hh.trans b.hh,a.ff.trans b.ff,b.fh,fun x z=>by
  rcases b.nw x z with q | q | ⟨xs,q⟩
  ·exact a.nw x q
  ·exact .inr (.inl (a.hh.free q))
  ·cases h:H x with
   | none=>exact .inr (.inl rfl)
   | some o =>
    by_cases ht:isTbl o=true
    ·cases o with
     | tbl ps=>obtain ⟨qs,g⟩:=a.hh.tt x ps h;rw [q] at g;cases g
     | _=>cases ht
    ·have h':=a.hh.st x o h (by simpa using ht)
     rw [q] at h'
     cases h'
     exact .inr (.inr ⟨xs,rfl⟩)⟩
theorem zoz (h:Same F H):Same (upd F p o) (upd H p o):=fun b u e=>by
 by_cases hb:b=p
 ·subst hb;rw [zae] at e ⊢;exact e
 ·rw [zad hb] at e ⊢;exact h b u e
theorem za8 (h:H p=none):Same H (upd H p o):=fun b u e=>by
 rw [zad (zac e h)];exact e
theorem Step.new {F1:Hp} (a:Step F H F1 H1) (h:H1 p=none):Step F H (upd F1 p o) (upd H1 p o) :=
 ⟨a.hh.trans (sameT (za8 h)),a.ff.trans (za8 (a.fh.free h)),zoz a.fh,fun x z=>by
  by_cases hx:x=p
  ·subst hx;exact .inr (.inl (a.hh.free h))
  ·rw [zad hx] at z;exact a.nw x z⟩
theorem Step.newH {F1:Hp} (a:Step F H F1 H1) (h:H1 p=none):Step F H F1 (upd H1 p o) :=
 ⟨a.hh.trans (sameT (za8 h)),a.ff,a.fh.trans (za8 h),a.nw⟩
structure EnvE (X:Cx) (c:Tc) (r:Env) (F:Hp) (σ:L2.St) (H:Hp):Prop where
 fh:Same F H
 tb:Tbk X.K F H
 get:∀ (x:Str) (i:Nat) (t:T),zaf x=true->nameIx c.nm x=some i->visB c.sc x=true->r[i]?=some (some t)->∃ (j:Nat) (v:V),X.N[j]?=some x/\σ[j]?=some (some v)/\Rep X.K F t v
theorem EnvE.step {X:Cx} {c:Tc} {r:Env} {σ:L2.St} (e:EnvE X c r F σ H) (s:Step F H F' H'):EnvE X c r F' σ H' :=
 ⟨s.fh,e.tb.up s,fun x i t pn a b d=>let ⟨j,v,h1,h2,h3⟩:=e.get x i t pn a b d;⟨j,v,h1,h2,h3.mono s.ff⟩⟩
def spT (K:PySem.W.Frag) (g:List T->Option T):Sp:=fun vs H Q _=>∃ F ts t,Same F H/\Tbk K F H/\Reps K F ts vs/\g ts=some t/\∀ v F' H',Step F H F' H'->Rep K F' t v->Q v H'
def plainF (f:Str):Bool:=!(f==(".put":Str))&&!(f==(".lam":Str))
structure Gd (X:Cx) (c:Tc) (G:Glo) (k:Nat):Prop where
 room:Room k X.A
 calm:X.calm=true
 nob:∀ x∈bnames,X.mg x=none
 call:∀ f ts t,plainF f=true->G.call f ts=some t->∃ (a:Addr) (fd:FuncData) (ps:List Str),FnOk X.prog X.w X.K X.mg X.base CX0 k a fd ps (spT X.K (G.call f))/\X.mg f=some (.ref a)/\PySem.W.keepIn X.K (.ref a)=true/\Binds X.K fd ps []
 con:∀ x t,G.con x=some t->∃ u v,X.mg x=some u/\RelV v u/\∀ F,Rep X.K F t v
 vis:∀ x,visB c.sc x=true->Vis X.env.scope x
 gl:∀ x,glB c.sc x=true->Gl X x
 cap:∀ x,(c.sc.names.lookup x=some .cell\/c.sc.names.lookup x=some .free)->(X.env.kindOf x=some .cell\/X.env.kindOf x=some .free)
 nd:X.N.Nodup
def spE (X:Cx) (c:Tc) (f:Env->Option T):TE:=fun σ H Q=>∃ r F t,EnvE X c r F σ H/\f r=some t/\∀ v F' H',Step F H F' H'->Rep X.K F' t v->Q v H'
def spB (X:Cx) (c:Tc) (f:Env->Option T):TT:=fun σ H Q=>∃ r F b,EnvE X c r F σ H/\f r=some (.bl b)/\∀ F' H',Step F H F' H'->Q b H'
def spL (X:Cx) (c:Tc) (f:Env->Option (List T)):TA:=fun σ H Q=>∃ r F ts,EnvE X c r F σ H/\f r=some ts/\∀ vs F' H',Step F H F' H'->Reps X.K F' ts vs->Q vs H'
abbrev Oke (X:Cx) (c:Tc) (e:Expr) (f:Env->Option T):Prop:=PE X e (spE X c f)
abbrev Okt (X:Cx) (c:Tc) (e:Expr) (f:Env->Option T):Prop:=PT X e (spB X c f)
theorem zav {X:Cx} {t t':TE} (h:PE X e t) (m:∀ σ H Q,t' σ H Q->t σ H Q):PE X e t':=fun pins s σ H Q I q=>h pins s σ H Q I (m σ H Q q)
theorem zfa {X:Cx} {t t':TT} (h:PT X e t) (m:∀ σ H Q,t' σ H Q->t σ H Q):PT X e t':=fun pins s σ H Q I q=>h pins s σ H Q I (m σ H Q q)
theorem zlq {X:Cx} {t t':TT} (h:PW X e t) (m:∀ σ H Q,t' σ H Q->t σ H Q):PW X e t':=fun wh pins s σ H Q I q=>h wh pins s σ H Q I (m σ H Q q)
theorem zd7 {X:Cx} {e:Stmt} {t t':TS} (h:PS X e t) (m:∀ D σ H,t' D σ H->t D σ H):PS X e t':=fun pins s σ H D I q=>h pins s σ H D I (m D σ H q)
theorem ziu {X:Cx} {e:List Stmt} {t t':TS} (h:PSs X e t) (m:∀ D σ H,t' D σ H->t D σ H):PSs X e t':=fun pins s σ H D I q=>h pins s σ H D I (m D σ H q)
def OpS (X:Cx) (f:Value->Value->Sem Value) (g:T->T->Option T):Prop :=
 OpR X f (fun x y H Q=>∃ F t1 t2 t,Same F H/\Rep X.K F t1 x/\Rep X.K F t2 y/\g t1 t2=some t/\∀ v F' H',Step F H F' H'->Rep X.K F' t v->Q v H')
section
variable {X:Cx} {c:Tc} {a b:Expr} {pos:Pos}
theorem zx1 {op:Operator} (ho:OpS X (binaryOp op) h) (ha:Oke X c a f) (hb:Oke X c b g):Oke X c (.BinOp a op b pos) (fun r=>(f r).bind fun x=>(g r).bind fun y=>h x y):=by
 refine zav (zvi ho ha hb) fun σ H Q q=>?_
 obtain ⟨r,F,t,e,ht,q⟩:=q
 obtain ⟨t1,e1,ht⟩:=obs ht
 obtain ⟨t2,e2,ht⟩:=obs ht
 refine ⟨r,F,t1,e,e1,fun v1 F1 H1 s1 r1=>⟨r,F1,t2,e.step s1,e2,fun v2 F2 H2 s2 r2=>?_⟩⟩
 exact ⟨F2,t1,t2,t,s2.fh,r1.mono s2.ff,r2,ht,fun v F' H' s3 r3=>q v F' H' (s1.trans (s2.trans s3)) r3⟩
theorem zv8 {op:CmpOp} (ho:OpS X (compareOp op) h) (ha:Oke X c a f) (hb:Oke X c b g) (hm:behindInMarks op b=false):Oke X c (.Compare a [op] [b] pos) (fun r=>(f r).bind fun x=>(g r).bind fun y=>h x y):=by
 refine zav (zsu ho ha hb hm) fun σ H Q q=>?_
 obtain ⟨r,F,t,e,ht,q⟩:=q
 obtain ⟨t1,e1,ht⟩:=obs ht
 obtain ⟨t2,e2,ht⟩:=obs ht
 refine ⟨r,F,t1,e,e1,fun v1 F1 H1 s1 r1=>⟨r,F1,t2,e.step s1,e2,fun v2 F2 H2 s2 r2=>?_⟩⟩
 exact ⟨F2,t1,t2,t,s2.fh,r1.mono s2.ff,r2,ht,fun v F' H' s3 r3=>q v F' H' (s1.trans (s2.trans s3)) r3⟩
theorem zs6 {op:CmpOp} (ho:OpS X (compareOp op) h) (ha:Oke X c a f) (hb:Oke X c b g) (hm:behindInMarks op b=false):Okt X c (.Compare a [op] [b] pos) (fun r=>(f r).bind fun x=>(g r).bind fun y=>h x y):=by
 refine zfa (zsl ho ha hb hm) fun σ H Q q=>?_
 obtain ⟨r,F,k,e,ht,q⟩:=q
 obtain ⟨t1,e1,ht⟩:=obs ht
 obtain ⟨t2,e2,ht⟩:=obs ht
 refine ⟨r,F,t1,e,e1,fun v1 F1 H1 s1 r1=>⟨r,F1,t2,e.step s1,e2,fun v2 F2 H2 s2 r2=>?_⟩⟩
 exact ⟨F2,t1,t2,_,s2.fh,r1.mono s2.ff,r2,ht,fun v F' H' s3 r3=>⟨k,r3,q F' H' (s1.trans (s2.trans s3))⟩⟩
end
theorem ze4:SZ=sizeLine:=sizeLine_eq.symm
section
variable {X:Cx}
theorem op_cat':OpR X (binaryOp .Add) (fun x y H Q=>∃ l b xs zs,x=.ref l/\y=.ref b/\Ls X.K H l xs/\Ls X.K H b zs/\xs.length+zs.length<=sizeLine/\∀ p,H p=none->Q (.ref p) (upd H p (.lst (xs++zs)))):=by
 intro pins s σ H x y v u Q I rx ry h
 obtain ⟨l,b,xs,zs,rfl,rfl,hH,hB,hz,q⟩:=h
 cases rx
 cases ry
 obtain ⟨z,its,n,r,e⟩:=hH.ok I
 obtain ⟨z2,its2,n2,r2,e2⟩:=hB.ok I
 have hl:=r.length
 have hl2:=r2.length
 refine PySem.P.add_list e e2 ?_ (by rw [zyk,zyk];omega)
 have ea:its.toArray++its2.toArray=(its++its2).toArray:=by simp
 rw [ea]
 exact ⟨.ref _,_,I.lnew (t':=s.toks) (r.append r2) (by rw [zyx];omega),rfl,q _ I.fresh⟩
theorem op_catT':OpR X (binaryOp .Add) (fun x y H Q=>∃ a b xs ys,x=.ref a/\y=.ref b/\SqT X.K H a xs/\SqT X.K H b ys/\xs.length+ys.length<=sizeLine /\
  (xs=[]->Q (.ref b) H)/\(xs≠[]->ys=[]->Q (.ref a) H)/\(xs≠[]->ys≠[]->∀ p,H p=none->Q (.ref p) (upd H p (.tup (xs++ys))))):=by
 intro pins s σ H x y v u Q I rx ry h
 obtain ⟨a,b,xs,ys,rfl,rfl,ha,hb,hz,q0,q1,q2⟩:=h
 cases rx
 cases ry
 obtain ⟨its,r,ht,_⟩:=I.tuple ha
 obtain ⟨its2,r2,ht2,_⟩:=I.tuple hb
 have hl:=r.length
 have hl2:=r2.length
 by_cases hx:xs=[]
 ·subst hx
  have hi:its=[]:=by
   cases its with
   | nil=>rfl
   | cons _ _=>simp at hl
  subst hi
  obtain ⟨⟨cls,dd,data,sl⟩,ho,hc,n,hd⟩:=id ht
  obtain ⟨⟨cls2,dd2,data2,sl2⟩,ho2,hc2,n2,hd2⟩:=id ht2
  simp only at hc hd hc2 hd2
  subst hc hd hc2 hd2
  exact concat_meets ⟨_,ho,rfl⟩ ⟨_,ho2,rfl⟩ noFill_tuple_add seq_tuple_add PySem.F.slot_tuple_add PySem.F.entry_tuple_add (PySem.F.args_tuple_add_2 _ _)
   (tuple_addW0 a b _ _ n n2 dd dd2 sl sl2 (by simp)) ⟨ho,ho2,⟨.ref b,H,I.tok _,rfl,q0 rfl⟩⟩
 ·refine HT.cat_tup ht ht2 (by intro z;subst z;exact hx (by cases xs with | nil=>rfl | cons _ _=>simp at hl)) (fun hw=>?_) (fun hw=>?_) (by omega)
  ·have hy:ys=[]:=by subst hw;cases ys with | nil=>rfl | cons _ _=>simp at hl2
   exact ⟨.ref a,H,I,rfl,q1 hx hy⟩
  ·have hy:ys≠[]:=by intro z;subst z;exact hw (by cases its2 with | nil=>rfl | cons _ _=>simp at hl2)
   exact ⟨.ref _,_,I.laid (t':=s.toks) (fun b o e=>zyb _ e) (zyl _) (show ObjOk X.prog X.w _ _ _ (.tup (xs++ys)) from ⟨by rw [zyx];omega,its++its2,r.append r2,IsTup.new _ _⟩),rfl,q2 hx hy _ I.fresh⟩
theorem zs0:OpS X (binaryOp .Add) addT:=by
 intro pins s σ H x y v u Q I rx ry h
 obtain ⟨F,t1,t2,t,fh,r1,r2,ht,q⟩:=h
 cases t1 with
 | int i =>
  cases t2 with
  | int j =>
   cases r1;cases r2;cases ht
   exact zvw pins s σ H _ _ v u Q I rx ry ⟨_,_,rfl,rfl,q _ F H (Step.refl fh) rfl⟩
  | _=>simp [addT] at ht
 | str i =>
  cases t2 with
  | str j =>
   cases r1;cases r2
   simp only [addT] at ht
   split at ht
   ·rename_i hz
    cases ht
    exact op_add_str pins s σ H _ _ v u Q I rx ry ⟨_,_,rfl,rfl,by rw [<- ze4];exact hz,q _ F H (Step.refl fh) rfl⟩
   ·cases ht
  | _=>simp [addT] at ht
 | lst i =>
  cases t2 with
  | lst j =>
   obtain ⟨l,xs,rfl,h1,h2⟩:=r1
   obtain ⟨l',ys,rfl,h3,h4⟩:=r2
   simp only [addT] at ht
   split at ht
   ·rename_i hz
    cases ht
    refine op_cat' pins s σ H _ _ v u Q I rx ry ⟨_,_,_,_,rfl,rfl,Ls.same fh h1,Ls.same fh h3,by rw [h2.length,h4.length,<- ze4];exact hz,fun p hp=>?_⟩
    have st:=(Step.refl fh).new (o:=.lst (xs++ys)) hp
    exact q _ _ _ st ⟨p,_,rfl,Ls.of zae,(h2.app h4).mono st.ff⟩
   ·cases ht
  | _=>simp [addT] at ht
 | tup i =>
  cases t2 with
  | tup j =>
   obtain ⟨l,xs,rfl,h1,h2⟩:=r1
   obtain ⟨l',ys,rfl,h3,h4⟩:=r2
   simp only [addT] at ht
   split at ht
   ·rename_i hz
    cases ht
    refine op_catT' pins s σ H _ _ v u Q I rx ry ⟨_,_,_,_,rfl,rfl,zam fh h1,zam fh h3,by rw [h2.length,h4.length,<- ze4];exact hz,fun z=>?_,fun _ z=>?_,fun _ _ p hp=>?_⟩
    ·subst z
     refine q _ F H (Step.refl fh) ⟨l',ys,rfl,h3,?_⟩
     have e:=h2.length
     cases i with
     | nil=>exact h4
     | cons _ _=>simp at e
    ·subst z
     refine q _ F H (Step.refl fh) ⟨l,xs,rfl,h1,?_⟩
     have e:=h4.length
     cases j with
     | nil=>rw [zy6];exact h2
     | cons _ _=>simp at e
    ·have st:=(Step.refl fh).new (o:=.tup (xs++ys)) hp
     exact q _ _ _ st ⟨p,_,rfl,zae,(h2.app h4).mono st.ff⟩
   ·cases ht
  | _=>simp [addT] at ht
 | _=>cases t2<;>simp [addT] at ht
theorem zsw:OpS X (binaryOp .Sub) subT:=by
 intro pins s σ H x y v u Q I rx ry h
 obtain ⟨F,t1,t2,t,fh,r1,r2,ht,q⟩:=h
 cases t1<;>cases t2<;>simp only [subT] at ht<;>cases ht
 cases r1;cases r2
 exact zvu pins s σ H _ _ v u Q I rx ry ⟨_,_,rfl,rfl,q _ F H (Step.refl fh) rfl⟩
theorem zsx:OpS X (binaryOp .Mult) mulT:=by
 intro pins s σ H x y v u Q I rx ry h
 obtain ⟨F,t1,t2,t,fh,r1,r2,ht,q⟩:=h
 cases t1 with
 | int i =>
  cases t2 with
  | int j =>
   cases r1;cases r2
   simp only [mulT] at ht
   split at ht
   ·rename_i hz
    cases ht
    refine op_mul pins s σ H _ _ v u Q I rx ry ⟨_,_,rfl,rfl,?_,q _ F H (Step.refl fh) rfl⟩
    rw [Bool.or_eq_true] at hz
    have e64:(2:Int) ^ 64=18446744073709551616:=by decide
    rcases hz with hz | hz<;>simp only [small,Bool.and_eq_true,decide_eq_true_eq] at hz
    ·exact .inl (by rw [e64];exact hz)
    ·exact .inr (by rw [e64];exact hz)
   ·cases ht
  | _=>simp [mulT] at ht
 | _=>cases t2<;>simp [mulT] at ht
theorem zph:OpS X (binaryOp .FloorDiv) fdivT:=by
 intro pins s σ H x y v u Q I rx ry h
 obtain ⟨F,t1,t2,t,fh,r1,r2,ht,q⟩:=h
 cases t1<;>cases t2<;>simp only [fdivT] at ht<;>try cases ht
 split at ht
 ·rename_i hz
  cases ht
  cases r1;cases r2
  exact op_fdiv pins s σ H _ _ v u Q I rx ry ⟨_,_,rfl,rfl,hz,q _ F H (Step.refl fh) rfl⟩
 ·cases ht
theorem zsy:OpS X (binaryOp .Mod) modT:=by
 intro pins s σ H x y v u Q I rx ry h
 obtain ⟨F,t1,t2,t,fh,r1,r2,ht,q⟩:=h
 cases t1<;>cases t2<;>simp only [modT] at ht<;>try cases ht
 split at ht
 ·rename_i hz
  cases ht
  cases r1;cases r2
  exact op_mod pins s σ H _ _ v u Q I rx ry ⟨_,_,rfl,rfl,hz,q _ F H (Step.refl fh) rfl⟩
 ·cases ht
end
end Ev
end
end
end
noncomputable section
noncomputable section
noncomputable section
namespace L2
open PySem PySem.Spec PyProof.Rows
variable {xs:List (List Key × Addr × Value)} {b:Addr} {H':Hp}
section
variable {κ:Type} [DecidableEq κ]
def valV (kvs:List (κ × V)) (k:κ):Option V:=(kvs.find? fun kv=>decide (kv.1=k)).map (·.2)
def putK (kvs:List (κ × V)) (k:κ) (v:V):List (κ × V) :=
 if (kvs.any fun kv=>decide (kv.1=k))=true then kvs.map (fun kv=>if kv.1=k then (kv.1,v) else kv) else kvs++[(k,v)]
def dropK (kvs:List (κ × V)) (k:κ):List (κ × V):=kvs.filter fun kv=>decide (kv.1≠k)
theorem zcq {p:κ × V} {r:List (κ × V)} {k:κ} (e:p.1=k):valV (p::r) k=some p.2:=by simp [valV,e]
theorem zcr {p:κ × V} {r:List (κ × V)} {k:κ} (e:¬ p.1=k):valV (p::r) k=valV r k:=by simp [valV,e]
theorem zig (k:κ):∀ kvs:List (κ × V),(kvs.any fun kv=>decide (kv.1=k))=(valV kvs k).isSome
 | []=>rfl
 | p::r=>by
  rw [List.any_cons]
  by_cases e:p.1=k
  ·simp only [zcq e,decide_eq_true e,Bool.true_or,Option.isSome_some]
  ·rw [zcr e,zy0 e,Bool.false_or];exact zig k r
theorem zd9 (kvs:List (κ × V)) (k:κ) (v:V):(putK kvs k v).length<=kvs.length+1:=by
 unfold putK
 split
 ·rw [zyj];omega
 ·rw [zyx,zyt,List.length_nil];omega
theorem RelO.isSome_eq {o:Option V} {u:Option Value} (r:RelO o u):o.isSome=u.isSome:=by
 cases o with
 | none=>cases u with
  | none=>rfl
  | some _=>exact (show False from r).elim
 | some _=>cases u with
  | none=>exact (show False from r).elim
  | some _=>rfl
theorem KV.val {kvs:List (κ × V)} {vs:List (κ × Value)} (r:KV kvs vs) (k:κ):RelO (valV kvs k) (valueAt vs k):=by
 unfold KV at r
 induction r with
 | nil=>exact True.intro
 | @cons p q ps qs h t ih =>
  obtain ⟨h1,h2⟩:=h
  by_cases e:p.1=k
  ·have e':q.1=k:=h1.symm.trans e
   have b:valueAt (q::qs) k=some q.2:=by simp [valueAt,e']
   rw [zcq e,b];exact h2
  ·have e':¬ q.1=k:=fun z=>e (h1.trans z)
   have b:valueAt (q::qs) k=valueAt qs k:=by simp [valueAt,e']
   rw [zcr e,b];exact ih
theorem KV.any {kvs:List (κ × V)} {vs:List (κ × Value)} (r:KV kvs vs) (k:κ):(kvs.any fun kv=>decide (kv.1=k))=vs.any fun kv=>decide (kv.1=k):=by
 unfold KV at r
 induction r with
 | nil=>rfl
 | cons h t ih=>rw [List.any_cons,List.any_cons,ih,h.1]
theorem KV.repl {kvs:List (κ × V)} {vs:List (κ × Value)} (r:KV kvs vs) (k:κ) {y:V} {u:Value} (ry:RelV y u) :
  KV (kvs.map fun kv=>if kv.1=k then (kv.1,y) else kv) (vs.map fun kv=>if kv.1=k then (kv.1,u) else kv):=by
 unfold KV at r ⊢
 induction r with
 | nil=>exact .nil
 | @cons p q ps qs h t ih =>
  rw [zyh,zyh]
  refine .cons ?_ ih
  obtain ⟨h1,h2⟩:=h
  by_cases e:p.1=k
  ·rw [if_pos e,if_pos (h1.symm.trans e)];exact ⟨h1,ry⟩
  ·rw [if_neg e,if_neg (fun z=>e (h1.trans z))];exact ⟨h1,h2⟩
theorem KV.put {kvs:List (κ × V)} {vs:List (κ × Value)} (r:KV kvs vs) (k:κ) {y:V} {u:Value} (ry:RelV y u):KV (putK kvs k y) (stored vs k u):=by
 unfold putK stored
 rw [r.any k]
 by_cases e:(vs.any fun kv=>decide (kv.1=k))=true
 ·rw [if_pos e,if_pos e];exact r.repl k ry
 ·rw [if_neg e,if_neg e];exact Paired.snoc r ⟨rfl,ry⟩
theorem KV.length {kvs:List (κ × V)} {vs:List (κ × Value)} (r:KV kvs vs):kvs.length=vs.length:=Paired.length r
end
theorem ztj {P:Program} {w:World} {k:Key} {u:Value} (r:RelV (kV k) u):(zah P w).is k u=true:=by
 rcases k with i | _ | x
 ·obtain ⟨t,e⟩:=(show ∃ t,u=Value.int i t from r);subst e;exact zhp P w i t
 ·cases (show u=Value.none from r);rfl
 ·obtain ⟨t,e⟩:=(show ∃ t,u=Value.str x t from r);subst e;exact zho P w x t
theorem zgn {P:Program} {w:World}:∀ {ks:List Key} {us:List Value},Vals (ks.map kV) us->ItemsAre (zah P w) ks us
 | [],_,r=>by rw [List.map_nil] at r;cases r;exact .nil
 | k::ks,_,r=>by
  rw [zyh] at r
  cases r with
  | cons h t=>exact .cons (ztj h) (zgn t)
abbrev KT (H:Hp):List (List Key × V)->List (List Key × Addr × Value)->Prop:=Paired fun p q=>p.1=q.1/\H q.2.1=some (.tup (p.1.map kV))/\RelV p.2 q.2.2
theorem KT.val {H:Hp} {kvs:List (List Key × V)} (r:KT H kvs xs) (k:List Key):RelO (valV kvs k) ((atKey xs k).map (·.2)):=by
 induction r with
 | nil=>exact True.intro
 | @cons p q ps qs h t ih =>
  obtain ⟨h1,_,h2⟩:=h
  by_cases e:p.1=k
  ·have e':q.1=k:=h1.symm.trans e
   have b:atKey (q::qs) k=some q.2:=by simp [atKey,e']
   rw [zcq e,b];exact h2
  ·have e':¬ q.1=k:=fun z=>e (h1.trans z)
   have b:atKey (q::qs) k=atKey qs k:=by simp [atKey,e']
   rw [zcr e,b];exact ih
theorem KT.repl {H:Hp} {kvs:List (List Key × V)} (r:KT H kvs xs) (k:List Key) {y:V} {u:Value} (ry:RelV y u) :
  KT H (kvs.map fun kv=>if kv.1=k then (kv.1,y) else kv) (xs.map (putAt k u)):=by
 induction r with
 | nil=>exact .nil
 | @cons p q ps qs h t ih =>
  rw [zyh,zyh]
  refine .cons ?_ ih
  obtain ⟨h1,h2,h3⟩:=h
  unfold putAt
  by_cases e:p.1=k
  ·rw [if_pos e,if_pos (h1.symm.trans e)];exact ⟨h1,h2,ry⟩
  ·rw [if_neg e,if_neg (fun z=>e (h1.trans z))];exact ⟨h1,h2,h3⟩
theorem KT.put {H:Hp} {kvs:List (List Key × V)} (r:KT H kvs xs) (k:List Key) {y:V} {u:Value} (hb:H b=some (.tup (k.map kV))) (ry:RelV y u) :
  KT H (putK kvs k y) (storedH xs k b u):=by
 have e:(kvs.any fun kv=>decide (kv.1=k))=(atKey xs k).isSome:=by
  rw [zig,(r.val k).isSome_eq,Option.isSome_map]
 unfold putK storedH
 rw [e]
 by_cases q:(atKey xs k).isSome=true
 ·rw [if_pos q,if_pos q];exact r.repl k ry
 ·rw [if_neg q,if_neg q];exact Paired.snoc r ⟨rfl,hb,ry⟩
theorem KT.keeps {H:Hp} {kvs:List (List Key × V)} (r:KT H kvs xs) (ht:∀ b ys,H b=some (.tup ys)->H' b=some (.tup ys)):KT H' kvs xs :=
 Paired.mapP r fun _ _ z=>⟨z.1,ht _ _ z.2.1,z.2.2⟩
section
variable {P:Program} {w:World} {H:Hp} {h:Heap} {a:Addr}
theorem zu2 {u:HO} (ok:HOk P w H h) (e:Rd H a u):ObjOk P w H h a u:=e.ok ok
theorem zt2 {kvs:List (Key × V)} (ok:HOk P w H h) (e:Rd H a (.dK kvs)):kvs.length<=sizeLine/\(a==sysModules)=false/\∃ vs,KV kvs vs/\h.DictOf (zah P w) a vs :=
 show ObjOk P w H h a (.dK kvs) from zu2 ok e
theorem zp3 {kvs:List (Key × V)} (ok:HOk P w H h) (e:H a=some (.dK kvs)):kvs.length<=sizeLine/\(a==sysModules)=false/\∃ vs,KV kvs vs/\h.DictOf (zah P w) a vs:=zt2 ok (.inl e)
theorem zmr {ks:List Key} (ok:HOk P w H h) (e:H a=some (.tup (ks.map kV))):(tupleKind (zah P w)).is h ks a:=by
 obtain ⟨_,its,r,o,h1,h2,n,h3⟩:=(show ObjOk P w H h a (.tup (ks.map kV)) from ok a _ e)
 exact ⟨o,its.toArray,n,h1,h2,h3,by simpa using zgn r⟩
theorem zty {kvs:List (List Key × V)} (ok:HOk P w H h) (e:Rd H a (.dT kvs)):kvs.length<=sizeLine/\(a==sysModules)=false /\
  ∃ xs,KT H kvs xs/\h.DictOfH (tupleKind (zah P w)) a xs:=by
 obtain ⟨z,y,xs,r,o,es,ep,h1,h2,h3,h4,h5⟩:=(show ObjOk P w H h a (.dT kvs) from zu2 ok e)
 refine ⟨z,y,xs,r,o,es,ep,h1,h2,h3,h4,fun x hx=>?_,h5⟩
 have all:∀ {l:List (List Key × V)} {m:List (List Key × Addr × Value)},KT H l m->∀ x∈m,(tupleKind (zah P w)).is h x.1 x.2.1:=by
  intro l m q
  induction q with
  | nil=>intro x hx;exact nomatch hx
  | @cons p q ps qs hq t ih =>
   intro x hx
   rcases omc hx with e | hx
   ·subst e
    exact zmr ok (by rw [<- hq.1];exact hq.2.1)
   ·exact ih x hx
 exact all r x hx
theorem ztz {kvs:List (List Key × V)} (ok:HOk P w H h) (e:H a=some (.dT kvs)):kvs.length<=sizeLine/\(a==sysModules)=false /\
  ∃ xs,KT H kvs xs/\h.DictOfH (tupleKind (zah P w)) a xs:=zty ok (.inl e)
end
def DGet (H:Hp) (a:Addr) (y:V) (r:Option V):Prop :=
 (∃ kvs k,Rd H a (.dK kvs)/\y=kV k/\r=valV kvs k)\/∃ kvs k b,Rd H a (.dT kvs)/\y=.ref b/\H b=some (.tup (k.map kV))/\r=valV kvs k
def DPut (H:Hp) (a:Addr) (y v:V) (H':Hp):Prop :=
 (∃ kvs k,H a=some (.dK kvs)/\y=kV k/\kvs.length<sizeLine/\H'=upd H a (.dK (putK kvs k v))) \/
 ∃ kvs k b,H a=some (.dT kvs)/\y=.ref b/\H b=some (.tup (k.map kV))/\kvs.length<sizeLine/\H'=upd H a (.dT (putK kvs k v))
theorem DGet.t {H:Hp} {a:Addr} {kvs:List (List Key × V)} {k:List Key} (e:H a=some (.dT kvs)) (eb:H b=some (.tup (k.map kV))):DGet H a (.ref b) (valV kvs k):=.inr ⟨kvs,k,b,.inl e,rfl,eb,rfl⟩
theorem DPut.k {H:Hp} {a:Addr} {kvs:List (Key × V)} {k:Key} {v:V} (e:H a=some (.dK kvs)) (hl:kvs.length<sizeLine):DPut H a (kV k) v (upd H a (.dK (putK kvs k v))):=.inl ⟨kvs,k,e,rfl,hl,rfl⟩
theorem DPut.t {H:Hp} {a:Addr} {kvs:List (List Key × V)} {k:List Key} {v:V} (e:H a=some (.dT kvs)) (eb:H b=some (.tup (k.map kV))) (hl:kvs.length<sizeLine) :
  DPut H a (.ref b) v (upd H a (.dT (putK kvs k v))):=.inr ⟨kvs,k,b,e,rfl,eb,hl,rfl⟩
section
variable {X:Cx} {pins:List (Addr × Obj)} {σ:St} {H:Hp} {s:Shared} {a:Addr} {y v:V} {u r:Value} {o:Option V} {A:Around} {E:Value->Shared->Prop}
theorem Inv.big (I:Inv X pins σ H s):sysModules<s.heap.objs.size:=by
 have h:mainGlobals<s.heap.objs.size:=(I.mod.glob.keeps I.bk).lt
 exact Nat.lt_trans (by decide) h
theorem znk {Q:Value->Shared->Prop} (hu:A.units+1<cLine) (I:Inv X pins σ H s) (g:DGet H a y (some v)) (ry:RelV y u) (h:∀ w' s',Inv X pins σ H s'->RelV v w'->Q w' s') :
  wpAny (model X.prog X.w) A (getItem (.ref a) u) Q E s:=by
 rcases g with ⟨kvs,k,e,ey,l⟩ | ⟨kvs,k,b,e,ey,eb,l⟩
 ·subst ey
  obtain ⟨z,hd,vs,rel,dd⟩:=zt2 I.hok e
  obtain ⟨w',hw,rw'⟩:=RelO.some_of (v:=v) (o:=valueAt vs k) (by rw [l];exact rel.val k)
  exact wpAny_getItem_of (ztj ry) dd.mapOf hw (h w' _ (I.tok _) rw')
 ·subst ey
  cases (show u=Value.ref b from ry)
  obtain ⟨z,hd,xs,rel,dd⟩:=zty I.hok e
  obtain ⟨w',hw,rw'⟩:=RelO.some_of (v:=v) (o:=(atKey xs k).map (·.2)) (by rw [l];exact rel.val k)
  obtain ⟨p,hp,hp2⟩:=oms hw
  refine wpAny_getItem_heap (tupleKind_room_in1 hu) (zmr I.hok eb) dd hp ?_
  rw [hp2]
  exact h w' _ (I.tok _) rw'
theorem zh2 {h':Heap} {t':Nat} {ob:HO} (I:Inv X pins σ H s) (mu:Mut (H a)) (hs:Heap.SameBut a s.heap h') (he:∃ q,h'.get? a=some q) (new:ObjOk X.prog X.w (upd H a ob) h' a ob) :
  Inv X pins σ (upd H a ob) { s with heap:=h',toks:=t' } :=
 I.write (x:=a) (e:=a) mu (.inl rfl) (fun b q hb z=>(hs.2 b hb).trans z) he new
theorem zwz {P:Program} {w:World} {h':Heap} {kvs:List (Key × V)} {vs:List (Key × Value)} (z:kvs.length<=sizeLine) (hd:(a==sysModules)=false) (rel:KV kvs vs) (dd:h'.DictOf (zah P w) a vs) :
  ObjOk P w H' h' a (.dK kvs):=⟨z,hd,vs,rel,dd⟩
theorem znj {Q:Unit->Shared->Prop} (hu:A.units+1<cLine) (I:Inv X pins σ H s) (g:DPut H a y v H') (ry:RelV y u) (rv:RelV v r) (h:∀ s',Inv X pins σ H' s'->Q () s') :
  wpAny (model X.prog X.w) A (setItem (.ref a) u r) Q E s:=by
 rcases g with ⟨kvs,k,e,ey,l,eH⟩ | ⟨kvs,k,b,e,ey,eb,l,eH⟩
 ·subst ey eH
  obtain ⟨z,hd,vs,rel,dd⟩:=zp3 I.hok e
  have hz:vs.length<=sizeLine:=by rw [<- rel.length];exact z
  have hl:(putK kvs k v).length<=sizeLine:=by have:=zd9 kvs k v;omega
  refine wpAny_setItem_pairs (hsz:=hz) (ztj ry) dd fun h' dd' hs=>h _ ?_
  have he:∃ q,h'.get? a=some q:=let ⟨q,_,_,hq,_⟩:=dd';⟨q,hq⟩
  exact zh2 I (by rw [e];exact True.intro) hs he (zwz hl hd (rel.put k rv) dd')
 ·subst ey eH
  cases (show u=Value.ref b from ry)
  obtain ⟨z,hd,xs,rel,dd⟩:=ztz I.hok e
  have hz:xs.length<=sizeLine:=by rw [<- Paired.length rel];exact z
  have hl:(putK kvs k v).length<=sizeLine:=by have:=zd9 kvs k v;omega
  refine wpAny_setItem_heap (hsz:=hz) (tupleKind_room_in1 hu) (zmr I.hok eb) dd fun h' dd' hs=>h _ ?_
  obtain ⟨q,es,ep,hq,h2,h3,h4,_,h5⟩:=dd'
  refine zh2 I (by rw [e];exact True.intro) hs ⟨q,hq⟩ ⟨hl,hd,_,(rel.put k eb rv).keeps fun c ys ec=>?_,q,es,ep,hq,h2,h3,h4,h5⟩
  rw [zad (zcb ec e (fun z=>nomatch z))]
  exact ec
end
section
variable {X:Cx} {pins:List (Addr × Obj)} {σ:St} {H:Hp} {s:Shared} {a:Addr} {kvs:List (Key × V)} {k:Key} {u:Value} {A:Around} {E:Value->Shared->Prop}
end
theorem zh1 {X:Cx} {pins:List (Addr × Obj)} {σ:St} {H:Hp} {s:Shared} {a:Addr} {y:V} {o:Option V} (I:Inv X pins σ H s) (g:DGet H a y o):s.TypeIs (.ref a) "dict":=by
 rcases g with ⟨kvs,k,e,_,_⟩ | ⟨kvs,k,b,e,_,_,_⟩
 ·obtain ⟨_,_,vs,_,dd⟩:=zt2 I.hok e
  exact dd.typeIs
 ·obtain ⟨_,_,xs,_,dd⟩:=zty I.hok e
  exact dd.typeIs
def sDPut (td ty tv:TE):TS:=fun D σ H=>tv σ H fun v H1=>td σ H1 fun x H2=>ty σ H2 fun y H3=>∃ a H4,x=.ref a/\DPut H3 a y v H4/\D.nx σ H4
section
variable {X:Cx} {o i e value:Expr} {pos pos' tpos:Pos} {td ty tv:TE}
theorem zsn (hu:X.A.units+1<cLine) (ho:PE X o td) (hi:PE X i ty) (hv:PE X value tv) (hs:swapsWith value (some (.Subscript o i pos')) pos.line X.env=pure false) :
  PS X (.Assign [.Subscript o i pos'] value pos) (sDPut td ty tv):=by
 intro pins s σ H D I h
 refine wpAny_Assign_Subscript (thn (hv pins s σ H _ I h) fun r s1 ⟨v,H1,I1,rv,q1⟩=>thn (ho pins s1 σ H1 _ I1 q1) fun u s2 ⟨x,H2,I2,rx,q2⟩=>thn (hi pins s2 σ H2 _ I2 q2) fun iv s3 ⟨y,H3,I3,ry,a,H4,ex,g,q3⟩=>?_) hs
 subst ex
 obtain rfl:u=Value.ref a:=rx
 exact znj hu I3 g ry rv fun s4 I4=>⟨σ,H4,I4,q3⟩
end
theorem zp4 {P:Program} {w:World} {H:Hp} (h:Heap) (hb:sysModules<h.objs.size):ObjOk P w H (h.push { cls:=.type "dict",data:=.dict #[] }) h.objs.size (.dK []) :=
 ⟨zy9 _,beq_eq_false_iff_ne.mpr (Ne.symm (zyy hb)),[],.nil,Heap.DictOf.new h⟩
def tDNewK:TE:=fun _ H Q=>∀ p,H p=none->Q (.ref p) (upd H p (.dK []))
section
variable {X:Cx} {pos:Pos}
theorem pe_dnewK:PE X (.Dict [] [] pos) tDNewK:=fun pins s σ H Q I h =>
 wpAny_Dict_empty ⟨.ref s.heap.objs.size,_,I.laid (a:=s.heap.objs.size) (o:=.dK []) (t':=s.toks) (fun _ _ q=>zyb _ q) (zyl _) (zp4 s.heap I.big),rfl,h _ (I.hok.fresh (zyl _))⟩
end
structure M1 (X:Cx) (o:Expr) (m:Str) (apos:Pos) (e:Expr) (cpos:Pos):Prop where
 base:attributeBase o m X.env (eval o X.env)=eval o X.env
 few:((backTo cpos (starEach [e] X.env)).all (fun x=>!x.1)&&(backToKw cpos (keywordEach [] X.env)).all (fun x=>x.1.isSome)
  && decide (([e]:List Expr).length+([]:List Keyword).length+(if ([]:List Keyword).isEmpty then 0 else 1)<30))=true
 line:(apos.endLine==cpos.line)=true
 trees:backTo cpos (starEach [e] X.env)=[(false,eval e X.env)]
structure M2 (X:Cx) (o:Expr) (m:Str) (apos:Pos) (e f:Expr) (cpos:Pos):Prop where
 base:attributeBase o m X.env (eval o X.env)=eval o X.env
 few:((backTo cpos (starEach [e,f] X.env)).all (fun x=>!x.1)&&(backToKw cpos (keywordEach [] X.env)).all (fun x=>x.1.isSome)
  && decide (([e,f]:List Expr).length+([]:List Keyword).length+(if ([]:List Keyword).isEmpty then 0 else 1)<30))=true
 line:(apos.endLine==cpos.line)=true
 trees:backTo cpos (starEach [e,f] X.env)=[(false,eval e X.env),(false,eval f X.env)]
section
variable {X:Cx} {pins:List (Addr × Obj)} {σ:St} {H:Hp} {s:Shared} {a:Addr} {y d:V} {u r:Value} {o:Option V} {A:Around} {E:Value->Shared->Prop}
end
section
variable {X:Cx} {o e f:Expr} {apos cpos:Pos} {td ty tx:TE}
end
section
variable {X:Cx} {pins:List (Addr × Obj)} {σ:St} {H:Hp} {s:Shared} {a:Addr} {kvs:List (Key × V)} {A:Around} {E:Value->Shared->Prop}
end
section
variable {X:Cx} {pins:List (Addr × Obj)} {σ:St} {H:Hp} {s:Shared} {a:Addr} {y:V} {u:Value} {A:Around} {E:Value->Shared->Prop}
end
end L2
namespace L2
open PySem PySem.Spec PyProof.Rows
section
variable {κ:Type} [DecidableEq κ]
end
end L2
end
end
end
noncomputable section
noncomputable section
noncomputable section
namespace Ev
open PySem PySem.Spec PyProof.Rows L2
variable {t1 t2:T} {ts us:List T} {v u:Value} {x y:V} {A:Around} {its jts:List Value}
mutual
theorem zfo:∀ t:T,dpP t t<20000->eqT t t=true
 | .non,_=>rfl
 | .bl b,_=>by cases b<;>rfl
 | .int i,_=>by show (i==i)=true;simp
 | .str x,_=>by show (x==x)=true;simp
 | .tup a,h=>zeb a (Nat.lt_of_succ_lt h)
 | .lst a,h=>zeb a (Nat.lt_of_succ_lt h)
 | .dk _ _,h=>(zy1 20000 h).elim
 | .dt _ _,h=>(zy1 20000 h).elim
theorem zeb:∀ ts:List T,dpPs ts ts<20000->eqTs ts ts=true
 | [],_=>by rw [eqTs]
 | t::ts,h=>by
  rw [dpPs] at h
  rw [eqTs,zfo t (by omega),zeb ts (by omega)];rfl
end
theorem zjm:∀ {xs ys:List T} {j:Nat} {x y:T},xs[j]?=some x->ys[j]?=some y->dpP x y<=dpPs xs ys
 | [],_,_,_,_,h,_=>by simp at h
 | _::_,[],_,_,_,_,h=>by simp at h
 | a::xs,b::ys,0,x,y,h1,h2=>by
  simp at h1 h2
  subst h1 h2
  rw [dpPs];exact Nat.le_max_left _ _
 | a::xs,b::ys,j+1,x,y,h1,h2=>by
  rw [dpPs]
  exact Nat.le_trans (zjm (j:=j) (by simpa using h1) (by simpa using h2)) (Nat.le_max_right _ _)
theorem zc0:∀ xs ys:List T,eqTs xs ys=((List.range (min xs.length ys.length)).all (fun j=>eqT (xs.getD j .non) (ys.getD j .non))&&xs.length==ys.length)
 | [],[]=>by rw [eqTs];rfl
 | [],b::ys=>by simp [eqTs]
 | a::xs,[]=>by simp [eqTs]
 | a::xs,b::ys=>by
  rw [eqTs,zc0 xs ys,zyt,zyt,show min (xs.length+1) (ys.length+1)=min xs.length ys.length+1 from Nat.succ_min_succ _ _,List.range_succ_eq_map,List.all_cons,List.all_map]
  have e:(xs.length+1==ys.length+1)=(xs.length==ys.length):=by
   by_cases h:xs.length=ys.length
   ·simp [h]
   ·simp []
  rw [e,Bool.and_assoc]
  rfl
def bothB:T->T->Bool
 | .non,.non=>false
 | .bl _,.bl _=>false
 | .int _,.int _=>false
 | .str _,.str _=>false
 | _,_=>true
theorem znv (h:bothB t1 t2=true):0<dpP t1 t2:=by
 cases t1 with
 | tup _=>cases t2<;>exact Nat.succ_pos _
 | lst _=>cases t2<;>exact Nat.succ_pos _
 | dk _ _=>exact Nat.succ_pos _
 | dt _ _=>exact Nat.succ_pos _
 | _=>cases t2<;>first | (cases h;done) | exact Nat.succ_pos _
section
variable {X:Cx} {pins:List (Addr × Obj)} {σ:L2.St} {H F:Hp} {s:Shared}
theorem zjn (I:Inv X pins σ H s) {a:Addr} (h:(∃ ws,H a=some (.dK ws))\/∃ ws,H a=some (.dT ws)):∃ o,s.heap.get? a=some o/\o.cls=.type "dict":=by
 rcases h with ⟨ws,h⟩ | ⟨ws,h⟩
 ·obtain ⟨_,_,vs,_,o,es,ep,h1,h2,_⟩:=zp3 I.hok h
  exact ⟨o,h1,h2.1⟩
 ·obtain ⟨_,_,xs,_,o,es,ep,h1,h2,_⟩:=ztz I.hok h
  exact ⟨o,h1,h2.1⟩
theorem zcu (I:Inv X pins σ H s) (fh:Same F H) {v:V} (r:Rep X.K F (.tup ts) v) (ru:RelV v u):∃ a vs its,v=.ref a/\u=.ref a/\Tq X.K F a vs/\Reps X.K F ts vs/\Vals vs its/\s.heap.IsTuple a its.toArray:=by
 obtain ⟨a,vs,rfl,h1,h2⟩:=r
 cases ru
 obtain ⟨its,rv,p,_⟩:=I.tuple (zam fh h1)
 exact ⟨a,vs,its,rfl,rfl,h1,h2,rv,p⟩
theorem zcv (I:Inv X pins σ H s) (fh:Same F H) {v:V} (r:Rep X.K F (.lst ts) v) (ru:RelV v u):∃ a vs its,v=.ref a/\u=.ref a/\Ls X.K F a vs/\Reps X.K F ts vs/\Vals vs its/\s.heap.IsList a its.toArray:=by
 obtain ⟨a,vs,rfl,h1,h2⟩:=r
 cases ru
 obtain ⟨its,rv,p,_⟩:=I.list (Ls.same fh h1).sq
 exact ⟨a,vs,its,rfl,rfl,h1,h2,rv,p.isList⟩
theorem zo2 (h1:RelV x u) (h2:RelV y u):x=y:=by
 cases x with
 | non=>cases h1;cases y<;>first | rfl | (obtain ⟨_,e⟩:=h2;cases e;done) | (cases h2;done)
 | bl _=>cases h1;cases y<;>first | (obtain ⟨_,e⟩:=h2;cases e;done) | (cases h2;done) | (cases h2;rfl)
 | ref _=>cases h1;cases y<;>first | (obtain ⟨_,e⟩:=h2;cases e;done) | (cases h2;done) | (cases h2;rfl)
 | ty _=>cases h1;cases y<;>first | (obtain ⟨_,e⟩:=h2;cases e;done) | (cases h2;done) | (cases h2;rfl)
 | _=>obtain ⟨_,rfl⟩:=h1;cases y<;>first | (obtain ⟨_,e⟩:=h2;cases e;done) | (cases h2;done) | (obtain ⟨_,e⟩:=h2;cases e;rfl)
theorem zu1 {K:PySem.W.Frag} {v:V} (f1:flat t1=true) (f2:flat t2=true) (r1:Rep K F t1 v) (r2:Rep K F t2 v):t1=t2:=by
 cases t1 with
 | non=>cases r1;cases t2<;>first | rfl | (cases f2;done) | cases r2
 | bl _=>cases r1;cases t2<;>first | (cases f2;done) | (cases r2;rfl) | cases r2
 | int _=>cases r1;cases t2<;>first | (cases f2;done) | (cases r2;rfl) | cases r2
 | str _=>cases r1;cases t2<;>first | (cases f2;done) | (cases r2;rfl) | cases r2
 | _=>cases f1
mutual
theorem zhg (I:Inv X pins σ H s) (fh:Same F H):∀ {t1 t2:T} {v:V},dpP t1 t2<20000->Rep X.K F t1 v->Rep X.K F t2 v->t1=t2
 | .non,t2,v,hd,r1,r2=>by
  cases t2 with
  | non=>rfl
  | _=>exact (zy1 20000 hd).elim
 | .bl b,t2,v,hd,r1,r2=>by
  cases t2 with
  | bl c=>cases r1;cases r2;rfl
  | _=>exact (zy1 20000 hd).elim
 | .int b,t2,v,hd,r1,r2=>by
  cases t2 with
  | int c=>cases r1;cases r2;rfl
  | _=>exact (zy1 20000 hd).elim
 | .str b,t2,v,hd,r1,r2=>by
  cases t2 with
  | str c=>cases r1;cases r2;rfl
  | _=>exact (zy1 20000 hd).elim
 | .tup ts,t2,v,hd,r1,r2=>by
  cases t2 with
  | tup us =>
   obtain ⟨a,vs,rfl,h1,h2⟩:=r1
   obtain ⟨b,ws,e,h3,h4⟩:=r2
   cases e
   have:=I.tuple_inj (zam fh h1) (zam fh h3)
   subst this
   rw [ze8 I fh (Nat.lt_of_succ_lt hd) h2 h4]
  | _=>exact (zy1 20000 hd).elim
 | .lst ts,t2,v,hd,r1,r2=>by
  cases t2 with
  | lst us =>
   obtain ⟨a,vs,rfl,h1,h2⟩:=r1
   obtain ⟨b,ws,e,h3,h4⟩:=r2
   cases e
   have:=I.list_inj (Ls.same fh h1).sq (Ls.same fh h3).sq
   subst this
   rw [ze8 I fh (Nat.lt_of_succ_lt hd) h2 h4]
  | _=>exact (zy1 20000 hd).elim
 | .dk _ _,_,_,hd,_,_=>(zy1 20000 hd).elim
 | .dt _ _,_,_,hd,_,_=>(zy1 20000 hd).elim
theorem ze8 (I:Inv X pins σ H s) (fh:Same F H):∀ {ts us:List T} {vs:List V},dpPs ts us<20000->Reps X.K F ts vs->Reps X.K F us vs->ts=us
 | [],us,vs,_,r1,r2=>by
  cases r1
  cases us with
  | nil=>rfl
  | cons _ _=>obtain ⟨_,_,e,_⟩:=r2;cases e
 | t::ts,us,vs,hd,r1,r2=>by
  obtain ⟨v,r,rfl,h1,h2⟩:=r1
  cases us with
  | nil=>cases r2
  | cons u us =>
   obtain ⟨_,_,e,h3,h4⟩:=r2
   cases e
   have hm:max (dpP t u) (dpPs ts us)<20000:=hd
   rw [zhg I fh (Nat.lt_of_le_of_lt (Nat.le_max_left _ _) hm) h1 h3,ze8 I fh (Nat.lt_of_le_of_lt (Nat.le_max_right _ _) hm) h2 h4]
end
theorem zdu {n:Nat} (ih:∀ (t1 t2:T) (x y:V) (v u:Value),dpP t1 t2<=n->Rep X.K F t1 x->Rep X.K F t2 y->RelV x v->RelV y u->SeqAt.EqAt A s v u (eqT t1 t2)) {vs ws:List V} (hd:dpPs ts us<=n)
  (r1:Reps X.K F ts vs) (r2:Reps X.K F us ws) (v1:Vals vs its) (v2:Vals ws jts):∀ j (h1:j<its.toArray.size) (h2:j<jts.toArray.size),SeqAt.EqAt A s its.toArray[j] jts.toArray[j] (eqT (ts.getD j .non) (us.getD j .non)):=by
 intro j h1 h2
 have l1:its.length=ts.length:=by rw [<- v1.length,r1.length]
 have l2:jts.length=us.length:=by rw [<- v2.length,r2.length]
 have h1':j<ts.length:=by rw [zyk] at h1;omega
 have h2':j<us.length:=by rw [zyk] at h2;omega
 have e1:ts[j]?=some ts[j]:=zyi h1'
 have e2:us[j]?=some us[j]:=zyi h2'
 obtain ⟨x,hx,rx⟩:=r1.get e1
 obtain ⟨y,hy,ry⟩:=r2.get e2
 obtain ⟨v,hv,rv⟩:=v1.get hx
 obtain ⟨u,hu,ru⟩:=v2.get hy
 have g1:its.toArray[j]=v:=by
  have:its[j]?=some its.toArray[j]:=by simp
  rw [hv] at this;exact (zy5 this).symm
 have g2:jts.toArray[j]=u:=by
  have:jts[j]?=some jts.toArray[j]:=by simp
  rw [hu] at this;exact (zy5 this).symm
 rw [g1,g2,zyp,zyp,e1,e2]
 exact ih _ _ x y v u (zzn (zjm e1 e2) hd) rx ry rv ru
theorem zih {vs ws:List V} (r1:Reps X.K F ts vs) (r2:Reps X.K F us ws) (v1:Vals vs its) (v2:Vals ws jts):its.toArray.size=ts.length/\jts.toArray.size=us.length:=by
 rw [zyk,zyk,<- v1.length,<- v2.length,r1.length,r2.length];exact ⟨rfl,rfl⟩
theorem zji (h:ts.length=us.length):eqTs ts us=(List.range ts.length).all fun j=>eqT (ts.getD j .non) (us.getD j .non):=by
 rw [zc0,h];simp
theorem zne (h:ts.length≠us.length):eqTs ts us=false:=by
 rw [zc0,show (ts.length==us.length)=false by simpa using h,Bool.and_false]
theorem eq_mix (I:Inv X pins σ H s) (fh:Same F H) (hu:A.units<cLine) (hne:bothB t1 t2≠true) (r1:Rep X.K F t1 x) (r2:Rep X.K F t2 y) (rx:RelV x v) (ry:RelV y u):SeqAt.EqAt A s v u (eqT t1 t2):=by
 have fn:∀ {b c:Bool} {v u:Value},SeqAt.EqAt A s v u b->b=c->SeqAt.EqAt A s v u c:=fun h e=>e▸h
 cases t1 with
 | non =>
  cases t2 with
  | non=>cases r1;cases rx;cases r2;cases ry;exact fn (SeqAt.EqAt.same .none ) (by simp [eqT])
  | _=>exact absurd rfl hne
 | bl a1 =>
  cases t2 with
  | bl a2=>cases r1;cases rx;cases r2;cases ry;exact fn (SeqAt.EqAt.bool_bool a1 a2) (by simp [eqT])
  | _=>exact absurd rfl hne
 | int a1 =>
  cases t2 with
  | int a2=>cases r1;obtain ⟨k1,rfl⟩:=rx;cases r2;obtain ⟨k2,rfl⟩:=ry;exact fn (SeqAt.EqAt.int_int a1 k1 a2 k2) (by simp [eqT])
  | _=>exact absurd rfl hne
 | str a1 =>
  cases t2 with
  | str a2=>cases r1;obtain ⟨k1,rfl⟩:=rx;cases r2;obtain ⟨k2,rfl⟩:=ry;exact fn (SeqAt.EqAt.str_str a1 k1 a2 k2) (by simp [eqT])
  | _=>exact absurd rfl hne
 | _=>exact absurd (by cases t2<;>rfl) hne
theorem zu3 (I:Inv X pins σ H s) (fh:Same F H) (hu:A.units<cLine) (hne:bothB t1 t2≠true) (r1:Rep X.K F t1 x) (r2:Rep X.K F t2 y) (rx:RelV x v) (ry:RelV y u):SeqAt.RcAt A s v u (eqT t1 t2):=by
 have fn:∀ {b c:Bool} {v u:Value},SeqAt.RcAt A s v u b->b=c->SeqAt.RcAt A s v u c:=fun h e=>e▸h
 cases t1 with
 | non =>
  cases t2 with
  | non=>cases r1;cases rx;cases r2;cases ry;exact fn (SeqAt.RcAt.none_none ) (by simp [eqT])
  | _=>exact absurd rfl hne
 | bl a1 =>
  cases t2 with
  | bl a2=>cases r1;cases rx;cases r2;cases ry;exact fn (SeqAt.RcAt.bool_bool a1 a2) (by simp [eqT])
  | _=>exact absurd rfl hne
 | int a1 =>
  cases t2 with
  | int a2=>cases r1;obtain ⟨k1,rfl⟩:=rx;cases r2;obtain ⟨k2,rfl⟩:=ry;exact fn (SeqAt.RcAt.int_int a1 k1 a2 k2) (by simp [eqT])
  | _=>exact absurd rfl hne
 | str a1 =>
  cases t2 with
  | str a2=>cases r1;obtain ⟨k1,rfl⟩:=rx;cases r2;obtain ⟨k2,rfl⟩:=ry;exact fn (SeqAt.RcAt.str_str a1 k1 a2 k2) (by simp [eqT])
  | _=>exact absurd rfl hne
 | _=>exact absurd (by cases t2<;>rfl) hne
theorem zwc (I:Inv X pins σ H s) (fh:Same F H) (hu:A.units<cLine) (hne:bothB t1 t2≠true) (r1:Rep X.K F t1 x) (r2:Rep X.K F t2 y) (rx:RelV x v) (ry:RelV y u):SeqAt.RcNeAt A s v u (!eqT t1 t2):=by
 have fn:∀ {b c:Bool} {v u:Value},SeqAt.RcNeAt A s v u b->b=c->SeqAt.RcNeAt A s v u c:=fun h e=>e▸h
 cases t1 with
 | non =>
  cases t2 with
  | non=>cases r1;cases rx;cases r2;cases ry;exact fn (SeqAt.RcNeAt.none_none ) (by simp [eqT])
  | _=>exact absurd rfl hne
 | bl a1 =>
  cases t2 with
  | bl a2=>cases r1;cases rx;cases r2;cases ry;exact fn (SeqAt.RcNeAt.bool_bool a1 a2) (by simp [eqT])
  | _=>exact absurd rfl hne
 | int a1 =>
  cases t2 with
  | int a2=>cases r1;obtain ⟨k1,rfl⟩:=rx;cases r2;obtain ⟨k2,rfl⟩:=ry;exact fn (SeqAt.RcNeAt.int_int a1 k1 a2 k2) (by simp [eqT])
  | _=>exact absurd rfl hne
 | str a1 =>
  cases t2 with
  | str a2=>cases r1;obtain ⟨k1,rfl⟩:=rx;cases r2;obtain ⟨k2,rfl⟩:=ry;exact fn (SeqAt.RcNeAt.str_str a1 k1 a2 k2) (by simp [eqT])
  | _=>exact absurd rfl hne
 | _=>exact absurd (by cases t2<;>rfl) hne
theorem zww (I:Inv X pins σ H s) (fh:Same F H):∀ (n:Nat) (A:Around) (t1 t2:T) (x y:V) (v u:Value),A.units+n<cLine->dpP t1 t2<=n->Rep X.K F t1 x->Rep X.K F t2 y->RelV x v->RelV y u->SeqAt.EqAt A s v u (eqT t1 t2):=by
 intro n
 induction n with
 | zero =>
  intro A t1 t2 x y v u hA hd r1 r2 rx ry
  refine eq_mix I fh hA ?_ r1 r2 rx ry
  exact fun h=>absurd (znv h) (Nat.not_lt.mpr hd)
 | succ n ih =>
  intro A t1 t2 x y v u hA hd r1 r2 rx ry
  have hu:A.units<cLine:=by omega
  have ih':=fun (t1 t2:T) (x y:V) (v u:Value) h=>ih A.in1 t1 t2 x y v u (show A.units+1+n<cLine by omega) h
  have far:¬ 20000<=n+1:=by have:cLine=9900:=rfl;omega
  by_cases hb:bothB t1 t2=true
  ·cases t1 with
   | tup ts =>
    cases t2 with
    | tup us =>
     replace hd:dpPs ts us+1<=n+1:=hd
     by_cases hs:v=u
     ·subst hs
      have e:x=y:=by
       obtain ⟨_,_,rfl,_⟩:=r1;obtain ⟨_,_,rfl,_⟩:=r2;cases rx;cases ry;rfl
      subst e
      have e:=zhg I fh (t1:=.tup ts) (t2:=.tup us) (show dpPs ts us+1<20000 by have:cLine=9900:=rfl;omega) r1 r2
      cases e
      rw [zfo (.tup ts) (show dpPs ts ts+1<20000 by have:cLine=9900:=rfl;omega)]
      exact .same v
     ·obtain ⟨l1,vs1,its1,rfl,rfl,_,q1,w1,p1⟩:=zcu I fh r1 rx
      obtain ⟨l2,vs2,its2,rfl,rfl,_,q2,w2,p2⟩:=zcu I fh r2 ry
      have h:=SeqAt.RcAt.tuples p1 p2 hu (zdu (fun t1 t2 x y v u h a b c d=>ih' t1 t2 x y v u h a b c d) (Nat.le_of_succ_le_succ hd) q1 q2 w1 w2)
      obtain ⟨z1,z2⟩:=zih q1 q2 w1 w2
      rw [z1,z2,<- zc0] at h
      exact .of_refs (fun e=>hs (by rw [e])) h
    | _=>exact absurd hd far
   | lst ts =>
    cases t2 with
    | lst us =>
     replace hd:dpPs ts us+1<=n+1:=hd
     by_cases hs:v=u
     ·subst hs
      have e:x=y:=by
       obtain ⟨_,_,rfl,_⟩:=r1;obtain ⟨_,_,rfl,_⟩:=r2;cases rx;cases ry;rfl
      subst e
      have e:=zhg I fh (t1:=.lst ts) (t2:=.lst us) (show dpPs ts us+1<20000 by have:cLine=9900:=rfl;omega) r1 r2
      cases e
      rw [zfo (.lst ts) (show dpPs ts ts+1<20000 by have:cLine=9900:=rfl;omega)]
      exact .same v
     ·obtain ⟨l1,vs1,its1,rfl,rfl,_,q1,w1,p1⟩:=zcv I fh r1 rx
      obtain ⟨l2,vs2,its2,rfl,rfl,_,q2,w2,p2⟩:=zcv I fh r2 ry
      obtain ⟨z1,z2⟩:=zih q1 q2 w1 w2
      rw [show eqT (.lst ts) (.lst us)=eqTs ts us from rfl]
      refine .of_refs (fun e=>hs (by rw [e])) ?_
      by_cases hl:ts.length=us.length
      ·have h:=SeqAt.RcAt.lists p1 p2 (by rw [z1,z2,hl]) hu (zdu (fun t1 t2 x y v u h a b c d=>ih' t1 t2 x y v u h a b c d) (Nat.le_of_succ_le_succ hd) q1 q2 w1 w2)
       rw [z1] at h
       rw [zji hl];exact h
      ·rw [zne hl]
       exact SeqAt.RcAt.lists_lengths p1 p2 (by rw [z1,z2];simpa using hl) hu
    | _=>exact absurd hd far
   | dk _ _=>exact absurd hd far
   | dt _ _=>exact absurd hd far
   | _=>cases t2<;>first | (cases hb;done) | exact absurd hd far
  ·exact eq_mix I fh hu hb r1 r2 rx ry
theorem zu4 (I:Inv X pins σ H s) (fh:Same F H) {n:Nat} (hA:A.units+n<cLine) (hd:dpP t1 t2<=n) (r1:Rep X.K F t1 x) (r2:Rep X.K F t2 y) (rx:RelV x v) (ry:RelV y u):SeqAt.RcAt A s v u (eqT t1 t2)/\SeqAt.RcNeAt A s v u (!eqT t1 t2):=by
 have hu:A.units<cLine:=by omega
 have far:¬ 20000<=n:=by have:cLine=9900:=rfl;omega
 by_cases hb:bothB t1 t2=true
 ·cases n with
  | zero =>
   exact absurd (znv hb) (Nat.not_lt.mpr hd)
  | succ n =>
   have ih':=fun (t1 t2:T) (x y:V) (v u:Value) h=>zww I fh n A.in1 t1 t2 x y v u (show A.units+1+n<cLine by omega) h
   cases t1 with
   | tup ts =>
    cases t2 with
    | tup us =>
     replace hd:dpPs ts us+1<=n+1:=hd
     obtain ⟨l1,vs1,its1,rfl,rfl,_,q1,w1,p1⟩:=zcu I fh r1 rx
     obtain ⟨l2,vs2,its2,rfl,rfl,_,q2,w2,p2⟩:=zcu I fh r2 ry
     have pa:=zdu (fun t1 t2 x y v u h a b c d=>ih' t1 t2 x y v u h a b c d) (Nat.le_of_succ_le_succ hd) q1 q2 w1 w2
     have h:=SeqAt.RcAt.tuples p1 p2 hu pa
     have g:=SeqAt.RcNeAt.tuples p1 p2 hu pa
     obtain ⟨z1,z2⟩:=zih q1 q2 w1 w2
     rw [z1,z2,<- zc0] at h g
     exact ⟨h,g⟩
    | _=>exact absurd hd far
   | lst ts =>
    cases t2 with
    | lst us =>
     replace hd:dpPs ts us+1<=n+1:=hd
     obtain ⟨l1,vs1,its1,rfl,rfl,_,q1,w1,p1⟩:=zcv I fh r1 rx
     obtain ⟨l2,vs2,its2,rfl,rfl,_,q2,w2,p2⟩:=zcv I fh r2 ry
     obtain ⟨z1,z2⟩:=zih q1 q2 w1 w2
     rw [show eqT (.lst ts) (.lst us)=eqTs ts us from rfl]
     by_cases hl:ts.length=us.length
     ·have pa:=zdu (fun t1 t2 x y v u h a b c d=>ih' t1 t2 x y v u h a b c d) (Nat.le_of_succ_le_succ hd) q1 q2 w1 w2
      have h:=SeqAt.RcAt.lists p1 p2 (by rw [z1,z2,hl]) hu pa
      have g:=SeqAt.RcNeAt.lists p1 p2 (by rw [z1,z2,hl]) hu pa
      rw [z1] at h g
      rw [zji hl];exact ⟨h,g⟩
     ·rw [zne hl]
      exact ⟨SeqAt.RcAt.lists_lengths p1 p2 (by rw [z1,z2];simpa using hl) hu,SeqAt.RcNeAt.lists_lengths p1 p2 (by rw [z1,z2];simpa using hl) hu⟩
    | _=>exact absurd hd far
   | dk _ _=>exact absurd hd far
   | dt _ _=>exact absurd hd far
   | _=>cases t2<;>first | (cases hb;done) | exact absurd hd far
 ·exact ⟨zu3 I fh hu hb r1 r2 rx ry,zwc I fh hu hb r1 r2 rx ry⟩
end
end Ev
end
end
end
noncomputable section
noncomputable section
noncomputable section
namespace Ev
open PySem PyProof.Rows L2
section
open PySem.SeqAt
open PySem.AutoSeq1 (wpAny_loadPart')
open PySem.MeetsSeq PySem.MeetsSeq2 PySem.MeetsSeq3
theorem zp2 (A:Around) (s:Shared):∀ {x y:Key} {v u:Value},RelV (kV x) v->RelV (kV y) u->kSame x y=true->∃ e,SeqAt.EqAt A s v u e/\(e=true↔x=y)
 | .inl a,.inl c,_,_,⟨t,hv⟩,⟨t',hu⟩,_=>by
  subst hv hu
  exact ⟨(a==c),SeqAt.EqAt.int_int a t c t',by simp⟩
 | .inr (some a),.inr (some c),_,_,⟨t,hv⟩,⟨t',hu⟩,_=>by
  subst hv hu
  exact ⟨(a==c),SeqAt.EqAt.str_str a t c t',by simp⟩
 | .inl _,.inr none,_,_,_,_,h=>by cases h
 | .inl _,.inr (some _),_,_,_,_,h=>by cases h
 | .inr none,_,_,_,_,_,h=>by cases h
 | .inr (some _),.inl _,_,_,_,_,h=>by cases h
 | .inr (some _),.inr none,_,_,_,_,h=>by cases h
theorem zo3 (A:Around) (s:Shared) (prog:Program) (w:World) (E:Value->Shared->Prop) (Q:Value->Shared->Prop):∀ {x y:Key} {v u:Value},RelV (kV x) v->RelV (kV y) u->kSame x y=true->Q (.bool (kLt x y)) s->wpAny (model prog w) A (richCompare .Lt v u) Q E s
 | .inl a,.inl c,_,_,⟨t,hv⟩,⟨t',hu⟩,_,h=>by
  subst hv hu
  exact (PyProof.Rows.lt_int h:wpAny (model prog w) A (compareOp .Lt (.int a t) (.int c t')) Q E s)
 | .inr (some a),.inr (some c),_,_,⟨t,hv⟩,⟨t',hu⟩,_,h=>by
  subst hv hu
  exact (PySem.P.lt_str h:wpAny (model prog w) A (compareOp .Lt (.str a t) (.str c t')) Q E s)
 | .inl _,.inr none,_,_,_,_,h,_=>by cases h
 | .inl _,.inr (some _),_,_,_,_,h,_=>by cases h
 | .inr none,_,_,_,_,_,h,_=>by cases h
 | .inr (some _),.inl _,_,_,_,_,h,_=>by cases h
 | .inr (some _),.inr none,_,_,_,_,h,_=>by cases h
theorem ze3 (l b:Addr) (items items2:Array Value) (n n2:Nat) (dd dd2:Option Addr) (sl sl2:Array (Option Value)) (ns ms:List Key) (hi:Vals (ns.map kV) items.toList) (hj:Vals (ms.map kV) items2.toList) (ha:alike ns ms=true) :
  Meets (Builtin.«tuple.__lt__» ⟨[.ref l,.ref b],[]⟩)
   (fun _ R s=>s.heap.get? l=some { cls:=.type "tuple",dict:=dd,data:=.seq items n,slots:=sl }/\s.heap.get? b=some { cls:=.type "tuple",dict:=dd2,data:=.seq items2 n2,slots:=sl2 } /\
    R (.ok (.ret (.bool (lexL ns ms)))) s) :=
 .of_wp fun prog w A R s h=>by
  obtain ⟨hp,g,d,tk,os⟩:=s;obtain ⟨hl,hb,h⟩:=h
  have f2:=AutoSeq1.sub_tuple_tuple
  have z0:ns.length=ms.length:=by
   clear h hi hj
   induction ns generalizing ms with
   | nil=>cases ms with | nil=>rfl | cons=>cases ha
   | cons x ns ih=>cases ms with
    | nil=>cases ha
    | cons y ms=>rw [alike,Bool.and_eq_true] at ha;simp [ih ms ha.2]
  have z1:items.size=ns.length:=by have:=Paired.length hi;simpa using this.symm
  have z2:items2.size=ms.length:=by have:=Paired.length hj;simpa using this.symm
  wp_walk using wpAny_loadPart' hl,wpAny_loadPart' hb,wpAny_forIn_list _ (fun rest b s'=>b.1=none/\s'=⟨hp,g,d,tk,os⟩/\∃ (vs ws:List Value) (ns' ms':List Key),rest=vs.zip ws /\
   Vals (ns'.map kV) vs/\Vals (ms'.map kV) ws/\alike ns' ms'=true/\R (.ok (.ret (.bool (lexL ns' ms')))) ⟨hp,g,d,tk,os⟩) _
  case turn =>
   rintro ⟨y,x⟩ rest b s' ⟨hb',rfl,vs,ws,ns',ms',hz,hvi,hwi,hal,hR⟩
   match ns',ms',hvi,hwi,hal,hR with
   | [],[],hvi,hwi,_,_=>cases hvi;cases hz
   | [],_::_,_,_,hal,_=>cases hal
   | _::_,[],_,_,hal,_=>cases hal
   | a::ns',c::ms',hvi,hwi,hal,hR =>
    rw [zyh] at hvi hwi
    cases hvi with
    | cons ra hvi' =>
     cases hwi with
     | cons rc hwi' =>
      rw [List.zip_cons_cons] at hz
      injection hz with hyx hrest
      injection hyx with hy hx
      subst hy hx
      rw [alike,zyd] at hal
      rw [lexL] at hR
      obtain ⟨e,he,hiff⟩:=zp2 A.in1 ⟨hp,g,d,tk,os⟩ ra rc hal.1
      refine zyc (he prog w _ _ ?_)
      cases e with
      | true =>
       rw [if_pos (hiff.mp rfl)] at hR
       wp_walk
       exact ⟨rfl,rfl,_,_,_,_,hrest,hvi',hwi',hal.2,hR⟩
      | false =>
       rw [if_neg (fun q=>absurd (hiff.mpr q) zyz)] at hR
       have hri:=fun E Q h=>zo3 A.in1 ⟨hp,g,d,tk,os⟩ prog w E Q ra rc hal.1 h
       wp_walk using hri
       exact ⟨_,rfl,by simpa using hR⟩
  case fin =>
   rintro ⟨b1,b2⟩ s' ⟨hb',rfl,vs,ws,ns',ms',hz,hvi,hwi,hal,hR⟩
   simp only at hb'
   subst hb'
   have hv:lexL ns' ms'=decide (items.size<items2.size):=by
    rw [z1,z2,z0]
    match ns',ms',hvi,hwi,hal with
    | [],[],_,_,_=>simp [lexL]
    | [],_::_,_,_,hal=>cases hal
    | _::_,[],_,_,hal=>cases hal
    | a::ns',c::ms',hvi,hwi,hal =>
     cases hvi;cases hwi;cases hz
   rw [hv] at hR
   wp_walk
   exact ⟨_,rfl,by simpa [Builtin.Tuple.tupleCompareSizes] using hR⟩
  case h =>
   exact ⟨rfl,rfl,items.toList,items2.toList,ns,ms,rfl,hi,hj,ha,h⟩
end
section
variable {prog:Program} {w:World} {A:Around} {E:Value->Shared->Prop} {s:Shared}
theorem zke {l b:Addr} {items items2:Array Value} {ns ms:List Key} {Q:Value->Shared->Prop} (hl:IsTup s.heap l items) (hb:IsTup s.heap b items2) (hi:Vals (ns.map kV) items.toList) (hj:Vals (ms.map kV) items2.toList) (ha:alike ns ms=true)
  (hu:A.units<cLine) (h:Q (.bool (lexL ns ms)) s):wpAny (model prog w) A (compareOp .Lt (.ref l) (.ref b)) Q E s:=by
 obtain ⟨⟨cls,dd,data,sl⟩,ho,hc,n,hd⟩:=id hl
 obtain ⟨⟨cls2,dd2,data2,sl2⟩,ho2,hc2,n2,hd2⟩:=id hb
 simp only at hc hd hc2 hd2
 subst hc hd hc2 hd2
 exact richCompare_meets_room (op:=.Lt) ⟨_,ho,rfl⟩ ⟨_,ho2,rfl⟩ PySem.F.slot_tuple_lt PySem.F.entry_tuple_lt (PySem.F.args_tuple_lt_2 _ _) (ze3 l b items items2 n n2 dd dd2 sl sl2 ns ms hi hj ha)
  ⟨ho,ho2,show Value.bool (lexL ns ms)≠Value.notImplemented/\Q (.bool (lexL ns ms)) s from ⟨(fun x=>nomatch x),h⟩⟩ hu
end
end Ev
end
end
end
noncomputable section
noncomputable section
noncomputable section
namespace Ev
open PySem PySem.Spec PyProof.Rows L2
variable {pins:List (Addr × Obj)} {σ:L2.St} {s:Shared} {K:PySem.W.Frag} {F:Hp} {t:T}
section
variable {X:Cx}
theorem zhh {H:Hp} {a:Addr} {xs:List V} (I:Inv X pins σ H s) (h:Ls X.K H a xs):∃ its:List Value,Vals xs its/\s.heap.IsList a its.toArray/\xs.length<=sizeLine:=by
 have q:SqL X.K H a xs:=h.sq
 obtain ⟨its,r,p,z⟩:=I.list q
 exact ⟨its,r,p.isList,z⟩
def vOf:T->V
 | .non=>.non
 | .bl b=>.bl b
 | .int i=>.int i
 | .str x=>.str x
 | _=>.non
theorem zit {v:V} (h:Rep K F t v) (f:flat t=true):v=vOf t:=by
 cases t with
 | tup _=>cases f
 | lst _=>cases f
 | dk _ _=>cases f
 | dt _ _=>cases f
 | _=>exact h
theorem znb (f:flat t=true):flatV (vOf t)=true:=by cases t<;>first | rfl | cases f
theorem zya {u:T} (f:flat t=true) (g:flat u=true):eqV (vOf t) (vOf u)=eqT t u:=by
 cases t<;>cases u<;>first | (exact absurd f Bool.false_ne_true) | (exact absurd g Bool.false_ne_true) | rfl | simp [vOf,eqV,eqT]
theorem zq1 (hu:X.A.units+100<cLine):OpS X (compareOp .Eq) eqC:=by
 intro pins s σ H x y v u Q I rx ry h
 obtain ⟨F,t1,t2,t,fh,r1,r2,ht,q⟩:=h
 simp only [eqC] at ht
 split at ht
 ·rename_i hd
  cases ht
  exact (zu4 I fh (n:=30) (by omega) hd r1 r2 rx ry).1 _ _ _ _ ⟨.bl _,H,I,rfl,q _ F H (Step.refl fh) rfl⟩
 ·cases ht
theorem zqx (hu:X.A.units+100<cLine):OpS X (compareOp .NotEq) neC:=by
 intro pins s σ H x y v u Q I rx ry h
 obtain ⟨F,t1,t2,t,fh,r1,r2,ht,q⟩:=h
 simp only [neC] at ht
 split at ht
 ·rename_i hd
  cases ht
  exact (zu4 I fh (n:=30) (by omega) hd r1 r2 rx ry).2 _ _ _ _ ⟨.bl _,H,I,rfl,q _ F H (Step.refl fh) rfl⟩
 ·cases ht
theorem zjc {v:V} {k:Kt} (r:Rep K F t v) (h:keyO t=some k):v=kV k:=by
 cases t<;>first | (cases h;exact r) | cases h
theorem zb3 {K:PySem.W.Frag} {F:Hp}:∀ {ts:List T} {vs:List V} {ks:List Kt},Reps K F ts vs->keysO ts=some ks->vs=ks.map kV
 | [],_,_,r,h=>by cases r;cases h;rfl
 | t::ts,_,_,r,h=>by
  obtain ⟨v,vr,rfl,r1,r2⟩:=r
  obtain ⟨k,h1,h⟩:=obs h
  obtain ⟨ks,h2,h⟩:=obs h
  cases h
  rw [zjc r1 h1,zb3 r2 h2];rfl
theorem zqy (hu:X.A.units+100<cLine):OpS X (compareOp .Lt) ltC:=by
 intro pins s σ H x y v u Q I rx ry h
 obtain ⟨F,t1,t2,t,fh,r1,r2,ht,q⟩:=h
 cases t1 with
 | tup xs =>
  cases t2 with
  | tup ys =>
   replace ht:((keysO xs).bind fun k=>(keysO ys).bind fun l=>if alike k l=true then some (.bl (lexL k l)) else none)=some t:=ht
   obtain ⟨k,h1,ht⟩:=obs ht
   obtain ⟨l,h2,ht⟩:=obs ht
   split at ht
   ·rename_i ha
    cases ht
    obtain ⟨a,ws,rfl,g1,g2⟩:=r1
    obtain ⟨b,us,rfl,g3,g4⟩:=r2
    cases rx
    cases ry
    have e1:=zb3 g2 h1
    have e2:=zb3 g4 h2
    subst e1 e2
    obtain ⟨its,rv,p1,_⟩:=I.tuple (zam fh g1)
    obtain ⟨its2,rv2,p2,_⟩:=I.tuple (zam fh g3)
    exact zke p1 p2 rv rv2 ha (by omega) ⟨.bl _,H,I,rfl,q _ F H (Step.refl fh) rfl⟩
   ·cases ht
  | _=>cases ht
 | int i =>
  cases t2 with
  | int j =>
   cases ht;cases r1;cases r2
   exact zxx pins s σ H _ _ v u Q I rx ry ⟨_,_,rfl,rfl,q _ F H (Step.refl fh) rfl⟩
  | _=>cases ht
 | _=>cases ht
theorem zqz:OpS X (compareOp .LtE) leC:=by
 intro pins s σ H x y v u Q I rx ry h
 obtain ⟨F,t1,t2,t,fh,r1,r2,ht,q⟩:=h
 cases t1<;>cases t2<;>simp only [leC] at ht<;>cases ht<;>cases r1<;>cases r2
 ·exact zxy pins s σ H _ _ v u Q I rx ry ⟨_,_,rfl,rfl,q _ F H (Step.refl fh) rfl⟩
theorem zq0:OpS X (compareOp .Gt) (cmpT .gt):=by
 intro pins s σ H x y v u Q I rx ry h
 obtain ⟨F,t1,t2,t,fh,r1,r2,ht,q⟩:=h
 cases t1<;>cases t2<;>simp only [cmpT] at ht<;>cases ht
 cases r1;cases r2
 exact zxz pins s σ H _ _ v u Q I rx ry ⟨_,_,rfl,rfl,q _ F H (Step.refl fh) rfl⟩
theorem zf7 {K:PySem.W.Frag} {F:Hp}:∀ {ts:List T} {vs:List V},Reps K F ts vs->ts.all flat=true->vs=ts.map vOf
 | [],_,h,_=>h
 | t::ts,_,h,f=>by
  obtain ⟨v,r,rfl,h1,h2⟩:=h
  rw [List.all_cons,zyd] at f
  rw [zyh,zit h1 f.1,zf7 h2 f.2]
theorem zn7 {ts:List T} (g:ts.all flat=true):(ts.map vOf).all flatV=true:=by
 induction ts with
 | nil=>rfl
 | cons t ts ih =>
  rw [List.all_cons,zyd] at g
  rw [zyh,List.all_cons,znb g.1,ih g.2]
  rfl
theorem zje {H:Hp} (I:Inv X pins σ H s) (fh:Same F H) {A:Around} (hA:A.units+30<cLine) {t1:T} {x:V} {v:Value} (r1:Rep X.K F t1 x) (rx:RelV x v):∀ {ts:List T} {vs:List V} {us:List Value},dpI t1 ts=true->Reps X.K F ts vs->Vals vs us ->
  ∃ e:Value->Bool,(∀ w∈us,SeqAt.EqAt A s w v (e w))/\us.any e=ts.any fun z=>eqT z t1:=by
 classical
 intro ts vs us hd r rv
 have one:∀ {ts:List T} {vs:List V} {us:List Value},dpI t1 ts=true->Reps X.K F ts vs->Vals vs us->∀ w∈us,∃ t∈ts,SeqAt.EqAt A s w v (eqT t t1)/\flat t=true/\∃ y,Rep X.K F t y/\RelV y w:=by
  intro ts
  induction ts with
  | nil=>intro vs us _ r rv w hw;cases r;cases rv;cases hw
  | cons t ts ih =>
   intro vs us hd r rv w hw
   obtain ⟨y,vr,rfl,r2,r3⟩:=r
   cases rv with
   | cons a b =>
    unfold dpI at hd
    rw [List.all_cons,zyd,zyd,zyr] at hd
    rcases omc hw with rfl | hw
    ·exact ⟨t,zys,zww I fh 30 A _ _ _ _ _ _ hA hd.1.2 r2 r1 a rx,hd.1.1,_,r2,a⟩
    ·obtain ⟨t',h1,h2⟩:=ih hd.2 r3 b w hw
     exact ⟨t',zyn _ h1,h2⟩
 obtain ⟨e,he⟩:∃ e:Value->Bool,∀ w t y,flat t=true->Rep X.K F t y->RelV y w->e w=eqT t t1:=by
  refine ⟨fun w=>if h:∃ t,(flat t=true/\∃ y,Rep X.K F t y/\RelV y w) then eqT (Classical.choose h) t1 else false,fun w t y hf h3 h4=>?_⟩
  have h:∃ t,(flat t=true/\∃ y,Rep X.K F t y/\RelV y w):=⟨t,hf,y,h3,h4⟩
  obtain ⟨hf',y',h5,h6⟩:=Classical.choose_spec h
  have e:y=y':=zo2 h4 h6
  subst e
  simp only [dif_pos h]
  rw [<- zu1 hf hf' h3 h5]
 refine ⟨e,fun w hw=>?_,?_⟩
 ·obtain ⟨t,_,h2,hf,y,h3,h4⟩:=one hd r rv w hw
  rw [he w t y hf h3 h4]
  exact h2
 ·clear one
  induction ts generalizing vs us with
  | nil=>cases r;cases rv;rfl
  | cons t ts ih =>
   obtain ⟨y,vr,rfl,r2,r3⟩:=r
   cases rv with
   | cons a b =>
    unfold dpI at hd
    rw [List.all_cons,zyd,zyd] at hd
    rw [List.any_cons,List.any_cons,ih hd.2 r3 b,he _ t y hd.1.1 r2 a]
theorem zra (hu:X.A.units+100<cLine) {H:Hp} {t1 t2:T} {x y:V} {v u:Value} {b:Bool} (I:Inv X pins σ H s) (fh:Same F H) (r1:Rep X.K F t1 x) (r2:Rep X.K F t2 y) (rx:RelV x v) (ry:RelV y u) (h:inC t1 t2=some b) (hne:∀ z,t2≠.str z) {Q:Bool->Shared->Prop} (q:Q b s) {Q2:Value->Shared->Prop} :
  ((∀ b,Q b s->Q2 (.bool b) s)->wpAny (model X.prog X.w) X.A (compareOp .In v u) Q2 X.xe s)/\((∀ b,Q b s->Q2 (.bool (!b)) s)->wpAny (model X.prog X.w) X.A (compareOp .NotIn v u) Q2 X.xe s):=by
 cases t2 with
 | tup ts =>
  simp only [inC] at h
  split at h
  ·rename_i hd
   cases h
   obtain ⟨a,vs,its,rfl,rfl,_,q1,w1,p1⟩:=zcu I fh r2 ry
   obtain ⟨e,e1,e2⟩:=zje I fh (A:=X.A.in1) (show X.A.units+1+30<cLine by omega) r1 rx hd q1 w1
   have e3:its.toArray.any e=ts.any fun z=>eqT z t1:=by rw [<- e2];simp
   exact ⟨fun k=>SeqAt.in_tupleAt e p1 (fun w hw=>e1 w (by simpa using hw)) (by rw [e3];exact k _ q),fun k=>SeqAt.notIn_tupleAt e p1 (fun w hw=>e1 w (by simpa using hw)) (by rw [e3];exact k _ q)⟩
  ·cases h
 | lst ts =>
  simp only [inC] at h
  split at h
  ·rename_i hd
   cases h
   obtain ⟨a,vs,its,rfl,rfl,_,q1,w1,p1⟩:=zcv I fh r2 ry
   obtain ⟨e,e1,e2⟩:=zje I fh (A:=X.A.in1) (show X.A.units+1+30<cLine by omega) r1 rx hd q1 w1
   have e3:its.toArray.any e=ts.any fun z=>eqT z t1:=by rw [<- e2];simp
   exact ⟨fun k=>SeqAt.in_listAt e p1 (fun w hw=>e1 w (by simpa using hw)) (by rw [e3];exact k _ q),fun k=>SeqAt.notIn_listAt e p1 (fun w hw=>e1 w (by simpa using hw)) (by rw [e3];exact k _ q)⟩
  ·cases h
 | str z=>exact absurd rfl (hne z)
 | _=>cases h
theorem ops_in (hu:X.A.units+100<cLine):OpS X (compareOp .In) (cmpT .isin):=by
 intro pins s σ H x y v u Q I rx ry h
 obtain ⟨F,t1,t2,t,fh,r1,r2,ht,q⟩:=h
 simp only [cmpT] at ht
 obtain ⟨b,hb,rfl⟩:=oms ht
 by_cases hs:∃ z,t2=.str z
 ·obtain ⟨z,rfl⟩:=hs
  cases t1 with
  | str w =>
   cases r1
   cases r2
   cases hb
   exact zma pins s σ H _ _ v u Q I rx ry ⟨w,z,rfl,rfl,q _ F H (Step.refl fh) rfl⟩
  | _=>cases hb
 exact (zra hu I fh r1 r2 rx ry hb (fun z e=>hs ⟨z,e⟩) (Q:=fun b _=>Q (.bl b) H) (q _ F H (Step.refl fh) rfl)).1 fun b k=>⟨.bl b,H,I,rfl,k⟩
theorem ops_notin (hu:X.A.units+100<cLine):OpS X (compareOp .NotIn) (cmpT .notin):=by
 intro pins s σ H x y v u Q I rx ry h
 obtain ⟨F,t1,t2,t,fh,r1,r2,ht,q⟩:=h
 simp only [cmpT] at ht
 obtain ⟨b,hb,rfl⟩:=oms ht
 by_cases hs:∃ z,t2=.str z
 ·obtain ⟨z,rfl⟩:=hs
  cases t1 with
  | str w =>
   cases r1
   cases r2
   cases hb
   exact zga pins s σ H _ _ v u Q I rx ry ⟨w,z,rfl,rfl,q _ F H (Step.refl fh) rfl⟩
  | _=>cases hb
 exact (zra hu I fh r1 r2 rx ry hb (fun z e=>hs ⟨z,e⟩) (Q:=fun b _=>Q (.bl (!b)) H) (q _ F H (Step.refl fh) rfl)).2 fun b k=>⟨.bl (!b),H,I,rfl,k⟩
theorem zsz:OpS X (compareOp .Is) (cmpT .isN):=by
 intro pins s σ H x y v u Q I rx ry h
 obtain ⟨F,t1,t2,t,fh,r1,r2,ht,q⟩:=h
 have e2:t2=.non:=by cases t2<;>first | rfl | (cases t1<;>simp [cmpT] at ht)
 subst e2
 cases r2
 have e:t=.bl (decide (x=.non)):=by
  cases t1 with
  | non=>cases r1;cases ht;simp
  | bl _=>cases r1;cases ht;simp
  | int _=>cases r1;cases ht;simp
  | str _=>cases r1;cases ht;simp
  | tup _=>obtain ⟨a,vs,rfl,_⟩:=r1;cases ht;simp
  | lst _=>obtain ⟨a,vs,rfl,_⟩:=r1;cases ht;simp
  | dk _ _=>obtain ⟨a,vs,rfl,_⟩:=r1;cases ht;simp
  | dt _ _=>obtain ⟨a,vs,rfl,_⟩:=r1;cases ht;simp
 subst e
 exact zvv pins s σ H _ _ v u Q I rx ry ⟨rfl,q _ F H (Step.refl fh) rfl⟩
theorem zpg:OpS X (compareOp .IsNot) (cmpT .notN):=by
 intro pins s σ H x y v u Q I rx ry h
 obtain ⟨F,t1,t2,t,fh,r1,r2,ht,q⟩:=h
 have e2:t2=.non:=by cases t2<;>first | rfl | (cases t1<;>simp [cmpT] at ht)
 subst e2
 cases r2
 have e:t=.bl (!decide (x=.non)):=by
  cases t1 with
  | non=>cases r1;cases ht;simp
  | bl _=>cases r1;cases ht;simp
  | int _=>cases r1;cases ht;simp
  | str _=>cases r1;cases ht;simp
  | tup _=>obtain ⟨a,vs,rfl,_⟩:=r1;cases ht;simp
  | lst _=>obtain ⟨a,vs,rfl,_⟩:=r1;cases ht;simp
  | dk _ _=>obtain ⟨a,vs,rfl,_⟩:=r1;cases ht;simp
  | dt _ _=>obtain ⟨a,vs,rfl,_⟩:=r1;cases ht;simp
 subst e
 exact zs1 pins s σ H _ _ v u Q I rx ry ⟨rfl,q _ F H (Step.refl fh) rfl⟩
theorem zq2 (hu:X.A.units+100<cLine) {op:CmpOp} {e:Expr} {o:Co} (h:coOf op e=some o):OpS X (compareOp op) (cmpT o)/\behindInMarks op e=false:=by
 cases op with
 | Eq=>cases h;exact ⟨zq1 hu,nomark _⟩
 | NotEq=>cases h;exact ⟨zqx hu,nomark _⟩
 | Lt=>cases h;exact ⟨zqy hu,nomark _⟩
 | LtE=>cases h;exact ⟨zqz,nomark _⟩
 | Gt=>cases h;exact ⟨zq0,nomark _⟩
 | GtE=>cases h
 | Is =>
  simp only [coOf] at h
  split at h
  ·cases h;exact ⟨zsz,nomark _⟩
  ·cases h
 | IsNot =>
  simp only [coOf] at h
  split at h
  ·cases h;exact ⟨zpg,nomark _⟩
  ·cases h
 | In =>
  simp only [coOf] at h
  split at h
  ·cases h
  ·rename_i hb;cases h;exact ⟨ops_in hu,by simpa using hb⟩
 | NotIn =>
  simp only [coOf] at h
  split at h
  ·cases h
  ·rename_i hb;cases h;exact ⟨ops_notin hu,by simpa using hb⟩
theorem zvt {op:Operator} {o:Bo} (h:boOf op=some o):OpS X (binaryOp op) (binT o):=by
 cases op<;>simp only [boOf] at h<;>cases h
 ·exact zs0
 ·exact zsw
 ·exact zsx
 ·exact zsy
 ·exact zph
theorem zi1 (hu:X.A.units+100<cLine) {op:CmpOp} {o:Co} (h:coC op=some o):OpS X (compareOp op) (cmpT o):=by
 cases op<;>simp only [coC] at h<;>cases h
 ·exact zq1 hu
 ·exact zqx hu
 ·exact zqy hu
 ·exact zqz
 ·exact zq0
end
end Ev
end
end
end
noncomputable section
noncomputable section
noncomputable section
namespace Ev
open PySem PySem.Spec PyProof.Rows L2
variable {K:PySem.W.Frag} {o o':T->T->Option T} {f g h:Env->Option T} {G:Glo} {k n:Nat} {rest es:List Expr}
section
variable {X:Cx} {c:Tc} {a b:Expr} {pos:Pos}
theorem zrb {F:Hp} {ts:List T} {vs:List V} {i:Int} {t:T} (r:Reps K F ts vs) (h:getI ts i=some t):∃ v,atI vs i=some v/\Rep K F t v:=by
 unfold getI at h
 obtain ⟨j,h1,h2⟩:=obs h
 obtain ⟨v,h3,h4⟩:=r.get h2
 refine ⟨v,?_,h4⟩
 unfold atI
 rw [r.length]
 exact Option.bind_eq_some_iff.mpr ⟨j,h1,h3⟩
theorem zrt {prog:Program} {w:World} {A:Around} {E:Value->Shared->Prop} {s:Shared} {value slice:Expr} {o i:Value} {T id:String} {Q:Value->Shared->Prop}
  (hl:typeLookup (.type T) "__getitem__"=pure (some (.builtin id))) (hs:subscripted slice false o i=operate [o,i] (getItem o i)) (hT:s.TypeIs o T) (h:wpAny (model prog w) A (getItem o i) Q E s) :
  wpAny (model prog w) A (subscriptTail value slice o i) Q E s:=by
 unfold subscriptTail
 refine zyc ?_
 rw [getitemInPython_of_ne hT.not_modules]
 refine zyc (wpAny_specialOf hT hl ?_)
 have fin:wpAny (model prog w) A (subscripted slice false o i) (fun r s₃=>wpAny (model prog w) A (letTemporaryGo value o r >>= fun _=>pure r) Q E s₃) E s:=by
  rw [hs]
  exact wpAny_operating (zzw h (fun r s₃ h₃=>zyc (wpAny_letTemporaryGo (zyf h₃))) fun _ _ x=>x)
 first
  | exact zyf (zyc fin)
  | exact zyc (zyf (zyc fin))
  | exact zyc fin
theorem zgg {κ:Type} [DecidableEq κ] {K:PySem.W.Frag} {F:Hp}:∀ {ws:List (κ × V)} {ts:List T} {k:κ} {t:T},Reps K F ts (ws.map (·.2))->lookP (ws.map (·.1)) ts k=some t->∃ v,valV ws k=some v/\Rep K F t v
 | [],_,_,_,_,h=>by simp [lookP] at h
 | p::ws,[],_,_,r,_=>by cases r
 | p::ws,u::ts,k,t,r,h=>by
  obtain ⟨v,vr,e,r1,r2⟩:=r
  rw [zyh] at e
  injection e with e1 e2
  rw [zyh,lookP] at h
  by_cases hk:p.1=k
  ·rw [if_pos hk] at h
   cases h
   exact ⟨p.2,zcq hk,by rw [e1];exact r1⟩
  ·rw [if_neg hk] at h
   rw [zcr hk]
   exact zgg (by rw [e2];exact r2) h
theorem ixs (hu:X.A.units+1<cLine):IxR X (fun x y H Q=>∃ F t1 t2 t,Same F H/\Rep X.K F t1 x/\Rep X.K F t2 y/\idxT t1 t2=some t/\∀ v F' H',Step F H F' H'->Rep X.K F' t v->Q v H'):=by
 intro value slice pins s σ H x y v u Q I rx ry h hs
 obtain ⟨F,t1,t2,t,fh,r1,r2,ht,q⟩:=h
 cases t1 with
 | tup ts =>
  cases t2 with
  | int i =>
   cases r2
   obtain ⟨p,vs,rfl,h1,h2⟩:=r1
   obtain ⟨w,h3,h4⟩:=zrb h2 ht
   exact zwn value slice pins s σ H _ _ v u Q I rx ry ⟨p,vs,i,w,rfl,rfl,zam fh h1,h3,q _ F H (Step.refl fh) h4⟩ hs
  | _=>cases ht
 | lst ts =>
  cases t2 with
  | int i =>
   cases r2
   obtain ⟨p,vs,rfl,h1,h2⟩:=r1
   obtain ⟨w,h3,h4⟩:=zrb h2 ht
   exact ztm value slice pins s σ H _ _ v u Q I rx ry ⟨p,vs,i,w,rfl,rfl,(Ls.same fh h1).sq,h3,q _ F H (Step.refl fh) h4⟩ hs
  | _=>cases ht
 | dt ks us =>
  cases t2 with
  | tup xs =>
   obtain ⟨k,h1,h2⟩:=obs ht
   obtain ⟨a,ws,rfl,g1,g2,g3⟩:=r1
   obtain ⟨b,vs,rfl,g4,g5⟩:=r2
   cases rx
   cases ry
   subst g2
   obtain ⟨w,w1,w2⟩:=zgg g3 h2
   have eb:=zb3 g5 h1
   subst eb
   have g:DGet H a (.ref b) (some w):=by rw [<- w1];exact DGet.t (fh _ _ g1) (fh _ _ g4)
   exact zrt PySem.F.slot_dict_getitem.lookup hs (zh1 I g) (znk hu I g rfl fun w' s3 I3 rw'=>⟨w,H,I3,rw',q _ F H (Step.refl fh) w2⟩)
  | _=>cases ht
 | _=>cases t2<;>cases ht
theorem zv5 (hu:X.A.units+1<cLine) (ha:Oke X c a f) (hb:Oke X c b g) (hs:zh8 b):Oke X c (.Subscript a b pos) (fun r=>(f r).bind fun x=>(g r).bind fun y=>idxT x y):=by
 refine zav (zxv (ixs hu) ha hb hs) fun σ H Q q=>?_
 obtain ⟨r,F,t,e,ht,q⟩:=q
 obtain ⟨t1,e1,ht⟩:=obs ht
 obtain ⟨t2,e2,ht⟩:=obs ht
 refine ⟨r,F,t1,e,e1,fun v1 F1 H1 s1 r1=>⟨r,F1,t2,e.step s1,e2,fun v2 F2 H2 s2 r2=>?_⟩⟩
 exact ⟨F2,t1,t2,t,s2.fh,r1.mono s2.ff,r2,ht,fun v F' H' s3 r3=>q v F' H' (s1.trans (s2.trans s3)) r3⟩
theorem zis {F:Hp} {ts:List T} {vs:List V} (r:Reps K F ts vs) (lo hi:Option Int):Reps K F (cut ts lo hi) (cutV vs lo hi):=by
 unfold cut cutV
 have e:∀ (n d:Nat) (o:Option Int),HT.sIx n d o=clip n d o:=fun n d o=>by cases o<;>rfl
 rw [e,e,r.length]
 exact (r.drop _).take _
theorem sls:SlR X (fun x lo hi H Q=>∃ F t1 t,Same F H/\Rep X.K F t1 x/\sliT t1 lo hi=some t/\∀ v F' H',Step F H F' H'->Rep X.K F' t v->Q v H'):=by
 intro pins s σ H x v vl vu lo hi sl Q I rx hs pl pu h
 obtain ⟨F,t1,t,fh,r1,ht,q⟩:=h
 cases t1 with
 | tup ts =>
  simp only [sliT] at ht
  cases ht
  obtain ⟨p,vs,rfl,h1,h2⟩:=r1
  have e:∀ (n d:Nat) (o:Option Int),HT.sIx n d o=clip n d o:=fun n d o=>by cases o<;>rfl
  by_cases hw:clip ts.length 0 lo=0/\clip ts.length ts.length hi=ts.length
  ·refine zox pins s σ H _ v vl vu lo hi sl Q I rx hs pl pu ⟨p,vs,rfl,zam fh h1,by rw [e,e,h2.length];exact hw,?_⟩
   have ec:cut ts lo hi=ts:=by unfold cut;rw [hw.1,hw.2];simp
   exact q _ F H (Step.refl fh) ⟨p,vs,rfl,h1,by rw [ec];exact h2⟩
  ·refine zus pins s σ H _ v vl vu lo hi sl Q I rx hs pl pu ⟨p,vs,rfl,zam fh h1,by rw [e,e,h2.length];exact hw,fun p' hp=>?_⟩
   have st:=(Step.refl fh).new (o:=.tup (cutV vs lo hi)) hp
   exact q _ _ _ st ⟨p',_,rfl,zae,(zis h2 lo hi).mono st.ff⟩
 | lst ts =>
  simp only [sliT] at ht
  cases ht
  obtain ⟨p,vs,rfl,h1,h2⟩:=r1
  refine zr6 pins s σ H _ v vl vu lo hi sl Q I rx hs pl pu ⟨p,vs,rfl,(Ls.same fh h1).sq,fun p' hp=>?_⟩
  have st:=(Step.refl fh).new (o:=.lst (cutV vs lo hi)) hp
  exact q _ _ _ st ⟨p',_,rfl,Ls.of zae,(zis h2 lo hi).mono st.ff⟩
 | _=>simp [sliT] at ht
def spO (X:Cx) (c:Tc) (f:Env->Option (Option T)):TO:=fun σ H Q=>∃ r F o,EnvE X c r F σ H/\(f r).bind asI=some o/\∀ F' H',Step F H F' H'->Q o H'
theorem zly {e:Option Expr} {t t':TO} (h:PO X e t) (m:∀ σ H Q,t' σ H Q->t σ H Q):PO X e t':=fun pins s σ H Q I q=>h pins s σ H Q I (m σ H Q q)
theorem zj8:PO X none (spO X c fun _=>some none):=by
 refine zly zsp fun σ H Q q=>?_
 obtain ⟨r,F,o,e,ht,q⟩:=q
 cases ht
 exact q F H (Step.refl e.fh)
theorem zj7 (h:Oke X c a f):PO X (some a) (spO X c fun r=>(f r).map some):=by
 refine zly (zso h) fun σ H Q q=>?_
 obtain ⟨r,F,o,e,ht,q⟩:=q
 obtain ⟨o',e1,ht⟩:=obs ht
 obtain ⟨t,e2,rfl⟩:=oms e1
 refine ⟨r,F,t,e,e2,fun v F' H' s1 r1=>?_⟩
 cases t with
 | int i=>cases ht;cases r1;exact ⟨i,rfl,q F' H' s1⟩
 | _=>cases ht
theorem zv0 {lo hi:Option Expr} {g h:Env->Option (Option T)} {p2:Pos} (ha:Oke X c a f) (hl:PO X lo (spO X c g)) (hh:PO X hi (spO X c h)) :
  Oke X c (.Subscript a (.Slice lo hi none p2) pos) (fun r=>(f r).bind fun x=>(g r).bind fun l=>(h r).bind fun u=>(asI l).bind fun l'=>(asI u).bind fun u'=>sliT x l' u'):=by
 refine zav (zpe sls ha hl hh) fun σ H Q q=>?_
 obtain ⟨r,F,t,e,ht,q⟩:=q
 obtain ⟨t1,e1,ht⟩:=obs ht
 obtain ⟨l,e2,ht⟩:=obs ht
 obtain ⟨u,e3,ht⟩:=obs ht
 obtain ⟨l',e4,ht⟩:=obs ht
 obtain ⟨u',e5,ht⟩:=obs ht
 refine ⟨r,F,t1,e,e1,fun v1 F1 H1 s1 r1=>⟨r,F1,l',e.step s1,Option.bind_eq_some_iff.mpr ⟨l,e2,e4⟩,fun F2 H2 s2=>⟨r,F2,u',e.step (s1.trans s2),Option.bind_eq_some_iff.mpr ⟨u,e3,e5⟩,fun F3 H3 s3=>?_⟩⟩⟩
 exact ⟨F3,t1,t,s3.fh,r1.mono (s2.trans s3).ff,ht,fun v F' H' s4 r4=>q v F' H' (s1.trans (s2.trans (s3.trans s4))) r4⟩
theorem zv7 {t:T} {v:V} (h:PE X a (tC v)) (r:∀ F,Rep X.K F t v):Oke X c a (fun _=>some t):=by
 refine zav h fun σ H Q q=>?_
 obtain ⟨r',F,t',e,ht,q⟩:=q
 cases ht
 exact q v F H (Step.refl e.fh) (r F)
theorem zvy (gd:Gd X c G k) {x:Str} {i:Nat} (hp:zaf x=true) (hv:visB c.sc x=true) (hi:nameIx c.nm x=some i):Oke X c (.Name x pos) (fun r=>(r[i]?).join):=by
 have hpn:=hp
 simp only [zaf,Bool.and_eq_true,Bool.not_eq_true'] at hp
 intro pins s σ H Q I q
 obtain ⟨r,F,t,e,ht,q⟩:=q
 have ht:(r[i]?).join=some t:=ht
 have ht':r[i]?=some (some t):=by
  cases h:r[i]? with
  | none=>rw [h] at ht;cases ht
  | some o=>rw [h] at ht;cases o with
   | none=>cases ht
   | some z=>cases ht;rfl
 obtain ⟨j,v,h1,h2,h3⟩:=e.get x i t hpn hi hv ht'
 exact zdi h1 (gd.vis x hv) hp.1.1.1 hp.1.1.2 pins s σ H Q I ⟨v,h2,q v F H (Step.refl e.fh) h3⟩
theorem zv6 (gd:Gd X c G k) {x:Str} (hp:zaf x=true) (hg:glB c.sc x=true):Oke X c (.Name x pos) (fun _=>G.con x):=by
 simp only [zaf,Bool.and_eq_true,Bool.not_eq_true'] at hp
 intro pins s σ H Q I q
 obtain ⟨r,F,t,e,ht,q⟩:=q
 obtain ⟨u,v,h1,h2,h3⟩:=gd.con x t ht
 exact zst (gd.gl x hg) h1 h2 hp.1.1.1 pins s σ H Q I (q v F H (Step.refl e.fh) (h3 F))
theorem zv1 (ha:Oke X c a f):Oke X c (.UnaryOp .Not a pos) (fun r=>(f r).bind fun x=>match x with | .bl b=>some (.bl (!b)) | _=>none):=by
 refine zav (zvk ha) fun σ H Q q=>?_
 obtain ⟨r,F,t,e,ht,q⟩:=q
 obtain ⟨t1,e1,ht⟩:=obs ht
 cases t1 with
 | bl b=>cases ht;exact ⟨r,F,_,e,e1,fun v F' H' s1 r1=>by cases r1;exact ⟨b,rfl,q _ F' H' s1 rfl⟩⟩
 | _=>cases ht
theorem zv2 (ha:Oke X c a f):Oke X c (.UnaryOp .USub a pos) (fun r=>(f r).bind fun x=>match x with | .int i=>some (.int (-i)) | _=>none):=by
 refine zav (zxr zui ha) fun σ H Q q=>?_
 obtain ⟨r,F,t,e,ht,q⟩:=q
 obtain ⟨t1,e1,ht⟩:=obs ht
 cases t1 with
 | int b=>cases ht;exact ⟨r,F,_,e,e1,fun v F' H' s1 r1=>by cases r1;exact ⟨b,rfl,q _ F' H' s1 rfl⟩⟩
 | _=>cases ht
theorem zwa (ha:Oke X c a f) (hb:Oke X c (.BoolOp .And (b::rest) pos) g):Oke X c (.BoolOp .And (a::b::rest) pos) (fun r=>(f r).bind fun x=>match x with | .bl true=>g r | .bl false=>some (.bl false) | _=>none):=by
 refine zav (zvq ha hb) fun σ H Q q=>?_
 obtain ⟨r,F,t,e,ht,q⟩:=q
 obtain ⟨t1,e1,ht⟩:=obs ht
 cases t1 with
 | bl d =>
  refine ⟨r,F,_,e,e1,fun v F' H' s1 r1=>?_⟩
  cases r1
  cases d with
  | true=>exact ⟨true,rfl,iteT ⟨r,F',t,e.step s1,ht,fun v2 F2 H2 s2 r2=>q v2 F2 H2 (s1.trans s2) r2⟩⟩
  | false=>cases ht;exact ⟨false,rfl,iteF (q _ F' H' s1 rfl)⟩
 | _=>cases ht
theorem zx0 (ha:Oke X c a f) (hb:Oke X c (.BoolOp .Or (b::rest) pos) g):Oke X c (.BoolOp .Or (a::b::rest) pos) (fun r=>(f r).bind fun x=>match x with | .bl true=>some (.bl true) | .bl false=>g r | _=>none):=by
 refine zav (zxs ha hb) fun σ H Q q=>?_
 obtain ⟨r,F,t,e,ht,q⟩:=q
 obtain ⟨t1,e1,ht⟩:=obs ht
 cases t1 with
 | bl d =>
  refine ⟨r,F,_,e,e1,fun v F' H' s1 r1=>?_⟩
  cases r1
  cases d with
  | true=>cases ht;exact ⟨true,rfl,iteT (q _ F' H' s1 rfl)⟩
  | false=>exact ⟨false,rfl,iteF ⟨r,F',t,e.step s1,ht,fun v2 F2 H2 s2 r2=>q v2 F2 H2 (s1.trans s2) r2⟩⟩
 | _=>cases ht
abbrev Okw (X:Cx) (c:Tc) (e:Expr) (f:Env->Option T):Prop:=PW X e (spB X c f)
theorem zuk (ha:Okt X c a f) (hb:Okw X c (.BoolOp .And (b::rest) pos) g):Okw X c (.BoolOp .And (a::b::rest) pos) (fun r=>(f r).bind fun x=>match x with | .bl true=>g r | .bl false=>some (.bl false) | _=>none):=by
 refine zlq (zu6 ha hb) fun σ H Q q=>?_
 obtain ⟨r,F,k,e,ht,q⟩:=q
 obtain ⟨t1,e1,ht⟩:=obs ht
 cases t1 with
 | bl d =>
  refine ⟨r,F,d,e,e1,fun F' H' s1=>?_⟩
  cases d with
  | true=>exact iteT ⟨r,F',k,e.step s1,ht,fun F2 H2 s2=>q F2 H2 (s1.trans s2)⟩
  | false=>cases ht;exact iteF (q F' H' s1)
 | _=>cases ht
theorem zxe (ha:Okt X c a f) (hb:Okw X c (.BoolOp .Or (b::rest) pos) g):Okw X c (.BoolOp .Or (a::b::rest) pos) (fun r=>(f r).bind fun x=>match x with | .bl true=>some (.bl true) | .bl false=>g r | _=>none):=by
 refine zlq (zxq ha hb) fun σ H Q q=>?_
 obtain ⟨r,F,k,e,ht,q⟩:=q
 obtain ⟨t1,e1,ht⟩:=obs ht
 cases t1 with
 | bl d =>
  refine ⟨r,F,d,e,e1,fun F' H' s1=>?_⟩
  cases d with
  | true=>cases ht;exact iteT (q F' H' s1)
  | false=>exact iteF ⟨r,F',k,e.step s1,ht,fun F2 H2 s2=>q F2 H2 (s1.trans s2)⟩
 | _=>cases ht
theorem zxg (ha:Okt X c a f):Okt X c (.UnaryOp .Not a pos) (fun r=>(f r).bind fun x=>match x with | .bl b=>some (.bl (!b)) | _=>none):=by
 refine zfa (zvb ha) fun σ H Q q=>?_
 obtain ⟨r,F,k,e,ht,q⟩:=q
 obtain ⟨t1,e1,ht⟩:=obs ht
 cases t1 with
 | bl d =>
  refine ⟨r,F,d,e,e1,fun F' H' s1=>?_⟩
  cases ht
  exact q F' H' s1
 | _=>cases ht
theorem zrp {F H:Hp} {t:T} {v:V} {b:Bool} (fh:Same F H) (r:Rep K F t v) (h:truT t=some b):TruV K v H b:=by
 cases t with
 | non=>cases r;cases h;rfl
 | bl _=>cases r;cases h;rfl
 | int _=>cases r;cases h;rfl
 | str _=>cases h
 | tup ts =>
  obtain ⟨p,vs,rfl,h1,h2⟩:=r
  cases h
  refine .inr (.inl ⟨vs,zam fh h1,?_⟩)
  have e:=h2.length
  cases vs<;>cases ts<;>first | rfl | simp at e
 | lst ts =>
  obtain ⟨p,vs,rfl,h1,h2⟩:=r
  cases h
  refine .inl ⟨vs,(Ls.same fh h1).sq,?_⟩
  have e:=h2.length
  cases vs<;>cases ts<;>first | rfl | simp at e
 | dk _ _=>cases h
 | dt _ _=>cases h
theorem zxf (ha:Oke X c a f) (he:∀ whole,isTrue a X.env whole=(do let v <- whole;standAt a.pos;holding [v] (truthy v))):Okt X c a (fun r=>(f r).bind fun x=>(truT x).map .bl):=by
 refine zfa (zo9 ha he) fun σ H Q q=>?_
 obtain ⟨r,F,k,e,ht,q⟩:=q
 obtain ⟨t1,e1,ht⟩:=obs ht
 obtain ⟨b,e2,h2⟩:=oms ht
 cases h2
 exact ⟨r,F,t1,e,e1,fun v F' H' s1 r1=>⟨k,zrp s1.fh r1 e2,q F' H' s1⟩⟩
theorem zv9 {d:Expr} {op op':CmpOp} (ho:OpS X (compareOp op) o) (ho':OpS X (compareOp op') o') (ha:Oke X c a f) (hb:Oke X c b g) (hd:Oke X c d h) (hm:lastMarks [op,op'] [b,d]=false) :
  Oke X c (.Compare a [op,op'] [b,d] pos) (fun r=>(f r).bind fun x=>(g r).bind fun y=>(o x y).bind fun k=>match k with | .bl true=>(h r).bind fun z=>o' y z | .bl false=>some (.bl false) | _=>none):=by
 refine zav (zpf ho ho' ha hb hd hm) fun σ H Q q=>?_
 obtain ⟨r,F,t,e,ht,q⟩:=q
 obtain ⟨t1,e1,ht⟩:=obs ht
 obtain ⟨t2,e2,ht⟩:=obs ht
 obtain ⟨t3,e3,ht⟩:=obs ht
 refine ⟨r,F,t1,e,e1,fun v1 F1 H1 s1 r1=>⟨r,F1,t2,e.step s1,e2,fun v2 F2 H2 s2 r2=>?_⟩⟩
 refine ⟨F2,t1,t2,t3,s2.fh,r1.mono s2.ff,r2,e3,fun v3 F3 H3 s3 r3=>?_⟩
 cases t3 with
 | bl k =>
  cases r3
  cases k with
  | false=>cases ht;exact ⟨false,rfl,iteF (q _ F3 H3 (s1.trans (s2.trans s3)) rfl)⟩
  | true =>
   obtain ⟨t4,e4,ht⟩:=obs ht
   refine ⟨true,rfl,iteT ⟨r,F3,t4,e.step (s1.trans (s2.trans s3)),e4,fun v4 F4 H4 s4 r4=>?_⟩⟩
   exact ⟨F4,t2,t4,t,s4.fh,r2.mono (s3.trans s4).ff,r4,ht,fun v F' H' s5 r5=>q v F' H' (s1.trans (s2.trans (s3.trans (s4.trans s5)))) r5⟩
 | _=>cases ht
theorem zxh {d:Expr} {op op':CmpOp} (ho:OpS X (compareOp op) o) (ho':OpS X (compareOp op') o') (ha:Oke X c a f) (hb:Oke X c b g) (hd:Oke X c d h) (hm:lastMarks [op,op'] [b,d]=false) :
  Okt X c (.Compare a [op,op'] [b,d] pos) (fun r=>(f r).bind fun x=>(g r).bind fun y=>(o x y).bind fun k=>match k with | .bl true=>(h r).bind fun z=>o' y z | .bl false=>some (.bl false) | _=>none):=by
 refine zfa (zpa ho ho' ha hb hd hm) fun σ H Q q=>?_
 obtain ⟨r,F,t,e,ht,q⟩:=q
 obtain ⟨t1,e1,ht⟩:=obs ht
 obtain ⟨t2,e2,ht⟩:=obs ht
 obtain ⟨t3,e3,ht⟩:=obs ht
 refine ⟨r,F,t1,e,e1,fun v1 F1 H1 s1 r1=>⟨r,F1,t2,e.step s1,e2,fun v2 F2 H2 s2 r2=>?_⟩⟩
 refine ⟨F2,t1,t2,t3,s2.fh,r1.mono s2.ff,r2,e3,fun v3 F3 H3 s3 r3=>?_⟩
 cases t3 with
 | bl k =>
  cases r3
  cases k with
  | false=>cases ht;exact ⟨false,rfl,iteF ⟨false,rfl,q F3 H3 (s1.trans (s2.trans s3))⟩⟩
  | true =>
   obtain ⟨t4,e4,ht⟩:=obs ht
   refine ⟨true,rfl,iteT ⟨r,F3,t4,e.step (s1.trans (s2.trans s3)),e4,fun v4 F4 H4 s4 r4=>?_⟩⟩
   exact ⟨F4,t2,t4,_,s4.fh,r2.mono (s3.trans s4).ff,r4,ht,fun v F' H' s5 r5=>⟨t,r5,q F' H' (s1.trans (s2.trans (s3.trans (s4.trans s5))))⟩⟩
 | _=>cases ht
theorem zhk {t t':TA} (h:PA X es t) (m:∀ σ H Q,t' σ H Q->t σ H Q):PA X es t':=fun p pins s σ H Q I q=>h p pins s σ H Q I (m σ H Q q)
theorem zq3:PA X [] (spL X c fun _=>some []):=by
 refine zhk zer fun σ H Q q=>?_
 obtain ⟨r,F,ts,e,ht,q⟩:=q
 cases ht
 exact q [] F H (Step.refl e.fh) rfl
theorem zhl {g:Env->Option (List T)} (ha:Oke X c a f) (hr:PA X es (spL X c g)) (hs:starEach (a::es) X.env=(false,eval a X.env)::starEach es X.env):PA X (a::es) (spL X c fun r=>(f r).bind fun x=>(g r).bind fun xs=>some (x::xs)):=by
 refine zhk (zbq ha hr hs) fun σ H Q q=>?_
 obtain ⟨r,F,ts,e,ht,q⟩:=q
 obtain ⟨t1,e1,ht⟩:=obs ht
 obtain ⟨t2,e2,ht⟩:=obs ht
 cases ht
 exact ⟨r,F,t1,e,e1,fun v1 F1 H1 s1 r1=>⟨r,F1,t2,e.step s1,e2,fun vs F2 H2 s2 r2=>q _ F2 H2 (s1.trans s2) ⟨v1,vs,rfl,r1.mono s2.ff,r2⟩⟩⟩
theorem zvz {g:Env->Option (List T)} (h:PA X es (spL X c g)) (hl:∀ r ts,g r=some ts->ts.length=n):Oke X c (.Tuple es k pos) (fun r=>if n<=1000 then (g r).map .tup else none):=by
 refine zav (zvh h) fun σ H Q q=>?_
 obtain ⟨r,F,t,e,ht,q⟩:=q
 split at ht
 ·rename_i hn
  obtain ⟨ts,e1,rfl⟩:=oms ht
  refine ⟨r,F,ts,e,e1,fun vs F' H' s1 r1=>⟨by rw [r1.length,hl r ts e1];exact Nat.le_of_lt (zf5 hn),fun p hp=>?_⟩⟩
  have st:=s1.new (o:=.tup vs) hp
  exact q _ _ _ st ⟨p,vs,rfl,zae,r1.mono (za8 (s1.fh.free hp))⟩
 ·cases ht
def spN (X:Cx) (c:Tc) (f:Env->Option T):TE:=fun σ H Q=>∃ r F ts,EnvE X c r F σ H/\f r=some (.lst ts)/\∀ p vs F' H1,Step F H F' H1->H1 p=none->Reps X.K F' ts vs->Q (.ref p) (upd H1 p (.lst vs))
theorem zmb {g:Env->Option (List T)} (h:PA X es (spL X c g)) (hl:∀ r ts,g r=some ts->ts.length=n):PE X (.List es pos) (spN X c (fun r=>if n<=1000 then (g r).map .lst else none)):=by
 refine zav (zvm h) fun σ H Q q=>?_
 obtain ⟨r,F,t,e,ht,q⟩:=q
 split at ht
 ·rename_i hn
  obtain ⟨ts,e1,e2⟩:=oms ht
  cases e2
  exact ⟨r,F,t,e,e1,fun vs F' H' s1 r1=>⟨by rw [r1.length,hl r t e1];exact Nat.le_of_lt (zf5 hn),fun p hp=>q p vs F' H' s1 hp r1⟩⟩
 ·cases ht
theorem zv3 {g:Env->Option (List T)} (h:PA X es (spL X c g)) (hl:∀ r ts,g r=some ts->ts.length=n):Oke X c (.List es pos) (fun r=>if n<=1000 then (g r).map .lst else none):=by
 refine zav (zmb h hl) fun σ H Q q=>?_
 obtain ⟨r,F,t,e,ht,q⟩:=q
 have ht':=ht
 split at ht
 ·obtain ⟨ts,e1,rfl⟩:=oms ht
  refine ⟨r,F,ts,e,ht',fun p vs F' H' s1 hp r1=>?_⟩
  exact q _ _ _ (s1.new hp) ⟨p,vs,rfl,Ls.of zae,r1.mono (za8 (s1.fh.free hp))⟩
 ·cases ht
theorem zs7 (gd:Gd X c G k) {f:Str} {g:Env->Option (List T)} {p:Pos} (hg:glB c.sc f=true) (hp:zaf f=true) (h:PA X (a::es) (spL X c g)) (he:starEach (a::es) X.env=(false,eval a X.env)::starEach es X.env)
  (hpl:(backTo pos (starEach es X.env)).any (·.1)=false):Oke X c (.Call (.Name f p) (a::es) [] pos) (fun r=>(g r).bind fun xs=>G.call f xs):=by
 simp only [zaf,Bool.and_eq_true,Bool.not_eq_true'] at hp
 intro pins s σ H Q I q
 obtain ⟨r,F,t,e,ht,q⟩:=q
 obtain ⟨ts,e1,ht⟩:=obs ht
 obtain ⟨ad,fd,ps,h1,h2,h3,h4⟩:=gd.call f ts t (by rw [plainF,hp.2.2.1,hp.2.2.2];rfl) ht
 refine zl6 h1 gd.room (gd.gl f hg) h2 h3 h4 .nil pass0 h hp.1.1.1 he hpl pins s σ H Q I ?_
 refine ⟨r,F,ts,e,e1,fun vs F' H' s1 r1=>?_⟩
 show spT X.K (G.call f) (vs++[]) H' Q E0
 rw [zy6]
 exact ⟨F',ts,t,s1.fh,e.tb.up s1,r1,ht,fun v F2 H2 s2 r2=>q v F2 H2 (s1.trans s2) r2⟩
end
end Ev
end
end
end
noncomputable section
noncomputable section
noncomputable section
namespace L2
open PySem
variable {l:Addr} {items:Array Value} {Q:Value->Shared->Prop}
open AutoSeq1 (wpAny_loadPart')
section
variable {prog:Program} {w:World} {A:Around} {E:Value->Shared->Prop} {s:Shared}
theorem zdd {it:Addr} {i:Nat} {x:Value} (hit:s.heap.IsTupleIter it l i)
  (hl:s.heap.IsTuple l items) (hx:items[i]?=some x)
  (hQ:∀ h',h'.IsTupleIter it l (i+1)->Heap.SameBut it s.heap h'->Q x { s with heap:=h' }) :
  wpAny (model prog w) A (Builtin.SmallTypes.nextOf (.ref it)) Q E s:=by
 obtain ⟨o,ho,hc,hd⟩:=id hit
 obtain ⟨ol,hol,_,nl,hdl⟩:=hl
 unfold Builtin.SmallTypes.nextOf
 refine zyc (zy7 (name:=Str.ofString "__next__") hit.typeIs F.slot_tuple_iterator_next
  (zze F.slot_tuple_iterator_next hit.typeIs F.entry_tuple_iterator_next ?_ (F.args_tuple_iterator_next_1 _)))
 show wpAny _ _ (field (.ref it) 0 >>= _) _ _ s
 refine zyc (wpAny_field ho hd (x:=.ref l) rfl ?_)
 show wpAny _ _ (if (Value.ref l==Value.none)=true then _ else _) _ _ s
 rw [if_neg (show ¬ ((Value.ref l==Value.none)=true) from zyz)]
 show wpAny _ _ (field (.ref it) 1 >>= _) _ _ s
 refine zyc (wpAny_field ho hd (x:=.int i 0) rfl ?_)
 show wpAny _ _ (seqItems? (.ref l) >>= _) _ _ s
 refine zyc (wpAny_seqItems hol hdl ?_)
 simp only [Int.toNat_natCast,hx]
 refine wpAny_bind (wpAny_setField ho hd (by simp) (wpAny_pure ⟨x,rfl,wpAny_pure (hQ _ ?_ (Heap.SameBut.update ..))⟩))
 exact ⟨_,Heap.get?_update_self _ ho (Obj.isFreed_of_fields (Obj.data_mapFields hd _)),(Obj.cls_mapFields ..).trans hc,by
  rw [Obj.data_mapFields hd];simp [rawInt]⟩
theorem zdq {it:Addr} {i:Nat} (hh:A.handled=none)
  (hit:s.heap.IsTupleIter it l i) (hl:s.heap.IsTuple l items) (hx:items[i]?=none)
  (hE:∀ h' e,Heap.ExtBut it s.heap h'->(∃ o,h'.get? e=some o/\o.cls=.type "StopIteration")->E (.ref e) { s with heap:=h' }) :
  wpAny (model prog w) A (Builtin.SmallTypes.nextOf (.ref it)) Q E s:=by
 obtain ⟨o,ho,hc,hd⟩:=id hit
 obtain ⟨ol,hol,_,nl,hdl⟩:=hl
 unfold Builtin.SmallTypes.nextOf
 refine zyc (zy7 (name:=Str.ofString "__next__") hit.typeIs F.slot_tuple_iterator_next
  (zze F.slot_tuple_iterator_next hit.typeIs F.entry_tuple_iterator_next ?_ (F.args_tuple_iterator_next_1 _)))
 show wpAny _ _ (field (.ref it) 0 >>= _) _ _ s
 refine zyc (wpAny_field ho hd (x:=.ref l) rfl ?_)
 show wpAny _ _ (if (Value.ref l==Value.none)=true then _ else _) _ _ s
 rw [if_neg (show ¬ ((Value.ref l==Value.none)=true) from zyz)]
 show wpAny _ _ (field (.ref it) 1 >>= _) _ _ s
 refine zyc (wpAny_field ho hd (x:=.int i 0) rfl ?_)
 show wpAny _ _ (seqItems? (.ref l) >>= _) _ _ s
 refine zyc (wpAny_seqItems hol hdl ?_)
 simp only [Int.toNat_natCast,hx]
 first
  | refine wpAny_bind (wpAny_rule (wpAny_bind (wpAny_setField ho hd (by simp) (wpAny_bind (wpAny_letGo ?_)))))
  | refine wpAny_bind (wpAny_rule (wpAny_bind (wpAny_setField ho hd (by simp) ?_)))
 show wpAny _ _ (newExc (.type "StopIteration") [] >>= _) _ _ _
 refine zyc ?_
 simp only [newExc,newTuple]
 refine zyc (zzb ?_ (by size_fits))
 refine wpAny_bind (m:=firstArgMember _ _) (wpAny_of_eq (a:=Value.none) (by first | rfl | (simp only [firstArgMember];rfl)) ?_)
 refine zzb ?_ (by size_fits)
 simp only [raiseNew]
 refine zyc (wpAny_handled ?_)
 first | rw [show A.in1.handled=none from hh] | rw [hh]
 refine zyc (zyf (wpAny_throw ?_))
 exact hE _ _ (((Heap.SameBut.update ..).extBut.push _).push _) ⟨_,zyg _ rfl,rfl⟩
end
theorem zcp {prog:Program} {w:World} {A:Around} (hh:A.handled=none) (it l:Addr) (hne:l≠it) (items:Array Value) :
  Draws prog w A it [it,l] items.size (fun i v=>items[i]?=some v) (fun i h=>h.IsTupleIter it l i/\h.IsTuple l items) where
 live:=fun _ _ st=>let ⟨o,ho,_⟩:=st.1;⟨o,ho⟩
 frame:=fun _ _ _ st hk=>⟨let ⟨o,ho,r⟩:=st.1;⟨o,hk it (by simp) o ho,r⟩,let ⟨o,ho,r⟩:=st.2;⟨o,hk l (by simp) o ho,r⟩⟩
 item:=fun i s Q E hi st hQ=>by
  refine zdd st.1 st.2 (x:=items[i]) (by simp [hi]) fun h' hit' hs'=>?_
  exact hQ _ h' s.toks (by simp [hi]) ⟨hit',let ⟨o,ho,r⟩:=st.2;⟨o,hs'.extBut l o hne ho,r⟩⟩ hs'
 done:=fun s Q E st hE=>zdq hh st.1 st.2 (by simp) hE
theorem zd8 (l:Addr) (items:Array Value) (n:Nat) (dct:Option Addr) (sl:Array (Option Value)) :
  Meets (Builtin.«enumerate.__new__» ⟨[.type "enumerate",.ref l],[]⟩) (fun _ R s=>s.heap.get? l=some { cls:=.type "tuple",dict:=dct,data:=.seq items n,slots:=sl } /\
   R (.ok (.ret (.ref (s.heap.push { cls:=.type "tuple_iterator",data:=.fields #[.ref l,.int 0 0] }).objs.size)))
    { s with heap:=(s.heap.push { cls:=.type "tuple_iterator",data:=.fields #[.ref l,.int 0 0] }).push { cls:=.type "enumerate",data:=.fields #[.none,.bool false,.ref s.heap.objs.size,rawInt 0,.none,.none] } }) :=
 .of_wp fun prog w A R s h=>by
  obtain ⟨hp,g,d,tk,os⟩:=s;obtain ⟨hl,h⟩:=h
  have hsub:=sub_enumerate
  have hL:Heap.IsTuple (Shared.heap ⟨hp,g,d,tk,os⟩) l items:=⟨_,hl,rfl,n,rfl⟩
  wp_walk using wpAny_loadPart' hl
  refine wpAny_stack_any fun st=>zyf ?_
  split
  ·rename_i c _ _ _ _ _
   cases (c==Value.type "enumerate")
   ·wp_walk using wpAny_loadPart' hl,wpAny_pyIter_tuple hL
    exact ⟨_,rfl,h⟩
   ·wp_walk using wpAny_loadPart' hl,wpAny_pyIter_tuple hL
    exact ⟨_,rfl,h⟩
  ·wp_walk using wpAny_loadPart' hl,wpAny_pyIter_tuple hL
   exact ⟨_,rfl,h⟩
section
variable {prog:Program} {w:World} {A:Around} {E:Value->Shared->Prop} {s:Shared}
theorem zeg (hL:s.heap.IsTuple l items)
  (h:∀ h',IsEnum h' (s.heap.objs.size+1) s.heap.objs.size 0 .none->h'.IsTupleIter s.heap.objs.size l 0->h'.objs.size=s.heap.objs.size+2 ->
   (∀ b o,s.heap.get? b=some o->h'.get? b=some o)->Q (.ref (s.heap.objs.size+1)) { s with heap:=h' }) :
  wpAny (model prog w) A (call (.type "enumerate") [.ref l]) Q E s:=by
 obtain ⟨⟨c,dct,dt,sl⟩,hl,hc,n,hd⟩:=hL
 replace hc:c=.type "tuple":=hc
 replace hd:dt=.seq items n:=hd
 subst hc hd
 refine callType_new F.called_enumerate (by decide) (F.typeCall_enumerate_1 _) (F.newCall_enumerate_1 _) (fun obj=>F.args_object_init_2 obj _) F.entry_enumerate_new
  (zd8 l items n dct sl) ⟨hl,?_⟩
 have hz:(s.heap.push { cls:=.type "tuple_iterator",data:=.fields #[.ref l,.int 0 0] }).objs.size=s.heap.objs.size+1:=zyo ..
 show _/\_
 rw [hz]
 have he:IsEnum ((s.heap.push { cls:=.type "tuple_iterator",data:=.fields #[.ref l,.int 0 0] }).push
   { cls:=.type "enumerate",data:=.fields #[.none,.bool false,.ref s.heap.objs.size,rawInt 0,.none,.none] }) (s.heap.objs.size+1) s.heap.objs.size 0 .none:=by
  have:=zyg (s.heap.push { cls:=.type "tuple_iterator",data:=.fields #[.ref l,.int 0 0] })
   (o:={ cls:=.type "enumerate",data:=.fields #[.none,.bool false,.ref s.heap.objs.size,rawInt 0,.none,.none] }) rfl
  rw [hz] at this;exact this
 refine ⟨⟨_,he,rfl⟩,h _ he ⟨_,zyb _ (zyg _ rfl),rfl,rfl⟩ (by rw [zyo,hz]) fun b o x=>zyb _ (zyb _ x)⟩
end
end L2
end
end
end
noncomputable section
noncomputable section
noncomputable section
namespace L2
open PySem PySem.Spec PyProof.Rows
theorem zcn {env:PySem.Env}:∀ (names:List (Str × NameKind)) (x:Str),
  (names.map fun (n,k)=>if (k==NameKind.free&&env.scope.kind==.function&&env.kindOf n==some .cell) then (n,NameKind.cell) else (n,k)).lookup x =
   (match names.lookup x with | some .free=>if (env.scope.kind==.function&&env.kindOf x==some .cell) then some .cell else some .free | o=>o)
 | [],_=>rfl
 | (n,k)::r,x=>by
  rw [zyh]
  cases hx:x==n with
  | false =>
   have e:∀ k',List.lookup x ((n,k')::(r.map fun (n,k)=>if (k==NameKind.free&&env.scope.kind==.function&&env.kindOf n==some .cell) then (n,NameKind.cell) else (n,k)))=List.lookup x (r.map fun (n,k)=>if (k==NameKind.free&&env.scope.kind==.function&&env.kindOf n==some .cell) then (n,NameKind.cell) else (n,k)):=fun k'=>by rw [zy4,hx]
   have e2:List.lookup x ((n,k)::r)=List.lookup x r:=by rw [zy4,hx]
   rw [e2,<- zcn r x]
   show List.lookup x ((if (k==NameKind.free&&env.scope.kind==.function&&env.kindOf n==some .cell)=true then (n,NameKind.cell) else (n,k))::_)=_
   by_cases hc:(k==NameKind.free&&env.scope.kind==.function&&env.kindOf n==some .cell)=true
   ·rw [if_pos hc];exact e _
   ·rw [if_neg hc];exact e _
  | true =>
   have en:x=n:=beq_iff_eq.mp hx
   subst en
   have e2:List.lookup x ((x,k)::r)=some k:=by rw [zy4,beq_self_eq_true]
   rw [e2]
   have e:∀ k',List.lookup x ((x,k')::(r.map fun (n,k)=>if (k==NameKind.free&&env.scope.kind==.function&&env.kindOf n==some .cell) then (n,NameKind.cell) else (n,k)))=some k':=fun k'=>by rw [zy4,beq_self_eq_true]
   cases k<;>simp only [beq_self_eq_true,Bool.true_and,Bool.false_and,Bool.false_eq_true,if_false,show (NameKind.local==NameKind.free)=false from rfl,show (NameKind.cell==NameKind.free)=false from rfl,show (NameKind.globalExplicit==NameKind.free)=false from rfl,show (NameKind.globalImplicit==NameKind.free)=false from rfl]<;>first | exact e _ | (split<;>exact e _)
def capN (sc:Scope) (N:List Str):List Str:=N.filter fun y=>sc.names.lookup y==some .free
def capS (sc:Scope):List Str->St->St
 | x::N,o::σ=>if sc.names.lookup x==some .free then o::capS sc N σ else capS sc N σ
 | _,_=>[]
theorem zjq (sc:Scope):∀ (N:List Str) (σ:St),σ.length=N.length->(capS sc N σ).length=(capN sc N).length
 | [],[],_=>rfl
 | [],_::_,h=>by simp at h
 | _::_,[],h=>by simp at h
 | x::N,o::σ,h=>by
  unfold capS capN
  rw [List.filter_cons]
  have ih:=zjq sc N σ (by simpa using h)
  unfold capN at ih
  split
  ·simp [ih]
  ·exact ih
theorem zns (sc:Scope) {x:Str} (hx:sc.names.lookup x=some .free):∀ (N:List Str) (σ:St),σ.length=N.length->∀ {j:Nat} {v:V},N[j]?=some x->σ[j]?=some (some v)->∃ (i:Nat),(capN sc N)[i]?=some x/\(capS sc N σ)[i]?=some (some v)
 | [],[],_,j,v,h1,h2=>by simp at h1
 | [],_::_,h,_,_,_,_=>by simp at h
 | _::_,[],h,_,_,_,_=>by simp at h
 | y::N,o::σ,h,0,v,h1,h2=>by
  simp at h1 h2
  subst h1 h2
  refine ⟨0,?_,?_⟩
  ·unfold capN;rw [List.filter_cons,if_pos (by rw [hx];rfl)];rfl
  ·unfold capS;rw [if_pos (by rw [hx];rfl)];rfl
 | y::N,o::σ,h,j+1,v,h1,h2=>by
  obtain ⟨i,h3,h4⟩:=zns sc hx N σ (by simpa using h) (j:=j) (v:=v) (by simpa using h1) (by simpa using h2)
  unfold capN at h3 ⊢
  rw [List.filter_cons]
  unfold capS
  split
  ·exact ⟨i+1,by simpa using h3,by simpa using h4⟩
  ·exact ⟨i,h3,h4⟩
theorem znr (sc:Scope):∀ (N:List Str) (σ:St) {i:Nat} {x:Str} {v:V},(capN sc N)[i]?=some x->(capS sc N σ)[i]?=some (some v)->σ.length=N.length->sc.names.lookup x=some .free/\∃ (j:Nat),N[j]?=some x/\σ[j]?=some (some v)
 | [],_,i,x,v,h1,_,_=>by unfold capN at h1;simp at h1
 | _::_,[],_,_,_,_,_,h=>by simp at h
 | y::N,o::σ,i,x,v,h1,h2,h=>by
  unfold capN at h1
  rw [List.filter_cons] at h1
  unfold capS at h2
  by_cases hy:(sc.names.lookup y==some .free)=true
  ·rw [if_pos hy] at h1 h2
   cases i with
   | zero =>
    simp at h1 h2
    subst h1 h2
    exact ⟨by simpa using hy,0,rfl,rfl⟩
   | succ i =>
    obtain ⟨h3,j,h4,h5⟩:=znr sc N σ (i:=i) (by simpa [capN] using h1) (by simpa using h2) (by simpa using h)
    exact ⟨h3,j+1,by simpa using h4,by simpa using h5⟩
  ·rw [if_neg hy] at h1 h2
   obtain ⟨h3,j,h4,h5⟩:=znr sc N σ (i:=i) (by simpa [capN] using h1) h2 (by simpa using h)
   exact ⟨h3,j+1,by simpa using h4,by simpa using h5⟩
def blk (X:Cx) (pins:List (Addr × Obj)) (scope:Scope) (xs:List Str) (fp:List Addr) (s₃:Shared) (H₃:Hp):Cx where
 prog:=X.prog
 w:=X.w
 K:=X.K
 mg:=X.mg
 base:=X.base
 A:=X.A
 N:=xs++capN scope X.N
 s₀:=s₃
 H₀:=H₃
 env:={ scope:=relabel scope X.env,locals:=s₃.heap.objs.size,globals:=X.env.globals,cells:=cellsFrom (s₃.heap.objs.size+1) scope.names (za2 X.env scope.names []),qual:=X.env.qual,func:=none,code:=X.env.code,frame:=X.env.frame,builtins:=X.env.builtins }
 outer:=X.stack
 stack:=X.stack
 ex:=fp
 fn:=fun x=>scope.names.lookup x==some .cell
 calm:=X.calm
 pn:=X.pn++pins
 xe:=fun _ _=>False
structure CompSc (X:Cx) (scope:Scope) (xs:List Str):Prop where
 kind:scope.kind=.function
 nd:xs.Nodup
 own:∀ x∈xs,scope.names.lookup x=some .local\/scope.names.lookup x=some .cell
 free:∀ y∈scope.names,y.2=.free->scope.names.lookup y.1=some .free/\(X.env.kindOf y.1=some .cell\/X.env.kindOf y.1=some .free)
 loc:∀ y∈scope.names,y.2=.local->scope.names.lookup y.1=some .local
 cel:∀ y∈scope.names,y.2=.cell->scope.names.lookup y.1=some .cell
section
variable {X:Cx} {pins:List (Addr × Obj)} {scope:Scope} {xs:List Str} {fp:List Addr} {s₃:Shared} {H₃:Hp} {σ:St}
theorem CompSc.has (S:CompSc X scope xs) (ok:X.Ok):∀ y∈scope.names,y.2=.free->∃ c,X.env.cells.lookup y.1=some c:=fun y hy hf=>ok.has y.1 (S.free y hy hf).2
theorem zca (scope:Scope) (X:Cx) (pins:List (Addr × Obj)) (xs:List Str) (fp:List Addr) (s₃:Shared) (H₃:Hp) (x:Str):(blk X pins scope xs fp s₃ H₃).env.scope.names.lookup x =
  (match scope.names.lookup x with | some .free=>if (X.env.scope.kind==.function&&X.env.kindOf x==some .cell) then some .cell else some .free | o=>o):=zcn scope.names x
theorem zcl (S:CompSc X scope xs) (ok:X.Ok) {x:Str} {c:Addr} (h:(blk X pins scope xs fp s₃ H₃).env.cells.lookup x=some c) :
  (s₃.heap.objs.size+1<=c/\(x,c)∈cellsFrom (s₃.heap.objs.size+1) scope.names []/\(x,NameKind.cell)∈scope.names)\/((cellsFrom (s₃.heap.objs.size+1) scope.names []).lookup x=none/\X.env.cells.lookup x=some c):=by
 rcases cells_look h with h | ⟨h1,h2⟩
 ·obtain ⟨h1,h2⟩:=zc7 scope.names _ h
  exact .inl ⟨h1,h,h2⟩
 ·exact .inr ⟨h1,zd0 scope.names [] (fun _ _ e=>by cases e) (S.has ok) x c h2⟩
theorem zbr {l:List (Str × NameKind)} {x:Str} {k:NameKind} (h:l.lookup x=some k):(x,k)∈l:=PySem.mem_of_lookup h
theorem zrj (S:CompSc X scope xs) (I:Inv X pins σ H₃ s₃) (ff:∀ b∈fp,FpOk X pins H₃ b) (fl:∀ b∈fp,b<s₃.heap.objs.size):(blk X pins scope xs fp s₃ H₃).Ok where
 mod:=I.ok.mod
 kind:=S.kind
 glob:=I.ok.glob
 blt:=I.ok.blt
 above:=zyl _
 inj:=fun x y c h1 h2=>by
  have up:∀ {z:Str} {c:Addr},X.env.cells.lookup z=some c->c<s₃.heap.objs.size:=fun {z c} h=>by
   obtain ⟨v,q⟩:=I.cell z c h
   exact q.lt
  rcases zcl S I.ok h1 with ⟨a1,a2,_⟩ | ⟨_,a2⟩<;>rcases zcl S I.ok h2 with ⟨b1,b2,_⟩ | ⟨_,b2⟩
  ·have ok:=cellsFrom_ok scope.names (s₃.heap.push { cls:=.type "dict",data:=.dict #[] }) (s₃.heap.objs.size+1) [] ⟨fun _ _ hm=>(nomatch hm),List.Pairwise.nil⟩ (by rw [zyo];exact zyl _)
   rw [zyo] at ok
   exact name_of_addr ok.apart a2 b2
  ·exact absurd (zyq (up b2) (Nat.le_of_succ_le a1)) (zy1 _)
  ·exact absurd (zyq (up a2) (Nat.le_of_succ_le b1)) (zy1 _)
  ·exact I.ok.inj x y c a2 b2
 has:=fun x h=>by
  have h':(blk X pins scope xs fp s₃ H₃).env.scope.names.lookup x=some .cell\/(blk X pins scope xs fp s₃ H₃).env.scope.names.lookup x=some .free:=h
  rw [zca] at h'
  have key:(x,NameKind.cell)∈scope.names\/(x,NameKind.free)∈scope.names:=by
   cases e:scope.names.lookup x with
   | none=>rw [e] at h';rcases h' with h' | h'<;>cases h'
   | some k =>
    rw [e] at h'
    cases k with
    | cell=>exact .inl (zbr e)
    | free=>exact .inr (zbr e)
    | _=>rcases h' with h' | h'<;>cases h'
  refine Option.isSome_iff_exists.mp (zc8 scope.names _ _ ?_)
  rcases key with k | k
  ·exact .inl k
  ·exact .inr (zd1 scope.names [] (.inl k))
 cab:=fun x c hf h=>by
  have hf':scope.names.lookup x=some .cell:=by simpa [blk] using hf
  have hs:=zc8 (x:=x) scope.names (s₃.heap.objs.size+1) [] (.inl (zbr hf'))
  rcases zcl S I.ok h with ⟨a1,_⟩ | ⟨a1,_⟩
  ·exact Nat.le_of_lt (zyq (zzv _) a1)
  ·rw [a1] at hs;cases hs
 hd:=I.ok.hd
 frames:=I.ok.frames
 stk:=.inl rfl
 exf:=fun b hb=>⟨zyy (fl b hb),fun x c h=>by
  rcases zcl S I.ok h with ⟨a1,_⟩ | ⟨_,a2⟩
  ·exact fun z=>by
    have h1:=fl b hb
    rw [<- z] at h1
    exact absurd (zyq h1 (Nat.le_of_succ_le a1)) (zy1 _)
  ·exact (ff b hb).2.2.2.2.1 x c a2⟩
 bs:=I.bs
 bsz:=zzn I.ok.bsz I.sz
 noex:=fun b o e hb=>by
  obtain ⟨_,_,_,h4,_⟩:=ff b hb
  rcases h4 with h4 | h4
  ·exact I.ok.noex b o e h4
  ·exact absurd (zyq (zym (I.ok.bs b o e).1) h4) (zy1 _)
 exfs:=fun b hb hf=>by
  rcases omc (I.stkSub b hf) with z | z
  ·exact (ff b hb).2.1 z
  ·exact (ff b hb).2.2.1 z
 funs:=I.stack
 frf:=I.stkFree
def blkS (scope:Scope) (xs:List Str) (N:List Str) (σ:St):St:=List.replicate xs.length none++capS scope N σ
theorem znx (S:CompSc X scope xs) (I:Inv X pins σ H₃ s₃) (ff:∀ b∈fp,FpOk X pins H₃ b) (fl:∀ b∈fp,b<s₃.heap.objs.size) :
  Inv (blk X pins scope xs fp s₃ H₃) [] (blkS scope xs X.N σ) H₃ { s₃ with heap:=pushCells (s₃.heap.push { cls:=.type "dict",data:=.dict #[] }) scope.names }:=by
 have keep:∀ b o,s₃.heap.get? b=some o->(pushCells (s₃.heap.push { cls:=.type "dict",data:=.dict #[] }) scope.names).get? b=some o:=fun b o e=>pushCells_keeps _ _ b o (zyb _ e)
 have cok:=cellsFrom_ok scope.names (s₃.heap.push { cls:=.type "dict",data:=.dict #[] }) (s₃.heap.objs.size+1) [] ⟨fun _ _ hm=>(nomatch hm),List.Pairwise.nil⟩ (by rw [zyo];exact zyl _)
 rw [zyo] at cok
 have hlen:σ.length=X.N.length:=I.len
 refine ⟨zrj S I ff fl,rfl,I.bare,Un.kept keep,⟨fun _=>none,(Heap.Ns.new s₃.heap (.type "dict")).keeps (pushCells_keeps _ _),fun i x v e1 e2 e3=>?_⟩,fun x c h=>?_,I.fresh,fun x c h=>?_,fun p hp=>?_,I.hok.kept keep,?_⟩
 ·have hi:xs.length<=i:=by
   refine Nat.le_of_not_lt fun hlt=>?_
   unfold blkS at e2
   rw [List.getElem?_append_left (by simpa using hlt),List.getElem?_replicate] at e2
   split at e2<;>cases e2
  have e1':(capN scope X.N)[i-xs.length]?=some x:=by
   have e1:(xs++capN scope X.N)[i]?=some x:=e1
   rw [zzl hi] at e1;exact e1
  have e2':(capS scope X.N σ)[i-xs.length]?=some (some v):=by
   unfold blkS at e2
   rw [List.getElem?_append_right (by simpa using hi)] at e2
   simpa using e2
  obtain ⟨hf,j,h1,h2⟩:=znr scope X.N σ e1' e2' hlen
  have hm:=zbr hf
  have hk:=(S.free _ hm rfl).2
  obtain ⟨m,hn,hl⟩:=I.loc
  obtain ⟨u,r,l⟩:=hl j x v h1 h2 (hk.elim (fun z=>.inr (.inl z)) fun z=>.inr (.inr z))
  refine ⟨u,r,?_⟩
  rcases l with ⟨k,_⟩ | ⟨k,c,hc,z⟩
  ·rcases hk with hk | hk<;>rw [hk] at k<;>cases k
  ·refine .inr ⟨?_,c,?_,?_⟩
   ·show (blk X pins scope xs fp s₃ H₃).env.scope.names.lookup x=_\/(blk X pins scope xs fp s₃ H₃).env.scope.names.lookup x=_
    rw [zca,hf]
    dsimp only
    split
    ·exact .inl rfl
    ·exact .inr rfl
   ·show (cellsFrom (s₃.heap.objs.size+1) scope.names (za2 X.env scope.names [])).lookup x=some c
    have e0:(cellsFrom (s₃.heap.objs.size+1) scope.names []).lookup x=none:=by
     cases q:(cellsFrom (s₃.heap.objs.size+1) scope.names []).lookup x with
     | none=>rfl
     | some d =>
      have:=S.cel _ (zc7 scope.names _ (PySem.mem_of_lookup q)).2 rfl
      rw [hf] at this;cases this
    rw [zb5,List.lookup_append,e0,clos_get (S.has I.ok) hm]
    exact hc
   ·obtain ⟨o,ho,hd⟩:=z
    exact ⟨o,keep c o ho,hd⟩
 ·rcases zcl S I.ok h with ⟨_,a2,_⟩ | ⟨_,a2⟩
  ·exact ⟨_,(cok.empty x c a2).1⟩
  ·obtain ⟨v,o,ho,hd⟩:=I.cell x c a2
   exact ⟨v,o,keep c o ho,hd⟩
 ·rcases zcl S I.ok h with ⟨a1,_⟩ | ⟨_,a2⟩
  ·exact I.hok.fresh (by omega)
  ·exact I.freeC x c a2
 ·have hp':p∈X.pn++pins:=by
   have hp:p∈(X.pn++pins)++[]:=hp
   rw [zy6] at hp;exact hp
  obtain ⟨e,n,ne,nf,d⟩:=I.pin p hp'
  refine ⟨keep p.1 p.2 e,n,zyy (zym e),fun z=>?_,d⟩
  rcases omc (I.stkSub p.1 z) with q | q
  ·exact ne q
  ·exact nf q
 ·unfold blkS
  show _=(xs++capN scope X.N).length
  rw [zyx,zyx,List.length_replicate,zjq scope X.N σ hlen]
theorem zp5 {elt iter tg:Expr} {ifs:List Expr} {pos:Pos} {J:It} {it:Addr} {tn:Nat->Heap->Prop} {H2:Hp} {s2:Shared} {E:Value->Shared->Prop} {g:Shared->Hp->TG} {tc:Shared->Hp->TT} {te:Shared->Hp->TE}
  (hc:X.calm=true) (S:CompSc X scope xs) (I2:Inv X pins σ H2 s2) (T:Turn X.prog X.w X.K tg J fp it tn) (st2:tn 0 s2.heap) (f2:∀ b∈fp,FpOk X pins H2 b)
  (hg:∀ s₃ H₃,(blk X pins scope xs fp s₃ H₃).Ok->PG (blk X pins scope xs fp s₃ H₃) tg (g s₃ H₃))
  (hi:∀ s₃ H₃,(blk X pins scope xs fp s₃ H₃).Ok->∀ (pn:List (Addr × Obj)) (s:Shared) (σ:St) (H:Hp) (Q:Bool->Hp->Prop),Inv (blk X pins scope xs fp s₃ H₃) pn σ H s->tc s₃ H₃ σ H Q ->
   wpAny (model X.prog X.w) X.A (forIn ifs true fun c r=>if r=true then do let ok <- isTrue c (blk X pins scope xs fp s₃ H₃).env (eval c (blk X pins scope xs fp s₃ H₃).env);pure (ForInStep.yield ok) else pure (ForInStep.yield r)) (TP (blk X pins scope xs fp s₃ H₃) pn σ Q) (fun _ _=>False) s)
  (he:∀ s₃ H₃,(blk X pins scope xs fp s₃ H₃).Ok->PE (blk X pins scope xs fp s₃ H₃) elt (te s₃ H₃))
  (W:Addr->Nat->Nat->St->Hp->Prop) (R:Addr->Hp->Prop)
  (start:∀ D,H2 D=none->∃ m,W D 0 m (blkS scope xs X.N σ) (upd H2 D (.lst [])))
  (turn:∀ s₃ H₃ D i m σ' H',(blk X pins scope xs fp s₃ H₃).Ok->W D i m σ' H'->(J.stop i H'/\R D H')\/(J.go i H'/\∃ N:St->Hp->Prop,(∀ σ'' H'',N σ'' H''->∃ m',m'<m/\W D (i+1) m' σ'' H'') /\
   ∀ x H5,J.yld i H' x H5->g s₃ H₃ x σ' H5 fun σ2 H6=>tc s₃ H₃ σ2 H6 fun ok H7=>if ok=true then te s₃ H₃ σ2 H7 fun y H8=>∃ ys,H8 D=some (.lst ys)/\ys.length<sizeLine/\N σ2 (upd H8 D (.lst (ys++[y]))) else N σ2 H7)) :
  wpAny (model X.prog X.w) X.A (newList []) (fun acc s₃=>wpAny (model X.prog X.w) X.A (newFunctionEnv scope X.env.globals (za2 X.env scope.names []) [] X.env.qual none .none (some X.env)) (fun cenv s₄ =>
   codeAny (model X.prog X.w) X.A (.compStart (.ListComp elt [⟨tg,iter,ifs,0⟩] scope pos) 0 (.ref it) acc { cenv with scope:=relabel scope X.env })
    (fun r s'=>r=.ok .next/\∃ D H',acc=.ref D/\Inv X pins σ H' s'/\FpOk X pins H' cenv.locals/\(∃ m,s'.heap.Ns cenv.locals m)/\R D H') s₄) E s₃) E s2:=by
 refine zzb ?_ (by size_fits)
 have I3:Inv X pins σ (upd H2 s2.heap.objs.size (.lst [])) { s2 with heap:=s2.heap.push { cls:=.type "list",data:=.seq ([]:List Value).toArray } }:=I2.lnew (t':=s2.toks) (ys:=[]) (its:=[]) .nil (zy9 _)
 have hD:H2 s2.heap.objs.size=none:=I2.fresh
 have fl2:∀ b∈fp,b<s2.heap.objs.size:=fun b hb=>by
  obtain ⟨o,e,_⟩:=T.obj 0 _ st2 b hb
  exact zym e
 have hsz:(s2.heap.push { cls:=.type "list",data:=.seq ([]:List Value).toArray }).objs.size=s2.heap.objs.size+1:=zyo ..
 have f3:∀ b∈fp,FpOk X pins (upd H2 s2.heap.objs.size (.lst [])) b:=fun b hb=>⟨by rw [zad (zyy (fl2 b hb))];exact (f2 b hb).1,(f2 b hb).2⟩
 have fl3:∀ b∈fp,b<(s2.heap.push { cls:=.type "list",data:=.seq ([]:List Value).toArray }).objs.size:=fun b hb=>by rw [hsz];exact Nat.lt_succ_of_lt (fl2 b hb)
 refine zpl ?_
 generalize hs3:({ s2 with heap:=s2.heap.push { cls:=.type "list",data:=.seq ([]:List Value).toArray } }:Shared)=s3 at I3 fl3 ⊢
 have fl3:∀ b∈fp,b<s3.heap.objs.size:=by rw [<- hs3];exact fl3
 have st3:tn 0 s3.heap:=T.keep 0 _ _ st2 fun b _ o e=>by rw [<- hs3];exact zyb _ e
 generalize hH3:upd H2 s2.heap.objs.size (.lst [])=H3 at I3 f3
 obtain ⟨m0,w0⟩:=start s2.heap.objs.size hD
 rw [hH3] at w0
 generalize hDD:s2.heap.objs.size=D at w0
 have BOk:=zrj (fp:=fp) S I3 f3 fl3
 have I4:=znx (fp:=fp) S I3 f3 fl3
 have hg':=hg s3 H3 BOk
 have hi':=hi s3 H3 BOk
 have he':=he s3 H3 BOk
 have st4:tn 0 (pushCells (s3.heap.push { cls:=.type "dict",data:=.dict #[] }) scope.names):=T.keep 0 _ _ st3 fun b _ o e=>pushCells_keeps _ _ b o (zyb _ e)
 have stat:∀ {H':Hp} {pn:List (Addr × Obj)},pn=[]->(∀ b∈fp,H' b=none)->∀ b∈fp,FpOk (blk X pins scope xs fp s3 H3) pn H' b:=fun {H' pn} hp hn b hb=>by
  subst hp
  refine ⟨hn b hb,(BOk.exf b hb).1,BOk.exfs b hb,.inl hb,(BOk.exf b hb).2,fun p hp=>?_⟩
  have hp:p∈(X.pn++pins)++[]:=hp
  rw [zy6] at hp
  exact (f3 b hb).2.2.2.2.2 p hp
 have loop:codeAny (model X.prog X.w) X.A (.compLoop (.ListComp elt [⟨tg,iter,ifs,0⟩] scope pos) 0 (.ref it) (.ref D) (blk X pins scope xs fp s3 H3).env)
   (fun r s'=>r=.ok .next/\∃ D' H',Value.ref D=.ref D'/\Inv X pins σ H' s'/\FpOk X pins H' s3.heap.objs.size/\(∃ m,s'.heap.Ns s3.heap.objs.size m)/\R D' H') { s3 with heap:=pushCells (s3.heap.push { cls:=.type "dict",data:=.dict #[] }) scope.names }:=by
  refine codeAny_loop rfl (fun n s'=>∃ i σ' H',Inv (blk X pins scope xs fp s3 H3) [] σ' H' s'/\tn i s'.heap/\(∀ b∈fp,H' b=none)/\W D i n σ' H') ?_ m0 ⟨0,_,_,I4,st4,fun b hb=>(f3 b hb).1,w0⟩
  rintro n s5 ⟨i,σ5,H5,I5,st5,fr5,w5⟩
  show wpAny _ X.A ((compTurn (.ListComp elt [⟨tg,iter,ifs,0⟩] scope pos) 0 (.ref it) (.ref D) (blk X pins scope xs fp s3 H3).env).onRaise (fun x=>do noteFrame x (blk X pins scope xs fp s3 H3).env;theTreesLotGoes x)) _ _ s5
  refine wpAny_noted ?_
  rw [compTurn_list]
  refine zyc (wpAny_standAt (zyc ?_))
  rcases turn s3 H3 D i n σ5 H5 BOk w5 with ⟨stop,q⟩ | ⟨go,N,hN,step⟩
  ·refine thn (T.done (blk X pins scope xs fp s3 H3) rfl rfl rfl hc i [] s5 σ5 H5 _ I5 (stat rfl fr5) st5 stop) fun r s6 ⟨hr,I6⟩=>?_
   subst hr
   refine zyf ⟨rfl,D,H5,rfl,?_,?_,?_,q⟩
   ·exact I3.call' I6.os I6.base I6.hok I6.bare fun b hb=>⟨(f3 b hb).2.2.2.1,(f3 b hb).2.1,(f3 b hb).2.2.2.2.1,(f3 b hb).2.2.2.2.2⟩
   ·exact I3.fpOk (zyl _) I6.free
   ·obtain ⟨m,hn,_⟩:=I6.loc
    exact ⟨m,hn⟩
  ·refine thn (T.item (blk X pins scope xs fp s3 H3) rfl rfl rfl hc i [] s5 σ5 H5 _ I5 (stat rfl fr5) st5 go) fun r s6 ⟨u,hr,h6⟩=>?_
   subst hr
   refine zyc (thn h6 fun _ s7 ⟨x,H7,I7,r7,y7,st7,fr7⟩=>?_)
   have I7':=I7.pinned (stat rfl fr7) (T.obj _ _ st7)
   have hl:∀ {α:Type} {t:Sem α} {Q:α->Shared->Prop} {E':Value->Shared->Prop} {s:Shared},wpAny (model X.prog X.w) X.A t Q (fun _ _=>False) s->wpAny (model X.prog X.w) X.A t Q E' s:=fun h=>zzw h (fun _ _ q=>q) fun _ _ z=>False.elim z
   refine zyc (hl (thn (hg' _ s7 σ5 H7 x u _ I7' r7 (step x H7 y7)) fun _ s8 ⟨σ8,H8,I8,q8⟩=>?_))
   refine zyc (hl (thn (hi' _ s8 σ8 H8 _ I8 q8) fun ok s9 ⟨H9,I9,q9⟩=>?_))
   have again:∀ {σ7:St} {H7':Hp} {s7':Shared},Inv (blk X pins scope xs fp s3 H3) ([]++pinsAt fp s7.heap) σ7 H7' s7'->N σ7 H7'->∃ m,m<n/\∃ i σ' H',Inv (blk X pins scope xs fp s3 H3) [] σ' H' s7'/\tn i s7'.heap/\(∀ b∈fp,H' b=none)/\W D i m σ' H':=fun {σ7 H7' s7'} I8 n8=>by
    obtain ⟨m',hm,w8⟩:=hN σ7 H7' n8
    refine ⟨m',hm,i+1,σ7,H7',I8.unpinned,T.keep _ _ _ st7 fun b hb o e=>(I8.pin (b,o) (zy3 _ (zy3 _ (zcj hb e)))).1,fun b hb=>?_,w8⟩
    obtain ⟨o,e,d⟩:=T.obj _ _ st7 b hb
    exact (I8.pin (b,o) (zy3 _ (zy3 _ (zcj hb e)))).2.1
   cases ok with
   | false =>
    rw [if_neg zyz] at q9
    exact zyf ⟨rfl,again I9 q9⟩
   | true =>
    rw [if_pos rfl] at q9
    refine zyc (zyc (hl (thn (he' _ s9 σ8 H9 _ I9 q9) fun y s10 ⟨yv,H10,I10,r10,ys,e10,z10,q10⟩=>?_)))
    refine zyc (hl (thn (zgf (X:=blk X pins scope xs fp s3 H3) _ s10 σ8 H10 (.ref D) [yv] (.ref D) [y] (fun _ H'=>N σ8 H') I10 rfl (.cons r10 .nil) ⟨D,ys,yv,rfl,rfl,e10,z10,q10⟩) fun _ s11 ⟨_,H11,I11,_,q11⟩=>?_))
    exact zyf (zyf ⟨rfl,again I11 q11⟩)
 exact codeAny_compStart_list loop (T.self X.A 0 _ _ _ st4 loop)
end
end L2
end
end
end
noncomputable section
noncomputable section
noncomputable section
namespace L2
open PySem PySem.Spec PyProof.Rows
variable {P:Program} {w:World} {K:PySem.W.Frag} {elts:List Expr} {kx:Nat} {pos:Pos}
section
variable {X:Cx} {pins:List (Addr × Obj)} {σ:St} {H:Hp} {s:Shared} {h':Heap}
theorem Inv.turned2 {it e T:Addr} {xs:List V} {t':Nat} (I:Inv X pins σ H s) (k:∀ b o,b≠e->b≠it->s.heap.get? b=some o->h'.get? b=some o) (fe:FpOk X pins H e) (fi:FpOk X pins H it)
  (hT:s.heap.objs.size<=T) (new:ObjOk X.prog X.w (upd H T (.tup xs)) h' T (.tup xs)):Inv X pins σ (upd H T (.tup xs)) { s with heap:=h',toks:=t' }:=by
 have hn:H T=none:=I.hok.fresh hT
 have nT:∀ {b:Addr} {o:Obj},s.heap.get? b=some o->b≠T:=fun {b o} q=>zyy (zyq (zym q) hT)
 have nch:∀ {b:Addr},b∉[e,it]->b≠e/\b≠it:=fun {b} h=>⟨fun z=>h (by simp [z]),fun z=>h (by simp [z])⟩
 have nfp:∀ {b:Addr} {u:HO},H b=some u->b≠e/\b≠it:=fun {b u} q=>⟨fun z=>(by rw [z,fe.1] at q;cases q),fun z=>(by rw [z,fi.1] at q;cases q)⟩
 refine I.step (g':=s.gens) (d':=s.drawn) (ch:=[e,it]) (fun b hb=>?_) (fun b o _ _ hc q _=>k b o (nch hc).1 (nch hc).2 q) (fun b o _ _ hc q _=>⟨o.slots,k b o (nch hc).1 (nch hc).2 q⟩)
  (fun b o hc q z=>by rw [zad (nT q)];exact z) (fun b o hc q=>⟨o,k b o (nch hc).1 (nch hc).2 q⟩)
  (fun b ys q=>by rw [zad (zac q hn)];exact q) (fun b o u q=>by rw [zad (zac q hn)];exact q) (fun b ps q=>⟨#[],by rw [zad (zac q hn),q];simp⟩) (fun m hm=>?_) (fun b u q=>?_) I.bare
 ·rcases omc hb with z | z
  ·rw [z];exact ⟨fe.2.2.2.1,fe.2.1,fe.2.2.2.2.1,fe.2.2.2.2.2⟩
  ·rw [omg z];exact ⟨fi.2.2.2.1,fi.2.1,fi.2.2.2.2.1,fi.2.2.2.2.2⟩
 ·obtain ⟨o,es,ep,ho,r⟩:=hm
  exact ⟨o,es,ep,k _ o (Ne.symm fe.2.1) (Ne.symm fi.2.1) ho,r⟩
 ·by_cases hb:b=T
  ·subst hb;rw [zae] at q;cases q;exact new
  ·rw [zad hb] at q
   refine (I.hok b u q).stay (fun c v hc z=>?_) (fun c z=>by rw [zad (zac z hn)];exact z) fun c ys z=>by rw [zad (zac z hn)];exact z
   rcases hc with rfl | hc
   ·exact k c v (nfp q).1 (nfp q).2 z
   ·exact k c v (nfp hc).1 (nfp hc).2 z
end
def Ite (sq:Hp->Addr->List V->Prop) (a:Addr):It :=
 ⟨fun i H=>∃ xs x,sq H a xs/\xs[i]?=some x,fun i H x H'=>∃ p v,H p=none/\x=.ref p/\H'=upd H p (.tup [.int (i:Int),v])/\∀ xs,sq H a xs->xs[i]?=some v,fun i H=>∃ xs,sq H a xs/\xs.length=i⟩
theorem zj1 (a it e:Addr) (hei:e≠it) :
  Turn P w K (.Tuple elts kx pos) (Ite (SqL K) a) [e,it] e (fun i h=>(∃ old,IsEnum h e it (i:Int) old)/\h.IsListIter it a i) where
 mem:=by simp
 obj:=fun i h st b hb=>by
  obtain ⟨⟨old,he⟩,o,ho,hc,hd⟩:=st
  rcases omc hb with z | z
  ·rw [z];exact ⟨_,he,fun v q=>by cases q⟩
  ·rw [omg z];exact ⟨o,ho,fun v q=>by rw [hd] at q;cases q⟩
 keep:=fun i h h' st k=>by
  obtain ⟨⟨old,he⟩,o,ho,r⟩:=st
  exact ⟨⟨old,k e (by simp) _ he⟩,o,k it (by simp) o ho,r⟩
 item:=by
  intro X hP hw hK hc i pins s σ H E I hf st hg
  subst hP hw hK
  obtain ⟨xs,x,hq,hx⟩:=hg
  obtain ⟨⟨old,he⟩,hit⟩:=st
  obtain ⟨its,rv,p,hz⟩:=I.list hq
  obtain ⟨u,hu,ru⟩:=rv.get hx
  have fe:=hf e (by simp)
  have fi:=hf it (by simp)
  obtain ⟨ol,hol,hcl,_⟩:=id p.isList
  obtain ⟨oi,hoi,hci,_⟩:=id hit
  have hai:a≠it:=fun z=>by
   rw [z,hoi] at hol;cases hol
   rw [hci] at hcl;exact absurd hcl (by decide +kernel)
  have hae:e≠a:=fun z=>by
   have he':s.heap.get? e=_:=he
   rw [z,hol] at he';cases he'
   exact absurd hcl (by show Value.type "enumerate"≠Value.type "list";decide +kernel)
  have D:=Draws.list (prog:=X.prog) (w:=X.w) (A:=X.A.in1) (show X.A.in1.handled=none from I.ok.hd hc) it a hai its.toArray
  have hlt:i<its.toArray.size:=by
   have:=rv.length
   have h2:=(ome hx).1
   rw [zyk];omega
  refine wpAny_pyNext_enum_itemD D he ⟨hit,p.isList⟩ hlt hei (fun z=>(omc z).elim hei fun q=>hae (omg q)) fun x' h1 tk hPx ho st1 hT hsz hk=>?_
  refine ⟨_,rfl,wpAny_letOwnedTupleGo_enum ho fun h2 he2 hs2=>?_⟩
  have hx':x'=u:=by
   have hPx:its.toArray[i]?=some x':=hPx
   have:its[i]?=some x':=by simpa using hPx
   rw [hu] at this;exact (zy5 this).symm
  subst hx'
  have hk2:∀ b o,b≠e->b≠it->s.heap.get? b=some o->h2.get? b=some o:=fun b o hbe hbi q=>(hs2.2 b hbe).trans (hk b o hbe hbi q)
  have hTe:s.heap.objs.size≠e:=Nat.ne_of_gt (zym he)
  have I1:Inv X pins σ (upd H s.heap.objs.size (.tup [.int (i:Int),x])) { s with heap:=h2,toks:=tk+1 }:=I.turned2 hk2 fe fi (zyl _)
   ⟨by show 2<=sizeLine;decide,[.int (i:Int) tk,x'],.cons ⟨_,rfl⟩ (.cons ru .nil),⟨_,(hs2.2 _ hTe).trans hT,rfl,_,rfl⟩⟩
  refine ⟨.ref s.heap.objs.size,_,I1,rfl,⟨_,x,I.fresh,rfl,rfl,fun ys hy=>by rw [I.list_inj hy hq];exact hx⟩,⟨⟨_,by simpa using he2⟩,?_⟩,fun b hb=>?_⟩
  ·obtain ⟨o,ho',r⟩:=st1.1
   exact ⟨o,(hs2.2 it (Ne.symm hei)).trans ho',r⟩
  ·have hb0:=(hf b hb).1
   have hbl:b<s.heap.objs.size:=by
    rcases omc hb with z | z
    ·rw [z];exact zym he
    ·rw [omg z];exact zym hoi
   rw [zad (zyy hbl)];exact hb0
 done:=by
  intro X hP hw hK hc i pins s σ H E I hf st hg
  subst hP hw hK
  obtain ⟨xs,hq,hx⟩:=hg
  obtain ⟨⟨old,he⟩,hit⟩:=st
  obtain ⟨its,rv,p,hz⟩:=I.list hq
  obtain ⟨ol,hol,hcl,_⟩:=id p.isList
  obtain ⟨oi,hoi,hci,_⟩:=id hit
  have hai:a≠it:=fun z=>by
   rw [z,hoi] at hol;cases hol
   rw [hci] at hcl;exact absurd hcl (by decide +kernel)
  have D:=Draws.list (prog:=X.prog) (w:=X.w) (A:=X.A.in1) (show X.A.in1.handled=none from I.ok.hd hc) it a hai its.toArray
  have hl:its.toArray.size=i:=by rw [zyk,<- rv.length];exact hx
  obtain ⟨f0,f1,f2,f3,f4,f5⟩:=hf it (by simp)
  refine wpAny_pyNext_enum_endD D he (by rw [hl];exact ⟨hit,p.isList⟩) fun h1 eb=>⟨rfl,I.turned (t':=s.toks) (fun b o hb q=>eb b o hb q) f0 f1 f3 f4 f5⟩
 self:=fun _ _ _ _ _ st h=>by
  obtain ⟨⟨old,he⟩,_⟩:=st
  exact wpAny_pyIter_enum he h
theorem zj0 (a it e:Addr) (hei:e≠it) :
  Turn P w K (.Tuple elts kx pos) (Ite (SqT K) a) [e,it] e (fun i h=>(∃ old,IsEnum h e it (i:Int) old)/\h.IsTupleIter it a i) where
 mem:=by simp
 obj:=fun i h st b hb=>by
  obtain ⟨⟨old,he⟩,o,ho,hc,hd⟩:=st
  rcases omc hb with z | z
  ·rw [z];exact ⟨_,he,fun v q=>by cases q⟩
  ·rw [omg z];exact ⟨o,ho,fun v q=>by rw [hd] at q;cases q⟩
 keep:=fun i h h' st k=>by
  obtain ⟨⟨old,he⟩,o,ho,r⟩:=st
  exact ⟨⟨old,k e (by simp) _ he⟩,o,k it (by simp) o ho,r⟩
 item:=by
  intro X hP hw hK hc i pins s σ H E I hf st hg
  subst hP hw hK
  obtain ⟨xs,x,hq,hx⟩:=hg
  obtain ⟨⟨old,he⟩,hit⟩:=st
  obtain ⟨its,rv,p,hz⟩:=I.tuple hq
  obtain ⟨u,hu,ru⟩:=rv.get hx
  have fe:=hf e (by simp)
  have fi:=hf it (by simp)
  obtain ⟨ol,hol,hcl,_⟩:=id p
  obtain ⟨oi,hoi,hci,_⟩:=id hit
  have hai:a≠it:=fun z=>by
   rw [z,hoi] at hol;cases hol
   rw [hci] at hcl;exact absurd hcl (by decide +kernel)
  have hae:e≠a:=fun z=>by
   have he':s.heap.get? e=_:=he
   rw [z,hol] at he';cases he'
   exact absurd hcl (by show Value.type "enumerate"≠Value.type "tuple";decide +kernel)
  have D:=zcp (prog:=X.prog) (w:=X.w) (A:=X.A.in1) (show X.A.in1.handled=none from I.ok.hd hc) it a hai its.toArray
  have hlt:i<its.toArray.size:=by
   have:=rv.length
   have h2:=(ome hx).1
   rw [zyk];omega
  refine wpAny_pyNext_enum_itemD D he ⟨hit,(show s.heap.IsTuple a its.toArray from p)⟩ hlt hei (fun z=>(omc z).elim hei fun q=>hae (omg q)) fun x' h1 tk hPx ho st1 hT hsz hk=>?_
  refine ⟨_,rfl,wpAny_letOwnedTupleGo_enum ho fun h2 he2 hs2=>?_⟩
  have hx':x'=u:=by
   have hPx:its.toArray[i]?=some x':=hPx
   have:its[i]?=some x':=by simpa using hPx
   rw [hu] at this;exact (zy5 this).symm
  subst hx'
  have hk2:∀ b o,b≠e->b≠it->s.heap.get? b=some o->h2.get? b=some o:=fun b o hbe hbi q=>(hs2.2 b hbe).trans (hk b o hbe hbi q)
  have hTe:s.heap.objs.size≠e:=Nat.ne_of_gt (zym he)
  have I1:Inv X pins σ (upd H s.heap.objs.size (.tup [.int (i:Int),x])) { s with heap:=h2,toks:=tk+1 }:=I.turned2 hk2 fe fi (zyl _)
   ⟨by show 2<=sizeLine;decide,[.int (i:Int) tk,x'],.cons ⟨_,rfl⟩ (.cons ru .nil),⟨_,(hs2.2 _ hTe).trans hT,rfl,_,rfl⟩⟩
  refine ⟨.ref s.heap.objs.size,_,I1,rfl,⟨_,x,I.fresh,rfl,rfl,fun ys hy=>by rw [I.tuple_inj hy hq];exact hx⟩,⟨⟨_,by simpa using he2⟩,?_⟩,fun b hb=>?_⟩
  ·obtain ⟨o,ho',r⟩:=st1.1
   exact ⟨o,(hs2.2 it (Ne.symm hei)).trans ho',r⟩
  ·have hb0:=(hf b hb).1
   have hbl:b<s.heap.objs.size:=by
    rcases omc hb with z | z
    ·rw [z];exact zym he
    ·rw [omg z];exact zym hoi
   rw [zad (zyy hbl)];exact hb0
 done:=by
  intro X hP hw hK hc i pins s σ H E I hf st hg
  subst hP hw hK
  obtain ⟨xs,hq,hx⟩:=hg
  obtain ⟨⟨old,he⟩,hit⟩:=st
  obtain ⟨its,rv,p,hz⟩:=I.tuple hq
  obtain ⟨ol,hol,hcl,_⟩:=id p
  obtain ⟨oi,hoi,hci,_⟩:=id hit
  have hai:a≠it:=fun z=>by
   rw [z,hoi] at hol;cases hol
   rw [hci] at hcl;exact absurd hcl (by decide +kernel)
  have D:=zcp (prog:=X.prog) (w:=X.w) (A:=X.A.in1) (show X.A.in1.handled=none from I.ok.hd hc) it a hai its.toArray
  have hl:its.toArray.size=i:=by rw [zyk,<- rv.length];exact hx
  obtain ⟨f0,f1,f2,f3,f4,f5⟩:=hf it (by simp)
  refine wpAny_pyNext_enum_endD D he (by rw [hl];exact ⟨hit,(show s.heap.IsTuple a its.toArray from p)⟩) fun h1 eb=>⟨rfl,I.turned (t':=s.toks) (fun b o hb q=>eb b o hb q) f0 f1 f3 f4 f5⟩
 self:=fun _ _ _ _ _ st h=>by
  obtain ⟨⟨old,he⟩,_⟩:=st
  exact wpAny_pyIter_enum he h
section
variable {X:Cx} {tg:Expr}
def Its (x:Str):It:=⟨fun i _=>i<x.cps.size,fun i H v H'=>H'=H/\∃ c,x.cps[i]?=some c/\v=.str ⟨#[c]⟩,fun i _=>x.cps.size<=i⟩
theorem zoj {tg:Expr} (x:Str) (t:Tok) (it:Addr):Turn P w K tg (Its x) [it] it (fun i h=>h.IsStrIter it "str_ascii_iterator" x t i) where
 mem:=by simp
 obj:=fun i h st b hb=>by
  have e:b=it:=by simpa using hb
  subst e
  obtain ⟨o,e,cl,d⟩:=st
  exact ⟨o,e,fun v z=>by rw [d] at z;cases z⟩
 keep:=fun i h h' st k=>by
  obtain ⟨o,ho,r⟩:=st
  exact ⟨o,k it (by simp) o ho,r⟩
 item:=by
  intro X hP hw hK hc i pins s σ H E I hf st hg
  subst hP hw hK
  have hlt:i<x.cps.size:=hg
  have hx:x.cps[i]?=some x.cps[i]:=by simp [hlt]
  obtain ⟨f0,f1,f2,f3,f4,f5⟩:=hf it (by simp)
  refine wpAny_pyNext_ascii_item st hx fun h' st' sb=>?_
  have I1:Inv X pins σ H { s with heap:=h',toks:=s.toks+1 }:=I.turned (t':=s.toks+1) (fun b o hb e=>(sb.2 b hb).trans e) f0 f1 f3 f4 f5
  obtain ⟨o,e,cl,d⟩:=id st'
  exact ⟨_,rfl,zpx (s:={ s with heap:=h',toks:=s.toks+1 }) e cl d (by decide) ⟨.str ⟨#[x.cps[i]]⟩,H,I1,⟨_,rfl⟩,⟨rfl,x.cps[i],hx,rfl⟩,st',fun b hb=>(hf b hb).1⟩⟩
 done:=by
  intro X hP hw hK hc i pins s σ H E I hf st hg
  subst hP hw hK
  have hge:x.cps.size<=i:=hg
  obtain ⟨f0,f1,f2,f3,f4,f5⟩:=hf it (by simp)
  exact wpAny_pyNext_ascii_end (I.ok.hd hc) st (by simp;omega) fun h' eb=>⟨rfl,I.turned (t':=s.toks) (fun b o hb e=>eb b o hb e) f0 f1 f3 f4 f5⟩
 self:=fun _ _ _ _ _ st h=>wpAny_pyIter_striter_ascii st h
theorem zvf {l:Expr} {tl:TE} (hl:PE X l tl):PI X tg l (fun σ H R=>tl σ H fun x H1=>(∃ a,x=.ref a/\((∃ xs,SqL X.K H1 a xs/\R (Itl X.K a) H1)\/∃ xs,SqT X.K H1 a xs/\R (Itt X.K a) H1))\/∃ z,x=.str z/\z.cps.all (·<128)=true/\R (Its z) H1):=by
 intro pins s σ H R I h
 refine thn (hl pins s σ H _ I h) fun v s1 ⟨x,H1,I1,r1,q1⟩=>?_
 have fp:∀ b∈[s1.heap.objs.size],FpOk X pins H1 b:=fun b hb=>by
  have e:b=s1.heap.objs.size:=by simpa using hb
  subst e
  exact I1.fpOk (zyl _) (I1.hok.fresh (zyl _))
 rcases q1 with ⟨a,e,q1⟩ | ⟨z,e,ha,q⟩
 ·subst e
  cases r1
  rcases q1 with ⟨xs,hq,q⟩ | ⟨xs,hq,q⟩
  ·obtain ⟨its,rv,p,hz⟩:=I1.list hq
   refine wpAny_pyIter_list p.isList ?_
   exact ⟨s1.heap.objs.size,[s1.heap.objs.size],_,_,H1,rfl,I1.kept (t':=s1.toks) fun b o e=>zyb _ e,zk1 a _,⟨_,zyg _ rfl,rfl,rfl⟩,fp,q⟩
  ·obtain ⟨its,rv,p,hz⟩:=I1.tuple hq
   refine wpAny_pyIter_tuple (show s1.heap.IsTuple a its.toArray from p) ?_
   exact ⟨s1.heap.objs.size,[s1.heap.objs.size],_,_,H1,rfl,I1.kept (t':=s1.toks) fun b o e=>zyb _ e,zjy a _,⟨_,zyg _ rfl,rfl,rfl⟩,fp,q⟩
 ·subst e
  obtain ⟨tk,rfl⟩:=r1
  refine wpAny_pyIter_ascii ha ?_
  exact ⟨s1.heap.objs.size,[s1.heap.objs.size],_,_,H1,rfl,I1.kept (t':=s1.toks) fun b o e=>zyb _ e,zoj z tk _,⟨_,zyg _ rfl,rfl,rfl⟩,fp,q⟩
theorem zsr {a:Expr} {ta:TA} {p p2:Pos} (hg:Gl X "enumerate") (hm:X.mg "enumerate"=none) (ha:PA X [a] ta) (hs:starEach [a] X.env=[(false,eval a X.env)]) :
  PI X (.Tuple elts kx p2) (.Call (.Name "enumerate" p) [a] [] pos) (fun σ H R=>ta σ H fun vs H1=>∃ a,vs=[.ref a]/\((∃ xs,SqL X.K H1 a xs/\R (Ite (SqL X.K) a) H1)\/∃ xs,SqT X.K H1 a xs/\R (Ite (SqT X.K) a) H1)):=by
 intro pins s σ H R I h
 refine Call_ (zew I hg hm boot_enumerate (PyProof.Rows.callWith_type1 (thn (ha pos pins s σ H _ I h) fun us s1 ⟨vs,H1,I1,r1,q1⟩=>?_) hs rfl))
 obtain ⟨l,e,q1⟩:=q1
 subst e
 obtain ⟨u,rfl,rx⟩:=vals1 r1
 cases rx
 have fin:∀ {h':Heap} {J:It} {tn:Nat->Heap->Prop},(∀ b o,s1.heap.get? b=some o->h'.get? b=some o)->h'.objs.size=s1.heap.objs.size+2 ->
   Turn X.prog X.w X.K (.Tuple elts kx p2) J [s1.heap.objs.size+1,s1.heap.objs.size] (s1.heap.objs.size+1) tn->tn 0 h'->R J H1->PIE X pins σ (.Tuple elts kx p2) R (.ref (s1.heap.objs.size+1)) { s1 with heap:=h' }:=fun {h' J tn} hk hsz T st q=>by
  refine ⟨s1.heap.objs.size+1,[s1.heap.objs.size+1,s1.heap.objs.size],tn,J,H1,rfl,I1.kept (t':=s1.toks) hk,T,st,fun b hb=>?_,q⟩
  rcases omc hb with z | z
  ·rw [z];exact I1.fpOk (Nat.le_succ _) (I1.hok.fresh (Nat.le_succ _))
  ·rw [omg z];exact I1.fpOk (zyl _) (I1.hok.fresh (zyl _))
 have hne:s1.heap.objs.size+1≠s1.heap.objs.size:=Nat.succ_ne_self _
 rcases q1 with ⟨xs,hq,q⟩ | ⟨xs,hq,q⟩
 ·obtain ⟨its,rv,pl,hz⟩:=I1.list hq
  refine call_enumerate_list pl.isList fun h' he hit hsz hk=>?_
  exact wpAny_pyIter_enum (s:={ s1 with heap:=h' }) he (fin hk hsz (zj1 l s1.heap.objs.size (s1.heap.objs.size+1) hne) ⟨⟨_,by simpa using he⟩,hit⟩ q)
 ·obtain ⟨its,rv,pl,hz⟩:=I1.tuple hq
  refine zeg (show s1.heap.IsTuple l its.toArray from pl) fun h' he hit hsz hk=>?_
  exact wpAny_pyIter_enum (s:={ s1 with heap:=h' }) he (fin hk hsz (zj0 l s1.heap.objs.size (s1.heap.objs.size+1) hne) ⟨⟨_,by simpa using he⟩,hit⟩ q)
end
end L2
end
end
end
noncomputable section
noncomputable section
noncomputable section
namespace Ev
open PySem PySem.W PyProof.Rows
variable {c:Nat->Nat->Bool}
def krun {α:Type} (c:Nat->Nat->Bool):KasT α->α
 | .ret a=>a
 | .ask i j k=>krun c (k (c i j))
def kok {α:Type} (n:Nat) (c:Nat->Nat->Bool):KasT α->Bool
 | .ret _=>true
 | .ask i j k=>decide (i<n)&&decide (j<n)&&kok n c (k (c i j))
theorem zex {α:Type} {n:Nat} {c c':Nat->Nat->Bool} (h:∀ i j,i<n->j<n->c i j=c' i j):∀ t:KasT α,kok n c' t=true->krun c t=krun c' t
 | .ret _,_=>rfl
 | .ask i j k,hk=>by
  rw [kok,zyd,zyd,zyr,zyr] at hk
  rw [krun,krun,h i j hk.1.1 hk.1.2]
  exact zex h _ hk.2
theorem zdk {α:Type} {cmp:Nat->Nat->(Bool->Shared->Prop)->Shared->Prop} {c:Nat->Nat->Bool} {I:Shared->Prop} {n:Nat} (h:∀ i j C s,i<n->j<n->I s->(∀ s',I s'->C (c i j) s')->cmp i j C s) {Q:α->Shared->Prop} :
  ∀ (t:KasT α) (s:Shared),kok n c t=true->I s->(∀ s',I s'->Q (krun c t) s')->t.kasWp cmp Q s
 | .ret _,s,_,hi,q=>q s hi
 | .ask i j k,s,hk,hi,q=>by
  rw [kok,zyd,zyd,zyr,zyr] at hk
  exact h i j _ s hk.1.1 hk.1.2 hi fun s' hi'=>zdk h (k (c i j)) s' hk.2 hi' q
def ix2 (i j:Nat):Nat:=j*(j-1)/2+i
def ct (t:List Bool) (i j:Nat):Bool:=if i<j then t.getD (ix2 i j) false else if j<i then !(t.getD (ix2 j i) false) else false
def consB (n:Nat) (t:List Bool):Bool:=(List.range n).all fun i=>(List.range n).all fun j=>(List.range n).all fun k=>!(ct t i j&&ct t j k)||ct t i k
def ascB (c:Nat->Nat->Bool):List Nat->Bool
 | []=>true
 | x::r=>(r.all fun y=>c x y)&&ascB c r
def goodB (n:Nat) (t:List Bool):Bool:=kok n (ct t) (kas_sort n)&&(let p:=(krun (ct t) (kas_sort n)).toList;decide (p.length=n)&&((List.range n).all fun i=>p.contains i)&&(p.all fun i=>decide (i<n))&&ascB (ct t) p)
def allT:Nat->List (List Bool)
 | 0=>[[]]
 | m+1=>(allT m).map (true::·)++(allT m).map (false::·)
theorem zd2:∀ (t:List Bool),t∈allT t.length
 | []=>.head _
 | true::t=>List.mem_append_left _ (List.mem_map_of_mem (zd2 t))
 | false::t=>zy3 _ (List.mem_map_of_mem (zd2 t))
theorem good5:((allT 10).all fun t=>!consB 5 t||goodB 5 t)=true:=by decide +kernel
theorem good4:([2,3,4].all fun n=>(allT 6).all fun t=>!consB n t||goodB n t)=true:=by decide +kernel
def tabC (c:Nat->Nat->Bool):List Bool:=[c 0 1,c 0 2,c 1 2,c 0 3,c 1 3,c 2 3,c 0 4,c 1 4,c 2 4,c 3 4]
theorem zw1 {n:Nat} (hn:n<=5) (irr:∀ i,i<n->c i i=false) (tot:∀ i j,i<j->j<n->c j i=!c i j) {t:List Bool} (ht:∀ i j,i<j->j<n->t.getD (ix2 i j) false=c i j) (i j:Nat) (hi:i<n) (hj:j<n):c i j=ct t i j:=by
 unfold ct
 by_cases h:i<j
 ·rw [if_pos h,ht i j h hj]
 ·rw [if_neg h]
  by_cases h2:j<i
  ·rw [if_pos h2,ht j i h2 hi,tot j i h2 hi]
  ·rw [if_neg h2,show j=i by omega];exact irr i hi
theorem zrq (i j:Nat) (h:i<j) (hj:j<5):(tabC c).getD (ix2 i j) false=c i j:=by
 match j,hj with
 | 0,_=>omega
 | 1,_=>obtain rfl:i=0:=by omega
        rfl
 | 2,_=>rcases (by omega:i=0\/i=1) with rfl | rfl<;>rfl
 | 3,_=>rcases (by omega:i=0\/i=1\/i=2) with rfl | rfl | rfl<;>rfl
 | 4,_=>rcases (by omega:i=0\/i=1\/i=2\/i=3) with rfl | rfl | rfl | rfl<;>rfl
theorem zgh {α:Type} {n:Nat} {c c':Nat->Nat->Bool} (h:∀ i j,i<n->j<n->c i j=c' i j):∀ t:KasT α,kok n c' t=true->kok n c t=true
 | .ret _,_=>rfl
 | .ask i j k,hk=>by
  rw [kok,zyd,zyd,zyr,zyr] at hk
  rw [kok,h i j hk.1.1 hk.1.2,zgh h _ hk.2,zyw hk.1.1,zyw hk.1.2]
  rfl
theorem zn6 {c:Nat->Nat->Bool}:∀ {l:List Nat},ascB c l=true->l.Pairwise fun x y=>c x y=true
 | [],_=>.nil
 | x::r,h=>by
  rw [ascB,zyd] at h
  exact .cons (fun y hy=>oml h.1 y hy) (zn6 h.2)
theorem zmt {n:Nat} (h2:2<=n) (h5:n<=5) (irr:∀ i,i<n->c i i=false) (tot:∀ i j,i<j->j<n->c j i=!c i j) (tr:∀ i j k,i<n->j<n->k<n->c i j=true->c j k=true->c i k=true) :
  kok n c (kas_sort n)=true/\(krun c (kas_sort n)).toList.length=n/\(∀ i,i<n->i∈(krun c (kas_sort n)).toList)/\(∀ i∈(krun c (kas_sort n)).toList,i<n)/\(krun c (kas_sort n)).toList.Pairwise fun x y=>c x y=true:=by
 have key:∃ t:List Bool,(∀ i j,i<j->j<n->t.getD (ix2 i j) false=c i j)/\(!consB n t||goodB n t)=true:=by
  by_cases hn:n=5
  ·subst hn
   exact ⟨tabC c,fun i j h hj=>zrq i j h hj,oml good5 _ (zd2 (tabC c))⟩
  ·refine ⟨(tabC c).take 6,fun i j h hj=>?_,?_⟩
   ·have hj4:j<4:=by omega
    match j,hj4 with
    | 0,_=>omega
    | 1,_=>obtain rfl:i=0:=by omega
           rfl
    | 2,_=>rcases (by omega:i=0\/i=1) with rfl | rfl<;>rfl
    | 3,_=>rcases (by omega:i=0\/i=1\/i=2) with rfl | rfl | rfl<;>rfl
   ·have hm:n∈[2,3,4]:=by simp only [List.mem_cons,List.not_mem_nil,or_false];omega
    exact oml (oml good4 n hm) _ (zd2 ((tabC c).take 6))
 obtain ⟨t,ht,hg⟩:=key
 have e:=zw1 h5 irr tot ht
 have hc:consB n t=true:=by
  unfold consB
  refine List.all_eq_true.mpr fun i hi=>List.all_eq_true.mpr fun j hj=>List.all_eq_true.mpr fun k hk=>?_
  rw [zzo] at hi hj hk
  rw [<- e i j hi hj,<- e j k hj hk,<- e i k hi hk]
  cases q1:c i j with
  | false=>rfl
  | true =>
   cases q2:c j k with
   | false=>rfl
   | true=>rw [tr i j k hi hj hk q1 q2];rfl
 rw [hc] at hg
 have hg:goodB n t=true:=hg
 unfold goodB at hg
 simp only [Bool.and_eq_true,decide_eq_true_eq] at hg
 obtain ⟨g1,⟨⟨g2,g3⟩,g4⟩,g5⟩:=hg
 have er:=zex (n:=n) e (kas_sort n) g1
 rw [er]
 have lt:∀ i∈(krun (ct t) (kas_sort n)).toList,i<n:=fun i hi=>by simpa using oml g4 i hi
 refine ⟨zgh e _ g1,g2,fun i hi=>?_,lt,?_⟩
 ·simpa using oml g3 i (List.mem_range.mpr hi)
 ·exact (zn6 g5).imp_of_mem fun {x y} hx hy h=>by rw [e x y (lt x hx) (lt y hy)];exact h
end Ev
end
end
end
noncomputable section
noncomputable section
noncomputable section
namespace Ev
open PySem PySem.W PySem.Spec PyProof.Rows L2
section
variable {prog:Program} {w:World} {A:Around} {E:Value->Shared->Prop} {s:Shared} {b:Bool} {Q:Bool->Shared->Prop}
theorem zs2 {x y:Key} {v u:Value} (rx:RelV (kV x) v) (ry:RelV (kV y) u) (hs:kSame x y=true) (c:Bool) (h:Q (kLt x y) s):wpAny (model prog w) A (oneLt' c v u) Q E s:=by
 match x,y,hs with
 | .inl i,.inl j,_ =>
  obtain ⟨t,rfl⟩:=rx
  obtain ⟨t',rfl⟩:=ry
  cases c with
  | true=>exact kat_lt_int h
  | false=>exact kat_one _ _ (PyProof.Rows.lt_int h)
 | .inr (some i),.inr (some j),_ =>
  obtain ⟨t,rfl⟩:=rx
  obtain ⟨t',rfl⟩:=ry
  cases c with
  | true=>exact oneLt_str h
  | false=>exact kat_one _ _ (PyProof.Rows.lt_str h)
theorem zwv {x y:Key} {v u:Value} (rx:RelV (kV x) v) (ry:RelV (kV y) u) (hs:kSame x y=true) (h:Q (decide (x=y)) s):wpAny (model prog w) A (eqBool v u) Q E s:=by
 match x,y,hs with
 | .inl i,.inl j,_ =>
  obtain ⟨t,rfl⟩:=rx
  obtain ⟨t',rfl⟩:=ry
  refine wpAny_eqBool_int ?_
  have e:(i==j)=decide ((Sum.inl i:Key)=Sum.inl j):=by
   by_cases q:i=j
   ·subst q;simp
   ·simp [q]
  rw [e];exact h
 | .inr (some i),.inr (some j),_ =>
  obtain ⟨t,rfl⟩:=rx
  obtain ⟨t',rfl⟩:=ry
  refine wpAny_eqBool_str ?_
  have e:decide (i=j)=decide ((Sum.inr (some i):Key)=Sum.inr (some j)):=by
   by_cases q:i=j
   ·subst q;simp
   ·simp [q]
  rw [e];exact h
theorem zi7:∀ (ks ls:List Key) (vs us:List Value) (i:Nat),Vals (ks.map kV) vs->Vals (ls.map kV) us->alike ks ls=true->Q (lexL ks ls) s->KatLex prog w A b false Q (vs.zip us) i s
 | [],[],vs,us,i,hv,hu,_,h=>by
  cases hv
  exact kat_nil h
 | x::ks,y::ls,vs,us,i,hv,hu,ha,h=>by
  rw [alike,zyd] at ha
  cases hv with
  | cons rx hv =>
   cases hu with
   | cons ry hu =>
    rw [List.zip_cons_cons]
    refine kat_cons (zwv rx ry ha.1 ?_)
    rw [lexL] at h
    by_cases e:x=y
    ·rw [if_pos e] at h
     rw [zyw e]
     exact kat_yes (zi7 ks ls _ _ (i+1) hv hu ha.2 h)
    ·rw [if_neg e] at h
     rw [zy0 e]
     exact kat_no (zs2 rx ry ha.1 _ h)
 | [],_::_,_,_,_,_,_,ha,_=>by cases ha
 | _::_,[],_,_,_,_,_,ha,_=>by cases ha
end
end Ev
end
end
end
noncomputable section
noncomputable section
noncomputable section
namespace Ev
open PySem L2
theorem zru {a b:Str} (h:a.cps.toList=b.cps.toList):a=b:=by
 obtain ⟨⟨a⟩⟩:=a
 obtain ⟨⟨b⟩⟩:=b
 cases (show a=b from h)
 rfl
theorem ztl (x:Key):kLt x x=false:=by
 rcases x with a | _ | a
 ·exact zy0 (Int.lt_irrefl a)
 ·rfl
 ·exact zy0 (List.lt_irrefl _)
theorem ztk {x y:Key} (hs:kSame x y=true) (hn:x≠y):kLt y x=!kLt x y:=by
 match x,y,hs with
 | .inl a,.inl b,_ =>
  have:a≠b:=fun e=>hn (by rw [e])
  by_cases h:a<b
  ·rw [show kLt (.inl b) (.inl a)=false from zy0 (by omega),show kLt (.inl a) (.inl b)=true from zyw h];rfl
  ·rw [show kLt (.inl b) (.inl a)=true from zyw (by omega),show kLt (.inl a) (.inl b)=false from zy0 h];rfl
 | .inr (some a),.inr (some b),_ =>
  have hne:a.cps.toList≠b.cps.toList:=fun e=>hn (by rw [zru e])
  by_cases h:a.cps.toList<b.cps.toList
  ·rw [show kLt (.inr (some b)) (.inr (some a))=false from zy0 (List.lt_asymm h),show kLt (.inr (some a)) (.inr (some b))=true from zyw h];rfl
  ·have:b.cps.toList<a.cps.toList:=by
    rcases Nat.lt_trichotomy 0 0 with z | z | z
    ·omega
    ·exact Classical.byContradiction fun q=>hne (List.le_antisymm (List.not_lt.mp q) (List.not_lt.mp h))
    ·omega
   rw [show kLt (.inr (some b)) (.inr (some a))=true from zyw this,show kLt (.inr (some a)) (.inr (some b))=false from zy0 h];rfl
theorem zwm {x y z:Key} (h1:kLt x y=true) (h2:kLt y z=true):kLt x z=true:=by
 match x,y,z with
 | .inl a,.inl b,.inl c=>exact zyw (Int.lt_trans (zy8 h1) (zy8 h2))
 | .inr (some a),.inr (some b),.inr (some c)=>exact zyw (List.lt_trans (zy8 h1) (zy8 h2))
 | .inl _,.inr _,_=>cases h1
 | .inr none,.inl _,_=>cases h1
 | .inr (some _),.inl _,_=>cases h1
 | .inl _,.inl _,.inr _=>cases h2
 | .inr (some _),.inr (some _),.inl _=>cases h2
 | .inr none,.inr _,_=>cases h1
 | .inr (some _),.inr none,_=>cases h1
 | .inr (some _),.inr (some _),.inr none=>cases h2
theorem zdx:∀ ks:List Key,lexL ks ks=false
 | []=>rfl
 | x::ks=>by rw [lexL,if_pos rfl];exact zdx ks
theorem zdw:∀ {ks ls:List Key},alike ks ls=true->ks≠ls->lexL ls ks=!lexL ks ls
 | [],[],_,h=>absurd rfl h
 | x::ks,y::ls,ha,h=>by
  rw [alike,zyd] at ha
  rw [lexL,lexL]
  by_cases e:x=y
  ·subst e
   rw [if_pos rfl,if_pos rfl]
   exact zdw ha.2 fun q=>h (by rw [q])
  ·rw [if_neg e,if_neg (Ne.symm e)]
   exact ztk ha.1 e
 | [],_::_,ha,_=>by cases ha
 | _::_,[],ha,_=>by cases ha
theorem zfh:∀ {a b c:List Key},alike a b=true->alike b c=true->lexL a b=true->lexL b c=true->lexL a c=true
 | x::a,y::b,z::c,h1,h2,l1,l2=>by
  rw [alike,zyd] at h1 h2
  rw [lexL] at l1 l2 ⊢
  by_cases e1:x=y
  ·subst e1
   rw [if_pos rfl] at l1
   by_cases e2:x=z
   ·subst e2
    rw [if_pos rfl] at l2 ⊢
    exact zfh h1.2 h2.2 l1 l2
   ·rw [if_neg e2] at l2 ⊢
    exact l2
  ·rw [if_neg e1] at l1
   by_cases e2:y=z
   ·subst e2
    rw [if_neg e1];exact l1
   ·rw [if_neg e2] at l2
    have l3:=zwm l1 l2
    by_cases e3:x=z
    ·subst e3;rw [ztl] at l3;cases l3
    ·rw [if_neg e3];exact l3
 | [],_,_,_,_,l1,_=>by simp [lexL] at l1
 | _::_,[],_,_,_,l1,_=>by cases l1
 | _::_,_::_,[],_,_,_,l2=>by cases l2
end Ev
end
end
end
noncomputable section
noncomputable section
noncomputable section
namespace Ev
open PySem PySem.W PySem.Spec PyProof.Rows L2
theorem zht {prog:Program} {w:World} {A:Around} {s:Shared} {b:Bool} {vs:List Value} {kss:List (List Key)} {Q:Array Nat->Shared->Prop} (hl:vs.length=kss.length) (h2:2<=kss.length) (h5:kss.length<=5) (nd:kss.Nodup)
  (al:∀ x∈kss,∀ y∈kss,alike x y=true)
  (hp:∀ i,i<kss.length->∃ a o its n,vs.getD i .none=.ref a/\s.heap.get? a=some o/\o.data=.seq its n/\Vals ((kss.getD i []).map kV) its.toList)
  (q:∀ p:Array Nat,p.toList.length=kss.length->(∀ i,i<kss.length->i∈p.toList)->(∀ i∈p.toList,i<kss.length)->(p.toList.Pairwise fun i j=>lexL (kss.getD i []) (kss.getD j [])=true)->Q p s) :
  (kas_sort vs.length).kasWp (kas_ask prog w A (tuples' b) vs) Q s:=by
 rw [hl]
 have mem:∀ i,i<kss.length->kss.getD i []∈kss:=fun i hi=>by
  rw [zyp,zyi hi]
  exact List.getElem_mem hi
 have inj:∀ i j,i<kss.length->j<kss.length->kss.getD i []=kss.getD j []->i=j:=fun i j hi hj e=>by
  rw [zyp,zyp,zyi hi,zyi hj] at e
  exact (List.getElem_inj nd).mp e
 have T:=zmt (c:=fun i j=>lexL (kss.getD i []) (kss.getD j [])) h2 h5 (fun i _=>zdx _) (fun i j hij hj=>zdw (al _ (mem i (by omega)) _ (mem j hj)) fun e=>by have:=inj i j (by omega) hj e;omega)
  fun i j k hi hj hk=>zfh (al _ (mem i hi) _ (mem j hj)) (al _ (mem j hj) _ (mem k hk))
 refine zdk (n:=kss.length) (c:=fun i j=>lexL (kss.getD i []) (kss.getD j [])) (I:=fun s'=>s'=s) (fun i j C s' hi hj hs hC=>?_) _ s T.1 rfl (fun s' hs=>by subst hs;exact q _ T.2.1 T.2.2.1 T.2.2.2.1 T.2.2.2.2)
 subst hs
 obtain ⟨a,o,its,n,e1,e2,e3,e4⟩:=hp i hi
 obtain ⟨a',o',its',n',f1,f2,f3,f4⟩:=hp j hj
 show wpAny (model prog w) A (keyLt' (tuples' b) (vs.getD i .none) (vs.getD j .none)) C (fun _ _=>False) s'
 rw [e1,f1]
 have hz:decide (its.size<its'.size)=false:=by
  have l1:=e4.length
  have l2:=f4.length
  have l3:∀ {x y:List Key},alike x y=true->x.length=y.length:=fun {x}=>by
   induction x with
   | nil=>intro y h;cases y with | nil=>rfl | cons _ _=>cases h
   | cons p x ih=>intro y h;cases y with | nil=>cases h | cons r y=>rw [alike,Bool.and_eq_true] at h;simp [ih h.2]
  have:=l3 (al _ (mem i hi) _ (mem j hj))
  rw [zyj] at l1 l2
  have s1:its.toList.length=its.size:=zza
  have s2:its'.toList.length=its'.size:=zza
  exact zy0 (by rw [<- s1,<- s2,<- l1,<- l2,this];exact zy1 _)
 refine kat_lt e2 e3 f2 f3 ?_
 rw [hz]
 exact zi7 _ _ _ _ 0 e4 f4 (al _ (mem i hi) _ (mem j hj)) (hC s' rfl)
end Ev
end
end
end
noncomputable section
noncomputable section
noncomputable section
namespace Ev
open PySem L2
variable {l:List (List Kt)}
theorem zfg {x k:List Kt}:∀ {l:List (List Kt)},x∈insL k l↔x=k\/x∈l
 | []=>by simp [insL]
 | y::r=>by
  rw [insL]
  split
  ·simp
  ·rw [List.mem_cons,zfg (l:=r),List.mem_cons]
   constructor
   ·rintro (h | h | h)
    ·exact .inr (.inl h)
    ·exact .inl h
    ·exact .inr (.inr h)
   ·rintro (h | h | h)
    ·exact .inr (.inl h)
    ·exact .inl h
    ·exact .inr (.inr h)
theorem zaq {x:List Kt}:∀ {l:List (List Kt)},x∈sortL l↔x∈l
 | []=>by simp [sortL]
 | y::r=>by rw [sortL,zfg,zaq (l:=r),List.mem_cons]
theorem zi8 (k:List Kt):∀ l:List (List Kt),(insL k l).length=l.length+1
 | []=>rfl
 | y::r=>by
  rw [insL]
  split
  ·rfl
  ·rw [zyt,zi8 k r,zyt]
theorem zcx:∀ l:List (List Kt),(sortL l).length=l.length
 | []=>rfl
 | y::r=>by rw [sortL,zi8,zcx r,zyt]
theorem zlr {k:List Kt}:∀ {l:List (List Kt)},(∀ x∈l,alike k x=true/\alike x k=true/\k≠x)->(∀ x∈l,∀ y∈l,alike x y=true)->(l.Pairwise fun x y=>lexL x y=true)->(insL k l).Pairwise fun x y=>lexL x y=true
 | [],_,_,_=>by simp [insL]
 | x::r,ha,hb,hp=>by
  rw [insL]
  obtain ⟨h1,h2⟩:=List.pairwise_cons.mp hp
  split
  ·rename_i hk
   refine List.pairwise_cons.mpr ⟨fun y hy=>?_,hp⟩
   rcases omc hy with rfl | hy
   ·exact hk
   ·exact zfh (ha x (.head _)).1 (hb x (.head _) y (.tail _ hy)) hk (h1 y hy)
  ·rename_i hk
   refine List.pairwise_cons.mpr ⟨fun y hy=>?_,zlr (fun z hz=>ha z (.tail _ hz)) (fun z hz u hu=>hb z (.tail _ hz) u (.tail _ hu)) h2⟩
   rcases zfg.mp hy with rfl | hy
   ·have:=zdw (ha x (.head _)).1 (ha x (.head _)).2.2
    rw [this]
    cases h:lexL y x with
    | true=>exact absurd h hk
    | false=>rfl
   ·exact h1 y hy
theorem zch:∀ {l:List (List Kt)},l.Nodup->(∀ x∈l,∀ y∈l,alike x y=true)->(sortL l).Pairwise fun x y=>lexL x y=true
 | [],_,_=>by simp [sortL]
 | k::r,nd,ha=>by
  rw [sortL]
  obtain ⟨h1,h2⟩:=List.nodup_cons.mp nd
  refine zlr (fun x hx=>?_) (fun x hx y hy=>ha x (.tail _ (zaq.mp hx)) y (.tail _ (zaq.mp hy))) (zch h2 fun x hx y hy=>ha x (.tail _ hx) y (.tail _ hy))
  have hx:=zaq.mp hx
  exact ⟨ha k (.head _) x (.tail _ hx),ha x (.tail _ hx) k (.head _),fun e=>h1 (by rw [e];exact hx)⟩
theorem ze9:∀ {l m:List (List Kt)},(∀ x,x∈l↔x∈m)->(∀ x∈l,∀ y∈l,alike x y=true)->(l.Pairwise fun x y=>lexL x y=true)->(m.Pairwise fun x y=>lexL x y=true)->l=m
 | [],[],_,_,_,_=>rfl
 | [],y::m,h,_,_,_=>absurd ((h y).mpr (.head _)) (by simp)
 | x::l,[],h,_,_,_=>absurd ((h x).mp (.head _)) (by simp)
 | x::l,y::m,h,ha,p1,p2=>by
  obtain ⟨a1,a2⟩:=List.pairwise_cons.mp p1
  obtain ⟨b1,b2⟩:=List.pairwise_cons.mp p2
  have e:x=y:=by
   refine Classical.byContradiction fun hne=>?_
   have hx:x∈m:=(omc ((h x).mp (.head _))).resolve_left hne
   have hy:y∈l:=(omc ((h y).mpr (.head _))).resolve_left (Ne.symm hne)
   have:=zdw (ha x (.head _) y (.tail _ hy)) hne
   rw [a1 y hy,b1 x hx] at this
   cases this
  subst e
  have ne1:∀ z∈l,z≠x:=fun z hz e=>by subst e;have:=a1 z hz;rw [zdx] at this;cases this
  have ne2:∀ z∈m,z≠x:=fun z hz e=>by subst e;have:=b1 z hz;rw [zdx] at this;cases this
  rw [ze9 (l:=l) (m:=m) (fun z=>⟨fun hz=>(omc ((h z).mp (.tail _ hz))).resolve_left (ne1 z hz),fun hz=>(omc ((h z).mpr (.tail _ hz))).resolve_left (ne2 z hz)⟩) (fun z hz u hu=>ha z (.tail _ hz) u (.tail _ hu)) a2 b2]
theorem zem {r:List (List Kt)} (h:sortK l=some r):l.length<=5/\l.Nodup/\(∀ x∈l,x≠[]/\∀ y∈l,alike x y=true)/\r=sortL l:=by
 unfold sortK at h
 split at h
 ·rename_i hc
  obtain ⟨c1,c2,c3⟩:=hc
  cases h
  refine ⟨c1,c2,fun x hx=>?_,rfl⟩
  have:=oml c3 x hx
  rw [zyd] at this
  refine ⟨fun e=>?_,fun y hy=>oml this.2 y hy⟩
  rw [e] at this
  exact absurd this.1 (by simp)
 ·cases h
theorem places (nd:l.Nodup) (al:∀ x∈l,∀ y∈l,alike x y=true) {p:List Nat} (h1:∀ i,i<l.length->i∈p) (h2:∀ i∈p,i<l.length) (h3:p.Pairwise fun i j=>lexL (l.getD i []) (l.getD j [])=true) :
  sortL l=p.map fun i=>l.getD i []:=by
 have mem:∀ i,i<l.length->l.getD i []∈l:=fun i hi=>by
  rw [zyp,zyi hi]
  exact List.getElem_mem hi
 refine ze9 (fun x=>?_) (fun x hx y hy=>al x (zaq.mp hx) y (zaq.mp hy)) (zch nd al) (List.pairwise_map.mpr h3)
 rw [zaq,List.mem_map]
 constructor
 ·intro hx
  obtain ⟨i,hi,rfl⟩:=List.getElem_of_mem hx
  exact ⟨i,h1 i hi,by rw [zyp,zyi hi];rfl⟩
 ·rintro ⟨i,hi,rfl⟩
  exact mem i (h2 i hi)
end Ev
end
end
end
noncomputable section
noncomputable section
noncomputable section
namespace Ev
open PySem PySem.W PySem.Spec PyProof.Rows L2
variable {Q:Option Value->Shared->Prop}
def RawD (g:Heap) (d:Addr) (en:Array DictEntry) (ep:Nat):Prop:=∃ o,g.get? d=some o/\o.ExactDict/\o.data=.dict en ep
section
variable {prog:Program} {w:World} {A:Around} {E:Value->Shared->Prop} {s:Shared} {d j:Addr} {en:Array DictEntry} {ep i:Nat}
theorem RawD.ty (r:RawD s.heap d en ep):s.TypeIs (.ref d) "dict":=let ⟨o,a,b,_⟩:=r;⟨o,a,b.1⟩
theorem RawD.to {g g':Heap} (r:RawD g d en ep) (k:∀ o,g.get? d=some o->g'.get? d=some o):RawD g' d en ep:=let ⟨o,a,b⟩:=r;⟨o,k o a,b⟩
theorem zo5 {Q:Value->Shared->Prop} (hm:(d==sysModules)=false) (r:RawD s.heap d en ep)
  (q:Q (.ref s.heap.objs.size) { s with heap:=s.heap.push { cls:=.type "dict_keyiterator",data:=.fields #[.ref d,.int 0 0,.int en.size 0,.int ep 0] } }):wpAny (model prog w) A (pyIter (.ref d)) Q E s:=by
 obtain ⟨o,a,b,c⟩:=id r
 refine wpAny_pyIter_slot r.ty PySem.F.slot_dict_iter (zze PySem.F.slot_dict_iter r.ty PySem.F.entry_dict_iter ?_ (PySem.F.args_dict_iter_1 _))
 unfold Builtin.«dict.__iter__»
 refine zyc ?_
 unfold Builtin.Dict.dictSlotNone
 refine zyc (wpAny_notOrdered_dict r.ty ?_)
 show wpAny _ _ (pure (Value.ref d)) _ _ s
 refine zyf (show wpAny _ _ (Builtin.Dict.showsAll d >>= _) _ _ s from ?_)
 unfold Builtin.Dict.showsAll
 rw [if_neg (by rw [hm];exact zyz)]
 refine zyc (zyf (zyc (wpAny_dictEntries a c (zyc (wpAny_dictEpoch a c ?_)))))
 refine zyc (zzb (zyf ⟨_,rfl, "dict_keyiterator",_,⟨_,zyg _ rfl,rfl⟩,PySem.F.slot_dict_keyiterator_next.lookup,?_⟩))
 simpa [rawInt] using q
theorem zo4 (t:s.heap.IsKeyIter j d i en.size ep) (r:RawD s.heap d en ep) (hi:i<en.size)
  (q:∀ g,g.IsKeyIter j d (i+1) en.size ep->Heap.SameBut j s.heap g->Q (some en[i].key) { s with heap:=g }):wpAny (model prog w) A (pyNext (.ref j)) Q E s:=by
 obtain ⟨o,a,b,c⟩:=id t
 obtain ⟨od,ad,bd,cd⟩:=id r
 unfold pyNext
 refine zyc (zzu (zy7 (name:=Str.ofString "__next__") t.typeIs PySem.F.slot_dict_keyiterator_next (zze PySem.F.slot_dict_keyiterator_next t.typeIs PySem.F.entry_dict_keyiterator_next ?_ (PySem.F.args_dict_keyiterator_next_1 _))))
 refine zyc (zyf (zyc (zyc ?_)))
 first | refine zyc (wpAny_typeNameOfWhole_keyiter t.typeIs (zyf (zyc (wpAny_fieldsOf a c ?_)))) | refine zyc (wpAny_typeNameOf_keyiter t.typeIs (zyf (zyc (wpAny_fieldsOf a c ?_))))
 simp only [show Builtin.Dict_items.ownsTuple "dict_keyiterator"=false by decide,zzh,if_false]
 refine (show wpAny _ _ (if (Value.ref d==Value.none)=true then _ else _) _ _ s from ?_)
 rw [if_neg (show ¬ ((Value.ref d==Value.none)=true) from zyz)]
 refine zyc (zyf (zyc (wpAny_dictEntries ad cd ?_)))
 rw [if_neg (by simp)]
 refine zyc (zyf (zyc (wpAny_dictEpoch ad cd ?_)))
 rw [if_neg (by simp)]
 refine zyf ?_
 simp only [show ¬ ((i:Int)<0) from by omega,if_false,Int.toNat_natCast,Array.getElem?_eq_getElem hi]
 refine zyc ?_
 first | refine zyc (wpAny_typeNameOfWhole_keyiter t.typeIs (zyf (zyc (wpAny_isOneOf_keyiter t.typeIs ?_)))) | refine zyc (wpAny_typeNameOf_keyiter t.typeIs (zyf (zyc (wpAny_isOneOf_keyiter t.typeIs ?_))))
 refine (show wpAny _ _ (setField (.ref j) 1 (rawInt ((i:Int)+1)) >>= _) _ _ s from wpAny_bind (wpAny_setField a c (by simp) ?_))
 have t':(s.heap.update j (Obj.mapFields (·.setIfInBounds 1 (rawInt ((i:Int)+1))))).IsKeyIter j d (i+1) en.size ep :=
  ⟨_,Heap.get?_update_self _ a (Obj.isFreed_of_fields (Obj.data_mapFields c _)),(Obj.cls_mapFields ..).trans b,by rw [Obj.data_mapFields c];simp [rawInt]⟩
 refine zyc (wpAny_holding (zyc (wpAny_isOneOf_keyiter (s:={ s with heap:=s.heap.update j (Obj.mapFields (·.setIfInBounds 1 (rawInt ((i:Int)+1)))) }) t'.typeIs ?_)))
 show wpAny _ _ (pure en[i].key) _ _ _
 exact zyf (zyf ⟨_,rfl,zyf (q _ t' (Heap.SameBut.update ..))⟩)
theorem zsd (hh:A.handled=none) (t:s.heap.IsKeyIter j d en.size en.size ep) (r:RawD s.heap d en ep) (q:∀ g,Heap.ExtBut j s.heap g->Q none { s with heap:=g }):wpAny (model prog w) A (pyNext (.ref j)) Q E s:=by
 obtain ⟨o,a,b,c⟩:=id t
 obtain ⟨od,ad,bd,cd⟩:=id r
 unfold pyNext
 refine zyc (zzu (zy7 (name:=Str.ofString "__next__") t.typeIs PySem.F.slot_dict_keyiterator_next (zze PySem.F.slot_dict_keyiterator_next t.typeIs PySem.F.entry_dict_keyiterator_next ?_ (PySem.F.args_dict_keyiterator_next_1 _))))
 refine zyc (zyf (zyc (zyc ?_)))
 first | refine zyc (wpAny_typeNameOfWhole_keyiter t.typeIs (zyf (zyc (wpAny_fieldsOf a c ?_)))) | refine zyc (wpAny_typeNameOf_keyiter t.typeIs (zyf (zyc (wpAny_fieldsOf a c ?_))))
 simp only [show Builtin.Dict_items.ownsTuple "dict_keyiterator"=false by decide,zzh,if_false]
 refine (show wpAny _ _ (if (Value.ref d==Value.none)=true then _ else _) _ _ s from ?_)
 rw [if_neg (show ¬ ((Value.ref d==Value.none)=true) from zyz)]
 refine zyc (zyf (zyc (wpAny_dictEntries ad cd ?_)))
 rw [if_neg (by simp)]
 refine zyc (zyf (zyc (wpAny_dictEpoch ad cd ?_)))
 rw [if_neg (by simp)]
 refine zyf ?_
 simp only [show ¬ ((en.size:Int)<0) from by omega,if_false,Int.toNat_natCast,Array.getElem?_eq_none (Nat.le_refl en.size)]
 refine zyc ?_
 first | refine zyc (wpAny_typeNameOfWhole_keyiter t.typeIs (zyf ?_)) | refine zyc (wpAny_typeNameOf_keyiter t.typeIs (zyf ?_))
 refine (show wpAny _ _ (setField (.ref j) 0 .none >>= _) _ _ s from wpAny_bind (wpAny_setField a c (by simp) ?_))
 refine (show wpAny _ _ (newExc (.type "StopIteration") [] >>= _) _ _ _ from zyc ?_)
 simp only [newExc,newTuple]
 refine zyc (zzb ?_ (by size_fits))
 refine wpAny_bind (m:=firstArgMember _ _) (wpAny_of_eq (a:=Value.none) (by first | rfl | (simp only [firstArgMember];rfl)) (wpAny_newObj_type ?_ (by size_fits)))
 simp only [raiseNew]
 refine zyc (wpAny_handled ?_)
 rw [show A.in1.handled=none from hh]
 refine zyc (zyf (wpAny_throw ?_))
 exact zyc (wpAny_isInstance (T:="StopIteration") (b:=true) ⟨_,zyg _ rfl,rfl⟩ isSubtype_stop (zyf (q _ (((Heap.SameBut.update ..).extBut.push _).push _))))
theorem zln (hh:A.handled=none) (j d:Addr) (hne:d≠j) (en:Array DictEntry) (ep:Nat) :
  Walks prog w A j [j,d] [j] en.size (fun i v=>∃ e,en[i]?=some e/\v=e.key) (fun i h=>h.IsKeyIter j d i en.size ep/\RawD h d en ep) where
 sub:=fun b hb=>by simp at hb;simp [hb]
 frame:=fun _ _ _ st hk=>⟨st.1.at fun o e=>hk j (by simp) o e,st.2.to fun o e=>hk d (by simp) o e⟩
 item:=fun i s Q E hi st hQ=>zo4 st.1 st.2 hi fun g t' hs=>hQ _ g s.toks ⟨en[i],by simp [hi],rfl⟩ ⟨t',st.2.to fun o e=>hs.extBut d o hne e⟩ fun b o hb e=>hs.extBut b o (fun h=>hb (by simp [h])) e
 done:=fun s Q E st hQ=>zsd hh st.1 st.2 fun g he=>hQ g s.toks fun b o hb e=>he b o (fun h=>hb (by simp [h])) e
 self:=fun _ _ _ _ st hQ=>wpAny_pyIter_keyiter st.1 hQ
theorem zlo (lo:(d==sysModules)=false):KdlSrc prog w "dict" d d en.size (fun i v=>∃ e,en[i]?=some e/\v=e.key) (fun h=>RawD h d en ep) where
 type:=fun _ r=>r.ty
 there:=fun _ r=>⟨let ⟨_,a,_⟩:=r;zym a,let ⟨_,a,_⟩:=r;zym a⟩
 keep:=fun _ _ r hk=>r.to fun o e=>hk d (.inl rfl) o e
 notList:=by decide
 notTuple:=by decide
 hint:=fun _ _ _ _ r hq=>kdl_hint_dict r.ty hq
 iter:=fun _ s hh r=>⟨_,_,(fun _ _ hq=>zo5 lo r hq),zln hh _ d (zyy (let ⟨_,a,_⟩:=r;zym a)) en ep,⟨⟨_,zyg _ rfl,rfl,rfl⟩,r.to fun o e=>zyb _ e⟩⟩
end
end Ev
end
end
end
noncomputable section
noncomputable section
noncomputable section
namespace Ev
open PySem PySem.W PySem.Spec PyProof.Rows L2
variable {g:Heap} {vs:List Value} {a:Addr}
def KTup (g:Heap) (v:Value) (k:List Key):Prop:=∃ a o its n,v=.ref a/\g.get? a=some o/\o.cls=.type "tuple"/\o.data=.seq its n/\Vals (k.map kV) its.toList
theorem KTup.to {g':Heap} {v:Value} {k:List Key} (h:KTup g v k) (q:∀ a o,v=.ref a->g.get? a=some o->g'.get? a=some o):KTup g' v k :=
 let ⟨a,o,its,n,e,h1,h2⟩:=h;⟨a,o,its,n,e,q a o e h1,h2⟩
abbrev KTups (g:Heap):List Value->List (List Key)->Prop:=Paired (KTup g)
theorem KTups.get {g:Heap}:∀ {vs:List Value} {ks:List (List Key)},KTups g vs ks->∀ i,i<ks.length->KTup g (vs.getD i .none) (ks.getD i [])
 | _,_,.nil,i,h=>by simp at h
 | _,_,.cons r t,0,_=>by simpa using r
 | _,_,.cons r t,i+1,h=>by simpa using KTups.get t i (by simpa using h)
theorem KTups.to {g g':Heap}:∀ {vs:List Value} {ks:List (List Key)},KTups g vs ks->(∀ a o,g.get? a=some o->Value.ref a∈vs->g'.get? a=some o)->KTups g' vs ks
 | _,_,.nil,_=>.nil
 | _,_,.cons r t,q=>.cons (r.to fun a o e h=>q a o h (by rw [e];exact .head _)) (KTups.to t fun a o h m=>q a o h (.tail _ m))
theorem KTups.len {ks:List (List Key)} (h:KTups g vs ks):vs.length=ks.length:=Paired.length h
theorem zda:∀ vs:List Value,(vs.zip vs).map (·.2)=vs
 | []=>rfl
 | v::vs=>by rw [List.zip_cons_cons,zyh,zda vs]
theorem zgx {α:Type} (d:α) (l:List α):l=(List.range l.length).map fun i=>l.getD i d:=by
 apply List.ext_getElem?
 intro i
 rw [zzc]
 by_cases hi:i<l.length
 ·rw [List.getElem?_range hi,zyi hi]
  simp [List.getD_eq_getElem?_getD,hi]
 ·rw [List.getElem?_eq_none (by simpa using hi),List.getElem?_eq_none (by simpa using hi)];rfl
def fstK:List Key->V
 | k::_=>kV k
 | []=>.non
def tyK:Key->Value
 | .inl _=>.type "int"
 | .inr (some _)=>.type "str"
 | .inr none=>.type "NoneType"
theorem zrm (k:Key):(tyK k==tyK k)=true:=by
 rcases k with _ | _ | _
 ·show (Value.type "int"==Value.type "int")=true;decide
 ·show (Value.type "NoneType"==Value.type "NoneType")=true;decide
 ·show (Value.type "str"==Value.type "str")=true;decide
theorem zoh {a b:Key} (h:kSame a b=true):tyK a=tyK b:=by
 rcases a with a | _ | a<;>rcases b with b | _ | b<;>first | rfl | cases h
section
variable {prog:Program} {w:World} {A:Around} {E:Value->Shared->Prop} {s:Shared}
theorem zmm {M:Model} {k:Key} {v:Value} (r:RelV (kV k) v):Looks M g (typeOf v) (tyK k):=by
 rcases k with i | _ | x
 ·obtain ⟨t,rfl⟩:=r;exact .now
 ·cases r;exact .now
 ·obtain ⟨t,rfl⟩:=r;exact .now
theorem firsts {g:Heap} {k0:Key}:∀ {vs:List Value} {ks:List (List Key)},KTups g vs ks->(∀ k∈ks,∃ a r,k=a::r/\kSame k0 a=true)->∃ fs,KatTups g vs fs/\fs.length=ks.length/\∀ v∈fs,∃ a,RelV (kV a) v/\tyK a=tyK k0
 | _,_,.nil,_=>⟨[],KatTups.nil,rfl,fun _ h=>nomatch h⟩
 | _,k::ks,.cons r t,h=>by
  obtain ⟨a,o,its,n,e,h1,h2,h3,h4⟩:=r
  obtain ⟨b,q,rfl,hb⟩:=h k (.head _)
  obtain ⟨fs,f1,f2,f3⟩:=firsts t fun k hk=>h k (.tail _ hk)
  rw [zyh] at h4
  cases hi:its.toList with
  | nil=>rw [hi] at h4;cases h4
  | cons u us =>
   rw [hi] at h4
   cases h4 with
   | cons r0 _ =>
    subst e
    refine ⟨u::fs,KatTups.cons h1 h2 h3 ?_ f1,by simp [f2],fun v hv=>?_⟩
    ·have:its.toList[0]?=some u:=by rw [hi];rfl
     rwa [zzr] at this
    ·rcases omc hv with rfl | hv
     ·exact ⟨b,r0,(zoh hb).symm⟩
     ·exact f3 v hv
theorem zej {n:Nat} {kss:List (List Key)} {P:PySem.Fin->Shared->Prop} (ho:s.heap.get? a=some (seqObj "list" vs.toArray n)) (hk:KTups s.heap vs kss) (ha':Value.ref a∉vs) (h5:kss.length<=5) (nd:kss.Nodup) (al:∀ x∈kss,x≠[]/\∀ y∈kss,alike x y=true)
  (h:∀ (out:List Value) (p:List Nat),(∀ i∈p,i<kss.length)->out=p.map (fun i=>vs.getD i .none)->sortL kss=p.map (fun i=>kss.getD i [])->P (.done (.ret .none)) { s with heap:=sortedHeap s.heap a vs out.toArray }) :
  wpAny (model prog w) A (Builtin.«list.sort» ⟨[.ref a],[]⟩) P E s:=by
 rw [list_sort_plain]
 have hl:=hk.len
 have ha:a<s.heap.objs.size:=zym ho
 have hz:vs.toArray.size<=sizeLine:=by rw [zyk,sizeLine_eq];omega
 refine zyc (listItems_at ho rfl (zyc (listUpdate_at ho rfl ?_ hz (zy9 _))))
 obtain ⟨e1,ho1⟩:∃ e1,(s.heap.update a (Obj.mapSeq fun _=>#[])).get? a=some (seqObj "list" #[] e1):=⟨_,get?_update_seq ho (fun _=>#[])⟩
 refine zyc (seqEpoch_at ho1 rfl (zyc (wpAny_newTuple ?_ (by show vs.length<=_;rw [sizeLine_eq];omega))))
 refine zyc (wpAny_newList (wpAny_holding ?_) (zy9 _))
 have ho6:(((s.heap.update a (Obj.mapSeq fun _=>#[])).push (seqObj "tuple" vs.toArray 0)).push (seqObj "list" #[] 0)).get? a=some (seqObj "list" #[] e1):=zyb _ (zyb _ ho1)
 have kp:∀ b o,b≠a->s.heap.get? b=some o->(((s.heap.update a (Obj.mapSeq fun _=>#[])).push (seqObj "tuple" vs.toArray 0)).push (seqObj "list" #[] 0)).get? b=some o:=fun b o hb e =>
  zyb _ (zyb _ (by rw [Heap.get?_update_ne _ _ _ _ hb];exact e))
 have hk':KTups (((s.heap.update a (Obj.mapSeq fun _=>#[])).push (seqObj "tuple" vs.toArray 0)).push (seqObj "list" #[] 0)) vs kss:=hk.to fun b o e m=>kp b o (fun z=>ha' (by rw [<- z];exact m)) e
 show wpAny (model prog w) A _ P E { s with heap:=((s.heap.update a (Obj.mapSeq fun _=>#[])).push (seqObj "tuple" vs.toArray 0)).push (seqObj "list" #[] 0) }
 dsimp only
 by_cases h2:vs.toArray.size<2
 ·rw [if_pos h2,if_pos h2]
  refine zyc (zyf ?_)
  rw [StateT.run_pure]
  refine zyc (zyf ?_)
  dsimp only
  refine zyc (seqEpoch_at ho6 rfl ?_)
  have eo:(arrOf (SortSt.mk' general' (vs.toArray.zip vs.toArray) #[] 7 none)).map (·.2)=vs.toArray:=by
   show (vs.toArray.zip vs.toArray).map (·.2)=vs.toArray
   apply Array.toList_inj.mp
   rw [Array.toList_map,Array.toList_zip]
   exact zda vs
  rw [eo]
  refine zyc (listUpdate_at ho6 rfl ?_ (zy9 _) (by show vs.toArray.size<=_;omega))
  simp only [bne_self_eq_false,Bool.false_eq_true,if_false]
  have hv2:vs.length<2:=by simpa using h2
  have er:vs=(List.range kss.length).map fun i=>vs.getD i .none:=by rw [<- hl];exact zgx _ vs
  have es:sortL kss=(List.range kss.length).map fun i=>kss.getD i []:=by
   match kss,hl with
   | [],_=>rfl
   | [k],_=>rfl
   | _::_::_,q=>rw [q] at hv2;simp at hv2;omega
  have:=h vs (List.range kss.length) (fun i hi=>by simpa using hi) er es
  exact zyf this
 ·rw [if_neg h2,if_neg h2]
  have hn2:2<=kss.length:=by rw [zyk] at h2;omega
  obtain ⟨k0,hk0⟩:∃ k0:Key,∀ k∈kss,∃ b r,k=b::r/\kSame k0 b=true:=by
   cases hks:kss with
   | nil=>rw [hks] at hn2;simp at hn2
   | cons x r =>
    have hx:x∈kss:=by rw [hks];exact .head _
    cases x with
    | nil=>exact absurd rfl (al _ hx).1
    | cons k0 x =>
     refine ⟨k0,fun k hk=>?_⟩
     have q:=(al _ hx).2 k (by rw [hks];exact hk)
     cases k with
     | nil=>cases q
     | cons b r =>
      rw [alike,zyd] at q
      exact ⟨b,r,rfl,q.1⟩
  obtain ⟨fs,f1,f2,f3⟩:=firsts hk' hk0
  refine zyc (kat_kind (T:=tyK k0) f1 (by rw [f2];omega) (fun v hv=>by obtain ⟨b,r,e⟩:=f3 v hv;rw [<- e];exact zmm r) (zrm k0) ?_)
  have ask:=zht (prog:=prog) (w:=w) (A:=A) (s:={ s with heap:=((s.heap.update a (Obj.mapSeq fun _=>#[])).push (seqObj "tuple" vs.toArray 0)).push (seqObj "list" #[] 0) }) (b:=tyK k0 != Value.type "tuple") (vs:=vs) (kss:=kss)
   (Q:=fun p s'=>s'={ s with heap:=((s.heap.update a (Obj.mapSeq fun _=>#[])).push (seqObj "tuple" vs.toArray 0)).push (seqObj "list" #[] 0) }/\(∀ i∈p.toList,i<kss.length)/\sortL kss=p.toList.map fun i=>kss.getD i []) hl hn2 h5 nd (fun x hx y hy=>(al x hx).2 y hy)
   (fun i hi=>by obtain ⟨b,o,its,m,e,g1,g2,g3,g4⟩:=hk'.get i hi;exact ⟨b,o,its,m,e,g1,g3,g4⟩)
   (fun p p1 p2 p3 p4=>⟨rfl,p3,places nd (fun x hx y hy=>(al x hx).2 y hy) p2 p3 p4⟩)
  refine zyc (zzw (kat_run (Q:=fun st' s'=>∃ p:Array Nat,p.size=vs.length/\arrOf st'=p.map (kas_item (vs.toArray.zip vs.toArray))/\failedOf st'=none/\s'={ s with heap:=((s.heap.update a (Obj.mapSeq fun _=>#[])).push (seqObj "tuple" vs.toArray 0)).push (seqObj "list" #[] 0) }/\(∀ i∈p.toList,i<kss.length)/\sortL kss=p.toList.map fun i=>kss.getD i [])
   rfl (by omega) (by omega) (fun p' st' s' a1 a2 a3 a4=>⟨p',a1,a2,a3,a4⟩) ask) ?_ fun _ _ e=>e)
  rintro ⟨⟨⟩,st'⟩ s' ⟨p,hp,har,hf,rfl,p1,p2⟩
  dsimp only
  have hout:=kat_snds rfl har
  refine zyc (seqEpoch_at ho6 rfl ?_)
  rw [hout]
  refine zyc (listUpdate_at ho6 rfl ?_ (zy9 _) (by show (List.toArray _).size<=_;rw [zyk,zyj,zza,hp,sizeLine_eq];omega))
  rw [hf]
  simp only [bne_self_eq_false,Bool.false_eq_true,if_false]
  exact zyf (h _ p.toList p1 rfl p2)
theorem zlb {n:Nat} (ho:g.get? a=some (seqObj "list" vs.toArray n)) (out:Array Value):∃ c,(sortedHeap g a vs out).get? a=some (seqObj "list" out c):=by
 obtain ⟨e1,ho1⟩:∃ e1,(g.update a (Obj.mapSeq fun _=>#[])).get? a=some (seqObj "list" #[] e1):=⟨_,get?_update_seq ho (fun _=>#[])⟩
 have ho6:(((g.update a (Obj.mapSeq fun _=>#[])).push (seqObj "tuple" vs.toArray 0)).push (seqObj "list" #[] 0)).get? a=some (seqObj "list" #[] e1):=zyb _ (zyb _ ho1)
 exact ⟨_,get?_update_seq ho6 fun _=>out⟩
theorem zg9 {out:Array Value} {b:Addr} {o:Obj} (hb:b≠a) (e:g.get? b=some o):(sortedHeap g a vs out).get? b=some o:=by
 unfold sortedHeap
 rw [Heap.get?_update_ne _ _ _ _ hb]
 exact zyb _ (zyb _ (by rw [Heap.get?_update_ne _ _ _ _ hb];exact e))
theorem zqs {g:Heap}:∀ {vs:List Value} {ks:List (List Key)},KTups g vs ks->∀ b,Value.ref b∈vs->b<g.objs.size
 | _,_,.nil,_,h=>nomatch h
 | _,_,.cons r t,b,h=>by
  rcases omc h with e | h
  ·obtain ⟨a,o,_,_,rfl,h1,_⟩:=r
   cases e
   exact zym h1
  ·exact zqs t b h
theorem zd3 {r:Value} {Q:Value->Shared->Prop} (h:wpAny (model prog w) A.in1 (collect r) (fun vs s1=>∃ kss,KTups s1.heap vs kss/\kss.length<=5/\kss.Nodup/\(∀ x∈kss,x≠[]/\∀ y∈kss,alike x y=true) /\
   ∀ (out:List Value) (p:List Nat) (c:Nat) (g:Heap),(∀ i∈p,i<kss.length)->out=p.map (fun i=>vs.getD i .none)->sortL kss=p.map (fun i=>kss.getD i [])->(∀ b o,s1.heap.get? b=some o->g.get? b=some o) ->
    g.get? s1.heap.objs.size=some { cls:=.type "list",data:=.seq out.toArray c }->Q (.ref s1.heap.objs.size) { s1 with heap:=g }) E s):wpAny (model prog w) A (call (.builtin "sorted") [r]) Q E s:=by
 refine Calls.call_function_entry kind_sorted plain_sorted entry_sorted (args_sorted1 _) ?_
 unfold Builtin.«sorted»
 refine zyc (m:=checkCount "sorted" 1 1 _) (zyf ?_)
 refine zyc (zzw h (fun vs s1 x=>?_) fun _ _ e=>e)
 obtain ⟨kss,hk,h5,nd,al,q⟩:=x
 have hl:=hk.len
 refine zyc (wpAny_newList ?_ (by rw [sizeLine_eq];omega))
 have hoL:(s1.heap.push (seqObj "list" vs.toArray 0)).get? s1.heap.objs.size=some (seqObj "list" vs.toArray 0):=zyg _ rfl
 refine zyc (wpAny_holding (zze slot_list_sort ⟨_,hoL,rfl⟩ entry_list_sort ?_ (args_list_sort _)))
 refine zej (s:={ s1 with heap:=s1.heap.push (seqObj "list" vs.toArray 0) }) hoL (hk.to fun b o e _=>zyb _ e) (fun m=>zy1 _ (zqs hk _ m)) h5 nd al fun out p p1 p2 p3=>⟨_,rfl,?_⟩
 obtain ⟨c,hc⟩:=zlb hoL out.toArray
 exact zyf ⟨_,rfl,q out p c _ p1 p2 p3 (fun b o e=>zg9 (zyy (zym e)) (zyb _ e)) hc⟩
end
end Ev
end
end
end
noncomputable section
noncomputable section
noncomputable section
namespace Ev
open PySem PySem.W PySem.Spec PyProof.Rows L2
variable {as:List Addr}
def addL:List (Addr × HO)->Hp->Hp
 | [],H=>H
 | p::r,H=>upd (addL r H) p.1 p.2
theorem zu0 {K:PySem.W.Frag} {F:Hp} (k:Kt):Rep K F (kT k) (kV k):=by rcases k with _ | _ | _<;>rfl
theorem zlm {K:PySem.W.Frag} {F:Hp}:∀ ks:List Kt,Reps K F (ks.map kT) (ks.map kV)
 | []=>rfl
 | k::ks=>⟨_,_,rfl,zu0 k,zlm ks⟩
theorem zd6 {K:PySem.W.Frag} {F:Hp} {as:List Addr} {kss:List (List Kt)} (hF:∀ i,i<kss.length->F (as.getD i 0)=some (.tup ((kss.getD i []).map kV))):∀ {p:List Nat},(∀ i∈p,i<kss.length) ->
  Reps K F ((p.map fun i=>kss.getD i []).map tkT) (p.map fun i=>V.ref (as.getD i 0))
 | [],_=>rfl
 | i::p,h=>⟨_,_,rfl,⟨_,_,rfl,hF i (h i (.head _)),zlm _⟩,zd6 hF fun j hj=>h j (.tail _ hj)⟩
section
variable {X:Cx} {pins:List (Addr × Obj)} {σ:L2.St} {F1 H1:Hp} {s1:Shared} {Q:VK}
theorem zdf (I1:L2.Inv X pins σ H1 s1) (fh:Same F1 H1) {kss:List (List Kt)} (hl:as.length=kss.length) (hF:∀ i,i<kss.length->F1 (as.getD i 0)=some (.tup ((kss.getD i []).map kV))) {p:List Nat} {out:List Value} {c:Nat} {g:Heap}
  (p1:∀ i∈p,i<kss.length) (p2:out=p.map (fun i=>(as.map Value.ref).getD i .none)) (p3:sortL kss=p.map (fun i=>kss.getD i [])) (h5:kss.length<=5) (kp:∀ b o,s1.heap.get? b=some o->g.get? b=some o)
  (hD:g.get? s1.heap.objs.size=some { cls:=.type "list",data:=.seq out.toArray c }) (q:∀ v F' H',Step F1 H1 F' H'->Rep X.K F' (.lst ((sortL kss).map tkT)) v->Q v H'):EP X pins σ Q (.ref s1.heap.objs.size) { s1 with heap:=g }:=by
 have hn:H1 s1.heap.objs.size=none:=I1.hok.fresh (zyl _)
 have hp:p.length=kss.length:=by rw [<- zcx kss,p3,zyj]
 have rv:Vals (p.map fun i=>V.ref (as.getD i 0)) out:=by
  subst p2
  clear p3 hD hp
  induction p with
  | nil=>exact .nil
  | cons i p ih =>
   refine .cons ?_ (ih fun j hj=>p1 j (.tail _ hj))
   have hi:i<as.length:=by rw [hl];exact p1 i (.head _)
   show (as.map Value.ref).getD i .none=Value.ref (as.getD i 0)
   simp [hi]
 have I2:=I1.laid (a:=s1.heap.objs.size) (o:=.lst (p.map fun i=>V.ref (as.getD i 0))) (t':=s1.toks) kp (zyl _) ⟨by rw [zyj,hp,sizeLine_eq];omega,out,c,rv,hD⟩
 have st:=(Step.refl fh).new (o:=.lst (p.map fun i=>V.ref (as.getD i 0))) hn
 refine ⟨.ref s1.heap.objs.size,_,I2,rfl,q _ _ _ st ⟨_,_,rfl,Ls.of zae,?_⟩⟩
 rw [p3]
 exact zd6 (fun i hi=>st.ff _ _ (hF i hi)) p1
theorem zgj {H:Hp}:∀ {ws:List (List Key × V)} {zs:List (List Key × Addr × Value)},KT H ws zs->∀ i,i<ws.length->H ((zs.map (·.2.1)).getD i 0)=some (.tup (((ws.map (·.1)).getD i []).map kV))
 | _,_,.nil,i,h=>by simp at h
 | _,_,.cons r t,0,_=>by simpa using r.2.1
 | _,_,.cons r t,i+1,h=>by simpa using zgj t i (by simpa using h)
theorem zfi {P:Program} {w:World} {H:Hp} {g:Heap} (ok:∀ a xs,H a=some (.tup xs)->∃ its:List Value,Vals xs its/\IsTup g a its.toArray):∀ {as:List Addr} {kss:List (List Kt)},as.length=kss.length->(∀ i,i<kss.length->H (as.getD i 0)=some (.tup ((kss.getD i []).map kV)))->KTups g (as.map Value.ref) kss
 | [],[],_,_=>.nil
 | a::as,k::ks,hl,h=>by
  refine .cons ?_ (zfi (P:=P) (w:=w) ok (by simpa using hl) fun i hi=>by simpa using h (i+1) (by simpa using hi))
  obtain ⟨its,rv,o,h1,h2,n,h3⟩:=ok a (k.map kV) (by simpa using h 0 (by simp))
  exact ⟨a,o,its.toArray,n,rfl,h1,h2,h3,by simpa using rv⟩
theorem zle {F H:Hp} (fh:Same F H) (h:∀ a∈as,∃ xs,H a=some (.tup xs)):∃ F1,Step F H F1 H/\∀ a∈as,F1 a=H a:=by
 refine ⟨fun b=>if b∈as then H b else F b,⟨SameT.refl H,fun b o e=>?_,fun b o e=>?_,fun b z=>?_⟩,fun a ha=>by simp [ha]⟩
 ·by_cases hb:b∈as
  ·simp [hb,fh b o e]
  ·simp [hb,e]
 ·by_cases hb:b∈as
  ·simpa [hb] using e
  ·simp [hb] at e;exact fh b o e
 ·by_cases hb:b∈as
  ·exact .inr (.inr (h b hb))
  ·simp [hb] at z;exact .inl z
theorem zm9 {i:Nat} (h:i<as.length):as.getD i 0∈as:=by
 rw [zyp,zyi h];exact List.getElem_mem h
theorem zg5 {X:Cx} {pins:List (Addr × Obj)} {σ:L2.St} {H:Hp} {s:Shared} (I:L2.Inv X pins σ H s) {g:Heap} (k:∀ b o,s.heap.get? b=some o->g.get? b=some o):∀ a xs,H a=some (.tup xs)->∃ its:List Value,Vals xs its/\IsTup g a its.toArray:=fun a xs h=>by
 obtain ⟨_,its,r,o,h1,h2⟩:=(show ObjOk X.prog X.w H s.heap a (.tup xs) from I.hok a _ h)
 exact ⟨its,r,o,k a o h1,h2⟩
theorem zk4 {K:PySem.W.Frag} {F:Hp}:∀ {ts:List T} {vs:List V} {kss:List (List Kt)},Reps K F ts vs->tksO ts=some kss->∃ as:List Addr,vs=as.map V.ref/\as.length=kss.length/\∀ i,i<kss.length->F (as.getD i 0)=some (.tup ((kss.getD i []).map kV))
 | [],_,_,r,h=>by cases r;cases h;exact ⟨[],rfl,rfl,fun i hi=>by simp at hi⟩
 | t::ts,_,_,r,h=>by
  obtain ⟨v,vr,rfl,r1,r2⟩:=r
  obtain ⟨k,h1,h⟩:=obs h
  obtain ⟨ks,h2,h⟩:=obs h
  cases h
  obtain ⟨as,rfl,e1,e2⟩:=zk4 r2 h2
  cases t with
  | tup xs =>
   obtain ⟨a,ws,rfl,g1,g2⟩:=r1
   have:=zb3 g2 h1
   subst this
   refine ⟨a::as,rfl,by simp [e1],fun i hi=>?_⟩
   cases i with
   | zero=>simpa using g1
   | succ i=>simpa using e2 i (by simpa using hi)
  | _=>cases h1
theorem zfz:∀ {as:List Addr} {us:List Value},Vals (as.map V.ref) us->us=as.map Value.ref
 | [],_,r=>by cases r;rfl
 | a::as,_,r=>by
  cases r with
  | cons h t=>cases h;rw [zfz t];rfl
theorem zh5 (hcalm:X.calm=true):CallR X (.builtin "sorted") (fun xs H Q=>∃ F t1 t x,xs=[x]/\Same F H/\Rep X.K F t1 x/\bltT .sorted t1=some t/\∀ v F' H',Step F H F' H'->Rep X.K F' t v->Q v H'):=by
 intro pins s σ H xs us Q I r h
 obtain ⟨F,t1,t,x,rfl,fh,r1,ht,q⟩:=h
 obtain ⟨u,rfl,ru⟩:=vals1 r
 have hh:X.A.handled=none:=I.ok.hd hcalm
 cases t1 with
 | dt ks ts =>
  obtain ⟨a,ws,rfl,g1,g2,g3⟩:=r1
  cases ru
  simp only [bltT,sortT] at ht
  obtain ⟨l,hl,rfl⟩:=oms ht
  obtain ⟨h5,nd,al,rfl⟩:=zem hl
  obtain ⟨z,lo,zs,rel,o,es,ep,e1,e2,e3,e4,e5,e6⟩:=ztz I.hok (fh _ _ g1)
  subst g2
  have hlz:ws.length=zs.length:=Paired.length rel
  have hle:es.size=zs.length:=by rw [<- zza,e4,zyj]
  have hln:(zs.map (·.2.1)).length=(ws.map (·.1)).length:=by simp [hlz]
  have hA:∀ i,i<(ws.map (·.1)).length->H ((zs.map (·.2.1)).getD i 0)=some (.tup (((ws.map (·.1)).getD i []).map kV)):=fun i hi=>zgj rel i (by simpa using hi)
  refine zd3 (kdu_collect (A:=X.A.in1) (zlo (en:=es) (ep:=ep) lo) hh ⟨o,e1,e2,e3⟩ (by rw [hle,<- hlz];exact z) fun h' tk acc hk hacc=>?_)
  have ea:acc.toList=(zs.map (·.2.1)).map Value.ref:=by
   apply List.ext_getElem?
   intro i
   by_cases hi:i<zs.length
   ·have hi':i<acc.size:=by rw [hacc.1,hle];exact hi
    obtain ⟨e,he,hv⟩:=hacc.2 i acc[i] (by simp [hi'])
    rw [zzr,Array.getElem?_eq_getElem hi',hv,zzk,zzc,zyi hi]
    rw [<- zzr,e4,zzc,zyi hi] at he
    cases he
    rfl
   ·rw [List.getElem?_eq_none (by rw [Array.length_toList,hacc.1,hle];omega),List.getElem?_eq_none (by simp;omega)]
  refine ⟨ws.map (·.1),?_,h5,nd,al,fun out p c g p1 p2 p3 kp hD=>?_⟩
  ·rw [ea];exact zfi (P:=X.prog) (w:=X.w) (zg5 I hk) hln hA
  ·have I1:L2.Inv X pins σ H { s with heap:=h',toks:=tk }:=I.kept hk
   obtain ⟨F1,st,hF⟩:=zle fh (as:=zs.map (·.2.1)) fun b hb=>by
    obtain ⟨i,hi,rfl⟩:=List.getElem_of_mem hb
    have:=hA i (by rw [<- hln];exact hi)
    rw [zyp,zyi hi] at this
    exact ⟨_,this⟩
   rw [ea] at p2
   exact zdf (s1:={ s with heap:=h',toks:=tk }) I1 st.fh hln (fun i hi=>by rw [hF _ (zm9 (by rw [hln];exact hi))];exact hA i hi) p1 p2 p3 h5 kp hD fun v F' H' st' r'=>q v F' H' (st.trans st') r'
 | dk ks ts =>
  cases ks with
  | cons _ _=>cases ht
  | nil =>
   cases ht
   obtain ⟨a,ws,rfl,g1,g2,g3⟩:=r1
   cases ru
   have hws:ws=[]:=by cases ws with | nil=>rfl | cons _ _=>simp at g2
   subst hws
   obtain ⟨z,lo,vs,rel,o,es,ep,e1,e2,e3,_,e4,_⟩:=zp3 I.hok (fh _ _ g1)
   cases rel
   have hle:es.size=0:=by
    have:=e4.length
    rw [zza] at this
    simpa using this
   refine zd3 (kdu_collect (A:=X.A.in1) (zlo (en:=es) (ep:=ep) lo) hh ⟨o,e1,e2,e3⟩ (by rw [hle];exact zy9 _) fun h' tk acc hk hacc=>?_)
   have ea:acc.toList=([]:List Addr).map Value.ref:=by
    have:=hacc.1
    rw [hle] at this
    exact List.length_eq_zero_iff.mp (by rw [zza];exact this)
   refine ⟨[],by rw [ea];exact .nil,by simp,List.nodup_nil,fun x hx=>(nomatch hx),fun out p c g p1 p2 p3 kp hD=>?_⟩
   have I1:L2.Inv X pins σ H { s with heap:=h',toks:=tk }:=I.kept hk
   rw [ea] at p2
   exact zdf (s1:={ s with heap:=h',toks:=tk }) (as:=[]) (kss:=[]) I1 fh rfl (fun i hi=>absurd hi (Nat.not_lt_zero _)) p1 p2 p3 (by simp) kp hD q
 | _=>cases ht
end
end Ev
end
end
end
noncomputable section
noncomputable section
noncomputable section
namespace Ev
open PySem PySem.Spec PyProof.Rows L2
variable {f:Env->Option T} {G:Glo} {k:Nat} {x:Str} {g:T->Option T}
section
variable {X:Cx} {c:Tc} {a b:Expr} {pos p:Pos}
def BlS (X:Cx) (f:Value) (g:T->Option T):Prop :=
 CallR X f (fun xs H Q=>∃ F t1 t x,xs=[x]/\Same F H/\Rep X.K F t1 x/\g t1=some t/\∀ v F' H',Step F H F' H'->Rep X.K F' t v->Q v H')
theorem zw7:BlS X (.builtin "len") (bltT .len):=by
 intro pins s σ H xs us Q I r h
 obtain ⟨F,t1,t,x,rfl,fh,r1,ht,q⟩:=h
 cases t1 with
 | tup ts =>
  obtain ⟨l,vs,rfl,h1,h2⟩:=r1
  cases ht
  exact zdl pins s σ H _ us Q I r ⟨l,vs,rfl,.inr (zam fh h1),q _ F H (Step.refl fh) (by rw [h2.length];rfl)⟩
 | lst ts =>
  obtain ⟨l,vs,rfl,h1,h2⟩:=r1
  cases ht
  exact zdl pins s σ H _ us Q I r ⟨l,vs,rfl,.inl (Ls.same fh h1).sq,q _ F H (Step.refl fh) (by rw [h2.length];rfl)⟩
 | str z =>
  cases r1
  simp only [bltT] at ht
  split at ht
  ·rename_i hz
   cases ht
   exact call_len_str pins s σ H _ us Q I r ⟨z,rfl,by rw [<- ze4];exact hz,q _ F H (Step.refl fh) rfl⟩
  ·cases ht
 | _=>cases ht
theorem zw8:BlS X (.type "int") (bltT .toInt):=by
 intro pins s σ H xs us Q I r h
 obtain ⟨F,t1,t,x,rfl,fh,r1,ht,q⟩:=h
 cases t1 with
 | bl k=>cases r1;cases ht;exact znu pins s σ H _ us Q I r (.inr ⟨k,rfl,q _ F H (Step.refl fh) rfl⟩)
 | _=>cases ht
theorem zw6:BlS X (.type "str") (bltT .toStr):=by
 intro pins s σ H xs us Q I r h
 obtain ⟨F,t1,t,x,rfl,fh,r1,ht,q⟩:=h
 cases t1 with
 | int i =>
  cases r1
  simp only [bltT] at ht
  split at ht
  ·rename_i hz
   cases ht
   exact call_str_int pins s σ H _ us Q I r ⟨i,rfl,hz,q _ F H (Step.refl fh) rfl⟩
  ·cases ht
 | _=>cases ht
theorem zt9:BlS X (.type "list") (bltT .toList):=by
 intro pins s σ H xs us Q I r h
 obtain ⟨F,t1,t,x,rfl,fh,r1,ht,q⟩:=h
 have fin:∀ {vs:List V} {ts:List T},Reps X.K F ts vs->t=.lst ts->∀ l,H l=none->Q (.ref l) (upd H l (.lst vs)):=fun {vs ts} h2 e l hl=>by
  subst e
  have st:=(Step.refl fh).new (o:=.lst vs) hl
  exact q _ _ _ st ⟨l,vs,rfl,Ls.of zae,h2.mono st.ff⟩
 cases t1 with
 | tup ts =>
  obtain ⟨l,vs,rfl,h1,h2⟩:=r1
  cases ht
  exact zgw pins s σ H _ us Q I r ⟨l,vs,rfl,.inr (zam fh h1),fin h2 rfl⟩
 | _=>cases ht
theorem zqh:BlS X (.type "tuple") (bltT .toTuple):=by
 intro pins s σ H xs us Q I r h
 obtain ⟨F,t1,t,x,rfl,fh,r1,ht,q⟩:=h
 cases t1 with
 | tup ts =>
  obtain ⟨l,vs,rfl,h1,h2⟩:=r1
  cases ht
  exact zc9 pins s σ H _ us Q I r ⟨l,vs,rfl,.inr ⟨zam fh h1,q _ F H (Step.refl fh) ⟨l,vs,rfl,h1,h2⟩⟩⟩
 | lst ts =>
  obtain ⟨l,vs,rfl,h1,h2⟩:=r1
  cases ht
  refine zc9 pins s σ H _ us Q I r ⟨l,vs,rfl,.inl ⟨(Ls.same fh h1).sq,fun l' hl=>?_⟩⟩
  have st:=(Step.refl fh).new (o:=.tup vs) hl
  exact q _ _ _ st ⟨l',vs,rfl,zae,h2.mono st.ff⟩
 | _=>cases ht
theorem zgy {K:PySem.W.Frag} {F:Hp}:∀ {ts:List T} {vs:List V} {bs:List Bool},Reps K F ts vs->zei ts=some bs->vs=bs.map V.bl
 | [],_,_,h,e=>by cases h;cases e;rfl
 | t::ts,_,_,h,e=>by
  cases t with
  | bl i =>
   obtain ⟨v,w,rfl,h1,h2⟩:=h
   obtain ⟨ms,e1,rfl⟩:=oms e
   cases h1
   rw [zgy h2 e1]
   rfl
  | _=>cases e
theorem zel:∀ {bs:List Bool} {us:List Value},Vals (bs.map V.bl) us->us=bs.map Value.bool
 | [],_,h=>by cases h;rfl
 | b::bs,_,h=>by
  rw [zyh] at h
  cases h with
  | cons h1 h2 =>
   cases h1
   rw [zel h2]
   rfl
theorem zw9 (hcalm:X.calm=true):BlS X (.builtin "all") (bltT .all):=by
 intro pins s σ H xs us Q I r h
 obtain ⟨F,t1,t,x,rfl,fh,r1,ht,q⟩:=h
 cases t1 with
 | lst ts =>
  obtain ⟨l,vs,rfl,h1,h2⟩:=r1
  obtain ⟨u,rfl,ru⟩:=vals1 r
  cases ru
  simp only [bltT] at ht
  obtain ⟨bs,hbs,rfl⟩:=oms ht
  have hvs:=zgy h2 hbs
  subst hvs
  obtain ⟨its,rv,hl,hz⟩:=zhh I (Ls.same fh h1)
  have ei:=zel rv
  subst ei
  have hlt:l<s.heap.objs.size:=by
   obtain ⟨_,e,_⟩:=hl
   exact zym e
  refine call_all_walk (wpAny_pyIter_list hl ?_)
  refine ⟨s.heap.objs.size,[s.heap.objs.size,l],[s.heap.objs.size],(bs.map Value.bool).toArray.size,_,_,fun i=>(bs[i]?).getD true,rfl,Walks.list (A:=X.A.in1) (I.ok.hd hcalm) _ l (zyy hlt) (bs.map Value.bool).toArray,
   ⟨⟨_,zyg _ rfl,rfl,rfl⟩,hl.push _⟩,fun i v s' Q' E' hP hQ=>?_,fun h' tk hk=>?_⟩
  ·have hP':(bs.map Value.bool)[i]?=some v:=by simpa using hP
   rw [zzc] at hP'
   obtain ⟨b,hb,rfl⟩:=oms hP'
   replace hQ:Q' ((bs[i]?).getD true) s':=hQ
   rw [hb] at hQ
   exact wpAny_truthy_bool hQ
  ·have e:((List.range (bs.map Value.bool).toArray.size).all fun i=>(bs[i]?).getD true)=bs.all id:=by
    rw [zyk,zyj]
    have:∀ (l:List Bool),((List.range l.length).all fun i=>(l[i]?).getD true)=l.all id:=by
     intro l
     induction l with
     | nil=>rfl
     | cons a l ih =>
      rw [zyt,List.range_succ_eq_map,List.all_cons,List.all_map,List.all_cons,<- ih]
      rfl
    exact this bs
   rw [e]
   exact ⟨.bl _,H,I.kept fun b o eo=>hk b o (fun hm=>by rw [omg hm] at eo;exact zy1 _ (zym eo)) (zyb _ eo),rfl,q _ F H (Step.refl fh) rfl⟩
 | _=>cases ht
theorem znz (hcalm:X.calm=true):BlS X (.builtin "sorted") (bltT .sorted):=zh5 hcalm
theorem zcc (ha:Oke X c a f) (hs:starEach [a] X.env=[(false,eval a X.env)]):PA X [a] (spL X c fun r=>(f r).bind fun x=>some [x]):=by
 refine zhk (zhl ha zq3 hs) fun σ H Q q=>?_
 obtain ⟨r,F,ts,e,ht,q⟩:=q
 exact ⟨r,F,ts,e,ht,q⟩
theorem zhn (gd:Gd X c G k) {id:String} (hc:BlS X (.builtin id) g) (hb:x∈bnames) (hg:glB c.sc x=true) (hv:bootBuiltins x=some (.builtin id)) (hn:x≠"__name__") (hdb:(x==("__debug__":Str))=false)
  (ha:Oke X c a f) (hs:starEach [a] X.env=[(false,eval a X.env)]):Oke X c (.Call (.Name x p) [a] [] pos) (fun r=>(f r).bind fun x=>g x):=by
 refine zav (zfd hc (gd.gl x hg) (gd.nob x hb) hv (zcc ha hs) hn hdb hs rfl) fun σ H Q q=>?_
 obtain ⟨r,F,t,e,ht,q⟩:=q
 obtain ⟨t1,e1,ht⟩:=obs ht
 refine ⟨r,F,[t1],e,Option.bind_eq_some_iff.mpr ⟨t1,e1,rfl⟩,fun vs F' H' s1 r1=>?_⟩
 obtain ⟨v,w,rfl,h1,h2⟩:=r1
 cases h2
 exact ⟨F',t1,t,v,rfl,s1.fh,h1,ht,fun v' F2 H2 s2 r2=>q v' F2 H2 (s1.trans s2) r2⟩
theorem zfe (gd:Gd X c G k) {ty:String} (hc:BlS X (.type ty) g) (hb:x∈bnames) (hg:glB c.sc x=true) (hv:bootBuiltins x=some (.type ty)) (hn:x≠"__name__") (hdb:(x==("__debug__":Str))=false)
  (ha:Oke X c a f) (hs:starEach [a] X.env=[(false,eval a X.env)]):Oke X c (.Call (.Name x p) [a] [] pos) (fun r=>(f r).bind fun x=>g x):=by
 refine zav (zf9 hc (gd.gl x hg) (gd.nob x hb) hv (zcc ha hs) hn hdb hs rfl) fun σ H Q q=>?_
 obtain ⟨r,F,t,e,ht,q⟩:=q
 obtain ⟨t1,e1,ht⟩:=obs ht
 refine ⟨r,F,[t1],e,Option.bind_eq_some_iff.mpr ⟨t1,e1,rfl⟩,fun vs F' H' s1 r1=>?_⟩
 obtain ⟨v,w,rfl,h1,h2⟩:=r1
 cases h2
 exact ⟨F',t1,t,v,rfl,s1.fh,h1,ht,fun v' F2 H2 s2 r2=>q v' F2 H2 (s1.trans s2) r2⟩
theorem zx2 (gd:Gd X c G k) {kb:Bn} (hk:bnOf x=some kb) (hg:glB c.sc x=true) (ha:Oke X c a f) (hs:starEach [a] X.env=[(false,eval a X.env)]) :
  Oke X c (.Call (.Name x p) [a] [] pos) (fun r=>(f r).bind fun x=>bltT kb x):=by
 unfold bnOf at hk
 split at hk
 ·rename_i e;have e:=eq_of_beq e;subst e;cases hk
  exact zhn gd zw7 (by decide +kernel) hg PySem.boot_len (by decide) (by decide) ha hs
 ·split at hk
  ·rename_i e;have e:=eq_of_beq e;subst e;cases hk
   exact zfe gd zw8 (by decide +kernel) hg PyProof.Rows.boot_int (by decide) (by decide) ha hs
  ·split at hk
   ·rename_i e;have e:=eq_of_beq e;subst e;cases hk
    exact zfe gd zw6 (by decide +kernel) hg PyProof.Rows.boot_str (by decide) (by decide) ha hs
   ·split at hk
    ·rename_i e;have e:=eq_of_beq e;subst e;cases hk
     exact zfe gd zt9 (by decide +kernel) hg PyProof.Rows.boot_list (by decide) (by decide) ha hs
    ·split at hk
     ·rename_i e;have e:=eq_of_beq e;subst e;cases hk
      exact zfe gd zqh (by decide +kernel) hg PyProof.Rows.boot_tuple (by decide) (by decide) ha hs
     ·split at hk
      ·rename_i e;have e:=eq_of_beq e;subst e;cases hk
       exact zhn gd (zw9 gd.calm) (by decide +kernel) hg PyProof.Rows.boot_all (by decide) (by decide) ha hs
      ·split at hk
       ·rename_i e;have e:=eq_of_beq e;subst e;cases hk
        exact zhn gd (znz gd.calm) (by decide +kernel) hg (show bootBuiltins "sorted"=some (.builtin "sorted") by decide +kernel) (by decide) (by decide) ha hs
       ·cases hk
def tyS:Ty->String
 | .tint=>"int" | .tstr=>"str" | .tbool=>"bool" | .ttup=>"tuple" | .tlst=>"list"
theorem zqg:CallR X (.builtin "isinstance") (fun xs H Q=>∃ F t1 x k,xs=[x,.ty (tyS k)]/\Same F H/\Rep X.K F t1 x/\Q (.bl (isiT t1 k)) H):=by
 intro pins s σ H xs us Q I r h
 obtain ⟨F,t1,x,k,rfl,fh,r1,q⟩:=h
 obtain ⟨u,w',rfl,rx,ry⟩:=vals2 r
 cases ry
 have fT:∀ b,b=isiT t1 k->EP X pins σ Q (.bool b) s:=fun b e=>by subst e;exact ⟨.bl _,H,I,rfl,q⟩
 have fF:∀ b,b=isiT t1 k->EP X pins σ Q (.bool b) { s with toks:=s.toks+1 }:=fun b e=>by subst e;exact ⟨.bl _,H,I.tok _,rfl,q⟩
 cases t1 with
 | non =>
  cases r1;cases rx
  cases k
  ·exact IsiPair.NoneType_int (fF _ rfl)
  ·exact IsiPair.NoneType_str (fF _ rfl)
  ·exact IsiPair.NoneType_bool (fF _ rfl)
  ·exact IsiPair.NoneType_tuple (fF _ rfl)
  ·exact IsiPair.NoneType_list (fF _ rfl)
 | bl b =>
  cases r1;cases rx
  cases k
  ·exact IsiPair.bool_int (fT _ rfl)
  ·exact IsiPair.bool_str (fF _ rfl)
  ·exact IsiPair.bool_bool (fT _ rfl)
  ·exact IsiPair.bool_tuple (fF _ rfl)
  ·exact IsiPair.bool_list (fF _ rfl)
 | int b =>
  cases r1;obtain ⟨t,rfl⟩:=rx
  cases k
  ·exact IsiPair.int_int (fT _ rfl)
  ·exact IsiPair.int_str (fF _ rfl)
  ·exact IsiPair.int_bool (fF _ rfl)
  ·exact IsiPair.int_tuple (fF _ rfl)
  ·exact IsiPair.int_list (fF _ rfl)
 | str b =>
  cases r1;obtain ⟨t,rfl⟩:=rx
  cases k
  ·exact IsiPair.str_int (fF _ rfl)
  ·exact IsiPair.str_str (fT _ rfl)
  ·exact IsiPair.str_bool (fF _ rfl)
  ·exact IsiPair.str_tuple (fF _ rfl)
  ·exact IsiPair.str_list (fF _ rfl)
 | tup ts =>
  obtain ⟨l,vs,rfl,h1,h2⟩:=r1
  cases rx
  obtain ⟨its,_,⟨o,ho,hc,_⟩,_⟩:=I.tuple (zam fh h1)
  cases k
  ·exact IsiPair.tuple_int ho hc (fF _ rfl)
  ·exact IsiPair.tuple_str ho hc (fF _ rfl)
  ·exact IsiPair.tuple_bool ho hc (fF _ rfl)
  ·exact IsiPair.tuple_tuple ho hc (fT _ rfl)
  ·exact IsiPair.tuple_list ho hc (fF _ rfl)
 | lst ts =>
  obtain ⟨l,vs,rfl,h1,h2⟩:=r1
  cases rx
  obtain ⟨its,_,⟨o,ho,hc,_⟩,_⟩:=zhh I (Ls.same fh h1)
  cases k
  ·exact IsiPair.list_int ho hc (fF _ rfl)
  ·exact IsiPair.list_str ho hc (fF _ rfl)
  ·exact IsiPair.list_bool ho hc (fF _ rfl)
  ·exact IsiPair.list_tuple ho hc (fF _ rfl)
  ·exact IsiPair.list_list ho hc (fT _ rfl)
 | dk ks ts =>
  obtain ⟨l,vs,rfl,h1,h2⟩:=r1
  cases rx
  obtain ⟨o,ho,hc⟩:=zjn I (.inl ⟨_,fh _ _ h1⟩)
  cases k
  ·exact IsiPair.dict_int ho hc (fF _ rfl)
  ·exact IsiPair.dict_str ho hc (fF _ rfl)
  ·exact IsiPair.dict_bool ho hc (fF _ rfl)
  ·exact IsiPair.dict_tuple ho hc (fF _ rfl)
  ·exact IsiPair.dict_list ho hc (fF _ rfl)
 | dt ks ts =>
  obtain ⟨l,vs,rfl,h1,h2⟩:=r1
  cases rx
  obtain ⟨o,ho,hc⟩:=zjn I (.inr ⟨_,fh _ _ h1⟩)
  cases k
  ·exact IsiPair.dict_int ho hc (fF _ rfl)
  ·exact IsiPair.dict_str ho hc (fF _ rfl)
  ·exact IsiPair.dict_bool ho hc (fF _ rfl)
  ·exact IsiPair.dict_tuple ho hc (fF _ rfl)
  ·exact IsiPair.dict_list ho hc (fF _ rfl)
theorem zrn {k:Ty} (h:tyOf x=some k):bootBuiltins x=some (.type (tyS k))/\x∈bnames/\x≠"__name__"/\(x==("__debug__":Str))=false:=by
 unfold tyOf at h
 split at h
 ·rename_i e;have e:=eq_of_beq e;subst e;cases h;exact ⟨PyProof.Rows.boot_str,by decide +kernel,by decide,by decide⟩
 ·split at h
  ·rename_i e;have e:=eq_of_beq e;subst e;cases h;exact ⟨PyProof.Rows.boot_int,by decide +kernel,by decide,by decide⟩
  ·split at h
   ·rename_i e;have e:=eq_of_beq e;subst e;cases h;exact ⟨PyProof.Rows.boot_bool,by decide +kernel,by decide,by decide⟩
   ·split at h
    ·rename_i e;have e:=eq_of_beq e;subst e;cases h;exact ⟨PyProof.Rows.boot_tuple,by decide +kernel,by decide,by decide⟩
    ·split at h
     ·rename_i e;have e:=eq_of_beq e;subst e;cases h;exact ⟨PyProof.Rows.boot_list,by decide +kernel,by decide,by decide⟩
     ·cases h
theorem zv4 (gd:Gd X c G k) {ty:Str} {kt:Ty} {p2:Pos} (hk:tyOf ty=some kt) (hg:glB c.sc "isinstance"=true) (hgt:glB c.sc ty=true) (ha:Oke X c a f)
  (hs:starEach [a,.Name ty p2] X.env=(false,eval a X.env)::starEach [.Name ty p2] X.env):Oke X c (.Call (.Name "isinstance" p) [a,.Name ty p2] [] pos) (fun r=>(f r).bind fun x=>some (.bl (isiT x kt))):=by
 obtain ⟨h1,h2,h3,h4⟩:=zrn hk
 have hb:PE X (.Name ty p2) (tC (.ty (tyS kt))):=zsv (gd.gl ty hgt) (gd.nob ty h2) h1 rfl h3 h4
 refine zav (zfd zqg (gd.gl _ hg) (gd.nob _ (by decide +kernel)) boot_isinstance (zbq ha (zbq hb zer rfl) hs) (by decide) (by decide) hs rfl) fun σ H Q q=>?_
 obtain ⟨r,F,t,e,ht,q⟩:=q
 obtain ⟨t1,e1,ht⟩:=obs ht
 cases ht
 refine ⟨r,F,t1,e,e1,fun v F' H' s1 r1=>?_⟩
 exact ⟨F',t1,v,kt,rfl,s1.fh,r1,q _ F' H' s1 rfl⟩
theorem zix:∀ {ts:List T} {x:T} {i:Nat},zco x ts=some i->∃ t,ts[i]?=some t/\eqT t x=true/\∀ (j:Nat) u,j<i->ts[j]?=some u->eqT u x=false
 | [],_,_,h=>by cases h
 | y::ts,x,i,h=>by
  simp only [zco] at h
  split at h
  ·rename_i e
   cases h
   exact ⟨y,rfl,e,fun j u hj=>absurd hj (Nat.not_lt_zero _)⟩
  ·rename_i e
   obtain ⟨k,e1,rfl⟩:=oms h
   obtain ⟨t,h1,h2,h3⟩:=zix e1
   refine ⟨t,by simpa using h1,h2,fun j u hj hu=>?_⟩
   cases j with
   | zero =>
    simp only [List.getElem?_cons_zero,Option.some.injEq] at hu
    subst hu
    simpa using e
   | succ j=>exact h3 j u (by omega) (by simpa using hu)
theorem zpn:MtR X "list.index" (fun x xs H Q=>∃ F t1 t2 t y,xs=[y]/\Same F H/\Rep X.K F t1 x/\Rep X.K F t2 y/\mthT .index t1 t2=some t/\∀ v F' H',Step F H F' H'->Rep X.K F' t v->Q v H'):=by
 intro pins s σ H x xs v us Q I rx rs h
 obtain ⟨F,t1,t2,t,y,rfl,fh,r1,r2,ht,q⟩:=h
 obtain ⟨u,rfl,ru⟩:=vals1 rs
 cases t1 with
 | lst ts =>
  simp only [mthT] at ht
  split at ht
  ·rename_i hf
   rw [zyd] at hf
   obtain ⟨f2,f1⟩:=hf
   obtain ⟨i,hi,rfl⟩:=oms ht
   obtain ⟨l,vs,rfl,h1,h2⟩:=r1
   cases rx
   have ey:=zit r2 f2
   subst ey
   have ev:=zf7 h2 f1
   subst ev
   obtain ⟨t0,a1,a2,a3⟩:=zix hi
   obtain ⟨z,its,n,r,ho⟩:=(Ls.same fh h1).ok I
   have hlt:i<ts.length:=(ome a1).1
   have hlen:its.length=ts.length:=by rw [<- r.length,zyj]
   have hz:ts.length<=sizeLine:=by
    have:=(zhh I (Ls.same fh h1)).choose_spec.2.2
    simpa using this
   have get:∀ (m:Nat) (hm:m<its.toArray.size),∃ tm,ts[m]?=some tm/\eqU (vOf t2) its.toArray[m]=eqT tm t2:=fun m hm=>by
    have hm':m<ts.length:=by rw [<- hlen];simpa using hm
    have hmv:m<(ts.map vOf).length:=by simpa using hm'
    obtain ⟨w,e3,w1⟩:=r.get (zyi hmv)
    have e5:its.toArray[m]=w:=by
     obtain ⟨_,z⟩:=ome e3
     simpa using z
    refine ⟨ts[m],zyi hm',?_⟩
    have fm:flat ts[m]=true:=oml f1 _ (List.getElem_mem _)
    rw [e5,zrg (y:=vOf ts[m]) (by simpa using w1) (znb fm),zya fm f2]
   have hj:i<its.toArray.size:=by rw [zyk,hlen];exact hlt
   refine call_meets PySem.F.slot_list_index ⟨_,ho,rfl⟩ PySem.F.entry_list_index (PySem.F.args_list_index_2 _ _) (PySem.SeqAt.list_indexAt l its.toArray n _ _ u (eqU (vOf t2)) i hj (by unfold sizeLine at hz;omega) ?_ ?_) ⟨ho,?_,?_⟩
   ·obtain ⟨tm,g1,g2⟩:=get i hj
    rw [g2]
    rw [a1] at g1
    cases g1
    exact a2
   ·intro m hm hmi
    obtain ⟨tm,g1,g2⟩:=get m hm
    rw [g2]
    exact a3 m tm hmi g1
   ·intro y hy
    exact zi4 ru (znb f2) r (zn7 f1) y (by simpa using hy)
   ·exact ⟨.int _,H,I.tok _,⟨_,rfl⟩,q _ F H (Step.refl fh) rfl⟩
  ·cases ht
 | _=>cases t2<;>cases ht
theorem zpk {g:Env->Option T} {apos cpos:Pos} {o:Expr} (ho:Oke X c o f) (ha:Oke X c a g) (hbase:attributeBase o "index" X.env (eval o X.env)=eval o X.env) (hs:starEach [a] X.env=[(false,eval a X.env)]) (hl:(apos.endLine==cpos.line)=true) :
  Oke X c (.Call (.Attribute o "index" apos) [a] [] cpos) (fun r=>(f r).bind fun x=>(g r).bind fun y=>mthT .index x y):=by
 refine zav (zvp F.plainAttrs_list F.slot_list_index F.type_list_index zpn ho (zcc ha hs) hbase (by rw [hs];rfl) hl hs rfl) fun σ H Q q=>?_
 obtain ⟨r,F,t,e,ht,q⟩:=q
 obtain ⟨t1,e1,ht⟩:=obs ht
 obtain ⟨t2,e2,ht⟩:=obs ht
 refine ⟨r,F,t1,e,e1,fun v F' H' s1 r1=>⟨?_,r,F',[t2],e.step s1,Option.bind_eq_some_iff.mpr ⟨t2,e2,rfl⟩,fun vs F2 H2 s2 r2=>?_⟩⟩
 ·cases t1 with
  | lst z=>obtain ⟨l,vs,rfl,h1,h2⟩:=r1;exact .inl ⟨rfl,_,(Ls.same s1.fh h1).sq⟩
  | _=>cases t2<;>cases ht
 ·obtain ⟨w,z,rfl,h1,h2⟩:=r2
  cases h2
  exact ⟨F2,t1,t2,t,w,rfl,s2.fh,r1.mono s2.ff,h1,ht,fun v' F3 H3 s3 r3=>q v' F3 H3 (s1.trans (s2.trans s3)) r3⟩
end
end Ev
end
end
end
noncomputable section
noncomputable section
noncomputable section
namespace L2
open PySem PySem.Spec PyProof.Rows
variable {Q:Value->Shared->Prop} {l1 l2:Addr} {xs ys:Array Value}
structure ZAp (z TI TO j1 j2:Addr) (f1 f2:List Addr):Prop where
 nz:TI≠z/\TO≠z/\j1≠z/\j2≠z
 nT:TI≠TO/\TI≠j1/\TI≠j2
 nO:TO≠j1/\TO≠j2
 nj:j1≠j2
 fz:z∉f1/\z∉f2
 fO:TO∉f1/\TO∉f2
 fj:j2∉f1/\j1∉f2
section
variable {prog:Program} {w:World} {A:Around} {E:Value->Shared->Prop} {s:Shared}
variable {z TI TO j1 j2:Addr} {f1 f2:List Addr} {n1 n2 k:Nat} {P1 P2:Nat->Value->Prop} {S1 S2:Nat->Heap->Prop} {a b:Value}
theorem zkr (D1:Draws prog w A j1 f1 n1 P1 S1) (D2:Draws prog w A j2 f2 n2 P2 S2) (ap:ZAp z TI TO j1 j2 f1 f2)
  (hz:IsZip s.heap z TI TO .none) (hI:IsPair s.heap TI (.ref j1) (.ref j2)) (hO:IsPair s.heap TO a b) (t1:S1 k s.heap) (t2:S2 k s.heap) (l1:k<n1) (l2:k<n2)
  (hQ:∀ x y g tk,P1 k x->P2 k y->IsZip g z TI TO (rawInt s.heap.objs.size)->IsPair g TO x y->S1 (k+1) g->S2 (k+1) g->IsPair g s.heap.objs.size x y->g.objs.size=s.heap.objs.size+1 ->
   (∀ c o,c≠z->c≠TO->c≠j1->c≠j2->s.heap.get? c=some o->g.get? c=some o)->Q (.ref s.heap.objs.size) { s with heap:=g,toks:=tk }) :
  wpAny (model prog w) A (Builtin.«zip.__next__» ⟨[.ref z],[]⟩) (fun e s'=>∃ v,e=.done (.ret v)/\Q v s') E s:=by
 show wpAny _ _ (field (.ref z) 2 >>= _) _ _ s
 refine zyc (wpAny_field (x:=.bool false) hz rfl rfl ?_)
 show wpAny _ _ (field (.ref z) 3 >>= _) _ _ s
 refine zyc (wpAny_field (x:=.ref TI) hz rfl rfl (zyc (wpAny_seqItems hI rfl ?_)))
 show wpAny _ _ (Builtin.SmallTypes.ownedTupleIsFree (.ref z) >>= _) _ _ s
 refine zyc (show wpAny _ _ (Builtin.SmallTypes.ownedTupleIsFree (.ref z)) _ _ s from ?_)
 unfold Builtin.SmallTypes.ownedTupleIsFree
 refine zyc (wpAny_field (x:=.none) hz rfl rfl (zyf ?_))
 simp only [if_true]
 refine zyc (wpAny_rule (zyc (wpAny_field (x:=.ref TO) hz rfl rfl ?_)))
 refine wpAny_bind (wpAny_setField_rec hz (by simp) fun g1 hz1 e1=>?_)
 replace hz1:IsZip g1 z TI TO .ellipsis:=hz1
 refine zyc (show wpAny _ _ _ _ _ _ from ?_)
 simp only [List.zipIdx_nil,List.zipIdx_cons,List.forIn_nil,List.forIn_cons]
 refine zyc (zyc (wpAny_onRaise ?_))
 show wpAny _ _ (Builtin.SmallTypes.nextOf (.ref j1) >>= _) _ _ { s with heap:=g1 }
 have q1:S1 k g1:=D1.frame _ _ _ t1 fun c hc o e=>e1.extBut _ _ (fun y=>ap.fz.1 (y▸hc)) e
 refine zyc (D1.item k _ _ _ l1 q1 fun x g2 tk2 hx u1 e2=>zyf ?_)
 have hO2:IsPair g2 TO a b:=e2.extBut _ _ ap.nO.1 (e1.extBut _ _ ap.nz.2.1 hO)
 refine zyc (wpAny_seqItems hO2 rfl (zyc (wpAny_updateSeq_pair hO2 fun g3 hO3 e3=>?_)))
 replace hO3:IsPair g3 TO x b:=hO3
 refine zyc (wpAny_letGo (zyf (zyc (zyc (wpAny_onRaise ?_)))))
 show wpAny _ _ (Builtin.SmallTypes.nextOf (.ref j2) >>= _) _ _ { s with heap:=g3,toks:=tk2 }
 have q2:S2 k g3:=D2.frame _ _ _ t2 fun c hc o e=>e3.extBut _ _ (fun y=>ap.fO.2 (y▸hc)) (e2.extBut _ _ (fun y=>ap.fj.2 (y▸hc)) (e1.extBut _ _ (fun y=>ap.fz.2 (y▸hc)) e))
 refine zyc (D2.item k _ _ _ l2 q2 fun y g4 tk4 hy u2 e4=>zyf ?_)
 have hO4:IsPair g4 TO x b:=e4.extBut _ _ ap.nO.2 hO3
 refine zyc (wpAny_seqItems hO4 rfl (zyc (wpAny_updateSeq_pair hO4 fun g5 hO5 e5=>?_)))
 replace hO5:IsPair g5 TO x y:=hO5
 refine zyc (wpAny_letGo (zyf (zyf (zyc (wpAny_seqItems hO5 rfl (zyc (wpAny_newTuple ?_)))))))
 have sz:g5.objs.size=s.heap.objs.size:=by rw [e5.1,e4.1,e3.1,e2.1,e1.1]
 have hz5:IsZip g5 z TI TO .ellipsis:=e5.extBut _ _ (Ne.symm ap.nz.2.1) (e4.extBut _ _ (Ne.symm ap.nz.2.2.2) (e3.extBut _ _ (Ne.symm ap.nz.2.1) (e2.extBut _ _ (Ne.symm ap.nz.2.2.1) hz1)))
 have k5:∀ c o,c≠z->c≠TO->c≠j1->c≠j2->s.heap.get? c=some o->g5.get? c=some o:=fun c o c1 c2 c3 c4 e=>e5.extBut _ _ c2 (e4.extBut _ _ c4 (e3.extBut _ _ c2 (e2.extBut _ _ c3 (e1.extBut _ _ c1 e))))
 have v1:S1 (k+1) g5:=D1.frame _ _ _ u1 fun c hc o e=>e5.extBut _ _ (fun y=>ap.fO.1 (y▸hc)) (e4.extBut _ _ (fun y=>ap.fj.1 (y▸hc)) (e3.extBut _ _ (fun y=>ap.fO.1 (y▸hc)) e))
 have v2:S2 (k+1) g5:=D2.frame _ _ _ u2 fun c hc o e=>e5.extBut _ _ (fun y=>ap.fO.2 (y▸hc)) e
 have ltz:z<g5.objs.size:=zym hz5
 show wpAny _ _ (Builtin.SmallTypes.ownedTupleHandOut (.ref z) (.ref g5.objs.size) >>= _) _ _ _
 refine zyc (show wpAny _ _ (Builtin.SmallTypes.ownedTupleHandOut (.ref z) (.ref g5.objs.size)) _ _ _ from ?_)
 unfold Builtin.SmallTypes.ownedTupleHandOut
 have hz6:IsZip (g5.push { cls:=.type "tuple",data:=.seq #[x,y] }) z TI TO .ellipsis:=zyb _ hz5
 refine wpAny_bind (wpAny_setField_rec hz6 (by simp) fun g7 hz7 e7=>?_)
 replace hz7:IsZip g7 z TI TO (rawInt g5.objs.size):=hz7
 refine wpAny_setField_rec hz7 (by simp) fun g8 hz8 e8=>?_
 replace hz8:IsZip g8 z TI TO (rawInt g5.objs.size):=hz8
 have up:∀ c o,c≠z->g5.get? c=some o->g8.get? c=some o:=fun c o c1 e=>e8.extBut _ _ c1 (e7.extBut _ _ c1 (zyb _ e))
 have hT8:IsPair g8 g5.objs.size x y:=e8.extBut _ _ (Nat.ne_of_gt ltz) (e7.extBut _ _ (Nat.ne_of_gt ltz) (zyg _ rfl))
 have sz8:g8.objs.size=g5.objs.size+1:=by rw [e8.1,e7.1,zyo]
 rw [sz] at hz8 hT8 sz8
 refine zyf ⟨_,rfl,?_⟩
 show Q (.ref g5.objs.size) { s with heap:=g8,toks:=tk4 }
 rw [sz]
 exact hQ x y g8 tk4 hx hy hz8 (up _ _ ap.nz.2.1 hO5) (D1.frame _ _ _ v1 fun c hc o e=>up c o (fun y=>ap.fz.1 (y▸hc)) e) (D2.frame _ _ _ v2 fun c hc o e=>up c o (fun y=>ap.fz.2 (y▸hc)) e) hT8 sz8
  fun c o c1 c2 c3 c4 e=>up c o c1 (k5 c o c1 c2 c3 c4 e)
theorem zn9 {Q:Fin->Shared->Prop} (D1:Draws prog w A j1 f1 n1 P1 S1) (D2:Draws prog w A j2 f2 n2 P2 S2) (ap:ZAp z TI TO j1 j2 f1 f2)
  (hz:IsZip s.heap z TI TO .none) (hI:IsPair s.heap TI (.ref j1) (.ref j2)) (hO:IsPair s.heap TO a b) (t1:S1 k s.heap) (t2:S2 k s.heap) (hk:k=n1\/k<n1/\k=n2)
  (hE:∀ g e tk,(∀ c o,c≠z->c≠TO->c≠j1->c≠j2->s.heap.get? c=some o->g.get? c=some o)->(∃ o,g.get? e=some o/\o.cls=.type "StopIteration")->E (.ref e) { s with heap:=g,toks:=tk }) :
  wpAny (model prog w) A (Builtin.«zip.__next__» ⟨[.ref z],[]⟩) Q E s:=by
 show wpAny _ _ (field (.ref z) 2 >>= _) _ _ s
 refine zyc (wpAny_field (x:=.bool false) hz rfl rfl ?_)
 show wpAny _ _ (field (.ref z) 3 >>= _) _ _ s
 refine zyc (wpAny_field (x:=.ref TI) hz rfl rfl (zyc (wpAny_seqItems hI rfl ?_)))
 show wpAny _ _ (Builtin.SmallTypes.ownedTupleIsFree (.ref z) >>= _) _ _ s
 refine zyc (show wpAny _ _ (Builtin.SmallTypes.ownedTupleIsFree (.ref z)) _ _ s from ?_)
 unfold Builtin.SmallTypes.ownedTupleIsFree
 refine zyc (wpAny_field (x:=.none) hz rfl rfl (zyf ?_))
 simp only [if_true]
 refine zyc (wpAny_rule (zyc (wpAny_field (x:=.ref TO) hz rfl rfl ?_)))
 refine wpAny_bind (wpAny_setField_rec hz (by simp) fun g1 hz1 e1=>?_)
 replace hz1:IsZip g1 z TI TO .ellipsis:=hz1
 refine zyc (show wpAny _ _ _ _ _ _ from ?_)
 simp only [List.zipIdx_nil,List.zipIdx_cons,List.forIn_nil,List.forIn_cons]
 refine zyc (zyc (wpAny_onRaise ?_))
 show wpAny _ _ (Builtin.SmallTypes.nextOf (.ref j1) >>= _) _ _ { s with heap:=g1 }
 have q1:S1 k g1:=D1.frame _ _ _ t1 fun c hc o e=>e1.extBut _ _ (fun y=>ap.fz.1 (y▸hc)) e
 rcases hk with rfl | ⟨hlt,rfl⟩
 ·refine zyc (D1.done _ _ _ q1 fun g2 e e2 he=>?_)
  obtain ⟨oe,hoe,hce⟩:=he
  have hz2:IsZip g2 z TI TO .ellipsis:=e2 _ _ (Ne.symm ap.nz.2.2.1) hz1
  have ez:e≠z:=fun y=>by subst y;rw [hz2] at hoe;cases hoe;simp at hce
  exact wpAny_setField_rec hz2 (by simp) fun g3 _ e3=>hE g3 e s.toks (fun c o c1 _ c3 _ y=>e3.extBut _ _ c1 (e2 _ _ c3 (e1.extBut _ _ c1 y))) ⟨oe,e3.extBut _ _ ez hoe,hce⟩
 ·refine zyc (D1.item _ _ _ _ hlt q1 fun x g2 tk2 hx u1 e2=>zyf ?_)
  have hO2:IsPair g2 TO a b:=e2.extBut _ _ ap.nO.1 (e1.extBut _ _ ap.nz.2.1 hO)
  refine zyc (wpAny_seqItems hO2 rfl (zyc (wpAny_updateSeq_pair hO2 fun g3 hO3 e3=>?_)))
  refine zyc (wpAny_letGo (zyf (zyc (zyc (wpAny_onRaise ?_)))))
  show wpAny _ _ (Builtin.SmallTypes.nextOf (.ref j2) >>= _) _ _ { s with heap:=g3,toks:=tk2 }
  have q2:S2 k g3:=D2.frame _ _ _ t2 fun c hc o e=>e3.extBut _ _ (fun y=>ap.fO.2 (y▸hc)) (e2.extBut _ _ (fun y=>ap.fj.2 (y▸hc)) (e1.extBut _ _ (fun y=>ap.fz.2 (y▸hc)) e))
  refine zyc (D2.done _ _ _ q2 fun g4 e e4 he=>?_)
  obtain ⟨oe,hoe,hce⟩:=he
  have hz4:IsZip g4 z TI TO .ellipsis:=e4 _ _ (Ne.symm ap.nz.2.2.2) (e3.extBut _ _ (Ne.symm ap.nz.2.1) (e2.extBut _ _ (Ne.symm ap.nz.2.2.1) hz1))
  have ez:e≠z:=fun y=>by subst y;rw [hz4] at hoe;cases hoe;simp at hce
  exact wpAny_setField_rec hz4 (by simp) fun g5 _ e5=>hE g5 e tk2 (fun c o c1 c2 c3 c4 y=>e5.extBut _ _ c1 (e4 _ _ c4 (e3.extBut _ _ c2 (e2.extBut _ _ c3 (e1.extBut _ _ c1 y))))) ⟨oe,e5.extBut _ _ ez hoe,hce⟩
theorem zka {Q:Option Value->Shared->Prop} (D1:Draws prog w A.in1 j1 f1 n1 P1 S1) (D2:Draws prog w A.in1 j2 f2 n2 P2 S2) (ap:ZAp z TI TO j1 j2 f1 f2)
  (hz:IsZip s.heap z TI TO .none) (hI:IsPair s.heap TI (.ref j1) (.ref j2)) (hO:IsPair s.heap TO a b) (t1:S1 k s.heap) (t2:S2 k s.heap) (l1:k<n1) (l2:k<n2)
  (hQ:∀ x y g tk,P1 k x->P2 k y->IsZip g z TI TO (rawInt s.heap.objs.size)->IsPair g TO x y->S1 (k+1) g->S2 (k+1) g->IsPair g s.heap.objs.size x y->g.objs.size=s.heap.objs.size+1 ->
   (∀ c o,c≠z->c≠TO->c≠j1->c≠j2->s.heap.get? c=some o->g.get? c=some o)->Q (some (.ref s.heap.objs.size)) { s with heap:=g,toks:=tk }):wpAny (model prog w) A (pyNext (.ref z)) Q E s:=by
 have ty:s.TypeIs (.ref z) "zip":=⟨_,hz,rfl⟩
 unfold pyNext
 exact zyc (zzu (zy7 (name:=Str.ofString "__next__") ty F.slot_zip_next (zze F.slot_zip_next ty F.entry_zip_next
  (zkr D1 D2 ap hz hI hO t1 t2 l1 l2 fun x y g tk b1 b2 b3 b4 b5 b6 b7 b8 b9=>zyf (hQ x y g tk b1 b2 b3 b4 b5 b6 b7 b8 b9)) (F.args_zip_next_1 _))))
theorem zmd {Q:Option Value->Shared->Prop} (D1:Draws prog w A.in1 j1 f1 n1 P1 S1) (D2:Draws prog w A.in1 j2 f2 n2 P2 S2) (ap:ZAp z TI TO j1 j2 f1 f2)
  (hz:IsZip s.heap z TI TO .none) (hI:IsPair s.heap TI (.ref j1) (.ref j2)) (hO:IsPair s.heap TO a b) (t1:S1 k s.heap) (t2:S2 k s.heap) (hk:k=n1\/k<n1/\k=n2)
  (hQ:∀ g tk,(∀ c o,c≠z->c≠TO->c≠j1->c≠j2->s.heap.get? c=some o->g.get? c=some o)->Q none { s with heap:=g,toks:=tk }):wpAny (model prog w) A (pyNext (.ref z)) Q E s:=by
 have ty:s.TypeIs (.ref z) "zip":=⟨_,hz,rfl⟩
 unfold pyNext
 refine zyc (zzu (zy7 (name:=Str.ofString "__next__") ty F.slot_zip_next (zze F.slot_zip_next ty F.entry_zip_next
  (zn9 D1 D2 ap hz hI hO t1 t2 hk fun g e tk hc he=>?_) (F.args_zip_next_1 _))))
 obtain ⟨o,ho,hc2⟩:=he
 exact zyc (wpAny_isInstance (b:=true) (T:="StopIteration") ⟨o,ho,hc2⟩ isSubtype_stop (zyf (hQ _ _ hc)))
end
abbrev zh1LL (h:Heap) (l1:Addr):Heap:=h.push { cls:=.type "list_iterator",data:=.fields #[.ref l1,.int 0 0] }
abbrev zh2LL (h:Heap) (l1 l2:Addr):Heap:=(zh1LL h l1).push { cls:=.type "list_iterator",data:=.fields #[.ref l2,.int 0 0] }
abbrev zh3LL (h:Heap) (l1 l2:Addr):Heap:=(zh2LL h l1 l2).push { cls:=.type "tuple",data:=.seq #[.ref h.objs.size,.ref (zh1LL h l1).objs.size] }
abbrev zh4LL (h:Heap) (l1 l2:Addr):Heap:=(zh3LL h l1 l2).push { cls:=.type "tuple",data:=.seq #[.none,.none] }
abbrev zh5LL (h:Heap) (l1 l2:Addr):Heap:=(zh4LL h l1 l2).push { cls:=.type "zip",data:=.fields #[.none,.bool false,.bool false,.ref (zh2LL h l1 l2).objs.size,.ref (zh3LL h l1 l2).objs.size] }
theorem zmj (l1 l2:Addr) (xs ys:Array Value):Meets (Builtin.«zip.__new__» ⟨[.type "zip",.ref l1,.ref l2],[]⟩) (fun _ R s=>s.heap.IsList l1 xs/\s.heap.IsList l2 ys /\
   R (.ok (.ret (.ref (zh4LL s.heap l1 l2).objs.size))) { s with heap:=zh5LL s.heap l1 l2 }) :=
 .of_wp fun prog w A R s q=>by
  obtain ⟨hp,gs,dr,tk,os⟩:=s
  obtain ⟨q1,q2,q⟩:=q
  have hsub:=sub_zip
  have y1:Heap.IsList (Shared.heap ⟨hp,gs,dr,tk,os⟩) l1 xs:=q1
  have y2:Heap.IsList (Shared.heap ⟨hp.push { cls:=.type "list_iterator",data:=.fields #[.ref l1,.int 0 0] },gs,dr,tk,os⟩) l2 ys:=Heap.IsList.push q2 _
  wp_walk using wpAny_pyIter_list y1,wpAny_pyIter_list y2
  exact ⟨_,rfl,q⟩
theorem zqf {prog:Program} {w:World} {A:Around} {E:Value->Shared->Prop} {s:Shared} (q1:s.heap.IsList l1 xs) (q2:s.heap.IsList l2 ys)
  (q:∀ g,IsZip g (s.heap.objs.size+4) (s.heap.objs.size+2) (s.heap.objs.size+3) .none->IsPair g (s.heap.objs.size+2) (.ref s.heap.objs.size) (.ref (s.heap.objs.size+1))->IsPair g (s.heap.objs.size+3) .none .none ->
   g.IsListIter s.heap.objs.size l1 0->g.IsListIter (s.heap.objs.size+1) l2 0->g.objs.size=s.heap.objs.size+5->(∀ c o,s.heap.get? c=some o->g.get? c=some o)->Q (.ref (s.heap.objs.size+4)) { s with heap:=g }) :
  wpAny (model prog w) A (call (.type "zip") [.ref l1,.ref l2]) Q E s:=by
 refine callType_new F.called_zip (by decide) (F.typeCall_zip_2 _ _) (F.newCall_zip_2 _ _) (fun ob=>F.args_object_init_3 ob _ _) F.entry_zip_new (zmj l1 l2 xs ys) ⟨q1,q2,?_⟩
 have a1:(zh1LL s.heap l1).objs.size=s.heap.objs.size+1:=zyo ..
 have a2:(zh2LL s.heap l1 l2).objs.size=s.heap.objs.size+2:=by rw [zyo,a1]
 have a3:(zh3LL s.heap l1 l2).objs.size=s.heap.objs.size+3:=by rw [zyo,a2]
 have a4:(zh4LL s.heap l1 l2).objs.size=s.heap.objs.size+4:=by rw [zyo,a3]
 have a5:(zh5LL s.heap l1 l2).objs.size=s.heap.objs.size+5:=by rw [zyo,a4]
 have b5:(zh5LL s.heap l1 l2).get? (zh4LL s.heap l1 l2).objs.size=some _:=zyg _ rfl
 have b4:(zh5LL s.heap l1 l2).get? (zh3LL s.heap l1 l2).objs.size=some _:=zyb _ (zyg _ rfl)
 have b3:(zh5LL s.heap l1 l2).get? (zh2LL s.heap l1 l2).objs.size=some _:=zyb _ (zyb _ (zyg _ rfl))
 have b2:(zh5LL s.heap l1 l2).get? (zh1LL s.heap l1).objs.size=some _:=zyb _ (zyb _ (zyb _ (zyg _ rfl)))
 have b1:(zh5LL s.heap l1 l2).get? s.heap.objs.size=some _:=zyb _ (zyb _ (zyb _ (zyb _ (zyg _ rfl))))
 show _/\_
 rw [a2,a3,a4] at b5
 rw [a1,a2] at b3
 rw [a3] at b4
 rw [a1] at b2
 rw [a4]
 exact ⟨⟨_,b5,rfl⟩,q _ b5 b3 b4 ⟨_,b1,rfl,rfl⟩ ⟨_,b2,rfl,rfl⟩ a5 fun c o y=>zyb _ (zyb _ (zyb _ (zyb _ (zyb _ y))))⟩
abbrev zh1LT (h:Heap) (l1:Addr):Heap:=h.push { cls:=.type "list_iterator",data:=.fields #[.ref l1,.int 0 0] }
abbrev zh2LT (h:Heap) (l1 l2:Addr):Heap:=(zh1LT h l1).push { cls:=.type "tuple_iterator",data:=.fields #[.ref l2,.int 0 0] }
abbrev zh3LT (h:Heap) (l1 l2:Addr):Heap:=(zh2LT h l1 l2).push { cls:=.type "tuple",data:=.seq #[.ref h.objs.size,.ref (zh1LT h l1).objs.size] }
abbrev zh4LT (h:Heap) (l1 l2:Addr):Heap:=(zh3LT h l1 l2).push { cls:=.type "tuple",data:=.seq #[.none,.none] }
abbrev zh5LT (h:Heap) (l1 l2:Addr):Heap:=(zh4LT h l1 l2).push { cls:=.type "zip",data:=.fields #[.none,.bool false,.bool false,.ref (zh2LT h l1 l2).objs.size,.ref (zh3LT h l1 l2).objs.size] }
theorem zmi (l1 l2:Addr) (xs ys:Array Value):Meets (Builtin.«zip.__new__» ⟨[.type "zip",.ref l1,.ref l2],[]⟩) (fun _ R s=>s.heap.IsList l1 xs/\s.heap.IsTuple l2 ys /\
   R (.ok (.ret (.ref (zh4LT s.heap l1 l2).objs.size))) { s with heap:=zh5LT s.heap l1 l2 }) :=
 .of_wp fun prog w A R s q=>by
  obtain ⟨hp,gs,dr,tk,os⟩:=s
  obtain ⟨q1,q2,q⟩:=q
  have hsub:=sub_zip
  have y1:Heap.IsList (Shared.heap ⟨hp,gs,dr,tk,os⟩) l1 xs:=q1
  have y2:Heap.IsTuple (Shared.heap ⟨hp.push { cls:=.type "list_iterator",data:=.fields #[.ref l1,.int 0 0] },gs,dr,tk,os⟩) l2 ys:=let ⟨o,ho,r⟩:=q2;⟨o,zyb _ ho,r⟩
  wp_walk using wpAny_pyIter_list y1,wpAny_pyIter_tuple y2
  exact ⟨_,rfl,q⟩
theorem zqe {prog:Program} {w:World} {A:Around} {E:Value->Shared->Prop} {s:Shared} (q1:s.heap.IsList l1 xs) (q2:s.heap.IsTuple l2 ys)
  (q:∀ g,IsZip g (s.heap.objs.size+4) (s.heap.objs.size+2) (s.heap.objs.size+3) .none->IsPair g (s.heap.objs.size+2) (.ref s.heap.objs.size) (.ref (s.heap.objs.size+1))->IsPair g (s.heap.objs.size+3) .none .none ->
   g.IsListIter s.heap.objs.size l1 0->g.IsTupleIter (s.heap.objs.size+1) l2 0->g.objs.size=s.heap.objs.size+5->(∀ c o,s.heap.get? c=some o->g.get? c=some o)->Q (.ref (s.heap.objs.size+4)) { s with heap:=g }) :
  wpAny (model prog w) A (call (.type "zip") [.ref l1,.ref l2]) Q E s:=by
 refine callType_new F.called_zip (by decide) (F.typeCall_zip_2 _ _) (F.newCall_zip_2 _ _) (fun ob=>F.args_object_init_3 ob _ _) F.entry_zip_new (zmi l1 l2 xs ys) ⟨q1,q2,?_⟩
 have a1:(zh1LT s.heap l1).objs.size=s.heap.objs.size+1:=zyo ..
 have a2:(zh2LT s.heap l1 l2).objs.size=s.heap.objs.size+2:=by rw [zyo,a1]
 have a3:(zh3LT s.heap l1 l2).objs.size=s.heap.objs.size+3:=by rw [zyo,a2]
 have a4:(zh4LT s.heap l1 l2).objs.size=s.heap.objs.size+4:=by rw [zyo,a3]
 have a5:(zh5LT s.heap l1 l2).objs.size=s.heap.objs.size+5:=by rw [zyo,a4]
 have b5:(zh5LT s.heap l1 l2).get? (zh4LT s.heap l1 l2).objs.size=some _:=zyg _ rfl
 have b4:(zh5LT s.heap l1 l2).get? (zh3LT s.heap l1 l2).objs.size=some _:=zyb _ (zyg _ rfl)
 have b3:(zh5LT s.heap l1 l2).get? (zh2LT s.heap l1 l2).objs.size=some _:=zyb _ (zyb _ (zyg _ rfl))
 have b2:(zh5LT s.heap l1 l2).get? (zh1LT s.heap l1).objs.size=some _:=zyb _ (zyb _ (zyb _ (zyg _ rfl)))
 have b1:(zh5LT s.heap l1 l2).get? s.heap.objs.size=some _:=zyb _ (zyb _ (zyb _ (zyb _ (zyg _ rfl))))
 show _/\_
 rw [a2,a3,a4] at b5
 rw [a1,a2] at b3
 rw [a3] at b4
 rw [a1] at b2
 rw [a4]
 exact ⟨⟨_,b5,rfl⟩,q _ b5 b3 b4 ⟨_,b1,rfl,rfl⟩ ⟨_,b2,rfl,rfl⟩ a5 fun c o y=>zyb _ (zyb _ (zyb _ (zyb _ (zyb _ y))))⟩
abbrev zh1TL (h:Heap) (l1:Addr):Heap:=h.push { cls:=.type "tuple_iterator",data:=.fields #[.ref l1,.int 0 0] }
abbrev zh2TL (h:Heap) (l1 l2:Addr):Heap:=(zh1TL h l1).push { cls:=.type "list_iterator",data:=.fields #[.ref l2,.int 0 0] }
abbrev zh3TL (h:Heap) (l1 l2:Addr):Heap:=(zh2TL h l1 l2).push { cls:=.type "tuple",data:=.seq #[.ref h.objs.size,.ref (zh1TL h l1).objs.size] }
abbrev zh4TL (h:Heap) (l1 l2:Addr):Heap:=(zh3TL h l1 l2).push { cls:=.type "tuple",data:=.seq #[.none,.none] }
abbrev zh5TL (h:Heap) (l1 l2:Addr):Heap:=(zh4TL h l1 l2).push { cls:=.type "zip",data:=.fields #[.none,.bool false,.bool false,.ref (zh2TL h l1 l2).objs.size,.ref (zh3TL h l1 l2).objs.size] }
theorem zmh (l1 l2:Addr) (xs ys:Array Value):Meets (Builtin.«zip.__new__» ⟨[.type "zip",.ref l1,.ref l2],[]⟩) (fun _ R s=>s.heap.IsTuple l1 xs/\s.heap.IsList l2 ys /\
   R (.ok (.ret (.ref (zh4TL s.heap l1 l2).objs.size))) { s with heap:=zh5TL s.heap l1 l2 }) :=
 .of_wp fun prog w A R s q=>by
  obtain ⟨hp,gs,dr,tk,os⟩:=s
  obtain ⟨q1,q2,q⟩:=q
  have hsub:=sub_zip
  have y1:Heap.IsTuple (Shared.heap ⟨hp,gs,dr,tk,os⟩) l1 xs:=q1
  have y2:Heap.IsList (Shared.heap ⟨hp.push { cls:=.type "tuple_iterator",data:=.fields #[.ref l1,.int 0 0] },gs,dr,tk,os⟩) l2 ys:=Heap.IsList.push q2 _
  wp_walk using wpAny_pyIter_tuple y1,wpAny_pyIter_list y2
  exact ⟨_,rfl,q⟩
theorem zqd {prog:Program} {w:World} {A:Around} {E:Value->Shared->Prop} {s:Shared} (q1:s.heap.IsTuple l1 xs) (q2:s.heap.IsList l2 ys)
  (q:∀ g,IsZip g (s.heap.objs.size+4) (s.heap.objs.size+2) (s.heap.objs.size+3) .none->IsPair g (s.heap.objs.size+2) (.ref s.heap.objs.size) (.ref (s.heap.objs.size+1))->IsPair g (s.heap.objs.size+3) .none .none ->
   g.IsTupleIter s.heap.objs.size l1 0->g.IsListIter (s.heap.objs.size+1) l2 0->g.objs.size=s.heap.objs.size+5->(∀ c o,s.heap.get? c=some o->g.get? c=some o)->Q (.ref (s.heap.objs.size+4)) { s with heap:=g }) :
  wpAny (model prog w) A (call (.type "zip") [.ref l1,.ref l2]) Q E s:=by
 refine callType_new F.called_zip (by decide) (F.typeCall_zip_2 _ _) (F.newCall_zip_2 _ _) (fun ob=>F.args_object_init_3 ob _ _) F.entry_zip_new (zmh l1 l2 xs ys) ⟨q1,q2,?_⟩
 have a1:(zh1TL s.heap l1).objs.size=s.heap.objs.size+1:=zyo ..
 have a2:(zh2TL s.heap l1 l2).objs.size=s.heap.objs.size+2:=by rw [zyo,a1]
 have a3:(zh3TL s.heap l1 l2).objs.size=s.heap.objs.size+3:=by rw [zyo,a2]
 have a4:(zh4TL s.heap l1 l2).objs.size=s.heap.objs.size+4:=by rw [zyo,a3]
 have a5:(zh5TL s.heap l1 l2).objs.size=s.heap.objs.size+5:=by rw [zyo,a4]
 have b5:(zh5TL s.heap l1 l2).get? (zh4TL s.heap l1 l2).objs.size=some _:=zyg _ rfl
 have b4:(zh5TL s.heap l1 l2).get? (zh3TL s.heap l1 l2).objs.size=some _:=zyb _ (zyg _ rfl)
 have b3:(zh5TL s.heap l1 l2).get? (zh2TL s.heap l1 l2).objs.size=some _:=zyb _ (zyb _ (zyg _ rfl))
 have b2:(zh5TL s.heap l1 l2).get? (zh1TL s.heap l1).objs.size=some _:=zyb _ (zyb _ (zyb _ (zyg _ rfl)))
 have b1:(zh5TL s.heap l1 l2).get? s.heap.objs.size=some _:=zyb _ (zyb _ (zyb _ (zyb _ (zyg _ rfl))))
 show _/\_
 rw [a2,a3,a4] at b5
 rw [a1,a2] at b3
 rw [a3] at b4
 rw [a1] at b2
 rw [a4]
 exact ⟨⟨_,b5,rfl⟩,q _ b5 b3 b4 ⟨_,b1,rfl,rfl⟩ ⟨_,b2,rfl,rfl⟩ a5 fun c o y=>zyb _ (zyb _ (zyb _ (zyb _ (zyb _ y))))⟩
abbrev zh1TT (h:Heap) (l1:Addr):Heap:=h.push { cls:=.type "tuple_iterator",data:=.fields #[.ref l1,.int 0 0] }
abbrev zh2TT (h:Heap) (l1 l2:Addr):Heap:=(zh1TT h l1).push { cls:=.type "tuple_iterator",data:=.fields #[.ref l2,.int 0 0] }
abbrev zh3TT (h:Heap) (l1 l2:Addr):Heap:=(zh2TT h l1 l2).push { cls:=.type "tuple",data:=.seq #[.ref h.objs.size,.ref (zh1TT h l1).objs.size] }
abbrev zh4TT (h:Heap) (l1 l2:Addr):Heap:=(zh3TT h l1 l2).push { cls:=.type "tuple",data:=.seq #[.none,.none] }
abbrev zh5TT (h:Heap) (l1 l2:Addr):Heap:=(zh4TT h l1 l2).push { cls:=.type "zip",data:=.fields #[.none,.bool false,.bool false,.ref (zh2TT h l1 l2).objs.size,.ref (zh3TT h l1 l2).objs.size] }
theorem zmg (l1 l2:Addr) (xs ys:Array Value):Meets (Builtin.«zip.__new__» ⟨[.type "zip",.ref l1,.ref l2],[]⟩) (fun _ R s=>s.heap.IsTuple l1 xs/\s.heap.IsTuple l2 ys /\
   R (.ok (.ret (.ref (zh4TT s.heap l1 l2).objs.size))) { s with heap:=zh5TT s.heap l1 l2 }) :=
 .of_wp fun prog w A R s q=>by
  obtain ⟨hp,gs,dr,tk,os⟩:=s
  obtain ⟨q1,q2,q⟩:=q
  have hsub:=sub_zip
  have y1:Heap.IsTuple (Shared.heap ⟨hp,gs,dr,tk,os⟩) l1 xs:=q1
  have y2:Heap.IsTuple (Shared.heap ⟨hp.push { cls:=.type "tuple_iterator",data:=.fields #[.ref l1,.int 0 0] },gs,dr,tk,os⟩) l2 ys:=let ⟨o,ho,r⟩:=q2;⟨o,zyb _ ho,r⟩
  wp_walk using wpAny_pyIter_tuple y1,wpAny_pyIter_tuple y2
  exact ⟨_,rfl,q⟩
theorem zqc {prog:Program} {w:World} {A:Around} {E:Value->Shared->Prop} {s:Shared} (q1:s.heap.IsTuple l1 xs) (q2:s.heap.IsTuple l2 ys)
  (q:∀ g,IsZip g (s.heap.objs.size+4) (s.heap.objs.size+2) (s.heap.objs.size+3) .none->IsPair g (s.heap.objs.size+2) (.ref s.heap.objs.size) (.ref (s.heap.objs.size+1))->IsPair g (s.heap.objs.size+3) .none .none ->
   g.IsTupleIter s.heap.objs.size l1 0->g.IsTupleIter (s.heap.objs.size+1) l2 0->g.objs.size=s.heap.objs.size+5->(∀ c o,s.heap.get? c=some o->g.get? c=some o)->Q (.ref (s.heap.objs.size+4)) { s with heap:=g }) :
  wpAny (model prog w) A (call (.type "zip") [.ref l1,.ref l2]) Q E s:=by
 refine callType_new F.called_zip (by decide) (F.typeCall_zip_2 _ _) (F.newCall_zip_2 _ _) (fun ob=>F.args_object_init_3 ob _ _) F.entry_zip_new (zmg l1 l2 xs ys) ⟨q1,q2,?_⟩
 have a1:(zh1TT s.heap l1).objs.size=s.heap.objs.size+1:=zyo ..
 have a2:(zh2TT s.heap l1 l2).objs.size=s.heap.objs.size+2:=by rw [zyo,a1]
 have a3:(zh3TT s.heap l1 l2).objs.size=s.heap.objs.size+3:=by rw [zyo,a2]
 have a4:(zh4TT s.heap l1 l2).objs.size=s.heap.objs.size+4:=by rw [zyo,a3]
 have a5:(zh5TT s.heap l1 l2).objs.size=s.heap.objs.size+5:=by rw [zyo,a4]
 have b5:(zh5TT s.heap l1 l2).get? (zh4TT s.heap l1 l2).objs.size=some _:=zyg _ rfl
 have b4:(zh5TT s.heap l1 l2).get? (zh3TT s.heap l1 l2).objs.size=some _:=zyb _ (zyg _ rfl)
 have b3:(zh5TT s.heap l1 l2).get? (zh2TT s.heap l1 l2).objs.size=some _:=zyb _ (zyb _ (zyg _ rfl))
 have b2:(zh5TT s.heap l1 l2).get? (zh1TT s.heap l1).objs.size=some _:=zyb _ (zyb _ (zyb _ (zyg _ rfl)))
 have b1:(zh5TT s.heap l1 l2).get? s.heap.objs.size=some _:=zyb _ (zyb _ (zyb _ (zyb _ (zyg _ rfl))))
 show _/\_
 rw [a2,a3,a4] at b5
 rw [a1,a2] at b3
 rw [a3] at b4
 rw [a1] at b2
 rw [a4]
 exact ⟨⟨_,b5,rfl⟩,q _ b5 b3 b4 ⟨_,b1,rfl,rfl⟩ ⟨_,b2,rfl,rfl⟩ a5 fun c o y=>zyb _ (zyb _ (zyb _ (zyb _ (zyb _ y))))⟩
end L2
end
end
end
noncomputable section
noncomputable section
noncomputable section
namespace L2
open PySem PySem.Spec PyProof.Rows
variable {ch:List Addr} {xs:List V} {t:Bool} {elts:List Expr}
section
variable {X:Cx} {pins:List (Addr × Obj)} {σ:St} {H:Hp} {s:Shared} {h':Heap}
theorem Inv.turnedC {t':Nat} (I:Inv X pins σ H s) (k:∀ b o,b∉ch->s.heap.get? b=some o->h'.get? b=some o) (f:∀ b∈ch,FpOk X pins H b):Inv X pins σ H { s with heap:=h',toks:=t' }:=by
 have nfp:∀ {b:Addr} {u:HO},H b=some u->b∉ch:=fun {b u} q z=>by rw [(f b z).1] at q;cases q
 refine I.step (g':=s.gens) (d':=s.drawn) (ch:=ch) (fun b hb=>⟨(f b hb).2.2.2.1,(f b hb).2.1,(f b hb).2.2.2.2.1,(f b hb).2.2.2.2.2⟩) (fun b o _ _ hc q _=>k b o hc q) (fun b o _ _ hc q _=>⟨o.slots,k b o hc q⟩)
  (fun b o hc q z=>z) (fun b o hc q=>⟨o,k b o hc q⟩) (fun b ys q=>q) (fun b o u q=>q) (fun b ps q=>⟨#[],by rw [q];simp⟩) (fun m hm=>?_) (fun b u q=>?_) I.bare
 ·obtain ⟨o,es,ep,ho,r⟩:=hm
  exact ⟨o,es,ep,k _ o (fun z=>(f _ z).2.1 rfl) ho,r⟩
 ·refine (I.hok b u q).stay (fun c v hc z=>?_) (fun c z=>z) fun c ys z=>z
  rcases hc with rfl | hc
  ·exact k c v (nfp q) z
  ·exact k c v (nfp hc) z
theorem Inv.turnedN {T:Addr} {t':Nat} (I:Inv X pins σ H s) (k:∀ b o,b∉ch->s.heap.get? b=some o->h'.get? b=some o) (f:∀ b∈ch,FpOk X pins H b)
  (hT:s.heap.objs.size<=T) (new:ObjOk X.prog X.w (upd H T (.tup xs)) h' T (.tup xs)):Inv X pins σ (upd H T (.tup xs)) { s with heap:=h',toks:=t' }:=by
 have hn:H T=none:=I.hok.fresh hT
 have nT:∀ {b:Addr} {o:Obj},s.heap.get? b=some o->b≠T:=fun {b o} q=>zyy (zyq (zym q) hT)
 have nfp:∀ {b:Addr} {u:HO},H b=some u->b∉ch:=fun {b u} q z=>by rw [(f b z).1] at q;cases q
 refine I.step (g':=s.gens) (d':=s.drawn) (ch:=ch) (fun b hb=>⟨(f b hb).2.2.2.1,(f b hb).2.1,(f b hb).2.2.2.2.1,(f b hb).2.2.2.2.2⟩) (fun b o _ _ hc q _=>k b o hc q) (fun b o _ _ hc q _=>⟨o.slots,k b o hc q⟩)
  (fun b o hc q z=>by rw [zad (nT q)];exact z) (fun b o hc q=>⟨o,k b o hc q⟩)
  (fun b ys q=>by rw [zad (zac q hn)];exact q) (fun b o u q=>by rw [zad (zac q hn)];exact q) (fun b ps q=>⟨#[],by rw [zad (zac q hn),q];simp⟩) (fun m hm=>?_) (fun b u q=>?_) I.bare
 ·obtain ⟨o,es,ep,ho,r⟩:=hm
  exact ⟨o,es,ep,k _ o (fun z=>(f _ z).2.1 rfl) ho,r⟩
 ·by_cases hb:b=T
  ·subst hb;rw [zae] at q;cases q;exact new
  ·rw [zad hb] at q
   refine (I.hok b u q).stay (fun c v hc z=>?_) (fun c z=>by rw [zad (zac z hn)];exact z) fun c ys z=>by rw [zad (zac z hn)];exact z
   rcases hc with rfl | hc
   ·exact k c v (nfp q) z
   ·exact k c v (nfp hc) z
end
def SqB (t:Bool) (K:PySem.W.Frag) (H:Hp) (a:Addr) (xs:List V):Prop:=if t then SqT K H a xs else SqL K H a xs
def ItB (t:Bool) (h:Heap) (j l:Addr) (i:Nat):Prop:=if t then h.IsTupleIter j l i else h.IsListIter j l i
def IsB (t:Bool) (h:Heap) (l:Addr) (its:Array Value):Prop:=if t then h.IsTuple l its else h.IsList l its
theorem ItB.at {h h':Heap} {j l:Addr} {i:Nat} (x:ItB t h j l i) (k:∀ o,h.get? j=some o->h'.get? j=some o):ItB t h' j l i:=by
 cases t with
 | true=>obtain ⟨o,e,r⟩:=(show h.IsTupleIter j l i from x);exact (show h'.IsTupleIter j l i from ⟨o,k o e,r⟩)
 | false=>obtain ⟨o,e,r⟩:=(show h.IsListIter j l i from x);exact (show h'.IsListIter j l i from ⟨o,k o e,r⟩)
theorem ItB.obj {h:Heap} {j l:Addr} {i:Nat} (x:ItB t h j l i):∃ o,h.get? j=some o/\∀ v,o.data≠.cell v:=by
 cases t with
 | true=>obtain ⟨o,e,_,d⟩:=(show h.IsTupleIter j l i from x);exact ⟨o,e,fun v q=>by rw [d] at q;cases q⟩
 | false=>obtain ⟨o,e,_,d⟩:=(show h.IsListIter j l i from x);exact ⟨o,e,fun v q=>by rw [d] at q;cases q⟩
theorem Inv.sqB {X:Cx} {pins:List (Addr × Obj)} {σ:St} {H:Hp} {s:Shared} {a:Addr} (I:Inv X pins σ H s) (q:SqB t X.K H a xs):∃ its:List Value,Vals xs its/\IsB t s.heap a its.toArray/\a<s.heap.objs.size:=by
 cases t with
 | true =>
  obtain ⟨its,rv,p,_⟩:=I.tuple (show SqT X.K H a xs from q)
  obtain ⟨o,e,_⟩:=id p
  exact ⟨its,rv,p,zym e⟩
 | false =>
  obtain ⟨its,rv,p,_⟩:=I.list (show SqL X.K H a xs from q)
  obtain ⟨o,e,_⟩:=id p.isList
  exact ⟨its,rv,p.isList,zym e⟩
theorem Inv.sqB_inj {X:Cx} {pins:List (Addr × Obj)} {σ:St} {H:Hp} {s:Shared} {a:Addr} {ys:List V} (I:Inv X pins σ H s) (q:SqB t X.K H a xs) (q':SqB t X.K H a ys):xs=ys:=by
 cases t with
 | true=>exact I.tuple_inj (show SqT X.K H a xs from q) q'
 | false=>exact I.list_inj (show SqL X.K H a xs from q) q'
theorem drawsB {prog:Program} {w:World} {A:Around} (t:Bool) (hh:A.handled=none) (j l:Addr) (hne:l≠j) (its:Array Value):Draws prog w A j [j,l] its.size (fun i v=>its[i]?=some v) (fun i h=>ItB t h j l i/\IsB t h l its):=by
 cases t with
 | true=>exact zcp hh j l hne its
 | false=>exact Draws.list hh j l hne its
def Itz (K:PySem.W.Frag) (t1 t2:Bool) (l1 l2:Addr):It :=
 ⟨fun i H=>∃ xs ys x y,SqB t1 K H l1 xs/\SqB t2 K H l2 ys/\xs[i]?=some x/\ys[i]?=some y,
  fun i H v H'=>∃ p x y,H p=none/\v=.ref p/\H'=upd H p (.tup [x,y])/\(∀ xs,SqB t1 K H l1 xs->xs[i]?=some x)/\∀ ys,SqB t2 K H l2 ys->ys[i]?=some y,
  fun i H=>∃ xs ys,SqB t1 K H l1 xs/\SqB t2 K H l2 ys/\(i=xs.length\/i<xs.length/\i=ys.length)⟩
theorem ane {a b:Nat} (h:a<b\/b<a):(show Addr from a)≠(show Addr from b):=fun e=>by
 have e:a=b:=e
 omega
theorem anm {z a b:Nat} (h1:z<a\/a<z) (h2:z<b\/b<z):(show Addr from z)∉[(show Addr from a),(show Addr from b)]:=fun e=>by
 rcases omc e with e | e
 ·exact ane h1 e
 ·exact ane h2 (omg e)
theorem zap {N l1 l2:Nat} (h1:l1<N) (h2:l2<N):ZAp (N+4) (N+2) (N+3) N (N+1) [N,l1] [N+1,l2] :=
 ⟨⟨ane (by omega),ane (by omega),ane (by omega),ane (by omega)⟩,⟨ane (by omega),ane (by omega),ane (by omega)⟩,⟨ane (by omega),ane (by omega)⟩,ane (by omega),⟨anm (by omega) (by omega),anm (by omega) (by omega)⟩,⟨anm (by omega) (by omega),anm (by omega) (by omega)⟩,⟨anm (by omega) (by omega),anm (by omega) (by omega)⟩⟩
theorem zoi {P:Program} {w:World} {K:PySem.W.Frag} {kx:Nat} {pos:Pos} (t1 t2:Bool) (l1 l2 N:Nat) (h1:l1<N) (h2:l2<N) :
  Turn P w K (.Tuple elts kx pos) (Itz K t1 t2 l1 l2) [N+4,N+2,N+3,N,N+1] (N+4)
   (fun i h=>IsZip h (N+4) (N+2) (N+3) .none/\IsPair h (N+2) (.ref N) (.ref (N+1))/\(∃ a b,IsPair h (N+3) a b)/\ItB t1 h N l1 i/\ItB t2 h (N+1) l2 i) where
 mem:=by simp
 obj:=fun i h st b hb=>by
  obtain ⟨s1,s2,⟨a,c,s3⟩,s4,s5⟩:=st
  simp only [List.mem_cons,List.not_mem_nil,or_false] at hb
  rcases hb with rfl | rfl | rfl | rfl | rfl
  ·exact ⟨_,s1,fun v q=>by cases q⟩
  ·exact ⟨_,s2,fun v q=>by cases q⟩
  ·exact ⟨_,s3,fun v q=>by cases q⟩
  ·exact s4.obj
  ·exact s5.obj
 keep:=fun i h h' st k=>by
  obtain ⟨s1,s2,⟨a,c,s3⟩,s4,s5⟩:=st
  exact ⟨k _ (by simp) _ s1,k _ (by simp) _ s2,⟨a,c,k _ (by simp) _ s3⟩,s4.at fun o e=>k _ (by simp) o e,s5.at fun o e=>k _ (by simp) o e⟩
 item:=by
  intro X hP hw hK hc i pins s σ H E I hf st hg
  subst hP hw hK
  obtain ⟨xs,ys,x,y,q1,q2,hx,hy⟩:=hg
  obtain ⟨s1,s2,⟨a,c,s3⟩,s4,s5⟩:=st
  obtain ⟨its,rv,p,_⟩:=I.sqB q1
  obtain ⟨jts,rw',p',_⟩:=I.sqB q2
  obtain ⟨u,hu,ru⟩:=rv.get hx
  obtain ⟨u',hu',ru'⟩:=rw'.get hy
  have hd:X.A.in1.handled=none:=I.ok.hd hc
  have D1:=drawsB (prog:=X.prog) (w:=X.w) (A:=X.A.in1) t1 hd N l1 (ane (.inl h1)) its.toArray
  have D2:=drawsB (prog:=X.prog) (w:=X.w) (A:=X.A.in1) t2 hd (N+1) l2 (ane (by omega)) jts.toArray
  have lt1:i<its.toArray.size:=by
   have:=(ome hu).1
   rw [zyk];exact this
  have lt2:i<jts.toArray.size:=by
   have:=(ome hu').1
   rw [zyk];exact this
  have zlt:N+4<s.heap.objs.size:=zym s1
  refine zka D1 D2 (zap h1 h2) s1 s2 s3 ⟨s4,p⟩ ⟨s5,p'⟩ lt1 lt2 fun v v' g tk hv hv' b3 b4 b5 b6 b7 b8 b9=>⟨_,rfl,wpAny_letOwnedTupleGo_zip b3 fun g2 z2 e2=>?_⟩
  have ev:v=u:=by
   have z:its[i]?=some v:=by simpa using hv
   rw [hu] at z;exact (zy5 z).symm
  have ev':v'=u':=by
   have z:jts[i]?=some v':=by simpa using hv'
   rw [hu'] at z;exact (zy5 z).symm
  subst ev ev'
  have up:∀ b o,b≠N+4->g.get? b=some o->g2.get? b=some o:=fun b o hb e=>(e2.2 b hb).trans e
  have hk2:∀ b o,b∉[N+4,N+2,N+3,N,N+1]->s.heap.get? b=some o->g2.get? b=some o:=fun b o hb e=>by
   simp only [List.mem_cons,List.not_mem_nil,or_false,not_or] at hb
   exact up b o hb.1 (b9 b o hb.1 hb.2.2.1 hb.2.2.2.1 hb.2.2.2.2 e)
  have nT:s.heap.objs.size≠N+4:=Nat.ne_of_gt zlt
  have I1:Inv X pins σ (upd H s.heap.objs.size (.tup [x,y])) { s with heap:=g2,toks:=tk }:=I.turnedN hk2 hf (zyl _)
   ⟨by show 2<=sizeLine;decide,[v,v'],.cons ru (.cons ru' .nil),⟨_,up _ _ nT b7,rfl,_,rfl⟩⟩
  refine ⟨.ref s.heap.objs.size,_,I1,rfl,⟨_,x,y,I.fresh,rfl,rfl,fun zs hz=>by rw [I.sqB_inj hz q1];exact hx,fun zs hz=>by rw [I.sqB_inj hz q2];exact hy⟩,⟨z2,?_,⟨_,_,up _ _ (ane (a:=N+3) (b:=N+4) (by omega)) b4⟩,?_,?_⟩,fun b hb=>?_⟩
  ·exact up _ _ (ane (a:=N+2) (b:=N+4) (by omega)) (b9 _ _ (ane (a:=N+2) (b:=N+4) (by omega)) (ane (a:=N+2) (b:=N+3) (by omega)) (ane (a:=N+2) (b:=N) (by omega)) (ane (a:=N+2) (b:=N+1) (by omega)) s2)
  ·exact b5.1.at fun o e=>up _ o (ane (a:=N) (b:=N+4) (by omega)) e
  ·exact b6.1.at fun o e=>up _ o (ane (a:=N+1) (b:=N+4) (by omega)) e
  ·have hbl:b<s.heap.objs.size:=by
    have zl:N+4<s.heap.objs.size:=zlt
    simp only [List.mem_cons,List.not_mem_nil,or_false] at hb
    rcases hb with e | e | e | e | e<;>(rw [e];show (_:Nat)<_;omega)
   rw [zad (zyy hbl)];exact (hf b hb).1
 done:=by
  intro X hP hw hK hc i pins s σ H E I hf st hg
  subst hP hw hK
  obtain ⟨xs,ys,q1,q2,hx⟩:=hg
  obtain ⟨s1,s2,⟨a,c,s3⟩,s4,s5⟩:=st
  obtain ⟨its,rv,p,_⟩:=I.sqB q1
  obtain ⟨jts,rw',p',_⟩:=I.sqB q2
  have hd:X.A.in1.handled=none:=I.ok.hd hc
  have D1:=drawsB (prog:=X.prog) (w:=X.w) (A:=X.A.in1) t1 hd N l1 (ane (.inl h1)) its.toArray
  have D2:=drawsB (prog:=X.prog) (w:=X.w) (A:=X.A.in1) t2 hd (N+1) l2 (ane (by omega)) jts.toArray
  refine zmd D1 D2 (zap h1 h2) s1 s2 s3 ⟨s4,p⟩ ⟨s5,p'⟩ (k:=i) (by rw [zyk,zyk,<- rv.length,<- rw'.length];exact hx) fun g tk hk=>⟨rfl,I.turnedC (fun b o hb e=>?_) hf⟩
  simp only [List.mem_cons,List.not_mem_nil,or_false,not_or] at hb
  exact hk b o hb.1 hb.2.2.1 hb.2.2.2.1 hb.2.2.2.2 e
 self:=fun _ _ _ _ _ st q=>wpAny_pyIter_zip st.1 q
section
variable {X:Cx}
theorem zve {a b:Expr} {ta:TA} {p pos p2:Pos} {kx:Nat} (hg:Gl X "zip") (hm:X.mg "zip"=none) (ha:PA X [a,b] ta) (hs:starEach [a,b] X.env=[(false,eval a X.env),(false,eval b X.env)]) (hs2:starEach [b] X.env=[(false,eval b X.env)]) :
  PI X (.Tuple elts kx p2) (.Call (.Name "zip" p) [a,b] [] pos) (fun σ H R=>ta σ H fun vs H1=>∃ l1 l2 t1 t2 xs ys,vs=[.ref l1,.ref l2]/\SqB t1 X.K H1 l1 xs/\SqB t2 X.K H1 l2 ys/\R (Itz X.K t1 t2 l1 l2) H1):=by
 intro pins s σ H R I h
 refine Call_ (zew I hg hm (show bootBuiltins "zip"=some (.type "zip") by decide +kernel) (PyProof.Rows.callWith_type1 (thn (ha pos pins s σ H _ I h) fun us s1 ⟨vs,H1,I1,r1,q1⟩=>?_) (by rw [hs,hs2]) (by rw [hs2];rfl)))
 obtain ⟨l1,l2,t1,t2,xs,ys,e,q1,q2,q⟩:=q1
 subst e
 obtain ⟨u,u',rfl,rx,ry⟩:=vals2 r1
 cases rx
 cases ry
 obtain ⟨its,rv,b1,lt1⟩:=I1.sqB q1
 obtain ⟨jts,rw',b2,lt2⟩:=I1.sqB q2
 have fin:∀ {g:Heap},IsZip g (s1.heap.objs.size+4) (s1.heap.objs.size+2) (s1.heap.objs.size+3) .none->IsPair g (s1.heap.objs.size+2) (.ref s1.heap.objs.size) (.ref (s1.heap.objs.size+1))->IsPair g (s1.heap.objs.size+3) .none .none ->
   ItB t1 g s1.heap.objs.size l1 0->ItB t2 g (s1.heap.objs.size+1) l2 0->(∀ c o,s1.heap.get? c=some o->g.get? c=some o)->wpAny (model X.prog X.w) X.A (pyIter (.ref (s1.heap.objs.size+4))) (PIE X pins σ (.Tuple elts kx p2) R) X.xe { s1 with heap:=g }:=fun {g} y1 y2 y3 y4 y5 k=>by
  refine wpAny_pyIter_zip (s:={ s1 with heap:=g }) y1 ⟨_,_,_,_,H1,rfl,I1.kept (t':=s1.toks) k,zoi t1 t2 l1 l2 s1.heap.objs.size lt1 lt2,⟨y1,y2,⟨_,_,y3⟩,y4,y5⟩,fun b hb=>?_,q⟩
  have le:s1.heap.objs.size<=b:=by
   simp only [List.mem_cons,List.not_mem_nil,or_false] at hb
   rcases hb with e | e | e | e | e<;>(rw [e];show (_:Nat)<=_;omega)
  exact I1.fpOk le (I1.hok.fresh le)
 cases t1<;>cases t2
 ·exact zqf b1 b2 fun g y1 y2 y3 y4 y5 _ k=>fin y1 y2 y3 y4 y5 k
 ·exact zqe b1 b2 fun g y1 y2 y3 y4 y5 _ k=>fin y1 y2 y3 y4 y5 k
 ·exact zqd b1 b2 fun g y1 y2 y3 y4 y5 _ k=>fin y1 y2 y3 y4 y5 k
 ·exact zqc b1 b2 fun g y1 y2 y3 y4 y5 _ k=>fin y1 y2 y3 y4 y5 k
end
end L2
end
end
end
noncomputable section
noncomputable section
noncomputable section
namespace Ev
open PySem PySem.Spec PyProof.Rows L2
variable {f:Env->Option T} {k:Nat} {tg:Expr} {K:PySem.W.Frag} {F':Hp} {l:Addr} {vs:List V} {ts:List T} {G:Glo} {elts:List Expr}
section
variable {X:Cx} {c:Tc} {a b:Expr} {pos p:Pos}
def spF (X:Cx) (c:Tc) (f:Env->Option T):TE:=fun σ H Q=>∃ r F x,EnvE X c r F σ H/\f r=some (.str x)/\x.length<=sizeLine/\∀ F' H',Step F H F' H'->Q (.str x) H'
theorem zx7 (ha:Oke X c a f):PE X (.FormattedValue a (-1) none pos) (spF X c f):=by
 intro pins s σ H Q I q
 obtain ⟨r,F,x,e,ht,hz,q⟩:=q
 refine FormattedValue_plain (thn (ha pins s σ H (fun v H'=>v=.str x/\Q (.str x) H') I ⟨r,F,_,e,ht,fun v F' H' s1 r1=>⟨r1,q F' H' s1⟩⟩) fun u s1 ⟨v,H1,I1,r1,e1,q1⟩=>?_)
 subst e1
 obtain ⟨t,rfl⟩:=r1
 exact formatField_str (fun t' tk=>⟨.str x,H1,I1.tok _,⟨_,rfl⟩,q1⟩) hz
theorem zx8 {x:Str}:PE X (.Constant (.str x) k pos) (spF X c fun _=>some (.str x)):=by
 refine zav zqw fun σ H Q q=>?_
 obtain ⟨r,F,y,e,ht,hz,q⟩:=q
 cases ht
 exact q F H (Step.refl e.fh)
inductive Fps (X:Cx) (c:Tc):List Expr->(Env->Option (List T))->Prop
 | nil:Fps X c [] (fun _=>some [])
 | cons {e:Expr} {es:List Expr} {f:Env->Option T} {g:Env->Option (List T)}:PE X e (spF X c f)->Fps X c es g->Fps X c (e::es) (fun r=>(f r).bind fun x=>(g r).bind fun xs=>some (x::xs))
structure Walk (K:PySem.W.Frag) (J:It) (ts:List T) (F':Hp):Prop where
 go:∀ (i:Nat) (H:Hp),i<ts.length->Same F' H->J.go i H
 yld:∀ (i:Nat) (H:Hp) (x:V) (H5 F:Hp) (t:T),ts[i]?=some t->Same F' F->Same F H->J.yld i H x H5->∃ F5,Step F H F5 H5/\Rep K F5 t x
 stop:∀ (H:Hp),Same F' H->J.stop ts.length H
def spI (X:Cx) (c:Tc) (f:Env->Option (List T)):TI:=fun σ H R=>∃ r F ts,EnvE X c r F σ H/\f r=some ts/\∀ J F' H',Step F H F' H'->Walk X.K J ts F'->R J H'
theorem zfc {it:Expr} {t t':TI} (h:PI X tg it t) (m:∀ σ H R,t' σ H R->t σ H R):PI X tg it t':=fun pins s σ H R I q=>h pins s σ H R I (m σ H R q)
theorem zkz (h1:Ls K F' l vs) (h2:Reps K F' ts vs):Walk K (Itl K l) ts F' where
 go:=fun i H hi sm=>by
  obtain ⟨v,hv,_⟩:=h2.get (zyi hi)
  exact ⟨vs,v,(Ls.same sm h1).sq,hv⟩
 yld:=fun i H x H5 F t ht sF fh y=>by
  obtain ⟨rfl,y⟩:=y
  obtain ⟨v,hv,hr⟩:=h2.get ht
  have e:=y vs ((Ls.same fh (Ls.same sF h1)).sq)
  rw [hv] at e
  cases e
  exact ⟨F,Step.refl fh,hr.mono sF⟩
 stop:=fun H sm=>⟨vs,(Ls.same sm h1).sq,by rw [h2.length];exact zyl _⟩
theorem zoq {F:Hp} {a:Addr} {xs:List V} (e:Same F F') (h:SqT K F a xs):SqT K F' a xs:=by
 rcases h with h | h
 ·exact .inl (zlj e h)
 ·exact .inr h
theorem zoe (h1:Tq K F' l vs) (h2:Reps K F' ts vs):Walk K (Itt K l) ts F' where
 go:=fun i H hi sm=>by
  obtain ⟨v,hv,_⟩:=h2.get (zyi hi)
  exact ⟨vs,v,zam sm h1,hv⟩
 yld:=fun i H x H5 F t ht sF fh y=>by
  obtain ⟨rfl,y⟩:=y
  obtain ⟨v,hv,hr⟩:=h2.get ht
  have e:=y vs (zam (sF.trans fh) h1)
  rw [hv] at e
  cases e
  exact ⟨F,Step.refl fh,hr.mono sF⟩
 stop:=fun H sm=>⟨vs,zam sm h1,by rw [h2.length];exact zyl _⟩
theorem zlp {n i:Nat} {t:T} (h:(rangeT n)[i]?=some t):i<n/\t=.int (i:Int):=by
 unfold rangeT at h
 rw [zzc] at h
 obtain ⟨j,hj,e⟩:=oms h
 have:=ome hj
 obtain ⟨h1,h2⟩:=this
 rw [List.getElem_range] at h2
 subst h2
 exact ⟨by simpa using h1,e.symm⟩
theorem zjw (n:Nat):Walk K (Itr 0 n) (rangeT n) F' where
 go:=fun i H hi _=>by
  have:i<n:=by simpa [rangeT] using hi
  exact this
 yld:=fun i H x H5 F t ht _ fh y=>by
  obtain ⟨rfl,rfl⟩:=y
  obtain ⟨_,rfl⟩:=zlp ht
  exact ⟨F,Step.refl fh,by show V.int (0+(i:Int))=V.int (i:Int);rw [Int.zero_add]⟩
 stop:=fun H _=>by show n<=(rangeT n).length;simp [rangeT]
theorem zjk:∀ {ts:List T} {i j:Nat} {t:T},(enumT ts j)[i]?=some t->∃ u,ts[i]?=some u/\t=.tup [.int ((j+i:Nat):Int),u]
 | [],_,_,_,h=>by simp [enumT] at h
 | u::ts,0,j,t,h=>by simp [enumT] at h;exact ⟨u,rfl,by rw [<- h];simp⟩
 | u::ts,i+1,j,t,h=>by
  simp only [enumT,List.getElem?_cons_succ] at h
  obtain ⟨w,h1,h2⟩:=zjk (ts:=ts) (i:=i) (j:=j+1) h
  exact ⟨w,by simpa using h1,by rw [h2,show j+1+i=j+(i+1) by omega]⟩
theorem zfp:∀ (ts:List T) (j:Nat),(enumT ts j).length=ts.length
 | [],_=>rfl
 | _::ts,j=>by simp [enumT,zfp ts (j+1)]
theorem zfy {sq:Hp->Addr->List V->Prop} (mono:∀ {F G:Hp} {xs:List V},Same F G->sq F l xs->sq G l xs) (h1:sq F' l vs) (h2:Reps K F' ts vs):Walk K (Ite sq l) (enumT ts 0) F' where
 go:=fun i H hi sm=>by
  rw [zfp] at hi
  obtain ⟨v,hv,_⟩:=h2.get (zyi hi)
  exact ⟨vs,v,mono sm h1,hv⟩
 yld:=fun i H x H5 F t ht sF fh y=>by
  obtain ⟨p,v,hp,rfl,rfl,y⟩:=y
  obtain ⟨u,hu,rfl⟩:=zjk ht
  obtain ⟨w,hw,hr⟩:=h2.get hu
  have e:=y vs (mono fh (mono sF h1))
  rw [hw] at e
  cases e
  have st:=(Step.refl fh).new (o:=.tup [.int (i:Int),v]) hp
  refine ⟨_,st,p,_,rfl,zae,.int (i:Int),[v],rfl,?_,v,[],rfl,(hr.mono sF).mono st.ff,rfl⟩
  show V.int (i:Int)=V.int ((0+i:Nat):Int)
  rw [Nat.zero_add]
 stop:=fun H sm=>⟨vs,mono sm h1,by rw [zfp,h2.length]⟩
theorem zof (x:Str):Walk K (Its x) (charsT x) F' where
 go:=fun i H hi _=>by
  have:i<x.cps.size:=by simpa [charsT] using hi
  exact this
 yld:=fun i H v H5 F t ht _ fh y=>by
  obtain ⟨rfl,c,hc,rfl⟩:=y
  refine ⟨F,Step.refl fh,?_⟩
  unfold charsT at ht
  rw [zzc] at ht
  obtain ⟨c',hc',rfl⟩:=oms ht
  rw [zzr,hc] at hc'
  cases hc'
  rfl
 stop:=fun H _=>by show x.cps.size<=(charsT x).length;simp [charsT]
theorem zs3 (ha:Oke X c a f):PI X tg a (spI X c fun r=>(f r).bind fun x=>items .plain [x]):=by
 refine zfc (zvf ha) fun σ H R q=>?_
 obtain ⟨r,F,ts,e,ht,q⟩:=q
 obtain ⟨t,e1,ht⟩:=obs ht
 refine ⟨r,F,t,e,e1,fun v F' H' s1 r1=>?_⟩
 cases t with
 | tup us =>
  cases ht
  obtain ⟨l,vs,rfl,h1,h2⟩:=r1
  exact .inl ⟨l,rfl,.inr ⟨vs,zam s1.fh h1,q _ F' H' s1 (zoe h1 h2)⟩⟩
 | lst us =>
  cases ht
  obtain ⟨l,vs,rfl,h1,h2⟩:=r1
  exact .inl ⟨l,rfl,.inl ⟨vs,(Ls.same s1.fh h1).sq,q _ F' H' s1 (zkz h1 h2)⟩⟩
 | str x =>
  cases r1
  simp only [items] at ht
  split at ht
  ·rename_i ha
   cases ht
   exact .inr ⟨x,rfl,ha,q _ F' H' s1 (zof x)⟩
  ·cases ht
 | _=>cases ht
theorem zpj (gd:Gd X c G k) (hg:glB c.sc "range"=true) (ha:Oke X c a f) (hs:starEach [a] X.env=[(false,eval a X.env)]) :
  PI X tg (.Call (.Name "range" p) [a] [] pos) (spI X c fun r=>(f r).bind fun x=>items .range [x]):=by
 refine zfc (zl4 (gd.gl _ hg) (gd.nob _ (by decide +kernel)) (zcc ha hs) hs) fun σ H R q=>?_
 obtain ⟨r,F,ts,e,ht,q⟩:=q
 obtain ⟨t,e1,ht⟩:=obs ht
 refine ⟨r,F,[t],e,Option.bind_eq_some_iff.mpr ⟨t,e1,rfl⟩,fun vs F' H' s1 r1=>?_⟩
 obtain ⟨v,w,rfl,h1,h2⟩:=r1
 cases h2
 cases t with
 | int n =>
  cases h1
  simp only [items] at ht
  split at ht
  ·rename_i hz
   cases ht
   have e62:(2:Int) ^ 62=4611686018427387904:=by decide
   exact ⟨n,rfl,by rw [e62];exact hz.1,by rw [e62];exact hz.2,q _ F' H' s1 (zjw _)⟩
  ·cases ht
 | _=>cases ht
theorem zs5 (gd:Gd X c G k) {kx:Nat} {p2:Pos} (hg:glB c.sc "enumerate"=true) (ha:Oke X c a f) (hs:starEach [a] X.env=[(false,eval a X.env)]) :
  PI X (.Tuple elts kx p2) (.Call (.Name "enumerate" p) [a] [] pos) (spI X c fun r=>(f r).bind fun x=>items .enum [x]):=by
 refine zfc (zsr (gd.gl _ hg) (gd.nob _ (by decide +kernel)) (zcc ha hs) hs) fun σ H R q=>?_
 obtain ⟨r,F,ts,e,ht,q⟩:=q
 obtain ⟨t,e1,ht⟩:=obs ht
 refine ⟨r,F,[t],e,Option.bind_eq_some_iff.mpr ⟨t,e1,rfl⟩,fun vs F' H' s1 r1=>?_⟩
 obtain ⟨v,w,rfl,h1,h2⟩:=r1
 cases h2
 cases t with
 | tup us =>
  cases ht
  obtain ⟨l,vs,rfl,h1,h2⟩:=h1
  exact ⟨l,rfl,.inr ⟨vs,zam s1.fh h1,q _ F' H' s1 (zfy (sq:=SqT X.K) (fun e h=>zoq e h) (SqT.of h1) h2)⟩⟩
 | lst us =>
  cases ht
  obtain ⟨l,vs,rfl,h1,h2⟩:=h1
  exact ⟨l,rfl,.inl ⟨vs,(Ls.same s1.fh h1).sq,q _ F' H' s1 (zfy (sq:=SqL X.K) (fun e h=>e.seq h) h1.sq h2)⟩⟩
 | _=>cases ht
theorem zg3:∀ (xs ys:List T),(zipT xs ys).length=min xs.length ys.length
 | [],_=>by simp [zipT]
 | _::_,[]=>by simp [zipT]
 | x::xs,y::ys=>by
  show (zipT xs ys).length+1=min (xs.length+1) (ys.length+1)
  rw [zg3 xs ys];exact (Nat.succ_min_succ _ _).symm
theorem zqm:∀ {xs ys:List T} {i:Nat} {t:T},(zipT xs ys)[i]?=some t->∃ x y,xs[i]?=some x/\ys[i]?=some y/\t=.tup [x,y]
 | [],_,_,_,h=>by simp [zipT] at h
 | _::_,[],_,_,h=>by simp [zipT] at h
 | x::xs,y::ys,0,t,h=>by simp [zipT] at h;exact ⟨x,y,rfl,rfl,h.symm⟩
 | x::xs,y::ys,i+1,t,h=>by
  simp only [zipT,List.getElem?_cons_succ] at h
  obtain ⟨u,v,h1,h2,h3⟩:=zqm h
  exact ⟨u,v,by simpa using h1,by simpa using h2,h3⟩
theorem zqq {F:Hp} {t:T} {v:V} (h:seqOf t=some ts) (r:Rep K F t v):∃ b l vs,v=.ref l/\Reps K F ts vs/\∀ H,Same F H->SqB b K H l vs:=by
 cases t with
 | tup us=>cases h;obtain ⟨l,vs,rfl,h1,h2⟩:=r;exact ⟨true,l,vs,rfl,h2,fun H sm=>zam sm h1⟩
 | lst us=>cases h;obtain ⟨l,vs,rfl,h1,h2⟩:=r;exact ⟨false,l,vs,rfl,h2,fun H sm=>(Ls.same sm h1).sq⟩
 | _=>cases h
theorem zod {b1 b2:Bool} {l1 l2:Addr} {ws:List V} {xs ys:List T} (q1:∀ H,Same F' H->SqB b1 K H l1 vs) (q2:∀ H,Same F' H->SqB b2 K H l2 ws) (h1:Reps K F' xs vs) (h2:Reps K F' ys ws):Walk K (Itz K b1 b2 l1 l2) (zipT xs ys) F' where
 go:=fun i H hi sm=>by
  rw [zg3] at hi
  obtain ⟨v,hv,_⟩:=h1.get (zyi (show i<xs.length by omega))
  obtain ⟨u,hu,_⟩:=h2.get (zyi (show i<ys.length by omega))
  exact ⟨vs,ws,v,u,q1 H sm,q2 H sm,hv,hu⟩
 yld:=fun i H x H5 F t ht sF fh y=>by
  obtain ⟨p,v,u,hp,rfl,rfl,y1,y2⟩:=y
  obtain ⟨a,b,ha,hb,rfl⟩:=zqm ht
  obtain ⟨va,hva,ra⟩:=h1.get ha
  obtain ⟨vb,hvb,rb⟩:=h2.get hb
  have e1:=y1 vs (q1 H (sF.trans fh))
  have e2:=y2 ws (q2 H (sF.trans fh))
  rw [hva] at e1
  rw [hvb] at e2
  cases e1
  cases e2
  have st:=(Step.refl fh).new (o:=.tup [v,u]) hp
  exact ⟨_,st,p,_,rfl,zae,v,[u],rfl,(ra.mono sF).mono st.ff,u,[],rfl,(rb.mono sF).mono st.ff,rfl⟩
 stop:=fun H sm=>⟨vs,ws,q1 H sm,q2 H sm,by rw [zg3,h1.length,h2.length];omega⟩
theorem zvx (gd:Gd X c G k) {b:Expr} {kx:Nat} {p2:Pos} {g:Env->Option T} (hg:glB c.sc "zip"=true) (ha:Oke X c a f) (hb:Oke X c b g) (hs:starEach [a,b] X.env=[(false,eval a X.env),(false,eval b X.env)]) (hs2:starEach [b] X.env=[(false,eval b X.env)]) :
  PI X (.Tuple elts kx p2) (.Call (.Name "zip" p) [a,b] [] pos) (spI X c fun r=>(f r).bind fun x=>(g r).bind fun y=>items .zip [x,y]):=by
 refine zfc (zve (gd.gl _ hg) (gd.nob _ (by decide +kernel)) (zhl ha (zcc hb hs2) (by rw [hs,hs2])) hs hs2) fun σ H R q=>?_
 obtain ⟨r,F,ts,e,ht,q⟩:=q
 obtain ⟨t1,e1,ht⟩:=obs ht
 obtain ⟨t2,e2,ht⟩:=obs ht
 refine ⟨r,F,[t1,t2],e,Option.bind_eq_some_iff.mpr ⟨t1,e1,Option.bind_eq_some_iff.mpr ⟨[t2],Option.bind_eq_some_iff.mpr ⟨t2,e2,rfl⟩,rfl⟩⟩,fun vs F' H' s1 r1=>?_⟩
 obtain ⟨v,w1,rfl,r1,w,w2,rfl,r2,r3⟩:=r1
 cases r3
 obtain ⟨xs,x1,ht⟩:=obs ht
 obtain ⟨ys,y1,ht⟩:=obs ht
 cases ht
 obtain ⟨b1,l1,vs1,rfl,a1,a2⟩:=zqq x1 r1
 obtain ⟨b2,l2,vs2,rfl,a3,a4⟩:=zqq y1 r2
 exact ⟨l1,l2,b1,b2,vs1,vs2,rfl,a2 H' s1.fh,a4 H' s1.fh,q _ F' H' s1 (zod a2 a4 a1 a3)⟩
def setV:List Nat->List V->L2.St->L2.St
 | i::is,v::vs,σ=>setV is vs (σ.set i (some v))
 | _,_,σ=>σ
def gL:List Nat->TGs
 | []=>gNil
 | i::is=>gCons (gName i) (gL is)
theorem zws:∀ {is:List Nat} {vs:List V} {σ:L2.St} {H:Hp} {Q:L2.St->Hp->Prop},vs.length=is.length->Q (setV is vs σ) H->gL is vs σ H Q
 | [],[],_,_,_,_,q=>⟨rfl,q⟩
 | [],_::_,_,_,_,h,_=>by simp at h
 | _::_,[],_,_,_,h,_=>by simp at h
 | i::is,v::vs,σ,H,Q,h,q=>⟨v,vs,rfl,zws (is:=is) (by simpa using h) q⟩
structure At (X:Cx) (x:Str) (i:Nat):Prop where
 ix:X.N[i]?=some x
 loc:Loc X.env.scope x
 fn:X.fn x=true\/X.env.scope.names.lookup x=some .local
inductive Ats (X:Cx):List Str->List Nat->Prop
 | nil:Ats X [] []
 | cons {x:Str} {i:Nat} {xs:List Str} {is:List Nat}:At X x i->Ats X xs is->Ats X (x::xs) (i::is)
theorem zi3 (hN:X.N.Nodup):∀ {es:List Expr} {xs:List Str} {is:List Nat},(es.mapM fun e=>match e with | .Name x _=>some x | _=>none)=some xs->Ats X xs is ->
  PGs X es (gL is)/\(assignEach es X.env).length=xs.length/\(assignEach es X.env).findIdx? (·.1)=none
 | [],xs,is,h,ha=>by
  have e:xs=[]:=by simpa using h.symm
  subst e
  cases ha
  exact ⟨zss,rfl,rfl⟩
 | e::es,xs,is,h,ha=>by
  rw [List.mapM_cons] at h
  obtain ⟨x,h1,h⟩:=obs h
  obtain ⟨xs',h2,h⟩:=obs h
  cases h
  cases ha with
  | cons a1 a2 =>
   obtain ⟨q1,q2,q3⟩:=zi3 hN (es:=es) h2 a2
   cases e with
   | Name y pos =>
    cases h1
    refine ⟨zpd (zl5 hN a1.ix a1.loc a1.fn) q1 rfl,?_,?_⟩
    ·show (assignEach es X.env).length+1=xs'.length+1
     rw [q2]
    ·show List.findIdx? (·.1) ((false,_)::assignEach es X.env)=none
     rw [List.findIdx?_cons]
     simp [q3]
   | _=>cases h1
def gT (K:PySem.W.Frag) (one:Bool) (is:List Nat):TG:=fun v σ H Q =>
 match one,is with
 | true,[i]=>Q (σ.set i (some v)) H
 | true,_=>False
 | false,is=>∃ a vs,v=.ref a/\SqT K H a vs/\vs.length=is.length/\Q (setV is vs σ) H
theorem zh7:∀ {xs:List Str} {is:List Nat},Ats X xs is->xs.length=is.length
 | _,_,.nil=>rfl
 | _,_,.cons _ h=>by simp [zh7 h]
theorem zum (hN:X.N.Nodup) (hc:X.calm=true) {xs:List Str} {is:List Nat} (h:zby tg=some xs) (ha:Ats X xs is):PG X tg (gT X.K (!isTupE tg) is):=by
 cases tg with
 | Name x pos =>
  cases h
  cases ha with
  | cons a1 a2 =>
   cases a2
   exact zl5 hN a1.ix a1.loc a1.fn
 | Tuple es k pos =>
  obtain ⟨q1,q2,q3⟩:=zi3 hN h ha
  intro pins s σ H v u Q I r hw
  obtain ⟨a,vs,rfl,h1,h2,q⟩:=hw
  exact zvg hc q1 (q2.trans (zh7 ha)) q3 pins s σ H _ u Q I r ⟨a,vs,rfl,h1,h2,zws h2 q⟩
 | _=>cases h
end
section
variable {M:Program} {W:World} {A:Around} {E:Value->Shared->Prop}
end
section
variable {X:Cx}
def gLs (K:PySem.W.Frag) (is:List Nat):TG:=fun v σ H Q=>∃ a vs,v=.ref a/\(Ls K H a vs\/SqT K H a vs)/\vs.length=is.length/\Q (setV is vs σ) H
end
end Ev
end
end
end
noncomputable section
noncomputable section
noncomputable section
namespace Ev
open PySem PySem.Spec PyProof.Rows L2
theorem zbe:∀ {l:List Str} {x:Str} {i:Nat},nameIx l x=some i->l[i]?=some x
 | [],_,_,h=>by cases h
 | y::r,x,i,h=>by
  unfold nameIx at h
  split at h
  ·rename_i e
   cases h
   rw [eq_of_beq e];rfl
  ·obtain ⟨j,hj,rfl⟩:=oms h
   simpa using zbe hj
theorem zeu:∀ {l r:List Str} {x:Str} {i:Nat},nameIx (l++r) x=some i->(nameIx l x=some i/\i<l.length)\/(x∉l/\l.length<=i/\nameIx r x=some (i-l.length))
 | [],r,x,i,h=>.inr ⟨by simp,Nat.zero_le _,by simpa using h⟩
 | y::l,r,x,i,h=>by
  rw [List.cons_append,nameIx] at h
  split at h
  ·rename_i e
   cases h
   left
   rw [nameIx,if_pos e]
   exact ⟨rfl,by simp⟩
  ·rename_i e
   obtain ⟨j,hj,rfl⟩:=oms h
   rcases zeu hj with ⟨h1,h2⟩ | ⟨h1,h2,h3⟩
   ·left
    rw [nameIx,if_neg e,h1]
    exact ⟨rfl,by simpa using h2⟩
   ·right
    refine ⟨fun z=>?_,by simpa using h2,?_⟩
    ·rcases omc z with q | q
     ·exact e (by rw [q];exact beq_self_eq_true _)
     ·exact h1 q
    ·rw [h3,zyt,show j+1-(l.length+1)=j-l.length by omega]
theorem zgc:∀ {xs:List Str},nodupB xs=true->xs.Nodup
 | [],_=>List.nodup_nil
 | x::r,h=>by
  simp only [nodupB,Bool.and_eq_true,Bool.not_eq_true'] at h
  refine List.nodup_cons.mpr ⟨fun z=>?_,zgc h.2⟩
  have:=h.1
  rw [List.contains_iff_mem.mpr z] at this
  cases this
structure CsB (out sc:Scope) (xs:List Str):Prop where
 kind:sc.kind=.function
 nd:xs.Nodup
 own:∀ x∈xs,zaf x=true/\(sc.names.lookup x=some .local\/sc.names.lookup x=some .cell)
 free:∀ y∈sc.names,y.2=.free->sc.names.lookup y.1=some .free/\(out.names.lookup y.1=some .cell\/out.names.lookup y.1=some .free)
 loc:∀ y∈sc.names,y.2=.local->sc.names.lookup y.1=some .local/\(y.1∈xs\/y.1=".0")
 cel:∀ y∈sc.names,y.2=.cell->sc.names.lookup y.1=some .cell/\y.1∈xs
theorem zw2 {out sc:Scope} {xs:List Str} (h:zcf out sc xs=true):CsB out sc xs:=by
 simp only [zcf,Bool.and_eq_true] at h
 obtain ⟨⟨⟨h1,h2⟩,h3⟩,h4⟩:=h
 have all:=oml h4
 refine ⟨by simpa using h1,zgc h2,fun x hx=>?_,fun y hy e=>?_,fun y hy e=>?_,fun y hy e=>?_⟩
 ·have:=oml h3 x hx
  simp only [Bool.and_eq_true,Bool.or_eq_true,beq_iff_eq] at this
  exact this
 ·have:=all y hy
  rw [e] at this
  simp only [Bool.and_eq_true,Bool.or_eq_true,beq_iff_eq] at this
  exact this
 ·have:=all y hy
  rw [e] at this
  simp only [Bool.and_eq_true,Bool.or_eq_true,beq_iff_eq] at this
  exact ⟨this.1,this.2.imp (fun z=>List.contains_iff_mem.mp z) id⟩
 ·have:=all y hy
  rw [e] at this
  simp only [Bool.and_eq_true,beq_iff_eq] at this
  exact ⟨this.1,List.contains_iff_mem.mp this.2⟩
section
variable {X:Cx} {c:Tc} {G:Glo} {k:Nat} {scope:Scope} {xs:List Str} {pins:List (Addr × Obj)} {fp:List Addr} {s₃:Shared} {H₃:Hp}
theorem CsB.sc (S:CsB c.sc scope xs) (gd:Gd X c G k):CompSc X scope xs :=
 ⟨S.kind,S.nd,fun x hx=>(S.own x hx).2,fun y hy e=>⟨(S.free y hy e).1,gd.cap y.1 (S.free y hy e).2⟩,fun y hy e=>(S.loc y hy e).1,fun y hy e=>(S.cel y hy e).1⟩
theorem zt7 {N:List Str} (h:N.Nodup):(capN scope N).Nodup:=h.sublist List.filter_sublist
theorem zw4 (S:CsB c.sc scope xs) (gd:Gd X c G k):(xs++capN scope X.N).Nodup:=by
 refine List.nodup_append.mpr ⟨S.nd,zt7 gd.nd,fun x hx y hy e=>?_⟩
 subst e
 have h1:=(S.own x hx).2
 have h2:scope.names.lookup x=some .free:=by
  have:=(List.mem_filter.mp hy).2
  simpa using this
 rw [h2] at h1
 rcases h1 with z | z<;>cases z
theorem zw5 (S:CsB c.sc scope xs) (gd:Gd X c G k):Gd (blk X pins scope xs fp s₃ H₃) ⟨scope,xs++c.nm⟩ G k where
 room:=gd.room
 calm:=gd.calm
 nob:=gd.nob
 call:=gd.call
 con:=gd.con
 vis:=fun x h=>by
  show (blk X pins scope xs fp s₃ H₃).env.scope.names.lookup x=_\/(blk X pins scope xs fp s₃ H₃).env.scope.names.lookup x=_\/(blk X pins scope xs fp s₃ H₃).env.scope.names.lookup x=_
  rw [zca]
  have h:visB scope x=true:=h
  unfold visB at h
  cases e:scope.names.lookup x with
  | none=>rw [e] at h;cases h
  | some q =>
   rw [e] at h
   cases q with
   | «local»=>exact .inl rfl
   | cell=>exact .inr (.inl rfl)
   | free =>
    dsimp only
    split
    ·exact .inr (.inl rfl)
    ·exact .inr (.inr rfl)
   | _=>cases h
 gl:=fun x h=>by
  show (blk X pins scope xs fp s₃ H₃).env.scope.names.lookup x=_
  rw [zca]
  have h:scope.names.lookup x=some .globalImplicit:=by simpa [glB] using h
  rw [h]
 cap:=fun x h=>by
  show (blk X pins scope xs fp s₃ H₃).env.scope.names.lookup x=_\/(blk X pins scope xs fp s₃ H₃).env.scope.names.lookup x=_
  rw [zca]
  have h:scope.names.lookup x=some .cell\/scope.names.lookup x=some .free:=h
  rcases h with h | h<;>rw [h]
  ·exact .inl rfl
  ·dsimp only
   split
   ·exact .inl rfl
   ·exact .inr rfl
 nd:=zw4 S gd
theorem zny (S:CsB c.sc scope xs):∀ (l:List Str) (n:Nat),(∀ (j:Nat) (x:Str),l[j]?=some x->xs[n+j]?=some x)->Ats (blk X pins scope xs fp s₃ H₃) l (List.range' n l.length)
 | [],_,_=>.nil
 | x::l,n,h=>by
  have h0:xs[n]?=some x:=by simpa using h 0 x rfl
  have hx:x∈xs:=zzm h0
  have own:=(S.own x hx).2
  have hn:n<xs.length:=(ome h0).1
  rw [zyt,List.range'_succ]
  refine .cons ⟨?_,?_,?_⟩ (zny S l (n+1) fun j y e=>by have:=h (j+1) y (by simpa using e);rwa [show n+(j+1)=n+1+j by omega] at this)
  ·show (xs++capN scope X.N)[n]?=some x
   rw [zzj hn];exact h0
  ·show (blk X pins scope xs fp s₃ H₃).env.scope.names.lookup x=_\/(blk X pins scope xs fp s₃ H₃).env.scope.names.lookup x=_
   rw [zca]
   rcases own with e | e<;>rw [e]
   ·exact .inl rfl
   ·exact .inr rfl
  ·rcases own with e | e
   ·right
    rw [zca,e]
   ·left
    show (scope.names.lookup x==some .cell)=true
    rw [e];rfl
theorem zt8 (S:CsB c.sc scope xs) {r:Env} {F:Hp} {σ:L2.St} {H Hc:Hp} (e:EnvE X c r F σ H) (hl:σ.length=X.N.length) {ts:List T} {vs:List V} (ht:ts.length=xs.length) (rv:Reps X.K F ts vs) (fh:Same F Hc) (tb:Tbk X.K F Hc) :
  EnvE (blk X pins scope xs fp s₃ H₃) ⟨scope,xs++c.nm⟩ (ts.map some++r) F (vs.map some++capS scope X.N σ) Hc where
 fh:=fh
 tb:=tb
 get:=fun x i t hpn hi hv hr=>by
  have hvl:vs.length=xs.length:=by rw [rv.length,ht]
  have hv:visB scope x=true:=hv
  rcases zeu (show nameIx (xs++c.nm) x=some i from hi) with ⟨h1,h2⟩ | ⟨h1,h2,h3⟩
  ·have hi':i<ts.length:=by omega
   rw [List.getElem?_append_left (by simpa using hi'),List.getElem?_map] at hr
   obtain ⟨t',ht',e'⟩:=oms hr
   cases e'
   obtain ⟨v,hv1,hv2⟩:=rv.get ht'
   refine ⟨i,v,?_,?_,hv2⟩
   ·show (xs++capN scope X.N)[i]?=some x
    rw [zzj h2]
    exact zbe h1
   ·rw [List.getElem?_append_left (by simp;omega),List.getElem?_map,hv1];rfl
  ·rw [List.getElem?_append_right (by simp;omega)] at hr
   have hr':r[i-xs.length]?=some (some t):=by simpa [ht] using hr
   have hfree:scope.names.lookup x=some .free:=by
    unfold visB at hv
    cases q:scope.names.lookup x with
    | none=>rw [q] at hv;cases hv
    | some kd =>
     rw [q] at hv
     cases kd with
     | free=>rfl
     | «local» =>
      have:=(S.loc _ (zbr q) rfl).2
      rcases this with z | z
      ·exact absurd z h1
      ·rw [show x=".0" from z] at hpn;exact absurd hpn (by decide +kernel)
     | cell=>exact absurd (S.cel _ (zbr q) rfl).2 h1
     | _=>cases hv
   have hout:visB c.sc x=true:=by
    rcases (S.free _ (zbr hfree) rfl).2 with z | z<;>simp [visB,z]
   obtain ⟨j,v,g1,g2,g3⟩:=e.get x (i-xs.length) t hpn h3 hout hr'
   obtain ⟨m,m1,m2⟩:=zns scope hfree X.N σ hl g1 g2
   refine ⟨xs.length+m,v,?_,?_,g3⟩
   ·show (xs++capN scope X.N)[xs.length+m]?=some x
    rw [zzl (by omega)]
    simpa using m1
   ·rw [List.getElem?_append_right (by simp;omega)]
    simpa [hvl] using m2
end
end Ev
end
end
end
noncomputable section
noncomputable section
noncomputable section
namespace Ev
open PySem PySem.Spec PyProof.Rows L2
theorem zeo:∀ (vs:List V) (front pre rest:L2.St),pre.length=vs.length->setV (List.range' front.length vs.length) vs (front++pre++rest)=front++vs.map some++rest
 | [],front,pre,rest,h=>by
  cases pre with
  | nil=>simp [setV]
  | cons _ _=>simp at h
 | v::vs,front,pre,rest,h=>by
  cases pre with
  | nil=>simp at h
  | cons p pre =>
   rw [zyt,List.range'_succ,setV]
   have e:(front++(p::pre)++rest).set front.length (some v)=(front++[some v])++pre++rest:=by
    rw [zzp,List.set_append,if_neg (zy1 _)]
    simp
   have e2:(front++[some v]).length=front.length+1:=by simp
   rw [e,<- e2,zeo vs (front++[some v]) pre rest (by simpa using h)]
   simp
def spC (X:Cx) (c:Tc) (fc:Env->Option Bool):TT:=fun σ H Q=>∃ r F b,EnvE X c r F σ H/\fc r=some b/\∀ F' H',Step F H F' H'->Q b H'
def elM (n:Nat) (r:Env) (fc:Env->Option Bool) (fe:Env->Option T):T->Option (Option T):=fun x=>(bnd n x r).bind fun r'=>(fc r').bind fun b=>if b=true then (fe r').map some else some none
section
variable {X:Cx} {c:Tc} {G:Glo} {k:Nat} {scope:Scope} {xs:List Str}
theorem zgs {elt iter tg:Expr} {ifs:List Expr} {pos:Pos} {fe:Env->Option T} {fc:Env->Option Bool} (gd:Gd X c G k) (S:CsB c.sc scope xs) (htg:zby tg=some xs) (h2n:isTupE tg=true->2<=xs.length)
  (he:∀ pins fp s₃ H₃,Gd (blk X pins scope xs fp s₃ H₃) ⟨scope,xs++c.nm⟩ G k->Oke (blk X pins scope xs fp s₃ H₃) ⟨scope,xs++c.nm⟩ elt fe)
  (hi:∀ pins fp s₃ H₃,Gd (blk X pins scope xs fp s₃ H₃) ⟨scope,xs++c.nm⟩ G k->∀ (pn:List (Addr × Obj)) (s:Shared) (σ:L2.St) (H:Hp) (Q:Bool->Hp->Prop),L2.Inv (blk X pins scope xs fp s₃ H₃) pn σ H s->spC (blk X pins scope xs fp s₃ H₃) ⟨scope,xs++c.nm⟩ fc σ H Q ->
   wpAny (model X.prog X.w) X.A (forIn ifs true fun c r=>if r=true then do let ok <- isTrue c (blk X pins scope xs fp s₃ H₃).env (eval c (blk X pins scope xs fp s₃ H₃).env);pure (ForInStep.yield ok) else pure (ForInStep.yield r)) (TP (blk X pins scope xs fp s₃ H₃) pn σ Q) (fun _ _=>False) s)
  {pins:List (Addr × Obj)} {fp:List Addr} {σ:L2.St} {H2 F2:Hp} {s2:Shared} {J:It} {it:Addr} {tn:Nat->Heap->Prop} {E:Value->Shared->Prop} {ts total:List T} {r:Env}
  (I2:L2.Inv X pins σ H2 s2) (Tn:Turn X.prog X.w X.K tg J fp it tn) (st2:tn 0 s2.heap) (f2:∀ b∈fp,FpOk X pins H2 b) (wk:Walk X.K J ts F2) (e2:EnvE X c r F2 σ H2) (hts:ts.length<=SZ) (hcm:compM (elM xs.length r fc fe) ts=some total) :
  wpAny (model X.prog X.w) X.A (newList []) (fun acc s₃=>wpAny (model X.prog X.w) X.A (newFunctionEnv scope X.env.globals (za2 X.env scope.names []) [] X.env.qual none .none (some X.env)) (fun cenv s₄ =>
   codeAny (model X.prog X.w) X.A (.compStart (.ListComp elt [⟨tg,iter,ifs,0⟩] scope pos) 0 (.ref it) acc { cenv with scope:=relabel scope X.env })
    (fun r s'=>r=.ok .next/\∃ D H',acc=.ref D/\L2.Inv X pins σ H' s'/\FpOk X pins H' cenv.locals/\(∃ m,s'.heap.Ns cenv.locals m) /\
     ∃ F vs,Step F2 H2 F H'/\F D=none/\H2 D=none/\H' D=some (.lst vs)/\Reps X.K F total vs) s₄) E s₃) E s2:=by
 have hl:σ.length=X.N.length:=I2.len
 have gb:∀ s₃ H₃,Gd (blk X pins scope xs fp s₃ H₃) ⟨scope,xs++c.nm⟩ G k:=fun s₃ H₃=>zw5 S gd
 have hat:∀ s₃ H₃,Ats (blk X pins scope xs fp s₃ H₃) xs (List.range' 0 xs.length):=fun s₃ H₃=>zny S xs 0 fun j x e=>by rw [Nat.zero_add];exact e
 refine zp5 (g:=fun _ _=>gT X.K (!isTupE tg) (List.range' 0 xs.length)) (tc:=fun s₃ H₃=>spC (blk X pins scope xs fp s₃ H₃) ⟨scope,xs++c.nm⟩ fc) (te:=fun s₃ H₃=>spE (blk X pins scope xs fp s₃ H₃) ⟨scope,xs++c.nm⟩ fe)
  gd.calm (S.sc gd) I2 Tn st2 f2 (fun s₃ H₃ _=>zum (X:=blk X pins scope xs fp s₃ H₃) (gb s₃ H₃).nd gd.calm htg (hat s₃ H₃)) (fun s₃ H₃ _=>hi pins fp s₃ H₃ (gb s₃ H₃)) (fun s₃ H₃ _=>he pins fp s₃ H₃ (gb s₃ H₃))
  (fun D i m σ' H'=>i<=ts.length/\m=ts.length-i/\(∃ pre:L2.St,σ'=pre++capS scope X.N σ/\pre.length=xs.length)/\∃ F vs rs rest,Step F2 H2 F H'/\F D=none/\H2 D=none/\H' D=some (.lst vs)/\Reps X.K F rs vs/\vs.length<=i/\compM (elM xs.length r fc fe) (ts.drop i)=some rest/\rs++rest=total)
  (fun D H'=>∃ F vs,Step F2 H2 F H'/\F D=none/\H2 D=none/\H' D=some (.lst vs)/\Reps X.K F total vs) ?_ ?_
 ·intro D hD
  exact ⟨ts.length,Nat.zero_le _,rfl,⟨_,rfl,by simp⟩,F2,[],[],total,(Step.refl e2.fh).newH hD,e2.fh.free hD,hD,zae,rfl,Nat.le_refl _,hcm,rfl⟩
 ·rintro s₃ H₃ D i m σ' H' BOk ⟨hi1,rfl,⟨pre,rfl,hpre⟩,F,vs,rs,rest,st,hF,hH2,hH',hrs,hvl,hcr,htot⟩
  have sm:Same F2 H':=st.ff.trans st.fh
  by_cases hlt:i<ts.length
  ·right
   have hti:ts[i]?=some ts[i]:=zyi hlt
   generalize hT:ts[i]=t at hti
   rw [List.drop_eq_getElem_cons hlt,hT,compM] at hcr
   obtain ⟨o,ho,hcr⟩:=obs hcr
   obtain ⟨rest',hr',hcr⟩:=obs hcr
   obtain ⟨r',hb,ho⟩:=obs (show (bnd xs.length t r).bind _=some o from ho)
   obtain ⟨bb,hfc,ho⟩:=obs ho
   refine ⟨wk.go i H' hlt sm,fun σ'' H''=>i+1<=ts.length/\(∃ pre:L2.St,σ''=pre++capS scope X.N σ/\pre.length=xs.length)/\∃ F vs rs rest,Step F2 H2 F H''/\F D=none/\H2 D=none/\H'' D=some (.lst vs)/\Reps X.K F rs vs/\vs.length<=i+1/\compM (elM xs.length r fc fe) (ts.drop (i+1))=some rest/\rs++rest=total,?_,?_⟩
   ·rintro σ'' H'' ⟨a1,a2,a3⟩
    exact ⟨ts.length-(i+1),by omega,a1,rfl,a2,a3⟩
   ·intro x H5 y
    obtain ⟨F5,st5,r5⟩:=wk.yld i H' x H5 F t hti st.ff st.fh y
    have cont:∀ (us:List T) (ws:List V),us.length=xs.length->Reps X.K F5 us ws->r'=us.map some++r->(spC (blk X pins scope xs fp s₃ H₃) ⟨scope,xs++c.nm⟩ fc) (ws.map some++capS scope X.N σ) H5 fun ok H7=>if ok=true then (spE (blk X pins scope xs fp s₃ H₃) ⟨scope,xs++c.nm⟩ fe) (ws.map some++capS scope X.N σ) H7 fun y H8=>∃ ys,H8 D=some (.lst ys)/\ys.length<sizeLine /\
      (i+1<=ts.length/\(∃ pre:L2.St,ws.map some++capS scope X.N σ=pre++capS scope X.N σ/\pre.length=xs.length)/\∃ F vs rs rest,Step F2 H2 F (upd H8 D (.lst (ys++[y])))/\F D=none/\H2 D=none/\upd H8 D (.lst (ys++[y])) D=some (.lst vs)/\Reps X.K F rs vs/\vs.length<=i+1/\compM (elM xs.length r fc fe) (ts.drop (i+1))=some rest/\rs++rest=total)
      else (i+1<=ts.length/\(∃ pre:L2.St,ws.map some++capS scope X.N σ=pre++capS scope X.N σ/\pre.length=xs.length)/\∃ F vs rs rest,Step F2 H2 F H7/\F D=none/\H2 D=none/\H7 D=some (.lst vs)/\Reps X.K F rs vs/\vs.length<=i+1/\compM (elM xs.length r fc fe) (ts.drop (i+1))=some rest/\rs++rest=total):=by
     intro us ws hul hrw hrr
     have hwl:(ws.map some:L2.St).length=xs.length:=by rw [zyj,hrw.length,hul]
     have e5:=zt8 (pins:=pins) (fp:=fp) (s₃:=s₃) (H₃:=H₃) S (e2.step (st.trans st5)) hl hul hrw st5.fh (e2.tb.up (st.trans st5))
     rw [<- hrr] at e5
     refine ⟨r',F5,bb,e5,hfc,fun F7 H7 s7=>?_⟩
     have st7:=st5.trans s7
     have hD7:H7 D=some (.lst vs):=st7.hh.st D _ hH' rfl
     have nD:∀ {F8 H8:Hp},Step F H' F8 H8->F8 D=none:=fun {F8 H8} s8=>by
      cases q:F8 D with
      | none=>rfl
      | some o =>
       rcases s8.nw D (by rw [q];simp) with z | z | ⟨_,z⟩
       ·exact absurd hF z
       ·rw [hH'] at z;cases z
       ·rw [hH'] at z;cases z
     cases bb with
     | false =>
      dsimp only at ho ⊢
      rw [if_neg zyz] at ho ⊢
      cases ho
      cases hcr
      exact ⟨hlt,⟨_,rfl,hwl⟩,F7,vs,rs,_,st.trans st7,nD st7,hH2,hD7,hrs.mono st7.ff,by omega,hr',htot⟩
     | true =>
      dsimp only at ho ⊢
      rw [if_pos rfl] at ho ⊢
      obtain ⟨yt,hye,rfl⟩:=oms ho
      cases hcr
      refine ⟨r',F7,yt,e5.step s7,hye,fun v F8 H8 s8 r8=>?_⟩
      have st8:=st7.trans s8
      have S8:=st.trans st8
      have hF8:=nD st8
      refine ⟨vs,st8.hh.st D _ hH' rfl,?_,hlt,⟨_,rfl,hwl⟩,F8,vs++[v],rs++[yt],_,⟨S8.hh.upd hH2 (st8.hh.st D _ hH' rfl) rfl (fun _ _ z=>nomatch z),S8.ff,fun b o q=>?_,S8.nw⟩,hF8,hH2,zae,(hrs.mono st8.ff).app ⟨v,[],rfl,r8,rfl⟩,by simp;omega,hr',by rw [List.append_assoc];exact htot⟩
      ·rw [<- ze4];omega
      ·rw [zad (zac q hF8)];exact S8.fh b o q
    cases htup:isTupE tg with
    | false =>
     have hx1:∃ z,xs=[z]:=by
      cases tg with
      | Name z p=>cases htg;exact ⟨z,rfl⟩
      | Tuple _ _ _=>cases htup
      | _=>cases htg
     obtain ⟨z,rfl⟩:=hx1
     have hb':some (some t::r)=some r':=hb
     cases hb'
     obtain ⟨p0,rfl⟩:∃ p0,pre=[p0]:=by
      cases pre with
      | nil=>simp at hpre
      | cons p0 q=>cases q with
       | nil=>exact ⟨p0,rfl⟩
       | cons _ _=>simp at hpre
     exact cont [t] [x] rfl ⟨x,[],rfl,r5,rfl⟩ rfl
    | true =>
     have hn2:=h2n htup
     unfold bnd at hb
     rw [if_neg (by omega)] at hb
     cases t with
     | tup us =>
      simp only at hb
      split at hb
      ·rename_i hul
       cases hb
       obtain ⟨a,ws,rfl,q1,q2⟩:=r5
       refine ⟨a,ws,rfl,zam st5.fh q1,by rw [List.length_range',q2.length,hul],?_⟩
       have es:=zeo ws [] pre (capS scope X.N σ) (by rw [hpre,q2.length,hul])
       rw [q2.length,hul] at es
       simp only [List.length_nil,List.nil_append] at es
       rw [es]
       exact cont us ws hul q2 rfl
      ·cases hb
     | _=>cases hb
  ·left
   have hie:i=ts.length:=by omega
   subst hie
   rw [List.drop_length] at hcr
   cases hcr
   rw [zy6] at htot
   subst htot
   exact ⟨wk.stop H' sm,F,vs,st,hF,hH2,hH',hrs⟩
end
end Ev
end
end
end
noncomputable section
noncomputable section
noncomputable section
namespace Ev
open PySem PySem.Spec PyProof.Rows L2
section
variable {X:Cx} {c:Tc} {G:Glo} {k:Nat} {scope:Scope} {xs:List Str}
theorem zil {F H F2 H2 F3 H':Hp} {D:Addr} {vs:List V} (a:Step F H F2 H2) (b:Step F2 H2 F3 H') (h1:F3 D=none) (h2:H2 D=none) (h3:H' D=some (.lst vs)):Step F H (upd F3 D (.lst vs)) H' :=
 have S:=a.trans b
 ⟨S.hh,S.ff.trans (za8 h1),fun x o q=>by
  by_cases hx:x=D
  ·subst hx;rw [zae] at q;cases q;exact h3
  ·rw [zad hx] at q;exact S.fh x o q,fun x z=>by
  by_cases hx:x=D
  ·subst hx;exact .inr (.inl (a.hh.free h2))
  ·rw [zad hx] at z;exact S.nw x z⟩
def compF (xs:List Str) (fi:Env->Option (List T)) (fc:Env->Option Bool) (fe:Env->Option T):Env->Option T :=
 fun r=>((fi r).bind fun its=>if its.length<=SZ then some its else none).bind fun its=>(compM (elM xs.length r fc fe) its).map .lst
variable {elt iter tg:Expr} {ifs:List Expr} {pos:Pos} {fe:Env->Option T} {fc:Env->Option Bool} {fi:Env->Option (List T)}
theorem zgu {r:Env} {t:T} (h:compF xs fi fc fe r=some t):∃ its total,fi r=some its/\its.length<=SZ/\compM (elM xs.length r fc fe) its=some total/\t=.lst total:=by
 unfold compF at h
 obtain ⟨its,h1,h⟩:=obs h
 obtain ⟨its',h2,h1⟩:=obs h1
 split at h1
 ·rename_i hz
  cases h1
  obtain ⟨total,h3,rfl⟩:=oms h
  exact ⟨its,total,h2,hz,h3,rfl⟩
 ·cases h1
theorem zhm (gd:Gd X c G k) (S:CsB c.sc scope xs) (htg:zby tg=some xs) (h2n:isTupE tg=true->2<=xs.length)
  (he:∀ pins fp s₃ H₃,Gd (blk X pins scope xs fp s₃ H₃) ⟨scope,xs++c.nm⟩ G k->Oke (blk X pins scope xs fp s₃ H₃) ⟨scope,xs++c.nm⟩ elt fe)
  (hi:∀ pins fp s₃ H₃,Gd (blk X pins scope xs fp s₃ H₃) ⟨scope,xs++c.nm⟩ G k->∀ (pn:List (Addr × Obj)) (s:Shared) (σ:L2.St) (H:Hp) (Q:Bool->Hp->Prop),L2.Inv (blk X pins scope xs fp s₃ H₃) pn σ H s->spC (blk X pins scope xs fp s₃ H₃) ⟨scope,xs++c.nm⟩ fc σ H Q ->
   wpAny (model X.prog X.w) X.A (forIn ifs true fun c r=>if r=true then do let ok <- isTrue c (blk X pins scope xs fp s₃ H₃).env (eval c (blk X pins scope xs fp s₃ H₃).env);pure (ForInStep.yield ok) else pure (ForInStep.yield r)) (TP (blk X pins scope xs fp s₃ H₃) pn σ Q) (fun _ _=>False) s)
  (hit:PI X tg iter (spI X c fi)) (hfs:∀ x,foldedSetIterable iter X.env x=pure x):Oke X c (.ListComp elt [⟨tg,iter,ifs,0⟩] scope pos) (compF xs fi fc fe):=by
 intro pins s σ H Q I q
 obtain ⟨r,F,t,e,ht,q⟩:=q
 obtain ⟨its,total,hf,hz,hcm,rfl⟩:=zgu ht
 rw [eval_ListComp]
 refine wpAny_comprehension_free (use:=none) rfl hfs (zc6 ((S.sc gd).has I.ok)) S.kind (fun y hy e=>(S.loc y hy e).1)
  (thn (hit pins s σ H (fun J H'=>∃ F',Step F H F' H'/\Walk X.K J its F') I ⟨r,F,its,e,hf,fun J F' H' s1 wk=>⟨F',s1,wk⟩⟩) fun v s1 h1=>thn h1 fun itv s2 h2=>?_)
 obtain ⟨it,fp,tn,J,H2,rfl,I2,T,st2,f2,F2,s12,wk⟩:=h2
 refine thn (zgs (E:=X.xe) gd S htg h2n he hi I2 T st2 f2 wk (e.step s12) hz hcm) fun acc s3 h3=>thn h3 fun cenv s4 h4=>codeAny_mono h4 fun res s' hres=>?_
 obtain ⟨rfl,D,H',rfl,I',fC,⟨m,hm⟩,F3,vs,st3,d1,d2,d3,d4⟩:=hres
 refine ⟨m,hm,fun h' hsb=>⟨.ref D,H',I'.turned (t':=s'.toks) (fun b o hb q=>(hsb.2 b hb).trans q) fC.1 fC.2.1 fC.2.2.2.1 fC.2.2.2.2.1 fC.2.2.2.2.2,rfl,?_⟩⟩
 have S3:=zil s12 st3 d1 d2 d3
 exact q _ _ _ S3 ⟨D,vs,rfl,Ls.of zae,d4.mono (za8 d1)⟩
def spAsg (X:Cx) (c:Tc) (i:Nat) (f:Env->Option T):TS:=fun D σ H=>∃ r F t,EnvE X c r F σ H/\f r=some t/\∀ v F' H',Step F H F' H'->Rep X.K F' t v->D.nx (σ.set i (some v)) H'
theorem zes (gd:Gd X c G k) (S:CsB c.sc scope xs) (htg:zby tg=some xs) (h2n:isTupE tg=true->2<=xs.length)
  (he:∀ pins fp s₃ H₃,Gd (blk X pins scope xs fp s₃ H₃) ⟨scope,xs++c.nm⟩ G k->Oke (blk X pins scope xs fp s₃ H₃) ⟨scope,xs++c.nm⟩ elt fe)
  (hi:∀ pins fp s₃ H₃,Gd (blk X pins scope xs fp s₃ H₃) ⟨scope,xs++c.nm⟩ G k->∀ (pn:List (Addr × Obj)) (s:Shared) (σ:L2.St) (H:Hp) (Q:Bool->Hp->Prop),L2.Inv (blk X pins scope xs fp s₃ H₃) pn σ H s->spC (blk X pins scope xs fp s₃ H₃) ⟨scope,xs++c.nm⟩ fc σ H Q ->
   wpAny (model X.prog X.w) X.A (forIn ifs true fun c r=>if r=true then do let ok <- isTrue c (blk X pins scope xs fp s₃ H₃).env (eval c (blk X pins scope xs fp s₃ H₃).env);pure (ForInStep.yield ok) else pure (ForInStep.yield r)) (TP (blk X pins scope xs fp s₃ H₃) pn σ Q) (fun _ _=>False) s)
  (hit:PI X tg iter (spI X c fi)) (hfs:∀ x,foldedSetIterable iter X.env x=pure x) {y:Str} {py spos:Pos} {i:Nat} (hy:At X y i):PS X (.Assign [.Name y py] (.ListComp elt [⟨tg,iter,ifs,0⟩] scope pos) spos) (spAsg X c i (compF xs fi fc fe)):=by
 obtain ⟨b,hb⟩:∃ b:Bool,swapsWith (.ListComp elt [⟨tg,iter,ifs,0⟩] scope pos) (some (.Name y py)) spos.line X.env=pure b:=⟨_,rfl⟩
 cases b with
 | false =>
  refine zd7 (zep gd.nd hy.ix hy.loc (zhm gd S htg h2n he hi hit hfs) hb hy.fn) fun D σ H q=>?_
  exact q
 | true =>
  intro pins s σ H Dn I q
  obtain ⟨r,F,t,e,ht,q⟩:=q
  obtain ⟨its,total,hf,hz,hcm,rfl⟩:=zgu ht
  rw [exec_Assign_Name_used _ _ _ _ hb]
  refine zyc (wpAny_standAt (zyc ?_))
  show wpAny _ X.A (do let _ <- comprehension (.ListComp elt [⟨tg,iter,ifs,0⟩] scope pos) scope X.env _ (newList []) false (eval iter X.env) (some (assign (.Name y py) X.env))) _ _ s
  refine zyc (zzw (wpAny_comprehension_free (use:=some (assign (.Name y py) X.env)) (Q:=fun _ s'=>SP X pins Dn .next s') rfl hfs (zc6 ((S.sc gd).has I.ok)) S.kind (fun y hy e=>(S.loc y hy e).1)
   (thn (hit pins s σ H (fun J H'=>∃ F',Step F H F' H'/\Walk X.K J its F') I ⟨r,F,its,e,hf,fun J F' H' s1 wk=>⟨F',s1,wk⟩⟩) fun v s1 h1=>thn h1 fun itv s2 h2=>?_)) (fun _ s' hq=>zyf (zyf hq)) fun _ _ e=>e)
  obtain ⟨it,fp,tn,J,H2,rfl,I2,T,st2,f2,F2,s12,wk⟩:=h2
  refine thn (zgs (E:=X.xe) gd S htg h2n he hi I2 T st2 f2 wk (e.step s12) hz hcm) fun acc s3 h3=>thn h3 fun cenv s4 h4=>codeAny_mono h4 fun res s' hres=>?_
  obtain ⟨rfl,D,H',rfl,I',fC,⟨m,hm⟩,F3,vs,st3,d1,d2,d3,d4⟩:=hres
  show wpAny _ X.A (assign (.Name y py) X.env (.ref D)) _ _ s'
  refine wpAny_assign_Name (zf3 I' gd.nd hy.ix hy.loc (v:=.ref D) (u:=.ref D) rfl (fun s'' I'' hsb=>?_) hy.fn)
  obtain ⟨a,hsb,ha⟩:=hsb
  have hCa:cenv.locals≠a:=by
   rcases ha with z | z
   ·rw [z];exact fC.2.1
   ·exact Ne.symm (fC.2.2.2.2.1 y a z)
  refine ⟨m,hm.sameBut hsb hCa,fun h' hsb2=>⟨_,H',I''.turned (t':=s''.toks) (fun b o hb q=>(hsb2.2 b hb).trans q) fC.1 fC.2.1 fC.2.2.2.1 fC.2.2.2.2.1 fC.2.2.2.2.2,?_⟩⟩
  have S3:=zil s12 st3 d1 d2 d3
  exact q _ _ _ S3 ⟨D,vs,rfl,Ls.of zae,d4.mono (za8 d1)⟩
end
end Ev
end
end
end
noncomputable section
noncomputable section
noncomputable section
namespace Ev
open PySem PySem.Spec PyProof.Rows L2
variable {e:Expr} {e':E}
theorem zbz {n:Nat} {c:Tc} (h:trV n c e=some e') (es:List Expr) (env:PySem.Env):starEach (e::es) env=(false,eval e env)::starEach es env:=by
 cases n with
 | zero=>cases h
 | succ n=>cases e<;>first | rfl | (cases h)
theorem zbv {n:Nat} {c:Tc} (h:trV n c e=some e') (env:PySem.Env):starEach [e] env=[(false,eval e env)]:=zbz h [] env
theorem zin {n:Nat} {c:Tc} (pos:Pos) (env:PySem.Env):∀ {es:List Expr} {xs:List E},mapO (trV n c) es=some xs->(backTo pos (starEach es env)).any (·.1)=false
 | [],_,_=>rfl
 | e::es,xs,h=>by
  obtain ⟨x,h1,h⟩:=obs h
  obtain ⟨ys,h2,_⟩:=obs h
  rw [zbz h1]
  have ih:=zin pos env h2
  unfold backTo at ih ⊢
  rw [zyh,List.any_cons,ih]
  rfl
theorem zpb {b:Expr} (h:sliceE b=false):zh8 b:=by
 cases b<;>first | (intro o i;rfl) | (cases h)
theorem zua {n:Nat} {c:Tc} {o:Expr} (h:trV n c o=some e') (m:Str) (env:PySem.Env) (w:Sem Value):attributeBase o m env w=w:=by
 cases n with
 | zero=>cases h
 | succ n =>
  cases o with
  | Call f args kws pos =>
   cases f with
   | Name id p =>
    cases args with
    | nil=>cases kws<;>(cases h;done)
    | cons _ _=>rfl
   | _=>rfl
  | _=>rfl
theorem zdz {G:Glo}:∀ {xs:List E} {r:Env} {ts:List T},evEs G xs r=some ts->ts.length=xs.length
 | [],_,_,h=>by rw [evEs] at h;cases h;rfl
 | x::xs,r,ts,h=>by
  rw [evEs] at h
  obtain ⟨t,_,h⟩:=obs h
  obtain ⟨us,h2,h⟩:=obs h
  cases h
  simp [zdz h2]
def isBO:Expr->Bool
 | .BoolOp ..=>true
 | _=>false
structure Snd (G:Glo) (k n:Nat):Prop where
 v:∀ {X:Cx} {c:Tc} {e:Expr} {e':E},Gd X c G k->trV n c e=some e'->Oke X c e (evE G e')
 t:∀ {X:Cx} {c:Tc} {e:Expr} {e':E},Gd X c G k->trT n c e=some e'->Okt X c e (evE G e')/\(isBO e=true->Okw X c e (evE G e'))
 i:∀ {X:Cx} {c:Tc} {tg e:Expr} {ki:Ik × List E},Gd X c G k->trI n c e=some ki->(ki.1.pair=true->isTupE tg=true)->PI X tg e (spI X c fun r=>(evEs G ki.2 r).bind fun xs=>items ki.1 xs)
 f:∀ {X:Cx} {c:Tc} {e:Expr} {e':E},Gd X c G k->trF n c e=some e'->PE X e (spF X c (evE G e'))
section
variable {G:Glo} {k n:Nat} {X:Cx} {c:Tc}
theorem Snd.l (S:Snd G k n) (gd:Gd X c G k):∀ {es:List Expr} {xs:List E},mapO (trV n c) es=some xs->PA X es (spL X c (evEs G xs))
 | [],xs,h=>by
  cases h
  have e:evEs G []=fun _=>some []:=by funext r;rw [evEs]
  rw [e];exact zq3
 | a::es,xs,h=>by
  obtain ⟨x,h1,h⟩:=obs h
  obtain ⟨ys,h2,h⟩:=obs h
  cases h
  have e:evEs G (x::ys)=fun r=>(evE G x r).bind fun t=>(evEs G ys r).bind fun ts=>some (t::ts):=by funext r;rw [evEs]
  rw [e]
  exact zhl (S.v gd h1) (Snd.l S gd h2) (zbz h1 es X.env)
theorem Snd.fp (S:Snd G k n) (gd:Gd X c G k):∀ {es:List Expr} {xs:List E},mapO (trF n c) es=some xs->Fps X c es (evEs G xs)
 | [],xs,h=>by
  cases h
  have e:evEs G []=fun _=>some []:=by funext r;rw [evEs]
  rw [e];exact .nil
 | a::es,xs,h=>by
  obtain ⟨x,h1,h⟩:=obs h
  obtain ⟨ys,h2,h⟩:=obs h
  cases h
  have e:evEs G (x::ys)=fun r=>(evE G x r).bind fun t=>(evEs G ys r).bind fun ts=>some (t::ts):=by funext r;rw [evEs]
  rw [e]
  exact .cons (S.f gd h1) (Snd.fp S gd h2)
theorem Snd.o (S:Snd G k n) (gd:Gd X c G k) {e:Option Expr} {x:Option E} (h:optO (trV n c) e=some x):PO X e (spO X c (evO G x)):=by
 cases e with
 | none =>
  cases h
  have e:evO G none=fun _=>some none:=by funext r;rw [evO]
  rw [e];exact zj8
 | some a =>
  obtain ⟨y,h1,rfl⟩:=oms h
  have e:evO G (some y)=fun r=>(evE G y r).map some:=by funext r;rw [evO]
  rw [e];exact zj7 (S.v gd h1)
theorem Gd.hu (gd:Gd X c G k):X.A.units+100<cLine:=by have:=gd.room.un;omega
theorem zxj (S:Snd G k n) (gd:Gd X c G k) (h:trT (n+1) c e=some e'):Okt X c e (evE G e')/\(isBO e=true->Okw X c e (evE G e')):=by
 have tru:∀ {a:Expr} {x:E},(∀ whole,isTrue a X.env whole=(do let v <- whole;standAt a.pos;holding [v] (truthy v)))->trV n c a=some x->Okt X c a (evE G (.tru x)):=fun {a x} he h1=>by
  have e:evE G (.tru x)=fun r=>(evE G x r).bind fun t=>(truT t).map .bl:=by funext r;rw [evE]
  rw [e];exact zxf (S.v gd h1) he
 cases e with
 | BoolOp op vs pos =>
  have key:Okw X c (.BoolOp op vs pos) (evE G e'):=by
   cases vs with
   | nil=>cases op<;>(cases h;done)
   | cons a r =>
    cases r with
    | nil =>
     cases op with
     | And=>exact zsf (S.t gd h).1
     | Or=>exact zu5 (S.t gd h).1
    | cons b r =>
     cases op with
     | And =>
      obtain ⟨x,h1,h⟩:=obs h
      obtain ⟨y,h2,h⟩:=obs h
      cases h
      have e:evE G (.land x y)=fun r=>(evE G x r).bind fun t=>match t with | .bl true=>evE G y r | .bl false=>some (.bl false) | _=>none:=by funext r;rw [evE];try rfl
      rw [e];exact zuk (S.t gd h1).1 ((S.t gd h2).2 rfl)
     | Or =>
      obtain ⟨x,h1,h⟩:=obs h
      obtain ⟨y,h2,h⟩:=obs h
      cases h
      have e:evE G (.lor x y)=fun r=>(evE G x r).bind fun t=>match t with | .bl true=>some (.bl true) | .bl false=>evE G y r | _=>none:=by funext r;rw [evE];try rfl
      rw [e];exact zxe (S.t gd h1).1 ((S.t gd h2).2 rfl)
  exact ⟨key.pt,fun _=>key⟩
 | UnaryOp op a pos =>
  refine ⟨?_,fun z=>by cases z⟩
  cases op with
  | Not =>
   obtain ⟨x,h1,h⟩:=obs h
   cases h
   have e:evE G (.lnot x)=fun r=>(evE G x r).bind fun t=>match t with | .bl b=>some (.bl (!b)) | _=>none:=by funext r;rw [evE];try rfl
   rw [e];exact zxg (S.t gd h1).1
  | _=>(cases h;done)
 | Compare a ops bs pos =>
  refine ⟨?_,fun z=>by cases z⟩
  match ops,bs,h with
  | [op],[b],h =>
   obtain ⟨o,h0,h⟩:=obs h
   obtain ⟨x,h1,h⟩:=obs h
   obtain ⟨y,h2,h⟩:=obs h
   cases h
   obtain ⟨q1,q2⟩:=zq2 (X:=X) gd.hu h0
   have e:evE G (.cmp o x y)=fun r=>(evE G x r).bind fun s=>(evE G y r).bind fun t=>cmpT o s t:=by funext r;rw [evE]
   rw [e];exact zs6 q1 (S.v gd h1) (S.v gd h2) q2
  | [op,op'],[b,d],h =>
   obtain ⟨o,h0,h⟩:=obs h
   obtain ⟨o',h0',h⟩:=obs h
   obtain ⟨x,h1,h⟩:=obs h
   obtain ⟨y,h2,h⟩:=obs h
   obtain ⟨z,h3,h⟩:=obs h
   cases h
   have hm:lastMarks [op,op'] [b,d]=false:=by
    show behindInMarks op' d=false
    cases op'<;>first | exact nomark _ | cases h0'
   have e:evE G (.chn o o' x y z)=fun r=>(evE G x r).bind fun s=>(evE G y r).bind fun t=>(cmpT o s t).bind fun k=>match k with | .bl true=>(evE G z r).bind fun u=>cmpT o' t u | .bl false=>some (.bl false) | _=>none:=by funext r;rw [evE];try rfl
   rw [e];exact zxh (zi1 gd.hu h0) (zi1 gd.hu h0') (S.v gd h1) (S.v gd h2) (S.v gd h3) hm
  | [],_,h=>(cases h;done)
  | [_],[],h=>(cases h;done)
  | [_],_::_::_,h=>(cases h;done)
  | [_,_],[],h=>(cases h;done)
  | [_,_],[_],h=>(cases h;done)
  | [_,_],_::_::_::_,h=>(cases h;done)
  | _::_::_::_,_,h=>(cases h;done)
 | Name x pos =>
  refine ⟨?_,fun z=>by cases z⟩
  obtain ⟨y,h1,h⟩:=obs h
  cases h
  exact tru (fun _=>rfl) h1
 | Call f es ks pos =>
  refine ⟨?_,fun z=>by cases z⟩
  obtain ⟨y,h1,h⟩:=obs h
  cases h
  exact tru (fun _=>rfl) h1
 | Subscript a b pos =>
  refine ⟨?_,fun z=>by cases z⟩
  obtain ⟨y,h1,h⟩:=obs h
  cases h
  exact tru (fun _=>rfl) h1
 | _=>(cases h;done)
theorem zxl (S:Snd G k n) (gd:Gd X c G k) (h:trF (n+1) c e=some e'):PE X e (spF X c (evE G e')):=by
 cases e with
 | FormattedValue a cv fs pos =>
  cases fs with
  | some _=>cases h
  | none =>
   have h:(if cv = -1 then trV n c a else none)=some e':=h
   by_cases hcv:cv = -1
   ·subst hcv
    rw [if_pos rfl] at h
    exact zx7 (S.v gd h)
   ·rw [if_neg hcv] at h
    cases h
 | Constant cst q pos =>
  cases cst with
  | str x =>
   have h:trV n c (.Constant (.str x) q pos)=some e':=h
   cases n with
   | zero=>cases h
   | succ n =>
    have h':e'=.cst (.str x):=by
     have z:(some (.cst (.str x)):Option E)=some e':=h
     cases z;rfl
    subst h'
    have e:evE G (.cst (.str x))=fun _=>some (.str x):=by funext r;rw [evE]
    rw [e];exact zx8
  | _=>(cases h;done)
 | _=>(cases h;done)
theorem zxk (S:Snd G k n) {tg:Expr} {ki:Ik × List E} (gd:Gd X c G k) (h:trI (n+1) c e=some ki) (ht:ki.1.pair=true->isTupE tg=true):PI X tg e (spI X c fun r=>(evEs G ki.2 r).bind fun xs=>items ki.1 xs):=by
 have one:∀ (x:E) (kk:Ik),(fun r=>(evEs G [x] r).bind fun xs=>items kk xs)=fun r=>(evE G x r).bind fun t=>items kk [t]:=fun x kk=>by
  funext r
  rw [evEs,evEs]
  cases evE G x r<;>rfl
 have plain:∀ {a:Expr},((trV n c a).bind fun x=>some (Ik.plain,[x]))=some ki->PI X tg a (spI X c fun r=>(evEs G ki.2 r).bind fun xs=>items ki.1 xs):=fun {a} h=>by
  obtain ⟨x,h1,h⟩:=obs h
  cases h
  rw [one]
  exact zs3 (S.v gd h1)
 have call:∀ {f:Str} {p pos:Pos} {a:Expr},trI (n+1) c (.Call (.Name f p) [a] [] pos)=some ki->PI X tg (.Call (.Name f p) [a] [] pos) (spI X c fun r=>(evEs G ki.2 r).bind fun xs=>items ki.1 xs):=fun {f p pos a} h=>by
  unfold trI at h
  split at h
  ·rename_i hr
   rw [zyd] at hr
   have hf:=eq_of_beq hr.1
   subst hf
   obtain ⟨x,h1,h⟩:=obs h
   cases h
   rw [one]
   exact zpj gd hr.2 (S.v gd h1) (zbv h1 X.env)
  ·split at h
   ·rename_i hr
    rw [zyd] at hr
    have hf:=eq_of_beq hr.1
    subst hf
    obtain ⟨x,h1,h⟩:=obs h
    cases h
    have htt:=ht rfl
    cases tg with
    | Tuple es kx p2 =>
     rw [one]
     exact zs5 gd hr.2 (S.v gd h1) (zbv h1 X.env)
    | _=>cases htt
   ·exact plain h
 cases e with
 | Call f args kws pos =>
  cases f with
  | Name id p =>
   match args,kws,h with
   | [a],[],h=>exact call h
   | [],kws,h=>exact plain h
   | [_],_::_,h=>exact plain h
   | [a,b],[],h =>
    replace h:(if id==("zip":Str)&&glB c.sc id then (trV n c a).bind fun x=>(trV n c b).bind fun y=>some (Ik.zip,[x,y]) else (trV n c (.Call (.Name id p) [a,b] [] pos)).bind fun x=>some (Ik.plain,[x]))=some ki:=h
    split at h
    ·rename_i hr
     rw [zyd] at hr
     obtain ⟨x,h1,g1⟩:=obs h
     obtain ⟨y,h2,g2⟩:=obs g1
     cases g2
     have hf:=eq_of_beq hr.1
     subst hf
     have htt:=ht rfl
     cases tg with
     | Tuple es kx p2 =>
      have two:(fun r=>(evEs G [x,y] r).bind fun xs=>items Ik.zip xs)=fun r=>(evE G x r).bind fun s=>(evE G y r).bind fun t=>items Ik.zip [s,t]:=by
       funext r
       rw [evEs,evEs,evEs]
       cases evE G x r<;>cases evE G y r<;>rfl
      show PI X _ _ (spI X c fun r=>(evEs G [x,y] r).bind fun xs=>items Ik.zip xs)
      rw [two]
      exact zvx gd hr.2 (S.v gd h1) (S.v gd h2) (by rw [zbz h1,zbv h2]) (zbv h2 X.env)
     | _=>cases htt
    ·exact plain h
   | [_,_],_::_,h=>exact plain h
   | _::_::_::_,kws,h=>exact plain h
  | _=>exact plain h
 | _=>exact plain h
end
end Ev
end
end
end
noncomputable section
noncomputable section
noncomputable section
namespace Ev
open PySem PySem.Spec PyProof.Rows L2
variable {P:List Nat}
def subs:List Nat->List (List Nat)
 | []=>[[]]
 | a::l=>subs l++(subs l).map (a::·)
def allP:List (List Nat):=(subs (List.range 8)).filter fun l=>decide (l.length<=4)
def slotP (P:List Nat) (j:Nat):SetTable.Slot:=if P.toArray[SetTable.below P.toArray j]?==some j then .live (SetTable.below P.toArray j) else .empty
def whereP:List Nat->Nat->Option Nat
 | [],_=>none
 | a::l,j=>if a=j then some 0 else (whereP l j).map (·+1)
theorem zow:(allP.all fun P=>(List.range 8).all fun j=>decide (slotP P j=(match whereP P j with | some i=>.live i | none=>.empty)))=true:=by decide +kernel
theorem zsj:(allP.all fun P=>(List.range 8).all fun j=>P.contains j||decide (4<=P.length)||(decide (SetTable.below P.toArray j<=P.length)&&allP.contains (P.take (SetTable.below P.toArray j)++j::P.drop (SetTable.below P.toArray j))))=true:=by decide +kernel
theorem zpz:(allP.all fun P=>(List.range 8).any fun j=>!P.contains j)=true:=by decide +kernel
theorem zwd:(allP.all fun P=>decide P.Nodup)=true:=by decide +kernel
theorem zpm:(allP.all fun P=>(List.range P.length).all fun i=>decide (SetTable.below P.toArray (if i=0 then 0 else P.getD (i-1) 0+1)=i))=true:=by decide +kernel
theorem zpq:(allP.all fun P=>decide (SetTable.below P.toArray (if P.length=0 then 0 else P.getD (P.length-1) 0+1)=P.length))=true:=by decide +kernel
theorem zid:∀ {P:List Nat} {j i:Nat},whereP P j=some i->P[i]?=some j
 | a::l,j,i,h=>by
  rw [whereP] at h
  split at h
  ·rename_i e;cases h;rw [e];rfl
  ·obtain ⟨k,h1,rfl⟩:=oms h
   simpa using zid h1
theorem ze2:∀ {P:List Nat} {j:Nat},whereP P j=none↔j∉P
 | [],j=>by simp [whereP]
 | a::l,j=>by
  rw [whereP]
  by_cases e:a=j
  ·subst e;simp
  ·have:¬ j=a:=fun z=>e z.symm
   rw [if_neg e,Option.map_eq_none_iff,ze2,List.mem_cons,not_or]
   exact ⟨fun h=>⟨this,h⟩,fun h=>h.2⟩
theorem zr5 (h:P∈allP) {j:Nat} (hj:j<8):slotP P j=(match whereP P j with | some i=>.live i | none=>.empty) :=
 zy8 (oml (oml zow P h) j (zzo.mpr hj))
theorem zu9 (h:P∈allP) {j:Nat} (hj:j<8) (hn:j∉P) (h3:P.length<=3):SetTable.below P.toArray j<=P.length/\(P.take (SetTable.below P.toArray j)++j::P.drop (SetTable.below P.toArray j))∈allP:=by
 have:=oml (oml zsj P h) j (zzo.mpr hj)
 rw [Bool.or_eq_true,Bool.or_eq_true] at this
 rcases this with (z | z) | z
 ·exact absurd (by simpa using z) hn
 ·have:=zy8 z;omega
 ·rw [zyd,zyr] at z
  exact ⟨z.1,by simpa using z.2⟩
theorem ztr (h:P∈allP):∃ j,j<8/\j∉P:=by
 obtain ⟨j,h1,h2⟩:=List.any_eq_true.mp (oml zpz P h)
 exact ⟨j,List.mem_range.mp h1,by simpa using h2⟩
def pix (h:Int):Nat->Nat × Nat
 | 0=>(SetTable.bits h%8,SetTable.bits h)
 | n+1=>(((pix h n).1*5+1+(pix h n).2/32)%8,(pix h n).2/32)
abbrev ix (h:Int) (n:Nat):Nat:=(pix h n).1
def prb (h:Int) (n:Nat):SetTable.Probe:=⟨ix h n,0,ix h n,(pix h n).2,none⟩
theorem zhu (h:Int):∀ n,ix h n<8
 | 0=>Nat.mod_lt _ (by decide)
 | n+1=>Nat.mod_lt _ (by decide)
theorem zlw {t:SetTable} (hm:t.mask=7) (h:Int):t.probeStart h=prb h 0:=by
 unfold SetTable.probeStart prb
 rw [hm]
 have:SetTable.runEnd 7 (SetTable.bits h%8)-SetTable.bits h%8=0:=by
  unfold SetTable.runEnd
  rw [if_neg (by omega)];omega
 simp only [this]
 rfl
theorem zfb {t:SetTable} (hm:t.mask=7) (h:Int) (n:Nat):t.advance (prb h n)=prb h (n+1):=by
 unfold SetTable.advance
 rw [if_neg (by show ¬ (0>0);omega),hm]
 show (let (i,perturb):=SetTable.leap 7 (ix h n) (pix h n).2;({ prb h n with j:=i,more:=SetTable.runEnd 7 i-i,i,perturb }:SetTable.Probe))=_
 have e:SetTable.leap 7 (ix h n) (pix h n).2=pix h (n+1):=rfl
 rw [e]
 have:SetTable.runEnd 7 (pix h (n+1)).1-(pix h (n+1)).1=0:=by
  unfold SetTable.runEnd
  rw [if_neg (by omega)];omega
 show ({ prb h n with j:=(pix h (n+1)).1,more:=SetTable.runEnd 7 (pix h (n+1)).1-(pix h (n+1)).1,i:=(pix h (n+1)).1,perturb:=(pix h (n+1)).2 }:SetTable.Probe)=_
 rw [this]
 rfl
theorem zqv (h:Int):∀ n,(pix h n).2=SetTable.bits h/32 ^ n
 | 0=>by show SetTable.bits h=_;simp
 | n+1=>by
  show (pix h n).2/32=_
  rw [zqv h n,Nat.div_div_eq_div_mul,Nat.pow_succ]
theorem zsk (h:Int) (n:Nat):(pix h (13+n)).2=0:=by
 rw [zqv]
 have hb:SetTable.bits h<2 ^ 64:=by
  unfold SetTable.bits
  have h1:=Int.emod_nonneg h (show (2 ^ 64:Int)≠0 by decide)
  have h2:=Int.emod_lt_of_pos h (show (0:Int)<2 ^ 64 by decide)
  omega
 refine Nat.div_eq_of_lt (zyq hb ?_)
 rw [Nat.pow_add]
 exact zzn (show 2 ^ 64<=32 ^ 13 by decide) (Nat.le_mul_of_pos_right _ (Nat.pow_pos (by decide)))
def cyc (i:Nat):Nat->Nat
 | 0=>i
 | m+1=>(cyc i m*5+1)%8
theorem zt4:((List.range 8).all fun i=>(List.range 8).all fun s=>(List.range 8).any fun m=>decide (cyc i m=s))=true:=by decide +kernel
theorem zq8 (h:Int):∀ m,ix h (13+m)=cyc (ix h 13) m
 | 0=>rfl
 | m+1=>by
  show ((pix h (13+m)).1*5+1+(pix h (13+m)).2/32)%8=_
  rw [zsk,Nat.zero_div,Nat.add_zero,cyc,<- zq8 h m]
theorem visits (h:Int) {s:Nat} (hs:s<8):∃ k,k<=20/\ix h k=s:=by
 have:=oml (oml zt4 (ix h 13) (zzo.mpr (zhu h 13))) s (zzo.mpr hs)
 obtain ⟨m,h1,h2⟩:=List.any_eq_true.mp this
 have h1:=zzo.mp h1
 exact ⟨13+m,by omega,by rw [zq8];exact zy8 h2⟩
theorem least {p:Nat->Prop} [DecidablePred p]:∀ (n:Nat),p n->∃ k,k<=n/\p k/\∀ m,m<k->¬ p m
 | 0,h=>⟨0,zyl _,h,fun m hm=>absurd hm (Nat.not_lt_zero _)⟩
 | n+1,h=>by
  by_cases e:∃ m,m<=n/\p m
  ·obtain ⟨m,hm,hp⟩:=e
   have go:∀ m,m<=n->p m->∃ k,k<=n/\p k/\∀ j,j<k->¬ p j:=by
    intro m
    induction m using Nat.strongRecOn with
    | ind m ih =>
     intro hm hp
     by_cases f:∃ j,j<m/\p j
     ·obtain ⟨j,hj,hpj⟩:=f
      exact ih j hj (by omega) hpj
     ·exact ⟨m,hm,hp,fun j hj hpj=>f ⟨j,hj,hpj⟩⟩
   obtain ⟨k,h1,h2,h3⟩:=go m hm hp
   exact ⟨k,by omega,h2,h3⟩
  ·exact ⟨n+1,zyl _,h,fun m hm hp=>e ⟨m,by omega,hp⟩⟩
theorem zkl (h:P∈allP) (hs:Int):∃ K,K<=20/\ix hs K∉P/\∀ m,m<K->ix hs m∈P:=by
 obtain ⟨j,hj,hn⟩:=ztr h
 obtain ⟨k,hk,e⟩:=visits hs hj
 obtain ⟨K,h1,h2,h3⟩:=least (p:=fun m=>ix hs m∉P) k (by rw [e];exact hn)
 exact ⟨K,by omega,h2,fun m hm=>Classical.byContradiction fun z=>h3 m hm z⟩
structure TOk (t:SetTable) (P:List Nat):Prop where
 mask:t.mask=7
 dum:t.dummies=#[]
 pl:t.place=P.toArray
 all:P∈allP
theorem TOk.slot {t:SetTable} {P:List Nat} (h:TOk t P) {j:Nat} (hj:j<8):t.slot j=(match whereP P j with | some i=>.live i | none=>.empty):=by
 rw [<- zr5 h.all hj]
 unfold SetTable.slot slotP
 rw [h.pl,h.dum]
 simp only
 split
 ·rfl
 ·rfl
theorem zjf {t:SetTable} {P:List Nat} (h:TOk t P) {hashAt:Nat->Int} {hs:Int} {K:Nat} (he:ix hs K∉P):∀ (d k f:Nat),k+d=K->d<f->(∀ m,k<=m->m<K->∃ i,whereP P (ix hs m)=some i/\hashAt i≠hs)->SetTable.probe.go t hashAt hs f (prb hs k)=some (.empty (ix hs K) none)
 | 0,k,f+1,e,_,_=>by
  have:k=K:=by omega
  subst this
  rw [SetTable.probe.go]
  show (match t.slot (ix hs k) with | .empty=>_ | .dummy=>_ | .live i=>_)=_
  rw [h.slot (zhu hs k),ze2.mpr he]
  rfl
 | d+1,k,f+1,e,hf,hl=>by
  rw [SetTable.probe.go]
  show (match t.slot (ix hs k) with | .empty=>_ | .dummy=>_ | .live i=>_)=_
  obtain ⟨i,h1,h2⟩:=hl k (zyl _) (by omega)
  rw [h.slot (zhu hs k),h1]
  show (if (hashAt i==hs)=true then _ else SetTable.probe.go t hashAt hs f (t.advance (prb hs k)))=_
  rw [if_neg (by simpa using h2),zfb h.mask]
  exact zjf h he d (k+1) f (by omega) (by omega) fun m h3 h4=>hl m (by omega) h4
 | 0,_,0,_,h0,_=>absurd h0 (by omega)
 | d+1,_,0,_,h0,_=>absurd h0 (by omega)
theorem zm3 {t:SetTable} {P:List Nat} (h:TOk t P) {hashAt:Nat->Int} {hs:Int} {C i:Nat} (hc:whereP P (ix hs C)=some i) (hi:hashAt i=hs):∀ (d k f:Nat),k+d=C->d<f->(∀ m,k<=m->m<C->∃ i,whereP P (ix hs m)=some i/\hashAt i≠hs)->SetTable.probe.go t hashAt hs f (prb hs k)=some (.candidate (ix hs C) i (prb hs (C+1)))
 | 0,k,f+1,e,_,_=>by
  have:k=C:=by omega
  subst this
  rw [SetTable.probe.go]
  show (match t.slot (ix hs k) with | .empty=>_ | .dummy=>_ | .live i=>_)=_
  rw [h.slot (zhu hs k),hc]
  show (if (hashAt i==hs)=true then some (SetTable.Met.candidate (ix hs k) i (t.advance (prb hs k))) else _)=_
  rw [if_pos (by simpa using hi),zfb h.mask]
 | d+1,k,f+1,e,hf,hl=>by
  rw [SetTable.probe.go]
  show (match t.slot (ix hs k) with | .empty=>_ | .dummy=>_ | .live i=>_)=_
  obtain ⟨i',h1,h2⟩:=hl k (zyl _) (by omega)
  rw [h.slot (zhu hs k),h1]
  show (if (hashAt i'==hs)=true then _ else SetTable.probe.go t hashAt hs f (t.advance (prb hs k)))=_
  rw [if_neg (by simpa using h2),zfb h.mask]
  exact zm3 h hc hi d (k+1) f (by omega) (by omega) fun m h3 h4=>hl m (by omega) h4
 | 0,_,0,_,h0,_=>absurd h0 (by omega)
 | d+1,_,0,_,h0,_=>absurd h0 (by omega)
end Ev
end
end
end
noncomputable section
noncomputable section
noncomputable section
namespace Ev
open PySem PySem.Spec PyProof.Rows L2
variable {P:List Nat} {k:List Key} {Q:Bool->Shared->Prop} {L:List (List Key × Addr)}
section
variable {prog:Program} {w:World} {A:Around} {E:Value->Shared->Prop} {s:Shared}
abbrev tkd (prog:Program) (w:World):=tupleKind (zah prog w)
abbrev hK (prog:Program) (w:World) (k:List Key):Int:=(tkd prog w).hash k
def entK (prog:Program) (w:World) (L:List (List Key × Addr)):List (Int × Value):=L.map fun e=>(hK prog w e.1,Value.ref e.2)
structure SetT (prog:Program) (w:World) (g:Heap) (S:Addr) (L:List (List Key × Addr)) (ep:Nat) (t:SetTable) (P:List Nat):Prop where
 ob:g.get? S=some { cls:=.type "set",dict:=none,data:=.set (entK prog w L).toArray ep t }
 ok:TOk t P
 len:P.length=L.length
 led:t.led=false->w.params.followText "set-order"=true
 nd:(L.map (·.1)).Nodup
 ks:∀ e∈L,IsTupleKey (zah prog w) g e.1 e.2
 rch:∀ q∈L.zip P,∃ n,n<=20/\q.2=ix (hK prog w q.1.1) n/\∀ m,m<n->ix (hK prog w q.1.1) m∈P
theorem zjs (h:P∈allP):P.length<=4:=by
 unfold allP at h
 exact zy8 (List.mem_filter.mp h).2
theorem SetT.fits {g:Heap} {S:Addr} {L:List (List Key × Addr)} {ep:Nat} {t:SetTable} {P:List Nat} (h:SetT prog w g S L ep t P):t.fits (entK prog w L).toArray.size=true:=by
 have h1:=zjs h.ok.all
 unfold SetTable.fits SetTable.fill
 rw [h.ok.pl,h.ok.dum,h.ok.mask]
 simp [entK,h.len]
 have:=h.len
 omega
theorem zgb (n:Nat) {v:Value} (h:carriedByValue v=true):ofAClassStatement n v=pure false:=by
 cases v<;>first | rfl | (unfold ofAClassStatement;rfl) | cases h
theorem zdj {a:Addr} (hk:IsTupleKey (zah prog w) s.heap k a) (h:Q false s):wpAny (model prog w) A (ofAClassStatement 8 (.ref a)) Q E s:=by
 have hT:=hk.typeIs
 obtain ⟨o,items,n,ho,_,hd,hi⟩:=hk
 unfold ofAClassStatement
 refine zyc (wpAny_typeOf hT ?_)
 dsimp only
 rw [if_pos (by decide)]
 refine zyc (zyf ?_)
 simp only [Bool.not_true,Bool.false_eq_true,if_false]
 refine zyc (wpAny_seqItems ho hd ?_)
 dsimp only
 refine zyc ?_
 show wpAny _ _ (forIn items _ _) _ _ s
 rw [<- Array.forIn_toList]
 refine wpAny_forIn_list _ (fun rest r s'=>r.1=none/\s'=s/\∀ v∈rest,carriedByValue v=true) _ ?_ ?_ _ _ ⟨rfl,rfl,hi.byValue⟩
 ·rintro v rest r s' ⟨hr,rfl,hall⟩
  rw [zgb _ (hall v zys)]
  refine zyc (zyf ?_)
  simp only [Bool.false_eq_true,if_false]
  exact zyf ⟨rfl,rfl,fun u hu'=>hall u (zyn _ hu')⟩
 ·rintro ⟨r1,r2⟩ s' ⟨hr,rfl,_⟩
  simp only at hr
  subst hr
  exact zyf h
theorem zr8 {x:Addr} {l:List Value} (hx:IsTupleKey (zah prog w) s.heap k x) (hl:∀ v∈l,∃ k' b,v=.ref b/\IsTupleKey (zah prog w) s.heap k' b) (h:Q false s):wpAny (model prog w) A (searchCouldBeSeen (.ref x) l) Q E s:=by
 unfold searchCouldBeSeen
 refine zyc ?_
 refine wpAny_forIn_list _ (fun rest r s'=>r.1=none/\s'=s/\∀ v∈rest,∃ k' b,v=.ref b/\IsTupleKey (zah prog w) s.heap k' b) _ ?_ ?_ _ _ ⟨rfl,rfl,hl⟩
 ·rintro v rest r s' ⟨hr,rfl,hall⟩
  obtain ⟨k',b,rfl,hb⟩:=hall v zys
  have hr':∀ v∈rest,∃ k' b,v=.ref b/\IsTupleKey (zah prog w) s'.heap k' b:=fun u hu'=>hall u (zyn _ hu')
  dsimp only
  split
  ·exact zyf ⟨rfl,rfl,hr'⟩
  ·refine zyc (wpAny_eqIsQuiet_tuple hx ?_)
   simp only [Bool.not_true,Bool.false_eq_true,if_false]
   refine zyc (wpAny_eqIsQuiet_tuple hb ?_)
   simp only [Bool.not_true,Bool.false_eq_true,if_false]
   refine zyc (zdj hx ?_)
   simp only [Bool.false_eq_true,if_false]
   refine zyc (zdj hb ?_)
   simp only [Bool.false_eq_true,if_false]
   exact zyf ⟨rfl,rfl,hr'⟩
 ·rintro ⟨r1,r2⟩ s' ⟨hr,rfl,_⟩
  simp only at hr
  subst hr
  exact zyf h
def Stop (prog:Program) (w:World) (L:List (List Key × Addr)) (P:List Nat) (k:List Key) (N:Nat):Prop :=
 (ix (hK prog w k) N∉P/\k∉L.map (·.1))\/∃ i e,whereP P (ix (hK prog w k) N)=some i/\L[i]?=some e/\e.1=k
theorem zob {j:Nat} (h:j∈P):∃ i,whereP P j=some i:=by
 cases e:whereP P j with
 | some i=>exact ⟨i,rfl⟩
 | none=>exact absurd h (ze2.mp e)
theorem zfx:∀ {P:List Nat} {i j:Nat},P.Nodup->P[i]?=some j->whereP P j=some i
 | [],i,j,_,h=>by simp at h
 | a::l,0,j,_,h=>by
  simp at h;subst h;rw [whereP,if_pos rfl]
 | a::l,i+1,j,hn,h=>by
  obtain ⟨h1,h2⟩:=List.nodup_cons.mp hn
  have h':l[i]?=some j:=by simpa using h
  have:a≠j:=fun e=>h1 (by rw [e];exact zzm h')
  rw [whereP,if_neg this,zfx h2 h']
  rfl
theorem zx3 (h:P∈allP):P.Nodup:=zy8 (oml zwd P h)
theorem SetT.stop {g:Heap} {S:Addr} {ep:Nat} {t:SetTable} (h:SetT prog w g S L ep t P) (k:List Key):∃ N,N<=20/\Stop prog w L P k N/\∀ m,m<N->ix (hK prog w k) m∈P:=by
 by_cases hk:k∈L.map (·.1)
 ·obtain ⟨e,he,rfl⟩:=omm hk
  obtain ⟨i,hi⟩:=List.getElem?_of_mem he
  obtain ⟨hl,_⟩:=ome hi
  have hj:P[i]?=some (P[i]'(by rw [h.len];exact hl)):=zyi _
  obtain ⟨n,h1,h2,h3⟩:=h.rch (e,P[i]'(by rw [h.len];exact hl)) (zzm (i:=i) (by rw [List.getElem?_zip_eq_some];exact ⟨hi,hj⟩))
  exact ⟨n,h1,.inr ⟨i,e,zfx (zx3 h.ok.all) (by rw [hj];exact zzf some h2),hi,rfl⟩,h3⟩
 ·obtain ⟨K,h1,h2,h3⟩:=zkl h.ok.all (hK prog w k)
  exact ⟨K,h1,.inl ⟨h2,hk⟩,h3⟩
theorem zjl {i:Nat} {e:List Key × Addr} (h:L[i]?=some e):(entK prog w L).toArray[i]?=some (hK prog w e.1,Value.ref e.2):=by
 simp [entK,h]
theorem onward {N k0:Nat} (hl:P.length=L.length) (h0:k0<=N) (hp:∀ m,m<N->ix (hK prog w k) m∈P) :
  ∃ C,k0<=C/\C<=N/\(C<N->∃ i e,whereP P (ix (hK prog w k) C)=some i/\L[i]?=some e/\hK prog w e.1=hK prog w k)/\∀ m,k0<=m->m<C->∃ i e,whereP P (ix (hK prog w k) m)=some i/\L[i]?=some e/\hK prog w e.1≠hK prog w k:=by
 have at':∀ m,m<N->∃ i e,whereP P (ix (hK prog w k) m)=some i/\L[i]?=some e:=fun m hm=>by
  obtain ⟨i,hi⟩:=zob (hp m hm)
  have h1:=ome (zid hi)
  obtain ⟨h2,_⟩:=h1
  exact ⟨i,L[i]'(by omega),hi,zyi _⟩
 have:∀ d k0,k0+d=N->∃ C,k0<=C/\C<=N/\(C<N->∃ i e,whereP P (ix (hK prog w k) C)=some i/\L[i]?=some e/\hK prog w e.1=hK prog w k)/\∀ m,k0<=m->m<C->∃ i e,whereP P (ix (hK prog w k) m)=some i/\L[i]?=some e/\hK prog w e.1≠hK prog w k:=by
  intro d
  induction d with
  | zero=>intro k0 e;exact ⟨k0,zyl _,by omega,fun z=>absurd z (by omega),fun m h1 h2=>absurd h2 (by omega)⟩
  | succ d ih =>
   intro k0 e
   obtain ⟨i,u,h1,h2⟩:=at' k0 (by omega)
   by_cases hq:hK prog w u.1=hK prog w k
   ·exact ⟨k0,zyl _,by omega,fun _=>⟨i,u,h1,h2,hq⟩,fun m a b=>absurd b (by omega)⟩
   ·obtain ⟨C,c1,c2,c3,c4⟩:=ih (k0+1) (by omega)
    refine ⟨C,by omega,c2,c3,fun m a b=>?_⟩
    by_cases hm:m=k0
    ·subst hm;exact ⟨i,u,h1,h2,hq⟩
    ·exact c4 m (by omega) b
 exact this (N-k0) k0 (by omega)
theorem zhc {S x:Addr} {ep:Nat} {t:SetTable} {N:Nat} {Q:SetFound->Shared->Prop} (hS:SetT prog w s.heap S L ep t P) (hx:IsTupleKey (zah prog w) s.heap k x) (hu:A.units<cLine) (hN:N<=20)
  (hs:Stop prog w L P k N) (hp:∀ m,m<N->ix (hK prog w k) m∈P) (q1:k∈L.map (·.1)->Q (.there none) s) (q2:k∉L.map (·.1)->ix (hK prog w k) N∉P->Q (.free (ix (hK prog w k) N) false) s) :
  ∀ (d k0 f:Nat) (st:Option SetTable.Probe),k0+d=N->d<f->st.getD (t.probeStart (hK prog w k))=prb (hK prog w k) k0->wpAny (model prog w) A (setSearchFrom S (.ref x) (hK prog w k) true f st) Q E s:=by
 intro d
 induction d using Nat.strongRecOn with
 | ind d ih =>
  intro k0 f st e hf hst
  obtain ⟨f,rfl⟩:∃ f',f=f'+1:=⟨f-1,by omega⟩
  unfold setSearchFrom
  refine zyc (wpAny_setState_of hS.ob rfl hS.fits ?_)
  dsimp only
  rw [if_neg (by unfold SetTable.gaveWay;rw [hS.ok.mask];decide),hst]
  unfold SetTable.probe
  have hm:10*SetTable.turns t.mask=220:=by rw [hS.ok.mask];rfl
  rw [hm]
  obtain ⟨C,c1,c2,c3,c4⟩:=onward (prog:=prog) (w:=w) (k:=k) hS.len (show k0<=N by omega) hp
  have far:∀ m,k0<=m->m<C->∃ i,whereP P (ix (hK prog w k) m)=some i/\(((entK prog w L).toArray[i]?.map (·.1)).getD 0)≠hK prog w k:=fun m a b=>by
   obtain ⟨i,u,h1,h2,h3⟩:=c4 m a b
   refine ⟨i,h1,?_⟩
   rw [zjl h2]
   exact h3
  have alt:(C=N/\ix (hK prog w k) C∉P/\k∉L.map (·.1))\/∃ i u,whereP P (ix (hK prog w k) C)=some i/\L[i]?=some u/\hK prog w u.1=hK prog w k/\(u.1=k\/C<N):=by
   by_cases hc:C<N
   ·obtain ⟨i,u,h1,h2,h3⟩:=c3 hc
    exact .inr ⟨i,u,h1,h2,h3,.inr hc⟩
   ·have hc:C=N:=by omega
    subst hc
    rcases hs with ⟨h1,h2⟩ | ⟨i,u,h1,h2,h3⟩
    ·exact .inl ⟨rfl,h1,h2⟩
    ·exact .inr ⟨i,u,h1,h2,by rw [h3],.inl h3⟩
  rcases alt with ⟨hc,h1,h2⟩ | ⟨i,u,h1,h2,h3,h4⟩
  ·have hg:=zjf hS.ok (hashAt:=fun i=>(((entK prog w L).toArray[i]?.map (·.1)).getD 0)) h1 (C-k0) k0 220 (by omega) (by omega) far
   split
   ·rename_i met hmet
    cases hmet.symm.trans hg
    subst hc
    exact zyf (q2 h2 h1)
   ·rename_i hmet
    exact absurd hg (hmet _)
  ·have hg:=zm3 hS.ok (hashAt:=fun i=>(((entK prog w L).toArray[i]?.map (·.1)).getD 0)) (hs:=hK prog w k) (C:=C) h1 (by show (((entK prog w L).toArray[i]?.map (·.1)).getD 0)=_;rw [zjl h2];exact h3) (C-k0) k0 220 (by omega) (by omega) far
   split
   ·rename_i met hmet
    cases hmet.symm.trans hg
    dsimp only
    rw [zjl h2]
    have hu1:IsTupleKey (zah prog w) s.heap u.1 u.2:=hS.ks u (zzm h2)
    have hsl:t.slot (ix (hK prog w k) C)=.live i:=by rw [hS.ok.slot (zhu _ _),h1]
    have hsm:t.sameMemory t.moves t.mask=some true:=by unfold SetTable.sameMemory;rw [if_pos (by simp)]
    split
    case' isTrue =>
     refine zyc (zr8 hx (fun v hv=>?_) ?_)
     ·obtain ⟨p,hp',rfl⟩:=omm hv
      have hp':=(Array.mem_filter.mp (Array.mem_toList_iff.mp hp')).1
      obtain ⟨e',he',rfl⟩:=omm (show p∈entK prog w L by simpa using hp')
      exact ⟨e'.1,e'.2,rfl,hS.ks e' he'⟩
     rw [if_neg (by simp)]
    all_goals
     dsimp only
     refine zyc (wpAny_holding ((tkd prog w).eqBool hu hu1 hx ?_))
     refine zyc (wpAny_setState_of hS.ob rfl hS.fits ?_)
     dsimp only
     by_cases hk:u.1=k
     ·rw [if_pos (by simp [hk])]
      exact zyf (q1 (List.mem_map.mpr ⟨u,zzm h2,hk⟩))
     ·rw [if_neg (by simp [hk]),hsm]
      dsimp only
      rw [if_pos rfl,hsl]
      dsimp only
      rw [zjl h2]
      dsimp only
      refine zyc (wpAny_isSame_ref_self ?_)
      rw [if_pos rfl]
      refine zyc (zyf ?_)
      dsimp only
      rw [if_neg (by simp [hk])]
      have hc:C<N:=h4.resolve_left hk
      exact ih (N-(C+1)) (by omega) (C+1) f _ (by omega) (by omega) rfl
   ·rename_i hmet
    exact absurd hg (hmet _)
end
end Ev
end
end
end
noncomputable section
noncomputable section
noncomputable section
namespace Ev
open PySem PySem.Spec PyProof.Rows L2
variable {k:List Key} {a:Addr} {Q:Bool->Shared->Prop} {L:List (List Key × Addr)}
section
variable {prog:Program} {w:World} {A:Around} {E:Value->Shared->Prop} {s:Shared}
theorem zkh {ks:List Key} {vs:List Value} (h:ItemsAre (zah prog w) ks vs):∀ v∈vs,v.scannable=true:=by
 induction h with
 | nil=>intro v hv;cases hv
 | cons h1 _ ih =>
  intro v hv
  rcases omc hv with rfl | hv
  ·rcases keyIs_shape h1 with ⟨j,t,_,rfl⟩ | ⟨x,t,_,rfl⟩ | ⟨_,rfl⟩<;>rfl
  ·exact ih v hv
theorem zh6 (hk:IsTupleKey (zah prog w) s.heap k a) (h:∀ b,Q b s):wpAny (model prog w) A (hashByValue 8 (.ref a)) Q E s:=by
 have hT:=hk.typeIs
 obtain ⟨o,items,n,ho,_,hd,hi⟩:=hk
 unfold hashByValue
 refine zyc (wpAny_specialOf hT F.slot_tuple_hash.lookup ?_)
 show wpAny _ _ (seqItems? (.ref a) >>= _) _ _ s
 refine zyc (wpAny_seqItems ho hd ?_)
 show wpAny _ _ (forIn items _ _ >>= _) _ _ s
 refine zyc ?_
 rw [<- Array.forIn_toList]
 refine wpAny_forIn_list _ (fun rest r s'=>r.1=none/\s'=s/\∀ v∈rest,v.scannable=true) _ ?_ ?_ _ _ ⟨rfl,rfl,zkh hi⟩
 ·rintro v rest r s' ⟨hr,rfl,hall⟩
  rw [hashByValue_scannable _ (hall v zys)]
  refine zyc (zyf ?_)
  split
  ·exact zyf (zyf (h _))
  ·exact zyf ⟨rfl,rfl,fun u hu'=>hall u (zyn _ hu')⟩
 ·rintro ⟨r1,r2⟩ s' ⟨hr,rfl,_⟩
  simp only at hr
  subst hr
  exact zyf (h _)
theorem zjd {α:Type} (l:List α) (p:Nat) (x:α):SetTable.insertAt l.toArray p x=(l.take p++x::l.drop p).toArray:=by
 unfold SetTable.insertAt
 apply Array.toList_inj.mp
 simp [List.take_of_length_le]
theorem zkp {α β:Type} {x:α} {j:β} {q:α × β}:∀ {p:Nat} {L:List α} {P:List β},P.length=L.length->q∈(L.take p++x::L.drop p).zip (P.take p++j::P.drop p)->q=(x,j)\/q∈L.zip P
 | 0,L,P,_,h=>by simpa using h
 | p+1,[],[],_,h=>by simpa using h
 | p+1,a::L,b::P,hl,h=>by
  have h':q∈(a,b)::(L.take p++x::L.drop p).zip (P.take p++j::P.drop p):=by simpa using h
  rcases omc h' with h' | h'
  ·exact .inr (by rw [h'];exact .head _)
  ·rcases zkp (by simpa using hl) h' with h' | h'
   ·exact .inl h'
   ·exact .inr (.tail _ h')
theorem zcy {α:Type} (l:List α) (p:Nat) (x:α):(l.take p++x::l.drop p).Perm (x::l):=by
 have:=List.perm_middle (a:=x) (l₁:=l.take p) (l₂:=l.drop p)
 rwa [List.take_append_drop] at this
theorem zj2 {g g':Heap} (h:IsTupleKey (zah prog w) g k a) (q:∀ o,g.get? a=some o->g'.get? a=some o):IsTupleKey (zah prog w) g' k a :=
 let ⟨o,its,n,h1,h2⟩:=h;⟨o,its,n,q o h1,h2⟩
theorem zgi {g:Heap} {S:Addr} {ep:Nat} {t:SetTable} {P:List Nat} (h:SetT prog w g S L ep t P) (hk:IsTupleKey (zah prog w) g k a):a≠S:=by
 rintro rfl
 obtain ⟨o,its,n,h1,h2,h3,_⟩:=hk
 cases h1.symm.trans h.ob
 cases h3
theorem zxb {S x:Addr} {ep:Nat} {t:SetTable} {P:List Nat} (hS:SetT prog w s.heap S L ep t P) (hx:IsTupleKey (zah prog w) s.heap k x) (hu:A.units<cLine) (h3:k∉L.map (·.1)->L.length<=3)
  (q1:k∈L.map (·.1)->Q false s) (q2:k∉L.map (·.1)->∀ (p:Nat) (ep':Nat) (t':SetTable) (P':List Nat) (g:Heap),Heap.SameBut S s.heap g->SetT prog w g S (L.take p++(k,x)::L.drop p) ep' t' P'->Q true { s with heap:=g }) :
  wpAny (model prog w) A (setAddHashed S (.ref x) (hK prog w k)) Q E s:=by
 unfold setAddHashed setAddHashedIn
 refine wpAny_holding (zyc (wpAny_setState_of hS.ob rfl hS.fits ?_))
 dsimp only
 rw [if_neg (by simp [byScan,Value.scannable])]
 obtain ⟨N,n1,n2,n3⟩:=hS.stop k
 unfold setSearch
 refine zyc (zhc hS hx hu n1 n2 n3 (fun hk=>zyf (q1 hk)) (fun hk hf=>?_) N 0 100000 none (by omega) (by omega) (zlw hS.ok.mask _))
 dsimp only
 refine zyc (wpAny_setState_of hS.ob rfl hS.fits ?_)
 dsimp only
 have hp3:P.length<=3:=by rw [hS.len];exact h3 hk
 obtain ⟨b1,b2⟩:=zu9 hS.ok.all (zhu (hK prog w k) N) hf hp3
 have fin:∀ tb:SetTable,tb.mask=7->tb.dummies=#[]->tb.place=(P.take (SetTable.below P.toArray (ix (hK prog w k) N))++ix (hK prog w k) N::P.drop (SetTable.below P.toArray (ix (hK prog w k) N))).toArray->tb.led=t.led ->
   wpAny (model prog w) A (do
    storeSet S (SetTable.insertAt (entK prog w L).toArray (SetTable.below P.toArray (ix (hK prog w k) N)) (hK prog w k,Value.ref x)) tb
    if (!false&&tb.tooFull)=true then do
        setRelay S (SetTable.grown ((entK prog w L).toArray.size+1))
        pure true
     else pure true) Q E s:=by
  intro tb t1 t2 t3 t4
  have et:tb.tooFull=false:=by
   unfold SetTable.tooFull SetTable.fill
   rw [t1,t2,t3]
   have:=zjs b2
   simp only [List.size_toArray,decide_eq_false_iff_not,List.length_nil]
   show ¬ (_>=7*3)
   omega
  rw [et]
  have eE:SetTable.insertAt (entK prog w L).toArray (SetTable.below P.toArray (ix (hK prog w k) N)) (hK prog w k,Value.ref x)=(entK prog w (L.take (SetTable.below P.toArray (ix (hK prog w k) N))++(k,x)::L.drop (SetTable.below P.toArray (ix (hK prog w k) N)))).toArray:=by
   rw [zjd];simp [entK]
  rw [eE]
  have hz:(entK prog w (L.take (SetTable.below P.toArray (ix (hK prog w k) N))++(k,x)::L.drop (SetTable.below P.toArray (ix (hK prog w k) N)))).toArray.size<=sizeLine:=by
   have:=(zcy L (SetTable.below P.toArray (ix (hK prog w k) N)) (k,x)).length_eq
   have h4:=h3 hk
   rw [zyk,entK,zyj,this,sizeLine_eq,zyt]
   omega
  refine zyc (wpAny_storeSet_of hS.ob rfl ?_ hz)
  rw [if_neg (by decide)]
  refine zyf ?_
  have hsb:=Heap.SameBut.update s.heap S (Obj.putSet (entK prog w (L.take (SetTable.below P.toArray (ix (hK prog w k) N))++(k,x)::L.drop (SetTable.below P.toArray (ix (hK prog w k) N)))).toArray tb)
  have hob:(s.heap.update S (Obj.putSet (entK prog w (L.take (SetTable.below P.toArray (ix (hK prog w k) N))++(k,x)::L.drop (SetTable.below P.toArray (ix (hK prog w k) N)))).toArray tb)).get? S=some { cls:=.type "set",dict:=none,data:=.set (entK prog w (L.take (SetTable.below P.toArray (ix (hK prog w k) N))++(k,x)::L.drop (SetTable.below P.toArray (ix (hK prog w k) N)))).toArray (ep+1) tb } :=
   Heap.get?_update_self (Obj.putSet _ tb) hS.ob rfl
  have kp:∀ a k',IsTupleKey (zah prog w) s.heap k' a->IsTupleKey (zah prog w) (s.heap.update S (Obj.putSet (entK prog w (L.take (SetTable.below P.toArray (ix (hK prog w k) N))++(k,x)::L.drop (SetTable.below P.toArray (ix (hK prog w k) N)))).toArray tb)) k' a:=fun a k' h=>zj2 h fun o e=>by
   rw [hsb.2 a (zgi hS h)];exact e
  have pm:=zcy L (SetTable.below P.toArray (ix (hK prog w k) N)) (k,x)
  refine q2 hk (SetTable.below P.toArray (ix (hK prog w k) N)) (ep+1) tb _ _ hsb ⟨hob,⟨t1,t2,t3,b2⟩,?_,fun z=>hS.led (by rw [<- t4];exact z),?_,fun e he=>?_,fun q hq=>?_⟩
  ·rw [(zcy P _ _).length_eq,pm.length_eq,zyt,zyt,hS.len]
  ·refine (pm.map (·.1)).nodup_iff.mpr ?_
   rw [zyh]
   exact List.nodup_cons.mpr ⟨hk,hS.nd⟩
  ·rcases omc (pm.mem_iff.mp he) with rfl | he
   ·exact kp _ _ hx
   ·exact kp _ _ (hS.ks e he)
  ·have inc:∀ m,m∈P->m∈P.take (SetTable.below P.toArray (ix (hK prog w k) N))++ix (hK prog w k) N::P.drop (SetTable.below P.toArray (ix (hK prog w k) N)):=fun m hm=>(zcy P _ _).mem_iff.mpr (.tail _ hm)
   rcases zkp hS.len hq with rfl | hq
   ·exact ⟨N,n1,rfl,fun m hm=>inc _ (n3 m hm)⟩
   ·obtain ⟨n,m1,m2,m3⟩:=hS.rch q hq
    exact ⟨n,m1,m2,fun m hm=>inc _ (m3 m hm)⟩
 have ed:(t.put (ix (hK prog w k) N)).1.dummies=#[]:=by
  show (if SetTable.has t.dummies _ then _ else t.dummies)=_
  rw [hS.ok.dum]
  rfl
 have ep':(t.put (ix (hK prog w k) N)).1.place=(P.take (SetTable.below P.toArray (ix (hK prog w k) N))++ix (hK prog w k) N::P.drop (SetTable.below P.toArray (ix (hK prog w k) N))).toArray:=by
  show SetTable.insertAt t.place (SetTable.below t.place _) _=_
  rw [hS.ok.pl,zjd]
 have e2:(t.put (ix (hK prog w k) N)).2=SetTable.below P.toArray (ix (hK prog w k) N):=by
  show SetTable.below t.place _=_
  rw [hS.ok.pl]
 rw [e2]
 split
 ·refine zyc (zh6 hx fun b=>?_)
  cases b
  ·exact fin _ hS.ok.mask ed ep' rfl
  ·exact fin _ hS.ok.mask ed ep' rfl
 ·refine zyc (zyf ?_)
  exact fin _ hS.ok.mask ed ep' rfl
end
end Ev
end
end
end
noncomputable section
noncomputable section
noncomputable section
namespace L2
open PySem PySem.Spec PyProof.Rows
instance (priority:=high) keyBEq:BEq Key:=⟨fun a b=>decide (a=b)⟩
instance keyLaw:LawfulBEq Key where
 eq_of_beq:=fun h=>zy8 h
 rfl:=zyw rfl
def dedK (ks:List Key):List Key:=ks.foldl step_dedup []
section
variable {prog:Program} {w:World} {A:Around} {R:Result->Shared->Prop} {I:Addr} {fp wr:List Addr} {G:Array GenState->Array GenState->Prop} {P:Nat->Value->Prop} {St:Nat->Shared->Prop}
end
end L2
end
end
end
noncomputable section
noncomputable section
noncomputable section
namespace L2
open PySem PySem.Spec PyProof.Rows
section
variable {prog:Program} {w:World} {A:Around} {E:Value->Shared->Prop} {s:Shared}
abbrev setO (b:Bool):Obj:={ cls:=.type "set",dict:=none,data:=.set #[] 0 (.fresh 0 0 b) }
end
end L2
end
end
end
noncomputable section
noncomputable section
noncomputable section
namespace Ev
open PySem PySem.Spec PyProof.Rows L2
variable {L:List (List Key × Addr)} {D ks:List (List Key)} {ad:Nat->Addr}
theorem zg6 {α:Type} [DecidableEq α]:∀ {l D:List α},l.Nodup->(∀ x∈l,x∈D)->l.length<=D.length
 | [],_,_,_=>zy9 _
 | a::l,D,nd,h=>by
  obtain ⟨h1,h2⟩:=List.nodup_cons.mp nd
  have ha:=h a (.head _)
  have:=zg6 (l:=l) (D:=D.erase a) h2 fun x hx=>(List.mem_erase_of_ne fun e=>h1 (by rw [<- e];exact hx)).mpr (h x (.tail _ hx))
  rw [List.length_erase_of_mem ha] at this
  have:0<D.length:=List.length_pos_of_mem ha
  rw [zyt];omega
theorem zmp {k:List Key} (nd:(L.map (·.1)).Nodup) (hm:k∉L.map (·.1)) (h1:∀ x∈L.map (·.1),x∈D) (h2:k∈D) (h4:D.length<=4):L.length<=3:=by
 have:=zg6 (l:=k::L.map (·.1)) (D:=D) (List.nodup_cons.mpr ⟨hm,nd⟩) fun x hx=>(omc hx).elim (fun e=>by rw [e];exact h2) (h1 x)
 rw [zyt,zyj] at this;omega
theorem zlg {prog:Program} {w:World} {g g':Heap} {S:Addr} {ep:Nat} {t:SetTable} {P:List Nat} (h:SetT prog w g S L ep t P) (ho:g'.get? S=some { cls:=.type "set",dict:=none,data:=.set (entK prog w L).toArray ep t }) (hk:∀ a k,(k,a)∈L->IsTupleKey (zah prog w) g k a->IsTupleKey (zah prog w) g' k a):SetT prog w g' S L ep t P :=
 ⟨ho,h.ok,h.len,h.led,h.nd,fun e he=>hk _ _ he (h.ks e he),h.rch⟩
section
variable {prog:Program} {w:World} {A:Around} {R:Result->Shared->Prop} {I:Addr} {fp wr:List Addr} {G:Array GenState->Array GenState->Prop} {P:Nat->Value->Prop} {St:Nat->Shared->Prop}
theorem zlf (W:WalksS prog w A.in1 I fp wr G ks.length P St) (S:Addr) (hf:S∉fp) (hv:∀ (i:Nat) (h:i<ks.length) v,P i v->v=.ref (ad i)) (hnw:∀ i,i<ks.length->ad i∉wr) (hD:∀ x∈ks,x∈D) (h4:D.length<=4) (hu:A.in1.units<cLine) :
  ∀ (k i:Nat) (s:Shared),ks.length-i=k->i<=ks.length->St i s->(∀ j (h:j<ks.length),IsTupleKey (zah prog w) s.heap ks[j] (ad j))->(∃ L ep t P,SetT prog w s.heap S L ep t P/\L.length<=i/\(∀ x,x∈L.map (·.1)↔x∈ks.take i)/\∀ e∈L,∃ j,∃ h:j<ks.length,e=(ks[j],ad j)) ->
   (∀ s',Moved (S::wr) G s s'->(∃ L ep t P,SetT prog w s'.heap S L ep t P/\(∀ x,x∈L.map (·.1)↔x∈ks)/\∀ e∈L,∃ j,∃ h:j<ks.length,e=(ks[j],ad j))->R (.ok (.ret .none)) s')->codeAny (model prog w) A (.builtin "set.update.loop" ⟨[.ref S,.ref I],[]⟩) R s:=by
 have hw:S∉wr:=fun z=>hf (W.sub _ z)
 have hsu:∀ c∈wr,c∈S::wr:=fun c hc=>zyn _ hc
 intro k
 induction k with
 | zero =>
  intro i s e1 e2 st ka y r
  have e3:i=ks.length:=by omega
  subst e3
  rw [List.take_length] at y
  refine codeAny_builtin F.entry_set_update_loop (show wpAny _ _ _ _ _ _ from ?_)
  rw [Around.under_plainId F.plain_set_update_loop _]
  show wpAny _ A.in1 (pyNext (.ref I) >>= _) _ _ s
  refine zyc (W.done s _ _ st fun s1 mv=>(show wpAny _ A.in1 (ret Value.none) _ _ s1 from zyf (r s1 (mv.mono hsu) ?_)))
  obtain ⟨L,ep,t,P',y,_,ym,ya⟩:=y
  exact ⟨L,ep,t,P',zlg y (mv.heap S _ hw y.ob) (fun a k' hm hk'=>zj2 hk' fun o e=>mv.heap a o (by obtain ⟨j,hj,e'⟩:=ya _ hm;rw [show a=ad j from zzf Prod.snd e'];exact hnw j hj) e),ym,ya⟩
 | succ k ih =>
  intro i s e1 e2 st ka y r
  have lt:i<ks.length:=by omega
  refine codeAny_builtin F.entry_set_update_loop (show wpAny _ _ _ _ _ _ from ?_)
  rw [Around.under_plainId F.plain_set_update_loop _]
  show wpAny _ A.in1 (pyNext (.ref I) >>= _) _ _ s
  refine zyc (W.item i s _ _ lt st fun v s1 hP st1 mv=>?_)
  obtain rfl:=hv i lt v hP
  obtain ⟨L,ep,t,P',y,yl,ym,ya⟩:=y
  have y1:SetT prog w s1.heap S L ep t P':=zlg y (mv.heap S _ hw y.ob) (fun a k' hm hk'=>zj2 hk' fun o e=>mv.heap a o (by obtain ⟨j,hj,e'⟩:=ya _ hm;rw [show a=ad j from zzf Prod.snd e'];exact hnw j hj) e)
  have ka1:∀ j (h:j<ks.length),IsTupleKey (zah prog w) s1.heap ks[j] (ad j):=fun j h=>zj2 (ka j h) fun o e=>mv.heap _ o (hnw j h) e
  show wpAny _ A.in1 (holding [.ref (ad i)] (setAdd S (.ref (ad i))) >>= _) _ _ s1
  refine zyc (wpAny_holding (show wpAny _ _ (setAdd S (.ref (ad i))) _ _ _ from ?_))
  unfold setAdd
  refine wpAny_holding (zyc ((tkd prog w).pyHash (k:=ks[i]) hu (ka1 i lt) ?_))
  have tk:ks.take (i+1)=ks.take i++[ks[i]]:=by rw [List.take_succ,zyi lt];rfl
  refine zxb (s:={ s1 with toks:=s1.toks+(tkd prog w).draws ks[i] }) y1 (ka1 i lt) hu (fun hm=>zmp y1.nd hm (fun x hx=>hD x (List.mem_of_mem_take ((ym x).mp hx))) (hD _ (List.getElem_mem lt)) h4) (fun hm=>?_) (fun hm p ep' t' P2 g sb y2=>?_)
  ·refine zyf ⟨plainId_quiet F.plain_set_update_loop _,ih (i+1) _ (by omega) lt (W.frame _ s1 _ _ st1 (Nat.le_add_right _ _) fun c hc o e=>e) ka1 ⟨L,ep,t,P',y1,by omega,fun x=>?_,ya⟩ fun s2 mv2 y4=>?_⟩
   ·rw [tk,List.mem_append,List.mem_singleton,ym x]
    exact ⟨.inl,fun z=>z.elim id fun z=>by rw [z];exact (ym _).mp hm⟩
   ·exact r s2 (Moved.trans W.gtrans ((mv.mono hsu).then_heap (Nat.le_add_right _ _) fun c o hc e=>e) mv2) y4
  ·have pm:=zcy L p (ks[i],ad i)
   refine zyf ⟨plainId_quiet F.plain_set_update_loop _,ih (i+1) _ (by omega) lt (W.frame _ s1 _ _ st1 (Nat.le_add_right _ _) fun c hc o e=>?_) (fun j h=>zj2 (ka1 j h) fun o e=>?_) ⟨_,ep',t',P2,y2,?_,fun x=>?_,fun e he=>?_⟩ fun s2 mv2 y4=>?_⟩
   ·rw [sb.2 c fun z:c=S=>hf (by rw [<- z];exact hc)];exact e
   ·rw [sb.2 _ (zgi y1 (ka1 j h))];exact e
   ·rw [pm.length_eq,zyt];omega
   ·rw [(pm.map (·.1)).mem_iff,zyh,List.mem_cons,tk,List.mem_append,List.mem_singleton,ym x]
    exact Or.comm
   ·rcases omc (pm.mem_iff.mp he) with rfl | he
    ·exact ⟨i,lt,rfl⟩
    ·exact ya e he
   ·refine r s2 (Moved.trans W.gtrans ((mv.mono hsu).then_heap (Nat.le_add_right _ _) fun c o hc e=>?_) mv2) y4
    rw [sb.2 c fun z:c=S=>hc (by rw [z];exact zys)];exact e
end
section
variable {prog:Program} {w:World} {A:Around} {E:Value->Shared->Prop} {s:Shared}
theorem zfu (a:Value) {Q₁:Value->Shared->Prop} (h:∀ led:Bool,(led=false->w.params.followText "set-order"=true)->Q₁ (.ref s.heap.objs.size) { s with heap:=s.heap.push { cls:=.type "set",dict:=none,data:=.set #[] 0 (.fresh 0 0 led) } }) :
  codeAny (model prog w) A (.call (.builtin "set.__new__") ⟨[.type "set",a],[]⟩) (wants Q₁ E) s:=by
 refine codeAny_of_tree ?_
 show wpAny _ A.in1 (do checkBuiltinCall "set.__new__" ⟨[.type "set",a],[]⟩;again (.builtin "set.__new__" ⟨[.type "set",a],[]⟩)) _ _ s
 refine zyc (wpAny_of_eq (F.newCall_set_1 a) (zyf ⟨plainId_quiet F.plain_set_new _,codeAny_builtin F.entry_set_new ?_⟩))
 rw [Around.under_plainId F.plain_set_new _]
 unfold Builtin.«set.__new__» Builtin.Frozenset.newClass
 have hsub:=sub_set_self
 obtain ⟨hp,g,d,tk,os⟩:=s
 dsimp only
 wp_walk
 refine wpAny_askSetting (zyf ?_)
 dsimp only
 simp only [newObj]
 refine zyc (wpAny_alloc (zyf ?_))
 refine zyf (h _ fun e=>?_)
 have e':(!w.params.followText "set-order")=false:=e
 simpa using e'
theorem zkm {l:Addr} {its:Array Value} {Q:Value->Shared->Prop} (hh:A.handled=none) (hl:s.heap.IsList l its) (hn:its.size=ks.length) (hv:∀ i,i<ks.length->its[i]?=some (.ref (ad i))) (hk:∀ i (h:i<ks.length),IsTupleKey (zah prog w) s.heap ks[i] (ad i)) (hD:∀ x∈ks,x∈D) (h4:D.length<=4) (hu:A.units+16<cLine)
  (q:∀ (g:Heap) (tk:Nat),(∃ L ep t P,SetT prog w g s.heap.objs.size L ep t P/\(∀ x,x∈L.map (·.1)↔x∈ks)/\∀ e∈L,∃ j,∃ h:j<ks.length,e=(ks[j],ad j))->(∀ b o,b<s.heap.objs.size->s.heap.get? b=some o->g.get? b=some o)->Q (.ref s.heap.objs.size) { s with heap:=g,toks:=tk }) :
  wpAny (model prog w) A (call (.type "set") [.ref l]) Q E s:=by
 obtain ⟨c,tl,hmro⟩:=F.called_set.mro
 have k1:=F.called_set.made
 have k2:=F.called_set.sub
 refine wpAny_call (codeAny_of_tree (show wpAny _ _ (callAny (.type "set") _) _ _ _ from ?_))
 refine zyf ⟨Code.quiet_builtin _ (by decide +kernel),codeAny_builtin F.entry_type_call (show wpAny _ _ _ _ _ _ from ?_)⟩
 rw [Around.under_plain (weight_type_call_type "set" [.ref l] []) rfl]
 have k3:=F.called_set.notType
 have k4:=F.called_set.canCreate
 have k5:=F.typeCall_set_1 (.ref l)
 repeat (any_goals (first | wp_step | assumption))
 refine codeAny_mono (zfu (.ref l) (E:=E) (Q₁:=fun ob s1=>∃ b:Bool,(b=false->w.params.followText "set-order"=true)/\ob=.ref s.heap.objs.size/\s1={ s with heap:=s.heap.push (setO b) }) fun b hb=>⟨b,hb,rfl,rfl⟩) fun r s1 hr=>?_
 cases r with
 | error e=>exact hr
 | ok fl =>
  cases fl with
  | ret ob =>
   obtain ⟨b,hb,rfl,rfl⟩:=hr
   have hS:(s.heap.push (setO b)).get? s.heap.objs.size=some (setO b):=zyg _ rfl
   have hT:Shared.TypeIs { s with heap:=s.heap.push (setO b) } (.ref s.heap.objs.size) "set":=⟨_,hS,rfl⟩
   have k6:=F.called_set.init.lookup
   have k7:=F.called_set.init.bind (.ref s.heap.objs.size)
   repeat (any_goals (first | wp_step | assumption))
   refine codeAny_mono (codeAny_call_builtin (R:=wants (fun r s2=>r=.none/\∃ g tk,s2={ s with heap:=g,toks:=tk }/\(∃ L ep t P,SetT prog w g s.heap.objs.size L ep t P/\(∀ x,x∈L.map (·.1)↔x∈ks)/\∀ e∈L,∃ j,∃ h:j<ks.length,e=(ks[j],ad j)) /\
     (∀ b o,b<s.heap.objs.size->s.heap.get? b=some o->g.get? b=some o)) E) F.called_set.init.plain F.entry_set_init (check_set_init_1 hT ?_)) fun r2 s2 hr2=>?_
   ·obtain ⟨ol,hol,hcl,nl,hdl⟩:=hl
    obtain ⟨oc,od,odt,osl⟩:=ol
    simp only at hcl hdl
    subst hcl
    subst hdl
    have ho2:(s.heap.push (setO b)).get? l=some { cls:=.type "list",dict:=od,data:=.seq its nl,slots:=osl }:=zyb _ hol
    have k8:=F.sub_list_set
    have k9:=F.sub_list_frozenset
    have k10:(Value.type "list"==Value.type "dict")=false:=by decide
    have hl1:(s.heap.push (setO b)).IsList l its:=⟨_,ho2,rfl,nl,rfl⟩
    unfold Builtin.«set.__init__» noKeywords Builtin.Frozenset.updateFrom
    generalize hPI:pyIter=PI
    wp_walk
    subst hPI
    refine wpAny_pyIter_list hl1 (zyc (wpAny_runValue (show codeAny _ _ _ _ _ from ?_)))
    have ll:l<s.heap.objs.size:=zym hol
    have h3:A.in1.in1.in1.handled=none:=by simp [hh]
    have ne:l≠(s.heap.push (setO b)).objs.size:=by rw [zyo];exact zyy (Nat.lt_succ_of_lt ll)
    have nf:s.heap.objs.size∉[(s.heap.push (setO b)).objs.size,l]:=by
     rw [zyo]
     simp only [List.mem_cons,List.not_mem_nil,or_false,not_or]
     exact ⟨zyy (zzv _),Nat.ne_of_gt ll⟩
    have W:=(Walks.list (prog:=prog) (w:=w) h3 (s.heap.push (setO b)).objs.size l ne its).toS
    rw [hn] at W
    have sz:∀ i,(h:i<ks.length)->ad i<s.heap.objs.size:=fun i h=>let ⟨o,_,_,ho,_⟩:=hk i h;zym ho
    refine zlf (ks:=ks) (ad:=ad) W s.heap.objs.size nf (fun i hi v hp=>zy5 (hp.symm.trans (hv i hi))) (fun i hi z=>?zC) hD h4 (by show A.units+1+1+1<cLine;omega) (ks.length-0) 0 _ (by omega) (zy9 _) ⟨⟨_,zyg _ rfl,rfl,rfl⟩,let ⟨o,e,r⟩:=hl1;⟨o,zyb _ e,r⟩⟩ (fun j hj=>zj2 (hk j hj) fun o e=>zyb _ (zyb _ e)) ?zA ?zB
    case zC =>
     have z':ad i∈[(s.heap.push (setO b)).objs.size,l]:=W.sub _ z
     have hs:=sz i hi
     rcases omc z' with z' | z'
     ·rw [z',zyo] at hs
      exact absurd hs (Nat.not_lt.mpr (Nat.le_succ _))
     ·have z':=omg z'
      obtain ⟨o,i1,n1,ho1,hc1,_⟩:=hk i hi
      rw [z'] at ho1
      cases ho1.symm.trans hol
      injection (show Value.type "list"=.type "tuple" from hc1) with hc2
      exact absurd hc2 (by decide)
    case zA =>
     have hg:((s.heap.push (setO b)).push { cls:=.type "list_iterator",data:=.fields #[.ref l,.int 0 0] }).get? s.heap.objs.size=some (setO b):=zyb _ hS
     exact ⟨[],0,_,[],⟨hg,⟨rfl,rfl,rfl,by decide +kernel⟩,rfl,hb,by simp,fun e he=>(nomatch he),fun q hq=>(nomatch hq)⟩,Nat.le_refl _,fun x=>by simp,fun e he=>(nomatch he)⟩
    case zB =>
     intro s3 mv y
     obtain ⟨g3,gs3,d3,tk3,os3⟩:=s3
     have eg:gs3=s.gens:=mv.gens
     have ed:d3=s.drawn:=mv.drawn
     have eo:os3=s.os:=mv.os
     subst eg
     subst ed
     subst eo
     refine (show wpAny _ _ _ _ _ _ from zyf (show wpAny _ _ (ret Value.none) _ _ _ from zyf ⟨rfl,g3,tk3,rfl,y,fun c o hc e=>?_⟩))
     have n1:c≠s.heap.objs.size:=zyy hc
     have n2:c≠(s.heap.push (setO b)).objs.size:=by rw [zyo];exact zyy (Nat.lt_succ_of_lt hc)
     exact mv.heap c o (by simp only [List.mem_cons,List.not_mem_nil,or_false,not_or];exact ⟨n1,n2⟩) (Heap.get?_push_of_some _ (Heap.get?_push_of_some _ e))
   ·cases r2 with
    | error e=>exact hr2
    | ok fl2 =>
     cases fl2 with
     | ret r =>
      obtain ⟨rfl,g,tk,rfl,y,k⟩:=hr2
      repeat (any_goals (first | wp_step | assumption))
      exact q _ _ y k
     | _=>exact hr2.elim
  | _=>exact hr.elim
end
end Ev
end
end
end
noncomputable section
noncomputable section
noncomputable section
namespace Ev
open PySem PySem.Spec PySem.Calls PyProof.Rows L2
theorem zld:Slot "set" "__iter__" "set.__iter__" :=
 .of (owner:="set") (n:="__iter__") (by rw [typeLookup_type,builtinLookup_eq_fast];kernel_rfl) (by decide +kernel) (by decide +kernel) (by decide +kernel)
  (by first | exact .inl (by decide +kernel) | exact .inr (by decide +kernel)) (by rw [isSubtype_type];kernel_rfl)
theorem ztw:entryFor table "set.__iter__"=some Builtin.«frozenset.__iter__»:=entryFor_alias (id':="frozenset.__iter__") (by kernel_rfl) rfl (by decide +kernel) (by kernel_rfl)
theorem zvr:Manifest.owners.lookup (String.ofList ['t','e','s'].reverse)=some Manifest.sig_set:=by kernel_rfl
theorem zud (a:Value):argsOk "set.__iter__" ⟨[a],[]⟩:=by
 unfold argsOk;rw [signature?_of (id:="set.__iter__") (n:=['_','_','r','e','t','i','_','_']) (o:=['t','e','s']) (by kernel_rfl) zvr];kernel_rfl
theorem zbp:Slot "set_iterator" "__next__" "set_iterator.__next__" :=
 .of (owner:="set_iterator") (n:="__next__") (by rw [typeLookup_type,builtinLookup_eq_fast];kernel_rfl) (by decide +kernel) (by decide +kernel) (by decide +kernel)
  (by first | exact .inl (by decide +kernel) | exact .inr (by decide +kernel)) (by rw [isSubtype_type];kernel_rfl)
theorem zfq:entryFor table "set_iterator.__next__"=some Builtin.«set_iterator.__next__»:=entryFor_of_tree (by kernel_rfl)
theorem zvs:Manifest.owners.lookup (String.ofList ['r','o','t','a','r','e','t','i','_','t','e','s'].reverse)=some Manifest.sig_set_iterator:=by kernel_rfl
theorem zfw (a:Value):argsOk "set_iterator.__next__" ⟨[a],[]⟩:=by
 unfold argsOk;rw [signature?_of (id:="set_iterator.__next__") (n:=['_','_','t','x','e','n','_','_']) (o:=['r','o','t','a','r','e','t','i','_','t','e','s']) (by kernel_rfl) zvs];kernel_rfl
theorem zlc:Slot "set_iterator" "__iter__" "set_iterator.__iter__" :=
 .of (owner:="set_iterator") (n:="__iter__") (by rw [typeLookup_type,builtinLookup_eq_fast];kernel_rfl) (by decide +kernel) (by decide +kernel) (by decide +kernel)
  (by first | exact .inl (by decide +kernel) | exact .inr (by decide +kernel)) (by rw [isSubtype_type];kernel_rfl)
theorem ztv:entryFor table "set_iterator.__iter__"=some Builtin.«dict_keyiterator.__iter__»:=entryFor_alias (id':="dict_keyiterator.__iter__") (by kernel_rfl) rfl (by decide +kernel) (by kernel_rfl)
theorem zuc (a:Value):argsOk "set_iterator.__iter__" ⟨[a],[]⟩:=by
 unfold argsOk;rw [signature?_of (id:="set_iterator.__iter__") (n:=['_','_','r','e','t','i','_','_']) (o:=['r','o','t','a','r','e','t','i','_','t','e','s']) (by kernel_rfl) zvs];kernel_rfl
theorem zh0 {α:Type}:∀ {l:List α} {i:Nat} (h:i<l.length),(l[i]::l.eraseIdx i).Perm l
 | a::l,0,_=>.refl _
 | a::l,i+1,h=>by
  have h':i<l.length:=by simpa using h
  exact (List.Perm.swap a l[i] (l.eraseIdx i)).trans (List.Perm.cons a (zh0 h'))
theorem zl3 {α:Type} (next:Nat->Nat):∀ (f k:Nat) (left:List α) (out:Array α),left.length=f->((pickOrder.go next f k left out).toList).Perm (out.toList++left)
 | 0,k,left,out,h=>by
  have:left=[]:=List.length_eq_zero_iff.mp h
  subst this
  rw [pickOrder.go,zy6]
 | f+1,k,left,out,h=>by
  have hi:next k%left.length<left.length:=Nat.mod_lt _ (by omega)
  rw [pickOrder.go,zyi hi]
  refine (zl3 next f (k+1) _ _ (by rw [List.length_eraseIdx_of_lt hi];omega)).trans ?_
  rw [Array.toList_push,zzp]
  exact List.Perm.append_left _ (zh0 hi)
theorem zl2 {α:Type} (next:Nat->Nat) (xs:Array α):(pickOrder next xs).toList.Perm xs.toList:=by
 unfold pickOrder
 have:=zl3 next xs.size 0 xs.toList #[] (by simp)
 simpa using this
section
variable {prog:Program} {w:World} {M:Model} {A:Around} {E:Value->Shared->Prop} {s:Shared}
theorem znq {src:Source} {n:Nat} {Q:Nat->Shared->Prop} (hn:n≠0) (h:∀ i d,i<n->Q i { s with drawn:=d }):wpAny M A (choose src n) Q E s:=fun Γ p hΓ=>by
 unfold choose
 rw [Sem.wp_choose]
 exact ⟨hn,h _ _ (Nat.mod_lt _ (Nat.pos_of_ne_zero hn))⟩
theorem zng {α:Type}:∀ (n:Nat) (xs:List α) (s:Shared) {Q:List α->Shared->Prop},xs.length=n->(∀ ys d,ys.Perm xs->Q ys { s with drawn:=d })->wpAny M A (drawOrder n xs) Q E s
 | 0,xs,s,Q,hl,h=>by
  have:xs=[]:=List.length_eq_zero_iff.mp hl
  subst this
  exact zyf (h [] s.drawn (.refl _))
 | n+1,[],s,Q,hl,h=>by cases hl
 | n+1,x::xs,s,Q,hl,h=>by
  unfold drawOrder
  refine wpAny_bind (znq (by simp) fun i d hi=>?_)
  rw [zyi hi]
  dsimp only
  refine wpAny_bind (zng n _ _ (by rw [List.length_eraseIdx_of_lt hi];simpa using hl) fun ys d' hp=>wpAny_pure ?_)
  exact h _ d' ((List.Perm.cons _ hp).trans (zh0 hi))
theorem zpv {r:Addr} {Q:Bool->Shared->Prop} (hT:s.TypeIs (.ref r) "set") (h:Q false s):wpAny (model prog w) A (Builtin.List.listLengthHint (.ref r)) Q E s:=by
 unfold Builtin.List.listLengthHint
 refine zyc (wpAny_specialOf hT PySem.F.slot_set_len.lookup ?_)
 generalize hid:("set.__len__":String)=id0
 wp_delta
 rw [show splitId id0=some ("set", "__len__") from by subst hid;decide +kernel]
 subst hid
 refine zyc (wpAny_isInstance (T:="set") (b:=true) hT (by rw [isSubtype_type];kernel_rfl) ?_)
 refine wpAny_ite_split (fun hab=>absurd hab (by decide)) (fun _=>?_)
 refine wpAny_ite_split (fun _=>?_) (fun hab=>absurd (by decide +kernel) hab)
 refine zyc (wpAny_typeOf hT ?_)
 exact zyf h
end
end Ev
end
end
end
noncomputable section
noncomputable section
noncomputable section
namespace Ev
open PySem PySem.Spec PySem.Calls PyProof.Rows L2
variable {I S D:Addr} {i n ep m:Nat} {es:List (Int × Value)} {t:SetTable} {Q:Option Value->Shared->Prop} {ys:List Nat} {oD:Obj}
section
variable {prog:Program} {w:World} {A:Around} {E:Value->Shared->Prop} {s:Shared}
def itO (first:Value) (i:Nat) (S:Addr) (n ep:Nat):Obj:={ cls:=.type "set_iterator",dict:=none,data:=.fields #[first,.int i 0,.ref S,.int n 0,.int ep 0],slots:=#[] }
abbrev stO (es:List (Int × Value)) (ep:Nat) (t:SetTable):Obj:={ cls:=.type "set",dict:=none,data:=.set es.toArray ep t }
theorem next_int {sl nx:Nat} {x:Value} (hI:s.heap.get? I=some (itO (.int sl 0) i S n ep)) (hS:s.heap.get? S=some (stO es ep t)) (hf:t.fits es.toArray.size=true) (hn:n=es.length)
  (hx:∀ (A:Around) (Q:Option (Value × Nat)->Shared->Prop) (E:Value->Shared->Prop),Q (some (x,nx)) s->wpAny (model prog w) A (setNext S sl i ep) Q E s)
  (hQ:∀ h',h'.get? I=some (itO (.int nx 0) (i+1) S n ep)->Heap.SameBut I s.heap h'->Q (some x) { s with heap:=h' }):wpAny (model prog w) A (pyNext (.ref I)) Q E s:=by
 have hT:s.TypeIs (.ref I) "set_iterator":=⟨_,hI,rfl⟩
 unfold pyNext
 refine zyc (zzu (zy7 (name:=Str.ofString "__next__") hT zbp (zze zbp hT zfq ?_ (zfw _))))
 unfold Builtin.«set_iterator.__next__»
 refine zyc (zyf ?_)
 refine zyc (wpAny_fieldsOf hI rfl ?_)
 dsimp only
 refine zyc (wpAny_setEntries_of hS rfl hf ?_)
 rw [if_neg (by simp [hn])]
 rw [zzd,zzd,zzd]
 refine zyc (hx _ _ _ ?_)
 dsimp only
 refine wpAny_bind (wpAny_setField_rec hI (by simp) fun h1 e1 b1=>?_)
 refine wpAny_bind (wpAny_setField_rec e1 (by simp) fun h2 e2 b2=>?_)
 refine zyf ⟨x,rfl,zyf (hQ _ ?_ (b1.trans b2))⟩
 rw [e2]
 unfold itO
 simp [rawInt]
theorem zk8 {h1:Heap} (hh:A.handled=none) (b1:Heap.ExtBut I s.heap h1)
  (hQ:∀ h',Heap.ExtBut I s.heap h'->Q none { s with heap:=h' }) :
  wpAny (model prog w) A.in1 (newExc (.type "StopIteration") [] >>= fun e=>(raiseNew e:Sem PySem.Fin)) (fun fin s'=>∃ v,fin=Fin.done (Flow.ret v)/\wpAny (model prog w) A (pure (some v)) Q E s')
   (fun e s'=>wpAny (model prog w) A (isInstance e (Value.type "StopIteration") >>= fun b=>if b=true then pure none else throw e) Q E s') { s with heap:=h1 }:=by
 refine zyc ?_
 simp only [newExc,newTuple]
 refine zyc (zzb ?_ (by size_fits))
 refine wpAny_bind (m:=firstArgMember _ _) (wpAny_of_eq (a:=Value.none) (by first | rfl | (simp only [firstArgMember];rfl)) ?_)
 refine zzb ?_ (by size_fits)
 simp only [raiseNew]
 refine zyc (wpAny_handled ?_)
 rw [show A.in1.handled=none from hh]
 refine zyc (zyf (wpAny_throw ?_))
 refine zyc (wpAny_isInstance (T:="StopIteration") (b:=true) ⟨_,zyg _ rfl,rfl⟩ isSubtype_stop ?_)
 exact zyf (hQ _ ((b1.push _).push _))
theorem ztu {sl:Nat} (hh:A.handled=none) (hI:s.heap.get? I=some (itO (.int sl 0) i S n ep)) (hS:s.heap.get? S=some (stO es ep t)) (hf:t.fits es.toArray.size=true) (hn:n=es.length)
  (hx:∀ (A:Around) (Q:Option (Value × Nat)->Shared->Prop) (E:Value->Shared->Prop),Q none s->wpAny (model prog w) A (setNext S sl i ep) Q E s)
  (hQ:∀ h',Heap.ExtBut I s.heap h'->Q none { s with heap:=h' }):wpAny (model prog w) A (pyNext (.ref I)) Q E s:=by
 have hT:s.TypeIs (.ref I) "set_iterator":=⟨_,hI,rfl⟩
 unfold pyNext
 refine zyc (zzu (zy7 (name:=Str.ofString "__next__") hT zbp (zze zbp hT zfq ?_ (zfw _))))
 unfold Builtin.«set_iterator.__next__»
 refine zyc (zyf ?_)
 refine zyc (wpAny_fieldsOf hI rfl ?_)
 dsimp only
 refine zyc (wpAny_setEntries_of hS rfl hf ?_)
 rw [if_neg (by simp [hn])]
 rw [zzd,zzd,zzd]
 refine zyc (hx _ _ _ ?_)
 dsimp only
 refine wpAny_bind (wpAny_setField_rec hI (by simp) fun h1 e1 b1=>?_)
 exact zk8 (s:=s) hh b1.extBut hQ
theorem zj9 {p:Nat} {e:Int × Value} (hI:s.heap.get? I=some (itO (.ref D) i S n ep)) (hD:s.heap.get? D=some oD) (hd:oD.data=.seq (ys.map fun (j:Nat)=>rawInt j).toArray m) (hS:s.heap.get? S=some (stO es ep t)) (hf:t.fits es.toArray.size=true) (hn:n=es.length)
  (hp:ys[i]?=some p) (he:es[p]?=some e)
  (hQ:∀ h',h'.get? I=some (itO (.ref D) (i+1) S n ep)->Heap.SameBut I s.heap h'->Q (some e.2) { s with heap:=h' }):wpAny (model prog w) A (pyNext (.ref I)) Q E s:=by
 have hT:s.TypeIs (.ref I) "set_iterator":=⟨_,hI,rfl⟩
 unfold pyNext
 refine zyc (zzu (zy7 (name:=Str.ofString "__next__") hT zbp (zze zbp hT zfq ?_ (zfw _))))
 unfold Builtin.«set_iterator.__next__»
 refine zyc (zyf ?_)
 refine zyc (wpAny_fieldsOf hI rfl ?_)
 dsimp only
 refine zyc (wpAny_setEntries_of hS rfl hf ?_)
 rw [if_neg (by simp [hn])]
 refine zyc (wpAny_seqItems hD hd ?_)
 dsimp only
 rw [show (ys.map fun (j:Nat)=>rawInt j).toArray[(i:Int).toNat]?=some (.int p 0) by simp [hp,rawInt]]
 dsimp only
 rw [zzd,zzd]
 refine zyc ?_
 unfold setNextDrawn
 refine zyc (wpAny_setState_of hS rfl hf ?_)
 dsimp only
 rw [if_neg (by simp)]
 rw [show es.toArray[p]?=some e by simp [he]]
 refine zyf ?_
 refine wpAny_bind (wpAny_setField_rec hI (by simp) fun h1 e1 b1=>?_)
 refine zyf ⟨_,rfl,zyf (hQ _ ?_ b1)⟩
 rw [e1]
 unfold itO
 simp [rawInt]
theorem znf (hh:A.handled=none) (hI:s.heap.get? I=some (itO (.ref D) i S n ep)) (hD:s.heap.get? D=some oD) (hd:oD.data=.seq (ys.map fun (j:Nat)=>rawInt j).toArray m) (hS:s.heap.get? S=some (stO es ep t)) (hf:t.fits es.toArray.size=true) (hn:n=es.length)
  (hp:ys[i]?=none)
  (hQ:∀ h',Heap.ExtBut I s.heap h'->Q none { s with heap:=h' }):wpAny (model prog w) A (pyNext (.ref I)) Q E s:=by
 have hT:s.TypeIs (.ref I) "set_iterator":=⟨_,hI,rfl⟩
 unfold pyNext
 refine zyc (zzu (zy7 (name:=Str.ofString "__next__") hT zbp (zze zbp hT zfq ?_ (zfw _))))
 unfold Builtin.«set_iterator.__next__»
 refine zyc (zyf ?_)
 refine zyc (wpAny_fieldsOf hI rfl ?_)
 dsimp only
 refine zyc (wpAny_setEntries_of hS rfl hf ?_)
 rw [if_neg (by simp [hn])]
 refine zyc (wpAny_seqItems hD hd ?_)
 dsimp only
 rw [show (ys.map fun (j:Nat)=>rawInt j).toArray[(i:Int).toNat]?=none by simpa using hp]
 dsimp only
 refine wpAny_bind (wpAny_setField_rec hI (by simp) fun h1 e1 b1=>?_)
 refine wpAny_bind (wpAny_setField_rec e1 (by simp) fun h2 e2 b2=>?_)
 exact zk8 (s:=s) hh (b1.trans b2).extBut hQ
theorem zlh {first:Value} {Q:Value->Shared->Prop} (hI:s.heap.get? I=some (itO first i S n ep)) (h:Q (.ref I) s):wpAny (model prog w) A (pyIter (.ref I)) Q E s:=by
 have hT:s.TypeIs (.ref I) "set_iterator":=⟨_,hI,rfl⟩
 refine wpAny_pyIter_slot hT zlc (zze zlc hT ztv ?_ (zuc _))
 show wpAny _ _ (ret (.ref I)) _ _ s
 exact zyf ⟨_,rfl, "set_iterator",_,hT,zbp.lookup,h⟩
theorem zjx (hh:A.handled=none) (hS:S≠I) (hD:D≠I) (hd:oD.data=.seq (ys.map fun (j:Nat)=>rawInt j).toArray m) (hf:t.fits es.toArray.size=true) (hn:n=es.length) (hy:∀ p∈ys,p<es.length) :
  Walks prog w A I [I,S,D] [I] ys.length (fun i v=>∃ p e,ys[i]?=some p/\es[p]?=some e/\v=e.2) (fun i h=>h.get? I=some (itO (.ref D) i S n ep)/\h.get? S=some (stO es ep t)/\h.get? D=some oD) where
 sub:=fun b hb=>by simp at hb;simp [hb]
 frame:=fun _ _ _ st hk=>⟨hk I (by simp) _ st.1,hk S (by simp) _ st.2.1,hk D (by simp) _ st.2.2⟩
 item:=fun i s Q E hi st hQ=>by
  have hp:ys[i]?=some ys[i]:=zyi hi
  have he:es[ys[i]]?=some (es[ys[i]]'(hy _ (List.getElem_mem hi))):=zyi _
  refine zj9 st.1 st.2.2 hd st.2.1 hf hn hp he fun h' e' b'=>?_
  exact hQ _ h' s.toks ⟨_,_,hp,he,rfl⟩ ⟨e',by rw [b'.2 S hS];exact st.2.1,by rw [b'.2 D hD];exact st.2.2⟩ fun b o hb e=>by rw [b'.2 b fun z=>hb (by simp [z])];exact e
 done:=fun s Q E st hQ=>znf hh st.1 st.2.2 hd st.2.1 hf hn (by simp) fun h' b'=>hQ h' s.toks fun b o hb e=>b' b o (fun z=>hb (by simp [z])) e
 self:=fun _ _ _ _ st hQ=>zlh st.1 hQ
theorem zif {ord:List (Int × Value)} {sl:Nat->Nat} (hh:A.handled=none) (hS:S≠I) (hf:t.fits es.toArray.size=true) (hn:n=es.length)
  (hx:∀ i,i<ord.length->∀ e,ord[i]?=some e->∀ (s:Shared) (A:Around) (Q:Option (Value × Nat)->Shared->Prop) (E:Value->Shared->Prop),s.heap.get? S=some (stO es ep t)->Q (some (e.2,sl (i+1))) s->wpAny (model prog w) A (setNext S (sl i) i ep) Q E s)
  (hz:∀ (s:Shared) (A:Around) (Q:Option (Value × Nat)->Shared->Prop) (E:Value->Shared->Prop),s.heap.get? S=some (stO es ep t)->Q none s->wpAny (model prog w) A (setNext S (sl ord.length) ord.length ep) Q E s) :
  Walks prog w A I [I,S] [I] ord.length (fun i v=>∃ e,ord[i]?=some e/\v=e.2) (fun i h=>h.get? I=some (itO (.int (sl i) 0) i S n ep)/\h.get? S=some (stO es ep t)) where
 sub:=fun b hb=>by simp at hb;simp [hb]
 frame:=fun _ _ _ st hk=>⟨hk I (by simp) _ st.1,hk S (by simp) _ st.2⟩
 item:=fun i s Q E hi st hQ=>by
  have hp:ord[i]?=some ord[i]:=zyi hi
  refine next_int st.1 st.2 hf hn (fun A Q E h=>hx i hi _ hp s A Q E st.2 h) fun h' e' b'=>?_
  exact hQ _ h' s.toks ⟨_,hp,rfl⟩ ⟨e',by rw [b'.2 S hS];exact st.2⟩ fun b o hb e=>by rw [b'.2 b fun z=>hb (by simp [z])];exact e
 done:=fun s Q E st hQ=>ztu hh st.1 st.2 hf hn (fun A Q E h=>hz s A Q E st.2 h) fun h' b'=>hQ h' s.toks fun b o hb e=>b' b o (fun z=>hb (by simp [z])) e
 self:=fun _ _ _ _ st hQ=>zlh st.1 hQ
end
end Ev
end
end
end
noncomputable section
noncomputable section
noncomputable section
namespace Ev
open PySem PySem.Spec PySem.Calls PyProof.Rows L2
variable {S:Addr} {es:List (Int × Value)} {t:SetTable} {ep:Nat} {Q:Option (Value × Nat)->Shared->Prop}
section
variable {prog:Program} {w:World} {A:Around} {E:Value->Shared->Prop} {s:Shared}
theorem zgd {i sl:Nat} (hS:s.heap.get? S=some (stO es ep t)) (hf:t.fits es.toArray.size=true) (hb:w.params.followText "set-order"=true)
  (h:Q (((pickOrder (w.params.setOrder S ep) es.toArray)[i]?).map fun e=>(e.2,sl)) s):wpAny (model prog w) A (setNext S sl i ep) Q E s:=by
 unfold setNext
 refine zyc (wpAny_setState_of hS rfl hf ?_)
 dsimp only
 unfold setsByText
 refine zyc (zyc (wpAny_askSetting (zyf ?_)))
 rw [if_pos (show (model prog w).w.params.followText "set-order"=true from hb),if_neg (by simp)]
 unfold setWalk
 refine zyc (zyc (wpAny_setState_of hS rfl hf ?_))
 dsimp only
 unfold setsByText
 refine zyc (zyc (wpAny_askSetting (zyf ?_)))
 rw [if_pos (show (model prog w).w.params.followText "set-order"=true from hb)]
 refine zyc (wpAny_askSetting (zyf ?_))
 exact zyf h
theorem zet {i sl:Nat} (hS:s.heap.get? S=some (stO es ep t)) (hf:t.fits es.toArray.size=true) (hb:w.params.followText "set-order"=false) (hl:t.led=true) (hd:(!t.plain&&decide (es.toArray.size>1))=false) (hi:SetTable.below t.place sl=i)
  (h:Q (match es.toArray[i]?,t.place[i]? with | some (_,x),some j=>some (x,j+1) | _,_=>none) s):wpAny (model prog w) A (setNext S sl i ep) Q E s:=by
 unfold setNext
 refine zyc (wpAny_setState_of hS rfl hf ?_)
 dsimp only
 unfold setsByText
 refine zyc (zyc (wpAny_askSetting (zyf ?_)))
 rw [if_neg (show ¬ (model prog w).w.params.followText "set-order"=true from by rw [show (model prog w).w.params.followText "set-order"=false from hb];decide)]
 refine wpAny_ite_split (fun hab=>absurd (show (!t.plain&&decide (es.toArray.size>1))=true from hab) (by rw [hd];decide)) (fun _=>?_)
 refine zyc (show wpAny _ _ (if (!t.led&&!es.toArray.isEmpty)=true then unsupported _ else pure ()) _ _ _ from ?_)
 rw [if_neg (by rw [hl];simp)]
 refine zyf ?_
 rw [hi]
 exact zyf h
theorem zoc {I:Addr} {fp wr:List Addr} {n n':Nat} {P P':Nat->Value->Prop} {St:Nat->Heap->Prop} (W:Walks prog w A I fp wr n P St) (hn:n=n') (h:∀ i v,P i v->P' i v):Walks prog w A I fp wr n' P' St:=by
 subst hn
 exact ⟨W.sub,W.frame,fun i s Q E hi st hQ=>W.item i s Q E hi st fun v h' tk hp=>hQ v h' tk (h i v hp),W.done,W.self⟩
theorem zoy {L:List (List Key × Addr)} {P:List Nat} {Q:Value->Shared->Prop} (hh:A.handled=none) (hS:SetT prog w s.heap S L ep t P)
  (q:∀ (I:Addr) (fp:List Addr) (g:Heap) (d:_) (ord:List (Int × Value)) (St:Nat->Heap->Prop),ord.Perm (entK prog w L)->(∀ b o,s.heap.get? b=some o->g.get? b=some o)->s.heap.objs.size<=I->(∀ b∈fp,b=S\/s.heap.objs.size<=b/\b<g.objs.size)->Walks prog w A I fp [I] ord.length (fun i v=>∃ e,ord[i]?=some e/\v=e.2) St->St 0 g->Q (.ref I) { s with heap:=g,drawn:=d }) :
  wpAny (model prog w) A (pyIter (.ref S)) Q E s:=by
 have hT:s.TypeIs (.ref S) "set":=⟨_,hS.ob,rfl⟩
 have hlt:S<s.heap.objs.size:=zym hS.ob
 have hf:=hS.fits
 refine wpAny_pyIter_slot hT zld (zze zld hT ztw ?_ (zud _))
 unfold Builtin.«frozenset.__iter__»
 refine zyc (show wpAny _ _ (pure S) _ _ _ from zyf ?_)
 unfold Builtin.Frozenset.sizeOf
 refine zyc (zyc (wpAny_setEntries_of hS.ob rfl hf (zyf ?_)))
 unfold setDrawn
 refine zyc (zyc (wpAny_setState_of hS.ob rfl hf ?_))
 dsimp only
 unfold setsByText
 refine zyc (zyc (wpAny_askSetting (zyf ?_)))
 refine zyf ?_
 have hz:(entK prog w L).toArray.size<=4:=by
  have:=zjs hS.ok.all
  rw [zyk,entK,zyj,<- hS.len];exact this
 have hne:∀ g:Heap,s.heap.objs.size<=g.objs.size->S≠g.objs.size:=fun g h=>zyy (zyq hlt h)
 refine wpAny_ite_split (fun hab=>?_) (fun hab=>?_)
 ·refine wpAny_bind (zng _ (List.range (entK prog w L).toArray.size) s (by simp) fun ys d hp=>?_)
  have hyl:ys.length=(entK prog w L).length:=by rw [hp.length_eq,List.length_range,zyk]
  refine zyc (wpAny_newTuple ?_ (by rw [zyj,hyl,sizeLine_eq];rw [zyk] at hz;omega))
  refine zyc (wpAny_setEpoch_of (zyb _ hS.ob) rfl hf ?_)
  refine zyc (zzb (zyf ⟨_,rfl, "set_iterator",_,⟨_,zyg _ rfl,rfl⟩,zbp.lookup,?_⟩))
  have hD:s.heap.objs.size≠(s.heap.push (seqObj "tuple" (ys.map fun (i:Nat)=>rawInt i).toArray 0)).objs.size:=by rw [zyo];exact zyy (zzv _)
  have hI:s.heap.objs.size<=(s.heap.push (seqObj "tuple" (ys.map fun (i:Nat)=>rawInt i).toArray 0)).objs.size:=by rw [zyo];exact Nat.le_succ _
  have hy:∀ p∈ys,p<(entK prog w L).length:=fun p hp'=>by
   have:=zzo.mp (hp.mem_iff.mp hp')
   simpa using this
  have W:=zjx (prog:=prog) (w:=w) (A:=A) (I:=(s.heap.push (seqObj "tuple" (ys.map fun (i:Nat)=>rawInt i).toArray 0)).objs.size) (S:=S) (D:=s.heap.objs.size) (n:=(entK prog w L).toArray.size) (ep:=ep) (m:=0) (es:=entK prog w L) (t:=t) (ys:=ys) (oD:=seqObj "tuple" (ys.map fun (i:Nat)=>rawInt i).toArray 0) hh (hne _ hI) hD rfl hf (by simp) hy
  refine q _ _ _ d (ys.map fun p=>(entK prog w L).getD p (0,.none)) _ ?_ (fun b o e=>Heap.get?_push_of_some _ (Heap.get?_push_of_some _ e)) hI (fun b hb=>?_) (zoc W (by simp) fun i v hv=>?_) ⟨Heap.get?_push_size _ rfl,Heap.get?_push_of_some _ (Heap.get?_push_of_some _ hS.ob),Heap.get?_push_of_some _ (Heap.get?_push_size _ rfl)⟩
  ·have:=hp.map fun p=>(entK prog w L).getD p (0,Value.none)
   rw [zyk,<- zgx] at this
   exact this
  ·rw [zyo,zyo]
   simp only [List.mem_cons,List.not_mem_nil,or_false] at hb
   rcases hb with rfl | rfl | rfl
   ·right;rw [zyo];exact ⟨Nat.le_succ _,zzv _⟩
   ·exact .inl rfl
   ·right;exact ⟨zyl _,Nat.lt_succ_of_lt (zzv _)⟩
  ·obtain ⟨p,e,h1,h2,h3⟩:=hv
   exact ⟨e,by simp [h1,h2],h3⟩
 ·refine zyc (zyf ?_)
  refine zyc (wpAny_setEpoch_of hS.ob rfl hf ?_)
  refine zyc (zzb (zyf ⟨_,rfl, "set_iterator",_,⟨_,zyg _ rfl,rfl⟩,zbp.lookup,?_⟩))
  have fpo:∀ o:Obj,∀ b∈[s.heap.objs.size,S],b=S\/s.heap.objs.size<=b/\b<(s.heap.push o).objs.size:=fun o b hb=>by
   simp only [List.mem_cons,List.not_mem_nil,or_false] at hb
   rcases hb with rfl | rfl
   ·right;rw [zyo];exact ⟨zyl _,zzv _⟩
   ·exact .inl rfl
  cases hb:w.params.followText "set-order" with
  | true =>
   have W:=zif (prog:=prog) (w:=w) (A:=A) (I:=s.heap.objs.size) (S:=S) (n:=(entK prog w L).toArray.size) (ep:=ep) (es:=entK prog w L) (ord:=(pickOrder (w.params.setOrder S ep) (entK prog w L).toArray).toList) (t:=t) (sl:=fun _=>0) hh (hne _ (Nat.le_refl _)) hf (by simp)
    (fun i hi e he s A Q E ho h=>zgd ho hf hb (by rw [<- zzr,he];exact h))
    (fun s A Q E ho h=>zgd ho hf hb (by rw [zza,Array.getElem?_eq_none (zyl _)];exact h))
   exact q _ _ _ s.drawn _ _ (by simpa using zl2 (w.params.setOrder S ep) (entK prog w L).toArray) (fun b o e=>Heap.get?_push_of_some _ e) (Nat.le_refl _) (fpo _) W ⟨Heap.get?_push_size _ rfl,Heap.get?_push_of_some _ hS.ob⟩
  | false =>
   have hl:t.led=true:=by
    cases e:t.led with
    | true=>rfl
    | false=>rw [hS.led e] at hb;cases hb
   have hd:(!t.plain&&decide ((entK prog w L).toArray.size>1))=false:=by
    cases e:(!t.plain&&decide ((entK prog w L).toArray.size>1)) with
    | false=>rfl
    | true =>
     refine absurd ?_ hab
     show (!w.params.followText "set-order"&&(!t.plain&&decide ((entK prog w L).toArray.size>1)))=true
     rw [hb,e];rfl
   have hlen:P.length=(entK prog w L).length:=by rw [hS.len,entK,zyj]
   have W:=zif (prog:=prog) (w:=w) (A:=A) (I:=s.heap.objs.size) (S:=S) (n:=(entK prog w L).toArray.size) (ep:=ep) (es:=entK prog w L) (ord:=entK prog w L) (t:=t) (sl:=fun i=>if i=0 then 0 else P.getD (i-1) 0+1) hh (hne _ (Nat.le_refl _)) hf (by simp)
    (fun i hi e he s A Q E ho h=>zet ho hf hb hl hd (by rw [hS.ok.pl];exact zy8 (oml (oml zpm P hS.ok.all) i (zzo.mpr (by omega)))) (by
     rw [hS.ok.pl,List.getElem?_toArray,he,List.getElem?_toArray,zyi (by omega)]
     rw [if_neg (by omega),Nat.add_sub_cancel,zyp,zyi (by omega)] at h
     exact h))
    (fun s A Q E ho h=>zet ho hf hb hl hd (by
     rw [hS.ok.pl,<- hlen]
     exact zy8 (oml zpq P hS.ok.all)) (by
     rw [List.getElem?_toArray,List.getElem?_eq_none (zyl _)];exact h))
   exact q _ _ _ s.drawn _ _ (.refl _) (fun b o e=>zyb _ e) (zyl _) (fpo _) W ⟨zyg _ rfl,zyb _ hS.ob⟩
end
end Ev
end
end
end
noncomputable section
noncomputable section
noncomputable section
namespace Ev
open PySem PySem.W PySem.Spec PySem.Calls PyProof.Rows L2
variable {L:List (List Key × Addr)}
section
variable {prog:Program} {w:World} {A:Around} {E:Value->Shared->Prop} {s:Shared}
theorem zj3 {R:Result->Shared->Prop} {S Z:Addr} {ep:Nat} {t:SetTable} {P:List Nat} (hh:A.handled=none) (hS:SetT prog w s.heap S L ep t P) (hne:Z≠S) (res:Value) (c₀:Nat) (hZ:s.heap.get? Z=some { cls:=.type "list",data:=.seq #[] c₀ })
  (hR:∀ h' tk d (ord:List (Int × Value)) c',ord.Perm (entK prog w L)->(∀ b o,b≠Z->s.heap.get? b=some o->h'.get? b=some o)->h'.get? Z=some { cls:=.type "list",dict:=none,data:=.seq (ord.map (·.2)).toArray c',slots:=#[] }->R (.ok (.ret res)) { s with heap:=h',toks:=tk,drawn:=d }) :
  wpAny (model prog w) A.in1 (Builtin.List.listExtendWith (.ref Z) (.ref S) res)
   (fun fin s'=>match fin with | .done f=>R (.ok f) s' | .again c'=>c'.quiet=true/\codeAny (model prog w) A c' R s') (fun e s'=>R (.error e) s') s:=by
 have hZl:Z<s.heap.objs.size:=zym hZ
 have hT:s.TypeIs (.ref S) "set":=⟨_,hS.ob,rfl⟩
 unfold Builtin.List.listExtendWith
 refine zyc (wpAny_typeOf (T:="set") hT ?_)
 have h1:Builtin.List.listSameRef (.ref Z) (.ref S)=false:=by simp [Builtin.List.listSameRef,hne]
 have k1:(Value.type "set"==Value.type "list")=false:=by decide
 have k2:(Value.type "set"==Value.type "tuple")=false:=by decide
 simp only [h1,k1,k2,Bool.or_false,Bool.false_eq_true,if_false]
 refine zyc (zoy (A:=A.in1) hh hS fun I fp g d ord St hp hk hI hfp W st=>?_)
 have hZf:Z∉fp:=fun z=>(hfp Z z).elim hne fun z=>absurd hZl (Nat.not_lt.mpr z.1)
 have hol:ord.length<=sizeLine:=by
  have:=zjs hS.ok.all
  rw [hp.length_eq,entK,zyj,<- hS.len,sizeLine_eq];omega
 have key:∀ (h:Heap) (c₁ tk:Nat),St 0 h->(∀ b o,b≠Z->s.heap.get? b=some o->h.get? b=some o) ->
   h.get? Z=some { cls:=.type "list",data:=.seq #[] c₁ }->codeAny (model prog w) A (.builtin "list.extend.loop" ⟨[.ref Z,.ref I,res],[]⟩) R { s with heap:=h,toks:=tk,drawn:=d }:=by
  intro h c₁ tk hst hk' hZ₁
  refine codeAny_extend_loopS W.toS hol Z hZf res ord.length 0 _ #[] c₁ rfl (zy9 _) hst hZ₁ (ItemsOf.nil _) fun s' acc' c' hm hZ' hacc=>?_
  rw [Moved.eq_with hm]
  have ea:acc'=(ord.map (·.2)).toArray:=by
   apply Array.toList_inj.mp
   apply List.ext_getElem?
   intro i
   by_cases hi:i<ord.length
   ·have hi':i<acc'.size:=by rw [hacc.1];exact hi
    obtain ⟨e,he,hv⟩:=hacc.2 i acc'[i] (by simp [hi'])
    rw [zzr,Array.getElem?_eq_getElem hi',hv]
    simp [he]
   ·rw [List.getElem?_eq_none (by rw [Array.length_toList,hacc.1];omega),List.getElem?_eq_none (by simp;omega)]
  subst ea
  refine hR s'.heap s'.toks d ord c' hp (fun b o hb e=>hm.heap b o (fun hmem=>?_) (hk' b o hb e)) hZ'
  rcases omc hmem with e' | hmem
  ·exact hb e'
  ·exact absurd (zym e) (by rw [omg hmem];exact Nat.not_lt.mpr hI)
 have hT₁:Shared.TypeIs { s with heap:=g,drawn:=d } (.ref S) "set":=⟨_,hk _ _ hS.ob,rfl⟩
 have hZ₁:=hk _ _ hZ
 refine zyc (wpAny_holding (zpv hT₁ ?_))
 refine wpAny_ite_split (fun _=>?_) (fun _=>zyf ⟨plainId_quiet PySem.F.plain_extend_loop _,key _ c₀ _ st (fun b o _ e=>hk b o e) hZ₁⟩)
 refine zyc (wpAny_rule ?_)
 refine zyc ?_
 show wpAny _ _ (updateSeq Z (·.push .none) >>= fun _=>updateSeq Z (·.pop)) _ _ _
 refine zyc (wpAny_updateSeq hZ₁ rfl ?_)
 have hS₂:=Heap.get?_update_self (Obj.mapSeq (·.push Value.none)) hZ₁ rfl
 refine wpAny_updateSeq (hz:=by seq_fits) hS₂ rfl ?_
 have hS₃:=Heap.get?_update_self (Obj.mapSeq (·.pop)) hS₂ rfl
 refine zyf ⟨plainId_quiet PySem.F.plain_extend_loop _,key _ _ _ ?_ (fun b o hb e=>?_) hS₃⟩
 ·refine W.frame 0 _ _ st fun b hb o e=>?_
  have hbS:b≠Z:=fun h=>hZf (h▸hb)
  exact (Heap.get?_update_other _ _ (Ne.symm hbS)).trans ((Heap.get?_update_other _ _ (Ne.symm hbS)).trans e)
 ·exact (Heap.get?_update_other _ _ (Ne.symm hb)).trans ((Heap.get?_update_other _ _ (Ne.symm hb)).trans (hk b o e))
theorem zha {R:List Value->Shared->Prop} {S:Addr} {ep:Nat} {t:SetTable} {P:List Nat} (hh:A.handled=none) (hS:SetT prog w s.heap S L ep t P)
  (h:∀ (h':Heap) (tk:Nat) (d:_) (ord:List (Int × Value)),ord.Perm (entK prog w L)->(∀ b o,s.heap.get? b=some o->h'.get? b=some o)->R (ord.map (·.2)) { s with heap:=h',toks:=tk,drawn:=d }) :
  wpAny (model prog w) A (collect (.ref S)) R E s:=by
 have hlt:S<s.heap.objs.size:=zym hS.ob
 unfold collect
 refine zyc (wpAny_runValue (codeAny_builtin entry_proto_collect' ?_))
 rw [Around.under_plainId PySem.F.plain_proto_collect _]
 show wpAny _ A.in1 (newList [] >>= fun l=>again (.builtin "list.__iadd__" ⟨[l,.ref S],[]⟩)) _ _ s
 refine zyc (zzb ?_)
 refine zyf ⟨plainId_quiet PySem.F.plain_list_iadd _,codeAny_builtin entry_list_iadd' ?_⟩
 rw [Around.under_plainId PySem.F.plain_list_iadd _]
 have hS₁:(s.heap.push { cls:=.type "list",data:=.seq ([]:List Value).toArray }).get? s.heap.objs.size=some { cls:=.type "list",data:=.seq #[] }:=zyg _ rfl
 show wpAny _ A.in1 (Builtin.List.listExtendWith (.ref s.heap.objs.size) (.ref S) (.ref s.heap.objs.size)) _ _ _
 have hS':SetT prog w (s.heap.push { cls:=.type "list",data:=.seq ([]:List Value).toArray }) S L ep t P :=
  ⟨zyb _ hS.ob,hS.ok,hS.len,hS.led,hS.nd,fun e he=>let ⟨o,i,n,a,b⟩:=hS.ks e he;⟨o,i,n,zyb _ a,b⟩,hS.rch⟩
 have key:=zj3 (A:=A) (s:={ s with heap:=s.heap.push { cls:=.type "list",data:=.seq ([]:List Value).toArray } })
  (R:=fun (q:Result) (s':Shared)=>∃ (h':Heap) (tk:Nat) (d:_) (ord:List (Int × Value)) (c':Nat),q=.ok (.ret (.ref s.heap.objs.size))/\s'={ s with heap:=h',toks:=tk,drawn:=d }/\ord.Perm (entK prog w L) /\
   (∀ b o,s.heap.get? b=some o->h'.get? b=some o)/\h'.get? s.heap.objs.size=some { cls:=.type "list",dict:=none,data:=.seq (ord.map (·.2)).toArray c',slots:=#[] })
  hh hS' (Nat.ne_of_gt hlt) (.ref s.heap.objs.size) 0 hS₁
  (fun h' tk d ord c' hp hk hS'=>⟨h',tk,d,ord,c',rfl,rfl,hp,fun b o e=>hk b o (zyy (zym e)) (zyb _ e),hS'⟩)
 refine zzw key (fun fin s' x=>?_) fun e s' x=>?_
 ·cases fin with
  | done f =>
   obtain ⟨h',tk,d,ord,c',e,rfl,hp,hk,hS'⟩:=x
   cases e
   show wpAny _ A (load s.heap.objs.size >>= _) _ _ _
   refine zyc (wpAny_load hS' ?_)
   exact zyf (h h' tk d ord hp hk)
  | again c₁ =>
   refine ⟨x.1,codeAny_mono x.2 fun q s₂ y=>?_⟩
   obtain ⟨h',tk,d,ord,c',rfl,rfl,hp,hk,hS'⟩:=y
   show wpAny _ A (load s.heap.objs.size >>= _) _ _ _
   refine zyc (wpAny_load hS' ?_)
   exact zyf (h h' tk d ord hp hk)
 ·obtain ⟨_,_,_,_,_,e',_⟩:=x
  cases e'
end
end Ev
end
end
end
noncomputable section
noncomputable section
noncomputable section
namespace Ev
open PySem PySem.W PySem.Spec PyProof.Rows L2
structure SetO (prog:Program) (w:World) (g:Heap) (S:Addr) (L:List (List Key × Addr)) (ep:Nat) (t:SetTable) (P:List Nat):Prop where
 ob:g.get? S=some { cls:=.type "set",dict:=none,data:=.set (entK prog w L).toArray ep t }
 ok:TOk t P
 len:P.length=L.length
 led:t.led=false->w.params.followText "set-order"=true
 nd:(L.map (·.1)).Nodup
 rch:∀ q∈L.zip P,∃ n,n<=20/\q.2=ix (hK prog w q.1.1) n/\∀ m,m<n->ix (hK prog w q.1.1) m∈P
theorem SetT.o {prog:Program} {w:World} {g:Heap} {S:Addr} {L:List (List Key × Addr)} {ep:Nat} {t:SetTable} {P:List Nat} (h:SetT prog w g S L ep t P):SetO prog w g S L ep t P:=⟨h.ob,h.ok,h.len,h.led,h.nd,h.rch⟩
theorem SetO.t {prog:Program} {w:World} {g:Heap} {S:Addr} {L:List (List Key × Addr)} {ep:Nat} {t:SetTable} {P:List Nat} (h:SetO prog w g S L ep t P) (k:∀ e∈L,IsTupleKey (zah prog w) g e.1 e.2):SetT prog w g S L ep t P:=⟨h.ob,h.ok,h.len,h.led,h.nd,k,h.rch⟩
def SetZ (P:Program) (w:World) (a:Addr) (Z:List (List Key × Addr)):HO:=.ext fun h=>∃ L ep t Q,SetO P w h a L ep t Q/\(∀ x,x∈L.map (·.1)↔x∈Z.map (·.1))/\∀ e∈L,e∈Z
theorem zf8 {α β:Type} {f:α->β} {l m:List β} (h:l.Perm m):∀ {n:List α},m=n.map f->∃ k:List α,l=k.map f/\k.Perm n:=by
 induction h with
 | nil =>
  intro n e
  have:n=[]:=by cases n with | nil=>rfl | cons=>cases e
  subst this
  exact ⟨[],rfl,.refl _⟩
 | cons x _ ih =>
  intro n e
  cases n with
  | nil=>cases e
  | cons y n =>
   rw [zyh] at e
   injection e with e1 e2
   obtain ⟨k,rfl,hk⟩:=ih e2
   exact ⟨y::k,by rw [e1];rfl,.cons _ hk⟩
 | swap x y l =>
  intro n e
  match n,e with
  | a::b::n,e =>
   rw [zyh,zyh] at e
   injection e with e1 e2
   injection e2 with e2 e3
   subst e1 e2 e3
   exact ⟨b::a::n,rfl,.swap _ _ _⟩
  | [_],e=>cases e
  | [],e=>cases e
 | trans _ _ ih1 ih2 =>
  intro n e
  obtain ⟨k,e2,h2⟩:=ih2 e
  obtain ⟨k',e1,h1⟩:=ih1 e2
  exact ⟨k',e1,h1.trans h2⟩
theorem zpt {k:Key} {v:Value} (r:RelV (kV k) v):keyIs k v=true:=by
 rcases k with i | _ | x
 ·obtain ⟨t,rfl⟩:=r;exact zgl i t
 ·cases r;rfl
 ·obtain ⟨t,rfl⟩:=r;exact zgk x t
theorem zek {prog:Program} {w:World}:∀ {k:List Key} {vs:List Value},Vals (k.map kV) vs->ItemsAre (zah prog w) k vs
 | [],_,r=>by cases r;exact .nil
 | a::k,_,r=>by
  rw [zyh] at r
  cases r with
  | cons h t=>exact .cons (zpt h) (zek t)
section
variable {X:Cx} {pins:List (Addr × Obj)} {σ:L2.St} {H:Hp} {s:Shared}
theorem zk2 (I:L2.Inv X pins σ H s) {g:Heap} (hk:∀ b o,s.heap.get? b=some o->g.get? b=some o) {a:Addr} {k:List Key} (h:H a=some (.tup (k.map kV))):IsTupleKey (zah X.prog X.w) g k a:=by
 obtain ⟨its,r,o,h1,h2,n,h3⟩:=zg5 I hk a _ h
 exact ⟨o,its.toArray,n,h1,h2,h3,zek r⟩
theorem Inv.drawnK {t':Nat} {d':Drawn} {h':Heap} (I:L2.Inv X pins σ H s) (k:∀ b u,s.heap.get? b=some u->h'.get? b=some u):L2.Inv X pins σ H { s with heap:=h',drawn:=d',toks:=t' }:=by
 have I':L2.Inv X pins σ H { s with heap:=h',toks:=t' }:=I.kept k
 exact ⟨I'.ok,I'.os,I'.bare,I'.base,I'.loc,I'.cell,I'.free,I'.freeC,I'.pin,I'.hok,I'.len⟩
theorem zdv {x:List Kt}:∀ {l:List (List Kt)},x∈dedL l↔x∈l
 | []=>Iff.rfl
 | k::r=>by
  rw [dedL]
  split
  ·rename_i hk
   rw [zdv (l:=r),List.mem_cons]
   obtain ⟨y,hy,e⟩:=List.any_eq_true.mp hk
   exact ⟨.inr,fun h=>h.elim (fun z=>by rw [z,<- zy8 e];exact hy) id⟩
  ·rw [List.mem_cons,zdv (l:=r),List.mem_cons]
theorem znt (hcalm:X.calm=true) (hu:X.A.units+16<cLine):CallR X (.type "set") (fun xs H Q=>∃ F ts kss v,xs=[v]/\Same F H/\Rep X.K F (.lst ts) v/\tksO ts=some kss/\(dedL kss).length<=4/\∀ l Z,H l=none->(∀ x,x∈Z.map (·.1)↔x∈kss)->(∀ z∈Z,F z.2=some (.tup (z.1.map kV)))->Q (.ref l) (upd H l (SetZ X.prog X.w l Z))):=by
 intro pins s σ H xs us Q I r h
 obtain ⟨F,ts,kss,v,rfl,fh,r1,hk,h4,q⟩:=h
 obtain ⟨u,rfl,ru⟩:=vals1 r
 have hd:X.A.handled=none:=I.ok.hd hcalm
 obtain ⟨l,vs,rfl,g1,g2⟩:=r1
 cases ru
 obtain ⟨as,rfl,hln,hA⟩:=zk4 g2 hk
 obtain ⟨its,rv,pl,hz⟩:=I.list (Ls.same fh g1).sq
 have:=zfz rv
 subst this
 have hAk:∀ i (h:i<kss.length),F (as.getD i 0)=some (.tup (kss[i].map kV)):=fun i h=>by
  have:=hA i h
  rwa [zyp (l:=kss),zyi h] at this
 refine zkm (ks:=kss) (ad:=fun i=>as.getD i 0) (D:=dedL kss) hd pl.isList (by simp [hln]) (fun i hi=>?_) (fun i hi=>zk2 I (fun b o e=>e) (fh _ _ (hAk i hi))) (fun x hx=>zdv.mpr hx) h4 hu fun g tk y k=>?_
 ·have hi':i<as.length:=by rw [hln];exact hi
  simp [hi']
 ·obtain ⟨L,ep,t,P,y,ym,ya⟩:=y
  have hn:H s.heap.objs.size=none:=I.hok.fresh (zyl _)
  have kk:∀ b o,s.heap.get? b=some o->g.get? b=some o:=fun b o e=>k b o (zym e) e
  refine ⟨.ref s.heap.objs.size,_,I.laid (t':=tk) kk (zyl _) ?_,rfl,q _ L hn ym fun z hz'=>?_⟩
  ·refine ⟨⟨L,ep,t,P,y.o,fun x=>Iff.rfl,fun e he=>he⟩,⟨_,y.ob⟩,fun h1 h2 z st=>?_⟩
   obtain ⟨L',ep',t',P',z,z1,z2⟩:=z
   exact ⟨L',ep',t',P',⟨st _ z.ob,z.ok,z.len,z.led,z.nd,z.rch⟩,z1,z2⟩
  ·obtain ⟨j,hj,rfl⟩:=ya z hz'
   exact hAk j hj
theorem zgv (hcalm:X.calm=true):CallR X (.builtin "sorted") (fun xs H Q=>∃ F l Z kss r,xs=[.ref l]/\Same F H/\H l=some (SetZ X.prog X.w l Z)/\(∀ x,x∈Z.map (·.1)↔x∈kss)/\(∀ z∈Z,F z.2=some (.tup (z.1.map kV)))/\sortK (dedL kss)=some r/\∀ v F' H',Step F H F' H'->Rep X.K F' (.lst (r.map tkT)) v->Q v H'):=by
 intro pins s σ H xs us Q I r h
 obtain ⟨F,l,Z,kss,r',rfl,fh,hl,hm,hZ,hs,q⟩:=h
 obtain ⟨u,rfl,ru⟩:=vals1 r
 cases ru
 have hh:X.A.handled=none:=I.ok.hd hcalm
 obtain ⟨h5,nd,al,rfl⟩:=zem hs
 obtain ⟨⟨L,ep,t,P,y,ym,ya⟩,_⟩:=I.hok l _ hl
 have y':SetT X.prog X.w s.heap l L ep t P:=y.t fun e he=>zk2 I (fun b o e=>e) (fh _ _ (hZ e (ya e he)))
 refine zd3 (zha (A:=X.A.in1) hh y' fun h' tk d ord hp hk=>?_)
 obtain ⟨M,rfl,pm⟩:=zf8 hp rfl
 have hF:∀ e∈M,F e.2=some (.tup (e.1.map kV)):=fun e he=>hZ e (ya e (pm.mem_iff.mp he))
 have mm:∀ x,x∈M.map (·.1)↔x∈dedL kss:=fun x=>by rw [(pm.map (·.1)).mem_iff,ym,hm,zdv]
 have ndM:(M.map (·.1)).Nodup:=(pm.map (·.1)).nodup_iff.mpr y.nd
 have alM:∀ x∈M.map (·.1),x≠[]/\∀ z∈M.map (·.1),alike x z=true:=fun x hx=>⟨(al x ((mm x).mp hx)).1,fun z hz=>(al x ((mm x).mp hx)).2 z ((mm z).mp hz)⟩
 have l5:(M.map (·.1)).length<=5:=by
  have:=zg6 ndM (D:=dedL kss) fun x hx=>(mm x).mp hx
  omega
 have hln:(M.map (·.2)).length=(M.map (·.1)).length:=by simp
 have hA:∀ i,i<(M.map (·.1)).length->F ((M.map (·.2)).getD i 0)=some (.tup (((M.map (·.1)).getD i []).map kV)):=fun i hi=>by
  have hi':i<M.length:=by simpa using hi
  have:=hF M[i] (List.getElem_mem hi')
  simpa [hi'] using this
 have ev:(M.map fun e=>(hK X.prog X.w e.1,Value.ref e.2)).map (·.2)=(M.map (·.2)).map Value.ref:=by
  rw [zzk,zzk];rfl
 have eS:sortL (M.map (·.1))=sortL (dedL kss):=by
  refine ze9 (fun x=>?_) (fun x hx z hz=>(alM x (zaq.mp hx)).2 z (zaq.mp hz)) (zch ndM fun x hx z hz=>(alM x hx).2 z hz) (zch nd fun x hx z hz=>(al x hx).2 z hz)
  rw [zaq,zaq,mm]
 rw [ev]
 have I1:L2.Inv X pins σ H { s with heap:=h',toks:=tk,drawn:=d }:=Inv.drawnK I hk
 refine ⟨M.map (·.1),zfi (P:=X.prog) (w:=X.w) (zg5 I hk) hln (fun i hi=>fh _ _ (hA i hi)),l5,ndM,alM,fun out p c g p1 p2 p3 kp hD=>?_⟩
 exact zdf I1 fh hln hA p1 p2 p3 l5 kp hD fun v F' H' st r'=>q v F' H' st (by rw [<- eS];exact r')
end
end Ev
end
end
end
noncomputable section
noncomputable section
noncomputable section
namespace Ev
open PySem PySem.W PySem.Spec PyProof.Rows L2
section
variable {X:Cx} {c:Tc} {a:Expr} {p p2 pos q2:Pos}
theorem zs4 {G:Glo} {k:Nat} (gd:Gd X c G k) {f:Env->Option T} (hg:glB c.sc "sorted"=true) (hg2:glB c.sc "set"=true) (ha:Oke X c a f) (hs:starEach [a] X.env=[(false,eval a X.env)]) :
  Oke X c (.Call (.Name "sorted" p) [.Call (.Name "set" p2) [a] [] q2] [] pos) (fun r=>(f r).bind fun x=>bltT .sset x):=by
 have inner:=zf9 (pos:=q2) (p:=p2) (znt (X:=X) gd.calm (by have:=gd.room.un;omega)) (gd.gl _ hg2) (gd.nob _ (by decide +kernel)) (show bootBuiltins "set"=some (.type "set") by decide +kernel) (zcc ha hs) (by decide) (by decide) hs rfl
 have outer:=zfd (pos:=pos) (p:=p) (zgv gd.calm) (gd.gl _ hg) (gd.nob _ (by decide +kernel)) (show bootBuiltins "sorted"=some (.builtin "sorted") by decide +kernel) (zbq inner zer) (by decide) (by decide) rfl rfl
 refine zav outer fun σ H Q q=>?_
 obtain ⟨r,F,t,e,ht,q⟩:=q
 obtain ⟨t1,e1,ht⟩:=obs ht
 refine ⟨r,F,[t1],e,Option.bind_eq_some_iff.mpr ⟨t1,e1,rfl⟩,fun vs F' H' s1 r1=>?_⟩
 obtain ⟨v,w,rfl,h1,h2⟩:=r1
 cases h2
 cases t1 with
 | lst ts =>
  replace ht:(tksO ts).bind ssetT=some t:=ht
  obtain ⟨kss,hk,ht⟩:=obs ht
  unfold ssetT at ht
  split at ht
  ·rename_i h4
   obtain ⟨r',hs',rfl⟩:=oms ht
   refine ⟨F',ts,kss,v,rfl,s1.fh,h1,hk,h4,fun l Z hn hm hZ=>⟨F',l,Z,kss,r',rfl,s1.fh.trans (za8 hn),zae,hm,hZ,hs',fun v' F2 H2 s2 r2=>q v' F2 H2 (s1.trans (((Step.refl s1.fh).newH hn).trans s2)) r2⟩⟩
  ·cases ht
 | _=>cases ht
end
end Ev
end
end
end
noncomputable section
noncomputable section
noncomputable section
namespace Ev
open PySem PySem.Spec PyProof.Rows L2
variable {m:Nat} {fe:Env->Option T} {scope:Scope} {pos:Pos}
section
variable {G:Glo} {k n:Nat} {X:Cx} {c:Tc}
theorem zgq {e:Expr} {ki:Ik × List E} (h:trI m c e=some ki) (env:PySem.Env):∀ x,foldedSetIterable e env x=pure x:=by
 intro x
 cases e with
 | Set es k p =>
  exfalso
  cases m with
  | zero=>cases h
  | succ m =>
   have h:((trV m c (.Set es k p)).bind fun x=>some (Ik.plain,[x]))=some ki:=h
   cases m with
   | zero=>cases h
   | succ m=>cases h
 | _=>rfl
structure CompParts (G:Glo) (n:Nat) (c:Tc) (elt tg iter:Expr) (ifs:List Expr) (scope:Scope) (e':E) (xs:List Str) (fi:Env->Option (List T)) (fc:Env->Option Bool) (fe:Env->Option T):Prop where
 htg:zby tg=some xs
 cs:CsB c.sc scope xs
 h2:isTupE tg=true->2<=xs.length
 ev:evE G e'=compF xs fi fc fe
theorem zt5 {r:Env}:(fun x=>(bnd m x r).bind fun r'=>((some none:Option (Option T))).bind fun c=>match c with
    | none=>(fe r').map some
    | some (.bl true)=>(fe r').map some
    | some (.bl false)=>some none
    | some _=>none)=elM m r (fun _=>some true) fe:=by
 funext x
 unfold elM
 cases bnd m x r<;>rfl
theorem zp6 {r:Env} {f1:Env->Option T}:(fun x=>(bnd m x r).bind fun r'=>((f1 r').map some).bind fun c=>match c with
    | none=>(fe r').map some
    | some (.bl true)=>(fe r').map some
    | some (.bl false)=>some none
    | some _=>none)=elM m r (fun r'=>(f1 r').bind fun t=>match t with | .bl b=>some b | _=>none) fe:=by
 funext x
 unfold elM
 cases bnd m x r with
 | none=>rfl
 | some r' =>
  simp only [Option.bind_some]
  cases f1 r' with
  | none=>rfl
  | some t=>cases t<;>first | rfl | (rename_i b;cases b<;>rfl)
theorem zjo {n:Nat} {c:Tc} {elt:Expr} {gens:List Comprehension} {e':E} (h:trV (n+1) c (.ListComp elt gens scope pos)=some e') :
  ∃ tg iter ifs,gens=[⟨tg,iter,ifs,0⟩]/\∃ xs ki,zby tg=some xs/\trI n c iter=some ki/\(zcf c.sc scope xs&&(!ki.1.pair||isTupE tg)&&(!isTupE tg||decide (2<=xs.length)))=true /\
   (match ifs with
   | []=>(trV n ⟨scope,xs++c.nm⟩ elt).bind fun x=>some (.comp x xs.length ki.1 ki.2 none)
   | [t]=>(trV n ⟨scope,xs++c.nm⟩ elt).bind fun x=>(trT n ⟨scope,xs++c.nm⟩ t).bind fun y=>some (.comp x xs.length ki.1 ki.2 (some y))
   | _=>none)=some e':=by
 match gens,h with
 | [⟨tg,iter,ifs,.ofNat 0⟩],h =>
  obtain ⟨xs,h0,h⟩:=obs (show ((zby tg).bind fun xs=>(trI n c iter).bind fun ki=>if zcf c.sc scope xs&&(!ki.1.pair||isTupE tg)&&(!isTupE tg||decide (2<=xs.length)) then
   (match ifs with
   | []=>(trV n ⟨scope,xs++c.nm⟩ elt).bind fun x=>some (.comp x xs.length ki.1 ki.2 none)
   | [t]=>(trV n ⟨scope,xs++c.nm⟩ elt).bind fun x=>(trT n ⟨scope,xs++c.nm⟩ t).bind fun y=>some (.comp x xs.length ki.1 ki.2 (some y))
   | _=>none) else none)=some e' from h)
  obtain ⟨ki,h1,h⟩:=obs h
  split at h
  ·rename_i hc
   exact ⟨tg,iter,ifs,rfl,xs,ki,h0,h1,hc,h⟩
  ·cases h
 | [⟨tg,iter,ifs,.ofNat (a+1)⟩],h=>cases h
 | [⟨tg,iter,ifs,.negSucc a⟩],h=>cases h
 | [],h=>cases h
 | g1::g2::gs,h =>
  obtain ⟨t1,i1,f1,a1⟩:=g1
  rcases a1 with (_ | _) | _<;>cases h
theorem zio (S:Snd G k n) (gd:Gd X c G k) {elt:Expr} {gens:List Comprehension} {e':E} (h:trV (n+1) c (.ListComp elt gens scope pos)=some e') :
  Oke X c (.ListComp elt gens scope pos) (evE G e')/\∀ {y:Str} {py spos:Pos} {i:Nat},At X y i->PS X (.Assign [.Name y py] (.ListComp elt gens scope pos) spos) (spAsg X c i (evE G e')):=by
 obtain ⟨tg,iter,ifs,rfl,xs,ki,h0,h1,hcs,hr⟩:=zjo h
 simp only [Bool.and_eq_true,Bool.or_eq_true,Bool.not_eq_true',decide_eq_true_eq] at hcs
 have CS:=zw2 hcs.1.1
 have h2n:isTupE tg=true->2<=xs.length:=fun z=>hcs.2.elim (fun q=>by rw [q] at z;cases z) id
 have hen:ki.1.pair=true->isTupE tg=true:=fun z=>hcs.1.2.elim (fun q=>by rw [q] at z;cases z) id
 have hit:=S.i (tg:=tg) gd h1 hen
 have hfs:=zgq h1 X.env
 match ifs,hr with
 | [],hr =>
  obtain ⟨x,h3,hr⟩:=obs hr
  cases hr
  have he:∀ pins fp s₃ H₃,Gd (blk X pins scope xs fp s₃ H₃) ⟨scope,xs++c.nm⟩ G k->Oke (blk X pins scope xs fp s₃ H₃) ⟨scope,xs++c.nm⟩ elt (evE G x):=fun pins fp s₃ H₃ g=>S.v g h3
  have hi:∀ pins fp s₃ H₃,Gd (blk X pins scope xs fp s₃ H₃) ⟨scope,xs++c.nm⟩ G k->∀ (pn:List (Addr × Obj)) (s:Shared) (σ:L2.St) (H:Hp) (Q:Bool->Hp->Prop),L2.Inv (blk X pins scope xs fp s₃ H₃) pn σ H s->spC (blk X pins scope xs fp s₃ H₃) ⟨scope,xs++c.nm⟩ (fun _=>some true) σ H Q ->
   wpAny (model X.prog X.w) X.A (forIn ([]:List Expr) true fun c r=>if r=true then do let ok <- isTrue c (blk X pins scope xs fp s₃ H₃).env (eval c (blk X pins scope xs fp s₃ H₃).env);pure (ForInStep.yield ok) else pure (ForInStep.yield r)) (TP (blk X pins scope xs fp s₃ H₃) pn σ Q) (fun _ _=>False) s:=fun pins fp s₃ H₃ g pn s σ H Q I q=>by
   obtain ⟨r,F,b,e,hb,q⟩:=q
   cases hb
   exact wpAny_tests_nil ⟨H,I,q F H (Step.refl e.fh)⟩
  have e:evE G (.comp x xs.length ki.1 ki.2 none)=compF xs (fun r=>(evEs G ki.2 r).bind fun xs=>items ki.1 xs) (fun _=>some true) (evE G x):=by
   funext r
   rw [evE]
   unfold compF itemsC
   rw [<- zt5]
   dsimp only
   cases evEs G ki.2 r with
   | none=>rfl
   | some ys=>simp only [Option.bind_some,evO]
  rw [e]
  exact ⟨zhm gd CS h0 h2n he hi hit hfs,fun {y py spos i} hy=>zes gd CS h0 h2n he hi hit hfs hy⟩
 | [t],hr =>
  obtain ⟨x,h3,hr⟩:=obs hr
  obtain ⟨y1,h4,hr⟩:=obs hr
  cases hr
  have he:∀ pins fp s₃ H₃,Gd (blk X pins scope xs fp s₃ H₃) ⟨scope,xs++c.nm⟩ G k->Oke (blk X pins scope xs fp s₃ H₃) ⟨scope,xs++c.nm⟩ elt (evE G x):=fun pins fp s₃ H₃ g=>S.v g h3
  have hi:∀ pins fp s₃ H₃,Gd (blk X pins scope xs fp s₃ H₃) ⟨scope,xs++c.nm⟩ G k->∀ (pn:List (Addr × Obj)) (s:Shared) (σ:L2.St) (H:Hp) (Q:Bool->Hp->Prop),L2.Inv (blk X pins scope xs fp s₃ H₃) pn σ H s->spC (blk X pins scope xs fp s₃ H₃) ⟨scope,xs++c.nm⟩ (fun r'=>(evE G y1 r').bind fun t=>match t with | .bl b=>some b | _=>none) σ H Q ->
   wpAny (model X.prog X.w) X.A (forIn [t] true fun c r=>if r=true then do let ok <- isTrue c (blk X pins scope xs fp s₃ H₃).env (eval c (blk X pins scope xs fp s₃ H₃).env);pure (ForInStep.yield ok) else pure (ForInStep.yield r)) (TP (blk X pins scope xs fp s₃ H₃) pn σ Q) (fun _ _=>False) s:=fun pins fp s₃ H₃ g pn s σ H Q I q=>by
   obtain ⟨r,F,b,e,hb,q⟩:=q
   obtain ⟨tt,ht,hb⟩:=obs hb
   cases tt with
   | bl b' =>
    cases hb
    exact wpAny_tests_one ((S.t g h4).1 pn s σ H Q I ⟨r,F,b,e,ht,q⟩)
   | _=>cases hb
  have e:evE G (.comp x xs.length ki.1 ki.2 (some y1))=compF xs (fun r=>(evEs G ki.2 r).bind fun xs=>items ki.1 xs) (fun r'=>(evE G y1 r').bind fun t=>match t with | .bl b=>some b | _=>none) (evE G x):=by
   funext r
   rw [evE]
   unfold compF itemsC
   rw [<- zp6]
   dsimp only
   cases evEs G ki.2 r with
   | none=>rfl
   | some ys=>simp only [Option.bind_some,evO];try rfl
  rw [e]
  exact ⟨zhm gd CS h0 h2n he hi hit hfs,fun {y py spos i} hy=>zes gd CS h0 h2n he hi hit hfs hy⟩
 | _::_::_,hr=>cases hr
theorem ze6 (S:Snd G k n) (gd:Gd X c G k) {f:Str} {a:Expr} {es:List Expr} {p:Pos} {xs:List E} (hg:glB c.sc f=true) (hp:zaf f=true) (h:mapO (trV n c) (a::es)=some xs):Oke X c (.Call (.Name f p) (a::es) [] pos) (evE G (.call f xs)):=by
 have e:evE G (.call f xs)=fun r=>(evEs G xs r).bind fun ys=>G.call f ys:=by funext r;rw [evE]
 rw [e]
 obtain ⟨x,h1,h'⟩:=obs h
 obtain ⟨ys,h2,_⟩:=obs h'
 exact zs7 gd hg hp (S.l gd h) (zbz h1 es X.env) (zin pos X.env h2)
theorem zg7 {k:Bn} {a b:Expr} (h:zg8 k a=some b):k=.sorted/\∃ p q,a=.Call (.Name "set" p) [b] [] q:=by
 cases k with
 | sorted =>
  refine ⟨rfl,?_⟩
  cases a with
  | Call f es ks q =>
   cases f with
   | Name g p =>
    match es,ks,h with
    | [b'],[],h =>
     replace h:(if g==("set":Str) then some b' else none)=some b:=h
     split at h
     ·rename_i hg
      cases h
      exact ⟨_,_,by rw [eq_of_beq hg]⟩
     ·cases h
    | [],_,h=>cases h
    | [_],_::_,h=>cases h
    | _::_::_,_,h=>cases h
   | _=>cases h
  | _=>cases h
 | _=>cases h
theorem znw {f:Str} (h:bnOf f=some .sorted):f="sorted":=by
 unfold bnOf at h
 repeat (first | (split at h;· cases h) | (split at h;· rename_i e;exact eq_of_beq e) | cases h)
theorem zuq (S:Snd G k n) {e:Expr} {e':E} (gd:Gd X c G k) (h:trV (n+1) c e=some e'):Oke X c e (evE G e'):=by
 have cst:∀ {t:T} {v:V} {a:Expr},PE X a (tC v)->(∀ F,Rep X.K F t v)->Oke X c a (evE G (.cst t)):=fun {t v a} h1 h2=>by
  have e:evE G (.cst t)=fun _=>some t:=by funext r;rw [evE]
  rw [e];exact zv7 h1 h2
 cases e with
 | Constant cs q pos =>
  cases cs with
  | none=>cases (show some (E.cst .non)=some e' from h);exact cst zvl fun _=>rfl
  | bool b=>cases (show some (E.cst (.bl b))=some e' from h);exact cst zxw fun _=>rfl
  | int i=>cases (show some (E.cst (.int i))=some e' from h);exact cst zvo fun _=>rfl
  | str x=>cases (show some (E.cst (.str x))=some e' from h);exact cst zqw fun _=>rfl
  | _=>(cases h;done)
 | Name x pos =>
  replace h:(if zaf x then (if visB c.sc x then (nameIx c.nm x).map E.var else if glB c.sc x&&!bnames.contains x then some (.glb x) else none) else none)=some e':=h
  split at h
  ·rename_i hp
   split at h
   ·rename_i hv
    obtain ⟨i,hi,rfl⟩:=oms h
    have e:evE G (.var i)=fun r=>(r[i]?).join:=by funext r;rw [evE]
    rw [e];exact zvy gd hp hv hi
   ·split at h
    ·rename_i hg
     cases h
     rw [zyd] at hg
     have e:evE G (.glb x)=fun _=>G.con x:=by funext r;rw [evE]
     rw [e];exact zv6 gd hp hg.1
    ·cases h
  ·cases h
 | BinOp a op b pos =>
  obtain ⟨o,h0,h⟩:=obs h
  obtain ⟨x,h1,h⟩:=obs h
  obtain ⟨y,h2,h⟩:=obs h
  cases h
  have e:evE G (.bin o x y)=fun r=>(evE G x r).bind fun s=>(evE G y r).bind fun t=>binT o s t:=by funext r;rw [evE]
  rw [e];exact zx1 (zvt h0) (S.v gd h1) (S.v gd h2)
 | UnaryOp op a pos =>
  cases op with
  | Not =>
   obtain ⟨x,h1,h⟩:=obs h
   cases h
   have e:evE G (.lnot x)=fun r=>(evE G x r).bind fun t=>match t with | .bl b=>some (.bl (!b)) | _=>none:=by funext r;rw [evE];try rfl
   rw [e];exact zv1 (S.v gd h1)
  | USub =>
   obtain ⟨x,h1,h⟩:=obs h
   cases h
   have e:evE G (.neg x)=fun r=>(evE G x r).bind fun t=>match t with | .int b=>some (.int (-b)) | _=>none:=by funext r;rw [evE];try rfl
   rw [e];exact zv2 (S.v gd h1)
  | _=>(cases h;done)
 | BoolOp op vs pos =>
  cases vs with
  | nil=>cases op<;>(cases h;done)
  | cons a r =>
   cases r with
   | nil=>exact zvj (S.v gd h)
   | cons b r =>
    cases op with
    | And =>
     obtain ⟨x,h1,h⟩:=obs h
     obtain ⟨y,h2,h⟩:=obs h
     cases h
     have e:evE G (.land x y)=fun r=>(evE G x r).bind fun t=>match t with | .bl true=>evE G y r | .bl false=>some (.bl false) | _=>none:=by funext r;rw [evE];try rfl
     rw [e];exact zwa (S.v gd h1) (S.v gd h2)
    | Or =>
     obtain ⟨x,h1,h⟩:=obs h
     obtain ⟨y,h2,h⟩:=obs h
     cases h
     have e:evE G (.lor x y)=fun r=>(evE G x r).bind fun t=>match t with | .bl true=>some (.bl true) | .bl false=>evE G y r | _=>none:=by funext r;rw [evE];try rfl
     rw [e];exact zx0 (S.v gd h1) (S.v gd h2)
 | Compare a ops bs pos =>
  match ops,bs,h with
  | [op],[b],h =>
   obtain ⟨o,h0,h⟩:=obs h
   obtain ⟨x,h1,h⟩:=obs h
   obtain ⟨y,h2,h⟩:=obs h
   cases h
   obtain ⟨q1,q2⟩:=zq2 (X:=X) gd.hu h0
   have e:evE G (.cmp o x y)=fun r=>(evE G x r).bind fun s=>(evE G y r).bind fun t=>cmpT o s t:=by funext r;rw [evE]
   rw [e];exact zv8 q1 (S.v gd h1) (S.v gd h2) q2
  | [op,op'],[b,d],h =>
   obtain ⟨o,h0,h⟩:=obs h
   obtain ⟨o',h0',h⟩:=obs h
   obtain ⟨x,h1,h⟩:=obs h
   obtain ⟨y,h2,h⟩:=obs h
   obtain ⟨z,h3,h⟩:=obs h
   cases h
   have hm:lastMarks [op,op'] [b,d]=false:=by
    show behindInMarks op' d=false
    cases op'<;>first | exact nomark _ | cases h0'
   have e:evE G (.chn o o' x y z)=fun r=>(evE G x r).bind fun s=>(evE G y r).bind fun t=>(cmpT o s t).bind fun k=>match k with | .bl true=>(evE G z r).bind fun u=>cmpT o' t u | .bl false=>some (.bl false) | _=>none:=by funext r;rw [evE];try rfl
   rw [e];exact zv9 (zi1 gd.hu h0) (zi1 gd.hu h0') (S.v gd h1) (S.v gd h2) (S.v gd h3) hm
  | [],_,h=>(cases h;done)
  | [_],[],h=>(cases h;done)
  | [_],_::_::_,h=>(cases h;done)
  | [_,_],[],h=>(cases h;done)
  | [_,_],[_],h=>(cases h;done)
  | [_,_],_::_::_::_,h=>(cases h;done)
  | _::_::_::_,_,h=>(cases h;done)
 | Tuple es q pos =>
  obtain ⟨xs,h1,h⟩:=obs h
  cases h
  have e:evE G (.tup xs)=fun r=>if xs.length<=1000 then (evEs G xs r).map .tup else none:=by funext r;rw [evE]
  rw [e];exact zvz (S.l gd h1) fun r ts q=>zdz q
 | List es pos =>
  obtain ⟨xs,h1,h⟩:=obs h
  cases h
  have e:evE G (.lst xs)=fun r=>if xs.length<=1000 then (evEs G xs r).map .lst else none:=by funext r;rw [evE]
  rw [e];exact zv3 (S.l gd h1) fun r ts q=>zdz q
 | Subscript a b pos =>
  have idx:sliceE b=false->((trV n c a).bind fun x=>(trV n c b).bind fun y=>some (E.idx x y))=some e'->Oke X c (.Subscript a b pos) (evE G e'):=fun hs h=>by
   obtain ⟨x,h1,h⟩:=obs h
   obtain ⟨y,h2,h⟩:=obs h
   cases h
   have e:evE G (.idx x y)=fun r=>(evE G x r).bind fun s=>(evE G y r).bind fun t=>idxT s t:=by funext r;rw [evE]
   rw [e];exact zv5 (by have:=gd.hu;omega) (S.v gd h1) (S.v gd h2) (zpb hs)
  cases b with
  | Slice lo hi st p2 =>
   cases st with
   | some st=>cases h
   | none =>
    obtain ⟨x,h1,h⟩:=obs h
    obtain ⟨l,h2,h⟩:=obs h
    obtain ⟨u,h3,h⟩:=obs h
    cases h
    have e:evE G (.sli x l u)=fun r=>(evE G x r).bind fun s=>(evO G l r).bind fun l1=>(evO G u r).bind fun u1=>(asI l1).bind fun l2=>(asI u1).bind fun u2=>sliT s l2 u2:=by funext r;rw [evE]
    rw [e];exact zv0 (S.v gd h1) (S.o gd h2) (S.o gd h3)
  | Tuple _ _ _=>cases h
  | Starred _ _=>cases h
  | _=>exact idx rfl h
 | Call f args kws pos =>
  cases f with
  | Name f p =>
   match args,kws,h with
   | [],kws,h=>(cases h;done)
   | [a],[],h =>
    replace h:(if glB c.sc f&&zaf f then (match bnOf f with
  | some k=>(match zg8 k a with
    | some b=>if glB c.sc ("set":Str) then (trV n c b).bind fun x=>some (.blt .sset x) else none
    | none=>(trV n c a).bind fun x=>some (.blt k x))
  | none=>if bnames.contains f then none else (trV n c a).bind fun x=>some (.call f [x])) else none)=some e':=h
    split at h
    ·rename_i hg
     rw [zyd] at hg
     split at h
     ·rename_i kb hk
      split at h
      ·rename_i b hb
       split at h
       ·rename_i hg2
        obtain ⟨x,h1,h⟩:=obs h
        cases h
        obtain ⟨rfl,p3,q3,rfl⟩:=zg7 hb
        have hf:=znw hk
        subst hf
        have e:evE G (.blt .sset x)=fun r=>(evE G x r).bind fun t=>bltT .sset t:=by funext r;rw [evE]
        rw [e];exact zs4 gd hg.1 hg2 (S.v gd h1) (zbv h1 X.env)
       ·cases h
      ·obtain ⟨x,h1,h⟩:=obs h
       cases h
       have e:evE G (.blt kb x)=fun r=>(evE G x r).bind fun t=>bltT kb t:=by funext r;rw [evE]
       rw [e];exact zx2 gd hk hg.1 (S.v gd h1) (zbv h1 X.env)
     ·split at h
      ·cases h
      ·obtain ⟨x,h1,h⟩:=obs h
       cases h
       exact ze6 S gd hg.1 hg.2 (by show (trV n c a).bind _=_;rw [h1];rfl)
    ·cases h
   | [a,b],[],h =>
    replace h:(if f==("isinstance":Str) then
   (match b with
   | .Name ty _=>if glB c.sc f&&glB c.sc ty then (tyOf ty).bind fun k=>(trV n c a).bind fun x=>some (.isi x k) else none
   | _=>none)
  else if glB c.sc f&&zaf f&&!bnames.contains f then (mapO (trV n c) [a,b]).bind fun xs=>some (.call f xs) else none)=some e':=h
    split at h
    ·rename_i hf
     have hf:=eq_of_beq hf
     subst hf
     cases b with
     | Name ty p2 =>
      simp only at h
      split at h
      ·rename_i hg
       rw [zyd] at hg
       obtain ⟨kt,hk,h⟩:=obs h
       obtain ⟨x,h1,h⟩:=obs h
       cases h
       have e:evE G (.isi x kt)=fun r=>(evE G x r).bind fun t=>some (.bl (isiT t kt)):=by funext r;rw [evE]
       rw [e];exact zv4 gd hk hg.1 hg.2 (S.v gd h1) (zbz h1 _ X.env)
      ·cases h
     | _=>cases h
    ·split at h
     ·rename_i hg
      simp only [Bool.and_eq_true] at hg
      obtain ⟨xs,h1,h⟩:=obs h
      cases h
      exact ze6 S gd hg.1.1 hg.1.2 h1
     ·cases h
   | a::b::d::es,[],h =>
    replace h:(if glB c.sc f&&zaf f&&!bnames.contains f then (mapO (trV n c) (a::b::d::es)).bind fun xs=>some (.call f xs) else none)=some e':=h
    split at h
    ·rename_i hg
     simp only [Bool.and_eq_true] at hg
     obtain ⟨xs,h1,h⟩:=obs h
     cases h
     exact ze6 S gd hg.1.1 hg.1.2 h1
    ·cases h
   | _::bs,_::_,h=>rcases bs with _ | ⟨_,_ | ⟨_,_⟩⟩<;>cases h
  | Attribute o m apos =>
   match args,kws,h with
   | [a],[],h =>
    replace h:(if apos.endLine==pos.line then (mtOf m).bind fun k=>(trV n c o).bind fun x=>(trV n c a).bind fun y=>some (.mth k x y) else none)=some e':=h
    split at h
    ·rename_i hl
     obtain ⟨km,hm,h⟩:=obs h
     obtain ⟨x,h1,h⟩:=obs h
     obtain ⟨y,h2,h⟩:=obs h
     cases h
     unfold mtOf at hm
     split at hm
     ·rename_i hj
      have hj:=eq_of_beq hj
      subst hj
      cases hm
      have e:evE G (.mth .index x y)=fun r=>(evE G x r).bind fun s=>(evE G y r).bind fun t=>mthT .index s t:=by funext r;rw [evE]
      rw [e];exact zpk (S.v gd h1) (S.v gd h2) (zua h1 _ _ _) (zbv h2 X.env) hl
     ·cases hm
    ·cases h
   | [],_,h=>(cases h;done)
   | [_],_::_,h=>(cases h;done)
   | [a,b],[],h=>(cases h;done)
   | [_,_],_::_,h=>cases h
   | _::_::_::_,_,h=>cases h
  | _=>(cases h;done)
 | ListComp elt gens scope pos=>exact (zio S gd h).1
 | _=>(cases h;done)
end
theorem zb6 (G:Glo) (k:Nat):∀ n,Snd G k n
 | 0=>⟨fun _ h=>(by cases h),fun _ h=>(by cases h),fun _ h=>(by cases h),fun _ h=>(by cases h)⟩
 | n+1 =>
  have S:=zb6 G k n
  ⟨fun gd h=>zuq S gd h,fun gd h=>zxj S gd h,fun gd h ht=>zxk S gd h ht,fun gd h=>zxl S gd h⟩
end Ev
end
end
end
noncomputable section
noncomputable section
noncomputable section
namespace Ev
open PySem PySem.Spec PyProof.Rows L2
variable {K:PySem.W.Frag} {s:Sl} {o:HO} {i:Nat}
def Sl.isOwn:Sl->Bool
 | .own _=>true
 | .dk _=>true
 | .dt _=>true
 | _=>false
def Own (K:PySem.W.Frag) (F:Hp):Sl->HO->Prop
 | .own ts,o=>∃ vs,o=.lst vs/\Reps K F ts vs
 | .dk kvs,o=>∃ ws:List (Key × V),o=.dK ws/\ws.map (·.1)=kvs.map (·.1)/\Reps K F (kvs.map (·.2)) (ws.map (·.2))
 | .dt kvs,o=>∃ ws:List (List Key × V),o=.dT ws/\ws.map (·.1)=kvs.map (·.1)/\Reps K F (kvs.map (·.2)) (ws.map (·.2))
 | _,_=>False
theorem Own.mono {K:PySem.W.Frag} {F F':Hp} {s:Sl} {o:HO} (e:Same F F') (h:Own K F s o):Own K F' s o:=by
 cases s with
 | own ts=>obtain ⟨vs,h1,h2⟩:=h;exact ⟨vs,h1,h2.mono e⟩
 | dk kvs=>obtain ⟨ws,h1,h2,h3⟩:=h;exact ⟨ws,h1,h2,h3.mono e⟩
 | dt kvs=>obtain ⟨ws,h1,h2,h3⟩:=h;exact ⟨ws,h1,h2,h3.mono e⟩
 | _=>exact h
theorem Own.noTup {F:Hp} {xs:List V} (h:Own K F s o):o≠.tup xs:=by
 cases s with
 | own ts=>obtain ⟨vs,rfl,_⟩:=h;exact fun z=>nomatch z
 | dk kvs=>obtain ⟨ws,rfl,_⟩:=h;exact fun z=>nomatch z
 | dt kvs=>obtain ⟨ws,rfl,_⟩:=h;exact fun z=>nomatch z
 | _=>exact h.elim
theorem Own.noTbl {F:Hp} (h:Own K F s o):isTbl o=false:=by
 cases s with
 | own ts=>obtain ⟨vs,rfl,_⟩:=h;rfl
 | dk kvs=>obtain ⟨ws,rfl,_⟩:=h;rfl
 | dt kvs=>obtain ⟨ws,rfl,_⟩:=h;rfl
 | _=>exact h.elim
theorem Own.noFrz {F:Hp} (h:Own K F s o):∀ p u,o≠.frz p u:=by
 cases s with
 | own ts=>obtain ⟨vs,rfl,_⟩:=h;exact fun _ _ z=>nomatch z
 | dk kvs=>obtain ⟨ws,rfl,_⟩:=h;exact fun _ _ z=>nomatch z
 | dt kvs=>obtain ⟨ws,rfl,_⟩:=h;exact fun _ _ z=>nomatch z
 | _=>exact h.elim
theorem Own.frz {K:PySem.W.Frag} {F:Hp} {s:Sl} {o:HO} {a:Addr} (h:Own K F s o) (ha:F a=some o):∃ t,s.frz=.val t/\Rep K F t (.ref a):=by
 cases s with
 | own ts=>obtain ⟨vs,rfl,h2⟩:=h;exact ⟨_,rfl,a,vs,rfl,Ls.of ha,h2⟩
 | dk kvs=>obtain ⟨ws,rfl,h2,h3⟩:=h;exact ⟨_,rfl,a,ws,rfl,ha,h2,h3⟩
 | dt kvs=>obtain ⟨ws,rfl,h2,h3⟩:=h;exact ⟨_,rfl,a,ws,rfl,ha,h2,h3⟩
 | _=>exact h.elim
structure EnvS (X:Cx) (F0 H0:Hp) (τ:List Sl) (σ:L2.St) (F H:Hp):Prop where
 st:Step F0 H0 F H
 t0:Tbk X.K F0 H0
 len:τ.length=σ.length
 val:∀ (i:Nat) (t:T),τ[i]?=some (.val t)->∃ v,σ[i]?=some (some v)/\Rep X.K F t v
 ownG:∀ (i:Nat) (s:Sl),τ[i]?=some s->s.isOwn=true->∃ a o,σ[i]?=some (some (.ref a))/\H a=some o/\F a=none/\H0 a=none/\Own X.K F s o
 disG:∀ (i j:Nat) (s u:Sl) (a:Addr),i≠j->τ[i]?=some s->τ[j]?=some u->s.isOwn=true->u.isOwn=true->σ[i]?=some (some (.ref a))->σ[j]?≠some (some (.ref a))
section
variable {X:Cx} {c:Tc} {F0 H0:Hp} {τ:List Sl} {σ:L2.St} {F H F' H':Hp}
theorem EnvS.own (e:EnvS X F0 H0 τ σ F H) (i:Nat) (ts:List T) (h:τ[i]?=some (.own ts)):∃ a vs,σ[i]?=some (some (.ref a))/\H a=some (.lst vs)/\F a=none/\H0 a=none/\Reps X.K F ts vs:=by
 obtain ⟨a,o,h1,h2,h3,h4,vs,rfl,h5⟩:=e.ownG i _ h rfl
 exact ⟨a,vs,h1,h2,h3,h4,h5⟩
theorem EnvS.env (e:EnvS X F0 H0 τ σ F H) (hN:X.N=c.nm):EnvE X c (view τ) F σ H :=
 ⟨e.st.fh,e.t0.up e.st,fun x i t _ hi _ hr=>by
  unfold view at hr
  rw [zzc] at hr
  obtain ⟨s,hs,hg⟩:=oms hr
  cases s with
  | val u =>
   cases hg
   obtain ⟨v,h1,h2⟩:=e.val i t hs
   exact ⟨i,v,by rw [hN];exact zbe hi,h1,h2⟩
  | _=>cases hg⟩
theorem EnvS.step (e:EnvS X F0 H0 τ σ F H) (s:Step F H F' H'):EnvS X F0 H0 τ σ F' H':=by
 refine ⟨e.st.trans s,e.t0,e.len,fun i t h=>let ⟨v,h1,h2⟩:=e.val i t h;⟨v,h1,h2.mono s.ff⟩,fun i sl h ho=>?_,e.disG⟩
 obtain ⟨a,o,h1,h2,h3,h4,h5⟩:=e.ownG i sl h ho
 refine ⟨a,o,h1,s.hh.st a _ h2 h5.noTbl,?_,h4,h5.mono s.ff⟩
 cases q:F' a with
 | none=>rfl
 | some o' =>
  rcases s.nw a (by rw [q];simp) with z | z | ⟨xs,z⟩
  ·exact absurd h3 z
  ·rw [h2] at z;cases z
  ·rw [h2] at z;exact absurd (zy5 z) h5.noTup
theorem zm5 (τ:List Sl) (i j:Nat):(τ.modify i Sl.frz)[j]?=if i=j then (τ[j]?).map Sl.frz else τ[j]?:=by
 rw [List.getElem?_modify]
 by_cases h:i=j
 ·simp only [h,if_true]
  cases τ[j]?<;>rfl
 ·simp only [h,if_false]
  cases τ[j]?<;>rfl
theorem EnvS.frz1 (e:EnvS X F0 H0 τ σ F H) (i:Nat):∃ F',EnvS X F0 H0 (τ.modify i Sl.frz) σ F' H/\Same F F':=by
 by_cases ho:∃ s,τ[i]?=some s/\s.isOwn=true
 ·obtain ⟨sl,ho,hw⟩:=ho
  obtain ⟨a,ob,h1,h2,h3,h4,h5⟩:=e.ownG i sl ho hw
  have hs:Same F (upd F a ob):=za8 h3
  obtain ⟨t0,ef,r0⟩:=(h5.mono hs).frz (a:=a) zae
  have get:∀ (j:Nat) (s:Sl),(τ.modify i Sl.frz)[j]?=some s->(j=i/\s=.val t0)\/(j≠i/\τ[j]?=some s):=fun j s h=>by
   rw [zm5] at h
   by_cases hj:i=j
   ·subst hj
    rw [if_pos rfl,ho] at h
    rw [<- ef]
    exact .inl ⟨rfl,(zy5 h).symm⟩
   ·rw [if_neg hj] at h
    exact .inr ⟨Ne.symm hj,h⟩
  refine ⟨upd F a ob,⟨⟨e.st.hh,e.st.ff.trans hs,fun b o q=>?_,fun b z=>?_⟩,e.t0,by rw [List.length_modify];exact e.len,fun j t h=>?_,fun j u h hu=>?_,fun j l u w b hjl hj hl hu hw'=>?_⟩,hs⟩
  ·by_cases hb:b=a
   ·subst hb;rw [zae] at q;cases q;exact h2
   ·rw [zad hb] at q;exact e.st.fh b o q
  ·by_cases hb:b=a
   ·subst hb;exact .inr (.inl h4)
   ·rw [zad hb] at z;exact e.st.nw b z
  ·rcases get j _ h with ⟨rfl,q⟩ | ⟨_,q⟩
   ·cases q
    exact ⟨.ref a,h1,r0⟩
   ·obtain ⟨v,q1,q2⟩:=e.val j t q
    exact ⟨v,q1,q2.mono hs⟩
  ·rcases get j _ h with ⟨rfl,q⟩ | ⟨hj,q⟩
   ·subst q;cases hu
   ·obtain ⟨b,o,q1,q2,q3,q4,q5⟩:=e.ownG j u q hu
    have hne:b≠a:=fun z=>by subst z;exact e.disG i j sl u b (Ne.symm hj) ho q hw hu h1 q1
    exact ⟨b,o,q1,q2,by rw [zad hne];exact q3,q4,q5.mono hs⟩
  ·rcases get j _ hj with ⟨_,q⟩ | ⟨_,q⟩
   ·subst q;cases hu
   ·rcases get l _ hl with ⟨_,q'⟩ | ⟨_,q'⟩
    ·subst q';cases hw'
    ·exact e.disG j l u w b hjl q q' hu hw'
 ·refine ⟨F,?_,Same.refl F⟩
  have:τ.modify i Sl.frz=τ:=by
   apply List.ext_getElem?
   intro j
   rw [zm5]
   by_cases hj:i=j
   ·subst hj
    rw [if_pos rfl]
    cases q:τ[i]? with
    | none=>rfl
    | some s =>
     cases s with
     | own ts=>exact absurd ⟨_,q,rfl⟩ ho
     | dk ts=>exact absurd ⟨_,q,rfl⟩ ho
     | dt ts=>exact absurd ⟨_,q,rfl⟩ ho
     | _=>rfl
   ·rw [if_neg hj]
  rw [this]
  exact e
theorem EnvS.frz:∀ (is:List Nat) {τ:List Sl} {F:Hp},EnvS X F0 H0 τ σ F H->∃ F',EnvS X F0 H0 (frzAt is τ) σ F' H/\Same F F'
 | [],_,F,e=>⟨F,e,Same.refl F⟩
 | i::is,τ,F,e=>by
  obtain ⟨F1,e1,s1⟩:=e.frz1 i
  obtain ⟨F2,e2,s2⟩:=EnvS.frz is e1
  exact ⟨F2,e2,s1.trans s2⟩
theorem get_set {α:Type} {l:List α} {j:Nat} {x y:α} (h:(l.set i x)[j]?=some y):(j=i/\y=x)\/(j≠i/\l[j]?=some y):=by
 rw [List.getElem?_set] at h
 split at h
 ·rename_i hj
  split at h
  ·cases h;exact .inl ⟨hj.symm,rfl⟩
  ·cases h
 ·rename_i hj
  exact .inr ⟨Ne.symm hj,h⟩
theorem EnvS.setV1 (e:EnvS X F0 H0 τ σ F H) (i:Nat) {t:T} {v:V} (r:Rep X.K F t v):EnvS X F0 H0 (τ.set i (.val t)) (σ.set i (some v)) F H:=by
 refine ⟨e.st,e.t0,by rw [List.length_set,List.length_set];exact e.len,fun j u h=>?_,fun j u h hu=>?_,fun j l u w b hjl hj hl hu hw=>?_⟩
 ·rcases get_set h with ⟨rfl,q⟩ | ⟨hj,q⟩
  ·cases q
   refine ⟨v,?_,r⟩
   have hlt:j<(τ.set j (.val t)).length:=(ome h).1
   rw [List.length_set,e.len] at hlt
   rw [List.getElem?_set_self hlt]
  ·obtain ⟨w,q1,q2⟩:=e.val j u q
   exact ⟨w,by rw [zzi (Ne.symm hj)];exact q1,q2⟩
 ·rcases get_set h with ⟨rfl,q⟩ | ⟨hj,q⟩
  ·subst q;cases hu
  ·obtain ⟨a,o,q1,q2⟩:=e.ownG j u q hu
   exact ⟨a,o,by rw [zzi (Ne.symm hj)];exact q1,q2⟩
 ·rcases get_set hj with ⟨_,q⟩ | ⟨hji,q⟩
  ·subst q;cases hu
  ·rcases get_set hl with ⟨_,q'⟩ | ⟨hli,q'⟩
   ·subst q';cases hw
   ·rw [zzi (Ne.symm hji),zzi (Ne.symm hli)]
    exact e.disG j l u w b hjl q q' hu hw
theorem EnvS.setG (e:EnvS X F0 H0 τ σ F H) (i:Nat) {p:Addr} (hp:H p=none) (r:Own X.K F s o):EnvS X F0 H0 (τ.set i s) (σ.set i (some (.ref p))) F (upd H p o):=by
 have hs:Same H (upd H p o):=za8 hp
 have nop:∀ {j:Nat} {u:Sl} {a:Addr},τ[j]?=some u->u.isOwn=true->σ[j]?=some (some (.ref a))->a≠p:=fun {j u a} q hu q1=>by
  obtain ⟨a',o',g1,g2,_⟩:=e.ownG j u q hu
  rw [q1] at g1;cases g1
  exact zac g2 hp
 refine ⟨e.st.newH hp,e.t0,by rw [List.length_set,List.length_set];exact e.len,fun j u h=>?_,fun j u h hu=>?_,fun j l u w b hjl hj hl hu hw=>?_⟩
 ·rcases get_set h with ⟨_,q⟩ | ⟨hj,q⟩
  ·subst q;exact r.elim
  ·obtain ⟨w,q1,q2⟩:=e.val j u q
   exact ⟨w,by rw [zzi (Ne.symm hj)];exact q1,q2⟩
 ·rcases get_set h with ⟨rfl,q⟩ | ⟨hj,q⟩
  ·subst q
   have hlt:j<(τ.set j u).length:=(ome h).1
   rw [List.length_set,e.len] at hlt
   exact ⟨p,o,by rw [List.getElem?_set_self hlt],zae,e.st.fh.free hp,e.st.hh.free hp,r⟩
  ·obtain ⟨a,o',q1,q2,q3⟩:=e.ownG j u q hu
   exact ⟨a,o',by rw [zzi (Ne.symm hj)];exact q1,hs a _ q2,q3⟩
 ·intro hb hb'
  rcases get_set hj with ⟨rfl,q⟩ | ⟨hji,q⟩
  ·rcases get_set hl with ⟨rfl,q'⟩ | ⟨hli,q'⟩
   ·exact hjl rfl
   ·rw [zzi (Ne.symm hli)] at hb'
    have hlt:j<σ.length:=by have:=(ome hj).1;rw [List.length_set,e.len] at this;exact this
    rw [List.getElem?_set_self hlt] at hb
    cases hb
    exact nop q' hw hb' rfl
  ·rw [zzi (Ne.symm hji)] at hb
   rcases get_set hl with ⟨rfl,q'⟩ | ⟨hli,q'⟩
   ·have hlt:l<σ.length:=by have:=(ome hl).1;rw [List.length_set,e.len] at this;exact this
    rw [List.getElem?_set_self hlt] at hb'
    cases hb'
    exact nop q hu hb rfl
   ·rw [zzi (Ne.symm hli)] at hb'
    exact e.disG j l u w b hjl q q' hu hw hb hb'
theorem EnvS.setO (e:EnvS X F0 H0 τ σ F H) (i:Nat) {ts:List T} {p:Addr} {vs:List V} (hp:H p=none) (r:Reps X.K F ts vs):EnvS X F0 H0 (τ.set i (.own ts)) (σ.set i (some (.ref p))) F (upd H p (.lst vs)):=e.setG i hp ⟨vs,rfl,r⟩
theorem EnvS.growG (e:EnvS X F0 H0 τ σ F H) {s':Sl} {a:Addr} (ho:τ[i]?=some s) (hs:s.isOwn=true) (ha:σ[i]?=some (some (.ref a))) (h3:F a=none) (h4:H0 a=none) (r:Own X.K F s' o):EnvS X F0 H0 (τ.set i s') σ F (upd H a o):=by
 refine ⟨⟨(by obtain ⟨a2,o2,g1,g2,_,_,g5⟩:=e.ownG i s ho hs;rw [ha] at g1;cases g1;exact e.st.hh.upd h4 g2 g5.noTbl g5.noFrz),e.st.ff,fun b u q=>by rw [zad (zac q h3)];exact e.st.fh b u q,e.st.nw⟩,e.t0,by rw [List.length_set];exact e.len,fun j u h=>?_,fun j w h hw=>?_,fun j l w z b hjl hj hl hw hz=>?_⟩
 ·rcases get_set h with ⟨_,q⟩ | ⟨hj,q⟩
  ·subst q;exact r.elim
  ·exact e.val j u q
 ·rcases get_set h with ⟨rfl,q⟩ | ⟨hj,q⟩
  ·subst q
   exact ⟨a,o,ha,zae,h3,h4,r⟩
  ·obtain ⟨b,z,q1,q2,q3,q4,q5⟩:=e.ownG j w q hw
   have hne:b≠a:=fun z=>by subst z;exact e.disG i j s w b (Ne.symm hj) ho q hs hw ha q1
   exact ⟨b,z,q1,by rw [zad hne];exact q2,q3,q4,q5⟩
 ·rcases get_set hj with ⟨rfl,q⟩ | ⟨hji,q⟩
  ·rcases get_set hl with ⟨rfl,q'⟩ | ⟨hli,q'⟩
   ·exact absurd rfl hjl
   ·exact e.disG j l s z b hjl ho q' hs hz
  ·rcases get_set hl with ⟨rfl,q'⟩ | ⟨hli,q'⟩
   ·exact e.disG j l w s b hjl q ho hw hs
   ·exact e.disG j l w z b hjl q q' hw hz
theorem EnvS.grow (e:EnvS X F0 H0 τ σ F H) {ts us:List T} {a:Addr} {vs:List V} (ho:τ[i]?=some (.own ts)) (ha:σ[i]?=some (some (.ref a))) (h3:F a=none) (h4:H0 a=none) (r:Reps X.K F us vs):EnvS X F0 H0 (τ.set i (.own us)) σ F (upd H a (.lst vs)):=e.growG ho rfl ha h3 h4 ⟨vs,rfl,r⟩
theorem EnvS.setAll (hN:X.N=c.nm):∀ {is:List Nat} {us:List T} {vs:List V} {τ τ':List Sl} {σ:L2.St},EnvS X F0 H0 τ σ F H->Reps X.K F us vs->setAll is us τ=some τ'->EnvS X F0 H0 τ' (setV is vs σ) F H/\vs.length=is.length
 | [],[],_,τ,τ',σ,e,r,h=>by cases r;cases h;exact ⟨e,rfl⟩
 | [],_::_,_,_,_,_,_,_,h=>by cases h
 | _::_,[],_,_,_,_,_,_,h=>by cases h
 | i::is,u::us,vs,τ,τ',σ,e,r,h=>by
  obtain ⟨v,ws,rfl,r1,r2⟩:=r
  obtain ⟨q1,q2⟩:=EnvS.setAll hN (is:=is) (e.setV1 i r1) r2 h
  exact ⟨q1,by simp [q2]⟩
end
def wantO (X:Cx) (F0 H0 F:Hp) (D:Ends):Out->Prop
 | .nx τ'=>∀ σ' F' H',EnvS X F0 H0 τ' σ' F' H'->Same F F'->D.nx σ' H'
 | .rt t=>∀ v F' H',Step F0 H0 F' H'->Rep X.K F' t v->D.rt v H'
def spS (X:Cx) (F0 H0:Hp) (f:List Sl->Option Out):TS:=fun D σ H=>∃ τ F o,EnvS X F0 H0 τ σ F H/\f τ=some o/\wantO X F0 H0 F D o
theorem wantO.up {X:Cx} {F0 H0 F F':Hp} {D:Ends} {o:Out} (s:Same F F') (h:wantO X F0 H0 F D o):wantO X F0 H0 F' D o:=by
 cases o with
 | nx τ=>exact fun σ' G' H' e s'=>h σ' G' H' e (s.trans s')
 | rt t=>exact h
end Ev
end
end
end
noncomputable section
noncomputable section
noncomputable section
namespace Ev
open PySem PySem.Spec PyProof.Rows L2
structure Fx (X:Cx) (c:Tc):Prop where
 hN:X.N=c.nm
 loc:∀ x,(c.sc.names.lookup x=some .local\/c.sc.names.lookup x=some .cell)->Loc X.env.scope x
 fn:∀ x,X.fn x=true
 xe:X.xe=fun _ _=>False
section
variable {X:Cx} {c:Tc} {G:Glo} {k n:Nat} {F0 H0:Hp}
theorem Fx.at (fx:Fx X c) {x:Str} {i:Nat} (hl:c.sc.names.lookup x=some .local\/c.sc.names.lookup x=some .cell) (hi:nameIx c.nm x=some i):At X x i:=⟨by rw [fx.hN];exact zbe hi,fx.loc x hl,.inl (fx.fn x)⟩
theorem Fx.ats (fx:Fx X c):∀ {xs:List Str} {is:List Nat},(xs.all fun x=>zaf x&&(c.sc.names.lookup x==some .local||c.sc.names.lookup x==some .cell))=true->mapO (nameIx c.nm) xs=some is->Ats X xs is
 | [],_,_,h=>by cases h;exact .nil
 | x::xs,is,hl,h=>by
  rw [List.all_cons,zyd] at hl
  obtain ⟨i,h1,h⟩:=obs h
  obtain ⟨js,h2,h⟩:=obs h
  cases h
  have q:=hl.1
  simp only [Bool.and_eq_true,Bool.or_eq_true,beq_iff_eq] at q
  exact .cons (fx.at q.2 h1) (fx.ats hl.2 h2)
theorem ze5 {e:Expr} {e':E} (h:trV n c e=some e') (hl:∀ a b s p,e≠.ListComp a b s p) (t:Option Expr) (l:Nat) (env:PySem.Env):swapsWith e t l env=pure false:=by
 cases n with
 | zero=>cases h
 | succ n =>
  cases e with
  | ListComp a b s p=>exact absurd rfl (hl a b s p)
  | SetComp _ _ _ _=>cases h
  | DictComp _ _ _ _ _=>cases h
  | _=>rfl
theorem zs8 {a b:Expr} {pos:Pos} {f g:Env->Option T} (ha:Oke X c a f) (hb:Oke X c b g):PE X (.BinOp a .Add b pos) (spN X c (fun r=>(f r).bind fun x=>(g r).bind fun y=>addT x y)):=by
 refine zav (zvi op_cat' ha hb) fun σ H Q q=>?_
 obtain ⟨r,F,ts,e,ht,q⟩:=q
 obtain ⟨t1,e1,ht⟩:=obs ht
 obtain ⟨t2,e2,ht⟩:=obs ht
 refine ⟨r,F,t1,e,e1,fun v1 F1 H1 s1 r1=>⟨r,F1,t2,e.step s1,e2,fun v2 F2 H2 s2 r2=>?_⟩⟩
 have key:∃ us ws,t1=.lst us/\t2=.lst ws/\us.length+ws.length<=SZ/\ts=us++ws:=by
  cases t1 with
  | lst us =>
   cases t2 with
   | lst ws =>
    simp only [addT] at ht
    split at ht
    ·rename_i hz
     cases ht
     exact ⟨_,_,rfl,rfl,hz,rfl⟩
    ·cases ht
   | _=>simp [addT] at ht
  | _=>cases t2<;>simp only [addT] at ht<;>(try split at ht)<;>cases ht
 obtain ⟨us,ws,rfl,rfl,hz,rfl⟩:=key
 obtain ⟨l,vs,rfl,g1,g2⟩:=r1
 obtain ⟨l',vs',rfl,g3,g4⟩:=r2
 refine ⟨l,l',vs,vs',rfl,rfl,Ls.same (s2.ff.trans s2.fh) g1,Ls.same s2.fh g3,by rw [g2.length,g4.length,<- ze4];exact hz,fun p hp=>?_⟩
 exact q p _ F2 H2 (s1.trans s2) hp ((g2.mono s2.ff).app g4)
theorem zds {y:E} {t:T} (h:fresh y=false\/∀ ts,t≠.lst ts):slotOf y t=.val t:=by
 unfold slotOf
 rcases h with h | h
 ·rw [h]
 ·cases fresh y with
  | false=>rfl
  | true=>cases t with
   | lst ts=>exact absurd rfl (h ts)
   | _=>rfl
theorem zov {y:E} {ts:List T} (h:fresh y=true):slotOf y (.lst ts)=.own ts:=by unfold slotOf;rw [h]
theorem zr2 (gd:Gd X c G k) (fx:Fx X c) {x:Str} {e:Expr} {y:E} {py pos:Pos} {i:Nat} (hl:c.sc.names.lookup x=some .local\/c.sc.names.lookup x=some .cell) (hi:nameIx c.nm x=some i) (h:trV (n+1) c e=some y) (hfl:fresh y=true->litE e=true) :
  PS X (.Assign [.Name x py] e pos) (spS X F0 H0 (evS G (.asg i y))):=by
 have S:=zb6 G k n
 have at_:=fx.at hl hi
 intro pins s σ H D I q
 obtain ⟨τ,F,o,en,hf,hw⟩:=q
 rw [evS] at hf
 obtain ⟨F1,e1,s1⟩:=en.frz (vars y)
 obtain ⟨t,ht,hf⟩:=obs hf
 cases hf
 have val:slotOf y t=.val t->spAsg X c i (evE G y) D σ H:=fun hs=>⟨_,F1,t,e1.env fx.hN,ht,fun v F' H' st r=>hw _ F' H' (by rw [hs];exact (e1.step st).setV1 i r) (s1.trans st.ff)⟩
 have valN:slotOf y t=.val t->(∀ a b s p,e≠.ListComp a b s p)->wpAny (model X.prog X.w) X.A (exec (.Assign [.Name x py] e pos) X.env) (SP X pins D) X.xe s:=fun hs hne =>
  zep gd.nd at_.ix at_.loc (zuq S gd h) (ze5 h hne _ _ _) at_.fn pins s σ H D I (by
   obtain ⟨r,F2,t2,a1,a2,a3⟩:=val hs
   exact ⟨r,F2,t2,a1,a2,a3⟩)
 have own:∀ {ts:List T},t=.lst ts->fresh y=true->(∀ a b s p,e≠.ListComp a b s p)->PE X e (spN X c (evE G y))->wpAny (model X.prog X.w) X.A (exec (.Assign [.Name x py] e pos) X.env) (SP X pins D) X.xe s:=fun {ts} et hfr hne hp=>by
  subst et
  refine zep gd.nd at_.ix at_.loc hp (ze5 h hne _ _ _) at_.fn pins s σ H D I ⟨_,F1,ts,e1.env fx.hN,ht,fun p vs F' H1 st hp r=>hw _ F' _ ?_ (s1.trans st.ff)⟩
  rw [zov hfr]
  exact (e1.step st).setO i hp r
 cases e with
 | ListComp a b sc p =>
  have hy:fresh y=false:=by
   obtain ⟨tg,iter,ifs,rfl,xs,ki,h0,h1,hcs,hr⟩:=zjo h
   match ifs,hr with
   | [],hr =>
    obtain ⟨z,h2,hr⟩:=obs hr
    cases hr;rfl
   | [t],hr =>
    obtain ⟨z,h2,hr⟩:=obs hr
    obtain ⟨w,h3,hr⟩:=obs hr
    cases hr;rfl
   | _::_::_,hr=>cases hr
  exact (zio S gd h).2 at_ pins s σ H D I (val (zds (.inl hy)))
 | List es p =>
  have h':=h
  obtain ⟨zs,h1,h'⟩:=obs h'
  cases h'
  have ee:evE G (.lst zs)=fun r=>if zs.length<=1000 then (evEs G zs r).map .lst else none:=by funext r;rw [evE]
  have hlst:∃ ts,t=.lst ts:=by
   rw [ee] at ht
   dsimp only at ht
   split at ht
   ·obtain ⟨ts,_,rfl⟩:=oms ht
    exact ⟨ts,rfl⟩
   ·cases ht
  obtain ⟨ts,rfl⟩:=hlst
  exact own rfl rfl (fun _ _ _ _ z=>by cases z) (by rw [ee];exact zmb (S.l gd h1) fun r ts q=>zdz q)
 | BinOp a op b p =>
  have h':=h
  obtain ⟨o,h0,h'⟩:=obs h'
  obtain ⟨x1,h1,h'⟩:=obs h'
  obtain ⟨y1,h2,h'⟩:=obs h'
  cases h'
  by_cases hadd:op=.Add
  ·subst hadd
   cases h0
   by_cases hlst:∃ ts,t=.lst ts
   ·obtain ⟨ts,rfl⟩:=hlst
    have ee:evE G (.bin .add x1 y1)=fun r=>(evE G x1 r).bind fun s=>(evE G y1 r).bind fun t=>addT s t:=by funext r;rw [evE];try rfl
    exact own rfl rfl (fun _ _ _ _ z=>by cases z) (by rw [ee];exact zs8 (S.v gd h1) (S.v gd h2))
   ·exact valN (zds (.inr fun ts z=>hlst ⟨ts,z⟩)) (fun _ _ _ _ z=>by cases z)
  ·refine valN (zds (.inl ?_)) (fun _ _ _ _ z=>by cases z)
   cases op<;>first | exact absurd rfl hadd | (cases h0;done) | (cases h0;rfl)
 | _ =>
  refine valN (zds (.inl ?_)) (fun _ _ _ _ z=>by cases z)
  cases hfr:fresh y with
  | false=>rfl
  | true=>cases hfl hfr
end
end Ev
end
end
end
noncomputable section
noncomputable section
noncomputable section
namespace Ev
open PySem PySem.Spec PyProof.Rows L2
variable {pos:Pos}
section
variable {X:Cx} {c:Tc} {G:Glo} {k n:Nat} {F0 H0:Hp}
theorem zcw {x:Str} (h:zaf x=true):(x==("__debug__":Str))=false/\(x==("__classdict__":Str))=false:=by
 unfold zaf at h
 simp only [Bool.and_eq_true,Bool.not_eq_true'] at h
 exact ⟨h.1.1.1,h.1.1.2⟩
theorem zr3 (gd:Gd X c G k) (fx:Fx X c) {x:Str} {a:Expr} {y:E} {px apos cpos:Pos} {i:Nat} (hv:visB c.sc x=true) (hp:zaf x=true) (hi:nameIx c.nm x=some i) (h:trV n c a=some y) (hl:(apos.endLine==cpos.line)=true) :
  PS X (.Expr (.Call (.Attribute (.Name x px) "append" apos) [a] [] cpos) pos) (spS X F0 H0 (evS G (.app i y))):=by
 have S:=zb6 G k n
 have hN:X.N[i]?=some x:=by rw [fx.hN];exact zbe hi
 have hs:=zbv h X.env
 refine zd7 (zsm (zvp F.plainAttrs_list F.slot_list_append F.type_list_append zgf (zdi hN (gd.vis x hv) (zcw hp).1 (zcw hp).2) (zcc (S.v gd h) hs) rfl (by rw [hs];rfl) hl hs rfl) rfl) fun D σ H q=>?_
 obtain ⟨τ,F,o,en,hf,hw⟩:=q
 rw [evS] at hf
 obtain ⟨F1,e1,s1⟩:=en.frz (vars y)
 obtain ⟨t,ht,hf⟩:=obs hf
 split at hf
 ·rename_i ts ho
  split at hf
  ·rename_i hz
   cases hf
   obtain ⟨b,vs,q1,q2,q3,q4,q5⟩:=e1.own i ts ho
   refine ⟨.ref b,q1,.inl ⟨rfl,_,SqL.of q2⟩,_,F1,[t],e1.env fx.hN,Option.bind_eq_some_iff.mpr ⟨t,ht,rfl⟩,fun ws F' H' st r=>?_⟩
   obtain ⟨v,r',rfl,r1,r2⟩:=r
   cases r2
   have e2:=e1.step st
   obtain ⟨b',vs',p1,p2,p3,p4,p5⟩:=e2.own i ts ho
   rw [q1] at p1;cases p1
   refine ⟨b,vs',v,rfl,rfl,p2,by rw [p5.length,<- ze4];exact hz,?_⟩
   exact hw σ F' _ (e2.grow ho q1 p3 p4 (p5.app (.cons r1 rfl))) (s1.trans st.ff)
  ·cases hf
 ·cases hf
theorem zrz (gd:Gd X c G k) (fx:Fx X c) {a:Expr} {y:E} (h:trV n c a=some y):PS X (.Return (some a) pos) (spS X F0 H0 (evS G (.ret y))):=by
 have S:=zb6 G k n
 refine zd7 (ziv (S.v gd h)) fun D σ H q=>?_
 obtain ⟨τ,F,o,en,hf,hw⟩:=q
 rw [evS] at hf
 obtain ⟨F1,e1,s1⟩:=en.frz (vars y)
 obtain ⟨t,ht,rfl⟩:=oms hf
 exact ⟨_,F1,t,e1.env fx.hN,ht,fun v F' H' st r=>hw v F' H' (e1.st.trans st) r⟩
theorem zur (gd:Gd X c G k) (fx:Fx X c) {t:Expr} {a b:List Stmt} {z:E} {x y:List S} (h:trT n c t=some z) (ha:PSs X a (spS X F0 H0 (evSs G x))) (hb:PSs X b (spS X F0 H0 (evSs G y))):PS X (.If t a b pos) (spS X F0 H0 (evS G (.ite z x y))):=by
 have S:=zb6 G k n
 refine zd7 (zvc (S.t gd h).1 ha hb) fun D σ H q=>?_
 obtain ⟨τ,F,o,en,hf,hw⟩:=q
 rw [evS] at hf
 obtain ⟨F1,e1,s1⟩:=en.frz (vars z)
 obtain ⟨t,ht,hf⟩:=obs hf
 cases t with
 | bl d =>
  refine ⟨_,F1,d,e1.env fx.hN,ht,fun F' H' st=>?_⟩
  cases d with
  | true=>exact ⟨_,F',o,e1.step st,hf,hw.up (s1.trans st.ff)⟩
  | false=>exact ⟨_,F',o,e1.step st,hf,hw.up (s1.trans st.ff)⟩
 | _=>cases hf
theorem zr1 (gd:Gd X c G k) (fx:Fx X c) {tg iter:Expr} {body:List Stmt} {xs:List Str} {is:List Nat} {ki:Ik × List E} {b:List S} (h1:zby tg=some xs) (h2:mapO (nameIx c.nm) xs=some is) (h3:trI n c iter=some ki)
  (ht:ki.1.pair=true->isTupE tg=true) (h2n:isTupE tg=true->2<=xs.length) (hat:Ats X xs is) (hb:PSs X body (spS X F0 H0 (evSs G b))):PS X (.For tg iter body [] pos) (spS X F0 H0 (evS G (.loop is ki.1 ki.2 b))):=by
 have S:=zb6 G k n
 refine zd7 (zvd (by rw [fx.xe];exact PassesOwn.never) gd.calm (S.i gd h3 ht) (zum gd.nd gd.calm h1 hat) hb (zgq h3 X.env)) fun D σ H q=>?_
 obtain ⟨τ,F,o,en,hf,hw⟩:=q
 rw [evS] at hf
 obtain ⟨F1,e1,s1⟩:=en.frz (varsL ki.2)
 obtain ⟨us,hu,hf⟩:=obs hf
 obtain ⟨its,hi,hf⟩:=obs hf
 refine ⟨_,F1,its,e1.env fx.hN,Option.bind_eq_some_iff.mpr ⟨us,hu,hi⟩,fun J F2 H2 st wk=>?_⟩
 have e2:=e1.step st
 refine ⟨fun i m σ' H'=>i<=its.length/\m=its.length-i/\∃ τ' F',EnvS X F0 H0 τ' σ' F' H'/\Same F2 F'/\loopM (fun x τ=>(bndS is x τ).bind fun τ'=>evSs G b τ') (its.drop i) τ'=some o,⟨its.length,zy9 _,rfl,_,F2,e2,Same.refl F2,hf⟩,?_⟩
 rintro i m σ' H' ⟨hle,rfl,τ',F',e',s',hlo⟩
 have sm:Same F2 H':=s'.trans e'.st.fh
 have wup:wantO X F0 H0 F' D o:=hw.up (s1.trans (st.ff.trans s'))
 by_cases hlt:i<its.length
 ·refine .inr ⟨wk.go i H' hlt sm,?_⟩
  rw [List.drop_eq_getElem_cons hlt,loopM] at hlo
  obtain ⟨o1,ho1,hlo⟩:=obs hlo
  obtain ⟨τ1,hb1,ho1⟩:=obs ho1
  refine ⟨fun σ'' H''=>∃ τ'' F'',EnvS X F0 H0 τ'' σ'' F'' H''/\Same F2 F''/\loopM (fun x τ=>(bndS is x τ).bind fun τ'=>evSs G b τ') (its.drop (i+1)) τ''=some o,fun σ'' H'' hN=>⟨its.length-(i+1),by omega,hlt,rfl,hN⟩,fun x H5 hy=>?_⟩
  obtain ⟨F5,st5,r5⟩:=wk.yld i H' x H5 F' its[i] (by simp [hlt]) s' e'.st.fh hy
  have e5:=e'.step st5
  have fin:∀ σ6,EnvS X F0 H0 τ1 σ6 F5 H5->spS X F0 H0 (evSs G b) { D with nx:=fun σ'' H''=>∃ τ'' F'',EnvS X F0 H0 τ'' σ'' F'' H''/\Same F2 F''/\loopM (fun x τ=>(bndS is x τ).bind fun τ'=>evSs G b τ') (its.drop (i+1)) τ''=some o,ct:=fun σ'' H''=>∃ τ'' F'',EnvS X F0 H0 τ'' σ'' F'' H''/\Same F2 F''/\loopM (fun x τ=>(bndS is x τ).bind fun τ'=>evSs G b τ') (its.drop (i+1)) τ''=some o,bk:=D.nx } σ6 H5:=fun σ6 e6=>by
   refine ⟨τ1,F5,o1,e6,ho1,?_⟩
   cases o1 with
   | nx τ2=>exact fun σ7 F7 H7 e7 s7=>⟨τ2,F7,e7,s'.trans (st5.ff.trans s7),hlo⟩
   | rt t =>
    cases hlo
    exact wup
  have hlen:=zh7 hat
  cases htup:isTupE tg with
  | false =>
   have one:∃ i0,is=[i0]:=by
    cases tg with
    | Name y p =>
     cases h1
     match is,hlen with
     | [i0],_=>exact ⟨i0,rfl⟩
    | Tuple _ _ _=>cases htup
    | _=>cases h1
   obtain ⟨i0,rfl⟩:=one
   cases hb1
   exact fin _ (e5.setV1 i0 r5)
  | true =>
   have h2n:=h2n htup
   have hb2:∃ ts,its[i]=.tup ts/\setAll is ts τ'=some τ1:=by
    match is,hlen,hb1 with
    | [],hl,_=>rw [hl] at h2n;simp at h2n
    | [_],hl,_=>rw [hl] at h2n;simp at h2n
    | i0::i1::ir,_,hb1 =>
     cases hq:its[i] with
     | tup ts=>rw [hq] at hb1;exact ⟨ts,rfl,hb1⟩
     | _=>rw [hq] at hb1;cases hb1
   obtain ⟨ts,et,hb2⟩:=hb2
   rw [et] at r5
   obtain ⟨a,vs,rfl,q1,q2⟩:=r5
   obtain ⟨e6,hl6⟩:=e5.setAll fx.hN q2 hb2
   exact ⟨a,vs,rfl,zam st5.fh q1,hl6,fin _ e6⟩
 ·have e:i=its.length:=by omega
  subst e
  rw [List.drop_length,loopM] at hlo
  cases hlo
  exact .inl ⟨wk.stop H' sm,wup σ' F' H' e' (Same.refl F')⟩
end
end Ev
end
end
end
noncomputable section
noncomputable section
noncomputable section
namespace Ev
open PySem PySem.Spec PyProof.Rows L2
variable {i:Nat} {x:Str} {pos:Pos}
abbrev PRep {κ:Type} (K:PySem.W.Frag) (F:Hp):List (κ × T)->List (κ × V)->Prop:=Paired fun p q=>q.1=p.1/\Rep K F p.2 q.2
section
variable {κ:Type} [DecidableEq κ] {K:PySem.W.Frag} {F:Hp}
theorem PRep.of:∀ {kvs:List (κ × T)} {ws:List (κ × V)},ws.map (·.1)=kvs.map (·.1)->Reps K F (kvs.map (·.2)) (ws.map (·.2))->PRep K F kvs ws
 | [],[],_,_=>.nil
 | [],_::_,h,_=>by simp at h
 | _::_,[],h,_=>by simp at h
 | p::kvs,q::ws,h,r=>by
  rw [zyh,zyh] at h
  injection h with h1 h2
  obtain ⟨v,vr,e,r1,r2⟩:=r
  rw [zyh] at e
  injection e with e1 e2
  exact .cons ⟨h1,by rw [e1];exact r1⟩ (PRep.of h2 (by rw [e2];exact r2))
theorem PRep.keys {kvs:List (κ × T)} {ws:List (κ × V)} (r:PRep K F kvs ws):ws.map (·.1)=kvs.map (·.1):=by
 induction r with
 | nil=>rfl
 | cons h t ih=>rw [zyh,zyh,ih,h.1]
theorem PRep.vals {kvs:List (κ × T)} {ws:List (κ × V)} (r:PRep K F kvs ws):Reps K F (kvs.map (·.2)) (ws.map (·.2)):=by
 induction r with
 | nil=>rfl
 | cons h t ih=>exact ⟨_,_,rfl,h.2,ih⟩
theorem PRep.any {kvs:List (κ × T)} {ws:List (κ × V)} (r:PRep K F kvs ws) (k:κ):(ws.any fun kv=>decide (kv.1=k))=kvs.any fun kv=>decide (kv.1=k):=by
 induction r with
 | nil=>rfl
 | cons h t ih=>rw [List.any_cons,List.any_cons,ih,h.1]
theorem PRep.put {kvs:List (κ × T)} {ws:List (κ × V)} (r:PRep K F kvs ws) (k:κ) {y:T} {v:V} (ry:Rep K F y v):PRep K F (putP kvs k y) (putK ws k v):=by
 unfold putP putK
 rw [r.any k]
 by_cases e:(kvs.any fun kv=>decide (kv.1=k))=true
 ·rw [if_pos e,if_pos e]
  clear e
  induction r with
  | nil=>exact .nil
  | @cons p q ps qs h t ih =>
   rw [zyh,zyh]
   refine .cons ?_ ih
   by_cases e:p.1=k
   ·rw [if_pos e,if_pos (h.1.trans e)];exact ⟨h.1,ry⟩
   ·rw [if_neg e,if_neg (fun z=>e (h.1.symm.trans z))];exact h
 ·rw [if_neg e,if_neg e];exact Paired.snoc r ⟨rfl,ry⟩
theorem PRep.drop {kvs:List (κ × T)} {ws:List (κ × V)} (r:PRep K F kvs ws) (k:κ):PRep K F (dropP kvs k) (dropK ws k):=by
 unfold dropP dropK
 induction r with
 | nil=>exact .nil
 | @cons p q ps qs h t ih =>
  rw [List.filter_cons,List.filter_cons,h.1]
  by_cases e:p.1=k
  ·rw [if_neg (by simp [e]),if_neg (by simp [e])];exact ih
  ·rw [if_pos (by simp [e]),if_pos (by simp [e])];exact .cons h ih
theorem PRep.val {kvs:List (κ × T)} {ws:List (κ × V)} (r:PRep K F kvs ws) (k:κ):(valP kvs k=none/\valV ws k=none)\/∃ t v,valP kvs k=some t/\valV ws k=some v/\Rep K F t v:=by
 induction r with
 | nil=>exact .inl ⟨rfl,rfl⟩
 | @cons p q ps qs h t ih =>
  rw [valP]
  by_cases e:p.1=k
  ·rw [if_pos e,zcq (h.1.trans e)];exact .inr ⟨_,_,rfl,rfl,h.2⟩
  ·rw [if_neg e,zcr (fun z=>e (h.1.symm.trans z))];exact ih
end
theorem zog {τ:List Sl} {s s':Sl} (h:τ[i]?=some s) (e:s.get=s'.get):view (τ.set i s')=view τ:=by
 unfold view
 rw [List.map_set]
 apply List.ext_getElem?
 intro j
 rw [List.getElem?_set]
 by_cases hj:i=j
 ·subst hj
  rw [if_pos rfl,zyj]
  have hlt:=(ome h).1
  rw [if_pos hlt,zzc,h,<- e];rfl
 ·rw [if_neg hj]
section
variable {X:Cx} {c:Tc} {G:Glo} {k n:Nat} {F0 H0:Hp}
theorem zot (gd:Gd X c G k) (fx:Fx X c) {py dp:Pos} (hl:c.sc.names.lookup x=some .local\/c.sc.names.lookup x=some .cell) (hi:nameIx c.nm x=some i) :
  PS X (.Assign [.Name x py] (.Dict [] [] dp) pos) (spS X F0 H0 (evS G (.dnew i))):=by
 have at_:=fx.at hl hi
 intro pins s σ H D I q
 obtain ⟨τ,F,o,en,hf,hw⟩:=q
 rw [evS] at hf
 cases hf
 exact zep gd.nd at_.ix at_.loc pe_dnewK rfl at_.fn pins s σ H D I fun p hp=>hw _ F _ (en.setG i hp ⟨[],rfl,rfl,rfl⟩) (Same.refl F)
theorem zo8 {ke ve:Expr} {px tp:Pos} {fk:Env->Option T} (gd:Gd X c G k) (fx:Fx X c) (hv:visB c.sc x=true) (hp:zaf x=true) (hi:nameIx c.nm x=some i) (hk:Oke X c ke fk) {tv:TE} (hve:PE X ve tv) (hs:swapsWith ve (some (.Subscript (.Name x px) ke tp)) pos.line X.env=pure false)
  {pins:List (Addr × Obj)} {s:Shared} {σ:L2.St} {H:Hp} {D:Ends} (I:L2.Inv X pins σ H s) {τ:List Sl} {F:Hp} (e1:EnvS X F0 H0 τ σ F H) {kt y:T} {s':Sl} (ht:fk (view τ)=some kt) (hput:putS τ[i]? kt y=some s')
  (hval:∀ (τ':List Sl) (H':Hp) (Q:VK),EnvS X F0 H0 τ' σ F H'->view τ'=view τ->(τ'[i]?=τ[i]?\/∃ q,tkO kt=some q/\τ[i]?=some (.dk [])/\τ'[i]?=some (.dt []))->(∀ v F2 H2,Step F H' F2 H2->Rep X.K F2 y v->Q v H2)->tv σ H' Q)
  (hw:∀ σ' F' H',EnvS X F0 H0 (τ.set i s') σ' F' H'->Same F F'->D.nx σ' H'):wpAny (model X.prog X.w) X.A (exec (.Assign [.Subscript (.Name x px) ke tp] ve pos) X.env) (SP X pins D) X.xe s:=by
 have hu:X.A.units+1<cLine:=by have:=gd.hu;omega
 have hN:X.N[i]?=some x:=by rw [fx.hN];exact zbe hi
 have P:=zsn (pos:=pos) hu (zdi (pos:=px) hN (gd.vis x hv) (zcw hp).1 (zcw hp).2) hk hve hs
 have dtc:∀ (τ1:List Sl) (H1:Hp) (kvs:List (List Kt × T)) (q:List Kt),L2.Inv X pins σ H1 s->EnvS X F0 H0 τ1 σ F H1->view τ1=view τ->τ1[i]?=some (.dt kvs)->(τ1[i]?=τ[i]?\/∃ q,tkO kt=some q/\τ[i]?=some (.dk [])/\τ1[i]?=some (.dt []))->tkO kt=some q->kvs.length<SZ->τ1.set i (.dt (putP kvs q y))=τ.set i s' ->
   wpAny (model X.prog X.w) X.A (exec (.Assign [.Subscript (.Name x px) ke tp] ve pos) X.env) (SP X pins D) X.xe s:=fun τ1 H1 kvs q I1 e2 hvw ho hor hq hz hset=>by
  refine P pins s σ H1 D I1 (hval τ1 H1 _ e2 hvw hor fun v F2 H2 st2 rv=>?_)
  have e3:=e2.step st2
  obtain ⟨b,ob,q1,q2,q3,q4,q5⟩:=e3.ownG i _ ho rfl
  refine ⟨.ref b,q1,_,F2,kt,e3.env fx.hN,by rw [hvw];exact ht,fun u F3 H3 st3 rk=>?_⟩
  have e4:=e3.step st3
  obtain ⟨b',ob',p1,p2,p3,p4,ws,rfl,w1,w2⟩:=e4.ownG i _ ho rfl
  rw [q1] at p1;cases p1
  cases kt with
  | tup xs =>
   obtain ⟨kb,vs,rfl,g1,g2⟩:=rk
   have ek:=zb3 g2 hq
   subst ek
   have rel:=PRep.of w1 w2
   have hl:ws.length=kvs.length:=by have:=congrArg List.length w1;simpa using this
   refine ⟨b,_,rfl,DPut.t p2 (st3.fh _ _ g1) (by rw [hl,<- ze4];exact hz),?_⟩
   have rel2:=rel.put q (rv.mono st3.ff)
   have:=e4.growG (s':=.dt (putP kvs q y)) (o:=.dT (putK ws q v)) ho rfl q1 p3 p4 ⟨_,rfl,rel2.keys,rel2.vals⟩
   rw [hset] at this
   exact hw _ _ _ this (st2.ff.trans st3.ff)
  | _=>cases hq
 cases hsl:τ[i]? with
 | none=>rw [hsl] at hput;cases hput
 | some sl =>
  rw [hsl] at hput
  cases sl with
  | dk kvs =>
   cases hkk:keyO kt with
   | some q =>
    simp only [putS,hkk] at hput
    split at hput
    ·rename_i hz
     cases hput
     refine P pins s σ H D I (hval τ H _ e1 rfl (.inl rfl) fun v F2 H2 st2 rv=>?_)
     have e3:=e1.step st2
     obtain ⟨b,ob,q1,q2,q3,q4,q5⟩:=e3.ownG i _ hsl rfl
     refine ⟨.ref b,q1,_,F2,kt,e3.env fx.hN,ht,fun u F3 H3 st3 rk=>?_⟩
     have e4:=e3.step st3
     obtain ⟨b',ob',p1,p2,p3,p4,ws,rfl,w1,w2⟩:=e4.ownG i _ hsl rfl
     rw [q1] at p1;cases p1
     have ek:=zjc rk hkk
     subst ek
     have rel:=PRep.of w1 w2
     have hl:ws.length=kvs.length:=by have:=congrArg List.length w1;simpa using this
     refine ⟨b,_,rfl,DPut.k p2 (by rw [hl,<- ze4];exact hz),?_⟩
     have rel2:=rel.put q (rv.mono st3.ff)
     exact hw _ _ _ (e4.growG (s':=.dk (putP kvs q y)) (o:=.dK (putK ws q v)) hsl rfl q1 p3 p4 ⟨_,rfl,rel2.keys,rel2.vals⟩) (st2.ff.trans st3.ff)
    ·cases hput
   | none =>
    cases kvs with
    | cons _ _=>simp only [putS,hkk] at hput;cases hput
    | nil =>
     simp only [putS,hkk] at hput
     obtain ⟨q,hq,rfl⟩:=oms hput
     obtain ⟨b,ob,q1,q2,q3,q4,ws,rfl,w1,w2⟩:=e1.ownG i _ hsl rfl
     have hws:ws=[]:=by cases ws with | nil=>rfl | cons _ _=>simp at w1
     subst hws
     have I1:L2.Inv X pins σ (upd H b (.dT [])) s:=by
      obtain ⟨z,hd,vs,rel,ob,es,ep,h1,h2,h3,_,h4,_⟩:=zp3 I.hok q2
      cases rel
      refine zh2 (t':=s.toks) (h':=s.heap) I (by rw [q2];exact True.intro) (Heap.SameBut.refl _ _) ⟨ob,h1⟩ ⟨zy9 _,hd,[],.nil,ob,es,ep,h1,h2,h3,?_,List.nodup_nil⟩
      have:=h4.length
      cases hes:es.toList with
      | nil=>rfl
      | cons _ _=>rw [hes] at this;simp at this
     have e2:=e1.growG (s':=.dt []) (o:=.dT []) hsl rfl q1 q3 q4 ⟨[],rfl,rfl,rfl⟩
     have hlt:=(ome hsl).1
     have hg:(τ.set i (.dt []))[i]?=some (Sl.dt []):=by rw [List.getElem?_set_self hlt]
     exact dtc _ _ [] q I1 e2 (zog hsl rfl) hg (.inr ⟨q,hq,hsl,hg⟩) hq (by decide) (by rw [List.set_set];rfl)
  | dt kvs =>
   simp only [putS] at hput
   obtain ⟨q,hq,hput⟩:=obs hput
   split at hput
   ·rename_i hz
    cases hput
    exact dtc τ H kvs q I e1 rfl hsl (.inl rfl) hq hz rfl
   ·cases hput
  | _=>cases hput
theorem zos (gd:Gd X c G k) (fx:Fx X c) {ke ve:Expr} {y z:E} {px tp:Pos} (hv:visB c.sc x=true) (hp:zaf x=true) (hi:nameIx c.nm x=some i) (h1:trV n c ke=some y) (h2:trV n c ve=some z) (hc:zhx ve=false) :
  PS X (.Assign [.Subscript (.Name x px) ke tp] ve pos) (spS X F0 H0 (evS G (.dput i y z))):=by
 have S:=zb6 G k n
 intro pins s σ H D I q
 obtain ⟨τ,F,o,en,hf,hw⟩:=q
 rw [evS] at hf
 obtain ⟨F1,e1,s1⟩:=en.frz (vars z++vars y)
 obtain ⟨vt,g1,hf⟩:=obs hf
 obtain ⟨kt,g2,hf⟩:=obs hf
 obtain ⟨s',g3,rfl⟩:=oms hf
 refine zo8 gd fx hv hp hi (S.v gd h1) (S.v gd h2) (ze5 h2 (fun a b s p z=>by subst z;cases hc) _ _ _) I e1 g2 g3 (fun τ' H' Q e2 hvw _ hQ=>?_) fun σ' F' H' e' s'=>hw σ' F' H' e' (s1.trans s')
 exact ⟨_,F1,vt,e2.env fx.hN,by rw [hvw];exact g1,hQ⟩
end
end Ev
end
end
end
noncomputable section
noncomputable section
noncomputable section
namespace Ev
open PySem PySem.Spec PyProof.Rows L2
section
variable {X:Cx} {c:Tc} {G:Glo} {k:Nat} {F0 H0:Hp}
theorem zr0:PSs X [] (spS X F0 H0 (evSs G [])):=by
 refine ziu zlu fun D σ H q=>?_
 obtain ⟨τ,F,o,en,hf,hw⟩:=q
 rw [evSs] at hf
 cases hf
 exact hw _ F H en (Same.refl F)
theorem zou {st:Stmt} {rest:List Stmt} {s:S} {ss:List S} (h1:PS X st (spS X F0 H0 (evS G s))) (h2:PSs X rest (spS X F0 H0 (evSs G ss))):PSs X (st::rest) (spS X F0 H0 (evSs G (s::ss))):=by
 refine ziu (zci h1 h2) fun D σ H q=>?_
 obtain ⟨τ,F,o,en,hf,hw⟩:=q
 rw [evSs] at hf
 obtain ⟨o1,ho1,hf⟩:=obs hf
 refine ⟨τ,F,o1,en,ho1,?_⟩
 cases o1 with
 | nx τ'=>exact fun σ' F' H' e s'=>⟨τ',F',o,e,hf,hw.up s'⟩
 | rt t=>cases hf;exact hw
theorem zni {e:Expr} (h:zfl e=true):∃ p,e=.Dict [] [] p:=by
 cases e with
 | Dict ks vs p =>
  match ks,vs,h with
  | [],[],_=>exact ⟨p,rfl⟩
  | _::_,_,h=>cases h
  | [],_::_,h=>cases h
 | _=>cases h
theorem zct (gd:Gd X c G k) (fx:Fx X c):∀ n,(∀ st s,trS n c st=some s->PS X st (spS X F0 H0 (evS G s)))/\(∀ sts ss,trSs n c sts=some ss->PSs X sts (spS X F0 H0 (evSs G ss)))
 | 0=>⟨fun _ _ h=>(by (cases h;done)),fun _ _ h=>(by (cases h;done))⟩
 | n+1=>by
  obtain ⟨i1,i2⟩:=zct gd fx n
  refine ⟨fun st s h=>?_,fun sts ss h=>?_⟩
  ·cases st with
   | Assign tgs e pos =>
    match tgs,h with
    | [],h=>(cases h;done)
    | t::_::_,h =>
     cases t with
     | Subscript o _ _=>cases o<;>(cases h;done)
     | _=>(cases h;done)
    | [t],h =>
     cases t with
     | Name x px =>
      replace h:(if zaf x&&(c.sc.names.lookup x==some .local||c.sc.names.lookup x==some .cell) then (nameIx c.nm x).bind fun i=>if zfl e then some (S.dnew i) else ((trV n c e).bind fun y=>if fresh y&&!litE e then none else some (S.asg i y)) else none)=some s:=h
      split at h
      ·rename_i hc
       simp only [Bool.and_eq_true,Bool.or_eq_true,beq_iff_eq] at hc
       obtain ⟨i,h1,g1⟩:=obs h
       clear h
       by_cases hd:zfl e=true
       ·rw [if_pos hd] at g1
        cases g1
        obtain ⟨dp,rfl⟩:=zni hd
        exact zot gd fx hc.2 h1
       ·rw [if_neg hd] at g1
        obtain ⟨y,h2,g2⟩:=obs g1
        clear g1
        by_cases hfl:(fresh y&&!litE e)=true
        ·rw [if_pos hfl] at g2;cases g2
        ·rw [if_neg hfl] at g2
         cases g2
         cases n with
         | zero=>cases h2
         | succ m =>
          exact zr2 gd fx hc.2 h1 h2 fun hfr=>by
           rw [hfr,Bool.true_and] at hfl
           simpa using hfl
      ·cases h
     | Subscript o ke tp =>
      cases o with
      | Name x px =>
       replace h:(if visB c.sc x&&zaf x&&!sliceE ke then (nameIx c.nm x).bind fun i=>(trV n c ke).bind fun y=>(if zhx e then none else (trV n c e).bind fun z=>some (S.dput i y z)) else none)=some s:=h
       split at h
       ·rename_i hc
        simp only [Bool.and_eq_true] at hc
        obtain ⟨i,h1,g1⟩:=obs h
        obtain ⟨y,h2,g2⟩:=obs g1
        clear g1 h
        split at g2
        ·cases g2
        ·rename_i hcomp
         obtain ⟨z,h3,g3⟩:=obs g2
         cases g3
         exact zos gd fx hc.1.1 hc.1.2 h1 h2 h3 (by simpa using hcomp)
       ·cases h
      | _=>(cases h;done)
     | _=>(cases h;done)
   | Expr e pos =>
    cases e with
    | Constant cst kk p =>
     cases cst with
     | str x=>(cases h;done)
     | _=>(cases h;done)
    | Call f es ks cpos =>
     cases f with
     | Attribute o m apos =>
      cases o with
      | Name x px =>
       match es,ks,h with
       | [a],[],h =>
        replace h:(if apos.endLine==cpos.line&&visB c.sc x&&zaf x then (nameIx c.nm x).bind fun i=>(trV n c a).bind fun y=>(if m==("append":Str) then some (S.app i y) else none) else none)=some s:=h
        split at h
        ·rename_i hc
         simp only [Bool.and_eq_true] at hc
         obtain ⟨i,h1,g1⟩:=obs h
         obtain ⟨y,h2,g2⟩:=obs g1
         clear g1 h
         by_cases hm:(m==("append":Str))=true
         ·rw [if_pos hm] at g2
          have hm:=eq_of_beq hm
          subst hm
          cases g2
          exact zr3 gd fx hc.1.2 hc.2 h1 h2 hc.1.1
         ·rw [if_neg hm] at g2
          cases g2
        ·cases h
       | [],_,h=>(cases h;done)
       | [_],_::_,h=>(cases h;done)
       | _::_::_,_,h=>(cases h;done)
      | _=>(cases h;done)
     | _=>(cases h;done)
    | _=>(cases h;done)
   | Return e pos =>
    cases e with
    | none=>(cases h;done)
    | some e =>
     obtain ⟨y,h2,g⟩:=obs h
     cases g
     exact zrz gd fx h2
   | If t a b pos =>
    obtain ⟨z,h1,g⟩:=obs h
    obtain ⟨x,h2,g⟩:=obs g
    obtain ⟨y,h3,g⟩:=obs g
    cases g
    exact zur gd fx h1 (i2 _ _ h2) (i2 _ _ h3)
   | For tg iter body els pos =>
    cases els with
    | cons _ _=>(cases h;done)
    | nil =>
     obtain ⟨xs,h1,g⟩:=obs h
     obtain ⟨is,h2,g⟩:=obs g
     obtain ⟨ki,h3,g⟩:=obs g
     obtain ⟨b,h4,g⟩:=obs g
     split at g
     ·rename_i hc
      simp only [Bool.and_eq_true] at hc
      obtain ⟨⟨⟨c1,c2⟩,c3⟩,c4⟩:=hc
      cases g
      refine zr1 gd fx h1 h2 h3 (fun e=>?_) (fun e=>?_) (fx.ats c4 h2) (i2 _ _ h4)
      ·rw [e] at c1
       simpa using c1
      ·rw [e] at c2
       simpa using c2
     ·cases g
   | _=>(cases h;done)
  ·cases sts with
   | nil=>cases (show some ([]:List S)=some ss from h);exact zr0
   | cons st rest =>
    obtain ⟨x,h1,h⟩:=obs h
    obtain ⟨xs,h2,h⟩:=obs h
    cases h
    exact zou (i1 _ _ h1) (i2 _ _ h2)
end
section
variable {P:Program} {w:World} {K:PySem.W.Frag} {mg:Str->Option Value} {base:Heap} {R:Pr}
structure FnD (K:PySem.W.Frag) (mg:Str->Option Value) (f:Str) (D:Fd) (st:Stmt) (a:Addr) (fd:FuncData) (ps:List Str):Prop where
 qu:∃ x qual,Fun K x qual st a fd
 sc:FnScope (zar (zab st)) ps (zab st)
 np:ps.length=D.np
 ns:(zar (zab st)).length=D.ns
 tr:trSs 60 ⟨zab st,zar (zab st)⟩ (defBody st)=some D.body
 mg:mg f=some (.ref a)
 kp:PySem.W.keepIn K (.ref a)=true
 bi:Binds K fd ps []
theorem zim {X:Cx} {D:Fd} {N:List Str} {ts:List T} {vs:List V} {F H:Hp} (hN:N.length=D.ns) (fh:Same F H) (tb:Tbk X.K F H) (r:Reps X.K F ts vs):EnvS X F H (begin' D ts) (L2.start N vs) F H:=by
 have hl:=r.length
 have none:∀ i s,(begin' D ts)[i]?=some s->¬ i<ts.length->s=.no:=fun i s h hi=>by
  unfold begin' at h
  rw [List.getElem?_append_right (by simpa using hi)] at h
  rw [List.getElem?_replicate] at h
  split at h
  ·cases h;rfl
  ·cases h
 have some':∀ i s,(begin' D ts)[i]?=some s->i<ts.length->∃ t,ts[i]?=some t/\s=.val t:=fun i s h hi=>by
  unfold begin' at h
  rw [List.getElem?_append_left (by simpa using hi),List.getElem?_map] at h
  obtain ⟨t,h1,h2⟩:=oms h
  exact ⟨t,h1,h2.symm⟩
 have noown:∀ i (u:Sl),(begin' D ts)[i]?=some u->u.isOwn=true->False:=fun i u h hu=>by
  by_cases hi:i<ts.length
  ·obtain ⟨t,_,e⟩:=some' i _ h hi
   subst e;cases hu
  ·have:=none i _ h hi
   subst this;cases hu
 refine ⟨Step.refl fh,tb,?_,fun i t h=>?_,fun i u h hu=>(noown i u h hu).elim,fun i j u _ a _ h _ hu=>(noown i u h hu).elim⟩
 ·unfold begin' L2.start
  simp only [List.length_append,List.length_map,List.length_replicate]
  rw [hl,hN]
 ·by_cases hi:i<ts.length
  ·obtain ⟨u,h1,e⟩:=some' i _ h hi
   cases e
   obtain ⟨v,h2,h3⟩:=r.get h1
   refine ⟨v,?_,h3⟩
   unfold L2.start
   rw [zzj (by rw [zyj,hl];exact hi),zzc,h2]
   rfl
  ·cases none i _ h hi
def Kn (P:Program) (w:World) (K:PySem.W.Frag) (mg:Str->Option Value) (base:Heap) (R:Pr) (n:Nat) (f:Str):Prop :=
 ∃ (a:Addr) (fd:FuncData) (ps:List Str),FnOk P w K mg base CX0 n a fd ps (spT K (run R n f))/\mg f=some (.ref a)/\PySem.W.keepIn K (.ref a)=true/\Binds K fd ps []
abbrev KnAll (P:Program) (w:World) (K:PySem.W.Frag) (mg:Str->Option Value) (base:Heap) (R:Pr) (n:Nat):Prop:=∀ m,m<=n->∀ f D,plainF f=true->R.fn f=some D->Kn P w K mg base R m f
theorem zna {a:Addr} {fd:FuncData} {ps:List Str} {f:Str}:FnOk P w K mg base CX0 0 a fd ps (spT K (run R 0 f)):=by
 have no:∀ vs H Q E,¬ spT K (run R 0 f) vs H Q E:=fun vs H Q E h=>by
  obtain ⟨F,ts,t,_,_,_,h,_⟩:=h
  cases h
 exact ⟨fun vs H Q E h=>absurd h (no vs H Q E),fun A outer s H args us vs Q E _ _ _ _ h=>absurd h (no vs H Q E)⟩
theorem ztq {n:Nat} (ih:KnAll P w K mg base R n) (nob:∀ x∈bnames,mg x=none) (con:∀ x t,R.con x=some t->∃ u v,mg x=some u/\RelV v u/\∀ F,Rep K F t v)
  {st:Stmt} {ps:List Str} (sc:FnScope (zar (zab st)) ps (zab st)) {qual:Str} {a:Addr} {cdv:Value} {A:Around} {outer:List PySem.Env} {s:Shared} {H:Hp} {E:XK} (hr:Room n (A.deeper (envOfC qual (zab st) s.heap.objs.size a cdv))) :
  Gd (cxOf CX0 P w K mg base (zar (zab st)) qual (zab st) a cdv A outer s H E).nox ⟨zab st,zar (zab st)⟩ (glo R (run R n)) n:={
   room:=hr
   calm:=rfl
   nob:=nob
   call:=fun g ts t hp hg=>by
    have hD:∃ D',R.fn g=some D':=by
     cases n with
     | zero=>cases hg
     | succ m =>
      have hg:run R (m+1) g ts=some t:=hg
      rw [run] at hg
      obtain ⟨D',h1,_⟩:=obs hg
      exact ⟨D',h1⟩
    obtain ⟨D',hD⟩:=hD
    exact ih n (zyl n) g D' hp hD
   con:=con
   vis:=fun x h=>by
    show (zab st).names.lookup x=_\/(zab st).names.lookup x=_\/(zab st).names.lookup x=_
    have h:visB (zab st) x=true:=h
    unfold visB at h
    cases e:(zab st).names.lookup x with
    | none=>rw [e] at h;cases h
    | some q =>
     rw [e] at h
     cases q with
     | «local»=>exact .inl rfl
     | cell=>exact .inr (.inl rfl)
     | free=>exact .inr (.inr rfl)
     | _=>cases h
   gl:=fun x h=>by
    show (zab st).names.lookup x=_
    simpa [glB] using h
   cap:=fun x h=>h
   nd:=sc.nd }
theorem zrd {n:Nat} (ih:KnAll P w K mg base R n) (nob:∀ x∈bnames,mg x=none) (con:∀ x t,R.con x=some t->∃ u v,mg x=some u/\RelV v u/\∀ F,Rep K F t v)
  {f:Str} {D:Fd} {st:Stmt} {a:Addr} {fd:FuncData} {ps:List Str} (hf:R.fn f=some D) (d:FnD K mg f D st a fd ps):FnOk P w K mg base CX0 (n+1) a fd ps (spT K (run R (n+1) f)):=by
  obtain ⟨x,qual,FU⟩:=d.qu
  have inv:∀ {ts:List T} {t:T},run R (n+1) f ts=some t->ts.length=D.np/\zaa (evSs (glo R (run R n)) D.body (begin' D ts))=some t:=fun {ts t} h=>by
   rw [run,hf] at h
   simp only [Option.bind_some] at h
   split at h
   ·rename_i e;exact ⟨e,h⟩
   ·cases h
  refine FU.ok d.sc (fun vs H Q E h=>?_) (fun cdv A outer s H vs Q E hr h=>?_)
  ·obtain ⟨F,ts,t,fh,tb,r,h,_⟩:=h
   rw [r.length,(inv h).1,d.np]
  obtain ⟨F,ts,t,fh,tb,r,h,q⟩:=h
  obtain ⟨hl,he⟩:=inv h
  have gd:=ztq (outer:=outer) (H:=H) (E:=E) ih nob con d.sc hr
  have fx:Fx (cxOf CX0 P w K mg base (zar (zab st)) qual (zab st) a cdv A outer s H E).nox ⟨zab st,zar (zab st)⟩:=⟨rfl,fun x h=>h,fun _=>rfl,rfl⟩
  refine ⟨_,(zct (F0:=F) (H0:=H) gd fx 60).2 _ _ d.tr,?_⟩
  cases ho:evSs (glo R (run R n)) D.body (begin' D ts) with
  | none=>rw [ho] at he;cases he
  | some o =>
   refine ⟨begin' D ts,F,o,zim d.ns fh tb r,ho,?_⟩
   rw [ho] at he
   cases o with
   | nx τ=>cases he;exact fun σ' F' H' e _=>q .non F' H' e.st rfl
   | rt t=>cases he;exact fun v F' H' s r=>q v F' H' s r
theorem zre (L:∀ f D,plainF f=true->R.fn f=some D->(∃ st a fd ps,FnD K mg f D st a fd ps) \/
   ∃ (a:Addr) (fd:FuncData) (ps:List Str),mg f=some (.ref a)/\PySem.W.keepIn K (.ref a)=true/\Binds K fd ps []/\∀ n,KnAll P w K mg base R n->FnOk P w K mg base CX0 (n+1) a fd ps (spT K (run R (n+1) f)))
  (nob:∀ x∈bnames,mg x=none) (con:∀ x t,R.con x=some t->∃ u v,mg x=some u/\RelV v u/\∀ F,Rep K F t v):∀ n,KnAll P w K mg base R n
 | 0=>fun m hm f D hp hf=>by
  obtain rfl:m=0:=by omega
  rcases L f D hp hf with ⟨st,a,fd,ps,d⟩ | ⟨a,fd,ps,h1,h2,h3,_⟩
  ·exact ⟨a,fd,ps,zna,d.mg,d.kp,d.bi⟩
  ·exact ⟨a,fd,ps,zna,h1,h2,h3⟩
 | n+1=>fun m hm f D hp hf=>by
  have ih:=zre L nob con n
  by_cases hmn:m<=n
  ·exact ih m hmn f D hp hf
  ·obtain rfl:m=n+1:=by omega
   rcases L f D hp hf with ⟨st,a,fd,ps,d⟩ | ⟨a,fd,ps,h1,h2,h3,h4⟩
   ·exact ⟨a,fd,ps,zrd ih nob con hf d,d.mg,d.kp,d.bi⟩
   ·exact ⟨a,fd,ps,h4 n ih,h1,h2,h3⟩
end
end Ev
end
end
end
noncomputable section
noncomputable section
noncomputable section
namespace Ev
open PySem PySem.Spec PyProof.Rows L2
variable {b:Addr} {fs:List Addr} {x:Option Value}
theorem zia:∀ (ps:List Str) (us:List Value),us.length=ps.length->∀ n∈ps,((ps.zip us).lookup n).isNone=false
 | p::ps,u::us,hl,n,hn=>by
  rw [List.zip_cons_cons,zy4]
  cases e:n==p with
  | true=>rfl
  | false=>exact zia ps us (by simpa using hl) n ((omc hn).resolve_left fun z=>by subst z;simp at e)
theorem zql:∀ (ps:List Str) (us:List Value),us.length=ps.length->ps.Nodup->ps.filterMap (fun n=>((ps.zip us).lookup n).map (n,·))=ps.zip us
 | [],us,_,_=>by cases us<;>rfl
 | p::ps,u::us,hl,hn=>by
  rw [List.nodup_cons] at hn
  rw [List.zip_cons_cons,zzg,zy4,beq_self_eq_true]
  simp only [Option.map_some]
  congr 1
  refine Eq.trans (zjg fun n h=>?_) (zql ps us (by simpa using hl) hn.2)
  rw [zy4]
  cases e:n==p with
  | true=>rw [eq_of_beq e] at h;exact absurd h hn.1
  | false=>rfl
theorem zdh {fd:FuncData} {as:List Arg} {us:List Value} (h:fd.params=⟨[],as,none,[],[],none,[]⟩) (hd:fd.defaults=.none) (hn:(as.map (·.arg)).Nodup) (hl:us.length=(as.map (·.arg)).length):bindArgs fd ⟨us,[]⟩=pure ((as.map (·.arg)).zip us):=by
 have e1:((as.map (·.arg)).filter fun n=>(((as.map (·.arg)).zip us).lookup n).isNone)=[]:=List.filter_eq_nil_iff.mpr fun n hn=>by rw [zia _ us hl n hn];simp
 have e2:=zql _ us hl hn
 have e3:seqItems? Value.none=(pure none:Sem _):=rfl
 unfold bindArgs
 rw [h,hd]
 dsimp only
 generalize as.map (·.arg)=ps at hn hl e1 e2 ⊢
 simp only [List.map_nil,List.nil_append,List.append_nil,List.forIn_nil,pure_bind,e3,Option.getD_none,List.length_nil,hl,gt_iff_lt,Nat.lt_irrefl,decide_false,Bool.false_and,Bool.false_eq_true,if_false,Nat.zero_sub,List.drop_zero,Nat.sub_zero,List.take_length,e1,List.isEmpty_nil,Bool.not_true,List.drop_length,List.zip_nil_left,e2]
 done
def del (H:Hp) (c:Addr):Hp:=fun b=>if b=c then none else H b
theorem zc3 {H:Hp} {c:Addr}:del H c c=none:=by unfold del;rw [if_pos rfl]
theorem zaw {H:Hp} {c:Addr} (h:b≠c):del H c b=H b:=by unfold del;rw [if_neg h]
theorem zq4 {H:Hp} {c:Addr} {u:HO} (h:del H c b=some u):b≠c/\H b=some u:=by
 by_cases hb:b=c
 ·subst hb;rw [zc3] at h;cases h
 ·rw [zaw hb] at h;exact ⟨hb,h⟩
abbrev lab (o:Obj):HO:=.frz o (.own 0)
section
variable {P:Program} {w:World} {H H' F F':Hp} {h h':Heap} {c:Addr} {o:Obj} {K:PySem.W.Frag}
theorem zm0 (x:HOk P w H h) (e:H c=some (lab o)):HOk P w (del H c) h:=fun a v q=>by
 obtain ⟨hne,q⟩:=zq4 q
 exact (x a v q).stay (fun _ _ _ q=>q) (fun b q=>by rw [zaw (zcb q e (by intro z;cases z))];exact q) fun b xs q=>by rw [zaw (zcb q e (by intro z;cases z))];exact q
theorem zm1 (x:HOk P w H h) (e:H c=none) (ho:h.get? c=some o):HOk P w (upd H c (lab o)) h:=fun a v q=>by
 by_cases ha:a=c
 ·subst ha;rw [zae] at q;cases q;exact ⟨ho,o,ho⟩
 ·rw [zad ha] at q
  exact (x a v q).stay (fun _ _ _ q=>q) (fun b q=>by rw [zad (zac q e)];exact q) fun b xs q=>by rw [zad (zac q e)];exact q
theorem zuh (u:Un fs [] (upd H c (lab o)) H' h h') (k:HOk P w H' h') (hc:H c=none) (ho:h.get? c=some o) (hf:c∉fs):Un fs [] H (del H' c) h h':=by
 have hl:H' c=some (lab o):=u.frzs c _ _ zae
 have hg:h'.get? c=some o:=(k c _ hl).1
 have up:∀ {b},b≠c->H b=none->upd H c (lab o) b=none:=fun {b} hb n=>by rw [zad hb];exact n
 refine ⟨fun b ob q n hb hx=>?_,fun b ob q n hb hx=>?_,fun b ob q n hx=>?_,fun b ob q hx=>u.there b ob q hx,fun b xs q=>?_,fun b ob v q=>?_,fun b ps q=>?_⟩
 ·by_cases hbc:b=c
  ·subst hbc;rw [ho] at q;cases q;exact hg
  ·exact u.keep b ob q (up hbc n) hb hx
 ·exact u.slot b ob q (up (fun z=>hf (z▸hb)) n) hb hx
 ·by_cases hbc:b=c
  ·subst hbc;exact zc3
  ·rw [zaw hbc];exact u.free b ob q (up hbc n) hx
 ·have:=zac q hc
  rw [zaw this];exact u.tups b xs (by rw [zad this];exact q)
 ·have:=zac q hc
  rw [zaw this];exact u.frzs b ob v (by rw [zad this];exact q)
 ·have:=zac q hc
  rw [zaw this];exact u.tbls b ps (by rw [zad this];exact q)
theorem zxd (u:Un fs [] (del H c) H' h h') (hc:H c=some (lab o)) (ho:h.get? c=some o) (hf:c∉fs):Un fs [] H (upd H' c (lab o)) h h':=by
 have dn:∀ {b},H b=none->b≠c:=fun {b} n z=>by subst z;rw [hc] at n;cases n
 refine ⟨fun b ob q n hb hx=>u.keep b ob q (by rw [zaw (dn n)];exact n) hb hx,fun b ob q n hb hx=>u.slot b ob q (by rw [zaw (dn n)];exact n) hb hx,fun b ob q n hx=>?_,fun b ob q hx=>u.there b ob q hx,fun b xs q=>?_,fun b ob v q=>?_,fun b ps q=>?_⟩
 ·rw [zad (dn n)];exact u.free b ob q (by rw [zaw (dn n)];exact n) hx
 ·have:=zcb q hc (by intro z;cases z)
  rw [zad this];exact u.tups b xs (by rw [zaw this];exact q)
 ·by_cases hb:b=c
  ·subst hb;rw [hc] at q;cases q;exact zae
  ·rw [zad hb];exact u.frzs b ob v (by rw [zaw hb];exact q)
 ·have:=zcb q hc (by intro z;cases z)
  rw [zad this];exact u.tbls b ps (by rw [zaw this];exact q)
theorem zk6 (e:H c=some (lab o)) (hd:o.data=.cell x) (t:TbAt H b):TbAt (del H c) b:=by
 obtain ⟨ps,h1,h2,h3⟩:=t
 refine ⟨ps,by rw [zaw (zcb h1 e (by intro z;cases z))];exact h1,h2,fun pos cv q=>?_⟩
 obtain ⟨a,oc,vs,tt,g1,g2,g3,g4⟩:=h3 pos cv q
 exact ⟨a,oc,vs,tt,g1,by rw [zaw (zcb g2 e (by intro z;cases z;rw [hd] at g3;cases g3))];exact g2,g3,g4⟩
theorem zrx {F2 H2:Hp} (S:Step F (del H c) F2 H2) (hH:H c=some (lab o)) (hd:o.data=.cell x) (h2:H2 c=none):Step F H F2 (upd H2 c (lab o)):=by
 have hf2:F2 c=none:=S.fh.free h2
 refine ⟨⟨fun b u q n=>?_,fun b q=>?_,fun b q=>?_,fun b ps q=>?_⟩,S.ff,fun b u q=>?_,fun a z=>?_⟩
 ·by_cases hb:b=c
  ·subst hb;rw [hH] at q;cases q;exact zae
  ·rw [zad hb];exact S.hh.st b u (by rw [zaw hb];exact q) n
 ·by_cases hb:b=c
  ·subst hb;rw [zae] at q;cases q
  ·rw [zad hb] at q;have:=S.hh.fr b q;rw [zaw hb] at this;exact this
 ·exact (S.hh.tb b (zk6 hH hd q)).up (fun a p u q=>by rw [zad (zac q h2)];exact q) fun a ps q=>by rw [zad (zac q h2)];exact q
 ·obtain ⟨qs,g⟩:=S.hh.tt b ps (by rw [zaw (zcb q hH (by intro z;cases z))];exact q)
  exact ⟨qs,by rw [zad (zac g h2)];exact g⟩
 ·rw [zad (zac q hf2)];exact S.fh b u q
 ·have ha:a≠c:=fun e=>by subst e;exact z hf2
  have:=S.nw a z
  rw [zaw ha] at this
  exact this
theorem zop {F2 H2:Hp} (S:Step F (upd H c (lab o)) F2 H2) (hF:F c=none) (hH:H c=none) (hd:o.data=.cell x):Step F H F2 (del H2 c):=by
 have h2:H2 c=some (lab o):=S.hh.st c _ zae rfl
 have hf2:F2 c=none:=by
  cases q:F2 c with
  | none=>rfl
  | some u =>
   rcases S.nw c (by rw [q];simp) with z | z | ⟨xs,z⟩
   ·exact absurd hF z
   ·rw [zae] at z;cases z
   ·rw [zae] at z;cases z
 refine ⟨⟨fun b u q n=>?_,fun b q=>?_,fun b q=>?_,fun b ps q=>?_⟩,S.ff,fun b u q=>?_,fun a z=>?_⟩
 ·have hb:=zac q hH
  rw [zaw hb];exact S.hh.st b u (by rw [zad hb];exact q) n
 ·by_cases hb:b=c
  ·subst hb;exact hH
  ·rw [zaw hb] at q;have:=S.hh.fr b q;rw [zad hb] at this;exact this
 ·refine zk6 h2 hd (S.hh.tb b (q.up (fun a p u q=>?_) fun a ps q=>?_))
  ·rw [zad (zac q hH)];exact q
  ·rw [zad (zac q hH)];exact q
 ·obtain ⟨qs,g⟩:=S.hh.tt b ps (by rw [zad (zac q hH)];exact q)
  exact ⟨qs,by rw [zaw (zcb g h2 (by intro z;cases z))];exact g⟩
 ·rw [zaw (zac q hf2)];exact S.fh b u q
 ·have ha:a≠c:=fun e=>by subst e;exact z hf2
  have:=S.nw a z
  rw [zad ha] at this
  exact this
end
end Ev
end
end
end
noncomputable section
noncomputable section
noncomputable section
namespace Ev
open PySem PySem.Spec PyProof.Rows L2
variable {k:Int} {n:Nat}
def lamPx:Str:="_law_bent_part"
def lamNx:Str:="_law_number"
def lamE:E:=.call "_law_otherwise" [.var 0,.bin .fdiv (.var 1) (.cst (.int 4096))]
def zay:Fd:=⟨2,2,[.ret lamE]⟩
structure LamS (lp:Arguments) (lb:Expr) (ls:Scope):Prop where
 kind:ls.kind=.function
 co:ls.isCoroutine=false
 gen:ls.isGenerator=false
 nocell:∀ x∈ls.names,x.2≠.cell
 free:∀ x∈ls.names,x.2=.free->x.1=lamNx
 px:ls.names.lookup lamPx=some .local
 nx:ls.names.lookup lamNx=some .free
 par:∃ a,lp=⟨[],[a],none,[],[],none,[]⟩/\a.arg=lamPx
 tr:trV 60 ⟨ls,[lamPx,lamNx]⟩ lb=some lamE
abbrev lamO (lp:Arguments) (lb:Expr) (ls:Scope) (c:Addr) (pm:Value) (cd:Addr) (ctv:Value):Obj:=PySem.W.kla_obj "<lambda>" lamQ lp lb ls [(lamNx,c)] pm cd ctv
structure LamAt (lp:Arguments) (lb:Expr) (ls:Scope) (F H:Hp) (f:Addr) (k:Int):Prop where
 ex:∃ (c cd:Addr) (pm ctv:Value) (oc cob:Obj) (vs:Array Value) (t:Nat) (u:Value),H f=some (lab (lamO lp lb ls c pm cd ctv))/\F c=none/\H c=some (lab cob)/\cob.data=.cell (some u)/\RelV (.int k) u /\
  H cd=some (lab oc)/\oc.data=.fields vs/\vs[1]?=some (.str lamQ t)
theorem LamAt.up {lp:Arguments} {lb:Expr} {ls:Scope} {F H F' H':Hp} {f:Addr} (h:LamAt lp lb ls F H f k) (S:Step F H F' H'):LamAt lp lb ls F' H' f k:=by
 obtain ⟨c,cd,pm,ctv,oc,cob,vs,t,u,h1,h0,h2,h3,h4,h5,h6,h7⟩:=h.ex
 refine ⟨c,cd,pm,ctv,oc,cob,vs,t,u,S.hh.st _ _ h1 rfl,?_,S.hh.st _ _ h2 rfl,h3,h4,S.hh.st _ _ h5 rfl,h6,h7⟩
 cases q:F' c with
 | none=>rfl
 | some v =>
  rcases S.nw c (by rw [q];simp) with z | z | ⟨xs,z⟩
  ·exact absurd h0 z
  ·rw [h2] at z;cases z
  ·rw [h2] at z;cases z
def cxL (P:Program) (w:World) (K:PySem.W.Frag) (mg:Str->Option Value) (base:Heap) (ls:Scope) (f c:Addr) (cd:Value) (A:Around) (outer:List PySem.Env) (s:Shared) (H:Hp):Cx where
 prog:=P
 w:=w
 K:=K
 mg:=mg
 base:=base
 A:=A.deeper (PySem.W.envX lamQ ls s.heap.objs.size f cd [(lamNx,c)])
 N:=[lamPx,lamNx]
 s₀:=s
 H₀:=H
 env:=PySem.W.envX lamQ ls s.heap.objs.size f cd [(lamNx,c)]
 outer:=outer
 stack:=PySem.W.envX lamQ ls s.heap.objs.size f cd [(lamNx,c)]::outer
 ex:=[]
 calm:=true
 fn:=fun _=>false
 pn:=[]
 xe:=fun _ _=>False
theorem cell1 {x:Str} {c d:Addr} (h:List.lookup x [(lamNx,c)]=some d):x=lamNx/\d=c:=by
 rw [zy4] at h
 split at h
 ·rename_i e
  cases h
  exact ⟨eq_of_beq e,rfl⟩
 ·cases h
section
variable {P:Program} {w:World} {K:PySem.W.Frag} {mg:Str->Option Value} {base:Heap} {R:Pr} {lp:Arguments} {lb:Expr} {ls:Scope}
theorem ztp {f c:Addr} {cd:Value} {A:Around} {outer:List PySem.Env} {s:Shared} {H:Hp} {v1:V} {u1 u:Value} {cob:Obj} {h':Heap} {tk:Tok} (L:LamS lp lb ls) (hd:A.handled=none) (e0:Env0 P w K mg base A outer s H)
  (hc:s.heap.get? c=some cob) (hcd:cob.data=.cell (some u)) (hn:H c=none) (ru:RelV (.int k) u) (r1:RelV v1 u1)
  (hns:h'.Ns s.heap.objs.size (fun x=>[(lamPx,u1)].reverse.lookup x)) (hk:∀ b o,s.heap.get? b=some o->h'.get? b=some o) :
  Inv (cxL P w K mg base ls f c cd A outer s H) [] [some v1,some (.int k)] H { s with heap:=h',toks:=tk }:=by
 have noA:∀ b:Addr,b∉(cxL P w K mg base ls f c cd A outer s H).ex:=fun b z=>absurd (show b∈([]:List Addr) from z) (by simp)
 have cl:∀ {x:Str} {d:Addr},(cxL P w K mg base ls f c cd A outer s H).env.cells.lookup x=some d->x=lamNx/\d=c:=fun {x d} h=>cell1 h
 have cn:List.lookup lamNx [(lamNx,c)]=some c:=by rw [zy4,beq_self_eq_true]
 refine ⟨⟨e0.mod,L.kind,rfl,rfl,zyl _,fun y z d h1 h2=>?_,fun y hy=>?_,fun y d z h=>?_,fun _=>hd,Around.frames_deeper e0.frames,.inr ⟨rfl,rfl⟩,fun b z=>absurd z (noA b),e0.bs,e0.bsz,fun b _ _=>noA b,fun b z=>absurd z (noA b),e0.funs,e0.frf⟩,
  rfl,e0.bare,Un.kept hk,⟨_,hns,fun i y v h1 h2 h3=>?_⟩,fun y d h=>?_,e0.hok.fresh (Nat.le_refl _),fun y d h=>?_,fun p hp=>absurd (show p∈([]:List (Addr × Obj)) from hp) (by simp),e0.hok.kept hk,rfl⟩
 ·rw [(cl h1).1,(cl h2).1]
 ·have hy:ls.names.lookup y=some .cell\/ls.names.lookup y=some .free:=hy
  rcases hy with hy | hy
  ·exact absurd rfl (L.nocell _ (PySem.mem_of_lookup hy))
  ·have:y=lamNx:=L.free _ (PySem.mem_of_lookup hy) rfl
   exact ⟨c,by rw [this];exact cn⟩
 ·cases z
 ·match i,h1,h2 with
  | 0,h1,h2 =>
   cases h1;cases h2
   exact ⟨u1,r1,.inl ⟨L.px,by show List.lookup lamPx [(lamPx,u1)]=some u1;rw [zy4,beq_self_eq_true]⟩⟩
  | 1,h1,h2 =>
   cases h1;cases h2
   exact ⟨u,ru,.inr ⟨.inr L.nx,c,cn,cob,hk _ _ hc,hcd⟩⟩
  | _+2,h1,_=>cases h1
 ·rw [(cl h).2];exact ⟨_,cob,hk _ _ hc,hcd⟩
 ·rw [(cl h).2];exact hn
theorem zwr (L:LamS lp lb ls) (ih:KnAll P w K mg base R n) (nob:∀ x∈bnames,mg x=none) (con:∀ x t,R.con x=some t->∃ u v,mg x=some u/\RelV v u/\∀ F,Rep K F t v)
  {f c:Addr} {cd:Value} {A:Around} {outer:List PySem.Env} {s:Shared} {H:Hp} (hr:Room (n+1) A):Gd (cxL P w K mg base ls f c cd A outer s H) ⟨ls,[lamPx,lamNx]⟩ (glo R (run R n)) n where
 room:=hr.deeper _
 calm:=rfl
 nob:=nob
 call:=fun g ts t hp hg=>by
  have hD:∃ D',R.fn g=some D':=by
   cases n with
   | zero=>cases hg
   | succ m =>
    have hg:run R (m+1) g ts=some t:=hg
    rw [run] at hg
    obtain ⟨D',h1,_⟩:=obs hg
    exact ⟨D',h1⟩
  obtain ⟨D',hD⟩:=hD
  exact ih n (zyl n) g D' hp hD
 con:=con
 vis:=fun x h=>by
  show ls.names.lookup x=_\/ls.names.lookup x=_\/ls.names.lookup x=_
  have h:visB ls x=true:=h
  unfold visB at h
  cases e:ls.names.lookup x with
  | none=>rw [e] at h;cases h
  | some q =>
   rw [e] at h
   cases q with
   | «local»=>exact .inl rfl
   | cell=>exact .inr (.inl rfl)
   | free=>exact .inr (.inr rfl)
   | _=>cases h
 gl:=fun x h=>by
  show ls.names.lookup x=_
  simpa [glB] using h
 cap:=fun x h=>h
 nd:=by show [lamPx,lamNx].Nodup;decide +kernel
theorem zpr {t1 t:T} (hl:R.fn ".lam"=some zay) (he:run R (n+1) ".lam" [t1,.int k]=some t):evE (glo R (run R n)) lamE [some t1,some (.int k)]=some t:=by
 rw [run,hl] at he
 have key:∀ o:Option T,zaa ((o.map Out.rt).bind fun o=>match o with | .nx τ'=>evSs (glo R (run R n)) [] τ' | o=>some o)=some t->o=some t:=fun o h=>by
  cases o with
  | none=>cases h
  | some x=>cases h;rfl
 exact key _ he
theorem zps (L:LamS lp lb ls) (hl:R.fn ".lam"=some zay) (ih:KnAll P w K mg base R n) (nob:∀ x∈bnames,mg x=none) (con:∀ x t,R.con x=some t->∃ u v,mg x=some u/\RelV v u/\∀ F,Rep K F t v)
  {A:Around} {outer:List PySem.Env} {s:Shared} {H F:Hp} {f:Addr} {k:Int} {t1 t:T} {v1:V} {u1:Value} {Q:VK} (hr:Room (n+1) A) (e0:Env0 P w K mg base A outer s H) (fh:Same F H) (tb:Tbk K F H) (la:LamAt lp lb ls F H f k)
  (r1:Rep K F t1 v1) (ru1:RelV v1 u1) (he:run R (n+1) ".lam" [t1,.int k]=some t) (q:∀ v F' H',Step F H F' H'->Rep K F' t v->Q v H'):codeAny (model P w) A (.call (.ref f) ⟨[u1],[]⟩) (CR CX0 outer P w H s Q E0) s:=by
 obtain ⟨c,cd,pm,ctv,oc,cob,vs,tt,u,h1,h0,hHc,h3,h4,h5,h6,h7⟩:=la.ex
 have hof:s.heap.get? f=some (lamO lp lb ls c pm cd ctv):=(e0.hok f _ h1).1
 have hoc:s.heap.get? c=some cob:=(e0.hok c _ hHc).1
 have hod:s.heap.get? cd=some oc:=(e0.hok cd _ h5).1
 have hcf:c∉frs outer:=fun z=>by have:=e0.frf c z;rw [hHc] at this;cases this
 have lim:s.heap.NoLimit:=e0.mod.nolimit.keeps fun b o e=>(e0.bs b o e).1
 have e1:Env0 P w K mg base A outer s (del H c):=⟨e0.frames,e0.mod,fun b o e=>⟨(e0.bs b o e).1,by
   have:=(e0.bs b o e).2
   rw [zaw fun z=>by subst z;rw [hHc] at this;cases this];exact this⟩,e0.bsz,e0.funs,fun b z=>by
   have:=e0.frf b z
   rw [zaw fun z=>by subst z;rw [hHc] at this;cases this];exact this,zm0 e0.hok hHc,e0.bare⟩
 refine PySem.W.kla_callFunE hr.depth hof rfl L.co L.gen rfl ⟨cd,oc,vs,tt,rfl,hod,h6,h7⟩ ?_
 obtain ⟨a,rfl,ha⟩:=L.par
 rw [show bindArgs (PySem.W.kla_fn "<lambda>" lamQ ⟨[],[a],none,[],[],none,[]⟩ lb ls [(lamNx,c)] pm (.ref cd) ctv) ⟨[u1],[]⟩=pure [(lamPx,u1)] by
  have:=zdh (fd:=PySem.W.kla_fn "<lambda>" lamQ ⟨[],[a],none,[],[],none,[]⟩ lb ls [(lamNx,c)] pm (.ref cd) ctv) (as:=[a]) (us:=[u1]) rfl rfl (by simp) rfl
  rw [this,<- ha];rfl]
 refine zyf (wpAny_newFunctionEnv L.nocell (fun x hx=>by cases omg hx;exact L.px) (fun h' hns hsb=>?_) L.kind)
 have hk:∀ b o,s.heap.get? b=some o->h'.get? b=some o:=fun b o e=>hsb.extBut b o (zyy (zym e)) (zyb _ e)
 refine ⟨lim.keeps hk,?_⟩
 show codeAny _ _ (.expr lb (PySem.W.envX lamQ ls s.heap.objs.size f (.ref cd) [(lamNx,c)])) _ _
 refine PySem.W.kla_codeExpr ?_
 have I:=ztp (f:=f) (cd:=.ref cd) (tk:=s.toks+[(lamPx,u1)].length) L hr.hd e1 hoc h3 zc3 h4 ru1 hns hk
 have pe:=(zb6 (glo R (run R n)) n 60).v (zwr (f:=f) (c:=c) (cd:=.ref cd) (outer:=outer) (s:=s) (H:=del H c) L ih nob con hr) L.tr
 refine zzw (pe [] _ _ _ (fun v H2=>∃ F2,Step F (del H c) F2 H2/\Rep K F2 t v) I ⟨[some t1,some (.int k)],F,t,⟨fun b u q=>by rw [zaw (zac q h0)];exact fh b u q,fun p z=>⟨(tb p z).1,zk6 hHc h3 (tb p z).2⟩,fun x i t' _ hi _ hr'=>?_⟩,zpr hl he,fun v F' H' S r=>⟨F',S,r⟩⟩) (fun u' s' h=>?_) fun e s' h=>h.elim
 ·have hN:=zbe hi
  match i,hr' with
  | 0,hr'=>cases hr';exact ⟨0,v1,hN,rfl,r1⟩
  | 1,hr'=>cases hr';exact ⟨1,.int k,hN,rfl,rfl⟩
  | _+2,hr'=>cases hr'
 ·obtain ⟨v,H',J,rv,F2,S,r⟩:=h
  have hn:H' c=none:=J.freeC lamNx c (by show List.lookup lamNx [(lamNx,c)]=some c;rw [zy4,beq_self_eq_true])
  have hc':s'.heap.get? c=some cob:=J.base.keep c cob hoc zc3 hcf (by simp [cxL])
  exact ⟨v,upd H' c (lab cob),J.os,J.bare,zxd J.base hHc hoc hcf,zm1 J.hok hn hc',rv,q v _ _ (zrx S hHc h3 hn) r⟩
end
end Ev
end
end
end
noncomputable section
noncomputable section
noncomputable section
namespace Ev
open PySem PySem.Spec PyProof.Rows L2
theorem zjj {X:Cx} {c:Tc} {r:Env} {F H:Hp} {σ:L2.St} (hN:X.N=c.nm) (fh:Same F H) (tb:Tbk X.K F H) (h:∀ (i:Nat) (t:T),r[i]?=some (some t)->∃ v,σ[i]?=some (some v)/\Rep X.K F t v):EnvE X c r F σ H :=
 ⟨fh,tb,fun x i t _ hi _ hr=>by
  obtain ⟨v,h1,h2⟩:=h i t hr
  exact ⟨i,v,by rw [hN];exact zbe hi,h1,h2⟩⟩
section
variable {R:Pr} {lp:Arguments} {lb:Expr} {ls:Scope} {X:Cx}
def spLam (lp:Arguments) (lb:Expr) (ls:Scope) (K:PySem.W.Frag) (R:Pr) (m i j:Nat):TE:=fun σ H Q=>∃ F t1 k t v1 f,σ[i]?=some (some (V.ref f))/\σ[j]?=some (some v1)/\Same F H/\Tbk K F H/\Rep K F t1 v1/\LamAt lp lb ls F H f k/\run R m ".lam" [t1,.int k]=some t /\
 ∀ v F' H',Step F H F' H'->Rep K F' t v->Q v H'
theorem zvn {n:Nat} (L:LamS lp lb ls) (hl:R.fn ".lam"=some zay) (ih:KnAll X.prog X.w X.K X.mg X.base R n) (nob:∀ x∈bnames,X.mg x=none) (con:∀ x t,R.con x=some t->∃ u v,X.mg x=some u/\RelV v u/\∀ F,Rep X.K F t v)
  (hr:Room (n+1) X.A) {i j:Nat} {x y:Str} {p p2 pos:Pos} (hx:X.N[i]?=some x) (vx:Vis X.env.scope x) (dx:(x==("__debug__":Str))=false) (cx:(x==("__classdict__":Str))=false)
  (hy:X.N[j]?=some y) (vy:Vis X.env.scope y) (dy:(y==("__debug__":Str))=false) (cy:(y==("__classdict__":Str))=false):PE X (.Call (.Name x p) [.Name y p2] [] pos) (spLam lp lb ls X.K R (n+1) i j):=by
 intro pins s σ H Q I h
 obtain ⟨F,t1,k,t,v1,f,h1,h2,fh,tb,r1,la,he,q⟩:=h
 refine wpAny_Call_Name_kw (thn (zdi hx vx dx cx pins s σ H (fun v H1=>v=V.ref f/\H1=H) I ⟨_,h1,rfl,rfl⟩) fun u s1 ⟨v,H1,I1,rv,e1,e2⟩=>?_)
 subst e1 e2
 obtain rfl:u=.ref f:=rv
 have pa:=zbq (zdi (pos:=p2) hy vy dy cy) (zer (X:=X)) rfl pos pins s1 σ H1 (fun vs H2=>vs=[v1]/\H2=H1) I1 ⟨v1,h2,rfl,rfl⟩
 obtain ⟨c,cd,pm,ctv,_,_,_,_,_,hF,_⟩:=la.ex
 refine PySem.W.callWith_of (P:=fun h=>h.get? f=some (lamO lp lb ls c pm cd ctv)) rfl (fun h e=>⟨.frame,.inl rfl,(PySem.W.Looks.ld (part:=none) e).andThen .now⟩) (Calls.evalArgs_plain (thn pa fun us s2 ⟨vs,H2,I2,rv2,e3,e4⟩=>?_))
 subst e3 e4
 have hf:s2.heap.get? f=some (lamO lp lb ls c pm cd ctv):=(I2.hok f _ hF).1
 refine ⟨hf,?_⟩
 cases rv2 with
 | cons ru1 rn =>
  cases rn
  refine wpAny_call (codeAny_mono (zps L hl ih nob con hr I2.env0 fh tb la r1 ru1 he q) fun r s' hq=>?_)
  cases r with
  | error e=>exact hq.elim
  | ok fl =>
   cases fl with
   | ret u=>exact I2.after hq
   | next=>exact False.elim hq
   | brk=>exact False.elim hq
   | cont=>exact False.elim hq
end
end Ev
end
end
end
noncomputable section
noncomputable section
noncomputable section
namespace Ev
open PySem PySem.Spec PyProof.Rows L2
def putO:Str:="_law_bent_one"
def putW:Str:="_law_bent_way"
def putB:Str:="_law_bent_by"
def putA:Str:="_law_bent_at"
def putF:Str:="_law_put_at"
def putN:List Str:=[putO,putW,putB,putA,lamPx]
def putE0:E:=.cmp .eq (.var 1) (.tup [])
def putE1:E:=.idx (.var 1) (.cst (.int 0))
def putE2:E:=.idx (.var 0) (.var 3)
def putE3:E:=.sli (.var 1) (some (.cst (.int 1))) none
def putE4:E:=.bin .add (.bin .add (.sli (.var 0) none (some (.var 3))) (.tup [.var 4])) (.sli (.var 0) (some (.bin .add (.var 3) (.cst (.int 1)))) none)
def zaj:Fd:=⟨3,5,[.ite putE0 [.ret (.call ".lam" [.var 0,.var 2])] [],
  .asg 3 putE1,
  .asg 4 (.call ".put" [putE2,putE3,.var 2]),
  .ret putE4]⟩
abbrev putC (st:Stmt):Tc:=⟨zab st,putN⟩
def noE:Expr:=.Name "" ⟨0,0,0,0⟩
def sAt (b:List Stmt) (i:Nat):Stmt:=b.getD i (.Pass ⟨0,0,0,0⟩)
def ifT:Stmt->Expr | .If t _ _ _=>t | _=>noE
def ifB:Stmt->List Stmt | .If _ a _ _=>a | _=>[]
def stE:Stmt->Expr | .Assign _ e _=>e | .Return (some e) _=>e | _=>noE
def stG:Stmt->Expr | .Assign [t] _ _=>t | _=>noE
def stP:Stmt->Pos | .If _ _ _ p=>p | .Assign _ _ p=>p | .Return _ p=>p | _=>⟨0,0,0,0⟩
def exA:Expr->Nat->Expr | .Call _ es _ _,i=>es.getD i noE | .Subscript o i _,n=>(if n=0 then o else i) | _,_=>noE
def exF:Expr->Expr | .Call f _ _ _=>f | _=>noE
def exP:Expr->Pos | .Name _ p=>p | .Call _ _ _ p=>p | .Subscript _ _ p=>p | _=>⟨0,0,0,0⟩
def zls (b:List Stmt):List Stmt :=
 [.If (ifT (sAt b 0)) [.Return (some (.Call (.Name putB (exP (exF (stE (sAt (ifB (sAt b 0)) 0))))) [.Name putO (exP (exA (stE (sAt (ifB (sAt b 0)) 0)) 0))] [] (exP (stE (sAt (ifB (sAt b 0)) 0))))) (stP (sAt (ifB (sAt b 0)) 0))] [] (stP (sAt b 0)),
  .Assign [.Name putA (exP (stG (sAt b 1)))] (.Subscript (exA (stE (sAt b 1)) 0) (exA (stE (sAt b 1)) 1) (exP (stE (sAt b 1)))) (stP (sAt b 1)),
  .Assign [.Name lamPx (exP (stG (sAt b 2)))] (.Call (.Name putF (exP (exF (stE (sAt b 2))))) [exA (stE (sAt b 2)) 0,exA (stE (sAt b 2)) 1,.Name putB (exP (exA (stE (sAt b 2)) 2))] [] (exP (stE (sAt b 2)))) (stP (sAt b 2)),
  .Return (some (stE (sAt b 3))) (stP (sAt b 3))]
structure PutS (st:Stmt):Prop where
 nm:zar (zab st)=putN
 sc:FnScope putN [putO,putW,putB] (zab st)
 kd:([putA,lamPx,putF].map fun x=>(zab st).names.lookup x)=[some .local,some .local,some .globalImplicit]
 bd:defBody st=zls (defBody st)
 tr:(trT 60 (putC st) (ifT (sAt (defBody st) 0)),trV 60 (putC st) (.Subscript (exA (stE (sAt (defBody st) 1)) 0) (exA (stE (sAt (defBody st) 1)) 1) (exP (stE (sAt (defBody st) 1)))),trV 60 (putC st) (exA (stE (sAt (defBody st) 2)) 0),trV 60 (putC st) (exA (stE (sAt (defBody st) 2)) 1),trV 60 (putC st) (stE (sAt (defBody st) 3))) =
  (some putE0,some putE1,some putE2,some putE3,some putE4)
def spP (lp:Arguments) (lb:Expr) (ls:Scope) (K:PySem.W.Frag) (g:List T->Option T):Sp:=fun vs H Q _=>∃ F t1 t2 k t v1 v2 f,vs=[v1,v2,V.ref f]/\Same F H/\Tbk K F H/\Rep K F t1 v1/\Rep K F t2 v2/\LamAt lp lb ls F H f k/\g [t1,t2,.int k]=some t /\
 ∀ v F' H',Step F H F' H'->Rep K F' t v->Q v H'
theorem zo7 {R:Pr} {n:Nat} {t1 t2 t:T} {k:Int} (hp:R.fn ".put"=some zaj) (h:run R (n+1) ".put" [t1,t2,.int k]=some t) :
  ∃ b,evE (glo R (run R n)) putE0 [some t1,some t2,none,none,none]=some (.bl b)/\(b=true->run R n ".lam" [t1,.int k]=some t) /\
   (b=false->∃ a x y z,evE (glo R (run R n)) putE1 [some t1,some t2,none,none,none]=some a/\evE (glo R (run R n)) putE2 [some t1,some t2,none,some a,none]=some x/\evE (glo R (run R n)) putE3 [some t1,some t2,none,some a,none]=some y /\
    run R n ".put" [x,y,.int k]=some z/\evE (glo R (run R n)) putE4 [some t1,some t2,none,some a,some z]=some t):=by
 rw [run,hp] at h
 have h:zaa (evSs (glo R (run R n)) zaj.body [.val t1,.val t2,.val (.int k),.no,.no])=some t:=h
 cases o1:evS (glo R (run R n)) (.ite putE0 [.ret (.call ".lam" [.var 0,.var 2])] []) [.val t1,.val t2,.val (.int k),.no,.no] with
 | none=>rw [show zaj.body=_::_ from rfl,evSs,o1] at h;cases h
 | some o =>
  rw [show zaj.body=_::_ from rfl,evSs,o1] at h
  have o1:((evE (glo R (run R n)) putE0 [some t1,some t2,none,none,none]).bind fun x=>match x with
   | .bl true=>evSs (glo R (run R n)) [.ret (.call ".lam" [.var 0,.var 2])] [.val t1,.val t2,.val (.int k),.no,.no]
   | .bl false=>evSs (glo R (run R n)) [] [.val t1,.val t2,.val (.int k),.no,.no]
   | _=>none)=some o:=o1
  obtain ⟨x,hx,o1⟩:=obs o1
  cases x with
  | bl b =>
   refine ⟨b,hx,fun hb=>?_,fun hb=>?_⟩
   ·subst hb
    have o1:(((run R n ".lam" [t1,.int k]).map Out.rt).bind fun o=>match o with | .nx τ'=>evSs (glo R (run R n)) [] τ' | o=>some o)=some o:=o1
    cases hz:run R n ".lam" [t1,.int k] with
    | none=>rw [hz] at o1;cases o1
    | some z=>rw [hz] at o1;cases o1;cases h;rfl
   ·subst hb
    have o1:some (Out.nx [.val t1,.val t2,.val (.int k),.no,.no])=some o:=o1
    cases o1
    have h:zaa (((evE (glo R (run R n)) putE1 [some t1,some t2,none,none,none]).bind fun a=>some (Out.nx [.val t1,.val t2,.val (.int k),.val a,.no])).bind fun o=>match o with
     | .nx τ'=>evSs (glo R (run R n)) [.asg 4 (.call ".put" [putE2,putE3,.var 2]),.ret putE4] τ'
     | o=>some o)=some t:=h
    cases ha:evE (glo R (run R n)) putE1 [some t1,some t2,none,none,none] with
    | none=>rw [ha] at h;cases h
    | some a =>
     rw [ha] at h
     have h:zaa ((((evE (glo R (run R n)) putE2 [some t1,some t2,none,some a,none]).bind fun x=>((evE (glo R (run R n)) putE3 [some t1,some t2,none,some a,none]).bind fun y=>some [y,T.int k]).bind fun r=>some (x::r)).bind fun ys=>run R n ".put" ys).bind (fun z=>some (Out.nx [.val t1,.val t2,.val (.int k),.val a,.val z])) |>.bind fun o=>match o with
      | .nx τ'=>evSs (glo R (run R n)) [.ret putE4] τ'
      | o=>some o)=some t:=h
     cases hx2:evE (glo R (run R n)) putE2 [some t1,some t2,none,some a,none] with
     | none=>rw [hx2] at h;cases h
     | some x =>
      rw [hx2] at h
      cases hy:evE (glo R (run R n)) putE3 [some t1,some t2,none,some a,none] with
      | none=>rw [hy] at h;cases h
      | some y =>
       rw [hy] at h
       have h:zaa ((run R n ".put" [x,y,.int k]).bind (fun z=>some (Out.nx [.val t1,.val t2,.val (.int k),.val a,.val z])) |>.bind fun o=>match o with
        | .nx τ'=>evSs (glo R (run R n)) [.ret putE4] τ'
        | o=>some o)=some t:=h
       cases hz:run R n ".put" [x,y,.int k] with
       | none=>rw [hz] at h;cases h
       | some z =>
        rw [hz] at h
        have h:zaa (((evE (glo R (run R n)) putE4 [some t1,some t2,none,some a,some z]).map Out.rt).bind fun o=>match o with
         | .nx τ'=>evSs (glo R (run R n)) [] τ'
         | o=>some o)=some t:=h
        refine ⟨a,x,y,z,rfl,hx2,hy,hz,?_⟩
        cases hw:evE (glo R (run R n)) putE4 [some t1,some t2,none,some a,some z] with
        | none=>rw [hw] at h;cases h
        | some w=>rw [hw] at h;cases h;rfl
  | _=>cases o1
section
variable {P:Program} {w:World} {K:PySem.W.Frag} {mg:Str->Option Value} {base:Heap} {R:Pr} {lp:Arguments} {lb:Expr} {ls:Scope}
theorem zqu {x qual:Str} {st:Stmt} {a:Addr} {fd:FuncData} (L:LamS lp lb ls) (hl:R.fn ".lam"=some zay) (hp:R.fn ".put"=some zaj) (FU:Fun K x qual st a fd) (S:PutS st) (hm:mg putF=some (.ref a)) (hk:PySem.W.keepIn K (.ref a)=true)
  (bi:Binds K fd [putO,putW,putB] []) (nob:∀ x∈bnames,mg x=none) (con:∀ x t,R.con x=some t->∃ u v,mg x=some u/\RelV v u/\∀ F,Rep K F t v) :
  ∀ n,KnAll P w K mg base R n->FnOk P w K mg base CX0 n a fd [putO,putW,putB] (spP lp lb ls K (run R n ".put"))
 | 0,_=>by
  have no:∀ vs H Q E,¬ spP lp lb ls K (run R 0 ".put") vs H Q E:=fun vs H Q E h=>by
   obtain ⟨F,t1,t2,k,t,v1,v2,f,_,_,_,_,_,_,h,_⟩:=h
   cases h
  exact ⟨fun vs H Q E h=>absurd h (no vs H Q E),fun A outer s H args us vs Q E _ _ _ _ h=>absurd h (no vs H Q E)⟩
 | n+1,ihA=>by
  have ih:KnAll P w K mg base R n:=fun m hm=>ihA m (by omega)
  have again:=zqu L hl hp FU S hm hk bi nob con n ih
  have sc:=S.sc
  have hnm:=S.nm
  have hb:=S.bd
  have htr:=S.tr
  simp only [Prod.mk.injEq] at htr
  obtain ⟨g0,g1,g2,g3,g4⟩:=htr
  have hkd:=S.kd
  simp only [List.map_cons,List.map_nil,List.cons.injEq,and_true] at hkd
  obtain ⟨k1,k2,k3⟩:=hkd
  rw [<- hnm] at sc
  refine FU.ok sc (fun vs H Q E h=>?_) (fun cdv A outer s H vs Q E hr h=>?_)
  ·obtain ⟨F,t1,t2,k,t,v1,v2,f,rfl,_⟩:=h
   rfl
  obtain ⟨F,t1,t2,k,t,v1,v2,f,rfl,fh,tb,r1,r2,la,h,q⟩:=h
  obtain ⟨b,hb0,hT,hF⟩:=zo7 hp h
  cases n with
  | zero =>
   cases b with
   | true=>cases hT rfl
   | false=>obtain ⟨_,_,_,_,_,_,_,z,_⟩:=hF rfl;cases z
  | succ m =>
   have gd:=ztq (outer:=outer) (H:=H) (E:=E) ih nob con sc hr
   rw [hnm] at gd ⊢
   have S':=zb6 (glo R (run R (m+1))) (m+1) 60
   have nd:(cxOf CX0 P w K mg base putN qual (zab st) a cdv A outer s H E).nox.N.Nodup:=S.sc.nd
   have par:∀ x∈[putO,putW,putB],Vis (cxOf CX0 P w K mg base putN qual (zab st) a cdv A outer s H E).nox.env.scope x:=fun x hx=>(S.sc.par x hx).imp id .inl
   have vO:=par putO (by simp)
   have vB:=par putB (by simp)
   have ihm:KnAll P w K mg base R m:=fun j hj=>ih j (by omega)
   rw [hb]
   unfold zls
   generalize defBody st=bd at g0 g1 g2 g3 g4 ⊢
   refine ⟨_,zci (zvc (S'.t gd g0).1 (zhi (ziv (zvn (i:=2) (j:=0) L hl ihm nob con hr rfl vB (by decide +kernel) (by decide +kernel) rfl vO (by decide +kernel) (by decide +kernel)))) zlu)
    (zci (zep (i:=3) nd rfl (.inl k1) (S'.v gd g1) (ze5 g1 (fun _ _ _ _ z=>nomatch z) _ _ _) (.inl rfl))
    (zci (zep (i:=4) nd rfl (.inl k2) (zl6 again hr k3 hm hk bi .nil pass0 (zbq (S'.v gd g2) (zbq (S'.v gd g3) (zbq (zdi (i:=2) rfl vB (by decide +kernel) (by decide +kernel)) zer rfl) (zbz g3 _ _)) (zbz g2 _ _)) (by decide +kernel) (zbz g2 _ _) (by rw [zbz g3];rfl)) rfl (.inl rfl)) (zhi (ziv (S'.v gd g4))))),?_⟩
   refine ⟨[some t1,some t2,none,none,none],F,b,zjj rfl fh tb fun i t' hi=>?_,hb0,fun F1 H1 S1=>?_⟩
   ·match i,hi with
    | 0,hi=>cases hi;exact ⟨v1,rfl,r1⟩
    | 1,hi=>cases hi;exact ⟨v2,rfl,r2⟩
    | 2,hi=>cases hi
    | 3,hi=>cases hi
    | 4,hi=>cases hi
    | _+5,hi=>cases hi
   cases b with
   | true =>
    rw [if_pos rfl]
    exact ⟨F1,t1,k,t,v1,f,rfl,rfl,S1.fh,tb.up S1,r1.mono S1.ff,la.up S1,hT rfl,fun v F' H' S2 r=>q v F' H' (S1.trans S2) r⟩
   | false =>
    rw [if_neg zyz]
    obtain ⟨a',x',y',z',c1,c2,c3,c4,c5⟩:=hF rfl
    refine ⟨[some t1,some t2,none,none,none],F1,a',zjj rfl S1.fh (tb.up S1) fun i t' hi=>?_,c1,fun va F2 H2 S2 ra=>?_⟩
    ·match i,hi with
     | 0,hi=>cases hi;exact ⟨v1,rfl,r1.mono S1.ff⟩
     | 1,hi=>cases hi;exact ⟨v2,rfl,r2.mono S1.ff⟩
     | 2,hi=>cases hi
     | 3,hi=>cases hi
     | 4,hi=>cases hi
     | _+5,hi=>cases hi
    have S12:=S1.trans S2
    have env2:∀ {F3 H3:Hp},Step F2 H2 F3 H3->EnvE (cxOf CX0 P w K mg base putN qual (zab st) a cdv A outer s H E).nox (putC st) [some t1,some t2,none,some a',none] F3 [some v1,some v2,some (.ref f),some va,none] H3:=fun {F3 H3} S3=>zjj rfl S3.fh (tb.up (S12.trans S3)) fun i t' hi=>by
     match i,hi with
     | 0,hi=>cases hi;exact ⟨v1,rfl,r1.mono (S12.trans S3).ff⟩
     | 1,hi=>cases hi;exact ⟨v2,rfl,r2.mono (S12.trans S3).ff⟩
     | 2,hi=>cases hi
     | 3,hi=>cases hi;exact ⟨va,rfl,ra.mono S3.ff⟩
     | 4,hi=>cases hi
     | _+5,hi=>cases hi
    refine ⟨_,F2,x',env2 (Step.refl S2.fh),c2,fun vx F3 H3 S3 rx=>?_⟩
    refine ⟨_,F3,y',env2 S3,c3,fun vy F4 H4 S4 ry=>?_⟩
    have S14:=S12.trans (S3.trans S4)
    refine ⟨.ref f,rfl,F4,x',y',k,z',vx,vy,f,rfl,S4.fh,tb.up S14,rx.mono S4.ff,ry,la.up S14,c4,fun vz F5 H5 S5 rz=>?_⟩
    have S15:=S14.trans S5
    refine ⟨[some t1,some t2,none,some a',some z'],F5,t,zjj rfl S5.fh (tb.up S15) fun i t' hi=>?_,c5,fun v F' H' S6 r=>q v F' H' (S15.trans S6) r⟩
    match i,hi with
    | 0,hi=>cases hi;exact ⟨v1,rfl,r1.mono S15.ff⟩
    | 1,hi=>cases hi;exact ⟨v2,rfl,r2.mono S15.ff⟩
    | 2,hi=>cases hi
    | 3,hi=>cases hi;exact ⟨va,rfl,ra.mono (S3.trans (S4.trans S5)).ff⟩
    | 4,hi=>cases hi;exact ⟨vz,rfl,rz⟩
    | _+5,hi=>cases hi
end
end Ev
end
end
end
noncomputable section
noncomputable section
noncomputable section
namespace Ev
open PySem PySem.Spec PyProof.Rows L2
variable {i j:Int}
theorem zkn {pos:Pos} {c cv:Value}:∀ (n:Nat) (l:List Value),l.length<=n->TriplesOk l->codeAmong pos (l++[rawInt i,rawInt j,c])=some cv->codeAmong pos l=some cv\/cv=c:=by
 intro n
 induction n with
 | zero =>
  intro l hl ht h
  obtain rfl:l=[]:=List.length_eq_zero_iff.mp (by omega)
  have h:(if (i==pos.line&&j==pos.col)=true then some c else codeAmong pos [])=some cv:=h
  split at h
  ·cases h;exact .inr rfl
  ·exact .inl h
 | succ n ih =>
  intro l hl ht h
  unfold TriplesOk at ht
  split at ht
  ·have h:(if (i==pos.line&&j==pos.col)=true then some c else codeAmong pos [])=some cv:=h
   split at h
   ·cases h;exact .inr rfl
   ·exact .inl h
  ·rename_i a s b t d rest
   have h:(if (a==pos.line&&b==pos.col)=true then some d else codeAmong pos (rest++[rawInt i,rawInt j,c]))=some cv:=h
   show (if (a==pos.line&&b==pos.col)=true then some d else codeAmong pos rest)=some cv\/cv=c
   split at h
   ·rename_i e;rw [if_pos e];exact .inl h
   ·rename_i e;rw [if_neg e];exact ih rest (by simp at hl;omega) ht h
  ·exact ht.elim
theorem zk3 {c:Value}:∀ (n:Nat) (l:List Value),l.length<=n->TriplesOk l->TriplesOk (l++[rawInt i,rawInt j,c]):=by
 intro n
 induction n with
 | zero =>
  intro l hl ht
  obtain rfl:l=[]:=List.length_eq_zero_iff.mp (by omega)
  exact trivial
 | succ n ih =>
  intro l hl ht
  unfold TriplesOk at ht
  split at ht
  ·exact trivial
  ·rename_i a s b t d rest
   exact ih rest (by simp at hl;omega) ht
  ·exact ht.elim
structure TabK (K:PySem.W.Frag) (mg:Str->Option Value) (cc p:Addr):Prop where
 tab:tabOf K=some p
 hd:∀ h,K.In h->PySem.W.CodeHd h cc p
 bm:∀ h,K.In h->h.BuiltinsAt mg p
section
variable {lp:Arguments} {lb:Expr} {ls:Scope} {X:Cx} {cc p:Addr}
def spMk (lp:Arguments) (lb:Expr) (ls:Scope) (X:Cx) (c:Addr):TE:=fun σ H Q=>∃ F,Same F H/\Tbk X.K F H /\
 ∀ (f cd:Addr) (pm ctv:Value) (oc:Obj) (vs:Array Value) (t:Nat) (H':Hp),Step F H F H'->H' f=some (lab (lamO lp lb ls c pm cd ctv))->H' cd=some (lab oc)->oc.data=.fields vs->vs[1]?=some (.str lamQ t)->Q (V.ref f) H'
theorem zoo {F H:Hp} {ps:Array Value} {cd:Addr} {oc:Obj} {vs:Array Value} {t:Nat} (fh:Same F H) (hF:F p=none) (hp:H p=some (.tbl ps)) (ht:TriplesOk ps.toList) (hps:∀ pos cv,codeAmong pos ps.toList=some cv->CdAt H cv)
  (hc:H cd=none) (hd:oc.data=.fields vs) (hv:vs[1]?=some (.str lamQ t)):Step F H F (upd (upd H p (.tbl (ps++#[rawInt i,rawInt j,.ref cd]))) cd (lab oc)):=by
 have hcp:p≠cd:=zac hp hc
 have frz:∀ a o u,H a=some (.frz o u)->upd (upd H p (.tbl (ps++#[rawInt i,rawInt j,.ref cd]))) cd (lab oc) a=some (.frz o u):=fun a o u e=>by
  rw [zad (zac e hc),zad (zcb e hp (by intro z;cases z))];exact e
 refine ⟨⟨fun b u q n=>?_,fun b q=>?_,fun b q=>?_,fun b qs q=>?_⟩,Same.refl F,fun b u q=>?_,fun a z=>.inl z⟩
 ·rw [zad (zac q hc),zad (zcb q hp (by intro z;subst z;cases n))];exact q
 ·by_cases h1:b=cd
  ·subst h1;exact hc
  ·rw [zad h1] at q
   by_cases h2:b=p
   ·subst h2;rw [zae] at q;cases q
   ·rw [zad h2] at q;exact q
 ·by_cases hb:b=p
  ·subst hb
   refine ⟨_,by rw [zad hcp];exact zae,?_,fun pos cv e=>?_⟩
   ·rw [Array.toList_append];exact zk3 _ _ (zyl _) ht
   ·rw [Array.toList_append] at e
    rcases zkn _ _ (zyl _) ht e with e | rfl
    ·exact (hps pos cv e).up frz
    ·exact ⟨cd,oc,vs,t,rfl,zae,hd,hv⟩
  ·obtain ⟨qs,g1,g2,g3⟩:=q
   exact ⟨qs,by rw [zad (zac g1 hc),zad hb];exact g1,g2,fun pos cv e=>(g3 pos cv e).up frz⟩
 ·by_cases hb:b=p
  ·subst hb;exact ⟨_,by rw [zad hcp];exact zae⟩
  ·exact ⟨qs,by rw [zad (zac q hc),zad hb];exact q⟩
 ·have:=fh b u q
  rw [zad (zac this hc),zad (zac q hF)];exact this
theorem zxu {pos:Pos} {c:Addr} (L:LamS lp lb ls) (clo:closureFor ls X.env=pure [(lamNx,c)]) (hq:X.env.qual++"<lambda>"=lamQ) (hcode:X.env.code=.ref cc) (T:TabK X.K X.mg cc p):PE X (.Lambda lp lb ls pos) (spMk lp lb ls X c):=by
 intro pins s σ H Q I h
 obtain ⟨F,fh,tb,q⟩:=h
 obtain ⟨hF,ps,hp,ht,hps⟩:=tb p T.tab
 have hP:s.heap.get? p=some (PySem.W.tabObj ps):=I.hok p _ hp
 have hg:=I.mod.glob.keeps I.bk
 have hgP:mainGlobals≠p:=fun z=>by
  obtain ⟨o,es,ep,e,hd,_⟩:=hg
  rw [z,hP] at e;cases e;cases hd
 have hb:=T.bm _ I.kIn
 have hC:=T.hd _ I.kIn
 obtain ⟨a,hlp,_⟩:=L.par
 refine PySem.W.kla_eval (by rw [hlp];rfl) ?_
 rw [hq]
 cases hca:codeAmong pos ps.toList with
 | some cv =>
  obtain ⟨cd,oc,vs,t,rfl,g2,g3,g4⟩:=hps pos cv hca
  refine PySem.W.kla_makeFunctionHit clo I.ok.glob hg hcode hC hP ht hca hb fun ctv h' tk hk hsz=>?_
  show EP X pins σ Q (.ref h'.objs.size) { s with heap:=h'.push (lamO lp lb ls c ((X.mg "__name__").getD .none) cd ctv),toks:=tk }
  generalize hlo:lamO lp lb ls c ((X.mg "__name__").getD .none) cd ctv=lo
  have hk':∀ b o,s.heap.get? b=some o->(h'.push lo).get? b=some o:=fun b o e=>zyb _ (hk b o e)
  have hn:H h'.objs.size=none:=I.hok.fresh hsz
  have hnew:(h'.push lo).get? h'.objs.size=some lo:=zyg _ (by rw [<- hlo];rfl)
  have un:Un (frs X.stack) [] H (upd H h'.objs.size (lab lo)) s.heap (h'.push lo):=Un.laid hk' hsz hn
  have ok:HOk X.prog X.w (upd H h'.objs.size (lab lo)) (h'.push lo):=I.hok.laid hk' hsz ⟨hnew,_,hnew⟩
  have J:=I.call (g':=s.gens) (d':=s.drawn) (t':=tk) un ok I.bare (fun b z=>absurd z (by simp))
  exact ⟨V.ref h'.objs.size,_,J,rfl,q h'.objs.size cd ((X.mg "__name__").getD .none) ctv oc vs t _ ((Step.refl fh).newH (o:=lab lo) hn) (by rw [hlo];exact zae) (by rw [zad (zac g2 hn)];exact g2) g3 g4⟩
 | none =>
  refine PySem.W.kla_makeFunction clo I.ok.glob hg hcode hC hP ht hca hgP hb fun cd ctv h' tk hx hge hlt hrec htb=>?_
  obtain ⟨cd2,oc,vs,t,e2,hoc,hd,hv⟩:=hrec
  cases e2
  show EP X pins σ Q (.ref h'.objs.size) { s with heap:=h'.push (lamO lp lb ls c ((X.mg "__name__").getD .none) cd ctv),toks:=tk }
  generalize hlo:lamO lp lb ls c ((X.mg "__name__").getD .none) cd ctv=lo
  have hc0:H cd=none:=I.hok.fresh hge
  have S1:=zoo (i:=pos.line) (j:=pos.col) fh hF hp ht hps hc0 hd hv
  have hsz:s.heap.objs.size<=h'.objs.size:=zzn hge (Nat.le_of_lt hlt)
  have hn0:H h'.objs.size=none:=I.hok.fresh hsz
  have hpf:p≠h'.objs.size:=zac hp hn0
  have hcf:cd≠h'.objs.size:=zyy hlt
  have hcp:p≠cd:=zac hp hc0
  generalize hH1:upd (upd H p (.tbl (ps++#[rawInt pos.line,rawInt pos.col,.ref cd]))) cd (lab oc)=H1 at S1
  have e1:∀ b,b≠p->b≠cd->H1 b=H b:=fun b h1 h2=>by rw [<- hH1,zad h2,zad h1]
  have e2:H1 p=some (.tbl (ps++#[rawInt pos.line,rawInt pos.col,.ref cd])):=by rw [<- hH1,zad hcp];exact zae
  have e3:H1 cd=some (lab oc):=by rw [<- hH1];exact zae
  have hn:H1 h'.objs.size=none:=by rw [e1 _ (Ne.symm hpf) (Ne.symm hcf)];exact hn0
  have hnew:(h'.push lo).get? h'.objs.size=some lo:=zyg _ (by rw [<- hlo];rfl)
  have k1:∀ b o,b≠p->s.heap.get? b=some o->h'.get? b=some o:=fun b o hb e=>hx b o hb e
  have old:∀ {b:Addr} {u:HO},H b=some u->b≠p->H1 b=some u:=fun {b u} e hb=>by rw [e1 b hb (zac e hc0)];exact e
  have un1:Un (frs X.stack) [] H H1 s.heap h':=by
   refine ⟨fun b o e n _ _=>k1 b o (fun z=>by subst z;rw [hp] at n;cases n) e,fun b o e n _ _=>⟨o.slots,k1 b o (fun z=>by subst z;rw [hp] at n;cases n) e⟩,fun b o e n _=>?_,fun b o e _=>?_,fun b xs e=>old e (zcb e hp (by intro z;cases z)),fun b o u e=>old e (zcb e hp (by intro z;cases z)),fun b qs e=>?_⟩
   ·rw [e1 b (fun z=>by subst z;rw [hp] at n;cases n) (zyy (zyq (zym e) hge))];exact n
   ·by_cases hb:b=p
    ·subst hb;exact ⟨_,htb⟩
    ·exact ⟨o,k1 b o hb e⟩
   ·by_cases hb:b=p
    ·subst hb;rw [hp] at e;cases e;exact ⟨_,e2⟩
    ·exact ⟨#[],by rw [old e hb];simp⟩
  have ok1:HOk X.prog X.w H1 h':=fun b u e=>by
   by_cases hb:b=p
   ·subst hb;rw [e2] at e;cases e;exact htb
   ·by_cases hbc:b=cd
    ·subst hbc;rw [e3] at e;cases e;exact ⟨hoc,_,hoc⟩
    ·rw [e1 b hb hbc] at e
     exact (I.hok b u e).stay (fun b' o h1 h2=>k1 b' o (by
      rcases h1 with rfl | h1
      ·exact hb
      ·exact zcb h1 hp (by intro z;cases z)) h2) (fun b' q=>old q (zcb q hp (by intro z;cases z))) fun b' xs q=>old q (zcb q hp (by intro z;cases z))
  have kp:∀ b o,h'.get? b=some o->(h'.push lo).get? b=some o:=fun b o e=>zyb _ e
  have un:Un (frs X.stack) [] H (upd H1 h'.objs.size (lab lo)) s.heap (h'.push lo):=un1.trans (Un.laid kp (zyl _) hn)
  have ok:HOk X.prog X.w (upd H1 h'.objs.size (lab lo)) (h'.push lo):=ok1.laid kp (zyl _) ⟨hnew,_,hnew⟩
  have J:=I.call (g':=s.gens) (d':=s.drawn) (t':=tk) un ok I.bare (fun b z=>absurd z (by simp))
  exact ⟨V.ref h'.objs.size,_,J,rfl,q h'.objs.size cd ((X.mg "__name__").getD .none) ctv oc vs t _ (S1.newH (o:=lab lo) hn) (by rw [hlo];exact zae) (by rw [zad hcf];exact e3) hd hv⟩
end
end Ev
end
end
end
noncomputable section
noncomputable section
noncomputable section
namespace Ev
open PySem PySem.Spec PyProof.Rows L2
variable {fd:FuncData}
def spoF:Str:="_law_spoilt"
def spoT:Str:="_law_thing"
def spoD:Str:="_law_deep"
def spoW:Str:="_law_bent_ways"
def spoN:List Str:=[spoT,lamNx,spoD,spoW,putW]
def spoS1:S:=.asg 3 (.call "_law_places_in" [.var 0,.tup []])
def spoE2:E:=.idx (.var 3) (.bin .mod (.var 1) (.blt .len (.var 3)))
def zaz:Fd:=⟨3,5,[spoS1,.asg 4 spoE2,.ret (.call ".put" [.var 0,.var 4,.var 1])]⟩
def lamOf (e:Expr):Arguments × Expr × Scope × Pos:=match e with
 | .Lambda a b s p=>(a,b,s,p)
 | _=>(⟨[],[],none,[],[],none,[]⟩,noE,zab (.Pass ⟨0,0,0,0⟩),⟨0,0,0,0⟩)
abbrev spoL (st:Stmt):Arguments × Expr × Scope × Pos:=lamOf (exA (stE (sAt (defBody st) 2)) 2)
def zla (b:List Stmt):List Stmt :=
 [sAt b 0,sAt b 1,.Return (some (.Call (.Name putF (exP (exF (stE (sAt b 2))))) [.Name spoT (exP (exA (stE (sAt b 2)) 0)),.Name putW (exP (exA (stE (sAt b 2)) 1)),.Lambda (lamOf (exA (stE (sAt b 2)) 2)).1 (lamOf (exA (stE (sAt b 2)) 2)).2.1 (lamOf (exA (stE (sAt b 2)) 2)).2.2.1 (lamOf (exA (stE (sAt b 2)) 2)).2.2.2] [] (exP (stE (sAt b 2))))) (stP (sAt b 2))]
structure SpoS (st:Stmt):Prop where
 nm:zar (zab st)=spoN
 sc:FnScope spoN [spoT,lamNx,spoD] (zab st)
 kd:([spoT,putW,lamNx,putF].map fun x=>(zab st).names.lookup x)=[some .local,some .local,some .cell,some .globalImplicit]
 bd:defBody st=zla (defBody st)
 tr:(trS 60 ⟨zab st,spoN⟩ (sAt (defBody st) 0),trS 60 ⟨zab st,spoN⟩ (sAt (defBody st) 1))=(some spoS1,some (.asg 4 spoE2))
 lam:LamS (spoL st).1 (spoL st).2.1 (spoL st).2.2.1
 clo:∀ (env:PySem.Env) (c:Addr),env.cells.lookup lamNx=some c->closureFor (spoL st).2.2.1 env=pure [(lamNx,c)]
theorem zor {R:Pr} {n:Nat} {t1 t2 t3 t:T} (hs:R.fn spoF=some zaz) (h:run R (n+1) spoF [t1,t2,t3]=some t) :
  ∃ W y k,t2=.int k/\evS (glo R (run R n)) spoS1 [.val t1,.val t2,.val t3,.no,.no]=some (.nx [.val t1,.val t2,.val t3,.val W,.no])/\evS (glo R (run R n)) (.asg 4 spoE2) [.val t1,.val t2,.val t3,.val W,.no]=some (.nx [.val t1,.val t2,.val t3,.val W,.val y]) /\
   run R n ".put" [t1,y,.int k]=some t:=by
 rw [run,hs] at h
 have h:zaa ((((run R n "_law_places_in" [t1,.tup []]).bind fun W=>some (Out.nx [.val t1,.val t2,.val t3,.val W,.no])).bind fun o=>match o with
  | .nx τ'=>evSs (glo R (run R n)) [.asg 4 spoE2,.ret (.call ".put" [.var 0,.var 4,.var 1])] τ'
  | o=>some o))=some t:=h
 have e1:evS (glo R (run R n)) spoS1 [.val t1,.val t2,.val t3,.no,.no]=(run R n "_law_places_in" [t1,.tup []]).bind fun W=>some (Out.nx [.val t1,.val t2,.val t3,.val W,.no]):=rfl
 cases hW:run R n "_law_places_in" [t1,.tup []] with
 | none=>rw [hW] at h;cases h
 | some W =>
  rw [hW] at h e1
  have h:zaa (((evE (glo R (run R n)) spoE2 [some t1,some t2,some t3,some W,none]).bind fun y=>some (Out.nx [.val t1,.val t2,.val t3,.val W,.val y])).bind fun o=>match o with
   | .nx τ'=>evSs (glo R (run R n)) [.ret (.call ".put" [.var 0,.var 4,.var 1])] τ'
   | o=>some o)=some t:=h
  have e2:evS (glo R (run R n)) (.asg 4 spoE2) [.val t1,.val t2,.val t3,.val W,.no]=(evE (glo R (run R n)) spoE2 [some t1,some t2,some t3,some W,none]).bind fun y=>some (Out.nx [.val t1,.val t2,.val t3,.val W,.val y]):=rfl
  cases hy:evE (glo R (run R n)) spoE2 [some t1,some t2,some t3,some W,none] with
  | none=>rw [hy] at h;cases h
  | some y =>
   rw [hy] at h e2
   have hk:∃ k,t2=.int k:=by
    have hy:((some W).bind fun x=>((some t2).bind fun a=>(evE (glo R (run R n)) (.blt .len (.var 3)) [some t1,some t2,some t3,some W,none]).bind fun b=>modT a b).bind fun i=>idxT x i)=some y:=hy
    obtain ⟨_,_,hy⟩:=obs hy
    obtain ⟨_,hy,_⟩:=obs hy
    obtain ⟨a,ha,hy⟩:=obs hy
    cases ha
    obtain ⟨b,_,hy⟩:=obs hy
    cases t2 with
    | int k=>exact ⟨k,rfl⟩
    | _=>cases b<;>cases hy
   obtain ⟨k,rfl⟩:=hk
   have h:zaa (((run R n ".put" [t1,y,.int k]).map Out.rt).bind fun o=>match o with
    | .nx τ'=>evSs (glo R (run R n)) [] τ'
    | o=>some o)=some t:=h
   refine ⟨W,y,k,rfl,e1,e2,?_⟩
   cases hz:run R n ".put" [t1,y,.int k] with
   | none=>rw [hz] at h;cases h
   | some z=>rw [hz] at h;cases h;rfl
section
variable {R:Pr} {lp:Arguments} {lb:Expr} {ls:Scope} {X:Cx} {cc p:Addr}
def spMp (K:PySem.W.Frag) (R:Pr) (n:Nat):TE:=fun σ H Q=>∃ F t1 t2 k t v1 v2,σ[0]?=some (some v1)/\σ[4]?=some (some v2)/\σ[1]?=some (some (V.int k))/\Same F H/\Tbk K F H/\Rep K F t1 v1/\Rep K F t2 v2/\run R n ".put" [t1,t2,.int k]=some t /\
 ∀ v F' H',Step F H F' H'->Rep K F' t v->Q v H'
theorem zxt {n:Nat} {a c:Addr} {p0 p1 p2 pl pos:Pos} (L:LamS lp lb ls) (FP:FnOk X.prog X.w X.K X.mg X.base CX0 n a fd [putO,putW,putB] (spP lp lb ls X.K (run R n ".put"))) (hr:Room n X.A) (hm:X.mg putF=some (.ref a)) (hk:PySem.W.keepIn X.K (.ref a)=true) (bi:Binds X.K fd [putO,putW,putB] [])
  (hN:X.N=spoN) (vT:Vis X.env.scope spoT) (vW:Vis X.env.scope putW) (kN:X.env.kindOf lamNx=some .cell) (gF:Gl X putF) (hc:X.env.cells.lookup lamNx=some c) (hfn:X.fn lamNx=true) (clo:closureFor ls X.env=pure [(lamNx,c)]) (hq:X.env.qual++"<lambda>"=lamQ) (hcode:X.env.code=.ref cc) (T:TabK X.K X.mg cc p) :
  PE X (.Call (.Name putF p0) [.Name spoT p1,.Name putW p2,.Lambda lp lb ls pl] [] pos) (spMp X.K R n):=by
 intro pins s σ H Q I h
 obtain ⟨F,t1,t2,k,t,v1,v2,s1,s2,s3,fh,tb,r1,r2,he,q⟩:=h
 have pa:=zbq (zdi (X:=X) (i:=0) (pos:=p1) (by rw [hN];rfl) vT (by decide +kernel) (by decide +kernel)) (zbq (zdi (i:=4) (pos:=p2) (by rw [hN];rfl) vW (by decide +kernel) (by decide +kernel)) (zbq (zxu (pos:=pl) L clo hq hcode T) zer rfl) rfl) rfl
 refine wpAny_Call_Name_kw (zhr I gF hm ?_ (by decide +kernel))
 refine PySem.W.callWith_K (h₀:=X.base) I.ok.mod.kin hk (thn (pa pos pins s σ H (fun vs H1=>∃ (f cd:Addr) (pm ctv:Value) (oc:Obj) (ovs:Array Value) (tt:Nat),vs=[v1,v2,V.ref f]/\Step F H F H1/\H1 f=some (lab (lamO lp lb ls c pm cd ctv))/\H1 cd=some (lab oc)/\oc.data=.fields ovs/\ovs[1]?=some (.str lamQ tt)) I
  ⟨v1,s1,v2,s2,F,fh,tb,fun f cd pm ctv oc ovs tt H1 S g1 g2 g3 g4=>⟨f,cd,pm,ctv,oc,ovs,tt,rfl,S,g1,g2,g3,g4⟩⟩) fun us s4 ⟨vs,H1,I1,rv,f,cd,pm,ctv,oc,ovs,tt,hvs,S1,g1,g2,g3,g4⟩=>⟨I1.kIn,?_⟩) rfl rfl
 subst hvs
 obtain ⟨m,hn,hl⟩:=I1.loc
 obtain ⟨u,ru,hlk⟩:=hl 1 lamNx (.int k) (by rw [hN];rfl) s3 (.inr (.inl kN))
 have hcell:s4.heap.IsCell c (some u):=by
  rcases hlk with ⟨z,_⟩ | ⟨_,c',h1,h2⟩
  ·rw [kN] at z;cases z
  ·rw [hc] at h1;cases h1;exact h2
 obtain ⟨cob,hoc,hcd⟩:=hcell
 have hHc:H1 c=none:=I1.freeC lamNx c hc
 have hFc:F c=none:=S1.fh.free hHc
 have cab:=I1.ok.cab lamNx c hfn hc
 have hcs:c∉frs X.stack:=fun z=>by
  rcases omc (I1.stkSub c z) with e | hb
  ·exact I1.cne lamNx c hc e
  ·obtain ⟨_,o,ho,_⟩:=I1.ok.funs.mem hb
   exact absurd (zyq (zym ho) cab) (zy1 _)
 have e0:=I1.env0
 have e1:Env0 X.prog X.w X.K X.mg X.base X.A X.stack s4 (upd H1 c (lab cob)):=⟨e0.frames,e0.mod,fun b o e=>⟨(e0.bs b o e).1,by
   rw [zad fun z=>by
    subst z
    exact absurd (zyq (zyq (zym e) I1.ok.bsz) cab) (zy1 _)];exact (e0.bs b o e).2⟩,e0.bsz,e0.funs,fun b z=>by
   have hbc:b≠c:=fun y=>by subst y;exact hcs z
   rw [zad hbc];exact e0.frf b z,zm1 e0.hok hHc hoc,e0.bare⟩
 have sm:Same H1 (upd H1 c (lab cob)):=za8 hHc
 have la:LamAt lp lb ls F (upd H1 c (lab cob)) f k:=⟨c,cd,pm,ctv,oc,cob,ovs,tt,u,sm _ _ g1,hFc,zae,hcd,ru,sm _ _ g2,g3,g4⟩
 have r2':Vals ([v1,v2,V.ref f]++[]) (us++[]):=rv.append .nil
 have hl2:(us++[]).length=[putO,putW,putB].length:=by rw [<- r2'.length];rfl
 show wpAny (model X.prog X.w) X.A (call (.ref a) us) (EP X pins σ Q) X.xe s4
 refine wpAny_call (codeAny_mono (FP.run X.A X.stack s4 (upd H1 c (lab cob)) ⟨us,[]⟩ (us++[]) ([v1,v2,V.ref f]++[]) (fun v H'=>∃ F',Step F (upd H1 c (lab cob)) F' H'/\Rep X.K F' t v) E0 hr e1 (bi s4 us I1.kIn hl2) r2'
  ⟨F,t1,t2,k,t,v1,v2,f,rfl,S1.fh.trans sm,fun p z=>⟨(tb.up S1 p z).1,(tb.up S1 p z).2.up (fun a o u e=>sm _ _ e) fun a ps e=>sm _ _ e⟩,r1,r2,la,he,fun v F' H' S r=>⟨F',S,r⟩⟩) fun r s' hq=>?_)
 cases r with
 | error e=>exact hq.elim
 | ok fl =>
  cases fl with
  | ret u' =>
   obtain ⟨v,H',os,bare,un,hok,rv',F',S,r⟩:=hq
   exact I1.after ⟨v,del H' c,os,bare,zuh un hok hHc hoc hcs,zm0 hok (un.frzs c _ _ zae),rv',q v F' _ (S1.trans (zop S hFc hHc hcd)) r⟩
  | next=>exact False.elim hq
  | brk=>exact False.elim hq
  | cont=>exact False.elim hq
end
section
variable {P:Program} {w:World} {K:PySem.W.Frag} {mg:Str->Option Value} {base:Heap} {R:Pr} {cc p:Addr}
theorem zup {st sp:Stmt} {x qual:Str} {a ap:Addr} {fp:FuncData} (hl:R.fn ".lam"=some zay) (hp:R.fn ".put"=some zaj) (hs:R.fn spoF=some zaz) (S:SpoS st) (FU:Fun K spoF spoF st a fd) (hcc:fnCode (K.lookup a)=some cc) (TK:TabK K mg cc p)
  (SP:PutS sp) (FP:Fun K x qual sp ap fp) (hm:mg putF=some (.ref ap)) (hk:PySem.W.keepIn K (.ref ap)=true) (bi:Binds K fp [putO,putW,putB] []) (nob:∀ x∈bnames,mg x=none) (con:∀ x t,R.con x=some t->∃ u v,mg x=some u/\RelV v u/\∀ F,Rep K F t v)
  (n:Nat) (ih:KnAll P w K mg base R n):FnOk P w K mg base CX0 (n+1) a fd [spoT,lamNx,spoD] (spT K (run R (n+1) spoF)):=by
 have PF:=zqu (P:=P) (w:=w) (base:=base) S.lam hl hp FP SP hm hk bi nob con n ih
 obtain ⟨oc,od,kV,doc,pm,an,cdv,ct,osl,rfl,lk,hcd⟩:=FU.ex
 have hcv:cdv=.ref cc:=by
  rw [lk] at hcc
  cases cdv with
  | ref c=>cases hcc;rfl
  | _=>cases hcc
 subst hcv
 have sc:=S.sc
 have hnm:=S.nm
 rw [<- hnm] at sc
 have hkd:=S.kd
 simp only [List.map_cons,List.map_nil,List.cons.injEq,and_true] at hkd
 obtain ⟨k1,k2,k3,k4⟩:=hkd
 have htr:=S.tr
 simp only [Prod.mk.injEq] at htr
 obtain ⟨g1,g2⟩:=htr
 have inv:∀ {ts:List T} {t:T},run R (n+1) spoF ts=some t->ts.length=3:=fun {ts t} h=>by
  rw [run,hs] at h
  simp only [Option.bind_some] at h
  split at h
  ·rename_i e;exact e
  ·cases h
 refine zwu lk hcd sc (fun vs H Q E h=>?_) fun A outer s H vs Q E hr h=>?_
 ·obtain ⟨F,ts,t,fh,tb,r,h,_⟩:=h
  rw [r.length,inv h];rfl
 obtain ⟨F,ts,t,fh,tb,r,h,q⟩:=h
 match ts,inv h,r,h with
 | [t1,t2,t3],_,r,h =>
  obtain ⟨W,y,k,rfl,e1,e2,e3⟩:=zor hs h
  have gd:=ztq (outer:=outer) (H:=H) (E:=E) ih nob con sc hr
  have fx:Fx (cxOf CX0 P w K mg base (zar (zab st)) spoF (zab st) a (.ref cc) A outer s H E).nox ⟨zab st,zar (zab st)⟩:=⟨rfl,fun x h=>h,fun _=>rfl,rfl⟩
  rw [hnm] at gd fx ⊢
  obtain ⟨c,hc⟩:=zfv (n:=s.heap.objs.size+1) k3
  have ps1:=(zct (F0:=F) (H0:=H) gd fx 60).1 _ _ g1
  have ps2:=(zct (F0:=F) (H0:=H) gd fx 60).1 _ _ g2
  have pe:=fun (p0 p1 p2 pl pos:Pos)=>zxt (X:=(cxOf CX0 P w K mg base spoN spoF (zab st) a (.ref cc) A outer s H E).nox) (R:=R) (p0:=p0) (p1:=p1) (p2:=p2) (pl:=pl) (pos:=pos) S.lam PF hr hm hk bi rfl (.inl k1) (.inl k2) k3 k4 hc rfl (S.clo _ c hc) (by show (spoF++".<locals>.")++"<lambda>"=lamQ;decide +kernel) rfl TK
  rw [S.bd]
  unfold zla
  refine ⟨_,(zci ps1 (zci ps2 (zhi (ziv (pe _ _ _ _ _))))).nox,?_⟩
  have en:EnvS (cxOf CX0 P w K mg base spoN spoF (zab st) a (.ref cc) A outer s H E).nox F H (begin' zaz [t1,.int k,t3]) (L2.start spoN vs) F H:=zim rfl fh tb r
  refine ⟨_,F,_,en,e1,fun σ1 F1 H1 en1 _=>⟨_,F1,_,en1,e2,fun σ2 F2 H2 en2 _=>?_⟩⟩
  obtain ⟨v1,q1,r1⟩:=en2.val 0 t1 rfl
  obtain ⟨v2,q2,r2⟩:=en2.val 4 y rfl
  obtain ⟨v3,q3,r3⟩:=en2.val 1 (.int k) rfl
  cases (show v3=.int k from r3)
  exact ⟨F2,t1,y,k,t,v1,v2,q1,q2,q3,en2.st.fh,tb.up en2.st,r1,r2,e3,fun v F' H' S' r'=>q v F' H' (en2.st.trans S') r'⟩
end
end Ev
end
end
end
noncomputable section
noncomputable section
noncomputable section
namespace Ev
open PySem PySem.Spec PyProof.Rows L2
variable {h:Heap} {x:Str} {fs:List (Str × Stmt)} {bs:List Str} {cs:List (Str × T)}
noncomputable def seeNs (h:Heap) (ns:Addr) (x:Str):Option (Option Value):=match h.get? ns with
 | some ⟨_,_,.dict es _,_⟩=>(match es.toList.find? (·.key.isStr x) with
   | some e=>some (some e.val)
   | none=>if es.toList.any (·.refKey) then none else some none)
 | _=>none
structure FnV where
 name:Str
 qual:Str
 params:Arguments
 body:FuncBody
 scope:Scope
 globals:Addr
 closure:List (Str × Addr)
 defaults:Value
 builtins:Addr
noncomputable def fnV (f:FuncData):FnV:=⟨f.name,f.qualname,f.params,f.body,f.scope,f.globals,f.closure,f.defaults,f.builtins⟩
noncomputable def fnVOf (x:Str) (st:Stmt):FnV:=fnV (PySem.W.fnOf x x (za4 st) (defBody st) (zab st) .none .none .none .none none .none .none)
noncomputable def zhb (h:Heap) (cd:Value) (q:Str):Bool:=match cd with
 | .ref c=>(match h.get? c with
   | some ⟨_,_,.fields vs,_⟩=>(match vs.toList with | _::.str n _::_=>n==q | _=>false)
   | _=>false)
 | _=>false
noncomputable def seeFn (h:Heap) (x:Str):Option (FnV × Bool):=match seeNs h mainGlobals x with
 | some (some (.ref a))=>(match h.get? a with
   | some ⟨_,_,.func f,_⟩=>some (fnV f,zhb h f.code x)
   | _=>none)
 | _=>none
noncomputable def seeT (h:Heap):Nat->Value->Option T
 | _,.none=>some .non
 | _,.bool b=>some (.bl b)
 | _,.int i _=>some (.int i)
 | _,.str x _=>some (.str x)
 | _,_=>none
noncomputable def seeC (h:Heap) (x:Str):Option T:=match seeNs h mainGlobals x with
 | some (some v)=>seeT h 4 v
 | _=>none
noncomputable def seeAll (fs bs cs:List Str) (h:Heap):List (Option (FnV × Bool)) × List (Option (Option Value)) × List (Option T):=(fs.map (seeFn h),bs.map (seeNs h mainGlobals),cs.map (seeC h))
noncomputable def dueAll (fs:List (Str × Stmt)) (bs:List Str) (cs:List (Str × T)):List (Option (FnV × Bool)) × List (Option (Option Value)) × List (Option T):=(fs.map fun p=>some (fnVOf p.1 p.2,true),bs.map fun _=>some none,cs.map fun p=>some p.2)
noncomputable def KH (h:Heap):PySem.W.Frag:=(List.range h.objs.size).filterMap fun a=>(h.get? a).map fun o=>(a,o)
theorem zwq {a:Addr} {o:Obj} (e:h.get? a=some o):a<h.objs.size:=by
 by_cases hl:a<h.objs.size
 ·exact hl
 ·have:h.objs[a]?=none:=Array.getElem?_eq_none (Nat.le_of_not_lt hl)
  unfold Heap.get? at e
  rw [this] at e
  cases e
theorem zmn {f:Addr->Option Obj} {a:Addr}:∀ l:List Addr,((l.filterMap fun b=>(f b).map fun o=>(b,o)).lookup a)=if a∈l then f a else none
 | []=>rfl
 | b::l=>by
  have ih:=zmn (f:=f) (a:=a) l
  rw [zzg]
  by_cases hab:a=b
  ·subst hab
   cases hf:f a with
   | none=>simp only [Option.map_none];rw [ih,hf];simp
   | some o=>simp only [Option.map_some];rw [List.lookup_cons];simp
  ·cases hf:f b with
   | none=>simp only [Option.map_none];rw [ih];simp [hab]
   | some o =>
    simp only [Option.map_some]
    rw [List.lookup_cons,show (a==b)=false by simpa using hab,ih]
    simp [hab]
theorem zb7 (h:Heap) (a:Addr):(KH h).lookup a=h.get? a:=by
 unfold KH
 rw [zmn]
 split
 ·rfl
 ·rename_i hn
  cases e:h.get? a with
  | none=>rfl
  | some o=>exact absurd (zzo.mpr (zwq e)) hn
theorem zx4 {h':Heap} (k:∀ b o,h.get? b=some o->h'.get? b=some o):(KH h).In h':=fun a o e=>k a o (by rw [<- zb7];exact e)
theorem zkg {ns:Addr}:PySem.W.nsIn (KH h) ns x=seeNs h ns x:=by
 unfold PySem.W.nsIn seeNs
 rw [zb7]
 rfl
theorem ztg {cd:Value} {q:Str}:PySem.W.codeIn (KH h) cd q=zhb h cd q:=by
 unfold PySem.W.codeIn zhb
 cases cd with
 | ref c=>simp only [zb7];rfl
 | _=>rfl
theorem zsa {st:Stmt} (e:seeFn h x=some (fnVOf x st,true)):∃ f fd,PySem.W.nsIn (KH h) mainGlobals x=some (some (.ref f))/\Fun (KH h) x x st f fd:=by
 unfold seeFn at e
 split at e
 ·rename_i a ha
  split at e
  ·rename_i oc od f sl ho
   have e:=zy5 e
   have e1:=zzf Prod.fst e
   have e2:=zzf Prod.snd e
   dsimp only at e1 e2
   obtain ⟨n,q,p,b,sc,g,cl,df,kd,doc,pm,an,cd,ct,bi⟩:=f
   unfold fnVOf fnV at e1
   dsimp only [PySem.W.fnOf] at e1
   obtain ⟨rfl,rfl,rfl,rfl,rfl,rfl,rfl,rfl,rfl⟩:=FnV.mk.inj e1
   have hl:(KH h).lookup a=some ⟨oc,od,.func (PySem.W.fnOf q q (za4 st) (defBody st) (zab st) .none kd doc pm an cd ct),sl⟩:=by rw [zb7];exact ho
   refine ⟨a,_,by rw [zkg];exact ha,zwt hl (by rw [ztg];exact e2) ?_⟩
   simp only [PySem.W.keepIn,hl]
  ·cases e
 ·cases e
theorem zuu (e:seeAll (fs.map (·.1)) bs (cs.map (·.1)) h=dueAll fs bs cs) {p:Str × Stmt} (hp:p∈fs):seeFn h p.1=some (fnVOf p.1 p.2,true):=by
 have e1:=zzf Prod.fst e
 unfold seeAll dueAll at e1
 dsimp only at e1
 rw [zzk] at e1
 exact List.map_inj_left.mp e1 p hp
theorem zxo (e:seeAll (fs.map (·.1)) bs (cs.map (·.1)) h=dueAll fs bs cs) (hx:x∈bs):seeNs h mainGlobals x=some none:=by
 have e1:=zzf (fun p=>p.2.1) e
 unfold seeAll dueAll at e1
 dsimp only at e1
 exact List.map_inj_left.mp e1 x hx
theorem zxn (e:seeAll (fs.map (·.1)) bs (cs.map (·.1)) h=dueAll fs bs cs) {p:Str × T} (hp:p∈cs):seeC h p.1=some p.2:=by
 have e1:=zzf (fun p=>p.2.2) e
 unfold seeAll dueAll at e1
 dsimp only at e1
 rw [zzk] at e1
 exact List.map_inj_left.mp e1 p hp
theorem zr9:∀ (n:Nat) (v:Value) (t:T),seeT h n v=some t->∃ x,RelV x v/\∀ F,Rep (KH h) F t x
 | n,.none,t,e=>by cases n<;>(cases e;exact ⟨.non,rfl,fun _=>rfl⟩)
 | n,.bool b,t,e=>by cases n<;>(cases e;exact ⟨.bl b,rfl,fun _=>rfl⟩)
 | n,.int i k,t,e=>by cases n<;>(cases e;exact ⟨.int i,⟨k,rfl⟩,fun _=>rfl⟩)
 | n,.str x k,t,e=>by cases n<;>(cases e;exact ⟨.str x,⟨k,rfl⟩,fun _=>rfl⟩)
 | n,.ref a,t,e=>by cases n<;>cases e
 | n,.float ..,t,e=>by cases n<;>cases e
 | n,.ellipsis,t,e=>by cases n<;>cases e
 | n,.notImplemented,t,e=>by cases n<;>cases e
 | n,.bytes ..,t,e=>by cases n<;>cases e
 | n,.type ..,t,e=>by cases n<;>cases e
 | n,.builtin ..,t,e=>by cases n<;>cases e
theorem zsb {h0:Heap} {mg:Str->Option Value} {t:T} (KX:(KH h0).In h) (G:h.Ns mainGlobals mg) (e:seeC h0 x=some t):∃ u v,mg x=some u/\RelV v u/\∀ F,Rep (KH h0) F t v:=by
 unfold seeC at e
 split at e
 ·rename_i v hv
  obtain ⟨y,a,b⟩:=zr9 _ _ _ e
  exact ⟨v,y,PySem.W.mg_of KX G (by rw [zkg];exact hv),a,b⟩
 ·cases e
structure St (x:Str) (D:Fd) (st:Stmt) (ps:List Str):Prop where
 sc:FnScope (zar (zab st)) ps (zab st)
 np:ps.length=D.np
 ns:(zar (zab st)).length=D.ns
 tr:trSs 60 ⟨zab st,zar (zab st)⟩ (defBody st)=some D.body
 bi:∀ (kV doc pm:Value) (an:Option Addr) (cdv ct:Value) (us:List Value),us.length=ps.length->bindArgs (PySem.W.fnOf x x (za4 st) (defBody st) (zab st) .none kV doc pm an cdv ct) ⟨us,[]⟩=pure (ps.zip us)
abbrev Tab:=List (Str × Fd × Stmt × List Str)
noncomputable def Tab.fns (t:Tab):List (Str × Fd):=t.map fun p=>(p.1,p.2.1)
noncomputable def Tab.sts (t:Tab):List (Str × Stmt):=t.map fun p=>(p.1,p.2.2.1)
noncomputable def Tab.pr (t:Tab) (cs:List (Str × T)):Pr:=⟨fun f=>t.fns.lookup f,fun x=>cs.lookup x⟩
theorem zff {α:Type}:∀ {l:List (Str × α)} {f:Str} {D:α},l.lookup f=some D->(f,D)∈l
 | [],_,_,h=>by cases h
 | (g,E)::l,f,D,h=>by
  rw [zy4] at h
  split at h
  ·rename_i e
   cases h
   rw [eq_of_beq e]
   exact zys
  ·exact zyn _ (zff h)
noncomputable def stOk (D:Fd) (st:Stmt) (ps:List Str):Bool :=
 (zab st).kind==.function&&!(zab st).isCoroutine&&!(zab st).isGenerator&&decide ((zar (zab st)).Nodup)&&decide ((zar (zab st)).take ps.length=ps) &&
 (ps.all fun x=>(zab st).names.lookup x==some .local||(zab st).names.lookup x==some .cell)&&((zab st).names.all fun y=>!(y.2==.free)) &&
 decide (ps.length=D.np)&&decide ((zar (zab st)).length=D.ns) &&
 (match za4 st with | ⟨[],as,none,[],[],none,[]⟩=>decide (as.map (·.arg)=ps) | _=>false)
theorem zxi {D:Fd} {st:Stmt} {ps:List Str} (h:stOk D st ps=true) (tr:trSs 60 ⟨zab st,zar (zab st)⟩ (defBody st)=some D.body):St x D st ps:=by
 unfold stOk at h
 simp only [Bool.and_eq_true,Bool.not_eq_true',decide_eq_true_eq,beq_iff_eq] at h
 obtain ⟨⟨⟨⟨⟨⟨⟨⟨⟨h1,h2⟩,h3⟩,h4⟩,h5⟩,h6⟩,h7⟩,h8⟩,h9⟩,h10⟩:=h
 have hnd:ps.Nodup:=by rw [<- h5];exact h4.sublist (List.take_sublist _ _)
 refine ⟨⟨h1,h2,h3,h4,h5,fun y hy=>by simpa using oml h6 y hy,fun y hy=>by simpa using oml h7 y hy⟩,h8,h9,tr,fun kV doc pm an cdv ct us hl=>?_⟩
 split at h10
 ·rename_i as ha
  rw [zyr] at h10
  subst h10
  exact zdh ha rfl hnd hl
 ·cases h10
end Ev
end
end
end
noncomputable section
noncomputable section
noncomputable section
namespace Ev
open PySem PySem.Spec PyProof.Rows L2
variable {h:Heap}
def codeH (h:Heap):Option Addr:=(nsRef (seeNs h mainGlobals "_law_spoilt")).bind fun f=>fnCode (h.get? f)
def tabH (h:Heap):Option Addr:=(codeH h).bind fun c=>fldAt 11 (h.get? c)
theorem zwg:tabOf (KH h)=tabH h:=by
 unfold tabOf tabH codeH
 rw [zkg]
 cases nsRef (seeNs h mainGlobals "_law_spoilt") with
 | none=>rfl
 | some f =>
  simp only [Option.bind_some,zb7]
def isStrV:Value->Bool | .str _ _=>true | _=>false
def isIntV:Value->Bool | .int _ _=>true | _=>false
def zmx:Value->Bool | .bool _=>true | _=>false
def isRefV (p:Addr):Value->Bool | .ref q=>q==p | _=>false
def codeOk (c p:Addr):Option Obj->Bool
 | some ⟨.type ty,_,.fields vs,_⟩=>ty=="code"&&decide (11<vs.size)&&isRefV p (vs.getD 11 .none)&&isStrV (vs.getD 18 .none)&&isIntV (vs.getD 7 .none)&&zmx (vs.getD 9 .none)&&isIntV (vs.getD 10 .none)&&!(c==p)
 | _=>false
def tab0:Option Obj->Bool
 | some ⟨.none,none,.fields vs,sl⟩=>vs.size==0&&sl.size==0
 | _=>false
def bltOk (p:Addr) (h:Heap):Bool:=match nsRef (seeNs h mainGlobals "__builtins__") with
 | some b=>!(b==builtinsNs)&&!(b==mainGlobals)&&!(b==p)&&(match h.get? b with
   | some ⟨.type ty,some d,.plain,_⟩=>ty=="module"&&d==builtinsNs
   | _=>false)
 | none=>false
def seeTab (fs bs cs:List Str) (h:Heap) (p:Addr):(List (Option (FnV × Bool)) × List (Option (Option Value)) × List (Option T)) × Bool :=
 (seeAll fs bs cs (h.hide p),tab0 (h.get? p)&&(tabH (h.hide p)==some p)&&(match codeH (h.hide p) with | some c=>codeOk c p ((h.hide p).get? c) | none=>false)&&bltOk p (h.hide p))
def seeL (fs bs cs:List Str) (h:Heap):Option ((List (Option (FnV × Bool)) × List (Option (Option Value)) × List (Option T)) × Bool):=(tabH h).map (seeTab fs bs cs h)
def ziq (fs:List (Str × Stmt)) (bs:List Str) (cs:List (Str × T)):PySem.W.Hook :=
 ⟨_,fun s=>seeL (fs.map (·.1)) bs (cs.map (·.1)) s.heap,fun _=>some (dueAll fs bs cs,true),fun _ h=>∃ h0:Heap,(∀ b o,h0.get? b=some o->h.get? b=some o)/\seeL (fs.map (·.1)) bs (cs.map (·.1)) h0=some (dueAll fs bs cs,true),
  fun _ s e=>⟨s.heap,fun _ _ e=>e,e⟩,fun _ _ _ ⟨h0,a,b⟩ k=>⟨h0,fun c o e=>k c o (a c o e),b⟩⟩
theorem zno {c p:Addr} (e:codeOk c p (h.get? c)=true):PySem.W.CodeHd h c p:=by
 cases q:h.get? c with
 | none=>rw [q] at e;cases e
 | some o =>
  rw [q] at e
  obtain ⟨cl,di,da,sl⟩:=o
  cases cl with
  | type ty =>
   cases da with
   | fields vs =>
    have e:(ty=="code"&&decide (11<vs.size)&&isRefV p (vs.getD 11 .none)&&isStrV (vs.getD 18 .none)&&isIntV (vs.getD 7 .none)&&zmx (vs.getD 9 .none)&&isIntV (vs.getD 10 .none)&&!(c==p))=true:=e
    simp only [Bool.and_eq_true,beq_iff_eq,decide_eq_true_eq,Bool.not_eq_true',beq_eq_false_iff_ne] at e
    obtain ⟨⟨⟨⟨⟨⟨⟨rfl,h11⟩,e2⟩,e3⟩,e4⟩,e5⟩,e6⟩,e7⟩:=e
    have g11:vs.getD 11 .none=.ref p:=by
     cases g:vs.getD 11 .none with
     | ref r=>rw [g] at e2;rw [eq_of_beq (show (r==p)=true from e2)]
     | _=>rw [g] at e2;cases e2
    have g18:∃ x t,vs.getD 18 .none=.str x t:=by
     cases g:vs.getD 18 .none with
     | str x t=>exact ⟨x,t,rfl⟩
     | _=>rw [g] at e3;cases e3
    have g7:∃ x t,vs.getD 7 .none=.int x t:=by
     cases g:vs.getD 7 .none with
     | int x t=>exact ⟨x,t,rfl⟩
     | _=>rw [g] at e4;cases e4
    have g9:∃ x,vs.getD 9 .none=.bool x:=by
     cases g:vs.getD 9 .none with
     | bool x=>exact ⟨x,rfl⟩
     | _=>rw [g] at e5;cases e5
    have g10:∃ x t,vs.getD 10 .none=.int x t:=by
     cases g:vs.getD 10 .none with
     | int x t=>exact ⟨x,t,rfl⟩
     | _=>rw [g] at e6;cases e6
    obtain ⟨x18,t18,g18⟩:=g18
    obtain ⟨x7,t7,g7⟩:=g7
    obtain ⟨x9,g9⟩:=g9
    obtain ⟨x10,t10,g10⟩:=g10
    refine ⟨_,vs,x18,t18,x7,t7,x9,x10,t10,q,rfl,rfl,?_,g11,g18,g7,g9,g10,e7⟩
    rw [Array.getElem?_eq_getElem h11]
    rw [Array.getD_eq_getD_getElem?,Array.getElem?_eq_getElem h11] at g11
    exact zzf some g11
   | _=>cases e
  | _=>cases e
theorem zw3 {h1:Heap} {mg:Str->Option Value} {p:Addr} (e:bltOk p h=true) (KX:(KH h).In h1) (G:h1.Ns mainGlobals mg):∀ h2,(KH h).In h2->h2.BuiltinsAt mg p:=fun h2 K2=>by
 unfold bltOk at e
 cases q:seeNs h mainGlobals "__builtins__" with
 | none=>rw [q] at e;cases e
 | some r =>
  cases r with
  | none=>rw [q] at e;cases e
  | some v =>
   cases v with
   | ref b =>
    rw [q] at e
    have e:(!(b==builtinsNs)&&!(b==mainGlobals)&&!(b==p)&&(match h.get? b with
     | some ⟨.type ty,some d,.plain,_⟩=>ty=="module"&&d==builtinsNs
     | _=>false))=true:=e
    simp only [Bool.and_eq_true,Bool.not_eq_true',beq_eq_false_iff_ne] at e
    obtain ⟨⟨⟨e1,e2⟩,e3⟩,e4⟩:=e
    split at e4
    ·rename_i ty d sl ho
     simp only [Bool.and_eq_true,beq_iff_eq] at e4
     obtain ⟨rfl,rfl⟩:=e4
     exact ⟨b,_,PySem.W.mg_of KX G (by rw [zkg];exact q),e1,e2,e3,K2 b _ (by rw [zb7];exact ho),rfl,rfl,rfl⟩
    ·cases e4
   | _=>rw [q] at e;cases e
end Ev
end
end
end
noncomputable section
noncomputable section
noncomputable section
namespace Ev
open PySem PySem.Spec PyProof.Rows L2
variable {mg:Str->Option Value}
theorem zmq {P:Program} {w:World} {K:PySem.W.Frag} {mb:Str->Option Value} {k:Nat} {fa a p cc:Addr} {fd:FuncData} {x:Str} {R:Pr} {s₁:Shared} {vs:List Value} {ns:List Int}
  (KX:K.In s₁.heap) (hns:s₁.heap.Ns mainGlobals mg) (hb:s₁.heap.Ns builtinsNs mb) (hbb:∀ x:Str,x≠"__name__"->mb x=bootBuiltins x) (hlim:s₁.heap.NoLimit) (hg:s₁.gens=#[])
  (ha:s₁.heap.get? a=some { cls:=.type "list",data:=.seq vs.toArray }) (hi:IntsAre vs ns) (hl:ns.length<=sizeLine) (hr:Room k callerA)
  (hp:s₁.heap.get? p=some (PySem.W.tabObj #[])) (hKp:K.lookup p=none) (htb:∀ q,tabOf K=some q->q=p) (hcd:PySem.W.CodeHd s₁.heap cc p)
  (F:∀ base:Heap,K.In base->base.Ns mainGlobals mg->FnOk P w K mg base CX0 k fa fd [x] (spT K (run R k "law"))) (hbind:∀ (s:Shared) (u:Value),BindsTo s fd ⟨[u],[]⟩ [(x,u)])
  (law:run R k "law" [.lst (ns.map .int)]=some (.bl true)) :
  codeAny (model P w) callerA (.call (.ref fa) ⟨[.ref a],[]⟩) (fun r s'=>r=.ok (.ret (.bool true))/\OldK s₁.heap s'.heap/\s'.os=s₁.os/\AllBare s'.gens) s₁:=by
 have rv:=zf0 hi
 have lenV:=hi.length
 have hap:a≠p:=fun z=>by rw [z,hp] at ha;cases ha
 have ri:∀ (F:Hp) (ns:List Int),Reps K F (ns.map .int) (ns.map V.int):=fun F ns=>by
  induction ns with
  | nil=>exact rfl
  | cons i r ih=>exact ⟨_,_,rfl,rfl,ih⟩
 have core:∀ H:Hp,Ls K (del H p) a (ns.map V.int)->HOk P w H s₁.heap->(∀ b,H b≠none->b=a\/b=p)->(H a≠none->K.lookup a=none)->H p=some (.tbl #[])->(∀ b,b≠p->H b=none\/∃ ob xs,H b=some (.frz ob xs)) ->
   codeAny (model P w) callerA (.call (.ref fa) ⟨[.ref a],[]⟩) (fun r s'=>r=.ok (.ret (.bool true))/\OldK s₁.heap s'.heap/\s'.os=s₁.os/\AllBare s'.gens) s₁:=by
  intro H hS hok hA hK hHp hO
  have base_of:∀ {b:Addr} {o:Obj},s₁.heap.get? b=some o->H b=none->(hidT s₁.heap H).get? b=some o:=fun e n=>zpw e n
  have noA:∀ {b:Addr} {o:Obj} {es:Array DictEntry} {ep:Nat},s₁.heap.get? b=some o->o.data=.dict es ep->H b=none:=fun {b o es ep} e d=>by
   cases q:H b with
   | none=>rfl
   | some u =>
    rcases hA b (by rw [q];simp) with rfl | rfl
    ·rw [ha] at e;cases e;cases (show Data.seq vs.toArray _=Data.dict es ep from d)
    ·rw [hp] at e;cases e;cases (show Data.fields #[]=Data.dict es ep from d)
  have nsK:∀ {b:Addr} {m:Str->Option Value},s₁.heap.Ns b m->(hidT s₁.heap H).Ns b m:=fun {b m} ⟨o,es,ep,e,d,r⟩=>⟨o,es,ep,base_of e (noA e d),d,r⟩
  have hKb:K.In (hidT s₁.heap H):=fun b o e=>base_of (KX b o e) (by
   cases q:H b with
   | none=>rfl
   | some u =>
    rcases hA b (by rw [q];simp) with rfl | rfl
    ·rw [hK (by rw [q];simp)] at e;cases e
    ·rw [hKp] at e;cases e)
  have hM:Mod K mg (hidT s₁.heap H):=⟨hKb,nsK hns,⟨mb,nsK hb,hbb⟩,let ⟨mc,h1,h2⟩:=hlim;⟨mc,nsK h1,h2⟩⟩
  have e0:Env0 P w K mg (hidT s₁.heap H) callerA [] s₁ H:=⟨rfl,hM,fun b o e=>zs9 e,Nat.le_of_eq (zm2 _ _),trivial,fun b hb=>absurd (show b∈([]:List Addr) from hb) (by simp),hok,.of_eq hg⟩
  have hsm:Same (del H p) H:=fun b u e=>(zq4 e).2
  have hsp:spT K (run R k "law") [.ref a] H (fun v _=>v=.bl true) fun _ _ _=>False:=⟨del H p,[.lst (ns.map .int)],.bl true,hsm,fun q hq=>by
    rw [htb q hq]
    exact ⟨zc3,#[],hHp,trivial,fun _ _ z=>by cases z⟩,⟨_,_,rfl,⟨a,_,rfl,hS,ri _ ns⟩,rfl⟩,law,fun v F' H' _ r=>r⟩
  refine codeAny_mono ((F _ hKb (nsK hns)).run callerA [] s₁ H ⟨[.ref a],[]⟩ [.ref a] [.ref a] _ _ hr e0 (hbind s₁ (.ref a)) (.cons rfl .nil) hsp) fun r s' h=>?_
  cases r with
  | error e=>exact h.elim
  | ok fl =>
   cases fl with
   | next=>exact False.elim h
   | brk=>exact False.elim h
   | cont=>exact False.elim h
   | ret u =>
    obtain ⟨v,H',os,bare,un,hok',r',q⟩:=h
    have q':v=.bl true:=q
    subst q'
    obtain rfl:u=Value.bool true:=r'
    obtain ⟨more,hp'⟩:=un.tbls p #[] hHp
    have hp2:s'.heap.get? p=some { cls:=.none,data:=.fields (#[]++more) }:=hok' p _ hp'
    have kept:∀ b o,b≠p->s₁.heap.get? b=some o->s'.heap.get? b=some o:=fun b o hbp e=>by
     rcases hO b hbp with z | ⟨ob,xs,z⟩
     ·exact un.keep b o e z (by intro z;exact absurd (show b∈([]:List Addr) from z) (by simp)) (by simp)
     ·have z2:=un.frzs b ob _ z
      obtain ⟨e1,_⟩:=hok b _ z
      obtain ⟨e2,_⟩:=hok' b _ z2
      rw [e] at e1;cases e1
      exact e2
    refine ⟨rfl,⟨fun b o e=>?_,fun b o e=>?_⟩,os,bare⟩
    ·by_cases hbp:b=p
     ·subst hbp
      rw [hp] at e;cases e
      exact .inr (.inl ⟨(hcd.tab hp).isCodeTable,rfl,#[],more,rfl,hp2⟩)
     ·exact .inl (kept b o hbp e)
    ·by_cases hbp:b=p
     ·subst hbp;exact ⟨_,hp2⟩
     ·exact ⟨o,kept b o hbp e⟩
 cases hk:K.lookup a with
 | some o =>
  have e:=KX a o hk
  rw [ha] at e
  cases e
  refine core (upd (fun _=>none) p (.tbl #[])) (.inr ⟨vs.toArray,_,hk,by rw [List.size_toArray,lenV];exact hl,by simpa using rv⟩) (fun b u z=>?_) (fun b z=>?_) (fun z=>?_) zae fun b hb=>.inl (by rw [zad hb])
  ·by_cases hb:b=p
   ·subst hb;rw [zae] at z;cases z;exact hp
   ·rw [zad hb] at z;cases z
  ·by_cases hb:b=p
   ·exact .inr hb
   ·rw [zad hb] at z;exact absurd rfl z
  ·rw [zad hap] at z;exact absurd rfl z
 | none =>
  have hHa:upd (upd (fun _=>none) a (.frz { cls:=.type "list",data:=.seq vs.toArray } (.lst (ns.map V.int)))) p (.tbl #[]) a=some (.frz { cls:=.type "list",data:=.seq vs.toArray } (.lst (ns.map V.int))):=by rw [zad hap];exact zae
  refine core (upd (upd (fun _=>none) a (.frz { cls:=.type "list",data:=.seq vs.toArray } (.lst (ns.map V.int)))) p (.tbl #[])) (.inl (.inr ⟨_,by rw [zaw hap];exact hHa⟩)) (fun b u z=>?_) (fun b z=>?_) (fun _=>hk) zae fun b hb=>?_
  ·by_cases hb:b=p
   ·subst hb;rw [zae] at z;cases z;exact hp
   ·by_cases hba:b=a
    ·subst hba;rw [hHa] at z;cases z
     exact ⟨ha,by rw [zyj];exact hl,vs,_,rv,ha⟩
    ·rw [zad hb,zad hba] at z;cases z
  ·by_cases hb:b=p
   ·exact .inr hb
   ·by_cases hba:b=a
    ·exact .inl hba
    ·rw [zad hb,zad hba] at z;exact absurd rfl z
  ·by_cases hba:b=a
   ·subst hba;exact .inr ⟨_,_,hHa⟩
   ·exact .inl (by rw [zad hb,zad hba])
def Tab.prT (t:Tab) (cs:List (Str × T)):Pr:=⟨fun f=>(t.fns++[(spoF,zaz),(".put",zaj),(".lam",zay)]).lookup f,fun x=>cs.lookup x⟩
abbrev Tab.stsT (t:Tab) (s p:Stmt):List (Str × Stmt):=t.sts++[(spoF,s),(putF,p)]
theorem zqk {P:Program} {w:World} {fa p cc:Addr} {h0 h:Heap} {tab:Tab} {cs:List (Str × T)} {x:Str} {D:Fd} {st ss sp:Stmt} {k:Nat} (hst:∀ p∈tab,St p.1 p.2.1 p.2.2.1 p.2.2.2) (S:SpoS ss) (SP:PutS sp) (KX:(KH h0).In h)
  (bs:∀ (kV doc pm:Value) (an:Option Addr) (cdv ct:Value) (us:List Value),us.length=3->bindArgs (PySem.W.fnOf spoF spoF (za4 ss) (defBody ss) (zab ss) .none kV doc pm an cdv ct) ⟨us,[]⟩=pure ([spoT,lamNx,spoD].zip us))
  (bp:∀ (kV doc pm:Value) (an:Option Addr) (cdv ct:Value) (us:List Value),us.length=3->bindArgs (PySem.W.fnOf putF putF (za4 sp) (defBody sp) (zab sp) .none kV doc pm an cdv ct) ⟨us,[]⟩=pure ([putO,putW,putB].zip us))
  (e0:seeAll ((tab.stsT ss sp).map (·.1)) bnames (cs.map (·.1)) h0=dueAll (tab.stsT ss sp) bnames cs) (G:h.Ns mainGlobals mg) (hfa:mg "law"=some (.ref fa)) (hl:(("law":Str),D,st,[x])∈tab) (hD:(tab.prT cs).fn ("law":Str)=some D)
  (h1:(tab.prT cs).fn ".lam"=some zay) (h2:(tab.prT cs).fn ".put"=some zaj) (h3:(tab.prT cs).fn spoF=some zaz) (hcc:codeH h0=some cc) (TK:TabK (KH h0) mg cc p) :
  ∃ fd:FuncData,(∀ (s:Shared) (u:Value),BindsTo s fd ⟨[u],[]⟩ [(x,u)])/\∀ base:Heap,(KH h0).In base->base.Ns mainGlobals mg->FnOk P w (KH h0) mg base CX0 (k+1) fa fd [x] (spT (KH h0) (run (tab.prT cs) (k+1) "law")):=by
 have nob:∀ x∈bnames,mg x=none:=fun x hx=>PySem.W.mg_none_of KX G (by rw [zkg];exact zxo e0 hx)
 have C:∀ x t,(tab.prT cs).con x=some t->∃ u v,mg x=some u/\RelV v u/\∀ F,Rep (KH h0) F t v:=fun x t h=>zsb KX G (zxn (p:=(x,t)) e0 (zff h))
 have fn:∀ q∈tab.stsT ss sp,∃ f fd,PySem.W.nsIn (KH h0) mainGlobals q.1=some (some (.ref f))/\Fun (KH h0) q.1 q.1 q.2 f fd:=fun q hq=>zsa (zuu (p:=q) e0 hq)
 have one:∀ q∈tab,∃ a fd,FnD (KH h0) mg q.1 q.2.1 q.2.2.1 a fd q.2.2.2:=fun q hq=>by
  obtain ⟨f,fd,g1,FU⟩:=fn (q.1,q.2.2.1) (List.mem_append_left _ (List.mem_map.mpr ⟨q,hq,rfl⟩))
  have S:=hst q hq
  exact ⟨f,fd,⟨_,_,FU⟩,S.sc,S.np,S.ns,S.tr,PySem.W.mg_of KX G g1,FU.kp,FU.binds S.bi⟩
 obtain ⟨sa,sfd,sg1,SF⟩:=fn (spoF,ss) (zy3 _ (.head _))
 obtain ⟨pa,pfd,pg1,PF⟩:=fn (putF,sp) (zy3 _ (.tail _ (.head _)))
 have hcs:fnCode ((KH h0).lookup sa)=some cc:=by
  have g:seeNs h0 mainGlobals "_law_spoilt"=some (some (.ref sa)):=by rw [<- zkg];exact sg1
  unfold codeH at hcc
  rw [g] at hcc
  rw [zb7];exact hcc
 have L:∀ base:Heap,∀ f D,plainF f=true->(tab.prT cs).fn f=some D->(∃ st a fd ps,FnD (KH h0) mg f D st a fd ps) \/
   ∃ (a:Addr) (fd:FuncData) (ps:List Str),mg f=some (.ref a)/\PySem.W.keepIn (KH h0) (.ref a)=true/\Binds (KH h0) fd ps []/\∀ n,KnAll P w (KH h0) mg base (tab.prT cs) n->FnOk P w (KH h0) mg base CX0 (n+1) a fd ps (spT (KH h0) (run (tab.prT cs) (n+1) f)):=fun base f D hp hf=>by
  rcases oma (zff (show (tab.fns++[(spoF,zaz),(".put",zaj),(".lam",zay)]).lookup f=some D from hf)) with hm | hm
  ·obtain ⟨q,hq,e⟩:=omm hm
   cases e
   obtain ⟨a,fd,M⟩:=one q hq
   exact .inl ⟨_,_,_,_,M⟩
  ·simp only [List.mem_cons,List.not_mem_nil,or_false,Prod.mk.injEq] at hm
   rcases hm with ⟨rfl,rfl⟩ | ⟨rfl,_⟩ | ⟨rfl,_⟩
   ·exact .inr ⟨sa,sfd,[spoT,lamNx,spoD],PySem.W.mg_of KX G sg1,SF.kp,SF.binds (ps:=[spoT,lamNx,spoD]) bs,fun n ih=>zup h1 h2 h3 S SF hcs TK SP PF (PySem.W.mg_of KX G pg1) PF.kp (PF.binds (ps:=[putO,putW,putB]) bp) nob C n ih⟩
   ·exact absurd hp (by decide +kernel)
   ·exact absurd hp (by decide +kernel)
 obtain ⟨f,fd,g1,FU⟩:=fn ("law",st) (List.mem_append_left _ (List.mem_map.mpr ⟨(("law":Str),D,st,[x]),hl,rfl⟩))
 have hm:=PySem.W.mg_of KX G g1
 rw [hfa] at hm
 cases hm
 have SL:=hst _ hl
 have M:FnD (KH h0) mg "law" D st fa fd [x]:=⟨⟨_,_,FU⟩,SL.sc,SL.np,SL.ns,SL.tr,hfa,FU.kp,FU.binds SL.bi⟩
 refine ⟨fd,fun s u=>?_,fun base _ _=>zrd (zre (L base) nob C k) nob C hD M⟩
 obtain ⟨oc,od,kV,doc,pm,an,cdv,ct,osl,rfl,_,_⟩:=FU.ex
 exact .of_eq (SL.bi kV doc pm an cdv ct [u] rfl)
end Ev
end
end
end
noncomputable section
noncomputable section
noncomputable section
namespace Ev
open PySem PySem.Spec PyProof.Rows L2
theorem zrr {o:Option Obj} (h:tab0 o=true):o=some (PySem.W.tabObj #[]):=by
 cases o with
 | none=>cases h
 | some o =>
  obtain ⟨cl,di,da,sl⟩:=o
  cases cl with
  | none =>
   cases di with
   | none =>
    cases da with
    | fields vs =>
     have h:(vs.size==0&&sl.size==0)=true:=h
     simp only [Bool.and_eq_true,beq_iff_eq] at h
     rw [Array.eq_empty_of_size_eq_zero h.1,Array.eq_empty_of_size_eq_zero h.2]
    | _=>cases h
   | some _=>cases h
  | _=>cases h
theorem zky {l:PySem.W.OpenLaw} {n k:Nat} {q:Program} {loose:List Str} {XP:(Str->Option Value)->Heap->Prop} {d:DefRec} {x:Str} {tab:Tab} {cs:List (Str × T)} {D:Fd} {st ss sp:Stmt}
  (hn:l.most=some n) (hn2:n<=sizeLine) (hdf:d.params.defaults=[]) (hr:Room (k+1) callerA) (hdn:d.name=("law":Str)) (hst:∀ p∈tab,St p.1 p.2.1 p.2.2.1 p.2.2.2) (S:SpoS ss) (SP:PutS sp)
  (bs:∀ (kV doc pm:Value) (an:Option Addr) (cdv ct:Value) (us:List Value),us.length=3->bindArgs (PySem.W.fnOf spoF spoF (za4 ss) (defBody ss) (zab ss) .none kV doc pm an cdv ct) ⟨us,[]⟩=pure ([spoT,lamNx,spoD].zip us))
  (bp:∀ (kV doc pm:Value) (an:Option Addr) (cdv ct:Value) (us:List Value),us.length=3->bindArgs (PySem.W.fnOf putF putF (za4 sp) (defBody sp) (zab sp) .none kV doc pm an cdv ct) ⟨us,[]⟩=pure ([putO,putW,putB].zip us))
  (hl:(("law":Str),D,st,[x])∈tab) (hD:(tab.prT cs).fn ("law":Str)=some D) (h1:(tab.prT cs).fn ".lam"=some zay) (h2:(tab.prT cs).fn ".put"=some zaj) (h3:(tab.prT cs).fn spoF=some zaz)
  (law:∀ ns:List Int,ns.length<=n->run (tab.prT cs) (k+1) "law" [.lst (ns.map .int)]=some (.bl true)) :
  PySem.W.WalkO q loose XP (ziq (tab.stsT ss sp) bnames cs).says l.row.toRowW d [] (fun f vs=>PySem.call f vs):=by
 refine Att.attach_call hn hdf fun w s₀ s₁ mg mb fa o pm cd doc a vs ns G Y ho hd hcd hmg hobj hints hlen hg=>?_
 obtain ⟨h0,k0,e0⟩:=Y
 obtain ⟨p,hp,e⟩:=oms (show (tabH h0).map (seeTab _ _ _ h0)=some _ from e0)
 have eA:seeAll ((tab.stsT ss sp).map (·.1)) bnames (cs.map (·.1)) (h0.hide p)=dueAll (tab.stsT ss sp) bnames cs:=zzf Prod.fst e
 have eB:(tab0 (h0.get? p)&&(tabH (h0.hide p)==some p)&&(match codeH (h0.hide p) with | some c=>codeOk c p ((h0.hide p).get? c) | none=>false)&&bltOk p (h0.hide p))=true:=zzf Prod.snd e
 simp only [Bool.and_eq_true,beq_iff_eq] at eB
 obtain ⟨⟨⟨b1,b2⟩,b3⟩,b4⟩:=eB
 have KX:(KH (h0.hide p)).In s₁.heap:=zx4 fun b o e=>k0 b o (PySem.W.of_hideAll [p] e)
 cases hc:codeH (h0.hide p) with
 | none=>rw [hc] at b3;cases b3
 | some cc =>
  rw [hc] at b3
  have hcd0:PySem.W.CodeHd (h0.hide p) cc p:=zno b3
  have TK:TabK (KH (h0.hide p)) mg cc p:=⟨by rw [zwg];exact b2,fun h K=>hcd0.keeps fun b o e=>K b o (by rw [zb7];exact e),zw3 b4 KX G.T.g⟩
  obtain ⟨fd,hb,hF⟩:=zqk (P:=l.prog) (w:=w) (k:=k) hst S SP KX bs bp eA G.T.g (by rw [<- hdn];exact hmg) hl hD h1 h2 h3 hc TK
  exact zmq KX G.T.g G.T.b G.T.builtins G.T.nolimit hg hobj hints (zzn hlen hn2) hr (k0 p _ (zrr b1)) (by rw [zb7];exact PySem.W.hideAll_none [p] (.head _)) (fun q hq=>by rw [TK.tab] at hq;cases hq;rfl) (TK.hd _ KX) hF hb (law ns hlen)
theorem zte {lp:Arguments} {lb:Expr} {ls:Scope} {a:Arg} (kind:ls.kind=.function) (co:ls.isCoroutine=false) (gen:ls.isGenerator=false) (nm:ls.names=[(lamPx,.local),(lamNx,.free),("_law_otherwise",.globalImplicit)]) (par:lp=⟨[],[a],none,[],[],none,[]⟩) (pa:a.arg=lamPx) (tr:trV 60 ⟨ls,[lamPx,lamNx]⟩ lb=some lamE):LamS lp lb ls:=by
 refine ⟨kind,co,gen,fun x hx=>?_,fun x hx h=>?_,by rw [nm];decide +kernel,by rw [nm];decide +kernel,⟨a,par,pa⟩,tr⟩
 ·rw [nm] at hx
  simp only [List.mem_cons,List.not_mem_nil,or_false] at hx
  rcases hx with rfl | rfl | rfl<;>(intro z;cases z)
 ·rw [nm] at hx
  simp only [List.mem_cons,List.not_mem_nil,or_false] at hx
  rcases hx with rfl | rfl | rfl
  ·cases h
  ·rfl
  ·cases h
theorem clo_of {ls:Scope} (nm:ls.names=[(lamPx,.local),(lamNx,.free),("_law_otherwise",.globalImplicit)]) (env:PySem.Env) (c:Addr) (h:env.cells.lookup lamNx=some c):closureFor ls env=pure [(lamNx,c)]:=by
 unfold closureFor
 rw [nm]
 simp only [List.forIn_cons,List.forIn_nil]
 have e:cellOf env lamNx=pure c:=by unfold cellOf;rw [h]
 simp [e]
def argOf (lp:Arguments):Arg:=lp.args.getD 0 ⟨"",none,⟨0,0,0,0⟩⟩
theorem zn0 {st:Stmt} {x:Str} {ps:List Str} (h:za4 st=⟨[],(za4 st).args,none,[],[],none,[]⟩) (hp:(za4 st).args.map (·.arg)=ps) (nd:ps.Nodup) (kV doc pm:Value) (an:Option Addr) (cdv ct:Value) (us:List Value) (hl:us.length=ps.length) :
  bindArgs (PySem.W.fnOf x x (za4 st) (defBody st) (zab st) .none kV doc pm an cdv ct) ⟨us,[]⟩=pure (ps.zip us):=by
 subst hp
 exact zdh h rfl nd hl
end Ev
end
end
end
noncomputable section
noncomputable section
noncomputable section
namespace Ev.K04
open PySem
variable {P:Pr}
noncomputable def zbd:Fd:=⟨3,4,[.asg 3 (.comp (.idx (.var 0) (.cst (.int 0))) 1 .plain [.idx (.var 0) (.cst (.int 1))] none),
  .ret (.blt .toTuple (.comp (.idx (.var 2) (.mth .index (.var 4) (.var 0))) 1 .plain [.var 2] none))]⟩
noncomputable def za9:Fd:=⟨2,2,[.ite (.cmp .lt (.var 1) (.blt .len (.var 0))) [.ret (.idx (.var 0) (.var 1))] [],
  .ret (.cst (.int 0))]⟩
noncomputable def zb8:Fd:=⟨2,3,[.asg 2 (.bin .mod (.bin .mul (.bin .add (.bin .add (.call "_law_cell_at" [.var 0,.var 1]) (.bin .mul (.cst (.int 7919)) (.var 1))) (.cst (.int 1))) (.cst (.int 48271))) (.cst (.int 2147483647))),
  .ret (.bin .mod (.bin .add (.bin .add (.bin .mul (.var 2) (.var 2)) (.bin .mul (.cst (.int 7)) (.var 2))) (.var 1)) (.cst (.int 2147483629)))]⟩
noncomputable def zal:Fd:=⟨2,3,[.asg 2 (.bin .mod (.bin .mul (.bin .add (.bin .add (.var 0) (.bin .mul (.cst (.int 104729)) (.var 1))) (.cst (.int 17))) (.cst (.int 69621))) (.cst (.int 2147483647))),
  .ret (.bin .mod (.bin .add (.bin .add (.bin .mul (.var 2) (.var 2)) (.bin .mul (.cst (.int 3)) (.var 2))) (.var 1)) (.cst (.int 2147483629)))]⟩
noncomputable def za6:Fd:=⟨1,1,[.ret (.comp (.idx (.var 0) (.cst (.int 0))) 1 .plain [.idx (.var 0) (.cst (.int 1))] none)]⟩
noncomputable def zbk:Fd:=⟨2,2,[.ret (.blt .toTuple (.comp (.idx (.var 2) (.mth .index (.call "_law_names" [.var 1]) (.var 0))) 1 .plain [.idx (.var 0) (.cst (.int 2))] none))]⟩
noncomputable def zas:Fd:=⟨3,9,[.asg 3 (.idx (.var 0) (.cst (.int 1))),
  .asg 4 (.idx (.var 3) (.bin .mod (.bin .fdiv (.var 1) (.cst (.int 8))) (.blt .len (.var 3)))),
  .asg 5 (.bin .mod (.var 1) (.cst (.int 8))),
  .ite (.land (.cmp .gt (.var 2) (.cst (.int 1))) (.cmp .gt (.var 5) (.cst (.int 4)))) [.asg 6 (.comp (.call "_law_test" [.var 1,.bin .fdiv (.call "_law_drawn" [.var 2,.var 0]) (.cst (.int 4)),.bin .sub (.var 3) (.cst (.int 1))]) 1 .plain [.tup [.cst (.int 1),.cst (.int 2)]] none),
  .ret (.idx (.lst [.tup [.cst (.str "not"),.idx (.var 6) (.cst (.int 0))],.tup [.cst (.str "and"),.idx (.var 6) (.cst (.int 0)),.idx (.var 6) (.cst (.int 1))],.tup [.cst (.str "or"),.idx (.var 6) (.cst (.int 0)),.idx (.var 6) (.cst (.int 1))]]) (.bin .sub (.var 5) (.cst (.int 5))))] [],
  .ite (.cmp .eq (.var 5) (.cst (.int 0))) [.ret (.tup [.cst (.str "empty"),.idx (.var 4) (.cst (.int 0))])] [],
  .asg 7 (.comp (.idx (.var 0) (.cst (.int 0))) 1 .plain [.var 3] (some (.cmp .eq (.idx (.var 0) (.cst (.int 1))) (.idx (.var 5) (.cst (.int 1)))))),
  .ite (.cmp .eq (.var 5) (.cst (.int 1))) [.ret (.tup [.cst (.str "below"),.idx (.var 4) (.cst (.int 0)),.idx (.var 7) (.bin .mod (.bin .fdiv (.var 1) (.cst (.int 64))) (.blt .len (.var 7)))])] [],
  .asg 8 (.idx (.lst [.tup [.cst (.int 0),.cst (.int 1),.cst (.int 2),.cst (.int 3),.neg (.cst (.int 5)),.cst (.int 999)],.tup [.cst (.str ""),.cst (.str "a"),.cst (.str "b"),.cst (.str "ab"),.cst (.str "x9"),.cst (.str "zzzzzz")]]) (.blt .toInt (.cmp .eq (.idx (.var 4) (.cst (.int 1))) (.cst (.str "text"))))),
  .ret (.tup [.cst (.str "is"),.idx (.var 4) (.cst (.int 0)),.idx (.var 8) (.bin .mod (.bin .fdiv (.var 1) (.cst (.int 64))) (.cst (.int 6)))])]⟩
noncomputable def zba:Fd:=⟨2,10,[.asg 2 (.tup [.cst (.str "whole"),.cst (.str "whole"),.cst (.str "text"),.cst (.str "whole"),.cst (.str "text"),.cst (.str "whole")]),
  .asg 3 (.lst [.tup [.cst (.str "id"),.idx (.var 2) (.bin .mod (.var 1) (.cst (.int 6))),.cst (.bl false)]]),
  .loop [4,5] .enum [.tup [.cst (.str "n"),.cst (.str "t"),.cst (.str "u")]] [.asg 6 (.bin .fdiv (.call "_law_drawn" [.var 1,.bin .add (.cst (.int 10)) (.var 4)]) (.cst (.int 4))),
  .ite (.cmp .gt (.bin .mod (.var 6) (.cst (.int 4))) (.cst (.int 0))) [.app 3 (.tup [.var 5,.idx (.var 2) (.bin .mod (.bin .fdiv (.var 6) (.cst (.int 4))) (.cst (.int 6))),.cmp .gt (.bin .mod (.bin .fdiv (.var 6) (.cst (.int 32))) (.cst (.int 3))) (.cst (.int 0))])] []],
  .asg 7 (.comp (.idx (.var 0) (.cst (.int 0))) 1 .plain [.var 3] (some (.lnot (.tru (.idx (.var 0) (.cst (.int 2))))))),
  .asg 8 (.tup [.cst (.str "id")]),
  .ite (.land (.cmp .eq (.bin .mod (.bin .fdiv (.var 1) (.cst (.int 8))) (.cst (.int 4))) (.cst (.int 0))) (.cmp .gt (.blt .len (.var 7)) (.cst (.int 1)))) [.asg 8 (.idx (.lst [.tup [.cst (.str "id"),.idx (.var 7) (.cst (.int 1))],.tup [.idx (.var 7) (.cst (.int 1)),.cst (.str "id")]]) (.bin .mod (.bin .fdiv (.var 1) (.cst (.int 32))) (.cst (.int 2))))] [],
  .asg 9 (.bin .mod (.bin .fdiv (.var 1) (.cst (.int 64))) (.blt .len (.var 3))),
  .ret (.tup [.var 0,.blt .toTuple (.bin .add (.sli (.var 3) (some (.var 9)) none) (.sli (.var 3) none (some (.var 9)))),.var 8,.tup []])]⟩
noncomputable def za5:Fd:=⟨2,6,[.asg 2 (.lst [.tup []]),
  .loop [3] .plain [.var 1] [.asg 4 (.lst []),
  .loop [5] .plain [.var 2] [.asg 4 (.bin .add (.var 4) (.comp (.bin .add (.var 6) (.tup [.idx (.var 0) (.cst (.int 0))])) 1 .plain [.idx (.var 0) (.cst (.int 1))] (some (.land (.cmp .eq (.idx (.var 0) (.cst (.int 1))) (.var 4)) (.cmp .notin (.idx (.var 0) (.cst (.int 0))) (.var 6))))))],
  .asg 2 (.var 4)],
  .ret (.var 2)]⟩
noncomputable def za1:Fd:=⟨3,11,[.asg 3 (.idx (.var 0) (.bin .mod (.bin .fdiv (.var 2) (.cst (.int 8))) (.blt .len (.var 0)))),
  .asg 4 (.comp (.idx (.comp (.idx (.var 0) (.cst (.int 1))) 1 .plain [.idx (.var 4) (.cst (.int 1))] (some (.cmp .eq (.idx (.var 0) (.cst (.int 0))) (.var 1)))) (.cst (.int 0))) 1 .plain [.idx (.var 3) (.cst (.int 2))] none),
  .asg 5 (.call "_law_pairs" [.var 1,.var 4]),
  .ite (.land (.cmp .lt (.bin .mod (.var 2) (.cst (.int 8))) (.cst (.int 5))) (.cmp .ne (.var 5) (.lst []))) [.asg 6 (.idx (.var 5) (.bin .mod (.bin .fdiv (.var 2) (.cst (.int 64))) (.blt .len (.var 5)))),
  .asg 7 (.idx (.tup [.cst (.str "along"),.cst (.str "stop"),.cst (.str "late"),.cst (.str "gap"),.cst (.str "along"),.cst (.str "gap")]) (.bin .mod (.bin .fdiv (.var 2) (.cst (.int 1024))) (.cst (.int 6)))),
  .asg 8 (.comp (.var 0) 1 .plain [.idx (.var 1) (.cst (.int 1))] (some (.land (.cmp .isin (.idx (.var 0) (.cst (.int 0))) (.var 7)) (.lnot (.tru (.idx (.var 0) (.cst (.int 2)))))))),
  .ite (.land (.cmp .ne (.var 8) (.lst [])) (.cmp .eq (.var 7) (.cst (.str "gap")))) [.asg 7 (.cst (.str "late"))] [],
  .ret (.tup [.cst (.str "refers"),.var 6,.idx (.var 3) (.cst (.int 0)),.var 7])] [],
  .asg 9 (.comp (.idx (.var 0) (.cst (.int 0))) 1 .plain [.idx (.var 1) (.cst (.int 1))] none),
  .ite (.cmp .eq (.bin .mod (.var 2) (.cst (.int 8))) (.cst (.int 5))) [.asg 10 (.bin .mod (.bin .fdiv (.var 2) (.cst (.int 64))) (.blt .len (.var 9))),
  .ret (.tup [.cst (.str "unlike"),.sli (.bin .add (.sli (.var 9) (some (.var 10)) none) (.sli (.var 9) none (some (.var 10)))) none (some (.bin .add (.cst (.int 1)) (.bin .mod (.bin .fdiv (.var 2) (.cst (.int 1024))) (.cst (.int 2)))))])] [],
  .ret (.tup [.cst (.str "check"),.call "_law_test" [.var 1,.bin .fdiv (.var 2) (.cst (.int 64)),.bin .add (.cst (.int 1)) (.bin .mod (.bin .fdiv (.var 2) (.cst (.int 1024))) (.cst (.int 3)))]])]⟩
noncomputable def zbw:Fd:=⟨1,11,[.asg 1 (.lst [.cst (.str "item"),.cst (.str "user"),.cst (.str "box"),.cst (.str "log")]),
  .asg 2 (.bin .mod (.var 0) (.cst (.int 4))),
  .asg 1 (.sli (.bin .add (.sli (.var 1) (some (.var 2)) none) (.sli (.var 1) none (some (.var 2)))) none (some (.idx (.tup [.cst (.int 2),.cst (.int 1),.cst (.int 3),.cst (.int 4),.cst (.int 2),.cst (.int 3)]) (.bin .mod (.bin .fdiv (.var 0) (.cst (.int 4))) (.cst (.int 6)))))),
  .asg 4 (.comp (.call "_law_bare" [.var 1,.bin .fdiv (.call "_law_drawn" [.var 2,.var 0]) (.cst (.int 4))]) 2 .enum [.var 1] none),
  .asg 5 (.tup []),
  .loop [3,6] .enum [.var 4] [.asg 7 (.bin .fdiv (.call "_law_drawn" [.var 0,.bin .add (.cst (.int 20)) (.var 3)]) (.cst (.int 4))),
  .asg 8 (.lst []),
  .loop [9] .range [.idx (.tup [.cst (.int 1),.cst (.int 2),.cst (.int 0),.cst (.int 1),.cst (.int 3)]) (.bin .mod (.var 7) (.cst (.int 5)))] [.app 8 (.call "_law_rule" [.var 4,.var 6,.bin .fdiv (.call "_law_drawn" [.var 7,.var 9]) (.cst (.int 4))])],
  .asg 10 (.blt .toTuple (.comp (.bin .add (.tup [.idx (.var 0) (.cst (.int 0)),.blt .toTuple (.idx (.var 0) (.cst (.int 1)))]) (.sli (.var 0) (some (.cst (.int 2))) none)) 1 .plain [.var 8] none)),
  .asg 5 (.bin .add (.var 5) (.tup [.bin .add (.sli (.var 6) none (some (.cst (.int 3)))) (.tup [.var 10])]))],
  .ret (.var 5)]⟩
noncomputable def zai:Fd:=⟨2,2,[.ite (.land (.tru (.idx (.var 0) (.cst (.int 2)))) (.cmp .eq (.bin .mod (.var 1) (.cst (.int 4))) (.cst (.int 0)))) [.ret (.cst .non)] [],
  .ite (.cmp .eq (.idx (.var 0) (.cst (.int 1))) (.cst (.str "text"))) [.ret (.idx (.lst [.cst (.str "a"),.cst (.str "b"),.cst (.str ""),.cst (.str "ab"),.cst (.str "a"),.cst (.str "x9")]) (.bin .mod (.bin .fdiv (.var 1) (.cst (.int 4))) (.cst (.int 6))))] [],
  .ret (.idx (.lst [.cst (.int 0),.cst (.int 1),.cst (.int 2),.cst (.int 3),.cst (.int 1),.cst (.int 2),.cst (.int 4),.neg (.cst (.int 5))]) (.bin .mod (.bin .fdiv (.var 1) (.cst (.int 4))) (.cst (.int 8))))]⟩
noncomputable def zbu:Fd:=⟨2,2,[.ret (.blt .toTuple (.comp (.call "_law_worth" [.var 1,.bin .fdiv (.call "_law_drawn" [.var 3,.var 0]) (.cst (.int 4))]) 2 .enum [.idx (.var 0) (.cst (.int 1))] none))]⟩
theorem zag {n:Nat} {f:Str} {D:Fd} {ts:List T} (h:P.fn f=some D) (hl:ts.length=D.np):run P (n+1) f ts=zaa (evSs (glo P (run P n)) D.body (begin' D ts)):=by
 rw [run,h]
 simp [hl]
noncomputable def drawnI (a k:Int):Int:=((a+104729*k+17)*69621%2147483647*((a+104729*k+17)*69621%2147483647)+3*((a+104729*k+17)*69621%2147483647)+k)%2147483629
noncomputable def mixedI (a k:Int):Int:=((a+7919*k+1)*48271%2147483647*((a+7919*k+1)*48271%2147483647)+7*((a+7919*k+1)*48271%2147483647)+k)%2147483629
theorem zd4 {a:Int} (h0:0<=a) (h1:a<2147483647):small a=true:=by
 unfold small
 rw [zyw (by omega),zyw (by omega)]
 rfl
theorem zf4 (a:Int):small (a%2147483647)=true:=zd4 (Int.emod_nonneg _ (by decide)) (Int.emod_lt_of_pos _ (by decide))
theorem zbi (h:P.fn "_law_drawn"=some zal) (n:Nat) (a k:Int):run P (n+1) "_law_drawn" [.int a,.int k]=some (.int (drawnI a k)):=by
 rw [zag h rfl]
 simp [zal,evSs,evS,evE,begin',view,frzAt,vars,Sl.get,Sl.frz,binT,addT,mulT,modT,slotOf,fresh,zaa,glo,SZ,zf4,zd4,drawnI]
noncomputable def cellI (ns:List Int) (k:Nat):Int:=ns.getD k 0
theorem zbh {xs:List T} {k:Nat} {t:T} (h:xs[k]?=some t):getI xs (k:Int)=some t:=by
 have hk:k<xs.length:=(ome h).1
 unfold getI ixI
 rw [if_pos (by omega),if_pos (by omega)]
 simpa using h
theorem zqb (h:P.fn "_law_cell_at"=some za9) (n:Nat) (ns:List Int) (k:Nat):run P (n+1) "_law_cell_at" [.lst (ns.map .int),.int (k:Int)]=some (.int (cellI ns k)):=by
 rw [zag h rfl]
 by_cases hk:k<ns.length
 ·have e:getI (ns.map T.int) (k:Int)=some (.int (cellI ns k)):=zbh (by simp [cellI,hk])
  have hd:decide ((k:Int)<(ns.length:Int))=true:=zyw (by omega)
  simp [za9,evSs,evS,evE,begin',view,frzAt,vars,Sl.get,Sl.frz,zaa,cmpT,idxT,bltT,glo,SZ,ltC,hk,e]
 ·have e:cellI ns k=0:=by simp [cellI,List.getD_eq_getElem?_getD,List.getElem?_eq_none (Nat.le_of_not_lt hk)]
  simp [za9,evSs,evS,evE,begin',view,frzAt,vars,Sl.get,Sl.frz,zaa,cmpT,idxT,bltT,glo,SZ,ltC,hk,e]
theorem zb1 (hc:P.fn "_law_cell_at"=some za9) (h:P.fn "_law_mixed"=some zb8) (n:Nat) (ns:List Int) (k:Nat):run P (n+2) "_law_mixed" [.lst (ns.map .int),.int (k:Int)]=some (.int (mixedI (cellI ns k) k)):=by
 rw [zag h rfl]
 have e:=zqb hc n ns k
 simp [zb8,evSs,evS,evE,evEs,begin',view,frzAt,vars,varsL,Sl.get,Sl.frz,binT,addT,mulT,modT,slotOf,fresh,zaa,glo,SZ,zf4,zd4,mixedI,e]
structure Col where
 n:Str
 k:Str
 g:Bool
noncomputable def Col.t (c:Col):T:=.tup [.str c.n,.str c.k,.bl c.g]
noncomputable def kinds6:List Str:=["whole", "whole", "text", "whole", "text", "whole"]
noncomputable def kindAt (i:Int):Str:=kinds6.getD (i%6).toNat "whole"
theorem zpy {xs:List T} {m:Nat} (hm:xs.length=m) (h0:0<m) (i:Int):getI xs (i%(m:Int))=some (xs.getD (i%(m:Int)).toNat .non):=by
 have h1:0<=i%(m:Int):=Int.emod_nonneg _ (by omega)
 have h2:i%(m:Int)<(m:Int):=Int.emod_lt_of_pos _ (by omega)
 unfold getI ixI
 rw [if_pos h1,if_pos (by omega)]
 simp only [Option.bind_some,List.getD_eq_getElem?_getD]
 rw [zyi (by omega)]
 rfl
theorem ze1 (i:Int):getI [.str "whole",.str "whole",.str "text",.str "whole",.str "text",.str "whole"] (i%6)=some (.str (kindAt i)):=by
 have e:=zpy (xs:=[.str "whole",.str "whole",.str "text",.str "whole",.str "text",.str "whole"]) (m:=6) rfl (by decide) i
 have e':((6:Nat):Int)=6:=rfl
 rw [e'] at e
 rw [e,kindAt,kinds6]
 have h:(i%6).toNat<6:=(Int.toNat_lt (Int.emod_nonneg _ (by decide))).mpr (Int.emod_lt_of_pos _ (by decide))
 generalize (i%6).toNat=j at h ⊢
 match j,h with
 | 0,_=>rfl
 | 1,_=>rfl
 | 2,_=>rfl
 | 3,_=>rfl
 | 4,_=>rfl
 | 5,_=>rfl
 | j+6,h=>exact absurd h (by omega)
noncomputable def colAt (k j:Int) (nm:Str):List Col:=if 0<drawnI k (10+j)/4%4 then [⟨nm,kindAt (drawnI k (10+j)/4/4),decide (0<drawnI k (10+j)/4/32%3)⟩] else []
noncomputable def bareCols (k:Int):List Col:=[⟨"id",kindAt k,false⟩]++(colAt k 0 "n"++(colAt k 1 "t"++colAt k 2 "u"))
end Ev.K04
end
end
end
noncomputable section
noncomputable section
noncomputable section
namespace Ev.K04
open PySem
variable {G:Glo} {ss:List S} {τ:List Sl} {t:T}
theorem zao {s:S} {τ':List Sl} (h:evS G s τ=some (.nx τ')):evSs G (s::ss) τ=evSs G ss τ':=by rw [evSs,h];rfl
theorem zdb {s:S} (h:evS G s τ=some (.rt t)):evSs G (s::ss) τ=some (.rt t):=by rw [evSs,h];rfl
theorem zbc {i:Nat} {e:E} {τ':List Sl} (h0:frzAt (vars e) τ=τ) (h1:evE G e (view τ)=some t) (h2:τ.set i (slotOf e t)=τ'):evSs G (.asg i e::ss) τ=evSs G ss τ':=zao (by rw [evS,h0,h1,<- h2];rfl)
theorem zdp {e:E} (h0:frzAt (vars e) τ=τ) (h1:evE G e (view τ)=some t):evSs G (.ret e::ss) τ=some (.rt t):=zdb (by rw [evS,h0,h1];rfl)
theorem zfk {c:E} {a:List S} (h0:frzAt (vars c) τ=τ) (h1:evE G c (view τ)=some (.bl false)):evSs G (.ite c a []::ss) τ=evSs G ss τ:=zao (by rw [evS,h0,h1];rfl)
theorem zmv {c:E} {a b:List S} (h0:frzAt (vars c) τ=τ) (h1:evE G c (view τ)=some (.bl true)) (h2:evSs G a τ=some (.rt t)):evSs G (.ite c a b::ss) τ=some (.rt t):=zdb (by rw [evS,h0,h1];exact h2)
theorem zat {α:Type} {enc:α->T} {f:T->Option (Option T)} (g:α->Option T):∀ {l:List α},(∀ a∈l,f (enc a)=some (g a))->compM f (l.map enc)=some (l.filterMap g)
 | [],_=>rfl
 | a::l,h=>by
  rw [zyh,compM,h a zys,zat g fun b hb=>h b (zyn _ hb),zzg]
  cases g a<;>rfl
noncomputable def za3 (cs:List Col):List Str:=cs.filterMap fun c=>if c.g then none else some c.n
noncomputable def keyOf (k:Int) (cs:List Col):List Str:=if k/8%4=0/\1<(za3 cs).length then (if k/32%2=0 then ["id",(za3 cs).getD 1 "id"] else [(za3 cs).getD 1 "id", "id"]) else ["id"]
noncomputable def rotC {α:Type} (cs:List α) (b:Nat):List α:=cs.drop b++cs.take b
theorem zcg (k j:Int) (nm:Str):(colAt k j nm).length<=1:=by unfold colAt;split<;>simp
theorem zdn (k:Int):1<=(bareCols k).length/\(bareCols k).length<=4:=by
 have h1:=zcg k 0 "n"
 have h2:=zcg k 1 "t"
 have h3:=zcg k 2 "u"
 unfold bareCols
 simp only [List.length_append,List.length_cons,List.length_nil]
 omega
theorem zck (xs:List T) (b:Nat) (h:b<=xs.length):cut xs (some (b:Int)) none=xs.drop b:=by
 unfold cut clip
 have e:min ((b:Int)).toNat xs.length=b:=by omega
 simp only [show ¬ ((b:Int)<0) by omega,if_false,e]
 rw [List.take_of_length_le]
 simp
theorem znl (xs:List T) (b:Nat) (h:b<=xs.length):cut xs none (some (b:Int))=xs.take b:=by
 unfold cut clip
 have e:min ((b:Int)).toNat xs.length=b:=by omega
 simp only [show ¬ ((b:Int)<0) by omega,if_false,e]
 simp
noncomputable def bareT (nm:Str) (cs:List Col) (key:List Str) (rules:List T):T:=.tup [.str nm,.tup (cs.map Col.t),.tup (key.map .str),.tup rules]
abbrev kd6:T:=.tup [.str "whole",.str "whole",.str "text",.str "whole",.str "text",.str "whole"]
noncomputable def bareLp:List S:=[.asg 6 (.bin .fdiv (.call "_law_drawn" [.var 1,.bin .add (.cst (.int 10)) (.var 4)]) (.cst (.int 4))),
  .ite (.cmp .gt (.bin .mod (.var 6) (.cst (.int 4))) (.cst (.int 0))) [.app 3 (.tup [.var 5,.idx (.var 2) (.bin .mod (.bin .fdiv (.var 6) (.cst (.int 4))) (.cst (.int 6))),.cmp .gt (.bin .mod (.bin .fdiv (.var 6) (.cst (.int 32))) (.cst (.int 3))) (.cst (.int 0))])] []]
theorem zn3 {nm:T} {k j:Int} {x:Str} {cs:List Col} {s4 s5 s6:Sl} (e:G.call "_law_drawn" [.int k,.int (10+j)]=some (.int (drawnI k (10+j)))) (hl:cs.length<=10) :
  ((bndS [4,5] (.tup [.int j,.str x]) [.val nm,.val (.int k),.val kd6,.own (cs.map Col.t),s4,s5,s6,.no,.no,.no]).bind fun τ'=>evSs G bareLp τ') =
   some (.nx [.val nm,.val (.int k),.val kd6,.own ((cs++colAt k j x).map Col.t),.val (.int j),.val (.str x),.val (.int (drawnI k (10+j)/4)),.no,.no,.no]):=by
 show evSs G bareLp [.val nm,.val (.int k),.val kd6,.own (cs.map Col.t),.val (.int j),.val (.str x),s6,.no,.no,.no]=_
 generalize hq:drawnI k (10+j)=q at e
 refine (zbc (t:=.int (q/4)) (τ':=[.val nm,.val (.int k),.val kd6,.own (cs.map Col.t),.val (.int j),.val (.str x),.val (.int (q/4)),.no,.no,.no]) rfl (by simp [evE,evEs,view,Sl.get,binT,addT,fdivT,e]) rfl).trans ?_
 unfold colAt
 rw [hq]
 have hc:evE G (.cmp .gt (.bin .mod (.var 6) (.cst (.int 4))) (.cst (.int 0))) (view [.val nm,.val (.int k),.val kd6,.own (cs.map Col.t),.val (.int j),.val (.str x),.val (.int (q/4)),.no,.no,.no])=some (.bl (decide (0<q/4%4))):=rfl
 by_cases h:0<q/4%4
 ·rw [if_pos h]
  have hz:(cs.map Col.t).length<16777216:=by rw [zyj];omega
  have e3:evE G (.tup [.var 5,.idx (.var 2) (.bin .mod (.bin .fdiv (.var 6) (.cst (.int 4))) (.cst (.int 6))),.cmp .gt (.bin .mod (.bin .fdiv (.var 6) (.cst (.int 32))) (.cst (.int 3))) (.cst (.int 0))]) (view [.val nm,.val (.int k),.val kd6,.own (cs.map Col.t),.val (.int j),.val (.str x),.val (.int (q/4)),.no,.no,.no])=some (Col.t ⟨x,kindAt (q/4/4),decide (0<q/4/32%3)⟩):=by
   simp [evE,evEs,view,Sl.get,binT,modT,fdivT,idxT,ze1,cmpT,Col.t]
  have e4:evSs G [.app 3 (.tup [.var 5,.idx (.var 2) (.bin .mod (.bin .fdiv (.var 6) (.cst (.int 4))) (.cst (.int 6))),.cmp .gt (.bin .mod (.bin .fdiv (.var 6) (.cst (.int 32))) (.cst (.int 3))) (.cst (.int 0))])] [.val nm,.val (.int k),.val kd6,.own (cs.map Col.t),.val (.int j),.val (.str x),.val (.int (q/4)),.no,.no,.no]=some (.nx [.val nm,.val (.int k),.val kd6,.own ((cs++[(⟨x,kindAt (q/4/4),decide (0<q/4/32%3)⟩:Col)]).map Col.t),.val (.int j),.val (.str x),.val (.int (q/4)),.no,.no,.no]):=by
   refine (zao (τ':=[.val nm,.val (.int k),.val kd6,.own ((cs++[(⟨x,kindAt (q/4/4),decide (0<q/4/32%3)⟩:Col)]).map Col.t),.val (.int j),.val (.str x),.val (.int (q/4)),.no,.no,.no]) ?_).trans rfl
   rw [evS]
   refine Eq.trans (zzf (fun o=>Option.bind o _) e3) ?_
   show (if (cs.map Col.t).length<SZ then _ else none)=_
   rw [if_pos hz,zzs]
   rfl
  exact (zao (τ':=[.val nm,.val (.int k),.val kd6,.own ((cs++[(⟨x,kindAt (q/4/4),decide (0<q/4/32%3)⟩:Col)]).map Col.t),.val (.int j),.val (.str x),.val (.int (q/4)),.no,.no,.no]) (by
   rw [evS]
   refine Eq.trans (zzf (fun o=>Option.bind o _) (hc.trans (by rw [zyw h]))) ?_
   exact e4)).trans rfl
 ·rw [if_neg h,zy6]
  exact (zfk rfl (hc.trans (by rw [zy0 h]))).trans rfl
theorem zn4 {P:Pr} (hd:P.fn "_law_drawn"=some zal) (n:Nat) (nm:T) (k:Int) :
  ∃ a b c,loopM (fun x τ=>(bndS [4,5] x τ).bind fun τ'=>evSs (glo P (run P (n+1))) bareLp τ')
   [.tup [.int 0,.str "n"],.tup [.int 1,.str "t"],.tup [.int 2,.str "u"]]
   [.val nm,.val (.int k),.val kd6,.own [Col.t ⟨"id",kindAt k,false⟩],.no,.no,.no,.no,.no,.no] =
   some (.nx [.val nm,.val (.int k),.val kd6,.own ((bareCols k).map Col.t),.val a,.val b,.val c,.no,.no,.no]):=by
 have c0:=zcg k 0 "n"
 have c1:=zcg k 1 "t"
 have st:=fun (j:Int) (x:Str) (cs:List Col) (s4 s5 s6:Sl) (hl:cs.length<=10)=>zn3 (G:=glo P (run P (n+1))) (nm:=nm) (k:=k) (j:=j) (x:=x) (cs:=cs) (s4:=s4) (s5:=s5) (s6:=s6) (zbi hd n k (10+j)) hl
 refine ⟨.int 2,.str "u",.int (drawnI k (10+2)/4),?_⟩
 rw [loopM,show [Col.t ⟨"id",kindAt k,false⟩]=([⟨"id",kindAt k,false⟩]:List Col).map Col.t from rfl,st 0 "n" _ _ _ _ (by simp)]
 dsimp only [Option.bind_some]
 rw [loopM,st 1 "t" _ _ _ _ (by simp;omega)]
 dsimp only [Option.bind_some]
 rw [loopM,st 2 "u" _ _ _ _ (by simp;omega)]
 dsimp only [Option.bind_some]
 rw [loopM,bareCols,zzp,zzp]
end Ev.K04
end
end
end
noncomputable section
noncomputable section
noncomputable section
namespace Ev.K04
open PySem
theorem zl0 (cs:List Col):(cs.filterMap fun c=>if c.g then none else some (T.str c.n))=(za3 cs).map T.str:=by
 unfold za3
 induction cs with
 | nil=>rfl
 | cons c cs ih=>simp only [List.filterMap_cons];cases c.g<;>simp [ih]
theorem getI0 (a:T) (r:List T):getI (a::r) 0=some a:=by simp [getI,ixI]
theorem getI1 (a b:T) (r:List T):getI (a::b::r) 1=some b:=by
 have:=zbh (xs:=a::b::r) (k:=1) (t:=b) rfl
 exact this
theorem getI2 (a b c:T) (r:List T):getI (a::b::c::r) 2=some c:=by
 have:=zbh (xs:=a::b::c::r) (k:=2) (t:=c) rfl
 exact this
theorem zro (i:Int):i%2=0\/i%2=1:=by omega
theorem zxa {G:Glo} {i:Nat} {e:E} {ss:List S} {τ τ0 τ':List Sl} {t:T} (h0:frzAt (vars e) τ=τ0) (h1:evE G e (view τ0)=some t) (h2:τ0.set i (slotOf e t)=τ'):evSs G (.asg i e::ss) τ=evSs G ss τ':=zao (by rw [evS,h0,h1,<- h2];rfl)
noncomputable def bareT2:List S:=zba.body.drop 3
section
variable {G:Glo} {nm CL KT PL:T} {k:Int} {s4 s5 s6:Sl} {l p:Nat}
theorem zn2 {by_:Nat} {cs:List T} {id1:Str} {key:List Str} (hcs:CL=.lst cs) (hl:0<cs.length) (hz:cs.length<=1000) (hb:k/64%(cs.length:Int)=(by_:Int)) (hbl:by_<=cs.length)
  (lp:bltT .len PL=some (.int (p:Int))) (ip:1<p->idxT PL (.int 1)=some (.str id1)) (hk:key=if k/8%4=0/\1<p then (if k/32%2=0 then ([("id":Str),id1]:List Str) else ([id1, "id"]:List Str)) else (["id"]:List Str)) :
  evSs G (bareT2.drop 1) [.val nm,.val (.int k),.val KT,.val CL,s4,s5,s6,.val PL,.no,.no]=some (.rt (.tup [nm,.tup (cs.drop by_++cs.take by_),.tup (key.map .str),.tup []])):=by
 refine (zbc (t:=.tup [.str "id"]) (τ':=[.val nm,.val (.int k),.val KT,.val CL,s4,s5,s6,.val PL,.val (.tup [.str "id"]),.no]) rfl (by simp [evE,evEs]) rfl).trans ?_
 have hc:evE G (.land (.cmp .eq (.bin .mod (.bin .fdiv (.var 1) (.cst (.int 8))) (.cst (.int 4))) (.cst (.int 0))) (.cmp .gt (.blt .len (.var 7)) (.cst (.int 1)))) (view [.val nm,.val (.int k),.val KT,.val CL,s4,s5,s6,.val PL,.val (.tup [.str "id"]),.no])=some (.bl (decide (k/8%4=0/\1<p))):=by
  have e1:evE G (.cmp .eq (.bin .mod (.bin .fdiv (.var 1) (.cst (.int 8))) (.cst (.int 4))) (.cst (.int 0))) (view [.val nm,.val (.int k),.val KT,.val CL,s4,s5,s6,.val PL,.val (.tup [.str "id"]),.no])=some (.bl (k/8%4==0)):=rfl
  rw [evE,e1]
  by_cases h1:k/8%4=0
  ·rw [show (k/8%4==0)=true by simpa using h1]
   simp [evE,view,Sl.get,lp,cmpT,h1]
   omega
  ·rw [show (k/8%4==0)=false by simpa using h1]
   simp [h1]
 have mid:evSs G (bareT2.drop 2) [.val nm,.val (.int k),.val KT,.val CL,s4,s5,s6,.val PL,.val (.tup [.str "id"]),.no]=evSs G (bareT2.drop 3) [.val nm,.val (.int k),.val KT,.val CL,s4,s5,s6,.val PL,.val (.tup (key.map .str)),.no]:=by
  by_cases h:k/8%4=0/\1<p
  ·rw [if_pos h] at hk
   have i1:=ip h.2
   have e8:evE G (.idx (.lst [.tup [.cst (.str "id"),.idx (.var 7) (.cst (.int 1))],.tup [.idx (.var 7) (.cst (.int 1)),.cst (.str "id")]]) (.bin .mod (.bin .fdiv (.var 1) (.cst (.int 32))) (.cst (.int 2)))) (view [.val nm,.val (.int k),.val KT,.val CL,s4,s5,s6,.val PL,.val (.tup [.str "id"]),.no])=getI [.tup [.str "id",.str id1],.tup [.str id1,.str "id"]] (k/32%2):=by
    have il:∀ l i,idxT (.lst l) (.int i)=getI l i:=fun _ _=>rfl
    simp [evE,evEs,view,Sl.get,i1,binT,modT,fdivT,il]
   refine zao ?_
   rw [evS]
   refine Eq.trans (zzf (fun o=>Option.bind o _) (hc.trans (by rw [zyw h]))) ?_
   refine (zbc (t:=.tup (key.map .str)) rfl (e8.trans ?_) rfl).trans rfl
   rw [hk]
   rcases zro (k/32) with z | z
   ·rw [z,if_pos rfl];exact getI0 _ _
   ·rw [z,if_neg (by decide)];exact getI1 _ _ _
  ·rw [if_neg h] at hk
   subst hk
   exact zfk rfl (hc.trans (by rw [zy0 h]))
 refine (show evSs G (bareT2.drop 2) _=_ from mid).trans ?_
 subst hcs
 refine (zbc (t:=.int (by_:Int)) (τ':=[.val nm,.val (.int k),.val KT,.val (.lst cs),s4,s5,s6,.val PL,.val (.tup (key.map .str)),.val (.int (by_:Int))]) rfl (by
  have lc:bltT .len (.lst cs)=some (.int (cs.length:Int)):=rfl
  simp [evE,view,Sl.get,lc,binT,modT,fdivT,hl,hb]) rfl).trans (zdp rfl ?_)
 have hz1:cs.length-by_+min by_ cs.length<=16777216:=by omega
 simp [evE,evEs,evO,view,Sl.get,asI,sliT,zck _ _ hbl,znl _ _ hbl,binT,addT,SZ,hz1,bltT]
end
theorem zqj {P:Pr} (hd:P.fn "_law_drawn"=some zal) (hb:P.fn "_law_bare"=some zba) (n:Nat) (nm:Str) (k:Int) :
  run P (n+2) "_law_bare" [.str nm,.int k]=some (bareT nm (rotC (bareCols k) (k/64%((bareCols k).length:Int)).toNat) (keyOf k (bareCols k)) []):=by
 rw [zag hb rfl]
 obtain ⟨a,b,c,el⟩:=zn4 hd n (.str nm) k
 show zaa (evSs (glo P (run P (n+1))) zba.body [.val (.str nm),.val (.int k),.no,.no,.no,.no,.no,.no,.no,.no])=_
 generalize glo P (run P (n+1))=G at *
 have hlen:=zdn k
 have hm0:0<=k/64%((bareCols k).length:Int):=Int.emod_nonneg _ (by omega)
 have hm1:k/64%((bareCols k).length:Int)<((bareCols k).length:Int):=Int.emod_lt_of_pos _ (by omega)
 generalize hby:(k/64%((bareCols k).length:Int)).toNat=by_ at *
 have hbi:k/64%((bareCols k).length:Int)=(by_:Int):=by omega
 generalize hC:bareCols k=cs at *
 have hbl:by_<=cs.length:=by rw [hbi] at hm1;omega
 have p1:evSs G zba.body [.val (.str nm),.val (.int k),.no,.no,.no,.no,.no,.no,.no,.no]=evSs G (zba.body.drop 2) [.val (.str nm),.val (.int k),.val kd6,.own [Col.t ⟨"id",kindAt k,false⟩],.no,.no,.no,.no,.no,.no] :=
  (zbc (t:=kd6) (τ':=[.val (.str nm),.val (.int k),.val kd6,.no,.no,.no,.no,.no,.no,.no]) rfl (by simp [evE,evEs,kd6]) rfl).trans (zbc (t:=.lst [Col.t ⟨"id",kindAt k,false⟩]) rfl (by simp [evE,evEs,view,Sl.get,kd6,binT,modT,idxT,ze1,Col.t]) rfl)
 have p2:evSs G (zba.body.drop 2) [.val (.str nm),.val (.int k),.val kd6,.own [Col.t ⟨"id",kindAt k,false⟩],.no,.no,.no,.no,.no,.no]=evSs G bareT2 [.val (.str nm),.val (.int k),.val kd6,.own (cs.map Col.t),.val a,.val b,.val c,.no,.no,.no]:=zao (by
  rw [evS]
  simp only [varsL,vars,List.append_nil,frzAt,evEs,evE,List.length_cons,List.length_nil]
  simp only [Nat.reduceAdd,Nat.reduceLeDiff,if_true,Option.map_some,Option.bind_some,items,enumT]
  exact el)
 have e7:evE G (.comp (.idx (.var 0) (.cst (.int 0))) 1 .plain [.var 3] (some (.lnot (.tru (.idx (.var 0) (.cst (.int 2))))))) (view [.val (.str nm),.val (.int k),.val kd6,.val (.lst (cs.map Col.t)),.val a,.val b,.val c,.no,.no,.no])=some (.lst ((za3 cs).map .str)):=by
  have hz':cs.length<=16777216:=by omega
  simp [evE,evEs,evO,view,Sl.get,items,itemsC,bnd,SZ,hz']
  rw [zat (enc:=Col.t) (fun c=>if c.g then none else some (T.str c.n)) (fun c _=>by cases hg:c.g<;>simp [Col.t,hg,idxT,getI0,getI2,truT]),zl0]
 have p3:evSs G bareT2 [.val (.str nm),.val (.int k),.val kd6,.own (cs.map Col.t),.val a,.val b,.val c,.no,.no,.no]=evSs G (bareT2.drop 1) [.val (.str nm),.val (.int k),.val kd6,.val (.lst (cs.map Col.t)),.val a,.val b,.val c,.val (.lst ((za3 cs).map .str)),.no,.no]:=zxa rfl e7 rfl
 rw [p1,p2,p3]
 have hk:=zn2 (G:=G) (nm:=.str nm) (KT:=kd6) (CL:=.lst (cs.map Col.t)) (cs:=cs.map Col.t) (PL:=.lst ((za3 cs).map .str)) (k:=k) (s4:=.val a) (s5:=.val b) (s6:=.val c) (p:=(za3 cs).length) (by_:=by_) (id1:=(za3 cs).getD 1 "id") (key:=keyOf k cs) rfl (by rw [List.length_map];omega) (by rw [List.length_map];omega) (by rw [List.length_map];exact hbi) (by rw [List.length_map];exact hbl) (by simp [bltT]) (fun h2=>zbh (xs:=(za3 cs).map T.str) (k:=1) (by rw [List.getElem?_map,List.getElem?_eq_getElem h2,List.getD_eq_getElem?_getD,List.getElem?_eq_getElem h2];rfl)) rfl
 rw [hk,bareT,rotC,zzs,List.map_drop,List.map_take]
 rfl
end Ev.K04
end
end
end
noncomputable section
noncomputable section
noncomputable section
namespace Ev.K04
open PySem
theorem zev {α:Type} {enc:α->T} {f:T->List Sl->Option Out} (I:List α->List Sl->Prop):∀ (l done:List α) (τ:List Sl),I done τ ->
  (∀ l1 a l2,l=l1++a::l2->∀ τ,I (done++l1) τ->∃ τ',f (enc a) τ=some (.nx τ')/\I (done++l1++[a]) τ')->∃ τ',loopM f (l.map enc) τ=some (.nx τ')/\I (done++l) τ'
 | [],done,τ,h,_=>⟨τ,rfl,by rw [zy6];exact h⟩
 | a::l,done,τ,h,hs=>by
  obtain ⟨τ1,e1,h1⟩:=hs [] a l rfl τ (by rw [zy6];exact h)
  rw [zy6] at h1
  obtain ⟨τ2,e2,h2⟩:=zev I l (done++[a]) τ1 h1 fun l1 b l2 e τ hd=>by
   have:=hs (a::l1) b l2 (by rw [e];rfl) τ (by simpa using hd)
   simpa using this
  refine ⟨τ2,?_,by rw [zzp] at h2;exact h2⟩
  rw [zyh,loopM,e1]
  exact e2
theorem zb2 {α:Type} {enc:α->T} {f:T->List Sl->Option Out} (I:List α->List Sl->Prop) (l:List α) (τ:List Sl) (h:I [] τ)
  (hs:∀ l1 a l2,l=l1++a::l2->∀ τ,I l1 τ->∃ τ',f (enc a) τ=some (.nx τ')/\I (l1++[a]) τ'):∃ τ',loopM f (l.map enc) τ=some (.nx τ')/\I l τ':=by
 have:=zev I l [] τ h fun l1 a l2 e τ hd=>by
  have:=hs l1 a l2 e τ (by simpa using hd)
  simpa using this
 simpa using this
theorem zau {α:Type} {enc:α->T} {cs:List α} (h:cs≠[]) (i:Int):∃ c∈cs,getI (cs.map enc) (i%(cs.length:Int))=some (enc c):=by
 have hl:0<cs.length:=by cases cs with | nil=>exact absurd rfl h | cons _ _=>simp
 have h1:0<=i%(cs.length:Int):=Int.emod_nonneg _ (by omega)
 have h2:i%(cs.length:Int)<(cs.length:Int):=Int.emod_lt_of_pos _ (by omega)
 obtain ⟨j,hj⟩:∃ j:Nat,i%(cs.length:Int)=(j:Int):=⟨(i%(cs.length:Int)).toNat,by omega⟩
 rw [hj] at h2 ⊢
 have hj':j<cs.length:=by omega
 refine ⟨cs[j],List.getElem_mem _,zbh ?_⟩
 rw [zzc,zyi hj']
 rfl
noncomputable def worthI:List Int:=[0,1,2,3,-5,999]
noncomputable def Sh (x:Str):Prop:=x.length<=6/\ascii x=true
noncomputable def ColsOk (cs:List Col):Prop:=cs≠[]/\cs.length<=4/\∀ c∈cs,Sh c.n/\c.k.length<=6
noncomputable def worthS:List Str:=["", "a", "b", "ab", "x9", "zzzzzz"]
theorem zhz (k:Int):∃ i∈worthI,getI [.int 0,.int 1,.int 2,.int 3,.int (-5),.int 999] (k%6)=some (.int i):=by
 obtain ⟨c,hc,e⟩:=zau (enc:=T.int) (cs:=worthI) (by simp [worthI]) k
 exact ⟨c,hc,e⟩
theorem zhy (k:Int):∃ x∈worthS,getI [.str "",.str "a",.str "b",.str "ab",.str "x9",.str "zzzzzz"] (k%6)=some (.str x):=by
 obtain ⟨c,hc,e⟩:=zau (enc:=T.str) (cs:=worthS) (by simp [worthS]) k
 exact ⟨c,hc,e⟩
noncomputable def alike (cs:List Col) (c:Col):List Str:=cs.filterMap fun o=>if o.k==c.k then some o.n else none
theorem zn8 (cs:List Col) (c:Col):(cs.filterMap fun o=>if o.k==c.k then some (T.str o.n) else none)=(alike cs c).map T.str:=by
 unfold alike
 induction cs with
 | nil=>rfl
 | cons o cs ih=>simp only [List.filterMap_cons];split<;>simp_all
theorem zjt {cs:List Col} {c:Col} (h:c∈cs):alike cs c≠[]:=by
 intro e
 have:c.n∈alike cs c:=List.mem_filterMap.mpr ⟨c,h,by simp⟩
 rw [e] at this
 cases this
end Ev.K04
end
end
end
noncomputable section
noncomputable section
noncomputable section
namespace Ev.K04
open PySem
variable {G:Glo} {k:Int} {s0 s3 s6 s7 s8:Sl} {cs:List Col}
noncomputable def tabT (nm:T) (cs:List Col) (key rules:T):T:=.tup [nm,.tup (cs.map Col.t),key,rules]
noncomputable def teB:List S:=zas.body.drop 3
noncomputable def teC:List S:=zas.body.drop 4
theorem zon {j:Int} {s1 s2 s4:Sl}:evE G (.cmp .eq (.var 5) (.cst (.int j))) (view [s0,s1,s2,s3,s4,.val (.int k),s6,s7,s8])=some (.bl (k==j)):=rfl
theorem zom {c:Col} {s1 s2 s5:Sl}:evE G (.idx (.var 4) (.cst (.int 0))) (view [s0,s1,s2,s3,.val c.t,s5,s6,s7,s8])=some (.str c.n):=by simp [evE,view,Sl.get,Col.t,idxT,getI0]
theorem zf2 (hc:ColsOk cs) {c:Col} (hm:c∈cs) (TB:T) (k d:Int) :
  ∃ xs:List T,evSs G teC [.val TB,.val (.int k),.val (.int d),.val (.tup (cs.map Col.t)),.val c.t,.val (.int (k%8)),.no,.no,.no]=some (.rt (.tup xs)):=by
 have hl:cs.length<=16777216:=by have:=hc.2.1;omega
 by_cases h0:k%8=0
 ·exact ⟨[.str "empty",.str c.n],zmv rfl (zon.trans (by rw [h0];rfl)) (zdp rfl (by rw [evE,evEs,evEs,zom];rfl))⟩
 ·have e7:evE G (.comp (.idx (.var 0) (.cst (.int 0))) 1 .plain [.var 3] (some (.cmp .eq (.idx (.var 0) (.cst (.int 1))) (.idx (.var 5) (.cst (.int 1)))))) (view [.val TB,.val (.int k),.val (.int d),.val (.tup (cs.map Col.t)),.val c.t,.val (.int (k%8)),.no,.no,.no])=some (.lst ((alike cs c).map .str)):=by
   simp [evE,evEs,evO,view,Sl.get,cmpT,idxT,items,itemsC,bnd,SZ,hl]
   rw [zat (enc:=Col.t) (fun o=>if o.k==c.k then some (T.str o.n) else none) (fun o _=>by
    cases hk:(o.k==c.k)<;>simp [Col.t,getI0,getI1,eqC,dpP,eqT,hk]),zn8]
  have pre:evSs G teC [.val TB,.val (.int k),.val (.int d),.val (.tup (cs.map Col.t)),.val c.t,.val (.int (k%8)),.no,.no,.no]=evSs G (teC.drop 2) [.val TB,.val (.int k),.val (.int d),.val (.tup (cs.map Col.t)),.val c.t,.val (.int (k%8)),.no,.val (.lst ((alike cs c).map .str)),.no] :=
   (zfk rfl (zon.trans (by rw [show (k%8==0)=false by simpa using h0]))).trans (zbc rfl e7 rfl)
  rw [pre]
  generalize T.tup (cs.map Col.t)=CT
  by_cases h1:k%8=1
  ·obtain ⟨x,hx,e⟩:=zau (enc:=T.str) (zjt hm) (k/64)
   have hp:0<(alike cs c).length:=by
    have:=zjt hm
    cases q:alike cs c with
    | nil=>exact absurd q this
    | cons _ _=>simp
   refine ⟨[.str "below",.str c.n,.str x],zmv rfl (zon.trans (by rw [h1];rfl)) (zdp rfl ?_)⟩
   have e':evE G (.idx (.var 7) (.bin .mod (.bin .fdiv (.var 1) (.cst (.int 64))) (.blt .len (.var 7)))) (view [.val TB,.val (.int k),.val (.int d),.val CT,.val c.t,.val (.int (k%8)),.no,.val (.lst ((alike cs c).map .str)),.no])=some (.str x):=by
    simp [evE,view,Sl.get,bltT,binT,modT,fdivT,hp,idxT,e]
   rw [evE,evEs,evEs,evEs,zom,e']
   rfl
  ·have pre2:evSs G (teC.drop 2) [.val TB,.val (.int k),.val (.int d),.val CT,.val c.t,.val (.int (k%8)),.no,.val (.lst ((alike cs c).map .str)),.no]=evSs G (teC.drop 3) [.val TB,.val (.int k),.val (.int d),.val CT,.val c.t,.val (.int (k%8)),.no,.val (.lst ((alike cs c).map .str)),.no]:=zfk rfl (zon.trans (by rw [show (k%8==1)=false by simpa using h1]))
   rw [pre2]
   generalize T.lst ((alike cs c).map T.str)=AL
   obtain ⟨i,hi,ei⟩:=zhz (k/64)
   obtain ⟨x,hx,ex⟩:=zhy (k/64)
   cases ht:(c.k==("text":Str)) with
   | true =>
    refine ⟨[.str "is",.str c.n,.str x],(zbc (t:=.tup [.str "",.str "a",.str "b",.str "ab",.str "x9",.str "zzzzzz"]) (τ':=[.val TB,.val (.int k),.val (.int d),.val CT,.val c.t,.val (.int (k%8)),.no,.val AL,.val (.tup [.str "",.str "a",.str "b",.str "ab",.str "x9",.str "zzzzzz"])]) rfl (by simp [evE,evEs,view,Sl.get,Col.t,idxT,getI1,cmpT,eqC,dpP,eqT,ht,bltT]) rfl).trans (zdp rfl ?_)⟩
    rw [evE,evEs,evEs,evEs,zom]
    simp [evE,evEs,view,Sl.get,binT,modT,fdivT,idxT,ex]
   | false =>
    refine ⟨[.str "is",.str c.n,.int i],(zbc (t:=.tup [.int 0,.int 1,.int 2,.int 3,.int (-5),.int 999]) (τ':=[.val TB,.val (.int k),.val (.int d),.val CT,.val c.t,.val (.int (k%8)),.no,.val AL,.val (.tup [.int 0,.int 1,.int 2,.int 3,.int (-5),.int 999])]) rfl (by simp [evE,evEs,view,Sl.get,Col.t,idxT,getI0,getI1,cmpT,eqC,dpP,eqT,ht,bltT]) rfl).trans (zdp rfl ?_)⟩
    rw [evE,evEs,evEs,evEs,zom]
    simp [evE,evEs,view,Sl.get,binT,modT,fdivT,idxT,ei]
theorem zii {TB CT ct:T} {D:Int} {l:Nat} (i1:idxT TB (.int 1)=some CT) (l1:bltT .len CT=some (.int (l:Int))) (hp:0<l) (i2:idxT CT (.int (k/8%(l:Int)))=some ct) :
  evSs G zas.body [.val TB,.val (.int k),.val (.int D),.no,.no,.no,.no,.no,.no]=evSs G teB [.val TB,.val (.int k),.val (.int D),.val CT,.val ct,.val (.int (k%8)),.no,.no,.no] :=
 (zbc (t:=CT) (τ':=[.val TB,.val (.int k),.val (.int D),.val CT,.no,.no,.no,.no,.no]) rfl (by simp [evE,view,Sl.get,i1]) rfl).trans ((zbc (t:=ct) (τ':=[.val TB,.val (.int k),.val (.int D),.val CT,.val ct,.no,.no,.no,.no]) rfl (by simp [evE,view,Sl.get,l1,binT,modT,fdivT,hp,i2]) rfl).trans (zbc (t:=.int (k%8)) rfl (by simp [evE,view,Sl.get,binT,modT]) rfl))
theorem zk5 {D:Int} {s4:Sl}:evE G (.land (.cmp .gt (.var 2) (.cst (.int 1))) (.cmp .gt (.var 5) (.cst (.int 4)))) (view [s0,.val (.int k),.val (.int D),s3,s4,.val (.int (k%8)),s6,s7,s8])=some (.bl (decide (1<D)&&decide (4<k%8))):=by
 cases h1:decide (1<D)<;>simp [evE,view,Sl.get,cmpT,h1]
theorem zol {P:Pr} (hd:P.fn "_law_drawn"=some zal) (ht:P.fn "_law_test"=some zas) (hc:ColsOk cs) (nm key rules:T) :
  ∀ (d:Nat) (n:Nat) (k:Int),∃ xs:List T,run P (n+d+2) "_law_test" [tabT nm cs key rules,.int k,.int ((d+1:Nat):Int)]=some (.tup xs):=by
 have i1:idxT (tabT nm cs key rules) (.int 1)=some (.tup (cs.map Col.t)):=by simp [tabT,idxT,getI1]
 have l1:bltT .len (.tup (cs.map Col.t))=some (.int (cs.length:Int)):=by simp [bltT]
 have hp:0<cs.length:=by cases cs with | nil=>exact absurd rfl hc.1 | cons _ _=>simp
 have i2:∀ k:Int,∃ c∈cs,idxT (.tup (cs.map Col.t)) (.int (k/8%(cs.length:Int)))=some c.t:=fun k=>by
  obtain ⟨c,hm,ec⟩:=zau (enc:=Col.t) hc.1 (k/8)
  exact ⟨c,hm,ec⟩
 intro d
 induction d with
 | zero =>
  intro n k
  rw [zag ht rfl]
  show ∃ xs:List T,zaa (evSs (glo P (run P (n+1))) zas.body [.val (tabT nm cs key rules),.val (.int k),.val (.int 1),.no,.no,.no,.no,.no,.no])=_
  obtain ⟨c,hm,ec⟩:=i2 k
  obtain ⟨t,e⟩:=zf2 (G:=glo P (run P (n+1))) hc hm (tabT nm cs key rules) k 1
  refine ⟨t,?_⟩
  rw [zii i1 l1 hp ec]
  exact zzf zaa ((zfk rfl (zk5.trans rfl)).trans e)
 | succ d ih =>
  intro n k
  rw [show n+(d+1)+2=(n+d+2)+1 by omega,zag ht rfl]
  obtain ⟨c,hm,ec⟩:=i2 k
  have e1:(glo P (run P (n+d+2))).call "_law_drawn" [.int k,.int 1]=_:=zbi hd (n+d+1) k 1
  have e2:(glo P (run P (n+d+2))).call "_law_drawn" [.int k,.int 2]=_:=zbi hd (n+d+1) k 2
  obtain ⟨t1,r1⟩:=ih n (drawnI k 1/4)
  obtain ⟨t2,r2⟩:=ih n (drawnI k 2/4)
  have hd1:((d+1+1:Nat):Int)-1=((d+1:Nat):Int):=by omega
  rw [<- hd1] at r1 r2
  clear hd1 ih
  generalize hD:((d+1+1:Nat):Int)=D at *
  have hD1:decide (1<D)=true:=zyw (by omega)
  have r1:(glo P (run P (n+d+2))).call "_law_test" [tabT nm cs key rules,.int (drawnI k 1/4),.int (D-1)]=some (.tup t1):=r1
  have r2:(glo P (run P (n+d+2))).call "_law_test" [tabT nm cs key rules,.int (drawnI k 2/4),.int (D-1)]=some (.tup t2):=r2
  show ∃ xs:List T,zaa (evSs (glo P (run P (n+d+2))) zas.body [.val (tabT nm cs key rules),.val (.int k),.val (.int D),.no,.no,.no,.no,.no,.no])=_
  rw [zii i1 l1 hp ec]
  obtain ⟨t,e⟩:=zf2 (G:=glo P (run P (n+d+2))) hc hm (tabT nm cs key rules) k D
  generalize glo P (run P (n+d+2))=G at *
  generalize tabT nm cs key rules=TB at *
  generalize T.tup (cs.map Col.t)=CT at *
  generalize c.t=ct at *
  by_cases h4:4<k%8
  ·have h4':decide (4<k%8)=true:=zyw h4
   have e6:evE G (.comp (.call "_law_test" [.var 1,.bin .fdiv (.call "_law_drawn" [.var 2,.var 0]) (.cst (.int 4)),.bin .sub (.var 3) (.cst (.int 1))]) 1 .plain [.tup [.cst (.int 1),.cst (.int 2)]] none) (view [.val TB,.val (.int k),.val (.int D),.val CT,.val ct,.val (.int (k%8)),.no,.no,.no])=some (.lst [.tup t1,.tup t2]):=by
    simp [evE,evEs,evO,view,Sl.get,binT,subT,fdivT,items,itemsC,compM,bnd,SZ,e1,e2,r1,r2]
   have pre:∀ u:T,evE G (.idx (.lst [.tup [.cst (.str "not"),.idx (.var 6) (.cst (.int 0))],.tup [.cst (.str "and"),.idx (.var 6) (.cst (.int 0)),.idx (.var 6) (.cst (.int 1))],.tup [.cst (.str "or"),.idx (.var 6) (.cst (.int 0)),.idx (.var 6) (.cst (.int 1))]]) (.bin .sub (.var 5) (.cst (.int 5)))) (view [.val TB,.val (.int k),.val (.int D),.val CT,.val ct,.val (.int (k%8)),.val (.lst [.tup t1,.tup t2]),.no,.no])=some u->evSs G teB [.val TB,.val (.int k),.val (.int D),.val CT,.val ct,.val (.int (k%8)),.no,.no,.no]=some (.rt u):=fun u hu =>
    zmv rfl (zk5.trans (by rw [hD1,h4'];rfl)) ((zbc rfl e6 rfl).trans (zdp rfl hu))
   have hk:k%8=5\/k%8=6\/k%8=7:=by omega
   have ev:evE G (.idx (.lst [.tup [.cst (.str "not"),.idx (.var 6) (.cst (.int 0))],.tup [.cst (.str "and"),.idx (.var 6) (.cst (.int 0)),.idx (.var 6) (.cst (.int 1))],.tup [.cst (.str "or"),.idx (.var 6) (.cst (.int 0)),.idx (.var 6) (.cst (.int 1))]]) (.bin .sub (.var 5) (.cst (.int 5)))) (view [.val TB,.val (.int k),.val (.int D),.val CT,.val ct,.val (.int (k%8)),.val (.lst [.tup t1,.tup t2]),.no,.no])=getI [.tup [.str "not",.tup t1],.tup [.str "and",.tup t1,.tup t2],.tup [.str "or",.tup t1,.tup t2]] (k%8-5):=by
    simp [evE,evEs,view,Sl.get,idxT,getI0,getI1,binT,subT]
   rcases hk with hk | hk | hk
   ·exact ⟨_,zzf zaa (pre _ (ev.trans (by rw [hk];exact getI0 _ _)))⟩
   ·exact ⟨_,zzf zaa (pre _ (ev.trans (by rw [hk];exact getI1 _ _ _)))⟩
   ·exact ⟨_,zzf zaa (pre _ (ev.trans (by rw [hk];exact getI2 _ _ _ _)))⟩
  ·refine ⟨t,zzf zaa ((zfk rfl (zk5.trans (by rw [hD1,zy0 h4];rfl))).trans e)⟩
end Ev.K04
end
end
end
noncomputable section
noncomputable section
noncomputable section
namespace Ev.K04
open PySem
variable {cs:List Col}
noncomputable def strT (xs:List Str):T:=.tup (xs.map .str)
noncomputable def Short (xs:List Str):Prop:=∀ x∈xs,Sh x
theorem zqp {x:Str}:∀ (xs:List Str),(xs.map T.str).any (fun z=>eqT z (.str x))=xs.any fun y=>y==x
 | []=>rfl
 | y::ys=>by rw [zyh,List.any_cons,List.any_cons,zqp ys];rfl
theorem zwy (y x:Str):dpP (.str y) (.str x)=0:=rfl
theorem zt1 (x:Str) (xs:List Str):dpI (.str x) (xs.map .str)=true:=by
 unfold dpI
 rw [List.all_eq_true]
 intro z hz
 obtain ⟨y,_,rfl⟩:=omm hz
 rw [zwy];rfl
theorem zmz (x:Str) (xs:List Str):inC (.str x) (.tup (xs.map .str))=some (xs.any fun y=>y==x):=by
 simp only [inC,zt1,if_true,zqp]
noncomputable def more (cs:List Col) (kd:Str) (row:List Str):List (List Str):=cs.filterMap fun o=>if (o.k==kd)&&!(row.any fun y=>y==o.n) then some (row++[o.n]) else none
theorem zpo (cs:List Col) (kd:Str) (row:List Str):(cs.filterMap fun o=>if (o.k==kd)&&!(row.any fun y=>y==o.n) then some (strT (row++[o.n])) else none)=(more cs kd row).map strT:=by
 unfold more
 rw [List.map_filterMap]
 congr
 funext o
 split<;>rfl
theorem zpp (cs:List Col) (kd:Str) (row:List Str):(more cs kd row).length<=cs.length:=List.length_filterMap_le _ _
theorem zkc (hc:ColsOk cs) {kd:Str} {row r:List Str} (hr:Short row) (h:r∈more cs kd row):Short r/\r.length=row.length+1:=by
 unfold more at h
 obtain ⟨o,ho,e⟩:=List.mem_filterMap.mp h
 split at e
 ·cases e
  refine ⟨fun x hx=>?_,by simp⟩
  rcases oma hx with q | q
  ·exact hr x q
  ·rw [omg q];exact (hc.2.2 o ho).1
 ·cases e
noncomputable def Rows (j:Nat) (ps:List (List Str)):Prop:=ps.length<=4 ^ j/\∀ p∈ps,Short p/\p.length=j
theorem zhj {G:Glo} (hc:ColsOk cs) (nm key rules kt s2:T) (kd:Str) (j:Nat) (hj:j<=1) (ps:List (List Str)) (hp:Rows j ps) (s3:Sl) :
  ∃ (qs:List (List Str)) (s5:Sl),loopM (fun x τ=>(bndS [5] x τ).bind fun τ'=>evSs G [.asg 4 (.bin .add (.var 4) (.comp (.bin .add (.var 6) (.tup [.idx (.var 0) (.cst (.int 0))])) 1 .plain [.idx (.var 0) (.cst (.int 1))] (some (.land (.cmp .eq (.idx (.var 0) (.cst (.int 1))) (.var 4)) (.cmp .notin (.idx (.var 0) (.cst (.int 0))) (.var 6))))))] τ')
   (ps.map strT) [.val (tabT nm cs key rules),.val kt,.val s2,.val (.str kd),.own [],s3] =
   some (.nx [.val (tabT nm cs key rules),.val kt,.val s2,.val (.str kd),.own (qs.map strT),s5])/\Rows (j+1) qs:=by
 have hl4:=hc.2.1
 have hl:cs.length<=16777216:=by omega
 have h4j:4 ^ j<=4:=by
  rcases (by omega:j=0\/j=1) with rfl | rfl<;>decide
 have hpl:ps.length<=4:=zzn hp.1 h4j
 obtain ⟨τ',e,qs,s5,rfl,h1,h2⟩:=zb2 (enc:=strT) (f:=fun x τ=>(bndS [5] x τ).bind fun τ'=>evSs G [.asg 4 (.bin .add (.var 4) (.comp (.bin .add (.var 6) (.tup [.idx (.var 0) (.cst (.int 0))])) 1 .plain [.idx (.var 0) (.cst (.int 1))] (some (.land (.cmp .eq (.idx (.var 0) (.cst (.int 1))) (.var 4)) (.cmp .notin (.idx (.var 0) (.cst (.int 0))) (.var 6))))))] τ')
  (fun done τ=>∃ qs s5,τ=[.val (tabT nm cs key rules),.val kt,.val s2,.val (.str kd),.own (qs.map strT),s5]/\qs.length<=4*done.length/\∀ q∈qs,Short q/\q.length=j+1)
  ps [.val (tabT nm cs key rules),.val kt,.val s2,.val (.str kd),.own [],s3] ⟨[],s3,rfl,by simp,fun q hq=>by cases hq⟩ (by
   rintro done row rest hsp τ ⟨qs,s5,rfl,h1,h2⟩
   have hrow:row∈ps:=by rw [hsp];simp
   have hdl:done.length<=ps.length:=by rw [hsp];simp
   have hrs:=(hp.2 row hrow).1
   have hml:=zpp cs kd row
   have hz:qs.length+(more cs kd row).length<=16777216:=by omega
   have hrl:row.length+1<=16777216:=by rw [(hp.2 row hrow).2];omega
   refine ⟨[.val (tabT nm cs key rules),.val kt,.val s2,.val (.str kd),.own ((qs++more cs kd row).map strT),.val (strT row)],?_,qs++more cs kd row,_,rfl,?_,?_⟩
   ·simp [evSs,evS,evE,evEs,evO,view,frzAt,vars,varsL,varsO,Sl.get,Sl.frz,binT,addT,slotOf,fresh,cmpT,idxT,items,itemsC,bndS,bnd,SZ,tabT,getI1,hl]
    rw [zat (enc:=Col.t) (fun o=>if (o.k==kd)&&!(row.any fun y=>y==o.n) then some (strT (row++[o.n])) else none) (fun o _=>by
     cases hk:(o.k==kd) with
     | false=>simp [Col.t,getI0,getI1,eqC,dpP,eqT,hk]
     | true =>
      have hin:=zmz o.n row
      cases ha:(row.any fun y=>y==o.n)<;>rw [ha] at hin<;>simp [Col.t,getI0,getI1,eqC,dpP,eqT,hk,strT,hin,hrl]),zpo]
    simp [hz]
   ·simp only [List.length_append,List.length_cons,List.length_nil];omega
   ·intro q hq
    rcases oma hq with z | z
    ·exact h2 q z
    ·have:=zkc hc hrs z
     exact ⟨this.1,by rw [this.2,(hp.2 row hrow).2]⟩)
 refine ⟨qs,s5,e,?_,h2⟩
 have:=hp.1
 rw [Nat.pow_succ]
 omega
end Ev.K04
end
end
end
noncomputable section
noncomputable section
noncomputable section
namespace Ev.K04
open PySem
theorem zl8 {P:Pr} (h:P.fn "_law_pairs"=some za5) (n:Nat) {cs:List Col} (hc:ColsOk cs) (nm key rules:T) (ks:List Str) (hk:ks.length<=2) :
  ∃ ps,run P (n+1) "_law_pairs" [tabT nm cs key rules,.lst (ks.map .str)]=some (.lst (ps.map strT))/\Rows ks.length ps:=by
 rw [zag h rfl]
 unfold za5
 dsimp only
 rw [zao (τ':=[.val (tabT nm cs key rules),.val (.lst (ks.map .str)),.own ([[]].map strT),.no,.no,.no]) (by simp [evS,evE,evEs,begin',frzAt,vars,varsL,slotOf,fresh,strT])]
 obtain ⟨τ',e,ps,s2,s3,s4,s5,rfl,h1,h2⟩:=zb2 (enc:=T.str) (f:=fun x τ=>(bndS [3] x τ).bind fun τ'=>evSs (glo P (run P n)) [.asg 4 (.lst []),
  .loop [5] .plain [.var 2] [.asg 4 (.bin .add (.var 4) (.comp (.bin .add (.var 6) (.tup [.idx (.var 0) (.cst (.int 0))])) 1 .plain [.idx (.var 0) (.cst (.int 1))] (some (.land (.cmp .eq (.idx (.var 0) (.cst (.int 1))) (.var 4)) (.cmp .notin (.idx (.var 0) (.cst (.int 0))) (.var 6))))))],
  .asg 2 (.var 4)] τ')
  (fun done τ=>∃ ps s2 s3 s4 s5,τ=[.val (tabT nm cs key rules),.val (.lst (ks.map .str)),s2,s3,s4,s5]/\(s2=.own (ps.map strT)\/s2=.val (.lst (ps.map strT)))/\Rows done.length ps)
  ks [.val (tabT nm cs key rules),.val (.lst (ks.map .str)),.own ([[]].map strT),.no,.no,.no] ⟨[[]],_,_,_,_,rfl,.inl rfl,by simp,fun p hp=>by rw [omg hp];exact ⟨fun x hx=>(by cases hx),rfl⟩⟩ (by
   rintro done kd rest hsp τ ⟨ps,s2,s3,s4,s5,rfl,h1,h2⟩
   have hdl:done.length<=1:=by rw [hsp] at hk;simp at hk;omega
   have hfz:Sl.frz s2=.val (.lst (ps.map strT)):=by rcases h1 with rfl | rfl<;>rfl
   obtain ⟨qs,s5',el,hq⟩:=zhj (G:=glo P (run P n)) hc nm key rules (.lst (ks.map .str)) (.lst (ps.map strT)) kd done.length hdl ps h2 s5
   refine ⟨[.val (tabT nm cs key rules),.val (.lst (ks.map .str)),.val (.lst (qs.map strT)),.val (.str kd),.val (.lst (qs.map strT)),s5'],?_,qs,_,_,_,_,rfl,.inr rfl,by rw [zyx];exact hq⟩
   simp only [bndS,Option.bind_some,List.set_cons_succ,List.set_cons_zero]
   rw [zao (τ':=[.val (tabT nm cs key rules),.val (.lst (ks.map .str)),s2,.val (.str kd),.own [],s5]) (by simp [evS,evE,evEs,frzAt,vars,varsL,slotOf,fresh])]
   rw [zao (s:=.loop _ _ _ _) (τ':=[.val (tabT nm cs key rules),.val (.lst (ks.map .str)),.val (.lst (ps.map strT)),.val (.str kd),.own (qs.map strT),s5']) (by
    rw [evS]
    simp only [varsL,vars,List.append_nil,frzAt,evEs,evE,view,List.modify_succ_cons,List.modify_zero_cons,hfz,List.map_cons,Sl.get,List.map_nil]
    simp only [List.getElem?_cons_succ,List.getElem?_cons_zero,Option.join_some,Option.bind_some,items]
    exact el)]
   simp [evSs,evS,evE,view,frzAt,vars,Sl.get,Sl.frz,slotOf,fresh])
 rw [zao (s:=.loop _ _ _ _) (τ':=[.val (tabT nm cs key rules),.val (.lst (ks.map .str)),s2,s3,s4,s5]) (by
  rw [evS]
  simp only [varsL,vars,List.append_nil,frzAt,evEs,evE,view,List.modify_succ_cons,List.modify_zero_cons,List.map_cons,Sl.get,Sl.frz,List.map_nil]
  simp only [List.getElem?_cons_succ,List.getElem?_cons_zero,Option.join_some,Option.bind_some,items]
  exact e)]
 refine ⟨ps,?_,h2⟩
 rcases h1 with rfl | rfl<;>simp [evSs,evS,evE,view,frzAt,vars,Sl.get,Sl.frz,zaa]
end Ev.K04
end
end
end
noncomputable section
noncomputable section
noncomputable section
namespace Ev.K04
open PySem
structure Bt where
 nm:Str
 cs:List Col
 key:List Str
noncomputable def Bt.t (b:Bt):T:=bareT b.nm b.cs b.key []
noncomputable def cnames:List Str:=["id", "n", "t", "u"]
structure Bt.ok (b:Bt):Prop where
 nm:b.nm.length<=6
 cs:ColsOk b.cs
 k1:b.key.length<=2
 ks:Short b.key
 inn:∀ x∈b.key,∃ c∈b.cs,c.n=x
 kn:b.key≠[]
 nd:(b.cs.map (·.n)).Nodup
 kk:∀ c∈b.cs,c.k="whole"\/c.k="text"
 as:∀ c∈b.cs,c.n∈cnames
 na:ascii b.nm=true
 kg:∀ x∈b.key,∃ c∈b.cs,c.n=x/\c.g=false
structure Rl where
 w:T
 l:Bool
 xs:List T
 r:List T
noncomputable def Rl.raw (r:Rl):T:=.tup (r.w::(bif r.l then .lst r.xs else .tup r.xs)::r.r)
noncomputable def Rl.t (r:Rl):T:=.tup (r.w::.tup r.xs::r.r)
noncomputable def zb0 (cs:List Col) (x:Str):List Str:=cs.filterMap fun c=>if c.n==x then some c.k else none
theorem zhs (cs:List Col) (x:Str):(cs.filterMap fun c=>if c.n==x then some (T.str c.k) else none)=(zb0 cs x).map T.str:=by
 unfold zb0
 rw [List.map_filterMap]
 congr
 funext o
 split<;>rfl
theorem zkf {cs:List Col} {x:Str} (h:∃ c∈cs,c.n=x):∃ y r,zb0 cs x=y::r:=by
 obtain ⟨c,hc,rfl⟩:=h
 have:c.k∈zb0 cs c.n:=List.mem_filterMap.mpr ⟨c,hc,by simp⟩
 cases q:zb0 cs c.n with
 | nil=>rw [q] at this;cases this
 | cons y r=>exact ⟨y,r,rfl⟩
noncomputable def ways6:List Str:=["along", "stop", "late", "gap", "along", "gap"]
theorem zm6 (k:Int):∃ x∈ways6,getI [.str "along",.str "stop",.str "late",.str "gap",.str "along",.str "gap"] (k%6)=some (.str x):=by
 obtain ⟨c,hc,e⟩:=zau (enc:=T.str) (cs:=ways6) (by simp [ways6]) k
 exact ⟨c,hc,e⟩
noncomputable def stiff (cs:List Col) (p:List Str):List Col:=cs.filterMap fun c=>if (p.any fun y=>y==c.n)&&!c.g then some c else none
theorem zk9 (cs:List Col) (p:List Str):(cs.filterMap fun c=>if (p.any fun y=>y==c.n)&&!c.g then some c.t else none)=(stiff cs p).map Col.t:=by
 unfold stiff
 rw [List.map_filterMap]
 congr
 funext o
 split<;>rfl
theorem zgr {α:Type} (f:α->T) (l:List α):eqTs (l.map f) []=l.isEmpty:=by cases l<;>rfl
theorem zp8 (cs:List Col):(cs.filterMap fun c=>some (T.str c.n))=(cs.map (·.n)).map T.str:=by
 induction cs with
 | nil=>rfl
 | cons c cs ih=>simp [ih]
theorem zh3 (xs:List T) (j:Nat):cut xs none (some (j:Int))=xs.take j:=by
 unfold cut clip
 simp only [show ¬ ((j:Int)<0) by omega,if_false,Int.toNat_natCast,Nat.sub_zero,List.drop_zero]
 by_cases h:j<=xs.length
 ·rw [Nat.min_eq_left h]
 ·rw [Nat.min_eq_right (by omega),List.take_of_length_le (by omega),List.take_of_length_le (by omega)]
theorem zx6 {G:Glo} {c:E} {a b ss:List S} {τ τ':List Sl} (h0:frzAt (vars c) τ=τ) (h1:evE G c (view τ)=some (.bl true)) (h2:evSs G a τ=some (.nx τ')):evSs G (.ite c a b::ss) τ=evSs G ss τ':=zao (by rw [evS,h0,h1];exact h2)
section
variable {G:Glo} {BL bt gt KL PL NL ST pt:T} {k:Int} {s6 s7 s8 s9 s10:Sl}
noncomputable def ruD:List S:=za1.body.drop 3
noncomputable def ruE:List S:=za1.body.drop 4
theorem zxp:evE G (.cmp .lt (.bin .mod (.var 2) (.cst (.int 8))) (.cst (.int 5))) (view [.val BL,.val bt,.val (.int k),.val gt,.val KL,.val PL,s6,s7,s8,s9,s10])=some (.bl (decide (k%8<5))):=rfl
theorem zuy:evE G (.cmp .eq (.bin .mod (.var 2) (.cst (.int 8))) (.cst (.int 5))) (view [.val BL,.val bt,.val (.int k),.val gt,.val KL,.val PL,s6,s7,s8,s9,s10])=some (.bl (k%8==5)):=rfl
theorem zux {w w' gn:Str} {cl:Nat} (hc:evE G (.land (.cmp .lt (.bin .mod (.var 2) (.cst (.int 8))) (.cst (.int 5))) (.cmp .ne (.var 5) (.lst []))) (view [.val BL,.val bt,.val (.int k),.val gt,.val KL,.val PL,.no,.no,.no,.no,.no])=some (.bl true))
  (l5:bltT .len PL=some (.int (cl:Int))) (hcl:0<cl) (i5:idxT PL (.int (k/64%(cl:Int)))=some pt) (iw:getI [.str "along",.str "stop",.str "late",.str "gap",.str "along",.str "gap"] (k/1024%6)=some (.str w))
  (e8:evE G (.comp (.var 0) 1 .plain [.idx (.var 1) (.cst (.int 1))] (some (.land (.cmp .isin (.idx (.var 0) (.cst (.int 0))) (.var 7)) (.lnot (.tru (.idx (.var 0) (.cst (.int 2))))))))  (view [.val BL,.val bt,.val (.int k),.val gt,.val KL,.val PL,.val pt,.val (.str w),.no,.no,.no])=some ST)
  (v:Bool) (hne:neC ST (.lst [])=some (.bl v)) (hw:w'=if v&&(w=="gap") then ("late":Str) else w) (ig:idxT gt (.int 0)=some (.str gn)) :
  evSs G ruD [.val BL,.val bt,.val (.int k),.val gt,.val KL,.val PL,.no,.no,.no,.no,.no]=some (.rt (.tup [.str "refers",pt,.str gn,.str w'])):=by
 refine zmv rfl hc ?_
 refine (zbc (t:=pt) (τ':=[.val BL,.val bt,.val (.int k),.val gt,.val KL,.val PL,.val pt,.no,.no,.no,.no]) rfl (by simp [evE,view,Sl.get,l5,binT,modT,fdivT,hcl,i5]) rfl).trans ?_
 refine (zbc (t:=.str w) (τ':=[.val BL,.val bt,.val (.int k),.val gt,.val KL,.val PL,.val pt,.val (.str w),.no,.no,.no]) rfl (by simp [evE,evEs,view,Sl.get,binT,modT,fdivT,idxT,iw]) rfl).trans ?_
 refine (zbc (t:=ST) (τ':=[.val BL,.val bt,.val (.int k),.val gt,.val KL,.val PL,.val pt,.val (.str w),.val ST,.no,.no]) rfl e8 rfl).trans ?_
 have hcd:evE G (.land (.cmp .ne (.var 8) (.lst [])) (.cmp .eq (.var 7) (.cst (.str "gap")))) (view [.val BL,.val bt,.val (.int k),.val gt,.val KL,.val PL,.val pt,.val (.str w),.val ST,.no,.no])=some (.bl (v&&(w=="gap"))):=by
  cases v<;>simp [evE,evEs,view,Sl.get,cmpT,hne,eqC,dpP,eqT]
 cases q:(v&&(w==("gap":Str))) with
 | true =>
  rw [q] at hw hcd
  subst hw
  exact (zx6 (τ':=[.val BL,.val bt,.val (.int k),.val gt,.val KL,.val PL,.val pt,.val (.str "late"),.val ST,.no,.no]) rfl hcd (zbc (t:=.str "late") rfl rfl rfl)).trans (zdp rfl (by simp [evE,evEs,view,Sl.get,ig]))
 | false =>
  rw [q] at hw hcd
  subst hw
  exact (zfk rfl hcd).trans (zdp rfl (by simp [evE,evEs,view,Sl.get,ig]))
end
theorem zo0 {P:Pr} (hd:P.fn "_law_drawn"=some zal) (ht:P.fn "_law_test"=some zas) (hp:P.fn "_law_pairs"=some za5) (h:P.fn "_law_rule"=some za1) (n:Nat)
  {bs:List Bt} (hb:∀ b∈bs,b.ok) {b:Bt} (hm:b∈bs) (k:Int):∃ r:Rl,run P (n+6) "_law_rule" [.lst (bs.map Bt.t),b.t,.int k]=some r.raw/\r.r.length<=2:=by
 rw [zag h rfl]
 show ∃ r:Rl,zaa (evSs (glo P (run P (n+5))) za1.body [.val (.lst (bs.map Bt.t)),.val b.t,.val (.int k),.no,.no,.no,.no,.no,.no,.no,.no])=_/\_
 have hne:bs≠[]:=by intro e;rw [e] at hm;cases hm
 obtain ⟨g,hg,eg⟩:=zau (enc:=Bt.t) hne (k/8)
 have hbo:=hb b hm
 have hgo:=hb g hg
 have hbl:0<bs.length:=by cases bs with | nil=>exact absurd rfl hne | cons _ _=>simp
 have hgl:g.cs.length<=16777216:=by have:=hgo.cs.2.1;omega
 have hbcl:b.cs.length<=16777216:=by have:=hbo.cs.2.1;omega
 have hkl:g.key.length<=16777216:=by have:=hgo.k1;omega
 have hb0:0<b.cs.length:=by have:=hbo.cs.1;cases q:b.cs with | nil=>exact absurd q this | cons _ _=>simp
 obtain ⟨ps,ep,hps⟩:=zl8 hp (n+4) hbo.cs (.str b.nm) (.tup (b.key.map .str)) (.tup []) (g.key.map fun x=>(zb0 g.cs x).headD "") (by rw [zyj];exact hgo.k1)
 have ep:(glo P (run P (n+5))).call "_law_pairs" [b.t,.lst ((g.key.map fun x=>(zb0 g.cs x).headD "").map .str)]=some (.lst (ps.map strT)):=ep
 have tests:∀ d:Nat,d<=2->∃ t:List T,(glo P (run P (n+5))).call "_law_test" [b.t,.int (k/64),.int ((d+1:Nat):Int)]=some (.tup t):=fun d hd2=>by
  obtain ⟨t,e⟩:=zol hd ht hbo.cs (.str b.nm) (.tup (b.key.map .str)) (.tup []) d (n+3-d) (k/64)
  rw [show n+3-d+d+2=n+5 by omega] at e
  exact ⟨t,e⟩
 generalize glo P (run P (n+5))=G at *
 have lB:bltT .len (.lst (bs.map Bt.t))=some (.int (bs.length:Int)):=by simp [bltT]
 have iB:idxT (.lst (bs.map Bt.t)) (.int (k/8%(bs.length:Int)))=some g.t:=eg
 have ib1:idxT b.t (.int 1)=some (.tup (b.cs.map Col.t)):=by simp [Bt.t,bareT,idxT,getI1]
 have ig0:idxT g.t (.int 0)=some (.str g.nm):=by simp [Bt.t,bareT,idxT,getI0]
 have ig1:idxT g.t (.int 1)=some (.tup (g.cs.map Col.t)):=by simp [Bt.t,bareT,idxT,getI1]
 have ig2:idxT g.t (.int 2)=some (.tup (g.key.map .str)):=by simp [Bt.t,bareT,idxT,getI2]
 generalize T.lst (bs.map Bt.t)=BL at *
 generalize b.t=bt at *
 generalize g.t=gt at *
 have e4:evE G (.comp (.idx (.comp (.idx (.var 0) (.cst (.int 1))) 1 .plain [.idx (.var 4) (.cst (.int 1))] (some (.cmp .eq (.idx (.var 0) (.cst (.int 0))) (.var 1)))) (.cst (.int 0))) 1 .plain [.idx (.var 3) (.cst (.int 2))] none) (view [.val BL,.val bt,.val (.int k),.val gt,.no,.no,.no,.no,.no,.no,.no])=some (.lst ((g.key.map fun x=>(zb0 g.cs x).headD "").map .str)):=by
  simp [evE,evEs,evO,view,Sl.get,items,itemsC,bnd,SZ,cmpT,ig1,ig2,hkl]
  rw [zat (enc:=T.str) (fun x=>some (T.str ((zb0 g.cs x).headD ""))) (fun x hx=>by
   obtain ⟨y,r,ey⟩:=zkf (hgo.inn x hx)
   simp [hgl]
   rw [zat (enc:=Col.t) (fun c=>if c.n==x then some (T.str c.k) else none) (fun c _=>by
    cases hk:(c.n==x)<;>simp [Col.t,idxT,getI0,getI1,eqC,dpP,eqT,hk]),zhs,ey]
   simp [idxT,getI0])]
  simp [List.filterMap_eq_map']
 generalize T.lst ((g.key.map fun x=>(zb0 g.cs x).headD "").map T.str)=KL at *
 have pre:∀ PL:T,G.call "_law_pairs" [bt,KL]=some PL->evSs G za1.body [.val BL,.val bt,.val (.int k),.no,.no,.no,.no,.no,.no,.no,.no]=evSs G ruD [.val BL,.val bt,.val (.int k),.val gt,.val KL,.val PL,.no,.no,.no,.no,.no]:=fun PL hPL =>
  (zbc (t:=gt) (τ':=[.val BL,.val bt,.val (.int k),.val gt,.no,.no,.no,.no,.no,.no,.no]) rfl (by simp [evE,view,Sl.get,lB,binT,modT,fdivT,hbl,iB]) rfl).trans
   ((zbc (t:=KL) (τ':=[.val BL,.val bt,.val (.int k),.val gt,.val KL,.no,.no,.no,.no,.no,.no]) rfl e4 rfl).trans (zbc (t:=PL) rfl (by simp [evE,evEs,view,Sl.get,hPL]) rfl))
 rw [pre _ ep]
 have hcd:evE G (.land (.cmp .lt (.bin .mod (.var 2) (.cst (.int 8))) (.cst (.int 5))) (.cmp .ne (.var 5) (.lst []))) (view [.val BL,.val bt,.val (.int k),.val gt,.val KL,.val (.lst (ps.map strT)),.no,.no,.no,.no,.no])=some (.bl (decide (k%8<5)&&!ps.isEmpty)):=by
  rw [evE,zxp]
  cases decide (k%8<5) with
  | false=>rfl
  | true=>cases ps<;>simp [evE,evEs,view,Sl.get,cmpT,neC,dpP,dpPs,eqT,eqTs]
 cases hw:(decide (k%8<5)&&!ps.isEmpty) with
 | true =>
  rw [hw] at hcd
  rw [zyd] at hw
  have hpn:ps≠[]:=by intro e;rw [e] at hw;simp at hw
  obtain ⟨p,hp',epi⟩:=zau (enc:=strT) hpn (k/64)
  have hpl:0<ps.length:=by cases q:ps with | nil=>exact absurd q hpn | cons _ _=>simp
  obtain ⟨w,hwm,ew⟩:=zm6 (k/1024)
  have e8:evE G (.comp (.var 0) 1 .plain [.idx (.var 1) (.cst (.int 1))] (some (.land (.cmp .isin (.idx (.var 0) (.cst (.int 0))) (.var 7)) (.lnot (.tru (.idx (.var 0) (.cst (.int 2))))))))  (view [.val BL,.val bt,.val (.int k),.val gt,.val KL,.val (.lst (ps.map strT)),.val (strT p),.val (.str w),.no,.no,.no])=some (.lst ((stiff b.cs p).map Col.t)):=by
   simp [evE,evEs,evO,view,Sl.get,items,itemsC,bnd,SZ,cmpT,ib1,hbcl]
   rw [zat (enc:=Col.t) (fun c=>if (p.any fun y=>y==c.n)&&!c.g then some c.t else none) (fun c _=>by
    have hin:=zmz c.n p
    cases ha:(p.any fun y=>y==c.n)<;>rw [ha] at hin<;>cases hgg:c.g<;>simp [Col.t,idxT,getI0,getI2,strT,hin,hgg,truT]),zk9]
  have hne2:neC (.lst ((stiff b.cs p).map Col.t)) (.lst [])=some (.bl (!(stiff b.cs p).isEmpty)):=by
   unfold neC
   rw [if_pos (by simp [dpP,dpPs]),show ∀ l:List T,eqT (.lst l) (.lst [])=eqTs l [] from fun _=>rfl,zgr]
  have key:=zux (G:=G) (w:=w) hcd (by simp [bltT]) hpl epi ew e8 _ hne2 rfl ig0
  exact ⟨⟨.str "refers",false,p.map .str,[.str g.nm,.str (if (!(stiff b.cs p).isEmpty)&&(w=="gap") then ("late":Str) else w)]⟩,zzf zaa key,zyl 2⟩
 | false =>
  rw [hw] at hcd
  generalize T.lst (ps.map strT)=PL at *
  have e9:evE G (.comp (.idx (.var 0) (.cst (.int 0))) 1 .plain [.idx (.var 1) (.cst (.int 1))] none) (view [.val BL,.val bt,.val (.int k),.val gt,.val KL,.val PL,.no,.no,.no,.no,.no])=some (.lst ((b.cs.map (·.n)).map .str)):=by
   simp [evE,evEs,evO,view,Sl.get,items,itemsC,bnd,SZ,ib1,hbcl]
   rw [zat (enc:=Col.t) (fun c=>some (T.str c.n)) (fun c _=>by simp [Col.t,idxT,getI0]),zp8]
   simp
  have pre2:evSs G ruD [.val BL,.val bt,.val (.int k),.val gt,.val KL,.val PL,.no,.no,.no,.no,.no]=evSs G (ruE.drop 1) [.val BL,.val bt,.val (.int k),.val gt,.val KL,.val PL,.no,.no,.no,.val (.lst ((b.cs.map (·.n)).map .str)),.no] :=
   (zfk rfl hcd).trans (zbc rfl e9 rfl)
  rw [pre2]
  by_cases h5:k%8=5
  ·obtain ⟨j,hj⟩:∃ j:Nat,k/64%(b.cs.length:Int)=(j:Int):=⟨(k/64%(b.cs.length:Int)).toNat,by have:=Int.emod_nonneg (k/64) (show (b.cs.length:Int)≠0 by omega);omega⟩
   have hx1:k/64%(b.cs.length:Int)<(b.cs.length:Int):=Int.emod_lt_of_pos _ (by omega)
   obtain ⟨m,hm2⟩:∃ m:Nat,1+k/1024%2=(m:Int):=⟨(1+k/1024%2).toNat,by omega⟩
   have hjl:j<=((b.cs.map (·.n)).map T.str).length:=by simp;omega
   have hz:b.cs.length-j+min j b.cs.length<=16777216:=by omega
   have e10:evE G (.tup [.cst (.str "unlike"),.sli (.bin .add (.sli (.var 9) (some (.var 10)) none) (.sli (.var 9) none (some (.var 10)))) none (some (.bin .add (.cst (.int 1)) (.bin .mod (.bin .fdiv (.var 2) (.cst (.int 1024))) (.cst (.int 2)))))]) (view [.val BL,.val bt,.val (.int k),.val gt,.val KL,.val PL,.no,.no,.no,.val (.lst ((b.cs.map (·.n)).map .str)),.val (.int (j:Int))])=some (Rl.raw ⟨.str "unlike",true,((rotC (b.cs.map (·.n)) j).take m).map .str,[]⟩):=by
    have q1:=zck _ _ hjl
    have q2:=znl _ _ hjl
    simp only [List.map_map] at q1 q2
    simp [evE,evEs,evO,view,Sl.get,binT,addT,modT,fdivT,asI,sliT,hm2,q1,q2,SZ,hz,zh3,Rl.raw,rotC]
   exact ⟨⟨.str "unlike",true,((rotC (b.cs.map (·.n)) j).take m).map .str,[]⟩,congrArg zaa (zmv rfl (zuy.trans (by rw [h5];rfl)) ((zbc (t:=.int (j:Int)) (τ':=[.val BL,.val bt,.val (.int k),.val gt,.val KL,.val PL,.no,.no,.no,.val (.lst ((b.cs.map (·.n)).map .str)),.val (.int (j:Int))]) rfl (by simp [evE,view,Sl.get,bltT,binT,modT,fdivT,hb0,hj]) rfl).trans (zdp rfl e10))),Nat.zero_le _⟩
  ·obtain ⟨d,hd2,hdz⟩:∃ d:Nat,d<=2/\1+k/1024%3=((d+1:Nat):Int):=⟨(k/1024%3).toNat,by omega,by omega⟩
   obtain ⟨t,e⟩:=tests d hd2
   exact ⟨⟨.str "check",false,t,[]⟩,congrArg zaa ((zfk rfl (zuy.trans (by rw [show (k%8==5)=false by simpa using h5]))).trans (zdp rfl (by
    simp only [Int.natCast_add,Int.cast_ofNat_Int] at e hdz
    simp [evE,evEs,view,Sl.get,binT,addT,modT,fdivT,hdz,e,Rl.raw]))),Nat.zero_le _⟩
end Ev.K04
end
end
end
noncomputable section
noncomputable section
noncomputable section
namespace Ev.K04
open PySem
variable {cs:List Col}
structure Tb where
 nm:Str
 cs:List Col
 key:List Str
 rs:List Rl
noncomputable def Tb.t (b:Tb):T:=bareT b.nm b.cs b.key (b.rs.map Rl.t)
structure Tb.ok (b:Tb):Prop where
 nm:b.nm.length<=6
 cl:b.cs.length<=4
 cs:∀ c∈b.cs,Sh c.n/\c.k.length<=6
 k1:b.key.length<=2
 ks:Short b.key
 rl:b.rs.length<=3
 kn:b.key≠[]
 cn:b.cs≠[]
 nd:(b.cs.map (·.n)).Nodup
 kk:∀ c∈b.cs,c.k="whole"\/c.k="text"
 as:∀ c∈b.cs,c.n∈cnames
 na:ascii b.nm=true
 inn:∀ x∈b.key,∃ c∈b.cs,c.n=x
 kg:∀ x∈b.key,∃ c∈b.cs,c.n=x/\c.g=false
theorem zja (i:Int):(kindAt i).length<=6:=by
 have all:∀ x∈kinds6,x.length<=6:=by decide +kernel
 unfold kindAt
 rw [zyp]
 cases e:kinds6[(i%6).toNat]? with
 | none=>decide +kernel
 | some x=>exact all x (zzm e)
theorem zdg (k:Int):∀ c∈bareCols k,c.n.length<=6/\c.k.length<=6:=by
 have hc:∀ (j:Int) (nm:Str),nm.length<=6->∀ c∈colAt k j nm,c.n.length<=6/\c.k.length<=6:=fun j nm hn c h=>by
  unfold colAt at h
  split at h
  ·rw [omg h];exact ⟨hn,zja _⟩
  ·cases h
 intro c h
 unfold bareCols at h
 rcases oma h with h | h
 ·rw [omg h];exact ⟨(by decide +kernel:("id":Str).length<=6),zja _⟩
 ·rcases oma h with h | h
  ·exact hc _ _ (by decide +kernel) c h
  ·rcases oma h with h | h
   ·exact hc _ _ (by decide +kernel) c h
   ·exact hc _ _ (by decide +kernel) c h
theorem zbm {α:Type} {l:List α} {b:Nat} {x:α}:x∈rotC l b↔x∈l:=by
 unfold rotC
 rw [List.mem_append]
 constructor
 ·rintro (h | h)
  ·exact List.mem_of_mem_drop h
  ·exact List.mem_of_mem_take h
 ·intro h
  rw [<- List.take_append_drop b l,List.mem_append] at h
  exact h.symm
theorem zdt {α:Type} (l:List α) (b:Nat):(rotC l b).length=l.length:=by
 unfold rotC
 have h:=congrArg List.length (List.take_append_drop b l)
 rw [List.length_append] at h
 rw [List.length_append,Nat.add_comm];exact h
theorem zlz {x:Str} (h:x∈za3 cs):∃ c∈cs,c.n=x:=by
 unfold za3 at h
 obtain ⟨c,hc,e⟩:=List.mem_filterMap.mp h
 split at e
 ·cases e
 ·cases e;exact ⟨c,hc,rfl⟩
theorem zwp (k:Int):∃ c∈bareCols k,c.n="id":=⟨⟨"id",kindAt k,false⟩,by unfold bareCols;simp,rfl⟩
noncomputable def mkB (nm:Str) (k:Int):Bt:=⟨nm,rotC (bareCols k) (k/64%((bareCols k).length:Int)).toNat,keyOf k (bareCols k)⟩
theorem zms (k:Int):∀ x∈keyOf k (bareCols k),∃ c∈bareCols k,c.n=x:=by
 intro x hx
 have hid:=zwp k
 unfold keyOf at hx
 split at hx
 ·rename_i h
  have hg:∃ c∈bareCols k,c.n=(za3 (bareCols k)).getD 1 "id":=by
   refine zlz ?_
   rw [zyp,zyi h.2]
   exact List.getElem_mem _
  split at hx<;>simp only [List.mem_cons,List.not_mem_nil,or_false] at hx<;>rcases hx with rfl | rfl<;>assumption
 ·rw [omg hx];exact hid
theorem zsq {x:Str} (h:x∈za3 cs):∃ c∈cs,c.n=x/\c.g=false:=by
 unfold za3 at h
 obtain ⟨c,hc,e⟩:=List.mem_filterMap.mp h
 cases hg:c.g with
 | true=>rw [hg] at e;cases e
 | false=>rw [hg] at e;exact ⟨c,hc,zy5 e,hg⟩
theorem zx5 (k:Int):∀ x∈keyOf k (bareCols k),∃ c∈bareCols k,c.n=x/\c.g=false:=by
 intro x hx
 have hid:∃ c∈bareCols k,c.n="id"/\c.g=false:=⟨⟨"id",kindAt k,false⟩,by unfold bareCols;simp,rfl,rfl⟩
 unfold keyOf at hx
 split at hx
 ·rename_i h
  have hg:∃ c∈bareCols k,c.n=(za3 (bareCols k)).getD 1 "id"/\c.g=false:=by
   refine zsq ?_
   rw [zyp,zyi h.2]
   exact List.getElem_mem _
  split at hx<;>simp only [List.mem_cons,List.not_mem_nil,or_false] at hx<;>rcases hx with rfl | rfl<;>assumption
 ·rw [omg hx];exact hid
theorem zth (k:Int) (cs:List Col):(keyOf k cs).length<=2:=by unfold keyOf;split<;>(try split)<;>simp
theorem zt6 (k:Int):((bareCols k).map (·.n)).Nodup:=by
 have e1:(("id":Str)=="n")=false/\(("id":Str)=="t")=false/\(("id":Str)=="u")=false/\(("n":Str)=="t")=false/\(("n":Str)=="u")=false/\(("t":Str)=="u")=false:=by decide +kernel
 obtain ⟨a1,a2,a3,a4,a5,a6⟩:=e1
 have b1:=ne_of_beq_false a1
 have b2:=ne_of_beq_false a2
 have b3:=ne_of_beq_false a3
 have b4:=ne_of_beq_false a4
 have b5:=ne_of_beq_false a5
 have b6:=ne_of_beq_false a6
 unfold bareCols colAt
 split<;>split<;>split<;>simp [b1,b2,b3,b4,b5,b6]
theorem zi9 (i:Int):kindAt i="whole"\/kindAt i="text":=by
 have all:∀ x∈kinds6,(x==("whole":Str))=true\/(x==("text":Str))=true:=by decide +kernel
 unfold kindAt
 rw [zyp]
 cases e:kinds6[(i%6).toNat]? with
 | none=>exact .inl rfl
 | some x =>
  rcases all x (zzm e) with h | h
  ·exact .inl (eq_of_beq h)
  ·exact .inr (eq_of_beq h)
theorem zp7 (k:Int):∀ c∈bareCols k,c.k="whole"\/c.k="text":=by
 have one:∀ (j:Int) (nm:Str),∀ c∈colAt k j nm,c.k="whole"\/c.k="text":=by
  intro j nm c hc
  unfold colAt at hc
  split at hc
  ·rw [omg hc];exact zi9 _
  ·cases hc
 intro c hc
 unfold bareCols at hc
 rcases oma hc with h | h
 ·rw [omg h];exact zi9 _
 ·rcases oma h with h | h
  ·exact one _ _ c h
  ·rcases oma h with h | h
   ·exact one _ _ c h
   ·exact one _ _ c h
theorem zh4 (k:Int):∀ c∈bareCols k,c.n∈cnames:=by
 have one:∀ (j:Int) (nm:Str),nm∈cnames->∀ c∈colAt k j nm,c.n∈cnames:=by
  intro j nm hn c hc
  unfold colAt at hc
  split at hc
  ·rw [omg hc];exact hn
  ·cases hc
 intro c hc
 unfold bareCols at hc
 rcases oma hc with h | h
 ·rw [omg h];simp [cnames]
 ·rcases oma h with h | h
  ·exact one _ _ (by simp [cnames]) c h
  ·rcases oma h with h | h
   ·exact one _ _ (by simp [cnames]) c h
   ·exact one _ _ (by simp [cnames]) c h
theorem zri:∀ x∈cnames,ascii x=true:=by decide +kernel
theorem zwe (nm:Str) (hn:nm.length<=6) (ha:ascii nm=true) (k:Int):(mkB nm k).ok where
 kg:=fun x hx=>by
  obtain ⟨c,hc,e⟩:=zx5 k x hx
  exact ⟨c,zbm.mpr hc,e⟩
 nm:=hn
 cs:=by
  have h:=zdn k
  refine ⟨fun e=>?_,by show (rotC _ _).length<=4;rw [zdt];exact h.2,fun c hc=>⟨⟨(zdg k c (zbm.mp hc)).1,zri _ (zh4 k c (zbm.mp hc))⟩,(zdg k c (zbm.mp hc)).2⟩⟩
  have e':(rotC (bareCols k) (k/64%((bareCols k).length:Int)).toNat).length=([]:List Col).length:=zzf List.length e
  rw [zdt] at e'
  simp at e'
  rw [e'] at h
  simp at h
 k1:=zth k _
 ks:=fun x hx=>by
  obtain ⟨c,hc,rfl⟩:=zms k x hx
  exact ⟨(zdg k c hc).1,zri _ (zh4 k c hc)⟩
 inn:=fun x hx=>by
  obtain ⟨c,hc,e⟩:=zms k x hx
  exact ⟨c,zbm.mpr hc,e⟩
 kn:=by
  show keyOf k (bareCols k)≠[]
  unfold keyOf
  split<;>(try split)<;>simp
 nd:=by
  show ((rotC (bareCols k) _).map (·.n)).Nodup
  have h:=zt6 k
  unfold rotC
  rw [zzs]
  rw [<- List.take_append_drop (k/64%((bareCols k).length:Int)).toNat (bareCols k),zzs] at h
  exact (List.perm_append_comm.nodup_iff).mp h
 kk:=fun c hc=>zp7 k c (zbm.mp hc)
 as:=fun c hc=>zh4 k c (zbm.mp hc)
 na:=ha
theorem zc1 {α:Type} (enc:α->T):∀ (l:List α) (i:Nat),enumT (l.map enc) i=(l.zipIdx i).map fun p=>.tup [.int (p.2:Int),enc p.1]
 | [],_=>rfl
 | a::l,i=>by rw [zyh,enumT,zc1 enc l (i+1),List.zipIdx_cons,zyh]
theorem zc2:∀ (l:List T) (i:Nat),(enumT l i).length=l.length
 | [],_=>rfl
 | a::l,i=>by rw [enumT,zyt,zyt,zc2 l (i+1)]
theorem zlk {G:Glo} (r:Rl) (h:r.r.length<=2) (e:Env):evE G (.bin .add (.tup [.idx (.var 0) (.cst (.int 0)),.blt .toTuple (.idx (.var 0) (.cst (.int 1)))]) (.sli (.var 0) (some (.cst (.int 2))) none)) (some r.raw::e)=some r.t:=by
 obtain ⟨w,l,xs,r⟩:=r
 have hc:cut (w::(bif l then .lst xs else .tup xs)::r) (some 2) none=r:=zck _ 2 (by simp)
 have hz:2+r.length<=16777216:=by have:r.length<=2:=h;omega
 cases l<;>simp only [cond_true,cond_false] at hc<;>simp [evE,evEs,evO,binT,addT,idxT,bltT,asI,sliT,SZ,Rl.raw,Rl.t,getI0,getI1,hc,hz]
theorem zj4 {P:Pr} (hd:P.fn "_law_drawn"=some zal) (ht:P.fn "_law_test"=some zas) (hp:P.fn "_law_pairs"=some za5) (hr:P.fn "_law_rule"=some za1) (n:Nat)
  {bs:List Bt} (hb:∀ b∈bs,b.ok) {b:Bt} (hm:b∈bs) (k d c:Int) (s1 s2 s3 s5:T) (m:Nat) (hm3:m<=3) (s9 s10:Sl) :
  ∃ (rs:List Rl) (s9':Sl),loopM (fun x τ=>(bndS [9] x τ).bind fun τ'=>evSs (glo P (run P (n+6))) [.app 8 (.call "_law_rule" [.var 4,.var 6,.bin .fdiv (.call "_law_drawn" [.var 7,.var 9]) (.cst (.int 4))])] τ')
   ((List.range m).map fun (i:Nat)=>T.int (i:Int)) [.val (.int k),.val s1,.val s2,.val s3,.val (.lst (bs.map Bt.t)),.val s5,.val b.t,.val (.int d),.own [],s9,s10] =
   some (.nx [.val (.int k),.val s1,.val s2,.val s3,.val (.lst (bs.map Bt.t)),.val s5,.val b.t,.val (.int d),.own (rs.map Rl.raw),s9',s10])/\rs.length=m/\∀ r∈rs,r.r.length<=2:=by
 obtain ⟨τ',e,rs,s9',rfl,h1,h2⟩:=zb2 (enc:=fun (i:Nat)=>T.int (i:Int)) (f:=fun x τ=>(bndS [9] x τ).bind fun τ'=>evSs (glo P (run P (n+6))) [.app 8 (.call "_law_rule" [.var 4,.var 6,.bin .fdiv (.call "_law_drawn" [.var 7,.var 9]) (.cst (.int 4))])] τ')
  (fun done τ=>∃ rs s9',τ=[.val (.int k),.val s1,.val s2,.val s3,.val (.lst (bs.map Bt.t)),.val s5,.val b.t,.val (.int d),.own (rs.map Rl.raw),s9',s10]/\rs.length=done.length/\∀ r∈rs,r.r.length<=2)
  (List.range m) [.val (.int k),.val s1,.val s2,.val s3,.val (.lst (bs.map Bt.t)),.val s5,.val b.t,.val (.int d),.own [],s9,s10] ⟨[],s9,rfl,rfl,fun r h=>by cases h⟩ (by
   rintro done i rest hsp τ ⟨rs,s9',rfl,h1,h2⟩
   obtain ⟨r,er,hro⟩:=zo0 hd ht hp hr n hb hm (drawnI d i/4)
   have ed:=zbi hd (n+5) d i
   have hdl:done.length<=3:=by
    have:=zzf List.length hsp
    simp at this
    omega
   have hz:rs.length<16777216:=by omega
   refine ⟨[.val (.int k),.val s1,.val s2,.val s3,.val (.lst (bs.map Bt.t)),.val s5,.val b.t,.val (.int d),.own ((rs++[r]).map Rl.raw),.val (.int i),s10],?_,rs++[r],_,rfl,by simp [h1],fun q hq=>?_⟩
   ·simp [evSs,evS,evE,evEs,view,frzAt,vars,varsL,Sl.get,Sl.frz,binT,fdivT,bndS,glo,SZ,ed,er,hz]
   ·rcases oma hq with z | z
    ·exact h2 q z
    ·rw [omg z];exact hro)
 exact ⟨rs,s9',e,by rw [h1];simp,h2⟩
end Ev.K04
end
end
end
noncomputable section
noncomputable section
noncomputable section
namespace Ev.K04
open PySem
noncomputable def names4:List Str:=["item", "user", "box", "log"]
theorem zkb:∀ x∈names4,x.length<=6:=by decide +kernel
theorem zmf:∀ x∈names4,ascii x=true:=by decide +kernel
noncomputable def cnt6:List Int:=[2,1,3,4,2,3]
noncomputable def cnt5:List Int:=[1,2,0,1,3]
theorem zp9:∀ c∈cnt6,1<=c/\c<=4:=by decide
theorem zqa:∀ c∈cnt5,0<=c/\c<=3:=by decide
theorem zm7 (k:Int):∃ i∈cnt6,getI [.int 2,.int 1,.int 3,.int 4,.int 2,.int 3] (k%6)=some (.int i):=by
 obtain ⟨c,hc,e⟩:=zau (enc:=T.int) (cs:=cnt6) (by simp [cnt6]) k
 exact ⟨c,hc,e⟩
theorem zm8 (k:Int):∃ i∈cnt5,getI [.int 1,.int 2,.int 0,.int 1,.int 3] (k%5)=some (.int i):=by
 obtain ⟨c,hc,e⟩:=zau (enc:=T.int) (cs:=cnt5) (by simp [cnt5]) k
 exact ⟨c,hc,e⟩
theorem zcs {α β:Type} (f:α->β) (l:List α):(l.filterMap fun a=>some (f a))=l.map f:=by
 induction l with
 | nil=>rfl
 | cons a l ih=>simp [ih]
theorem zcz (G:Glo) (elt:E) (n:Nat) (k:Ik) (src:List E) (cond:Option E) (r:Env):evE G (.comp elt n k src cond) r=(evEs G src r).bind fun xs=>(itemsC k xs).bind fun its =>
   (compM (fun x=>(bnd n x r).bind fun r'=>(evO G cond r').bind fun c=>match c with
    | none=>(evE G elt r').map some
    | some (.bl true)=>(evE G elt r').map some
    | some (.bl false)=>some none
    | some _=>none) its).map .lst:=by rw [evE];try rfl
theorem ztt (G:Glo) (i:Nat) (r:Env):evE G (.var i) r=(r[i]?).join:=by rw [evE]
theorem zbl (G:Glo) (f:Bn) (a:E) (r:Env):evE G (.blt f a) r=(evE G a r).bind fun x=>bltT f x:=by rw [evE]
theorem zhv (q:Nat) (h:q<=3):items .range [.int (q:Int)]=some ((List.range q).map fun (i:Nat)=>T.int (i:Int)):=by
 simp only [items,rangeT,Int.toNat_natCast]
 rw [if_pos (by omega)]
theorem zcd {G:Glo} {is:List Nat} {k:Ik} {src:List E} {body:List S} {τ τ0:List Sl} {xs its:List T} {o:Out} (h0:frzAt (varsL src) τ=τ0) (h1:evEs G src (view τ0)=some xs) (h2:items k xs=some its)
  (h3:loopM (fun x τ=>(bndS is x τ).bind fun τ'=>evSs G body τ') its τ0=some o):evS G (.loop is k src body) τ=some o:=by
 rw [evS,h0,h1,zye,h2,zye]
 exact h3
noncomputable def sbody:List S:=[.asg 7 (.bin .fdiv (.call "_law_drawn" [.var 0,.bin .add (.cst (.int 20)) (.var 3)]) (.cst (.int 4))),
  .asg 8 (.lst []),
  .loop [9] .range [.idx (.tup [.cst (.int 1),.cst (.int 2),.cst (.int 0),.cst (.int 1),.cst (.int 3)]) (.bin .mod (.var 7) (.cst (.int 5)))] [.app 8 (.call "_law_rule" [.var 4,.var 6,.bin .fdiv (.call "_law_drawn" [.var 7,.var 9]) (.cst (.int 4))])],
  .asg 10 (.blt .toTuple (.comp (.bin .add (.tup [.idx (.var 0) (.cst (.int 0)),.blt .toTuple (.idx (.var 0) (.cst (.int 1)))]) (.sli (.var 0) (some (.cst (.int 2))) none)) 1 .plain [.var 8] none)),
  .asg 5 (.bin .add (.var 5) (.tup [.bin .add (.sli (.var 6) none (some (.cst (.int 3)))) (.tup [.var 10])]))]
set_option maxRecDepth 1000000 in
theorem zhd {P:Pr} (hd:P.fn "_law_drawn"=some zal) (ht:P.fn "_law_test"=some zas) (hp:P.fn "_law_pairs"=some za5) (hr:P.fn "_law_rule"=some za1) (n:Nat)
  {bs:List Bt} (hbo:∀ b∈bs,b.ok) {b:Bt} (hbm:b∈bs) (k:Int) (s1:T) (s2:Int) (i:Nat) (S:List Tb) (hS:S.length<=4) (s7 s8 s9 s10:Sl) :
  ∃ (rs:List Rl) (s9':Sl),evSs (glo P (run P (n+6))) sbody [.val (.int k),.val s1,.val (.int s2),.val (.int (i:Int)),.val (.lst (bs.map Bt.t)),.val (.tup (S.map Tb.t)),.val b.t,s7,s8,s9,s10] =
   some (.nx [.val (.int k),.val s1,.val (.int s2),.val (.int (i:Int)),.val (.lst (bs.map Bt.t)),.val (.tup ((S++[(⟨b.nm,b.cs,b.key,rs⟩:Tb)]).map Tb.t)),.val b.t,.val (.int (drawnI k (20+i)/4)),.val (.lst (rs.map Rl.raw)),s9',.val (.tup (rs.map Rl.t))])/\rs.length<=3/\∀ r∈rs,r.r.length<=2:=by
 have e1:=zbi hd (n+5) k (20+i)
 obtain ⟨c,hc,ecn⟩:=zm8 (drawnI k (20+i)/4)
 have hcm:=zqa c hc
 obtain ⟨q,rfl⟩:∃ q:Nat,c=(q:Int):=⟨c.toNat,by omega⟩
 have hq3:q<=3:=by omega
 obtain ⟨rs,s9',el,hrl,hro⟩:=zj4 hd ht hp hr n hbo hbm k (drawnI k (20+i)/4) 0 s1 (.int s2) (.int (i:Int)) (.tup (S.map Tb.t)) q hq3 s9 s10
 have hz1:rs.length<=16777216:=by omega
 have hz2:S.length+1<=16777216:=by omega
 refine ⟨rs,s9',?_,by omega,hro⟩
 unfold sbody
 rw [zao (τ':=[.val (.int k),.val s1,.val (.int s2),.val (.int (i:Int)),.val (.lst (bs.map Bt.t)),.val (.tup (S.map Tb.t)),.val b.t,.val (.int (drawnI k (20+i)/4)),s8,s9,s10]) (by simp [evS,evE,evEs,view,frzAt,vars,varsL,Sl.get,Sl.frz,binT,addT,fdivT,slotOf,fresh,glo,SZ,e1])]
 rw [zao (τ':=[.val (.int k),.val s1,.val (.int s2),.val (.int (i:Int)),.val (.lst (bs.map Bt.t)),.val (.tup (S.map Tb.t)),.val b.t,.val (.int (drawnI k (20+i)/4)),.own [],s9,s10]) (by simp [evS,evE,evEs,frzAt,vars,varsL,slotOf,fresh])]
 rw [zao (s:=.loop _ _ _ _) (τ':=[.val (.int k),.val s1,.val (.int s2),.val (.int (i:Int)),.val (.lst (bs.map Bt.t)),.val (.tup (S.map Tb.t)),.val b.t,.val (.int (drawnI k (20+i)/4)),.own (rs.map Rl.raw),s9',s10]) (by
  refine zcd (its:=(List.range q).map fun (i:Nat)=>T.int (i:Int)) (xs:=[.int (q:Int)]) (τ0:=[.val (.int k),.val s1,.val (.int s2),.val (.int (i:Int)),.val (.lst (bs.map Bt.t)),.val (.tup (S.map Tb.t)),.val b.t,.val (.int (drawnI k (20+i)/4)),.own [],s9,s10]) (by simp [varsL,vars,frzAt,Sl.frz]) ?_ (zhv q hq3) el
  simp [evE,evEs,view,Sl.get,binT,modT,idxT,ecn])]
 rw [zao (τ':=[.val (.int k),.val s1,.val (.int s2),.val (.int (i:Int)),.val (.lst (bs.map Bt.t)),.val (.tup (S.map Tb.t)),.val b.t,.val (.int (drawnI k (20+i)/4)),.val (.lst (rs.map Rl.raw)),s9',.val (.tup (rs.map Rl.t))]) (by
  simp only [evS,view,frzAt,vars,varsL,varsO,List.append_nil,List.nil_append,List.cons_append,List.filterMap_cons,List.filterMap_nil,Nat.reduceLeDiff,if_false,List.modify_succ_cons,List.modify_zero_cons,Sl.frz,List.map_cons,List.map_nil,Sl.get]
  rw [zbl,zcz]
  simp only [evEs,ztt,List.getElem?_cons_succ,List.getElem?_cons_zero,Option.join_some,Option.bind_some,itemsC,items,List.length_map,SZ,hz1,if_true]
  rw [zat (enc:=Rl.raw) (fun r=>some r.t) (fun r hr'=>by
   simp only [bnd,if_true,Option.bind_some,evO]
   rw [zlk _ (hro r hr')]
   rfl),zcs]
  simp [slotOf,fresh,bltT])]
 simp [evSs,evS,evE,evEs,evO,view,frzAt,vars,varsL,varsO,Sl.get,Sl.frz,binT,addT,slotOf,fresh,asI,sliT,SZ,Bt.t,bareT,cut,clip,hz2,Tb.t]
theorem zhe {P:Pr} (hd:P.fn "_law_drawn"=some zal) (ht:P.fn "_law_test"=some zas) (hp:P.fn "_law_pairs"=some za5) (hr:P.fn "_law_rule"=some za1)
  (hb:P.fn "_law_bare"=some zba) (h:P.fn "_law_schema"=some zbw) (n:Nat) (k:Int) :
  ∃ S:List Tb,run P (n+7) "_law_schema" [.int k]=some (.tup (S.map Tb.t))/\S.length<=4/\(∀ b∈S,b.ok)/\0<S.length/\(S.map (·.nm)).Nodup:=by
 rw [zag h rfl]
 obtain ⟨c,hc,ec⟩:=zm7 (k/4)
 have hc':=zp9 c hc
 obtain ⟨m,rfl⟩:∃ m:Nat,c=(m:Int):=⟨c.toNat,by omega⟩
 have hk0:0<=k%4:=Int.emod_nonneg _ (by decide)
 have hk1:k%4<4:=Int.emod_lt_of_pos _ (by decide)
 obtain ⟨j,hj⟩:∃ j:Nat,k%4=(j:Int):=⟨(k%4).toNat,by omega⟩
 have hjl:j<=(names4.map T.str).length:=by simp [names4];omega
 generalize hN:(rotC names4 j).take m=N
 have hNl:N.length<=4:=by rw [<- hN,List.length_take,zdt];simp [names4];omega
 have hNp:0<N.length:=by rw [<- hN,List.length_take,zdt];simp [names4];omega
 have hNs:∀ x∈N,x.length<=6:=fun x hx=>by rw [<- hN] at hx;exact zkb x (zbm.mp (List.mem_of_mem_take hx))
 have hNa:∀ x∈N,ascii x=true:=fun x hx=>by rw [<- hN] at hx;exact zmf x (zbm.mp (List.mem_of_mem_take hx))
 unfold zbw
 dsimp only
 rw [zao (τ':=[.val (.int k),.own (names4.map .str),.no,.no,.no,.no,.no,.no,.no,.no,.no]) (by simp [evS,evE,evEs,begin',frzAt,vars,varsL,slotOf,fresh,names4])]
 rw [zao (τ':=[.val (.int k),.own (names4.map .str),.val (.int (j:Int)),.no,.no,.no,.no,.no,.no,.no,.no]) (by simp [evS,evE,view,frzAt,vars,Sl.get,Sl.frz,binT,modT,slotOf,fresh,hj])]
 rw [zao (τ':=[.val (.int k),.val (.lst (N.map .str)),.val (.int (j:Int)),.no,.no,.no,.no,.no,.no,.no,.no]) (by
  have hz:(names4.map T.str).length-j+min j (names4.map T.str).length<=16777216:=by simp [names4];omega
  have hz':names4.length-j+min j names4.length<=16777216:=by simpa using hz
  simp only [evS,evE,evEs,evO,view,frzAt,vars,varsL,varsO,List.append_nil,List.nil_append,List.cons_append,List.modify_succ_cons,List.modify_zero_cons,Sl.frz,List.map_cons,List.map_nil,Sl.get,List.getElem?_cons_succ,List.getElem?_cons_zero,Option.join_some,Option.bind_some,Option.map_some,asI,sliT,zck _ _ hjl,znl _ _ hjl]
  simp [binT,addT,modT,fdivT,slotOf,fresh,idxT,SZ,hz',ec,zh3,rotC,<- hN])]
 generalize hB:(N.zipIdx 0).map (fun p=>mkB p.1 (drawnI k p.2/4))=bs
 have hbl:bs.length=N.length:=by rw [<- hB];simp
 have hbo:∀ b∈bs,b.ok:=fun b hb'=>by
  rw [<- hB] at hb'
  obtain ⟨p,hp',rfl⟩:=omm hb'
  have hmm:p.1∈N:=by have:=List.mem_zipIdx' hp';rw [this.2];exact List.getElem_mem _
  exact zwe _ (hNs _ hmm) (hNa _ hmm) _
 rw [zao (τ':=[.val (.int k),.val (.lst (N.map .str)),.val (.int (j:Int)),.no,.val (.lst (bs.map Bt.t)),.no,.no,.no,.no,.no,.no]) (by
  have hz:N.length<=16777216:=by omega
  simp only [evS,evE,evEs,evO,view,frzAt,vars,varsL,varsO,List.append_nil,List.nil_append,List.cons_append,List.filterMap_cons,List.filterMap_nil,Nat.reduceLeDiff,if_true,if_false,Nat.reduceSub,List.modify_succ_cons,List.modify_zero_cons,Sl.frz,List.map_cons,List.map_nil,Sl.get,List.getElem?_cons_succ,List.getElem?_cons_zero,Option.join_some,Option.bind_some,itemsC,items,zc2,List.length_map,SZ,hz]
  rw [zc1 T.str N 0,zat (enc:=fun (p:Str × Nat)=>T.tup [.int (p.2:Int),.str p.1]) (fun p=>some (mkB p.1 (drawnI k p.2/4)).t) (fun p _=>by
   have e1:=zbi hd (n+5) k p.2
   have e2:=zqj hd hb (n+4) p.1 (drawnI k p.2/4)
   simp [bnd,binT,fdivT,glo,e1,e2,mkB,Bt.t]),zcs]
  simp [slotOf,fresh,<- hB])]
 rw [zao (τ':=[.val (.int k),.val (.lst (N.map .str)),.val (.int (j:Int)),.no,.val (.lst (bs.map Bt.t)),.val (.tup []),.no,.no,.no,.no,.no]) (by simp [evS,evE,evEs,frzAt,vars,varsL,slotOf,fresh])]
 obtain ⟨τ',e,S,s3,s6,s7,s8,s9,s10,rfl,h1,h2,h3⟩:=zb2 (enc:=fun (p:Bt × Nat)=>T.tup [.int (p.2:Int),p.1.t]) (f:=fun x τ=>(bndS [3,6] x τ).bind fun τ'=>evSs (glo P (run P (n+6))) sbody τ')
  (fun done τ=>∃ (S:List Tb),∃ s3 s6 s7 s8 s9 s10,τ=[.val (.int k),.val (.lst (N.map .str)),.val (.int (j:Int)),s3,.val (.lst (bs.map Bt.t)),.val (.tup (S.map Tb.t)),s6,s7,s8,s9,s10]/\S.length=done.length/\(∀ b∈S,b.ok)/\S.map (·.nm)=done.map (·.1.nm))
  (bs.zipIdx 0) [.val (.int k),.val (.lst (N.map .str)),.val (.int (j:Int)),.no,.val (.lst (bs.map Bt.t)),.val (.tup []),.no,.no,.no,.no,.no] ⟨[],_,_,_,_,_,_,rfl,rfl,(fun b hb'=>by cases hb'),rfl⟩ (by
   rintro done ⟨b,i⟩ rest hsp τ ⟨S,s3,s6,s7,s8,s9,s10,rfl,h1,h2,h3⟩
   have hbm:b∈bs:=by
    have:(b,i)∈bs.zipIdx 0:=by rw [hsp];simp
    have:=List.mem_zipIdx' this
    rw [this.2];exact List.getElem_mem _
   have hdl:done.length<=4:=by
    have:=zzf List.length hsp
    simp at this
    omega
   obtain ⟨rs,s9',est,hrl,hro⟩:=zhd hd ht hp hr n hbo hbm k (.lst (N.map .str)) (j:Int) i S (by omega) s7 s8 s9 s10
   refine ⟨[.val (.int k),.val (.lst (N.map .str)),.val (.int (j:Int)),.val (.int (i:Int)),.val (.lst (bs.map Bt.t)),.val (.tup ((S++[(⟨b.nm,b.cs,b.key,rs⟩:Tb)]).map Tb.t)),.val b.t,.val (.int (drawnI k (20+i)/4)),.val (.lst (rs.map Rl.raw)),s9',.val (.tup (rs.map Rl.t))],?_,S++[(⟨b.nm,b.cs,b.key,rs⟩:Tb)],_,_,_,_,_,_,rfl,by simp [h1],fun x hx=>?_,by simp [h3]⟩
   ·simp only [bndS,setAll,Option.bind_some,List.set_cons_succ,List.set_cons_zero]
    exact est
   ·rcases oma hx with z | z
    ·exact h2 x z
    ·rw [omg z]
     have bo:=hbo b hbm
     exact ⟨bo.nm,bo.cs.2.1,bo.cs.2.2,bo.k1,bo.ks,by show rs.length<=3;omega,bo.kn,bo.cs.1,bo.nd,bo.kk,bo.as,bo.na,bo.inn,bo.kg⟩)
 rw [zao (s:=.loop _ _ _ _) (τ':=[.val (.int k),.val (.lst (N.map .str)),.val (.int (j:Int)),s3,.val (.lst (bs.map Bt.t)),.val (.tup (S.map Tb.t)),s6,s7,s8,s9,s10]) (by
  rw [evS]
  simp only [varsL,vars,List.append_nil,frzAt,evEs,evE,view,List.modify_succ_cons,List.modify_zero_cons,List.map_cons,Sl.get,Sl.frz,List.map_nil]
  simp only [List.getElem?_cons_succ,List.getElem?_cons_zero,Option.join_some,Option.bind_some,items,zc1]
  exact e)]
 refine ⟨S,by simp [evSs,evS,evE,view,frzAt,vars,Sl.get,Sl.frz,zaa],by rw [h1];simp;omega,h2,by rw [h1];simp;omega,?_⟩
 have e1:(bs.zipIdx 0).map (·.1.nm)=N:=by
  have z:(bs.zipIdx 0).map (·.1.nm)=((bs.zipIdx 0).map Prod.fst).map (·.nm):=by rw [zzk];rfl
  rw [z,List.zipIdx_map_fst,<- hB,zzk]
  have y:(N.zipIdx 0).map ((·.nm)∘fun p=>mkB p.1 (drawnI k p.2/4))=(N.zipIdx 0).map Prod.fst:=rfl
  rw [y,List.zipIdx_map_fst]
 rw [h3,e1,<- hN]
 have all:∀ j:Fin 4,∀ m:Fin 5,((rotC names4 j.val).take m.val).Nodup:=by decide +kernel
 exact all ⟨j,by omega⟩ ⟨m,by omega⟩
end Ev.K04
end
end
end
noncomputable section
noncomputable section
noncomputable section
namespace Ev.K04
open PySem
variable {ps:List (Col × T)}
noncomputable def Wok (c:Col) (w:T):Prop:=w=.non\/((c.k==("text":Str))=true/\∃ x,w=.str x)\/((c.k==("text":Str))=false/\∃ i,w=.int i)
noncomputable def rowS:List Str:=["a", "b", "", "ab", "a", "x9"]
noncomputable def rowI:List Int:=[0,1,2,3,1,2,4,-5]
theorem zgo (k:Int):∃ x,getI [.str "a",.str "b",.str "",.str "ab",.str "a",.str "x9"] (k%6)=some (.str x):=by
 obtain ⟨c,_,e⟩:=zau (enc:=T.str) (cs:=rowS) (by simp [rowS]) k
 exact ⟨c,e⟩
theorem zgp (k:Int):∃ x,getI [.int 0,.int 1,.int 2,.int 3,.int 1,.int 2,.int 4,.int (-5)] (k%8)=some (.int x):=by
 obtain ⟨c,_,e⟩:=zau (enc:=T.int) (cs:=rowI) (by simp [rowI]) k
 exact ⟨c,e⟩
theorem zks {P:Pr} (h:P.fn "_law_worth"=some zai) (n:Nat) (c:Col) (k:Int):∃ w,run P (n+1) "_law_worth" [c.t,.int k]=some w/\Wok c w:=by
 rw [zag h rfl]
 obtain ⟨x,ex⟩:=zgo (k/4)
 obtain ⟨i,ei⟩:=zgp (k/4)
 cases hg:c.g with
 | true =>
  cases h4:(k%4==0) with
  | true=>exact ⟨.non,by simp [zai,evSs,evS,evE,evEs,begin',view,frzAt,vars,varsL,Sl.get,Sl.frz,binT,modT,fdivT,zaa,cmpT,idxT,truT,glo,Col.t,getI2,hg,h4,eqC,dpP,eqT],.inl rfl⟩
  | false =>
   cases ht:(c.k==("text":Str)) with
   | true=>exact ⟨.str x,by simp [zai,evSs,evS,evE,evEs,begin',view,frzAt,vars,varsL,Sl.get,Sl.frz,binT,modT,fdivT,zaa,cmpT,idxT,truT,glo,Col.t,getI1,getI2,hg,h4,eqC,dpP,eqT,ht,ex],.inr (.inl ⟨ht,x,rfl⟩)⟩
   | false=>exact ⟨.int i,by simp [zai,evSs,evS,evE,evEs,begin',view,frzAt,vars,varsL,Sl.get,Sl.frz,binT,modT,fdivT,zaa,cmpT,idxT,truT,glo,Col.t,getI1,getI2,hg,h4,eqC,dpP,eqT,ht,ei],.inr (.inr ⟨ht,i,rfl⟩)⟩
 | false =>
  cases ht:(c.k==("text":Str)) with
  | true=>exact ⟨.str x,by simp [zai,evSs,evS,evE,evEs,begin',view,frzAt,vars,varsL,Sl.get,Sl.frz,binT,modT,fdivT,zaa,cmpT,idxT,truT,glo,Col.t,getI1,getI2,hg,eqC,dpP,eqT,ht,ex],.inr (.inl ⟨ht,x,rfl⟩)⟩
  | false=>exact ⟨.int i,by simp [zai,evSs,evS,evE,evEs,begin',view,frzAt,vars,varsL,Sl.get,Sl.frz,binT,modT,fdivT,zaa,cmpT,idxT,truT,glo,Col.t,getI1,getI2,hg,eqC,dpP,eqT,ht,ei],.inr (.inr ⟨ht,i,rfl⟩)⟩
theorem zce (G:Glo) (elt:E) (n:Nat) (k:Ik) (src:List E) (r:Env):evE G (.comp elt n k src none) r=(evEs G src r).bind fun xs=>(itemsC k xs).bind fun its =>
   (compM (fun x=>(bnd n x r).bind fun r'=>(evE G elt r').map some) its).map .lst:=by
 rw [zcz]
 simp only [evO,Option.bind_some]
noncomputable def nmT (p:Col × T):T:=.str p.1.n
theorem ziw:∀ {ps:List (Col × T)} {p:Col × T},p∈ps->(ps.map (·.1.n)).Nodup->∃ i:Nat,zco (.str p.1.n) (ps.map nmT)=some i/\(ps.map (·.2))[i]?=some p.2
 | [],_,h,_=>by cases h
 | q::ps,p,h,hn=>by
  rw [zyh,List.nodup_cons] at hn
  by_cases hq:q.1.n=p.1.n
  ·have:q=p:=by
    rcases omc h with e | hp
    ·exact e.symm
    ·exact absurd (List.mem_map.mpr ⟨p,hp,hq.symm⟩) hn.1
   subst this
   refine ⟨0,?_,rfl⟩
   simp [zco,nmT,eqT]
  ·rcases omc h with e | hp
   ·exact absurd (by rw [e]) hq
   ·obtain ⟨i,e1,e2⟩:=ziw hp hn.2
    refine ⟨i+1,?_,by simpa using e2⟩
    have hb:(q.1.n==p.1.n)=false:=by simpa using hq
    simp [zco,nmT,eqT,hb]
    simpa [nmT] using e1
theorem zta:∀ ps:List (Col × T),(ps.map nmT).all flat=true
 | []=>rfl
 | p::ps=>by simp [nmT,flat]
theorem zjr {p:Col × T} (h:p∈ps) (hn:(ps.map (·.1.n)).Nodup):∃ i:Int,mthT .index (.lst (ps.map nmT)) (.str p.1.n)=some (.int i)/\getI (ps.map (·.2)) i=some p.2:=by
 obtain ⟨i,e1,e2⟩:=ziw h hn
 refine ⟨(i:Int),?_,zbh e2⟩
 simp only [mthT]
 rw [if_pos (by rw [zta];rfl),e1]
 rfl
theorem zb9 {α:Type} {enc:α->T} {f:T->Option (Option T)} (g:α->T) {l:List α} (h:∀ a∈l,f (enc a)=some (some (g a))):compM f (l.map enc)=some (l.map g):=by
 rw [zat (fun a=>some (g a)) h,zcs]
noncomputable def tabP (nm:T) (ps:List (Col × T)) (key rules:T):T:=tabT nm (ps.map (·.1)) key rules
theorem zme {P:Pr} (h:P.fn "_law_names"=some za6) (n:Nat) (ps:List (Col × T)) (hl:ps.length<=4) (nm key rules:T):run P (n+1) "_law_names" [tabP nm ps key rules]=some (.lst (ps.map nmT)):=by
 rw [zag h rfl]
 have hl':ps.length<=16777216:=by omega
 have e:=zb9 (enc:=fun p:Col × T=>p.1.t) (f:=fun x=>(idxT x (.int 0)).map some) nmT (l:=ps) (fun p _=>by simp [Col.t,idxT,getI0,nmT])
 simp [za6,evSs,evS,evE,evEs,evO,begin',view,frzAt,vars,varsL,varsO,Sl.get,Sl.frz,zaa,idxT,items,itemsC,bnd,glo,SZ,tabP,tabT,getI1,hl',Function.comp_def] at e ⊢
 simp [e]
theorem zju {P:Pr} (h:P.fn "worths_of"=some zbd) (n:Nat) (hl:ps.length<=4) (hn:(ps.map (·.1.n)).Nodup) (nm key rules:T) {qs:List (Col × T)} (hq:∀ q∈qs,q∈ps) (hql:qs.length<=4) :
  run P (n+1) "worths_of" [tabP nm ps key rules,.tup (ps.map (·.2)),.tup (qs.map nmT)]=some (.tup (qs.map (·.2))):=by
 rw [zag h rfl]
 have hl':ps.length<=16777216:=by omega
 have hl2:qs.length<=16777216:=by omega
 have e:=zb9 (enc:=fun p:Col × T=>p.1.t) (f:=fun x=>(idxT x (.int 0)).map some) nmT (l:=ps) (fun p _=>by simp [Col.t,idxT,getI0,nmT])
 have e2:=zb9 (enc:=nmT) (f:=fun x=>((mthT .index (.lst (ps.map nmT)) x).bind fun y=>idxT (.tup (ps.map (·.2))) y).map some) (fun q=>q.2) (l:=qs) (fun q hq'=>by
  obtain ⟨i,e1,e2⟩:=zjr (hq q hq') hn
  simp only [nmT,e1,Option.bind_some,idxT,e2,Option.map_some])
 unfold zbd
 dsimp only
 rw [zao (τ':=[.val (tabP nm ps key rules),.val (.tup (ps.map (·.2))),.val (.tup (qs.map nmT)),.val (.lst (ps.map nmT))]) (by
  simp [evS,evE,evEs,evO,begin',view,frzAt,vars,varsL,varsO,Sl.get,Sl.frz,slotOf,fresh,idxT,items,itemsC,bnd,SZ,tabP,tabT,getI1,hl',Function.comp_def] at e ⊢
  simp [e])]
 have ee:evE (glo P (run P n)) (.blt .toTuple (.comp (.idx (.var 2) (.mth .index (.var 4) (.var 0))) 1 .plain [.var 2] none)) (view [Sl.val (tabP nm ps key rules),.val (.tup (ps.map (·.2))),.val (.tup (qs.map nmT)),.val (.lst (ps.map nmT))])=some (.tup (qs.map (·.2))):=by
  rw [zbl,zce]
  simp only [evEs,evE,view,List.map_cons,List.map_nil,Sl.get,List.getElem?_cons_succ,List.getElem?_cons_zero,Option.join_some,Option.bind_some,itemsC,items,List.length_map,bnd,if_true]
  rw [if_pos (show qs.length<=SZ from hl2)]
  simp only [Option.bind_some]
  rw [e2]
  rfl
 rw [zdb (t:=.tup (qs.map (·.2))) (by rw [evS];rw [show frzAt (vars (.blt .toTuple (.comp (.idx (.var 2) (.mth .index (.var 4) (.var 0))) 1 .plain [.var 2] none))) [Sl.val (tabP nm ps key rules),.val (.tup (ps.map (·.2))),.val (.tup (qs.map nmT)),.val (.lst (ps.map nmT))]=[Sl.val (tabP nm ps key rules),.val (.tup (ps.map (·.2))),.val (.tup (qs.map nmT)),.val (.lst (ps.map nmT))] from rfl,ee];rfl)]
 rfl
end Ev.K04
end
end
end
noncomputable section
noncomputable section
noncomputable section
namespace Ev.K04
open PySem
noncomputable def val (ps:List (Col × T)) (x:Str):T:=match ps.find? (fun p=>p.1.n==x) with | some p=>p.2 | none=>.non
theorem zf1:∀ {ps:List (Col × T)} {p:Col × T},p∈ps->(ps.map (·.1.n)).Nodup->val ps p.1.n=p.2
 | [],_,h,_=>by cases h
 | q::ps,p,h,hn=>by
  rw [zyh,List.nodup_cons] at hn
  by_cases hq:q.1.n=p.1.n
  ·have:q=p:=by
    rcases omc h with e | hp
    ·exact e.symm
    ·exact absurd (List.mem_map.mpr ⟨p,hp,hq.symm⟩) hn.1
   subst this
   simp [val]
  ·rcases omc h with e | hp
   ·exact absurd (by rw [e]) hq
   ·have e:=zf1 hp hn.2
    have hb:(q.1.n==p.1.n)=false:=by simpa using hq
    unfold val at e ⊢
    rw [List.find?_cons,hb]
    exact e
noncomputable def isNon:T->Bool
 | .non=>true
 | _=>false
noncomputable def ltV:T->T->Bool
 | .int a,.int b=>decide (a<b)
 | .str a,.str b=>decide (a.cps.toList<b.cps.toList)
 | _,_=>false
theorem Wok.flat {c:Col} {w:T} (h:Wok c w):Ev.flat w=true:=by
 rcases h with rfl | ⟨_,x,rfl⟩ | ⟨_,x,rfl⟩<;>rfl
end Ev.K04
end
end
end
noncomputable section
noncomputable section
noncomputable section
namespace Ev.K04
open PySem
end Ev.K04
end
end
end
noncomputable section
noncomputable section
noncomputable section
namespace Ev.K04
open PySem
noncomputable def hasK (acc:List Kt) (k:Kt):Bool:=acc.any fun x=>decide (x=k)
noncomputable def un1 (acc:List Kt) (k:Kt):List Kt:=if hasK acc k=true then acc else acc++[k]
noncomputable def unl (l:List Kt):List Kt:=l.foldl un1 []
noncomputable def cnt (l:List Kt) (k:Kt):Int:=((l.filter fun x=>decide (x=k)).length:Nat)
end Ev.K04
end
end
end
noncomputable section
noncomputable section
noncomputable section
namespace Ev.K04
open PySem
variable {c:Col} {b:Tb} {ps:List (Col × T)}
structure RowOk (b:Tb) (ps:List (Col × T)):Prop where
 cs:ps.map (·.1)=b.cs
 wk:∀ p∈ps,Wok p.1 p.2
 ng:∀ p∈ps,p.1.g=false->p.2≠.non
noncomputable def rowT (ps:List (Col × T)):T:=.tup (ps.map (·.2))
noncomputable def kk (t:T):Kt:=(keyO t).getD (.inl 0)
noncomputable def keyR (b:Tb) (ps:List (Col × T)):List Kt:=b.key.map fun x=>kk (val ps x)
theorem zwf {w:T} (h:Wok c w):keyO w=some (kk w)/\kT (kk w)=w:=by
 rcases h with rfl | ⟨_,x,rfl⟩ | ⟨_,i,rfl⟩<;>exact ⟨rfl,rfl⟩
theorem ztf {w u:T} (h1:Wok c w) (h2:Wok c u) (n1:w≠.non) (n2:u≠.non):kSame (kk w) (kk u)=true:=by
 rcases h1 with rfl | ⟨e1,x,rfl⟩ | ⟨e1,i,rfl⟩
 ·exact absurd rfl n1
 ·rcases h2 with rfl | ⟨e2,y,rfl⟩ | ⟨e2,j,rfl⟩
  ·exact absurd rfl n2
  ·rfl
  ·rw [e1] at e2;cases e2
 ·rcases h2 with rfl | ⟨e2,y,rfl⟩ | ⟨e2,j,rfl⟩
  ·exact absurd rfl n2
  ·rw [e1] at e2;cases e2
  ·rfl
theorem zrl {P:Pr} (h:P.fn "_law_worth"=some zai) (n:Nat) (c:Col) (k:Int) (hg:c.g=false):∃ w,run P (n+1) "_law_worth" [c.t,.int k]=some w/\w≠.non:=by
 rw [zag h rfl]
 obtain ⟨x,ex⟩:=zgo (k/4)
 obtain ⟨i,ei⟩:=zgp (k/4)
 cases ht:(c.k==("text":Str)) with
 | true=>exact ⟨.str x,by simp [zai,evSs,evS,evE,evEs,begin',view,frzAt,vars,varsL,Sl.get,Sl.frz,binT,modT,fdivT,zaa,cmpT,idxT,truT,glo,Col.t,getI1,getI2,hg,eqC,dpP,eqT,ht,ex],by simp⟩
 | false=>exact ⟨.int i,by simp [zai,evSs,evS,evE,evEs,begin',view,frzAt,vars,varsL,Sl.get,Sl.frz,binT,modT,fdivT,zaa,cmpT,idxT,truT,glo,Col.t,getI1,getI2,hg,eqC,dpP,eqT,ht,ei],by simp⟩
theorem zjp {α:Type} {enc:α->T} {Q:α->T->Prop} {f:T->Option (Option T)}:∀ (l:List α),(∀ a∈l,∃ w,f (enc a)=some (some w)/\Q a w)->∃ ps:List (α × T),ps.map (·.1)=l/\compM f (l.map enc)=some (ps.map (·.2))/\∀ p∈ps,Q p.1 p.2
 | [],_=>⟨[],rfl,rfl,fun p h=>by cases h⟩
 | a::l,h=>by
  obtain ⟨w,e,hw⟩:=h a zys
  obtain ⟨ps,e1,e2,h2⟩:=zjp (Q:=Q) l fun c hc=>h c (zyn _ hc)
  refine ⟨(a,w)::ps,by simp [e1],?_,fun p hp=>?_⟩
  ·simp only [List.map_cons,compM,e,e2,Option.bind_some]
  ·rcases omc hp with rfl | hp
   ·exact hw
   ·exact h2 p hp
theorem compM_rog {Q:Col->T->Prop} {f:T->Option (Option T)}:∀ (cs:List Col) (i:Nat),(∀ c∈cs,∀ j:Nat,∃ w,f (.tup [.int (j:Int),c.t])=some (some w)/\Q c w) ->
  ∃ ps:List (Col × T),ps.map (·.1)=cs/\compM f (enumT (cs.map Col.t) i)=some (ps.map (·.2))/\∀ p∈ps,Q p.1 p.2
 | [],_,_=>⟨[],rfl,rfl,fun p h=>by cases h⟩
 | c::cs,i,h=>by
  obtain ⟨w,e,hw⟩:=h c zys i
  obtain ⟨ps,e1,e2,h2⟩:=compM_rog cs (i+1) fun c hc=>h c (zyn _ hc)
  refine ⟨(c,w)::ps,by simp [e1],?_,fun p hp=>?_⟩
  ·simp only [List.map_cons,enumT,compM,e,e2,Option.bind_some]
  ·rcases omc hp with rfl | hp
   ·exact hw
   ·exact h2 p hp
theorem rowOk_run {P:Pr} (hd:P.fn "_law_drawn"=some zal) (hw:P.fn "_law_worth"=some zai) (h:P.fn "_law_row"=some zbu) (n:Nat) (hb:b.ok) (k:Int) :
  ∃ ps,run P (n+2) "_law_row" [b.t,.int k]=some (rowT ps)/\RowOk b ps:=by
 rw [zag h rfl]
 have hl:b.cs.length<=16777216:=by have:=hb.cl;omega
 obtain ⟨ps,e1,e2,h2⟩:=compM_rog (Q:=fun c w=>Wok c w/\(c.g=false->w≠.non)) (f:=fun x=>(bnd 2 x (view [Sl.val b.t,Sl.val (.int k)])).bind fun r'=>(evE (glo P (run P (n+1))) (.call "_law_worth" [.var 1,.bin .fdiv (.call "_law_drawn" [.var 3,.var 0]) (.cst (.int 4))]) r').map some) b.cs 0 (fun c _ j=>by
  have e1:=zbi hd n k (j:Int)
  obtain ⟨w,e2,hw'⟩:=zks hw n c (drawnI k (j:Int)/4)
  refine ⟨w,?_,hw',fun hg=>?_⟩
  ·simp [bnd,evE,evEs,view,Sl.get,glo,e1,e2,binT,fdivT]
  ·obtain ⟨u,e3,hu⟩:=zrl hw n c (drawnI k (j:Int)/4) hg
   rw [e2] at e3
   cases e3
   exact hu)
 refine ⟨ps,?_,e1,fun p hp=>(h2 p hp).1,fun p hp=>(h2 p hp).2⟩
 show zaa (evSs (glo P (run P (n+1))) [.ret (.blt .toTuple (.comp (.call "_law_worth" [.var 1,.bin .fdiv (.call "_law_drawn" [.var 3,.var 0]) (.cst (.int 4))]) 2 .enum [.idx (.var 0) (.cst (.int 1))] none))] [Sl.val b.t,Sl.val (.int k)])=_
 rw [zdp (t:=rowT ps) rfl (by
  rw [zbl,zce]
  have s1:evEs (glo P (run P (n+1))) [.idx (.var 0) (.cst (.int 1))] (view [Sl.val b.t,Sl.val (.int k)])=some [.tup (b.cs.map Col.t)]:=by
   simp [evEs,evE,view,Sl.get,idxT,Tb.t,bareT,getI1]
  have s2:itemsC .enum [.tup (b.cs.map Col.t)]=some (enumT (b.cs.map Col.t) 0):=by
   simp [itemsC,items,zc2,hl]
  rw [s1,zye,s2,zye,e2]
  rfl)]
 rfl
theorem zfj {ps:List (Col × T)}:∀ {ks:List Str},(∀ k∈ks,∃ p∈ps,p.1.n=k)->∃ qs:List (Col × T),qs.map nmT=ks.map .str/\qs.map (·.1.n)=ks/\(∀ q∈qs,q∈ps)/\qs.length=ks.length
 | [],_=>⟨[],rfl,rfl,fun q h=>absurd h (by simp),rfl⟩
 | k::ks,h=>by
  obtain ⟨p,hp,e⟩:=h k zys
  obtain ⟨qs,e1,e0,e2,e3⟩:=zfj fun k hk=>h k (zyn _ hk)
  refine ⟨p::qs,by simp [nmT,e,e1],by simp [e,e0],fun q hq=>?_,by simp [e3]⟩
  rcases omc hq with rfl | hq
  ·exact hp
  ·exact e2 q hq
theorem RowOk.col (h:RowOk b ps) (hc:c∈b.cs):∃ p∈ps,p.1=c:=by
 rw [<- h.cs] at hc
 obtain ⟨p,hp,e⟩:=omm hc
 exact ⟨p,hp,e⟩
theorem RowOk.nd {b:Tb} {ps:List (Col × T)} (h:RowOk b ps) (hb:b.ok):(ps.map (·.1.n)).Nodup:=by
 have:=hb.nd
 rw [<- h.cs,zzk] at this
 exact this
theorem RowOk.len (h:RowOk b ps) (hb:b.ok):ps.length<=4:=by
 have:=zzf List.length h.cs
 rw [zyj] at this
 rw [this];exact hb.cl
theorem RowOk.tab (h:RowOk b ps):b.t=tabP (.str b.nm) ps (.tup (b.key.map .str)) (.tup (b.rs.map Rl.t)):=by
 rw [tabP,h.cs];rfl
theorem zjb {P:Pr} (hn:P.fn "_law_names"=some za6) (h:P.fn "_law_key"=some zbk) (n:Nat) (hb:b.ok) (hp:RowOk b ps):run P (n+2) "_law_key" [b.t,rowT ps]=some (tkT (keyR b ps)):=by
 have hl:=hp.len hb
 have hnd:=hp.nd hb
 obtain ⟨qs,q1,q0,q2,q3⟩:=zfj (ps:=ps) (ks:=b.key) fun x hx=>by
  obtain ⟨c,hc,e⟩:=hb.inn x hx
  obtain ⟨p,hp',rfl⟩:=hp.col hc
  exact ⟨p,hp',e⟩
 have hz:qs.length<=16777216:=by have:=hb.k1;omega
 rw [zag h rfl]
 show zaa (evSs (glo P (run P (n+1))) zbk.body [.val b.t,.val (rowT ps)])=_
 have i2:idxT b.t (.int 2)=some (.tup (qs.map nmT)):=by rw [q1,Tb.t,bareT,idxT,getI2]
 have cn:(glo P (run P (n+1))).call "_law_names" [b.t]=some (.lst (ps.map nmT)):=by rw [hp.tab];exact zme hn n ps hl _ _ _
 have ek:keyR b ps=qs.map fun q=>kk q.2:=by
  unfold keyR
  rw [<- q0,zzk]
  exact List.map_congr_left fun q hq=>by show kk (val ps q.1.n)=kk q.2;rw [zf1 (q2 q hq) hnd]
 have et:tkT (keyR b ps)=.tup (qs.map (·.2)):=by
  unfold tkT
  rw [ek,zzk]
  exact zzf T.tup (List.map_congr_left fun q hq=>(zwf (hp.wk q (q2 q hq))).2)
 rw [et]
 generalize b.t=X at *
 unfold zbk
 dsimp only
 rw [zdp (t:=.tup (qs.map (·.2))) rfl (by
  rw [zbl,zce]
  have s1:evEs (glo P (run P (n+1))) [.idx (.var 0) (.cst (.int 2))] (view [Sl.val X,Sl.val (rowT ps)])=some [.tup (qs.map nmT)]:=by simp [evEs,evE,view,Sl.get,i2]
  have s2:itemsC .plain [.tup (qs.map nmT)]=some (qs.map nmT):=by simp [itemsC,items,hz]
  rw [s1,zye,s2,zye,zb9 (fun q=>q.2) fun q hq'=>by
   obtain ⟨i,e1,e2⟩:=zjr (q2 q hq') hnd
   simp only [bnd,if_true,Option.bind_some,evE,evEs,view,Sl.get,List.map_cons,List.map_nil,List.getElem?_cons_succ,List.getElem?_cons_zero,Option.join_some,cn]
   rw [show nmT q=.str q.1.n from rfl,e1]
   simp only [Option.bind_some,rowT,idxT,e2,Option.map_some]]
  rfl)]
 rfl
theorem zcm (hb:b.ok) {qs:List (Col × T)} (hp:RowOk b ps) (hq:RowOk b qs):Ev.alike (keyR b ps) (keyR b qs)=true:=by
 have:∀ ks:List Str,(∀ x∈ks,∃ c∈b.cs,c.n=x/\c.g=false)->Ev.alike (ks.map fun x=>kk (val ps x)) (ks.map fun x=>kk (val qs x))=true:=by
  intro ks
  induction ks with
  | nil=>intro _;rfl
  | cons x ks ih =>
   intro h
   obtain ⟨c,hc,e,hg⟩:=h x zys
   obtain ⟨p,hp1,hp2⟩:=hp.col hc
   obtain ⟨q,hq1,hq2⟩:=hq.col hc
   have v1:val ps x=p.2:=by rw [<- e,<- hp2];exact zf1 hp1 (hp.nd hb)
   have v2:val qs x=q.2:=by rw [<- e,<- hq2];exact zf1 hq1 (hq.nd hb)
   rw [zyh,zyh,Ev.alike,zyd,v1,v2]
   have w1:=hp.wk p hp1
   have w2:=hq.wk q hq1
   rw [hp2] at w1
   rw [hq2] at w2
   exact ⟨ztf w1 w2 (hp.ng p hp1 (by rw [hp2];exact hg)) (hq.ng q hq1 (by rw [hq2];exact hg)),ih fun y hy=>h y (zyn _ hy)⟩
 exact this b.key hb.kg
theorem zgi (hb:b.ok) (ps:List (Col × T)):keyR b ps≠[]:=by
 unfold keyR
 intro e
 exact hb.kn (List.map_eq_nil_iff.mp e)
theorem zdy:∀ ks:List Kt,keysO (ks.map kT)=some ks
 | []=>rfl
 | k::ks=>by
  rw [zyh,keysO,zdy ks]
  rcases k with _ | _ | _<;>rfl
end Ev.K04
end
end
end
noncomputable section
noncomputable section
noncomputable section
namespace Ev.K04
open PySem
variable {kvs:List (List Kt × T)} {k:List Kt} {v:T}
noncomputable def slD:List (List Kt × T)->Sl
 | []=>.dk []
 | p::r=>.dt (p::r)
noncomputable def dD:List (List Kt × T)->T
 | []=>.dk [] []
 | p::r=>.dt ((p::r).map (·.1)) ((p::r).map (·.2))
theorem zr7 (l:List (List Kt × T)):Sl.frz (slD l)=.val (dD l):=by cases l<;>rfl
theorem zu7:∃ p r,putP kvs k v=p::r:=by
 unfold putP
 cases kvs with
 | nil=>exact ⟨_,_,rfl⟩
 | cons a l=>split<;>exact ⟨_,_,rfl⟩
theorem zva (kvs:List (List Kt × T)) (k:List Kt) (v:T) (h:kvs.length<=5):putS (some (slD kvs)) (tkT k) v=some (slD (putP kvs k v)):=by
 have hk:tkO (tkT k)=some k:=zdy k
 have hz:kvs.length<SZ:=by show kvs.length<16777216;omega
 cases kvs with
 | nil =>
  show (tkO (tkT k)).map (fun q=>Sl.dt [(q,v)])=some (slD (putP [] k v))
  rw [hk];rfl
 | cons a l =>
  show ((tkO (tkT k)).bind fun q=>if (a::l).length<SZ then some (.dt (putP (a::l) q v)) else none)=some (slD (putP (a::l) k v))
  rw [hk,zye,if_pos hz]
  obtain ⟨p,r,e⟩:=zu7 (kvs:=a::l) (k:=k) (v:=v)
  rw [e];rfl
theorem zsh {p:List Kt × T} (h:p∈putP kvs k v):p∈kvs\/p=(k,v):=by
 unfold putP at h
 split at h
 ·obtain ⟨q,hq,rfl⟩:=omm h
  by_cases e:q.1=k
  ·rw [if_pos e,e];exact .inr rfl
  ·rw [if_neg e];exact .inl hq
 ·rcases oma h with h | h
  ·exact .inl h
  ·exact .inr (omg h)
theorem zu8 (h:(kvs.map (·.1)).Nodup):((putP kvs k v).map (·.1)).Nodup:=by
 unfold putP
 split
 ·rw [zzk]
  have:(kvs.map ((·.1)∘fun kv=>if kv.1=k then (kv.1,v) else kv))=kvs.map (·.1):=List.map_congr_left fun q _=>by
   show (if q.1=k then (q.1,v) else q).1=q.1
   split<;>rfl
  rw [this];exact h
 ·rename_i hn
  rw [zzs]
  refine List.nodup_append.mpr ⟨h,by simp,fun a ha c hc e=>?_⟩
  have hc:c=k:=omg hc
  subst hc
  subst e
  obtain ⟨q,hq,rfl⟩:=omm ha
  exact hn (List.any_eq_true.mpr ⟨q,hq,by simp⟩)
theorem zsi:(putP kvs k v).length<=kvs.length+1:=by
 unfold putP
 split
 ·rw [zyj];omega
 ·rw [List.length_append];simp
theorem zhq:∀ {kvs:List (List Kt × T)} {k:List Kt},k∈kvs.map (·.1)->∃ v,lookP (kvs.map (·.1)) (kvs.map (·.2)) k=some v/\(k,v)∈kvs
 | p::kvs,k,h=>by
  rw [zyh,zyh,lookP]
  by_cases e:p.1=k
  ·rw [if_pos e,<- e];exact ⟨p.2,rfl,zys⟩
  ·rw [if_neg e]
   obtain ⟨v,h1,h2⟩:=zhq (kvs:=kvs) ((omc h).resolve_left fun z=>e z.symm)
   exact ⟨v,h1,zyn _ h2⟩
structure Book (b:Tb) (kvs:List (List Kt × T)):Prop where
 nd:(kvs.map (·.1)).Nodup
 rw:∀ p∈kvs,∃ ps,RowOk b ps/\p=(keyR b ps,rowT ps)
theorem Book.srt {b:Tb} (hb:b.ok) (h:Book b kvs) (h5:kvs.length<=5):bltT .sorted (dD kvs)=some (.lst ((sortL (kvs.map (·.1))).map tkT)):=by
 cases kvs with
 | nil=>rfl
 | cons p r =>
  show sortT ((p::r).map (·.1))=_
  unfold sortT sortK
  rw [if_pos]
  ·rfl
  ·refine ⟨by rw [zyj];exact h5,h.nd,List.all_eq_true.mpr fun x hx=>?_⟩
   obtain ⟨q,hq,rfl⟩:=omm hx
   obtain ⟨ps,h1,rfl⟩:=h.rw q hq
   rw [zyd]
   constructor
   ·cases e:keyR b ps with
    | nil=>exact absurd e (zgi hb ps)
    | cons _ _=>rfl
   ·refine List.all_eq_true.mpr fun y hy=>?_
    obtain ⟨q',hq',rfl⟩:=omm hy
    obtain ⟨ps',h2,rfl⟩:=h.rw q' hq'
    exact zcm hb h1 h2
theorem Book.get {b:Tb} (h:Book b kvs) (hk:k∈sortL (kvs.map (·.1))):∃ w,idxT (dD kvs) (tkT k)=some w/\∃ ps,RowOk b ps/\w=rowT ps/\keyR b ps=k:=by
 have hk:=zaq.mp hk
 obtain ⟨v,h1,h2⟩:=zhq hk
 obtain ⟨ps,h3,e⟩:=h.rw _ h2
 injection e with e1 e2
 refine ⟨v,?_,ps,h3,e2,e1.symm⟩
 cases kvs with
 | nil=>cases hk
 | cons p r =>
  show (keysO (k.map kT)).bind _=_
  rw [zdy];exact h1
noncomputable def d4:List Int:=[1,5,25,125]
theorem zw0 {i:Nat} (h:i<4):∃ d:Int,getI [.int 1,.int 5,.int 25,.int 125] (i:Int)=some (.int d)/\0<d/\d<1073741824:=by
 match i,h with
 | 0,_=>exact ⟨1,zbh rfl,by decide,by decide⟩
 | 1,_=>exact ⟨5,zbh rfl,by decide,by decide⟩
 | 2,_=>exact ⟨25,zbh rfl,by decide,by decide⟩
 | 3,_=>exact ⟨125,zbh rfl,by decide,by decide⟩
theorem zp1 (G:Glo) (o:Bo) (a b:E) (r:Env):evE G (.bin o a b) r=(evE G a r).bind fun x=>(evE G b r).bind fun y=>binT o x y:=by rw [evE]
theorem zr4:small 10=true:=by decide
section
variable {P:Pr} (hd:P.fn "_law_drawn"=some zal) (hw:P.fn "_law_worth"=some zai) (hr:P.fn "_law_row"=some zbu) (hn:P.fn "_law_names"=some za6) (hk:P.fn "_law_key"=some zbk)
include hd hw hr hn hk
end
end Ev.K04
end
end
end
noncomputable section
noncomputable section
noncomputable section
namespace Ev.K03
open PySem
variable {l:List (List Kt)}
theorem zbs {x:List Kt}:∀ {l:List (List Kt)},x∈dedL l↔x∈l
 | []=>Iff.rfl
 | k::r=>by
  rw [dedL]
  split
  ·rename_i hk
   obtain ⟨y,hy,e⟩:=List.any_eq_true.mp hk
   rw [zbs (l:=r),List.mem_cons]
   exact ⟨.inr,fun h=>h.elim (fun z=>by rw [z,<- zy8 e];exact hy) id⟩
  ·rw [List.mem_cons,zbs (l:=r),List.mem_cons]
theorem zge:∀ l:List (List Kt),(dedL l).Nodup
 | []=>List.nodup_nil
 | k::r=>by
  rw [dedL]
  split
  ·exact zge r
  ·rename_i hk
   refine List.nodup_cons.mpr ⟨fun h=>hk (List.any_eq_true.mpr ⟨k,zbs.mp h,by simp⟩),zge r⟩
noncomputable def asc:List (List Kt)->Bool
 | x::y::r=>lexL x y&&asc (y::r)
 | _=>true
theorem zrk:∀ {l:List (List Kt)},(∀ x∈l,∀ y∈l,alike x y=true)->asc l=true->l.Pairwise fun x y=>lexL x y=true
 | [],_,_=>.nil
 | [x],_,_=>by simp
 | x::y::r,al,h=>by
  rw [asc,zyd] at h
  have ih:=zrk (l:=y::r) (fun a ha b hb=>al a (.tail _ ha) b (.tail _ hb)) h.2
  refine List.pairwise_cons.mpr ⟨fun z hz=>?_,ih⟩
  rcases omc hz with rfl | hz
  ·exact h.1
  ·exact zfh (al x (.head _) y (.tail _ (.head _))) (al y (.tail _ (.head _)) z (.tail _ (.tail _ hz))) h.1 ((List.pairwise_cons.mp ih).1 z hz)
theorem zqt:∀ {l:List (List Kt)},(l.Pairwise fun x y=>lexL x y=true)->asc l=true
 | [],_=>rfl
 | [x],_=>rfl
 | x::y::r,h=>by
  obtain ⟨h1,h2⟩:=List.pairwise_cons.mp h
  rw [asc,h1 y (.head _),zqt h2];rfl
theorem zub (al:∀ x∈l,∀ y∈l,alike x y=true):asc l=decide (l=sortL (dedL l)):=by
 have ad:∀ x∈dedL l,∀ y∈dedL l,alike x y=true:=fun x hx y hy=>al x (zbs.mp hx) y (zbs.mp hy)
 have ps:=zch (zge l) ad
 cases h:asc l with
 | true =>
  symm
  refine zyw ?_
  exact ze9 (fun x=>by rw [zaq,zbs]) al (zrk al h) ps
 | false =>
  symm
  refine zy0 fun e=>?_
  rw [e,zqt ps] at h
  cases h
theorem zde:∀ ks:List Kt,keysO (ks.map kT)=some ks
 | []=>rfl
 | .inl i::ks=>by show (some (Sum.inl i)).bind _=_;rw [zye,zde ks];rfl
 | .inr none::ks=>by show (some (Sum.inr none)).bind _=_;rw [zye,zde ks];rfl
 | .inr (some x)::ks=>by show (some (Sum.inr (some x))).bind _=_;rw [zye,zde ks];rfl
theorem zqo:∀ l:List (List Kt),tksO (l.map tkT)=some l
 | []=>rfl
 | k::l=>by
  show (keysO (k.map kT)).bind _=_
  rw [zde,zye]
  show (tksO (l.map tkT)).bind _=_
  rw [zqo l];rfl
theorem zx9 (a b:Kt):eqT (kT a) (kT b)=decide (a=b):=by
 rcases a with a | _ | a<;>rcases b with b | _ | b<;>simp [kT,eqT]<;>rfl
theorem zrf:∀ a b:List Kt,eqTs (a.map kT) (b.map kT)=decide (a=b)
 | [],[]=>by simp [eqTs]
 | [],_::_=>by simp [eqTs]
 | _::_,[]=>by simp [eqTs]
 | a::l,b::m=>by
  show (eqT (kT a) (kT b)&&eqTs (l.map kT) (m.map kT))=_
  rw [zx9,zrf l m]
  by_cases h1:a=b<;>by_cases h2:l=m<;>simp [h1,h2]
theorem znd:∀ a b:List (List Kt),eqTs (a.map tkT) (b.map tkT)=decide (a=b)
 | [],[]=>by simp [eqTs]
 | [],_::_=>by simp [eqTs]
 | _::_,[]=>by simp [eqTs]
 | a::l,b::m=>by
  show (eqT (tkT a) (tkT b)&&eqTs (l.map tkT) (m.map tkT))=_
  rw [show eqT (tkT a) (tkT b)=eqTs (a.map kT) (b.map kT) from rfl,zrf,znd l m]
  by_cases h1:a=b<;>by_cases h2:l=m<;>simp [h1,h2]
theorem zrh:∀ {a b:List Kt},alike a b=true->dpPs (a.map kT) (b.map kT)=0
 | [],[],_=>by simp [dpPs]
 | [],_::_,h=>by cases h
 | _::_,[],h=>by cases h
 | a::l,b::m,h=>by
  rw [alike,zyd] at h
  show dpPs (kT a::l.map kT) (kT b::m.map kT)=0
  rw [dpPs,zrh h.2]
  rcases a with a | _ | a<;>rcases b with b | _ | b<;>first | rfl | cases h.1
theorem znh:∀ {a b:List (List Kt)},(∀ x∈a,∀ y∈b,alike x y=true)->dpPs (a.map tkT) (b.map tkT)<=1
 | [],[],_=>by simp [dpPs]
 | [],_::_,_=>by simp [dpPs]
 | _::_,[],_=>by simp [dpPs]
 | a::l,b::m,h=>by
  show dpPs (tkT a::l.map tkT) (tkT b::m.map tkT)<=1
  rw [dpPs,show dpP (tkT a) (tkT b)=dpPs (a.map kT) (b.map kT)+1 from rfl,zrh (h a (.head _) b (.head _))]
  have:=znh fun x hx y hy=>h x (.tail _ hx) y (.tail _ hy)
  omega
theorem zry (h4:(dedL l).length<=4) (al:∀ x∈l,x≠[]/\∀ y∈l,alike x y=true) :
  (bltT .sset (.lst (l.map tkT))).bind (fun s=>cmpT .eq (.lst (l.map tkT)) s)=some (.bl (asc l)):=by
 have hK:sortK (dedL l)=some (sortL (dedL l)):=by
  unfold sortK
  rw [if_pos]
  refine ⟨by omega,zge l,List.all_eq_true.mpr fun x hx=>?_⟩
  rw [zyd]
  refine ⟨?_,List.all_eq_true.mpr fun y hy=>(al x (zbs.mp hx)).2 y (zbs.mp hy)⟩
  cases hx':x with
  | nil=>exact absurd hx' (al x (zbs.mp hx)).1
  | cons=>rfl
 have h1:bltT .sset (.lst (l.map tkT))=some (.lst ((sortL (dedL l)).map tkT)):=by
  show (tksO (l.map tkT)).bind ssetT=_
  rw [zqo,zye,ssetT,if_pos h4,sortT,hK];rfl
 rw [h1,zye]
 show eqC _ _=_
 rw [eqC,if_pos,show eqT (.lst (l.map tkT)) (.lst ((sortL (dedL l)).map tkT))=eqTs (l.map tkT) ((sortL (dedL l)).map tkT) from rfl,znd,zub fun x hx=>(al x hx).2]
 show dpPs _ _+1<=30
 have:=znh (a:=l) (b:=sortL (dedL l)) fun x hx y hy=>(al x hx).2 y (zbs.mp (zaq.mp hy))
 omega
theorem ztc {a b:List Kt} (h:alike a b=true):cmpT .lt (tkT a) (tkT b)=some (.bl (lexL a b)):=by
 show ltC (.tup _) (.tup _)=_
 rw [ltC,zde,zye,zde,zye,if_pos h]
end Ev.K03
end
end
end
noncomputable section
noncomputable section
noncomputable section
namespace Ev.K04
open PySem
variable {G:Glo} {e elt:E} {τ:List Sl} {t:T} {ss:List S} {src:List E} {r:Env} {xs its:List T} {α:Type} {P:Pr}
noncomputable def za7:Fd:=⟨4,4,[.ite (.lor (.lnot (.tru (.isi (.var 0) .tstr))) (.lnot (.chn .le .le (.var 1) (.blt .len (.var 0)) (.var 2)))) [.ret (.cst (.bl false))] [],
  .ret (.blt .all (.comp (.cmp .isin (.var 0) (.var 4)) 1 .plain [.var 0] none))]⟩
noncomputable def zbn:Fd:=⟨2,2,[.ite (.cmp .eq (.var 0) (.cst (.str "text"))) [.ret (.call "is_text_of" [.var 1,.cst (.int 0),.cst (.int 6),.bin .add (.glb "LETTERS") (.glb "FIGURES")])] [],
  .ite (.lor (.lnot (.tru (.isi (.var 1) .tint))) (.tru (.isi (.var 1) .tbool))) [.ret (.cst (.bl false))] [],
  .ret (.chn .le .le (.neg (.cst (.int 999))) (.var 1) (.cst (.int 999)))]⟩
noncomputable def zbt:Fd:=⟨2,2,[.ite (.cmp .isN (.var 1) (.cst .non)) [.ret (.idx (.var 0) (.cst (.int 2)))] [],
  .ret (.call "is_worth" [.idx (.var 0) (.cst (.int 1)),.var 1])]⟩
noncomputable def zc4:Fd:=⟨2,3,[.asg 2 (.idx (.var 0) (.cst (.int 1))),
  .ite (.lor (.lnot (.tru (.isi (.var 1) .ttup))) (.cmp .ne (.blt .len (.var 1)) (.blt .len (.var 2)))) [.ret (.cst (.bl false))] [],
  .ret (.blt .all (.comp (.call "may_stand" [.var 0,.var 1]) 2 .zip [.var 2,.var 1] none))]⟩
noncomputable def zb4:Fd:=⟨2,2,[.ite (.lor (.lnot (.tru (.isi (.var 1) .ttup))) (.cmp .ne (.blt .len (.var 1)) (.blt .len (.var 0)))) [.ret (.cst (.bl false))] [],
  .ret (.blt .all (.comp (.call "are_rows" [.var 0,.var 1]) 2 .zip [.var 0,.var 1] none))]⟩
noncomputable def zbo:Fd:=⟨2,3,[.ite (.lor (.lnot (.tru (.isi (.var 1) .ttup))) (.lnot (.tru (.blt .all (.comp (.call "is_row" [.var 1,.var 0]) 1 .plain [.var 1] none))))) [.ret (.cst (.bl false))] [],
  .asg 2 (.comp (.call "worths_of" [.var 1,.var 0,.idx (.var 1) (.cst (.int 2))]) 1 .plain [.var 1] none),
  .ret (.blt .all (.comp (.cmp .lt (.var 0) (.var 1)) 2 .zip [.var 2,.sli (.var 2) (some (.cst (.int 1))) none] none))]⟩
noncomputable def zbg:Fd:=⟨3,3,[.ret (.land (.isi (.var 0) .tint) (.land (.lnot (.isi (.var 0) .tbool)) (.chn .le .le (.var 1) (.var 0) (.var 2))))]⟩
noncomputable def zak:Fd:=⟨2,2,[.ite (.cmp .eq (.var 1) (.cst (.str "whole"))) [.ret (.call "_law_from" [.var 0,.neg (.cst (.int 999)),.cst (.int 999)])] [],
  .ite (.lor (.lnot (.tru (.isi (.var 0) .tstr))) (.cmp .gt (.blt .len (.var 0)) (.cst (.int 6)))) [.ret (.cst (.bl false))] [],
  .ret (.cmp .eq (.comp (.var 0) 1 .plain [.var 0] (some (.cmp .notin (.var 0) (.cst (.str "abcdefghijklmnopqrstuvwxyz0123456789"))))) (.lst []))]⟩
noncomputable def zbf:Fd:=⟨2,4,[.ite (.lor (.lnot (.tru (.isi (.var 1) .ttup))) (.cmp .ne (.blt .len (.var 1)) (.blt .len (.idx (.var 0) (.cst (.int 1)))))) [.ret (.cst (.bl false))] [],
  .loop [2,3] .zip [.idx (.var 0) (.cst (.int 1)),.var 1] [.ite (.land (.lnot (.tru (.call "_law_is_worth" [.var 3,.idx (.var 2) (.cst (.int 1))]))) (.lor (.cmp .notN (.var 3) (.cst .non)) (.lnot (.tru (.idx (.var 2) (.cst (.int 2))))))) [.ret (.cst (.bl false))] []],
  .ret (.cst (.bl true))]⟩
noncomputable def zbb:Fd:=⟨2,3,[.ite (.lnot (.tru (.isi (.var 1) .ttup))) [.ret (.cst (.bl false))] [],
  .ite (.cmp .ne (.comp (.var 0) 1 .plain [.var 1] (some (.lnot (.tru (.call "_law_is_row" [.var 1,.var 0]))))) (.lst [])) [.ret (.cst (.bl false))] [],
  .asg 2 (.comp (.call "_law_key" [.var 1,.var 0]) 1 .plain [.var 1] none),
  .ret (.cmp .eq (.var 2) (.blt .sset (.var 2)))]⟩
noncomputable def zfs:Fd:=⟨1,13,[.asg 1 (.call "_law_schema" [.call "_law_mixed" [.var 0,.cst (.int 0)]]),
  .asg 2 (.call "_law_mixed" [.var 0,.cst (.int 1)]),
  .asg 3 (.idx (.var 1) (.bin .mod (.var 2) (.blt .len (.var 1)))),
  .asg 4 (.call "_law_row" [.var 3,.call "_law_mixed" [.var 0,.cst (.int 2)]]),
  .ite (.cmp .eq (.bin .mod (.bin .fdiv (.var 2) (.cst (.int 4))) (.cst (.int 2))) (.cst (.int 1))) [.asg 4 (.call "_law_spoilt" [.var 4,.call "_law_mixed" [.var 0,.cst (.int 3)],.bin .mod (.bin .fdiv (.var 2) (.cst (.int 8))) (.cst (.int 3))])] [],
  .asg 5 (.call "is_row" [.var 3,.var 4]),
  .ite (.lor (.lnot (.tru (.isi (.var 5) .tbool))) (.cmp .ne (.var 5) (.call "_law_is_row" [.var 3,.var 4]))) [.ret (.cst (.bl false))] [],
  .asg 4 (.tup []),
  .loop [6,7] .enum [.var 1] [.dnew 8,
  .loop [9] .range [.bin .mod (.bin .fdiv (.call "_law_mixed" [.var 0,.cst (.int 4)]) (.idx (.tup [.cst (.int 1),.cst (.int 5),.cst (.int 25),.cst (.int 125)]) (.var 6))) (.cst (.int 5))] [.asg 10 (.call "_law_row" [.var 7,.bin .fdiv (.call "_law_drawn" [.var 2,.bin .add (.bin .mul (.cst (.int 10)) (.var 6)) (.var 9)]) (.cst (.int 4))]),
  .dput 8 (.call "_law_key" [.var 7,.var 10]) (.var 10)],
  .asg 4 (.bin .add (.var 4) (.tup [.blt .toTuple (.comp (.idx (.var 9) (.var 0)) 1 .plain [.blt .sorted (.var 8)] none)]))],
  .ite (.cmp .eq (.bin .mod (.bin .fdiv (.var 2) (.cst (.int 64))) (.cst (.int 2))) (.cst (.int 1))) [.asg 4 (.call "_law_spoilt" [.var 4,.call "_law_mixed" [.var 0,.cst (.int 5)],.bin .mod (.bin .fdiv (.var 2) (.cst (.int 128))) (.cst (.int 5))])] [],
  .asg 5 (.call "is_store" [.var 1,.var 4]),
  .asg 11 (.land (.isi (.var 4) .ttup) (.cmp .eq (.blt .len (.var 4)) (.blt .len (.var 1)))),
  .ite (.tru (.var 11)) [.loop [7,12] .zip [.var 1,.var 4] [.asg 11 (.land (.var 11) (.call "_law_are_rows" [.var 7,.var 12]))]] [],
  .ret (.land (.isi (.var 5) .tbool) (.cmp .eq (.var 5) (.var 11)))]⟩
mutual
noncomputable def bd:T->Bool
 | .str x=>ascii x&&decide (x.length<=1000)
 | .tup xs=>decide (xs.length<=1000)&&bds xs
 | .dk _ _=>false
 | .dt _ _=>false
 | _=>true
noncomputable def bds:List T->Bool
 | []=>true
 | x::xs=>bd x&&bds xs
end
noncomputable def LT:Str:="abcdefghijklmnopqrstuvwxyz"
noncomputable def FG:Str:="0123456789"
noncomputable def SG:Str:="abcdefghijklmnopqrstuvwxyz0123456789"
theorem zxm:LT++FG=SG:=by decide +kernel
theorem zut:LT.length+FG.length<=16777216:=by decide +kernel
noncomputable def txtOk (x:Str):Bool:=decide (x.length<=6)&&x.cps.toList.all fun c=>occ ⟨#[c]⟩ SG
noncomputable def txtT:T->Bool
 | .str x=>txtOk x
 | _=>false
noncomputable def numT:T->Bool
 | .int i=>decide (-999<=i)&&decide (i<=999)
 | _=>false
noncomputable def worthT (k:Str) (t:T):Bool:=if k==("text":Str) then txtT t else numT t
theorem zd5 {τ0:List Sl} (h0:frzAt (vars e) τ=τ0) (h1:evE G e (view τ0)=some t):evS G (.ret e) τ=some (.rt t):=by
 rw [evS,h0,h1];rfl
theorem zbx {i:Nat} {τ0 τ':List Sl} (h0:frzAt (vars e) τ=τ0) (h1:evE G e (view τ0)=some t) (h2:τ0.set i (slotOf e t)=τ'):evS G (.asg i e) τ=some (.nx τ'):=by
 rw [evS,h0,h1,<- h2];rfl
theorem zan {c:E} {a:List S} (h0:frzAt (vars c) τ=τ) (h1:evE G c (view τ)=some (.bl false)):evSs G (.ite c a []::ss) τ=evSs G ss τ :=
 zao (by rw [evS,h0,h1];simp [evSs])
theorem za0 {c:E} {b:List S} (h0:frzAt (vars c) τ=τ) (h1:evE G c (view τ)=some (.bl true)) (h2:frzAt (vars e) τ=τ) (h3:evE G e (view τ)=some t):evSs G (.ite c [.ret e] b::ss) τ=some (.rt t) :=
 zdb (by rw [evS,h0,h1];show evSs G [.ret e] τ=_;exact zdb (zd5 h2 h3))
theorem ret0 (h0:frzAt (vars e) τ=τ) (h1:evE G e (view τ)=some t):evSs G (.ret e::ss) τ=some (.rt t):=zdb (zd5 h0 h1)
theorem zc5 {enc:α->T} {l:List α} (h1:evEs G src r=some xs) (h2:itemsC .plain xs=some its) (hl:its=l.map enc) (v:α->T)
  (hv:∀ a∈l,evE G elt (some (enc a)::r)=some (v a)):evE G (.comp elt 1 .plain src none) r=some (.lst (l.map v)):=by
 rw [zcz,h1,Option.bind_some,h2,Option.bind_some,hl,zat (fun a=>some (v a)) (fun a ha=>by simp [bnd,evO,hv a ha]),zcs]
 rfl
theorem znn {cond:E} {enc:α->T} {l:List α} (h1:evEs G src r=some xs) (h2:itemsC .plain xs=some its) (hl:its=l.map enc) (b:α->Bool) (v:α->T)
  (hc:∀ a∈l,evE G cond (some (enc a)::r)=some (.bl (b a))) (hv:∀ a∈l,evE G elt (some (enc a)::r)=some (v a)):evE G (.comp elt 1 .plain src (some cond)) r=some (.lst (l.filterMap fun a=>if b a then some (v a) else none)):=by
 rw [zcz,h1,zye,h2,zye,hl,zat (fun a=>if b a then some (v a) else none) (fun a ha=>by
  simp only [bnd,if_true,Option.bind_some,evO,hc a ha,Option.map_some]
  cases b a<;>simp [hv a ha])]
 rfl
theorem zeh {α:Type} (g:α->Bool):∀ l:List α,zei (l.map fun a=>T.bl (g a))=some (l.map g)
 | []=>rfl
 | a::l=>by rw [zyh,zei,zeh g l];rfl
theorem all_map {α:Type} (g:α->Bool) (l:List α):bltT .all (.lst (l.map fun a=>T.bl (g a)))=some (.bl (l.all g)):=by
 simp only [bltT,zeh,Option.map_some,List.all_map]
 rfl
theorem zt0 (xs:List T):dpPs xs []=0:=by cases xs<;>rfl
theorem eqL0 (b:α->Bool) (v:α->T) (l:List α):eqC (.lst (l.filterMap fun a=>if b a then some (v a) else none)) (.lst [])=some (.bl (l.all fun a=>!b a)):=by
 have:∀ l:List α,eqTs (l.filterMap fun a=>if b a then some (v a) else none) []=l.all fun a=>!b a:=by
  intro l
  induction l with
  | nil=>rfl
  | cons a l ih =>
   rw [zzg,List.all_cons]
   cases b a with
   | true=>simp [eqTs]
   | false=>simpa using ih
 unfold eqC
 rw [if_pos (by show dpPs _ []+1<=30;rw [zt0];decide),show ∀ l:List T,eqT (.lst l) (.lst [])=eqTs l [] from fun _=>rfl,this]
theorem eqAny (a:Str) (x:Str):eqC (.str a) (.str x)=some (.bl (eqT (.str a) (.str x))):=rfl
theorem neI (a b:Int):neC (.int a) (.int b)=some (.bl (!(a==b))):=rfl
theorem eqTS (a b:Str):eqT (.str a) (.str b)=(a==b):=rfl
theorem zef {x:Str} (ha:ascii x=true) (hl:x.length<=6):itemsC .plain [.str x]=some (x.cps.toList.map fun c=>T.str ⟨#[c]⟩):=by
 have h2:(charsT x).length<=SZ:=by
  unfold charsT
  rw [zyj,zza]
  have:x.cps.size<=6:=hl
  show x.cps.size<=16777216
  omega
 simp only [itemsC,items,ha,if_true,Option.bind_some,h2]
 rfl
theorem zok (h:P.fn "is_text_of"=some za7) (n:Nat) (hb:bd t=true):run P (n+1) "is_text_of" [t,.int 0,.int 6,.str SG]=some (.bl (txtT t)):=by
 rw [zag h rfl]
 cases t with
 | str x =>
  simp only [bd,Bool.and_eq_true,decide_eq_true_eq] at hb
  have hz:x.length<=16777216:=by omega
  by_cases h6:x.length<=6
  ·have hc:evE (glo P (run P n)) (.comp (.cmp .isin (.var 0) (.var 4)) 1 .plain [.var 0] none) (view [Sl.val (.str x),.val (.int 0),.val (.int 6),.val (.str SG)])=some (.lst (x.cps.toList.map fun c=>.bl (occ ⟨#[c]⟩ SG))) :=
    zc5 (enc:=fun c=>T.str ⟨#[c]⟩) (l:=x.cps.toList) (xs:=[.str x]) (by simp [evEs,evE,view,Sl.get]) (zef hb.1 h6) rfl (fun c=>.bl (occ ⟨#[c]⟩ SG)) (fun c _=>by
     simp [evE,view,Sl.get,cmpT,inC,inS])
   unfold za7
   dsimp only
   rw [show begin' ⟨4,4,_⟩ [T.str x,.int 0,.int 6,.str SG]=[Sl.val (.str x),.val (.int 0),.val (.int 6),.val (.str SG)] from rfl]
   have h6':((x.length:Int)<=6):=by omega
   rw [zan rfl (by simp [evE,view,Sl.get,isiT,truT,bltT,hz,cmpT,leC,h6'])]
   rw [ret0 (t:=.bl (txtOk x)) rfl (by rw [zbl,hc,Option.bind_some,all_map];simp [txtOk,h6])]
   rfl
  ·have h6':¬ ((x.length:Int)<=6):=by omega
   unfold za7
   dsimp only
   rw [show begin' ⟨4,4,_⟩ [T.str x,.int 0,.int 6,.str SG]=[Sl.val (.str x),.val (.int 0),.val (.int 6),.val (.str SG)] from rfl]
   rw [za0 (t:=.bl false) rfl (by simp [evE,view,Sl.get,isiT,truT,bltT,hz,cmpT,leC,h6']) rfl rfl]
   simp [zaa,txtT,txtOk,h6]
 | _=>rfl
theorem zjv (h:P.fn "is_worth"=some zbn) (ht:P.fn "is_text_of"=some za7) (c1:P.con "LETTERS"=some (.str LT)) (c2:P.con "FIGURES"=some (.str FG)) (n:Nat) (k:Str) (hb:bd t=true) :
  run P (n+2) "is_worth" [.str k,t]=some (.bl (worthT k t)):=by
 have e:=zok ht n hb
 rw [zag h rfl]
 show zaa (evSs (glo P (run P (n+1))) zbn.body [.val (.str k),.val t])=_
 have ec:∀ G:Glo,evE G (.cmp .eq (.var 0) (.cst (.str "text"))) (view [.val (.str k),.val t])=some (.bl (k==("text":Str))):=fun G=>by simp [evE,view,Sl.get,cmpT,eqAny,eqT]
 unfold zbn worthT
 dsimp only
 cases hk:(k==("text":Str)) with
 | true =>
  rw [hk] at ec
  rw [za0 (t:=.bl (txtT t)) rfl (ec _) rfl (by
   simp only [evE,evEs,glo,c1,c2,view,Sl.get,List.map_cons,List.map_nil,List.getElem?_cons_succ,List.getElem?_cons_zero,Option.join_some,Option.bind_some,binT,addT,SZ,zut,zxm,if_true,e])]
  simp [zaa]
 | false =>
  rw [hk] at ec
  rw [zan rfl (ec _)]
  cases t with
  | int i =>
   rw [zan rfl rfl,ret0 (t:=.bl (numT (.int i))) rfl (by
    by_cases h1 : -999<=i<;>by_cases h2:i<=999<;>simp [evE,view,Sl.get,cmpT,leC,numT,h1,h2])]
   simp [zaa]
  | _=>rfl
theorem zmo (h:P.fn "_law_from"=some zbg) (n:Nat) (t:T):run P (n+1) "_law_from" [t,.int (-999),.int 999]=some (.bl (numT t)):=by
 rw [zag h rfl]
 show zaa (evSs (glo P (run P n)) zbg.body [.val t,.val (.int (-999)),.val (.int 999)])=_
 unfold zbg
 dsimp only
 cases t with
 | int i =>
  rw [ret0 (t:=.bl (numT (.int i))) rfl (by
   by_cases h1 : -999<=i<;>by_cases h2:i<=999<;>simp [evE,view,Sl.get,isiT,cmpT,leC,numT,h1,h2])]
  rfl
 | _=>rfl
theorem zku:(("whole":Str)=="text")=false/\(("text":Str)=="whole")=false/\(("whole":Str)=="whole")=true/\(("text":Str)=="text")=true:=by decide +kernel
theorem zkd (h:P.fn "_law_is_worth"=some zak) (hf:P.fn "_law_from"=some zbg) (n:Nat) {k:Str} (hk:k="whole"\/k="text") (hb:bd t=true):run P (n+2) "_law_is_worth" [t,.str k]=some (.bl (worthT k t)):=by
 have e:=zmo hf n t
 rw [zag h rfl]
 rcases hk with rfl | rfl
 ·show zaa (evSs (glo P (run P (n+1))) zak.body [.val t,.val (.str "whole")])=_
  unfold zak
  dsimp only
  rw [za0 (t:=.bl (numT t)) rfl (by simp [evE,view,Sl.get,cmpT,eqAny,eqTS]) rfl (by simp [evE,evEs,view,Sl.get,glo,e])]
  simp [zaa,worthT,zku]
 ·cases t with
  | str x =>
   simp only [bd,Bool.and_eq_true,decide_eq_true_eq] at hb
   have hz:x.length<=16777216:=by omega
   by_cases h6:x.length<=6
   ·have h6':¬ ((6:Int)<(x.length:Int)):=by omega
    have hc:evE (glo P (run P (n+1))) (.comp (.var 0) 1 .plain [.var 0] (some (.cmp .notin (.var 0) (.cst (.str "abcdefghijklmnopqrstuvwxyz0123456789"))))) (view [Sl.val (.str x),.val (.str "text")])=some (.lst (x.cps.toList.filterMap fun c=>if !(occ ⟨#[c]⟩ SG) then some (T.str ⟨#[c]⟩) else none)) :=
     znn (enc:=fun c=>T.str ⟨#[c]⟩) (l:=x.cps.toList) (xs:=[.str x]) (by simp [evEs,evE,view,Sl.get]) (zef hb.1 h6) rfl (fun c=>!(occ ⟨#[c]⟩ SG)) (fun c=>.str ⟨#[c]⟩) (fun c _=>by simp [evE,view,Sl.get,cmpT,inC,inS,SG]) (fun c _=>by simp [evE])
    unfold zak
    dsimp only
    rw [show begin' ⟨2,2,_⟩ [T.str x,.str "text"]=[Sl.val (.str x),.val (.str "text")] from rfl]
    rw [zan rfl (by simp [evE,view,Sl.get,cmpT,eqAny,eqTS,zku])]
    rw [zan rfl (by simp [evE,view,Sl.get,cmpT,isiT,truT,bltT,hz,h6'])]
    rw [ret0 (t:=.bl (txtOk x)) rfl (by
     rw [evE,hc,zye]
     simp only [evE,evEs,List.length_nil,Option.map_some,Nat.zero_le,if_true,Option.bind_some,cmpT]
     rw [eqL0]
     simp [txtOk,h6])]
    simp [zaa,worthT,txtT]
   ·have h6':(6:Int)<(x.length:Int):=by omega
    show zaa (evSs (glo P (run P (n+1))) zak.body [.val (.str x),.val (.str "text")])=_
    unfold zak
    dsimp only
    rw [zan rfl (by simp [evE,view,Sl.get,cmpT,eqAny,eqTS,zku])]
    rw [za0 (t:=.bl false) rfl (by simp [evE,view,Sl.get,cmpT,isiT,truT,bltT,hz,h6']) rfl rfl]
    simp [zaa,worthT,txtT,txtOk,h6]
  | _ =>
   show zaa (evSs (glo P (run P (n+1))) zak.body [.val _,.val (.str "text")])=_
   unfold zak
   dsimp only
   rw [zan rfl (by simp [evE,view,Sl.get,cmpT,eqAny,eqTS,zku])]
   simp only [worthT,zku,if_true]
   rfl
theorem bds_mem:∀ {xs:List T} {x:T},bds xs=true->x∈xs->bd x=true
 | y::xs,x,h,hx=>by
  rw [bds,zyd] at h
  rcases omc hx with rfl | hx
  ·exact h.1
  ·exact bds_mem h.2 hx
noncomputable def nonB:T->Bool
 | .non=>true
 | _=>false
theorem zwo (t:T):cmpT .isN t .non=some (.bl (nonB t)):=by cases t<;>rfl
theorem zwb (t:T):cmpT .notN t .non=some (.bl (!nonB t)):=by cases t<;>rfl
noncomputable def mayB (c:Col) (t:T):Bool:=if nonB t then c.g else worthT c.k t
noncomputable def rowB (cs:List Col):T->Bool
 | .tup xs=>decide (xs.length=cs.length)&&(cs.zip xs).all fun p=>mayB p.1 p.2
 | _=>false
theorem zdr {α:Type} (f:α->T):∀ (l:List α) (xs:List T),zipT (l.map f) xs=(l.zip xs).map fun p=>.tup [f p.1,p.2]
 | [],xs=>by cases xs<;>rfl
 | a::l,[]=>rfl
 | a::l,x::xs=>by rw [zyh,zipT,zdr f l xs];rfl
theorem zgm (f:α->T) (l:List α) (xs:List T) (hl:l.length<=4) {s:T} (hs:seqOf s=some (l.map f)):itemsC .zip [s,.tup xs]=some ((l.zip xs).map fun p=>.tup [f p.1,p.2]):=by
 have h:(l.zip xs).length<=16777216:=by rw [List.length_zip];omega
 simp only [itemsC,items]
 rw [hs,show seqOf (.tup xs)=some xs from rfl]
 simp only [Option.bind_some,zdr,List.length_map]
 rw [if_pos (show _<=SZ from h)]
theorem zft {e1 e2:α->T} {l:List α} (h1:evEs G src r=some xs) (h2:itemsC .zip xs=some its) (hl:its=l.map fun a=>.tup [e1 a,e2 a]) (v:α->T)
  (hv:∀ a∈l,evE G elt (some (e1 a)::some (e2 a)::r)=some (v a)):evE G (.comp elt 2 .zip src none) r=some (.lst (l.map v)):=by
 rw [zcz,h1,Option.bind_some,h2,Option.bind_some,hl,zat (fun a=>some (v a)) (fun a ha=>by simp [bnd,evO,hv a ha]),zcs]
 rfl
theorem zdm (h:bd (.tup xs)=true):xs.length<=1000/\∀ x∈xs,bd x=true:=by
 rw [bd,zyd,zyr] at h
 exact ⟨h.1,fun x hx=>bds_mem h.2 hx⟩
theorem zda:∀ {l:List α} {xs:List T} {p:α × T},p∈l.zip xs->p.1∈l/\p.2∈xs:=fun {l xs p} h=>List.of_mem_zip (a:=p.1) (b:=p.2) h
structure Prog3 (P:Pr):Prop where
 worth:P.fn "is_worth"=some zbn
 text:P.fn "is_text_of"=some za7
 c1:P.con "LETTERS"=some (.str LT)
 c2:P.con "FIGURES"=some (.str FG)
 may:P.fn "may_stand"=some zbt
 row:P.fn "is_row"=some zc4
theorem ztb (h:Prog3 P) (n:Nat) (c:Col) (hb:bd t=true):run P (n+3) "may_stand" [c.t,t]=some (.bl (mayB c t)):=by
 have e:=zjv h.worth h.text h.c1 h.c2 n c.k hb
 rw [zag h.may rfl]
 show zaa (evSs (glo P (run P (n+2))) zbt.body [.val c.t,.val t])=_
 unfold zbt
 dsimp only
 cases hn:nonB t with
 | true =>
  rw [za0 (t:=.bl c.g) rfl (by simp [evE,view,Sl.get,zwo,hn]) rfl (by simp [evE,view,Sl.get,idxT,Col.t,getI2])]
  simp [zaa,mayB,hn]
 | false =>
  rw [zan rfl (by simp [evE,view,Sl.get,zwo,hn]),ret0 (t:=.bl (worthT c.k t)) rfl (by simp [evE,evEs,view,Sl.get,idxT,Col.t,getI1,glo] at e ⊢;exact e)]
  simp [zaa,mayB,hn]
theorem zez (h:Prog3 P) (n:Nat) (nm key rules:T) (cs:List Col) (hl:cs.length<=4) (hb:bd t=true):run P (n+4) "is_row" [tabT nm cs key rules,t]=some (.bl (rowB cs t)):=by
 rw [zag h.row rfl]
 show zaa (evSs (glo P (run P (n+3))) zc4.body [.val (tabT nm cs key rules),.val t,.no])=_
 unfold zc4
 dsimp only
 rw [zao (zbx (τ0:=[.val (tabT nm cs key rules),.val t,.no]) (t:=.tup (cs.map Col.t)) (τ':=[.val (tabT nm cs key rules),.val t,.val (.tup (cs.map Col.t))]) rfl (by simp [evE,view,Sl.get,idxT,tabT,getI1]) rfl)]
 cases t with
 | tup xs =>
  have hb':=zdm hb
  by_cases hx:xs.length=cs.length
  ·have hc:evE (glo P (run P (n+3))) (.comp (.call "may_stand" [.var 0,.var 1]) 2 .zip [.var 2,.var 1] none) (view [.val (tabT nm cs key rules),.val (.tup xs),.val (.tup (cs.map Col.t))])=some (.lst ((cs.zip xs).map fun p=>.bl (mayB p.1 p.2))) :=
    zft (e1:=fun p:Col × T=>p.1.t) (e2:=fun p=>p.2) (l:=cs.zip xs) (xs:=[.tup (cs.map Col.t),.tup xs]) (by simp [evEs,evE,view,Sl.get]) (zgm Col.t cs xs hl rfl) rfl (fun p=>.bl (mayB p.1 p.2)) (fun p hp=>by
     have e:=ztb h n p.1 (hb'.2 _ (zda hp).2)
     simp [evE,evEs,glo,e])
   rw [zan rfl (by simp [evE,view,Sl.get,isiT,truT,bltT,cmpT,neI,hx])]
   rw [ret0 (t:=.bl (rowB cs (.tup xs))) rfl (by rw [zbl,hc,Option.bind_some,all_map];simp [rowB,hx])]
   rfl
  ·have hx':((xs.length:Int)==(cs.length:Int))=false:=by simp;omega
   rw [za0 (t:=.bl false) rfl (by simp [evE,view,Sl.get,isiT,truT,bltT,cmpT,neI,hx']) rfl (by simp [evE])]
   simp [zaa,rowB,hx]
 | _ =>
  rw [za0 (t:=.bl false) rfl (by simp [evE,view,Sl.get,isiT,truT]) rfl (by simp [evE])]
  rfl
end Ev.K04
end
end
end
noncomputable section
noncomputable section
noncomputable section
namespace Ev.K04
open PySem
theorem zi6 {α:Type} {enc:α->T} {f:T->List Sl->Option Out} {I:List Sl->Prop} (b:α->Bool) (r:T):∀ (l:List α) (τ:List Sl),(∀ a∈l,∀ τ,I τ->b a=false->f (enc a) τ=some (.rt r))->(∀ a∈l,∀ τ,I τ->b a=true->∃ τ',f (enc a) τ=some (.nx τ')/\I τ')->I τ ->
  (l.all b=true->∃ τ',loopM f (l.map enc) τ=some (.nx τ')/\I τ')/\(l.all b=false->loopM f (l.map enc) τ=some (.rt r))
 | [],τ,_,_,h=>⟨fun _=>⟨τ,rfl,h⟩,fun z=>by cases z⟩
 | a::l,τ,hit,miss,h=>by
  rw [zyh,loopM,List.all_cons]
  cases hb:b a with
  | false =>
   rw [hit a (.head _) τ h hb]
   exact ⟨fun z=>absurd z (by simp),fun _=>rfl⟩
  | true =>
   obtain ⟨τ',h1,h2⟩:=miss a (.head _) τ h hb
   rw [h1]
   have ih:=zi6 b r l τ' (fun a ha=>hit a (.tail _ ha)) (fun a ha=>miss a (.tail _ ha)) h2
   exact ⟨fun z=>ih.1 z,fun z=>ih.2 z⟩
noncomputable def lrbody:List S:=[.ite (.land (.lnot (.tru (.call "_law_is_worth" [.var 3,.idx (.var 2) (.cst (.int 1))]))) (.lor (.cmp .notN (.var 3) (.cst .non)) (.lnot (.tru (.idx (.var 2) (.cst (.int 2))))))) [.ret (.cst (.bl false))] []]
theorem zkt {k:Str}:worthT k .non=false:=by unfold worthT;split<;>rfl
theorem zq5 (c:Col) (t:T):mayB c t=(worthT c.k t||(nonB t&&c.g)):=by
 unfold mayB
 cases hn:nonB t with
 | true =>
  have:t=.non:=by cases t<;>first | rfl | cases hn
  subst this
  rw [zkt];simp
 | false=>simp
theorem zi5 {P:Pr} (h:P.fn "_law_is_row"=some zbf) (hw:P.fn "_law_is_worth"=some zak) (hf:P.fn "_law_from"=some zbg) (n:Nat) (nm key rules:T) (cs:List Col) (hl:cs.length<=4) (hk:∀ c∈cs,c.k="whole"\/c.k="text") {t:T} (hb:bd t=true):run P (n+3) "_law_is_row" [tabT nm cs key rules,t]=some (.bl (rowB cs t)):=by
 rw [zag h rfl]
 show zaa (evSs (glo P (run P (n+2))) zbf.body [.val (tabT nm cs key rules),.val t,.no,.no])=_
 unfold zbf
 dsimp only
 cases t with
 | tup xs =>
  have hb':=zdm hb
  by_cases hx:xs.length=cs.length
  ·rw [zan rfl (by simp [evE,view,Sl.get,isiT,truT,bltT,cmpT,neI,hx,idxT,tabT,getI1])]
   have step:∀ p∈cs.zip xs,∀ s2 s3:Sl,evE (glo P (run P (n+2))) (.land (.lnot (.tru (.call "_law_is_worth" [.var 3,.idx (.var 2) (.cst (.int 1))]))) (.lor (.cmp .notN (.var 3) (.cst .non)) (.lnot (.tru (.idx (.var 2) (.cst (.int 2))))))) (view [.val (tabT nm cs key rules),.val (.tup xs),.val p.1.t,.val p.2])=some (.bl (!mayB p.1 p.2)):=fun p hp s2 s3=>by
    have e:(glo P (run P (n+2))).call "_law_is_worth" [p.2,.str p.1.k]=some (.bl (worthT p.1.k p.2)):=zkd hw hf n (hk _ (zda hp).1) (hb'.2 _ (zda hp).2)
    have i1:idxT p.1.t (.int 1)=some (.str p.1.k):=by rw [Col.t,idxT,getI1]
    have i2:idxT p.1.t (.int 2)=some (.bl p.1.g):=by rw [Col.t,idxT,getI2]
    rw [zq5]
    simp only [evE,evEs,view,Sl.get,List.map_cons,List.map_nil,List.getElem?_cons_succ,List.getElem?_cons_zero,Option.join_some,Option.bind_some,Option.map_some,i1,i2,e,truT,zwb]
    cases worthT p.1.k p.2<;>cases nonB p.2<;>cases p.1.g<;>rfl
   have L:=zi6 (enc:=fun p:Col × T=>T.tup [p.1.t,p.2]) (f:=fun x τ=>(bndS [2,3] x τ).bind fun τ'=>evSs (glo P (run P (n+2))) lrbody τ') (I:=fun τ=>∃ s2 s3,τ=[Sl.val (tabT nm cs key rules),.val (.tup xs),s2,s3]) (fun p=>mayB p.1 p.2) (.bl false) (cs.zip xs) [.val (tabT nm cs key rules),.val (.tup xs),.no,.no]
    (fun p hp τ ⟨s2,s3,hτ⟩ hm=>by
     subst hτ
     show evSs (glo P (run P (n+2))) lrbody [.val (tabT nm cs key rules),.val (.tup xs),.val p.1.t,.val p.2]=_
     exact za0 (t:=.bl false) rfl (by rw [step p hp .no .no,hm];rfl) rfl (by simp [evE]))
    (fun p hp τ ⟨s2,s3,hτ⟩ hm=>by
     subst hτ
     refine ⟨[.val (tabT nm cs key rules),.val (.tup xs),.val p.1.t,.val p.2],?_,_,_,rfl⟩
     show evSs (glo P (run P (n+2))) lrbody [.val (tabT nm cs key rules),.val (.tup xs),.val p.1.t,.val p.2]=_
     rw [lrbody,zan rfl (by rw [step p hp .no .no,hm];rfl),evSs]) ⟨_,_,rfl⟩
   have hit:items .zip [.tup (cs.map Col.t),.tup xs]=some ((cs.zip xs).map fun p=>.tup [p.1.t,p.2]):=by
    have hz:(cs.zip xs).length<=16777216:=by rw [List.length_zip];omega
    simp only [items]
    rw [show seqOf (.tup (cs.map Col.t))=some (cs.map Col.t) from rfl,show seqOf (.tup xs)=some xs from rfl]
    simp only [Option.bind_some,zdr]
    try rw [if_pos (show _<=SZ from hz)]
   have hr:rowB cs (.tup xs)=(cs.zip xs).all fun p=>mayB p.1 p.2:=by simp [rowB,hx]
   rw [hr]
   show zaa (evSs (glo P (run P (n+2))) [.loop [2,3] .zip [.idx (.var 0) (.cst (.int 1)),.var 1] lrbody,.ret (.cst (.bl true))] [.val (tabT nm cs key rules),.val (.tup xs),.no,.no])=_
   cases ha:(cs.zip xs).all fun p=>mayB p.1 p.2 with
   | true =>
    obtain ⟨τ',e1,s2,s3,rfl⟩:=L.1 ha
    rw [zao (zcd (xs:=[.tup (cs.map Col.t),.tup xs]) (τ0:=[.val (tabT nm cs key rules),.val (.tup xs),.no,.no]) rfl (by simp [evEs,evE,view,Sl.get,idxT,tabT,getI1]) hit e1),ret0 (t:=.bl true) rfl (by simp [evE])]
    rfl
   | false =>
    have e1:=L.2 ha
    rw [zdb (zcd (xs:=[.tup (cs.map Col.t),.tup xs]) (τ0:=[.val (tabT nm cs key rules),.val (.tup xs),.no,.no]) rfl (by simp [evEs,evE,view,Sl.get,idxT,tabT,getI1]) hit e1)]
    rfl
  ·have hx':((xs.length:Int)==(cs.length:Int))=false:=by simp;omega
   rw [za0 (t:=.bl false) rfl (by simp [evE,view,Sl.get,isiT,truT,bltT,cmpT,neI,hx',idxT,tabT,getI1]) rfl (by simp [evE])]
   simp [zaa,rowB,hx]
 | _ =>
  rw [za0 (t:=.bl false) rfl (by simp [evE,view,Sl.get,isiT,truT]) rfl (by simp [evE])]
  rfl
end Ev.K04
end
end
end
noncomputable section
noncomputable section
noncomputable section
namespace Ev.K04
open PySem Ev.K03
variable {t:T} {b:Tb}
theorem zib {α β:Type}:∀ {l:List α} {m:List β},m.length=l.length->(l.zip m).map (·.1)=l
 | [],[],_=>rfl
 | a::l,b::m,h=>by rw [List.zip_cons_cons,List.map_cons,zib (by simpa using h)]
theorem zh9 {α β:Type}:∀ {l:List α} {m:List β},m.length=l.length->(l.zip m).map (·.2)=m
 | [],[],_=>rfl
 | a::l,b::m,h=>by rw [List.zip_cons_cons,List.map_cons,zh9 (by simpa using h)]
theorem zmk {c:Col} (h:mayB c t=true):Wok c t/\(c.g=false->t≠.non):=by
 rw [zq5,Bool.or_eq_true,zyd] at h
 rcases h with h | ⟨h1,h2⟩
 ·unfold worthT at h
  split at h
  ·rename_i hk
   cases t with
   | str x=>exact ⟨.inr (.inl ⟨hk,x,rfl⟩),fun _ z=>by cases z⟩
   | _=>cases h
  ·rename_i hk
   cases t with
   | int i=>exact ⟨.inr (.inr ⟨by simpa using hk,i,rfl⟩),fun _ z=>by cases z⟩
   | _=>cases h
 ·cases t with
  | non=>exact ⟨.inl rfl,fun z=>by rw [z] at h2;cases h2⟩
  | _=>cases h1
noncomputable def keyX (b:Tb):T->List Kt
 | .tup xs=>keyR b (b.cs.zip xs)
 | _=>[]
theorem zuz (h:rowB b.cs t=true):∃ ps,RowOk b ps/\t=rowT ps/\keyX b t=keyR b ps:=by
 cases t with
 | tup xs =>
  rw [rowB,zyd,zyr] at h
  have ha:=oml h.2
  exact ⟨b.cs.zip xs,⟨zib h.1,fun p hp=>(zmk (ha p hp)).1,fun p hp=>(zmk (ha p hp)).2⟩,by rw [rowT,zh9 h.1],rfl⟩
 | _=>cases h
theorem zhf {b:Tb}:∀ {xs:List T},xs.all (rowB b.cs)=true->∃ L:List (List (Col × T)),xs=L.map rowT/\(∀ ps∈L,RowOk b ps)/\xs.map (keyX b)=L.map (keyR b)
 | [],_=>⟨[],rfl,fun _ h=>(nomatch h),rfl⟩
 | x::xs,h=>by
  rw [List.all_cons,zyd] at h
  obtain ⟨ps,h1,rfl,h3⟩:=zuz h.1
  obtain ⟨L,rfl,h4,h5⟩:=zhf h.2
  exact ⟨ps::L,rfl,fun q hq=>(omc hq).elim (fun e=>by rw [e];exact h1) (h4 q),by rw [zyh,zyh,h3,h5]⟩
noncomputable def rowsB (b:Tb):T->Bool
 | .tup xs=>xs.all (rowB b.cs)&&asc (xs.map (keyX b))
 | _=>false
theorem zg4 {P:Pr} (h:P.fn "worths_of"=some zbd) (n:Nat) (hb:b.ok) {ps:List (Col × T)} (hp:RowOk b ps):run P (n+1) "worths_of" [b.t,rowT ps,.tup (b.key.map .str)]=some (tkT (keyR b ps)):=by
 have hl:=hp.len hb
 have hnd:=hp.nd hb
 obtain ⟨qs,q1,q0,q2,q3⟩:=zfj (ps:=ps) (ks:=b.key) fun x hx=>by
  obtain ⟨c,hc,e⟩:=hb.inn x hx
  obtain ⟨p,hp',rfl⟩:=hp.col hc
  exact ⟨p,hp',e⟩
 have ek:keyR b ps=qs.map fun q=>kk q.2:=by
  unfold keyR
  rw [<- q0,zzk]
  exact List.map_congr_left fun q hq=>by show kk (val ps q.1.n)=kk q.2;rw [zf1 (q2 q hq) hnd]
 have et:tkT (keyR b ps)=.tup (qs.map (·.2)):=by
  unfold tkT
  rw [ek,zzk]
  exact zzf T.tup (List.map_congr_left fun q hq=>(zwf (hp.wk q (q2 q hq))).2)
 rw [et,hp.tab,<- q1]
 exact zju h n hl hnd _ _ _ q2 (by have:=hb.k1;omega)
theorem zkq:∀ l:List (List Kt),((l.zip (l.drop 1)).all fun p=>lexL p.1 p.2)=asc l
 | []=>rfl
 | [x]=>rfl
 | x::y::r=>by
  have:=zkq (y::r)
  rw [asc,<- this]
  rfl
theorem zti (hb:b.ok) (ps:List (Col × T)):keyR b ps≠[]:=by
 unfold keyR
 intro h
 exact hb.kn (List.map_eq_nil_iff.mp h)
theorem zey (hb:b.ok) {L:List (List (Col × T))} (hL:∀ ps∈L,RowOk b ps):∀ x∈L.map (keyR b),x≠[]/\∀ y∈L.map (keyR b),Ev.alike x y=true:=fun x hx=>by
 obtain ⟨ps,hp,rfl⟩:=omm hx
 refine ⟨zti hb ps,fun y hy=>?_⟩
 obtain ⟨qs,hq,rfl⟩:=omm hy
 exact zcm hb (hL ps hp) (hL qs hq)
theorem zun (b:Tb):b.t=tabT (.str b.nm) b.cs (.tup (b.key.map .str)) (.tup (b.rs.map Rl.t)):=rfl
theorem zml {P:Pr} (h:P.fn "_law_are_rows"=some zbb) (hr:P.fn "_law_is_row"=some zbf) (hw:P.fn "_law_is_worth"=some zak) (hf:P.fn "_law_from"=some zbg) (hn:P.fn "_law_names"=some za6) (hk:P.fn "_law_key"=some zbk) (n:Nat) (hb:b.ok) (bt:bd t=true)
  (h4:∀ xs,t=.tup xs->(dedL (xs.map (keyX b))).length<=4):run P (n+4) "_law_are_rows" [b.t,t]=some (.bl (rowsB b t)):=by
 rw [zag h rfl]
 show zaa (evSs (glo P (run P (n+3))) zbb.body [.val b.t,.val t,.no])=_
 unfold zbb
 dsimp only
 cases t with
 | tup xs =>
  have hb':=zdm bt
  have h4:=h4 xs rfl
  have hz:xs.length<=16777216:=by omega
  rw [zan rfl (by simp [evE,view,Sl.get,isiT,truT])]
  have e1:evE (glo P (run P (n+3))) (.comp (.var 0) 1 .plain [.var 1] (some (.lnot (.tru (.call "_law_is_row" [.var 1,.var 0]))))) (view [.val b.t,.val (.tup xs),.no])=some (.lst (xs.filterMap fun a=>if !rowB b.cs a then some a else none)) :=
   znn (enc:=fun t:T=>t) (l:=xs) (xs:=[.tup xs]) (its:=xs) (by simp [evEs,evE,view,Sl.get]) (by simp [itemsC,items,hz]) (by simp) (fun a=>!rowB b.cs a) (fun a=>a) (fun a ha=>by
    have e:(glo P (run P (n+3))).call "_law_is_row" [b.t,a]=some (.bl (rowB b.cs a)):=zi5 hr hw hf n _ _ _ b.cs hb.cl hb.kk (hb'.2 a ha)
    simp [evE,evEs,view,Sl.get,e,truT]) (fun a ha=>by simp [evE])
  have e2:evE (glo P (run P (n+3))) (.cmp .ne (.comp (.var 0) 1 .plain [.var 1] (some (.lnot (.tru (.call "_law_is_row" [.var 1,.var 0]))))) (.lst [])) (view [.val b.t,.val (.tup xs),.no])=some (.bl (!xs.all (rowB b.cs))):=by
   rw [evE,e1,zye]
   have:=eqL0 (fun a=>!rowB b.cs a) (fun a:T=>a) xs
   simp only [Bool.not_not] at this
   unfold eqC at this
   split at this
   ·rename_i hd
    simp only [evE,evEs,List.length_nil,Option.map_some,Nat.zero_le,if_true,Option.bind_some,cmpT]
    unfold neC
    rw [if_pos hd]
    injection this with this
    injection this with this
    rw [this]
   ·cases this
  cases ha:xs.all (rowB b.cs) with
  | false =>
   rw [za0 (t:=.bl false) rfl (by rw [e2,ha];rfl) rfl (by simp [evE])]
   simp [zaa,rowsB,ha]
  | true =>
   rw [zan rfl (by rw [e2,ha];rfl)]
   obtain ⟨L,rfl,hL,eK⟩:=zhf ha
   have e3:evE (glo P (run P (n+3))) (.comp (.call "_law_key" [.var 1,.var 0]) 1 .plain [.var 1] none) (view [.val b.t,.val (.tup (L.map rowT)),.no])=some (.lst (L.map fun ps=>tkT (keyR b ps))) :=
    zc5 (enc:=rowT) (l:=L) (xs:=[.tup (L.map rowT)]) (by simp [evEs,evE,view,Sl.get]) (by simp [itemsC,items] at hz ⊢;exact hz) rfl (fun ps=>tkT (keyR b ps)) (fun ps hp=>by
     have e:(glo P (run P (n+3))).call "_law_key" [b.t,rowT ps]=some (tkT (keyR b ps)):=zjb hn hk (n+1) hb (hL ps hp)
     simp [evE,evEs,view,Sl.get,e])
   have em:(L.map fun ps=>tkT (keyR b ps))=(L.map (keyR b)).map tkT:=by rw [zzk];rfl
   rw [zao (zbx (τ0:=[.val b.t,.val (.tup (L.map rowT)),.no]) (t:=.lst ((L.map (keyR b)).map tkT)) (τ':=[.val b.t,.val (.tup (L.map rowT)),.val (.lst ((L.map (keyR b)).map tkT))]) rfl (by rw [e3,em]) rfl)]
   rw [eK] at h4
   have se:=zry h4 (zey hb hL)
   rw [ret0 (t:=.bl (asc (L.map (keyR b)))) rfl (by
    rw [evE,zbl]
    simp only [evE,view,Sl.get,List.map_cons,List.map_nil,List.getElem?_cons_succ,List.getElem?_cons_zero,Option.join_some,Option.bind_some]
    exact se)]
   simp [zaa,rowsB,ha,eK]
 | _ =>
  rw [za0 (t:=.bl false) rfl (by simp [evE,view,Sl.get,isiT,truT]) rfl (by simp [evE])]
  rfl
theorem zic:∀ K M:List (List Kt),zipT (K.map tkT) (M.map tkT)=(K.zip M).map fun p=>.tup [tkT p.1,tkT p.2]
 | [],_=>by simp [zipT]
 | _::_,[]=>by simp [zipT]
 | k::K,m::M=>by rw [zyh,zyh,zipT,zic K M];rfl
theorem zlv {P:Pr} (h3:Prog3 P) (h:P.fn "are_rows"=some zbo) (hwo:P.fn "worths_of"=some zbd) (n:Nat) (hb:b.ok) (bt:bd t=true):run P (n+5) "are_rows" [b.t,t]=some (.bl (rowsB b t)):=by
 rw [zag h rfl]
 show zaa (evSs (glo P (run P (n+4))) zbo.body [.val b.t,.val t,.no])=_
 unfold zbo
 dsimp only
 cases t with
 | tup xs =>
  have hb':=zdm bt
  have hz:xs.length<=16777216:=by omega
  have e1:evE (glo P (run P (n+4))) (.comp (.call "is_row" [.var 1,.var 0]) 1 .plain [.var 1] none) (view [.val b.t,.val (.tup xs),.no])=some (.lst (xs.map fun a=>.bl (rowB b.cs a))) :=
   zc5 (enc:=fun t:T=>t) (l:=xs) (xs:=[.tup xs]) (its:=xs) (by simp [evEs,evE,view,Sl.get]) (by simp [itemsC,items,hz]) (by simp) (fun a=>.bl (rowB b.cs a)) (fun a ha=>by
    have e:(glo P (run P (n+4))).call "is_row" [b.t,a]=some (.bl (rowB b.cs a)):=zez h3 n _ _ _ b.cs hb.cl (hb'.2 a ha)
    simp [evE,evEs,view,Sl.get,e])
  have e2:evE (glo P (run P (n+4))) (.lor (.lnot (.tru (.isi (.var 1) .ttup))) (.lnot (.tru (.blt .all (.comp (.call "is_row" [.var 1,.var 0]) 1 .plain [.var 1] none))))) (view [.val b.t,.val (.tup xs),.no])=some (.bl (!xs.all (rowB b.cs))):=by
   have a1:evE (glo P (run P (n+4))) (.lnot (.tru (.isi (.var 1) .ttup))) (view [.val b.t,.val (.tup xs),.no])=some (.bl false):=by simp [evE,view,Sl.get,isiT,truT]
   rw [evE,a1,zye]
   show evE (glo P (run P (n+4))) (.lnot (.tru (.blt .all (.comp (.call "is_row" [.var 1,.var 0]) 1 .plain [.var 1] none)))) (view [.val b.t,.val (.tup xs),.no])=_
   rw [evE,evE,zbl,e1,zye,all_map]
   rfl
  cases ha:xs.all (rowB b.cs) with
  | false =>
   rw [za0 (t:=.bl false) rfl (by rw [e2,ha];rfl) rfl (by simp [evE])]
   simp [zaa,rowsB,ha]
  | true =>
   rw [zan rfl (by rw [e2,ha];rfl)]
   obtain ⟨L,rfl,hL,eK⟩:=zhf ha
   have i2:idxT b.t (.int 2)=some (.tup (b.key.map .str)):=by rw [Tb.t,bareT,idxT,getI2]
   have e3:evE (glo P (run P (n+4))) (.comp (.call "worths_of" [.var 1,.var 0,.idx (.var 1) (.cst (.int 2))]) 1 .plain [.var 1] none) (view [.val b.t,.val (.tup (L.map rowT)),.no])=some (.lst (L.map fun ps=>tkT (keyR b ps))) :=
    zc5 (enc:=rowT) (l:=L) (xs:=[.tup (L.map rowT)]) (by simp [evEs,evE,view,Sl.get]) (by simp [itemsC,items] at hz ⊢;exact hz) rfl (fun ps=>tkT (keyR b ps)) (fun ps hp=>by
     have e:(glo P (run P (n+4))).call "worths_of" [b.t,rowT ps,.tup (b.key.map .str)]=some (tkT (keyR b ps)):=zg4 hwo (n+3) hb (hL ps hp)
     simp [evE,evEs,view,Sl.get,i2,e])
   have em:(L.map fun ps=>tkT (keyR b ps))=(L.map (keyR b)).map tkT:=by rw [zzk];rfl
   rw [zao (zbx (τ0:=[.val b.t,.val (.tup (L.map rowT)),.no]) (t:=.lst ((L.map (keyR b)).map tkT)) (τ':=[.val b.t,.val (.tup (L.map rowT)),.val (.lst ((L.map (keyR b)).map tkT))]) rfl (by rw [e3,em]) rfl)]
   have al:=zey hb hL
   have hzL:(L.map (keyR b)).length<=16777216:=by simpa using hz
   generalize L.map (keyR b)=K at al hzL eK ⊢
   have ec:cut (K.map tkT) (some 1) none=(K.drop 1).map tkT:=by
    unfold cut clip
    cases K with
    | nil=>rfl
    | cons k K=>simp [List.take_of_length_le]
   have e4:evE (glo P (run P (n+4))) (.comp (.cmp .lt (.var 0) (.var 1)) 2 .zip [.var 2,.sli (.var 2) (some (.cst (.int 1))) none] none) (view [.val b.t,.val (.tup (L.map rowT)),.val (.lst (K.map tkT))])=some (.lst ((K.zip (K.drop 1)).map fun p=>.bl (lexL p.1 p.2))) :=
    zft (e1:=fun p:List Kt × List Kt=>tkT p.1) (e2:=fun p=>tkT p.2) (l:=K.zip (K.drop 1)) (xs:=[.lst (K.map tkT),.lst ((K.drop 1).map tkT)]) (its:=(K.zip (K.drop 1)).map fun p=>.tup [tkT p.1,tkT p.2]) (by
      simp only [evEs,evE,evO,asI,view,Sl.get,List.map_cons,List.map_nil,List.getElem?_cons_succ,List.getElem?_cons_zero,Option.join_some,Option.bind_some,Option.map_some,sliT,ec]) (by
      have hz2:(K.zip (K.drop 1)).length<=16777216:=by rw [List.length_zip];omega
      simp only [itemsC,items]
      rw [show seqOf (.lst (K.map tkT))=some (K.map tkT) from rfl,show seqOf (.lst ((K.drop 1).map tkT))=some ((K.drop 1).map tkT) from rfl]
      simp only [Option.bind_some]
      rw [zic,zyj,if_pos (show _<=SZ from hz2)]) rfl (fun p=>.bl (lexL p.1 p.2)) (fun p hp=>by
      have hm:=List.of_mem_zip (a:=p.1) (b:=p.2) hp
      have:=ztc ((al p.1 hm.1).2 p.2 (List.mem_of_mem_drop hm.2))
      simp only [evE,List.getElem?_cons_succ,List.getElem?_cons_zero,Option.join_some,Option.bind_some]
      exact this)
   rw [ret0 (t:=.bl (asc K)) rfl (by rw [zbl,e4,zye,all_map,zkq])]
   simp [zaa,rowsB,ha,eK]
 | _ =>
  rw [za0 (t:=.bl false) rfl (by simp [evE,view,Sl.get,isiT,truT]) rfl (by simp [evE])]
  rfl
end Ev.K04
end
end
end
noncomputable section
noncomputable section
noncomputable section
namespace Ev.K04
open PySem
variable {xs:List T} {t:T} {P:Pr}
theorem eqI (a b:Int):eqC (.int a) (.int b)=some (.bl (a==b)):=rfl
theorem zn1:∀ {xs:List T},(∀ x∈xs,bd x=true)->bds xs=true
 | [],_=>rfl
 | x::xs,h=>by rw [bds,h x zys,zn1 fun y hy=>h y (zyn _ hy)];rfl
theorem zfm (n:Nat) (hn:xs.length=n+1) (i:Int):∃ c∈xs,getI xs (i%((n+1:Nat):Int))=some c:=by
 obtain ⟨c,hc,e⟩:=zau (enc:=fun t:T=>t) (cs:=xs) (by intro z;rw [z] at hn;simp at hn) i
 rw [List.map_id',hn] at e
 exact ⟨c,hc,e⟩
noncomputable def few (t:T):Prop:=∀ xs,t=.tup xs->∃ D:List T,D.length<=4/\∀ x∈xs,x∈D
noncomputable def fw (t:T):Prop:=bd t=true/\few t/\∀ xs,t=.tup xs->∀ x∈xs,few x
theorem zfn (h:xs.length<=4):few (.tup xs):=fun ys e=>by cases e;exact ⟨xs,h,fun x hx=>hx⟩
theorem fw_flat (h:bd t=true) (ht:isiT t .ttup=false):fw t:=⟨h,(fun xs e=>by rw [e] at ht;cases ht),(fun xs e=>by rw [e] at ht;cases ht)⟩
noncomputable def shortT:T->Bool
 | .tup ys=>decide (ys.length<=4)
 | _=>true
theorem znc:∀ {t:T},shortT t=true->few t
 | .tup ys,h=>zfn (zy8 h)
 | .non,_=>fun _ e=>by cases e
 | .bl _,_=>fun _ e=>by cases e
 | .int _,_=>fun _ e=>by cases e
 | .str _,_=>fun _ e=>by cases e
 | .lst _,_=>fun _ e=>by cases e
 | .dk _ _,_=>fun _ e=>by cases e
 | .dt _ _,_=>fun _ e=>by cases e
noncomputable def smT:T->Bool
 | .tup xs=>decide (xs.length<=4)&&xs.all shortT
 | _=>true
theorem fw_small (h:bd t=true) (hs:smT t=true):fw t:=by
 cases t with
 | tup xs =>
  rw [smT,zyd,zyr] at hs
  exact ⟨h,zfn hs.1,fun ys e x hx=>by cases e;exact znc (oml hs.2 x hx)⟩
 | _=>exact fw_flat h rfl
theorem zq9 {G:Glo} {c:E} {a b ss:List S} {τ:List Sl} (h0:frzAt (vars c) τ=τ) (h1:evE G c (view τ)=some (.bl true)) (h2:evSs G a τ=some (.rt t)):evSs G (.ite c a b::ss) τ=some (.rt t) :=
 zdb (by rw [evS,h0,h1];exact h2)
mutual
noncomputable def wg:T->Bool
 | .str x=>ascii x&&decide (x.length<=1000)
 | .int i=>decide (i∈rowI)
 | .non=>true
 | .tup xs=>decide (xs.length<=4)&&wgs xs
 | _=>false
noncomputable def wgs:List T->Bool
 | []=>true
 | x::xs=>wg x&&wgs xs
end
theorem zo1:∀ i∈rowI,(decide (i.natAbs.log2<1920)&&bd (T.str (toString i:String)))=true:=by decide +kernel
mutual
theorem zkx:∀ {t:T},wg t=true->bd t=true
 | .str x,h=>h
 | .int i,_=>rfl
 | .tup xs,h=>by
  rw [wg,zyd,zyr] at h
  rw [bd,zkv h.2,zyw (by omega)];rfl
 | .non,h=>rfl
 | .bl _,h=>by cases h
 | .lst _,h=>by cases h
 | .dk _ _,h=>by cases h
 | .dt _ _,h=>by cases h
theorem zkv:∀ {xs:List T},wgs xs=true->bds xs=true
 | [],_=>rfl
 | x::xs,h=>by
  rw [wgs,zyd] at h
  rw [bds,zkx h.1,zkv h.2];rfl
end
theorem wgs_mem:∀ {xs:List T} {x:T},wgs xs=true->x∈xs->wg x=true
 | y::xs,x,h,hx=>by
  rw [wgs,zyd] at h
  rcases omc hx with rfl | hx
  ·exact h.1
  ·exact wgs_mem h.2 hx
theorem wgs_of:∀ {xs:List T},(∀ x∈xs,wg x=true)->wgs xs=true
 | [],_=>rfl
 | x::xs,h=>by rw [wgs,h x zys,wgs_of fun y hy=>h y (zyn _ hy)];rfl
theorem zkw (hl:xs.length<=4) (h:∀ x∈xs,wg x=true):wg (.tup xs)=true:=by rw [wg,wgs_of h,zyw hl];rfl
theorem zie:∀ {t:T},wg t=true->few t
 | .tup xs,h=>by rw [wg,zyd,zyr] at h;exact zfn h.1
 | .non,_=>fun _ e=>by cases e
 | .bl _,_=>fun _ e=>by cases e
 | .int _,_=>fun _ e=>by cases e
 | .str _,_=>fun _ e=>by cases e
 | .lst _,_=>fun _ e=>by cases e
 | .dk _ _,_=>fun _ e=>by cases e
 | .dt _ _,_=>fun _ e=>by cases e
theorem zrc {ys:List T} (hl:xs.length<=4) (hw:wgs xs=true) (hy:∀ y∈ys,y∈xs) (hn:ys.length<=1000):fw (.tup ys):=by
 refine ⟨?_,(fun zs e=>by cases e;exact ⟨xs,hl,hy⟩),(fun zs e x hx=>by cases e;exact zie (wgs_mem hw (hy x hx)))⟩
 rw [bd,zyw hn,Bool.true_and]
 exact zn1 fun y h=>zkx (wgs_mem hw (hy y h))
theorem zxc (h:wg t=true):fw t:=by
 refine ⟨zkx h,zie h,fun xs e x hx=>?_⟩
 subst e
 rw [wg,zyd] at h
 exact zie (wgs_mem h.2 hx)
theorem zmu {G:Glo} {c:E} {a b ss:List S} {τ τ':List Sl} (h0:frzAt (vars c) τ=τ) (h1:evE G c (view τ)=some (.bl true)) (h2:evSs G a τ=some (.nx τ')):evSs G (.ite c a b::ss) τ=evSs G ss τ' :=
 zao (by rw [evS,h0,h1];exact h2)
theorem zto (x:T):isiT x .ttup=true/\(∃ xs,x=.tup xs)\/isiT x .ttup=false:=by
 cases x with
 | tup xs=>exact .inl ⟨rfl,xs,rfl⟩
 | _=>exact .inr rfl
theorem tupE (a:T) (r:List T):eqC (.tup (a::r)) (.tup [])=some (.bl false):=by
 unfold eqC
 rw [if_pos (by simp [dpP,dpPs])]
 rfl
theorem tupE0:eqC (.tup []) (.tup [])=some (.bl true):=by
 unfold eqC
 rw [if_pos (by simp [dpP,dpPs])]
 rfl
mutual
noncomputable def dep:T->Nat
 | .tup xs=>depS xs+1
 | _=>0
noncomputable def depS:List T->Nat
 | []=>0
 | x::xs=>max (dep x) (depS xs)
end
theorem zfr {d:Nat}:∀ {xs:List T},(∀ x∈xs,dep x<=d)->depS xs<=d
 | [],_=>zy9 _
 | x::xs,h=>by
  have h1:=h x zys
  have h2:=zfr fun y hy=>h y (zyn _ hy)
  rw [depS];omega
noncomputable def zax:Fd:=⟨2,5,[.asg 2 (.lst [.var 1]),
  .ite (.tru (.isi (.var 0) .ttup)) [.loop [3,4] .enum [.var 0] [.asg 2 (.bin .add (.var 2) (.call "_law_places_in" [.var 4,.bin .add (.var 1) (.tup [.var 3])]))]] [],
  .ret (.var 2)]⟩
noncomputable def zbj:Fd:=⟨2,3,[.ite (.tru (.isi (.var 0) .ttup)) [.asg 2 (.lst [.blt .toList (.var 0),.blt .toList (.var 0),.bin .add (.var 0) (.sli (.var 0) none (some (.cst (.int 1))))]),
  .ret (.idx (.bin .add (.var 2) (.lst [.sli (.var 0) (some (.cst (.int 1))) none,.lst [.var 0]])) (.bin .mod (.var 1) (.cst (.int 5))))] [],
  .ite (.tru (.isi (.var 0) .tbool)) [.ret (.idx (.lst [.blt .toInt (.var 0),.cst .non,.blt .toStr (.var 0)]) (.bin .mod (.var 1) (.cst (.int 3))))] [],
  .ite (.tru (.isi (.var 0) .tint)) [.asg 2 (.lst [.cst (.bl true),.cst .non,.blt .toStr (.var 0),.tup [.var 0]]),
  .ret (.idx (.bin .add (.var 2) (.lst [.bin .sub (.neg (.cst (.int 1))) (.var 0)])) (.bin .mod (.var 1) (.cst (.int 5))))] [],
  .ret (.idx (.lst [.cst .non,.tup [.var 0],.lst [.var 0],.cst (.str ""),.cst (.int 0)]) (.bin .mod (.var 1) (.cst (.int 5))))]⟩
noncomputable def zay:Fd:=⟨2,2,[.ret (.call "_law_otherwise" [.var 0,.bin .fdiv (.var 1) (.cst (.int 4096))])]⟩
noncomputable def zaj:Fd:=⟨3,5,[.ite (.cmp .eq (.var 1) (.tup [])) [.ret (.call ".lam" [.var 0,.var 2])] [],
  .asg 3 (.idx (.var 1) (.cst (.int 0))),
  .asg 4 (.call ".put" [.idx (.var 0) (.var 3),.sli (.var 1) (some (.cst (.int 1))) none,.var 2]),
  .ret (.bin .add (.bin .add (.sli (.var 0) none (some (.var 3))) (.tup [.var 4])) (.sli (.var 0) (some (.bin .add (.var 3) (.cst (.int 1)))) none))]⟩
noncomputable def zaz:Fd:=⟨3,5,[.asg 3 (.call "_law_places_in" [.var 0,.tup []]),
  .asg 4 (.idx (.var 3) (.bin .mod (.var 1) (.blt .len (.var 3)))),
  .ret (.call ".put" [.var 0,.var 4,.var 1])]⟩
structure Bent (P:Pr):Prop where
 places:P.fn "_law_places_in"=some zax
 other:P.fn "_law_otherwise"=some zbj
 lam:P.fn ".lam"=some zay
 put:P.fn ".put"=some zaj
 spoilt:P.fn "_law_spoilt"=some zaz
mutual
noncomputable def paths:T->List (List Nat)
 | .tup xs=>[]::pathsL xs 0
 | _=>[[]]
noncomputable def pathsL:List T->Nat->List (List Nat)
 | [],_=>[]
 | x::xs,i=>(paths x).map (i::·)++pathsL xs (i+1)
end
mutual
noncomputable def sz4:T->Bool
 | .tup xs=>decide (xs.length<=4)&&sz4s xs
 | _=>true
noncomputable def sz4s:List T->Bool
 | []=>true
 | x::xs=>sz4 x&&sz4s xs
end
theorem sz4_mem:∀ {xs:List T} {x:T},sz4s xs=true->x∈xs->sz4 x=true
 | y::xs,x,h,hx=>by
  rw [sz4s,zyd] at h
  rcases omc hx with rfl | hx
  ·exact h.1
  ·exact sz4_mem h.2 hx
theorem dep_mem:∀ {xs:List T} {x:T},x∈xs->dep x<=depS xs
 | y::xs,x,hx=>by
  rw [depS]
  rcases omc hx with rfl | hx
  ·omega
  ·have:=dep_mem hx;omega
noncomputable def wy (w:List Nat):T:=.tup (w.map fun (i:Nat)=>T.int (i:Int))
theorem ziy (h:isiT t .ttup=false):paths t=[[]]:=by
 cases t with
 | tup xs=>cases h
 | _=>rfl
mutual
theorem zl7:∀ (d:Nat) (t:T),dep t<=d->sz4 t=true->(paths t).length<=5 ^ d
 | 0,.tup xs,h,_=>by rw [dep] at h;omega
 | d+1,.tup xs,h,hz=>by
  rw [dep] at h
  rw [sz4,zyd,zyr] at hz
  have:=zdc d xs 0 (by omega) hz.2
  rw [paths,zyt,Nat.pow_succ]
  have h1:xs.length*5 ^ d<=4*5 ^ d:=Nat.mul_le_mul_right _ hz.1
  have h2:0<5 ^ d:=Nat.pow_pos (by decide)
  omega
 | d,.non,_,_=>Nat.pow_pos (by decide)
 | d,.bl _,_,_=>Nat.pow_pos (by decide)
 | d,.int _,_,_=>Nat.pow_pos (by decide)
 | d,.str _,_,_=>Nat.pow_pos (by decide)
 | d,.lst _,_,_=>Nat.pow_pos (by decide)
 | d,.dk _ _,_,_=>Nat.pow_pos (by decide)
 | d,.dt _ _,_,_=>Nat.pow_pos (by decide)
theorem zdc:∀ (d:Nat) (xs:List T) (i:Nat),depS xs<=d->sz4s xs=true->(pathsL xs i).length<=xs.length*5 ^ d
 | d,[],i,_,_=>by rw [pathsL];simp
 | d,x::xs,i,h,hz=>by
  rw [depS] at h
  rw [sz4s,zyd] at hz
  have h1:=zl7 d x (by omega) hz.1
  have h2:=zdc d xs (i+1) (by omega) hz.2
  rw [pathsL,zyx,zyj,zyt,Nat.succ_mul]
  omega
end
noncomputable def pbd:List S:=[.asg 2 (.bin .add (.var 2) (.call "_law_places_in" [.var 4,.bin .add (.var 1) (.tup [.var 3])]))]
theorem zuf (w:List Nat) (i:Nat) (h:w.length<=1000):addT (wy w) (.tup [.int (i:Int)])=some (wy (w++[i])):=by
 unfold wy
 have hz:w.length+1<=16777216:=by omega
 simp [addT,SZ,hz]
theorem addL {a b:List T} (h:a.length+b.length<=16777216):addT (.lst a) (.lst b)=some (.lst (a++b)):=by
 rw [addT,if_pos (show _<=SZ from h)]
theorem zl1 {G:Glo} (t:T) (w:List Nat) (hw:w.length<=1000):∀ (xs:List T) (i:Nat) (acc:List T) (s3 s4:Sl),(∀ x∈xs,∀ j:Nat,G.call "_law_places_in" [x,wy (w++[j])]=some (.lst ((paths x).map fun p=>wy (w++[j]++p))))->acc.length+(pathsL xs i).length<=16777216 ->
  ∃ s3' s4',loopM (fun x τ=>(bndS [3,4] x τ).bind fun τ'=>evSs G pbd τ') (enumT xs i) [.val t,.val (wy w),.own acc,s3,s4]=some (.nx [.val t,.val (wy w),.own (acc++(pathsL xs i).map fun p=>wy (w++p)),s3',s4'])
 | [],i,acc,s3,s4,_,_=>⟨s3,s4,by rw [enumT,loopM,pathsL];simp⟩
 | x::xs,i,acc,s3,s4,hc,hz=>by
  rw [pathsL,zyx,zyj] at hz
  obtain ⟨s3',s4',ih⟩:=zl1 t w hw xs (i+1) (acc++(paths x).map fun p=>wy (w++[i]++p)) (.val (.int (i:Int))) (.val x) (fun y hy=>hc y (zyn _ hy)) (by rw [zyx,zyj];omega)
  refine ⟨s3',s4',?_⟩
  have e:=hc x zys i
  have ea:=zuf w i hw
  have hz':acc.length+((paths x).map fun p=>wy (w++[i]++p)).length<=16777216:=by rw [zyj];omega
  have el:=addL hz'
  rw [enumT,loopM,show ((bndS [3,4] (T.tup [.int (i:Int),x]) [Sl.val t,.val (wy w),.own acc,s3,s4]).bind fun τ'=>evSs G pbd τ')=evSs G pbd [.val t,.val (wy w),.own acc,.val (.int (i:Int)),.val x] from rfl]
  unfold pbd
  rw [zao (zbx (τ0:=[.val t,.val (wy w),.val (.lst acc),.val (.int (i:Int)),.val x]) (t:=.lst (acc++(paths x).map fun p=>wy (w++[i]++p))) (τ':=[.val t,.val (wy w),.own (acc++(paths x).map fun p=>wy (w++[i]++p)),.val (.int (i:Int)),.val x]) rfl (by
   simp only [evE,evEs,view,Sl.get,List.map_cons,List.map_nil,List.getElem?_cons_succ,List.getElem?_cons_zero,Option.join_some,Option.bind_some,List.length_cons,List.length_nil,Nat.zero_add,Nat.reduceLeDiff,if_true,Option.map_some,binT,ea,e,el]) rfl)]
  rw [show evSs G [] _=some (.nx _) from rfl]
  have e2:acc++(pathsL (x::xs) i).map (fun p=>wy (w++p))=(acc++(paths x).map fun p=>wy (w++[i]++p))++(pathsL xs (i+1)).map fun p=>wy (w++p):=by
   rw [pathsL,zzs,zzk,zzp]
   have:((fun p=>wy (w++p))∘fun p=>i::p)=fun p=>wy (w++[i]++p):=by
    funext p
    show wy (w++i::p)=wy (w++[i]++p)
    rw [zzp]
    rfl
   rw [this]
  rw [e2]
  unfold pbd at ih
  exact ih
theorem zj5 (h:Bent P):∀ (d n:Nat) (t:T) (w:List Nat),dep t<=d->d<=10->sz4 t=true->w.length+d<=1000->run P (n+d+1) "_law_places_in" [t,wy w]=some (.lst ((paths t).map fun p=>wy (w++p))):=by
 intro d
 induction d with
 | zero =>
  intro n t w hd _ hz hw
  rw [zag h.places rfl]
  show zaa (evSs (glo P (run P (n+0))) zax.body [.val t,.val (wy w),.no,.no,.no])=_
  have ht:isiT t .ttup=false:=by
   cases t with
   | tup xs=>rw [dep] at hd;omega
   | _=>rfl
  generalize glo P (run P (n+0))=G
  unfold zax
  dsimp only
  rw [zao (zbx (τ0:=[.val t,.val (wy w),.no,.no,.no]) (t:=.lst [wy w]) (τ':=[.val t,.val (wy w),.own [wy w],.no,.no]) rfl (by simp [evE,evEs,view,Sl.get]) rfl)]
  rw [zan rfl (by simp [evE,view,Sl.get,ht,truT])]
  rw [zdb (zd5 (τ0:=[.val t,.val (wy w),.val (.lst [wy w]),.no,.no]) (t:=.lst [wy w]) rfl (by simp [evE,view,Sl.get])),ziy ht]
  simp [zaa]
 | succ d ih =>
  intro n t w hd h10 hz hw
  rw [show n+(d+1)+1=(n+d+1)+1 by omega,zag h.places rfl]
  show zaa (evSs (glo P (run P (n+d+1))) zax.body [.val t,.val (wy w),.no,.no,.no])=_
  generalize hG:glo P (run P (n+d+1))=G
  unfold zax
  dsimp only
  rw [zao (zbx (τ0:=[.val t,.val (wy w),.no,.no,.no]) (t:=.lst [wy w]) (τ':=[.val t,.val (wy w),.own [wy w],.no,.no]) rfl (by simp [evE,evEs,view,Sl.get]) rfl)]
  rcases zto t with ⟨ht,xs,rfl⟩ | ht
  ·rw [dep] at hd
   have hz0:=hz
   rw [sz4,zyd,zyr] at hz
   obtain ⟨s3',s4',eL⟩:=zl1 (G:=G) (.tup xs) w (by omega) xs 0 [wy w] .no .no (fun x hx j=>by
    rw [<- hG]
    exact ih n x (w++[j]) (by have:=dep_mem hx;omega) (by omega) (sz4_mem hz.2 hx) (by rw [zyx,zzt];omega)) (by
    have h1:=zdc d xs 0 (by omega) hz.2
    have h2:xs.length*5 ^ d<=4*5 ^ 9:=Nat.mul_le_mul hz.1 (Nat.pow_le_pow_right (by decide) (by omega))
    have h3:4*5 ^ 9=7812500:=by decide
    rw [zzt]
    omega)
   have eL':evS G (.loop [3,4] .enum [.var 0] pbd) [.val (.tup xs),.val (wy w),.own [wy w],.no,.no]=some (.nx [.val (.tup xs),.val (wy w),.own ([wy w]++(pathsL xs 0).map fun p=>wy (w++p)),s3',s4']) :=
    zcd (τ0:=[.val (.tup xs),.val (wy w),.own [wy w],.no,.no]) (xs:=[.tup xs]) rfl (by simp [evEs,evE,view,Sl.get]) (by simp only [items]) eL
   unfold pbd at eL'
   rw [zmu (τ':=[.val (.tup xs),.val (wy w),.own ([wy w]++(pathsL xs 0).map fun p=>wy (w++p)),s3',s4']) rfl (by simp [evE,view,Sl.get,isiT,truT]) (by rw [zao eL'];rfl)]
   rw [zdb (zd5 (τ0:=[.val (.tup xs),.val (wy w),.val (.lst ([wy w]++(pathsL xs 0).map fun p=>wy (w++p))),s3',s4']) (t:=.lst ([wy w]++(pathsL xs 0).map fun p=>wy (w++p))) rfl (by simp [evE,view,Sl.get]))]
   rw [paths,zyh,zy6]
   rfl
  ·rw [zan rfl (by simp [evE,view,Sl.get,ht,truT])]
   rw [zdb (zd5 (τ0:=[.val t,.val (wy w),.val (.lst [wy w]),.no,.no]) (t:=.lst [wy w]) rfl (by simp [evE,view,Sl.get])),ziy ht]
   simp [zaa]
mutual
theorem zug:∀ {t:T},wg t=true->sz4 t=true
 | .str x,h=>rfl
 | .int i,_=>rfl
 | .tup xs,h=>by
  rw [wg,zyd,zyr] at h
  rw [sz4,zqn h.2,zyw h.1];rfl
 | .non,h=>rfl
 | .bl _,h=>rfl
 | .lst _,h=>rfl
 | .dk _ _,h=>rfl
 | .dt _ _,h=>rfl
theorem zqn:∀ {xs:List T},wgs xs=true->sz4s xs=true
 | [],_=>rfl
 | x::xs,h=>by
  rw [wgs,zyd] at h
  rw [sz4s,zug h.1,zqn h.2];rfl
end
theorem znm (xs:List T) (lo hi:Option Int):(∀ x∈cut xs lo hi,x∈xs)/\(cut xs lo hi).length<=xs.length:=by
 unfold cut
 exact ⟨fun x hx=>List.mem_of_mem_drop (List.mem_of_mem_take hx),by rw [List.length_take,List.length_drop];exact Nat.le_trans (Nat.min_le_right _ _) (Nat.sub_le _ _)⟩
theorem zl9 (h:Bent P) (n:Nat) (hw:wg t=true) (k:Int):∃ r,run P (n+1) "_law_otherwise" [t,.int k]=some r/\fw r:=by
 rw [zag h.other rfl]
 generalize glo P (run P n)=G
 show ∃ r,zaa (evSs G zbj.body [.val t,.val (.int k),.no])=some r/\_
 unfold zbj
 dsimp only
 match t,hw with
 | .tup xs,hw =>
  have hb:=zdm (zkx hw)
  rw [wg,zyd,zyr] at hw
  obtain ⟨m1,l1⟩:=znm xs none (some 1)
  obtain ⟨m2,l2⟩:=znm xs (some 1) none
  have hz:xs.length+(cut xs none (some 1)).length<=16777216:=by omega
  generalize hA:cut xs none (some 1)=A at *
  generalize hB:cut xs (some 1) none=B at *
  obtain ⟨r,hr,e⟩:=zfm (xs:=[.lst xs,.lst xs,.tup (xs++A),.tup B,.lst [.tup xs]]) 4 rfl k
  have hf:fw r:=by
   simp only [List.mem_cons,List.not_mem_nil,or_false] at hr
   rcases hr with rfl | rfl | rfl | rfl | rfl
   ·exact fw_flat rfl rfl
   ·exact fw_flat rfl rfl
   ·exact zrc hw.1 hw.2 (fun y hy=>by
     rcases oma hy with hy | hy
     ·exact hy
     ·exact m1 y hy) (by rw [zyx];omega)
   ·exact zrc hw.1 hw.2 m2 (by omega)
   ·exact fw_flat rfl rfl
  have e':getI [.lst xs,.lst xs,.tup (xs++A),.tup B,.lst [.tup xs]] (k%5)=some r:=e
  refine ⟨r,?_,hf⟩
  have v1:evE G (.lst [.blt .toList (.var 0),.blt .toList (.var 0),.bin .add (.var 0) (.sli (.var 0) none (some (.cst (.int 1))))]) (view [.val (.tup xs),.val (.int k),.no])=some (.lst [.lst xs,.lst xs,.tup (xs++A)]):=by
   simp [evE,evEs,evO,view,Sl.get,bltT,asI,sliT,hA,binT,addT,SZ,hz]
  have v2:evE G (.idx (.bin .add (.var 2) (.lst [.sli (.var 0) (some (.cst (.int 1))) none,.lst [.var 0]])) (.bin .mod (.var 1) (.cst (.int 5)))) (view [.val (.tup xs),.val (.int k),.val (.lst [.lst xs,.lst xs,.tup (xs++A)])])=some r:=by
   simp [evE,evEs,evO,view,Sl.get,asI,sliT,hB,binT,addT,modT,SZ,idxT,e']
  rw [zq9 (t:=r) rfl (by simp [evE,view,Sl.get,isiT,truT]) (by
   rw [zao (zbx (τ0:=[.val (.tup xs),.val (.int k),.no]) (t:=.lst [.lst xs,.lst xs,.tup (xs++A)]) (τ':=[.val (.tup xs),.val (.int k),.own [.lst xs,.lst xs,.tup (xs++A)]]) rfl v1 rfl)]
   exact zdb (zd5 (τ0:=[.val (.tup xs),.val (.int k),.val (.lst [.lst xs,.lst xs,.tup (xs++A)])]) rfl v2))]
  rfl
 | .int i,hw =>
  have hi:=zo1 i (zy8 hw)
  rw [zyd,zyr] at hi
  obtain ⟨r,hr,e⟩:=zfm (xs:=[.bl true,.non,.str (toString i:String),.tup [.int i],.int (-1-i)]) 4 rfl k
  have hf:fw r:=by
   simp only [List.mem_cons,List.not_mem_nil,or_false] at hr
   rcases hr with rfl | rfl | rfl | rfl | rfl
   ·exact fw_flat rfl rfl
   ·exact fw_flat rfl rfl
   ·exact fw_flat hi.2 rfl
   ·exact fw_small rfl rfl
   ·exact fw_flat rfl rfl
  have e':getI [.bl true,.non,.str (toString i:String),.tup [.int i],.int (-1-i)] (k%5)=some r:=e
  refine ⟨r,?_,hf⟩
  have v1:evE G (.lst [.cst (.bl true),.cst .non,.blt .toStr (.var 0),.tup [.var 0]]) (view [.val (.int i),.val (.int k),.no])=some (.lst [.bl true,.non,.str (toString i:String),.tup [.int i]]):=by
   simp [evE,evEs,view,Sl.get,bltT,hi.1]
  have v2:evE G (.idx (.bin .add (.var 2) (.lst [.bin .sub (.neg (.cst (.int 1))) (.var 0)])) (.bin .mod (.var 1) (.cst (.int 5)))) (view [.val (.int i),.val (.int k),.val (.lst [.bl true,.non,.str (toString i:String),.tup [.int i]])])=some r:=by
   refine Eq.trans ?_ e'
   simp [evE,evEs,view,Sl.get,binT,addT,subT,modT,SZ,idxT]
  rw [zan rfl (by simp [evE,view,Sl.get,isiT,truT]),zan rfl (by simp [evE,view,Sl.get,isiT,truT])]
  rw [zq9 (t:=r) rfl (by simp [evE,view,Sl.get,isiT,truT]) (by
   rw [zao (zbx (τ0:=[.val (.int i),.val (.int k),.no]) (t:=.lst [.bl true,.non,.str (toString i:String),.tup [.int i]]) (τ':=[.val (.int i),.val (.int k),.own [.bl true,.non,.str (toString i:String),.tup [.int i]]]) rfl v1 rfl)]
   exact zdb (zd5 (τ0:=[.val (.int i),.val (.int k),.val (.lst [.bl true,.non,.str (toString i:String),.tup [.int i]])]) rfl v2))]
  rfl
 | .str x,hw =>
  obtain ⟨r,hr,e⟩:=zfm (xs:=[.non,.tup [.str x],.lst [.str x],.str "",.int 0]) 4 rfl k
  have hf:fw r:=by
   simp only [List.mem_cons,List.not_mem_nil,or_false] at hr
   rcases hr with rfl | rfl | rfl | rfl | rfl
   ·exact fw_flat rfl rfl
   ·exact fw_small (by rw [bd,bds,show bd (.str x)=true from hw];rfl) rfl
   ·exact fw_flat rfl rfl
   ·exact fw_flat (by decide +kernel) rfl
   ·exact fw_flat rfl rfl
  have e':getI [.non,.tup [.str x],.lst [.str x],.str "",.int 0] (k%5)=some r:=e
  refine ⟨r,?_,hf⟩
  rw [zan rfl (by simp [evE,view,Sl.get,isiT,truT]),zan rfl (by simp [evE,view,Sl.get,isiT,truT]),zan rfl (by simp [evE,view,Sl.get,isiT,truT]),ret0 (t:=r) rfl (by simp [evE,evEs,view,Sl.get,binT,modT,idxT,e'])]
  rfl
 | .non,hw =>
  obtain ⟨r,hr,e⟩:=zfm (xs:=[.non,.tup [.non],.lst [.non],.str "",.int 0]) 4 rfl k
  have hf:fw r:=by
   simp only [List.mem_cons,List.not_mem_nil,or_false] at hr
   rcases hr with rfl | rfl | rfl | rfl | rfl
   ·exact fw_flat rfl rfl
   ·exact fw_small (by decide +kernel) rfl
   ·exact fw_flat rfl rfl
   ·exact fw_flat (by decide +kernel) rfl
   ·exact fw_flat rfl rfl
  have e':getI [.non,.tup [.non],.lst [.non],.str "",.int 0] (k%5)=some r:=e
  refine ⟨r,?_,hf⟩
  rw [zan rfl (by simp [evE,view,Sl.get,isiT,truT]),zan rfl (by simp [evE,view,Sl.get,isiT,truT]),zan rfl (by simp [evE,view,Sl.get,isiT,truT]),ret0 (t:=r) rfl (by simp [evE,evEs,view,Sl.get,binT,modT,idxT,e'])]
  rfl
theorem ztd (h:Bent P) (n:Nat) (hw:wg t=true) (k:Int):∃ r,run P (n+2) ".lam" [t,.int k]=some r/\fw r:=by
 obtain ⟨r,e,hr⟩:=zl9 h n hw (k/4096)
 refine ⟨r,?_,hr⟩
 rw [zag h.lam rfl]
 show zaa (evSs (glo P (run P (n+1))) zay.body [.val t,.val (.int k)])=_
 unfold zay
 dsimp only
 rw [ret0 (t:=r) rfl (by simp [evE,evEs,view,Sl.get,glo,binT,fdivT,e])]
 rfl
theorem zeq:∀ {xs:List T} {j i:Nat} {q:List Nat},i::q∈pathsL xs j->∃ x,j<=i/\xs[i-j]?=some x/\q∈paths x
 | [],j,i,q,h=>by rw [pathsL] at h;cases h
 | x::xs,j,i,q,h=>by
  rw [pathsL] at h
  rcases oma h with h | h
  ·obtain ⟨p,hp,e⟩:=omm h
   cases e
   exact ⟨x,Nat.le_refl _,by simp,hp⟩
  ·obtain ⟨y,h1,h2,h3⟩:=zeq h
   refine ⟨y,by omega,?_,h3⟩
   rw [show i-j=(i-(j+1))+1 by omega,zyu]
   exact h2
theorem zsg (h:Bent P) (k:Int):∀ (p:List Nat) (n:Nat) (t:T),p∈paths t->wg t=true->∃ r,run P (n+p.length+3) ".put" [t,wy p,.int k]=some r/\fw r:=by
 intro p
 induction p with
 | nil =>
  intro n t _ hw
  obtain ⟨r,e,hr⟩:=ztd h n hw k
  refine ⟨r,?_,hr⟩
  rw [zag h.put rfl]
  show zaa (evSs (glo P (run P (n+0+2))) zaj.body [.val t,.val (wy []),.val (.int k),.no,.no])=_
  unfold zaj
  dsimp only
  have e':(glo P (run P (n+0+2))).call ".lam" [t,.int k]=some r:=e
  rw [za0 (t:=r) rfl (by
   have:eqC (wy []) (.tup [])=some (.bl true):=tupE0
   simp [evE,evEs,view,Sl.get,cmpT,this]) rfl (by simp [evE,evEs,view,Sl.get,e'])]
  rfl
 | cons i q ih =>
  intro n t hp hw
  obtain ⟨xs,rfl⟩:∃ xs,t=.tup xs:=by
   cases t with
   | tup xs=>exact ⟨xs,rfl⟩
   | _=>simp [paths] at hp
  have hb:=zdm (zkx hw)
  rw [wg,zyd,zyr] at hw
  rw [paths] at hp
  obtain ⟨x,_,hx,hq⟩:=zeq (omc hp |>.resolve_left (by simp))
  rw [Nat.sub_zero] at hx
  have hil:i<xs.length:=(ome hx).1
  obtain ⟨r,e,hr⟩:=ih n x hq (wgs_mem hw.2 (zzm hx))
  have hmem:∀ y∈xs.take i++[r]++xs.drop (i+1),y∈xs\/y=r:=fun y hy=>by
   rcases oma hy with hy | hy
   ·rcases oma hy with hy | hy
    ·exact .inl (List.mem_of_mem_take hy)
    ·exact .inr (omg hy)
   ·exact .inl (List.mem_of_mem_drop hy)
  have hln:(xs.take i++[r]++xs.drop (i+1)).length<=4:=by rw [List.length_append,List.length_append,List.length_take,List.length_drop];simp only [List.length_singleton];omega
  refine ⟨.tup (xs.take i++[r]++xs.drop (i+1)),?_,?_,zfn hln,fun ys e y hy=>?_⟩
  ·rw [show n+(i::q).length+3=(n+q.length+3)+1 by simp only [List.length_cons];omega,zag h.put rfl]
   show zaa (evSs (glo P (run P (n+q.length+3))) zaj.body [.val (.tup xs),.val (wy (i::q)),.val (.int k),.no,.no])=_
   have e':(glo P (run P (n+q.length+3))).call ".put" [x,wy q,.int k]=some r:=e
   generalize glo P (run P (n+q.length+3))=G at *
   have c0:eqC (wy (i::q)) (.tup [])=some (.bl false):=tupE _ _
   have c1:idxT (wy (i::q)) (.int 0)=some (.int (i:Int)):=by
    unfold wy
    rw [zyh,idxT,getI0]
   have c2:sliT (wy (i::q)) (some 1) none=some (wy q):=by
    unfold wy
    rw [sliT,show (1:Int)=((1:Nat):Int) from rfl,zck _ 1 (by simp)]
    simp
   have c3:idxT (.tup xs) (.int (i:Int))=some x:=by rw [idxT,zbh hx]
   have c4:sliT (.tup xs) none (some (i:Int))=some (.tup (xs.take i)):=by rw [sliT,zh3]
   have c5:sliT (.tup xs) (some ((i:Int)+1)) none=some (.tup (xs.drop (i+1))):=by rw [sliT,show (i:Int)+1=((i+1:Nat):Int) by omega,zck _ (i+1) (by omega)]
   generalize wy (i::q)=W at *
   generalize hX:T.tup xs=X at *
   unfold zaj
   dsimp only
   rw [zan rfl (by simp [evE,evEs,view,Sl.get,cmpT,c0])]
   rw [zao (zbx (τ0:=[.val X,.val W,.val (.int k),.no,.no]) (t:=.int (i:Int)) (τ':=[.val X,.val W,.val (.int k),.val (.int (i:Int)),.no]) rfl (by simp [evE,view,Sl.get,c1]) rfl)]
   rw [zao (zbx (τ0:=[.val X,.val W,.val (.int k),.val (.int (i:Int)),.no]) (t:=r) (τ':=[.val X,.val W,.val (.int k),.val (.int (i:Int)),.val r]) rfl (by simp [evE,evEs,evO,view,Sl.get,c3,asI,c2,e']) rfl)]
   have hz1:min i xs.length+1<=16777216:=by omega
   have hz2:min i xs.length+1+(xs.length-(i+1))<=16777216:=by omega
   rw [ret0 (t:=.tup (xs.take i++[r]++xs.drop (i+1))) rfl (by simp [evE,evEs,evO,view,Sl.get,asI,c4,c5,binT,addT,SZ,hz1,hz2])]
   rfl
  ·rw [bd,zyw (by omega),Bool.true_and]
   exact zn1 fun y hy=>(hmem y hy).elim (fun h=>hb.2 y h) fun h=>by rw [h];exact hr.1
  ·cases e
   exact (hmem y hy).elim (fun h=>zie (wgs_mem hw.2 h)) fun h=>by rw [h];exact hr.2.1
mutual
theorem zi0:∀ {t:T} {p:List Nat},p∈paths t->p.length<=dep t
 | .tup xs,p,h=>by
  rw [paths] at h
  rw [dep]
  rcases omc h with rfl | h
  ·simp
  ·exact pathL_len h
 | .non,p,h=>by rw [omg h];exact zy9 _
 | .bl _,p,h=>by rw [omg h];exact zy9 _
 | .int _,p,h=>by rw [omg h];exact zy9 _
 | .str _,p,h=>by rw [omg h];exact zy9 _
 | .lst _,p,h=>by rw [omg h];exact zy9 _
 | .dk _ _,p,h=>by rw [omg h];exact zy9 _
 | .dt _ _,p,h=>by rw [omg h];exact zy9 _
theorem pathL_len:∀ {xs:List T} {j:Nat} {p:List Nat},p∈pathsL xs j->p.length<=depS xs+1
 | [],j,p,h=>by rw [pathsL] at h;cases h
 | x::xs,j,p,h=>by
  rw [pathsL] at h
  rw [depS]
  rcases oma h with h | h
  ·obtain ⟨q,hq,rfl⟩:=omm h
   have:=zi0 hq
   rw [zyt]
   omega
  ·have:=pathL_len h
   omega
end
theorem ziz (t:T):paths t≠[]:=by
 cases t with
 | tup xs=>rw [paths];simp
 | _=>simp [paths]
theorem zqi (h:Bent P) {d:Nat} (hd:d<=10) (n:Nat) (ht:dep t<=d) (hw:wg t=true) (k:Int) (D:T):∃ r,run P (n+d+5) "_law_spoilt" [t,.int k,D]=some r/\fw r:=by
 have e1:=zj5 h d (n+3) t [] ht hd (zug hw) (by simp;omega)
 have e1':run P (n+d+4) "_law_places_in" [t,.tup []]=some (.lst ((paths t).map wy)):=by
  rw [show n+d+4=n+3+d+1 by omega]
  exact e1
 obtain ⟨p,hp,ep⟩:=zau (enc:=wy) (ziz t) k
 have hpl:=zi0 hp
 obtain ⟨r,e2,hr⟩:=zsg h k p (n+d+1-p.length) t hp hw
 rw [show n+d+1-p.length+p.length+3=n+d+4 by omega] at e2
 refine ⟨r,?_,hr⟩
 have hpos:0<(paths t).length:=by have:=ziz t;cases q:paths t with | nil=>exact absurd q this | cons _ _=>simp
 rw [zag h.spoilt rfl]
 show zaa (evSs (glo P (run P (n+d+4))) zaz.body [.val t,.val (.int k),.val D,.no,.no])=_
 have g1:(glo P (run P (n+d+4))).call "_law_places_in" [t,.tup []]=some (.lst ((paths t).map wy)):=e1'
 have g2:(glo P (run P (n+d+4))).call ".put" [t,wy p,.int k]=some r:=e2
 generalize glo P (run P (n+d+4))=G at *
 have l1:bltT .len (.lst ((paths t).map wy))=some (.int ((paths t).length:Int)):=by rw [<- zyj (f:=wy) (as:=paths t)];rfl
 have l2:idxT (.lst ((paths t).map wy)) (.int (k%((paths t).length:Int)))=some (wy p):=ep
 generalize T.lst ((paths t).map wy)=L at *
 unfold zaz
 dsimp only
 rw [zao (zbx (τ0:=[.val t,.val (.int k),.val D,.no,.no]) (t:=L) (τ':=[.val t,.val (.int k),.val D,.val L,.no]) rfl (by simp [evE,evEs,view,Sl.get,g1]) rfl)]
 rw [zao (zbx (τ0:=[.val t,.val (.int k),.val D,.val L,.no]) (t:=wy p) (τ':=[.val t,.val (.int k),.val D,.val L,.val (wy p)]) rfl (by simp [evE,view,Sl.get,l1,binT,modT,hpos,l2]) rfl)]
 rw [ret0 (t:=r) rfl (by simp [evE,evEs,view,Sl.get,g2])]
 rfl
end Ev.K04
end
end
end
noncomputable section
noncomputable section
noncomputable section
namespace Ev.K04
open PySem Ev.K03
noncomputable def storeB (S:List Tb):T->Bool
 | .tup xs=>decide (xs.length=S.length)&&(S.zip xs).all fun p=>rowsB p.1 p.2
 | _=>false
theorem zk7 {P:Pr} (h3:Prog3 P) (hs:P.fn "is_store"=some zb4) (ha:P.fn "are_rows"=some zbo) (hwo:P.fn "worths_of"=some zbd) (n:Nat) {S:List Tb} (hS:∀ b∈S,b.ok) (hl:S.length<=4) {t:T} (bt:bd t=true):run P (n+6) "is_store" [.tup (S.map Tb.t),t]=some (.bl (storeB S t)):=by
 rw [zag hs rfl]
 show zaa (evSs (glo P (run P (n+5))) zb4.body [.val (.tup (S.map Tb.t)),.val t])=_
 unfold zb4
 dsimp only
 cases t with
 | tup xs =>
  have hb':=zdm bt
  by_cases hx:xs.length=S.length
  ·have hc:evE (glo P (run P (n+5))) (.comp (.call "are_rows" [.var 0,.var 1]) 2 .zip [.var 0,.var 1] none) (view [.val (.tup (S.map Tb.t)),.val (.tup xs)])=some (.lst ((S.zip xs).map fun p=>.bl (rowsB p.1 p.2))) :=
    zft (e1:=fun p:Tb × T=>p.1.t) (e2:=fun p=>p.2) (l:=S.zip xs) (xs:=[.tup (S.map Tb.t),.tup xs]) (by simp [evEs,evE,view,Sl.get]) (zgm Tb.t S xs hl rfl) rfl (fun p=>.bl (rowsB p.1 p.2)) (fun p hp=>by
     have hm:=List.of_mem_zip (a:=p.1) (b:=p.2) hp
     have e:=zlv h3 ha hwo n (hS p.1 hm.1) (hb'.2 _ hm.2)
     simp [evE,evEs,glo,e])
   rw [zan rfl (by simp [evE,view,Sl.get,isiT,truT,bltT,cmpT,neI,hx])]
   rw [ret0 (t:=.bl (storeB S (.tup xs))) rfl (by rw [zbl,hc,Option.bind_some,all_map];simp [storeB,hx])]
   rfl
  ·have hx':((xs.length:Int)==(S.length:Int))=false:=by simp;omega
   rw [za0 (t:=.bl false) rfl (by simp [evE,view,Sl.get,isiT,truT,bltT,cmpT,neI,hx']) rfl (by simp [evE])]
   simp [zaa,storeB,hx]
 | _ =>
  rw [za0 (t:=.bl false) rfl (by simp [evE,view,Sl.get,isiT,truT]) rfl (by simp [evE])]
  rfl
theorem zij {α:Type} [DecidableEq α]:∀ {l D:List α},l.Nodup->(∀ x∈l,x∈D)->l.length<=D.length
 | [],_,_,_=>zy9 _
 | a::l,D,nd,h=>by
  obtain ⟨h1,h2⟩:=List.nodup_cons.mp nd
  have ha:=h a (.head _)
  have:=zij (l:=l) (D:=D.erase a) h2 fun x hx=>(List.mem_erase_of_ne fun e=>h1 (by rw [<- e];exact hx)).mpr (h x (.tail _ hx))
  rw [List.length_erase_of_mem ha] at this
  have:0<D.length:=List.length_pos_of_mem ha
  rw [zyt];omega
theorem zt3 {α:Type} {f:α->List Kt} {xs D:List α} (h:∀ x∈xs,x∈D):(dedL (xs.map f)).length<=D.length:=by
 have:=zij (l:=dedL (xs.map f)) (D:=D.map f) (zge _) fun x hx=>by
  obtain ⟨y,hy,rfl⟩:=omm (zbs.mp hx)
  exact List.mem_map.mpr ⟨y,h y hy,rfl⟩
 simpa using this
theorem zp0 {b:Tb} {t:T} (h:few t):∀ xs,t=.tup xs->(dedL (xs.map (keyX b))).length<=4:=fun xs e=>by
 obtain ⟨D,h4,hD⟩:=h xs e
 exact zzn (zt3 hD) h4
noncomputable def dbody:List S:=[.asg 11 (.land (.var 11) (.call "_law_are_rows" [.var 7,.var 12]))]
theorem ztx {G:Glo} {S:List Tb} {xs:List T} (hc:∀ p∈S.zip xs,G.call "_law_are_rows" [p.1.t,p.2]=some (.bl (rowsB p.1 p.2))) {s0 s1 s2 s3 s4 s5 s6 s8 s9 s10:Sl} :
  ∀ (l done:List (Tb × T)) (s7 s12:Sl) (v:Bool),done++l=S.zip xs->∃ s7' s12',loopM (fun x τ=>(bndS [7,12] x τ).bind fun τ'=>evSs G dbody τ') (l.map fun p=>.tup [p.1.t,p.2]) [s0,s1,s2,s3,s4,s5,s6,s7,s8,s9,s10,.val (.bl v),s12]=some (.nx [s0,s1,s2,s3,s4,s5,s6,s7',s8,s9,s10,.val (.bl (v&&l.all fun p=>rowsB p.1 p.2)),s12']):=by
 intro l
 induction l with
 | nil=>intro done s7 s12 v _;exact ⟨s7,s12,by rw [List.map_nil,loopM];simp⟩
 | cons p l ih =>
  intro done s7 s12 v e
  have hp:p∈S.zip xs:=by rw [<- e];exact zy3 _ (.head _)
  obtain ⟨s7',s12',h⟩:=ih (done++[p]) (.val p.1.t) (.val p.2) (v&&rowsB p.1 p.2) (by rw [<- e];simp)
  refine ⟨s7',s12',?_⟩
  rw [zyh,loopM]
  have hv:evE G (.land (.var 11) (.call "_law_are_rows" [.var 7,.var 12])) (view [s0,s1,s2,s3,s4,s5,s6,.val p.1.t,s8,s9,s10,.val (.bl v),.val p.2])=some (.bl (v&&rowsB p.1 p.2)):=by
   have:=hc p hp
   cases v<;>simp [evE,evEs,view,Sl.get,this]
  have hs:evSs G dbody [s0,s1,s2,s3,s4,s5,s6,.val p.1.t,s8,s9,s10,.val (.bl v),.val p.2]=some (.nx [s0,s1,s2,s3,s4,s5,s6,.val p.1.t,s8,s9,s10,.val (.bl (v&&rowsB p.1 p.2)),.val p.2]):=by
   unfold dbody
   rw [zao (zbx (τ0:=[s0,s1,s2,s3,s4,s5,s6,.val p.1.t,s8,s9,s10,.val (.bl v),.val p.2]) (t:=.bl (v&&rowsB p.1 p.2)) (τ':=[s0,s1,s2,s3,s4,s5,s6,.val p.1.t,s8,s9,s10,.val (.bl (v&&rowsB p.1 p.2)),.val p.2]) rfl hv rfl),evSs]
  show (evSs G dbody [s0,s1,s2,s3,s4,s5,s6,.val p.1.t,s8,s9,s10,.val (.bl v),.val p.2]).bind _=_
  rw [hs,zye]
  show loopM _ _ _=_
  rw [h,List.all_cons,Bool.and_assoc]
end Ev.K04
end
end
end
noncomputable section
noncomputable section
noncomputable section
namespace Ev.K04
open PySem
variable {b:Tb} {kvs:List (List Kt × T)}
theorem zkj (k:Int):∃ x∈rowS,getI [.str "a",.str "b",.str "",.str "ab",.str "a",.str "x9"] (k%6)=some (.str x):=by
 obtain ⟨c,hc,e⟩:=zau (enc:=T.str) (cs:=rowS) (by simp [rowS]) k
 exact ⟨c,hc,e⟩
theorem zkk (k:Int):∃ x∈rowI,getI [.int 0,.int 1,.int 2,.int 3,.int 1,.int 2,.int 4,.int (-5)] (k%8)=some (.int x):=by
 obtain ⟨c,hc,e⟩:=zau (enc:=T.int) (cs:=rowI) (by simp [rowI]) k
 exact ⟨c,hc,e⟩
theorem zsc:∀ x∈rowS,wg (.str x)=true:=by decide +kernel
theorem zoa {P:Pr} (h:P.fn "_law_worth"=some zai) (n:Nat) (c:Col) (k:Int):∃ w,run P (n+1) "_law_worth" [c.t,.int k]=some w/\wg w=true:=by
 rw [zag h rfl]
 obtain ⟨x,hx,ex⟩:=zkj (k/4)
 obtain ⟨i,hi,ei⟩:=zkk (k/4)
 have wx:=zsc x hx
 have wi:wg (.int i)=true:=zyw hi
 have h4:c.g=true/\(k%4==0)=true\/(c.g&&(k%4==0))=false:=by
  cases c.g<;>cases (k%4==0)<;>simp
 have i1:idxT c.t (.int 1)=some (.str c.k):=by rw [Col.t,idxT,getI1]
 have i2:idxT c.t (.int 2)=some (.bl c.g):=by rw [Col.t,idxT,getI2]
 show ∃ w,zaa (evSs (glo P (run P n)) zai.body [.val c.t,.val (.int k)])=some w/\_
 unfold zai
 dsimp only
 rcases h4 with ⟨hg,hk⟩ | h4
 ·refine ⟨.non,?_,rfl⟩
  rw [za0 (t:=.non) rfl (by simp [evE,view,Sl.get,i2,truT,hg,binT,modT,cmpT,eqI,hk]) rfl (by simp [evE])]
  rfl
 ·rw [zan rfl (by
   cases hg:c.g with
   | false=>simp [evE,view,Sl.get,i2,truT,hg]
   | true =>
    rw [hg,Bool.true_and] at h4
    simp [evE,view,Sl.get,i2,truT,hg,binT,modT,cmpT,eqI,h4])]
  cases ht:(c.k==("text":Str)) with
  | true =>
   refine ⟨.str x,?_,wx⟩
   rw [za0 (t:=.str x) rfl (by simp [evE,view,Sl.get,i1,cmpT,eqAny,eqTS,ht]) rfl (by simp [evE,evEs,view,Sl.get,binT,modT,fdivT,idxT,ex])]
   rfl
  | false =>
   refine ⟨.int i,?_,wi⟩
   rw [zan rfl (by simp [evE,view,Sl.get,i1,cmpT,eqAny,eqTS,ht]),ret0 (t:=.int i) rfl (by simp [evE,evEs,view,Sl.get,binT,modT,fdivT,idxT,ei])]
   rfl
theorem zgt {Q:T->Prop} {f:T->Option (Option T)}:∀ (cs:List Col) (i:Nat),(∀ c∈cs,∀ j:Nat,∃ w,f (.tup [.int (j:Int),c.t])=some (some w)/\Q w) ->
  ∃ ps:List (Col × T),ps.map (·.1)=cs/\compM f (enumT (cs.map Col.t) i)=some (ps.map (·.2))/\∀ p∈ps,Q p.2
 | [],_,_=>⟨[],rfl,rfl,fun p h=>by cases h⟩
 | c::cs,i,h=>by
  obtain ⟨w,e,hw⟩:=h c zys i
  obtain ⟨ps,e1,e2,h2⟩:=zgt cs (i+1) fun c hc=>h c (zyn _ hc)
  refine ⟨(c,w)::ps,by simp [e1],?_,fun p hp=>?_⟩
  ·simp only [List.map_cons,enumT,compM,e,e2,Option.bind_some]
  ·rcases omc hp with rfl | hp
   ·exact hw
   ·exact h2 p hp
theorem row_wg {P:Pr} (hd:P.fn "_law_drawn"=some zal) (hw:P.fn "_law_worth"=some zai) (h:P.fn "_law_row"=some zbu) (n:Nat) {cs:List Col} (hc:cs.length<=4) (nm key rules:T) (k:Int) :
  ∃ ps:List (Col × T),ps.map (·.1)=cs/\run P (n+2) "_law_row" [tabT nm cs key rules,.int k]=some (.tup (ps.map (·.2)))/\∀ p∈ps,wg p.2=true:=by
 rw [zag h rfl]
 have hl:cs.length<=16777216:=by omega
 obtain ⟨ps,e1,e2,h2⟩:=zgt (Q:=fun w=>wg w=true) (f:=fun x=>(bnd 2 x (view [Sl.val (tabT nm cs key rules),Sl.val (.int k)])).bind fun r'=>(evE (glo P (run P (n+1))) (.call "_law_worth" [.var 1,.bin .fdiv (.call "_law_drawn" [.var 3,.var 0]) (.cst (.int 4))]) r').map some) cs 0 (fun c _ j=>by
  have e1:=zbi hd n k (j:Int)
  obtain ⟨w,e2,hw'⟩:=zoa hw n c (drawnI k (j:Int)/4)
  refine ⟨w,?_,hw'⟩
  simp [bnd,evE,evEs,view,Sl.get,glo,e1,e2,binT,fdivT])
 refine ⟨ps,e1,?_,h2⟩
 show zaa (evSs (glo P (run P (n+1))) [.ret (.blt .toTuple (.comp (.call "_law_worth" [.var 1,.bin .fdiv (.call "_law_drawn" [.var 3,.var 0]) (.cst (.int 4))]) 2 .enum [.idx (.var 0) (.cst (.int 1))] none))] [Sl.val (tabT nm cs key rules),Sl.val (.int k)])=_
 rw [ret0 (t:=.tup (ps.map (·.2))) rfl (by
  rw [zbl,zce]
  have s1:evEs (glo P (run P (n+1))) [.idx (.var 0) (.cst (.int 1))] (view [Sl.val (tabT nm cs key rules),Sl.val (.int k)])=some [.tup (cs.map Col.t)]:=by
   simp [evEs,evE,view,Sl.get,idxT,tabT,getI1]
  have s2:itemsC .enum [.tup (cs.map Col.t)]=some (enumT (cs.map Col.t) 0):=by
   simp [itemsC,items,zc2,hl]
  rw [s1,zye,s2,zye,e2]
  rfl)]
 rfl
noncomputable def RowW (b:Tb) (ps:List (Col × T)):Prop:=RowOk b ps/\wg (rowT ps)=true
theorem zir {P:Pr} (hd:P.fn "_law_drawn"=some zal) (hw:P.fn "_law_worth"=some zai) (h:P.fn "_law_row"=some zbu) (n:Nat) (hb:b.ok) (k:Int):∃ ps,run P (n+2) "_law_row" [b.t,.int k]=some (rowT ps)/\RowW b ps:=by
 obtain ⟨ps,e1,hp⟩:=rowOk_run hd hw h n hb k
 obtain ⟨qs,q1,e2,h2⟩:=row_wg hd hw h n hb.cl (.str b.nm) (.tup (b.key.map .str)) (.tup (b.rs.map Rl.t)) k
 refine ⟨ps,e1,hp,?_⟩
 rw [zun,e2] at e1
 injection e1 with e1
 rw [<- e1]
 refine zkw (by have:=hb.cl;rw [<- q1,zyj] at this;rw [zyj];exact this) fun x hx=>?_
 obtain ⟨p,hp',rfl⟩:=omm hx
 exact h2 p hp'
structure Book3 (b:Tb) (kvs:List (List Kt × T)):Prop where
 nd:(kvs.map (·.1)).Nodup
 rw:∀ p∈kvs,∃ ps,RowW b ps/\p=(keyR b ps,rowT ps)
theorem Book3.srt (hb:b.ok) (h:Book3 b kvs) (h5:kvs.length<=5):bltT .sorted (dD kvs)=some (.lst ((sortL (kvs.map (·.1))).map tkT)):=by
 cases kvs with
 | nil=>rfl
 | cons p r =>
  show sortT ((p::r).map (·.1))=_
  unfold sortT sortK
  rw [if_pos]
  ·rfl
  ·refine ⟨by rw [zyj];exact h5,h.nd,List.all_eq_true.mpr fun x hx=>?_⟩
   obtain ⟨q,hq,rfl⟩:=omm hx
   obtain ⟨ps,h1,rfl⟩:=h.rw q hq
   rw [zyd]
   constructor
   ·cases e:keyR b ps with
    | nil=>exact absurd e (zgi hb ps)
    | cons _ _=>rfl
   ·refine List.all_eq_true.mpr fun y hy=>?_
    obtain ⟨q',hq',rfl⟩:=omm hy
    obtain ⟨ps',h2,rfl⟩:=h.rw q' hq'
    exact zcm hb h1.1 h2.1
theorem Book3.get (h:Book3 b kvs) {k:List Kt} (hk:k∈sortL (kvs.map (·.1))):∃ w,idxT (dD kvs) (tkT k)=some w/\∃ ps,RowW b ps/\w=rowT ps/\keyR b ps=k:=by
 have hk:=zaq.mp hk
 obtain ⟨v,h1,h2⟩:=zhq hk
 obtain ⟨ps,h3,e⟩:=h.rw _ h2
 injection e with e1 e2
 refine ⟨v,?_,ps,h3,e2,e1.symm⟩
 cases kvs with
 | nil=>cases hk
 | cons p r =>
  show (keysO (k.map kT)).bind _=_
  rw [zdy];exact h1
noncomputable def lin3:List S:=[.asg 10 (.call "_law_row" [.var 7,.bin .fdiv (.call "_law_drawn" [.var 2,.bin .add (.bin .mul (.cst (.int 10)) (.var 6)) (.var 9)]) (.cst (.int 4))]),.dput 8 (.call "_law_key" [.var 7,.var 10]) (.var 10)]
noncomputable def lex3:E:=.bin .add (.var 4) (.tup [.blt .toTuple (.comp (.idx (.var 9) (.var 0)) 1 .plain [.blt .sorted (.var 8)] none)])
noncomputable def lout3:List S:=[.dnew 8,.loop [9] .range [.bin .mod (.bin .fdiv (.call "_law_mixed" [.var 0,.cst (.int 4)]) (.idx (.tup [.cst (.int 1),.cst (.int 5),.cst (.int 25),.cst (.int 125)]) (.var 6))) (.cst (.int 5))] lin3,.asg 4 lex3]
section
variable {P:Pr} (hd:P.fn "_law_drawn"=some zal) (hw:P.fn "_law_worth"=some zai) (hr:P.fn "_law_row"=some zbu) (hn:P.fn "_law_names"=some za6) (hk:P.fn "_law_key"=some zbk)
include hd hw hr hn hk
theorem zuo (n:Nat) (hb:b.ok) (A S Z:T) (N:Int) (s3 q5 s11 s12:Sl) (i j:Nat) (hB:Book3 b kvs) (h5:kvs.length<=4) (s7:Sl) :
  ∃ kvs' s7',evSs (glo P (run P (n+2))) lin3 [Sl.val A,.val S,.val (.int N),s3,.val Z,q5,.val (.int (i:Int)),.val b.t,slD kvs,.val (.int (j:Int)),s7,s11,s12]=some (.nx [Sl.val A,.val S,.val (.int N),s3,.val Z,q5,.val (.int (i:Int)),.val b.t,slD kvs',.val (.int (j:Int)),s7',s11,s12])/\Book3 b kvs'/\kvs'.length<=kvs.length+1:=by
 obtain ⟨ps,e1,hp⟩:=zir hd hw hr n hb (drawnI N (10*i+j)/4)
 have e2:=zbi hd (n+1) N (10*i+j)
 have e3:=zjb hn hk n hb hp.1
 refine ⟨putP kvs (keyR b ps) (rowT ps),.val (rowT ps),?_,⟨zu8 hB.nd,fun p h=>?_⟩,zsi⟩
 ·unfold lin3
  rw [zbc (t:=rowT ps) (τ':=[Sl.val A,.val S,.val (.int N),s3,.val Z,q5,.val (.int (i:Int)),.val b.t,slD kvs,.val (.int (j:Int)),.val (rowT ps),s11,s12]) rfl (by
   simp [evE,evEs,view,Sl.get,glo,binT,addT,mulT,zr4,fdivT,e2,e1]) rfl]
  have e4:evS (glo P (run P (n+2))) (.dput 8 (.call "_law_key" [.var 7,.var 10]) (.var 10)) [Sl.val A,.val S,.val (.int N),s3,.val Z,q5,.val (.int (i:Int)),.val b.t,slD kvs,.val (.int (j:Int)),.val (rowT ps),s11,s12]=some (.nx [Sl.val A,.val S,.val (.int N),s3,.val Z,q5,.val (.int (i:Int)),.val b.t,slD (putP kvs (keyR b ps) (rowT ps)),.val (.int (j:Int)),.val (rowT ps),s11,s12]):=by
   have hf:frzAt (vars (.var 10)++vars (.call "_law_key" [.var 7,.var 10])) [Sl.val A,.val S,.val (.int N),s3,.val Z,q5,.val (.int (i:Int)),.val b.t,slD kvs,.val (.int (j:Int)),.val (rowT ps),s11,s12]=[Sl.val A,.val S,.val (.int N),s3,.val Z,q5,.val (.int (i:Int)),.val b.t,slD kvs,.val (.int (j:Int)),.val (rowT ps),s11,s12]:=rfl
   have v1:evE (glo P (run P (n+2))) (.var 10) (view [Sl.val A,.val S,.val (.int N),s3,.val Z,q5,.val (.int (i:Int)),.val b.t,slD kvs,.val (.int (j:Int)),.val (rowT ps),s11,s12])=some (rowT ps):=by simp [evE,view,Sl.get]
   have v2:evE (glo P (run P (n+2))) (.call "_law_key" [.var 7,.var 10]) (view [Sl.val A,.val S,.val (.int N),s3,.val Z,q5,.val (.int (i:Int)),.val b.t,slD kvs,.val (.int (j:Int)),.val (rowT ps),s11,s12])=some (tkT (keyR b ps)):=by simp [evE,evEs,view,Sl.get,glo,e3]
   rw [evS,hf,v1,zye,v2,zye]
   show ((putS (some (slD kvs)) (tkT (keyR b ps)) (rowT ps)).map _)=_
   rw [zva kvs _ _ (by omega)]
   rfl
  rw [zao e4,evSs]
 ·rcases zsh h with h | h
  ·exact hB.rw p h
  ·exact ⟨ps,hp,h⟩
theorem zrw (n:Nat) (hb:b.ok) (A S:T) (N M:Int) (hM:(glo P (run P (n+2))).call "_law_mixed" [A,.int 4]=some (.int M)) (s3 q5 s11 s12:Sl) (i:Nat) (hi:i<4) (Z:List T) (hZ:Z.length<=4) (s5 s6 s7:Sl) :
  ∃ (R:List (List (Col × T))) (s5' s6' s7':Sl),evSs (glo P (run P (n+2))) lout3 [Sl.val A,.val S,.val (.int N),s3,.val (.tup Z),q5,.val (.int (i:Int)),.val b.t,s5,s6,s7,s11,s12]=some (.nx [Sl.val A,.val S,.val (.int N),s3,.val (.tup (Z++[.tup (R.map rowT)])),q5,.val (.int (i:Int)),.val b.t,s5',s6',s7',s11,s12])/\R.length<=4/\(∀ ps∈R,RowW b ps)/\(R.map (keyR b)).Pairwise (fun x y=>lexL x y=true):=by
 obtain ⟨d,ed,d0,d1⟩:=zw0 hi
 obtain ⟨m,em,m4⟩:∃ m:Nat,M/d%5=(m:Int)/\m<=4:=⟨(M/d%5).toNat,by omega,by omega⟩
 obtain ⟨τ',el,kvs,s6',s7',rfl,hB,hl⟩:=zb2 (enc:=fun j:Nat=>T.int (j:Int)) (f:=fun x τ=>(bndS [9] x τ).bind fun τ'=>evSs (glo P (run P (n+2))) lin3 τ')
  (fun done τ=>∃ kvs s6 s7,τ=[Sl.val A,.val S,.val (.int N),s3,.val (.tup Z),q5,.val (.int (i:Int)),.val b.t,slD kvs,s6,s7,s11,s12]/\Book3 b kvs/\kvs.length<=done.length)
  (List.range m) [Sl.val A,.val S,.val (.int N),s3,.val (.tup Z),q5,.val (.int (i:Int)),.val b.t,slD [],s6,s7,s11,s12] ⟨[],s6,s7,rfl,⟨List.nodup_nil,fun p h=>by cases h⟩,zyl _⟩ (by
   rintro l1 j l2 hsp τ ⟨kvs,s6,s7,rfl,hB,hl⟩
   have hl4:kvs.length<=4:=by
    have:=zzf List.length hsp
    simp at this
    omega
   obtain ⟨kvs',s7',e,hB',hl'⟩:=zuo hd hw hr hn hk n hb A S (.tup Z) N s3 q5 s11 s12 i j hB hl4 s7
   refine ⟨[Sl.val A,.val S,.val (.int N),s3,.val (.tup Z),q5,.val (.int (i:Int)),.val b.t,slD kvs',.val (.int (j:Int)),s7',s11,s12],?_,kvs',.val (.int (j:Int)),s7',rfl,hB',by simp;omega⟩
   simp only [bndS,Option.bind_some,List.set_cons_succ,List.set_cons_zero]
   exact e)
 have hl4:kvs.length<=4:=by simp at hl;omega
 obtain ⟨pr,p1,p2,p3⟩:=zjp (enc:=tkT) (Q:=fun k w=>∃ ps,RowW b ps/\w=rowT ps/\keyR b ps=k) (f:=fun x=>(idxT (dD kvs) x).map some) (sortL (kvs.map (·.1))) fun k hk'=>by
  obtain ⟨w,w1,w2⟩:=hB.get hk'
  exact ⟨w,by rw [w1];rfl,w2⟩
 obtain ⟨R,r1,r2,r3⟩:∃ R:List (List (Col × T)),pr.map (·.2)=R.map rowT/\(∀ ps∈R,RowW b ps)/\R.map (keyR b)=pr.map (·.1):=by
  clear p1 p2
  induction pr with
  | nil=>exact ⟨[],rfl,(fun ps h=>by cases h),rfl⟩
  | cons p pr ih =>
   obtain ⟨ps,h1,h2,h3⟩:=p3 p zys
   obtain ⟨R,r1,r2,r3⟩:=ih fun q hq=>p3 q (zyn _ hq)
   refine ⟨ps::R,by rw [zyh,zyh,r1,h2],fun q hq=>?_,by rw [zyh,zyh,r3,h3]⟩
   rcases omc hq with rfl | hq
   ·exact h1
   ·exact r2 q hq
 have hRl:R.length<=4:=by
  have e1:=zzf List.length r1
  have e2:=zzf List.length p1
  rw [zyj,zyj] at e1
  rw [zyj,zcx,zyj] at e2
  omega
 refine ⟨R,.val (dD kvs),s6',s7',?_,hRl,r2,by
  rw [r3,p1]
  refine zch hB.nd fun x hx y hy=>?_
  obtain ⟨q,hq,rfl⟩:=omm hx
  obtain ⟨q',hq',rfl⟩:=omm hy
  obtain ⟨ps,h1,rfl⟩:=hB.rw q hq
  obtain ⟨ps',h2,rfl⟩:=hB.rw q' hq'
  exact zcm hb h1.1 h2.1⟩
 unfold lout3
 rw [zao (s:=.dnew 8) (τ':=[Sl.val A,.val S,.val (.int N),s3,.val (.tup Z),q5,.val (.int (i:Int)),.val b.t,slD [],s6,s7,s11,s12]) (by rw [evS];rfl)]
 rw [zao (zcd (xs:=[.int (m:Int)]) (its:=(List.range m).map fun (j:Nat)=>T.int (j:Int)) (τ0:=[Sl.val A,.val S,.val (.int N),s3,.val (.tup Z),q5,.val (.int (i:Int)),.val b.t,slD [],s6,s7,s11,s12]) rfl (by
  simp [evEs,evE,view,Sl.get,idxT,ed,binT,fdivT,modT,d0,d1,em,hM]) (by
  simp only [items,rangeT,Int.toNat_natCast]
  rw [if_pos (by omega)]) el)]
 have hsz:(sortL (kvs.map (·.1))).length<=16777216:=by rw [zcx,zyj];omega
 have hz:Z.length+1<=16777216:=by omega
 rw [zxa (i:=4) (e:=lex3) (τ0:=[Sl.val A,.val S,.val (.int N),s3,.val (.tup Z),q5,.val (.int (i:Int)),.val b.t,.val (dD kvs),s6',s7',s11,s12]) (t:=.tup (Z++[.tup (R.map rowT)])) (τ':=[Sl.val A,.val S,.val (.int N),s3,.val (.tup (Z++[.tup (R.map rowT)])),q5,.val (.int (i:Int)),.val b.t,.val (dD kvs),s6',s7',s11,s12]) (by
   show [Sl.val A,.val S,.val (.int N),s3,.val (.tup Z),q5,.val (.int (i:Int)),.val b.t,Sl.frz (Sl.frz (slD kvs)),s6',s7',s11,s12]=_
   rw [zr7];rfl) (by
   have ec:evE (glo P (run P (n+2))) (.comp (.idx (.var 9) (.var 0)) 1 .plain [.blt .sorted (.var 8)] none) (view [Sl.val A,.val S,.val (.int N),s3,.val (.tup Z),q5,.val (.int (i:Int)),.val b.t,.val (dD kvs),s6',s7',s11,s12])=some (.lst (R.map rowT)):=by
    rw [zce]
    have s1:evEs (glo P (run P (n+2))) [.blt .sorted (.var 8)] (view [Sl.val A,.val S,.val (.int N),s3,.val (.tup Z),q5,.val (.int (i:Int)),.val b.t,.val (dD kvs),s6',s7',s11,s12])=some [.lst ((sortL (kvs.map (·.1))).map tkT)]:=by
     simp [evEs,evE,view,Sl.get,hB.srt hb (by omega)]
    have s2:itemsC .plain [.lst ((sortL (kvs.map (·.1))).map tkT)]=some ((sortL (kvs.map (·.1))).map tkT):=by simp [itemsC,items,hsz]
    have ef:(fun x=>(bnd 1 x (view [Sl.val A,.val S,.val (.int N),s3,.val (.tup Z),q5,.val (.int (i:Int)),.val b.t,.val (dD kvs),s6',s7',s11,s12])).bind fun r'=>(evE (glo P (run P (n+2))) (.idx (.var 9) (.var 0)) r').map some)=fun x=>(idxT (dD kvs) x).map some:=by
     funext x
     simp [bnd,evE,view,Sl.get]
    rw [s1,zye,s2,zye,ef,p2,r1];rfl
   unfold lex3
   rw [zp1]
   rw [show evE (glo P (run P (n+2))) (.tup [.blt .toTuple (.comp (.idx (.var 9) (.var 0)) 1 .plain [.blt .sorted (.var 8)] none)]) (view [Sl.val A,.val S,.val (.int N),s3,.val (.tup Z),q5,.val (.int (i:Int)),.val b.t,.val (dD kvs),s6',s7',s11,s12])=some (.tup [.tup (R.map rowT)]) by
    rw [evE,evEs,zbl,ec];rfl]
   simp [evE,view,Sl.get,binT,addT,hz]) rfl,evSs]
theorem zrv (n:Nat) {S:List Tb} (hS:∀ b∈S,b.ok) (h4:S.length<=4) (A:T) (N M:Int) (hM:(glo P (run P (n+2))).call "_law_mixed" [A,.int 4]=some (.int M)) (s3 q5 s11 s12:Sl) :
  ∃ (Z:List (Tb × List (List (Col × T)))) (s6 s7 s8 s9 s10:Sl),evS (glo P (run P (n+2))) (.loop [6,7] .enum [.var 1] lout3) [.val A,.val (.tup (S.map Tb.t)),.val (.int N),s3,.val (.tup []),q5,.no,.no,.no,.no,.no,s11,s12]=some (.nx [.val A,.val (.tup (S.map Tb.t)),.val (.int N),s3,.val (.tup (Z.map fun z=>.tup (z.2.map rowT))),q5,s6,s7,s8,s9,s10,s11,s12])/\Z.map (·.1)=S/\∀ z∈Z,z.2.length<=4/\∀ ps∈z.2,RowW z.1 ps:=by
 obtain ⟨τ',el,Z,s6,s7,s8,s9,s10,rfl,h1,h2⟩:=zb2 (enc:=fun (p:Tb × Nat)=>T.tup [.int (p.2:Int),p.1.t]) (f:=fun x τ=>(bndS [6,7] x τ).bind fun τ'=>evSs (glo P (run P (n+2))) lout3 τ')
  (fun done τ=>∃ (Z:List (Tb × List (List (Col × T)))),∃ s6 s7 s8 s9 s10,τ=[Sl.val A,.val (.tup (S.map Tb.t)),.val (.int N),s3,.val (.tup (Z.map fun z=>.tup (z.2.map rowT))),q5,s6,s7,s8,s9,s10,s11,s12]/\Z.map (·.1)=done.map (·.1)/\∀ z∈Z,z.2.length<=4/\∀ ps∈z.2,RowW z.1 ps)
  (S.zipIdx 0) [.val A,.val (.tup (S.map Tb.t)),.val (.int N),s3,.val (.tup []),q5,.no,.no,.no,.no,.no,s11,s12] ⟨[],.no,.no,.no,.no,.no,rfl,rfl,fun z h=>by cases h⟩ (by
   rintro done ⟨b,i⟩ rest hsp τ ⟨Z,s6,s7,s8,s9,s10,rfl,h1,h2⟩
   have hm:(b,i)∈S.zipIdx 0:=by rw [hsp];simp
   have hb:b∈S:=by
    have:=List.mem_zipIdx' hm
    rw [this.2];exact List.getElem_mem _
   have hi:i<4:=by
    have:=(List.mem_zipIdx' hm).1
    omega
   have hzl:Z.length<=4:=by
    have e1:=zzf List.length h1
    have e2:=zzf List.length hsp
    simp at e1 e2
    omega
   obtain ⟨R,s8',s9',s10',e,r1,r2,r3⟩:=zrw hd hw hr hn hk n (hS b hb) A (.tup (S.map Tb.t)) N M hM s3 q5 s11 s12 i hi (Z.map fun z=>.tup (z.2.map rowT)) (by rw [zyj];exact hzl) s8 s9 s10
   refine ⟨[.val A,.val (.tup (S.map Tb.t)),.val (.int N),s3,.val (.tup ((Z++[(b,R)]).map fun z=>.tup (z.2.map rowT))),q5,.val (.int (i:Int)),.val b.t,s8',s9',s10',s11,s12],?_,Z++[(b,R)],_,_,_,_,_,rfl,by simp [h1],fun z hz=>?_⟩
   ·simp only [bndS,setAll,Option.bind_some,List.set_cons_succ,List.set_cons_zero]
    rw [e,zzs];rfl
   ·rcases oma hz with z' | z'
    ·exact h2 z z'
    ·rw [omg z'];exact ⟨r1,r2⟩)
 refine ⟨Z,s6,s7,s8,s9,s10,?_,by rw [h1,List.zipIdx_map_fst],h2⟩
 exact zcd (xs:=[.tup (S.map Tb.t)]) (its:=(S.zipIdx 0).map fun (p:Tb × Nat)=>T.tup [.int (p.2:Int),p.1.t]) (τ0:=[.val A,.val (.tup (S.map Tb.t)),.val (.int N),s3,.val (.tup []),q5,.no,.no,.no,.no,.no,s11,s12]) rfl (by simp [evEs,evE,view,Sl.get]) (by simp only [items,zc1]) el
end
end Ev.K04
end
end
end
noncomputable section
noncomputable section
noncomputable section
namespace Ev.K04
open PySem
noncomputable def spE (k m:Int) (j:Int):List S:=[.asg 4 (.call "_law_spoilt" [.var 4,.call "_law_mixed" [.var 0,.cst (.int j)],.bin .mod (.bin .fdiv (.var 2) (.cst (.int k))) (.cst (.int m))])]
noncomputable def spC (k:Int):E:=.cmp .eq (.bin .mod (.bin .fdiv (.var 2) (.cst (.int k))) (.cst (.int 2))) (.cst (.int 1))
theorem eqI2 (a b:Int):cmpT .eq (.int a) (.int b)=some (.bl (a==b)):=rfl
theorem zqr {P:Pr} (h:Bent P) {A t:T} (hw:wg t=true) (hdp:dep t<=3) {N M:Int} {k1 k2 m j:Int} (c1:k1=4\/k1=64) (c2:k2=8\/k2=128) (c3:m=3\/m=5) (hM:(glo P (run P 18)).call "_law_mixed" [A,.int j]=some (.int M))
  (s1 s3 s5 s6 s7 s8 s9 s10 s11 s12:Sl) (ss:List S):∃ t',fw t'/\evSs (glo P (run P 18)) (.ite (spC k1) (spE k2 m j) []::ss) [.val A,s1,.val (.int N),s3,.val t,s5,s6,s7,s8,s9,s10,s11,s12]=evSs (glo P (run P 18)) ss [.val A,s1,.val (.int N),s3,.val t',s5,s6,s7,s8,s9,s10,s11,s12]:=by
 have ec:evE (glo P (run P 18)) (spC k1) (view [.val A,s1,.val (.int N),s3,.val t,s5,s6,s7,s8,s9,s10,s11,s12])=some (.bl (N/k1%2==1)):=by
  unfold spC
  rcases c1 with rfl | rfl<;>simp [evE,view,Sl.get,binT,fdivT,modT,eqI2]
 cases hb:(N/k1%2==1) with
 | false=>exact ⟨t,zxc hw,zan rfl (by rw [ec,hb])⟩
 | true =>
  obtain ⟨d,hd4,hdd⟩:∃ d:Nat,d<=4/\N/k2%m=(d:Int):=by
   rcases c3 with rfl | rfl
   ·exact ⟨(N/k2%3).toNat,by omega,by omega⟩
   ·exact ⟨(N/k2%5).toNat,by omega,by omega⟩
  obtain ⟨t',e,hf⟩:=zqi h (d:=3) (by decide) 10 hdp hw M (.int (d:Int))
  refine ⟨t',hf,zmu rfl (by rw [ec,hb]) ?_⟩
  unfold spE
  have e':(glo P (run P 18)).call "_law_spoilt" [t,.int M,.int (d:Int)]=some t':=e
  have em:binT .mod (.int (N/k2)) (.int m)=some (.int (d:Int)):=by
   rw [<- hdd]
   rcases c3 with rfl | rfl<;>simp [binT,modT]
  have ef:binT .fdiv (.int N) (.int k2)=some (.int (N/k2)):=by
   rcases c2 with rfl | rfl<;>simp [binT,fdivT]
  rw [zao (zbx (τ0:=[.val A,s1,.val (.int N),s3,.val t,s5,s6,s7,s8,s9,s10,s11,s12]) (t:=t') (τ':=[.val A,s1,.val (.int N),s3,.val t',s5,s6,s7,s8,s9,s10,s11,s12]) rfl (by
   simp only [evE,evEs,view,Sl.get,List.map_cons,List.map_nil,List.getElem?_cons_succ,List.getElem?_cons_zero,Option.join_some,Option.bind_some,hM,ef,em]
   exact e') rfl),evSs]
theorem eqB (a:Bool):cmpT .eq (.bl a) (.bl a)=some (.bl true):=by cases a<;>rfl
theorem neB (a:Bool):cmpT .ne (.bl a) (.bl a)=some (.bl false):=by cases a<;>rfl
theorem zpu {s:T} {xs:List T} (hs:s=.tup xs\/s=.lst xs) (hl:xs.length<=1000):itemsC .plain [s]=some xs:=by
 have hz:xs.length<=16777216:=by omega
 rcases hs with rfl | rfl<;>simp [itemsC,items,hz]
theorem zts {G:Glo} {e:E} {r:Env} {v:Bool} (h:evE G e r=some (.bl v)):evE G (.lnot (.tru e)) r=some (.bl (!v)):=by rw [evE,evE,h];rfl
theorem zll {b:Tb} {ps:List (Col × T)} (h:RowOk b ps):dep (rowT ps)<=1:=by
 rw [rowT,dep]
 refine Nat.succ_le_succ (zfr fun x hx=>?_)
 obtain ⟨p,hp,rfl⟩:=omm hx
 rcases h.wk p hp with q | ⟨_,y,q⟩ | ⟨_,i,q⟩<;>rw [q]<;>exact zyl _
theorem zpi {P:Pr} (hc:P.fn "_law_cell_at"=some za9) (hm:P.fn "_law_mixed"=some zb8) (hd:P.fn "_law_drawn"=some zal) (ht:P.fn "_law_test"=some zas) (hp:P.fn "_law_pairs"=some za5) (hr:P.fn "_law_rule"=some za1)
  (hb:P.fn "_law_bare"=some zba) (hs:P.fn "_law_schema"=some zbw) (hw:P.fn "_law_worth"=some zai) (hrw:P.fn "_law_row"=some zbu) (hnm:P.fn "_law_names"=some za6) (hky:P.fn "_law_key"=some zbk)
  (hfr:P.fn "_law_from"=some zbg) (hiw:P.fn "_law_is_worth"=some zak) (hbt:Bent P) (hir:P.fn "_law_is_row"=some zbf) (har:P.fn "_law_are_rows"=some zbb)
  (hte:P.fn "is_text_of"=some za7) (hwt:P.fn "is_worth"=some zbn) (hms:P.fn "may_stand"=some zbt) (hwo:P.fn "worths_of"=some zbd) (hro:P.fn "is_row"=some zc4) (hst:P.fn "is_store"=some zb4) (hpr:P.fn "are_rows"=some zbo)
  (c1:P.con "LETTERS"=some (.str LT)) (c2:P.con "FIGURES"=some (.str FG)) (hl:P.fn "_law_once"=some zfs) (ns:List Int) :
  run P 19 "_law_once" [.lst (ns.map .int)]=some (.bl true):=by
 have h3:Prog3 P:=⟨hwt,hte,c1,c2,hms,hro⟩
 obtain ⟨S,es,hSl,hSo,hSp,hSn⟩:=zhe hd ht hp hr hb hs 11 (mixedI (cellI ns 0) 0)
 have em0:run P 18 "_law_mixed" [.lst (ns.map .int),.int 0]=some (.int (mixedI (cellI ns 0) 0)):=zb1 hc hm 16 ns 0
 have em1:run P 18 "_law_mixed" [.lst (ns.map .int),.int 1]=some (.int (mixedI (cellI ns 1) 1)):=zb1 hc hm 16 ns 1
 have em2:run P 18 "_law_mixed" [.lst (ns.map .int),.int 2]=some (.int (mixedI (cellI ns 2) 2)):=zb1 hc hm 16 ns 2
 have em3:run P 18 "_law_mixed" [.lst (ns.map .int),.int 3]=some (.int (mixedI (cellI ns 3) 3)):=zb1 hc hm 16 ns 3
 have em4:run P 18 "_law_mixed" [.lst (ns.map .int),.int 4]=some (.int (mixedI (cellI ns 4) 4)):=zb1 hc hm 16 ns 4
 have em5:run P 18 "_law_mixed" [.lst (ns.map .int),.int 5]=some (.int (mixedI (cellI ns 5) 5)):=zb1 hc hm 16 ns 5
 have es':run P 18 "_law_schema" [.int (mixedI (cellI ns 0) 0)]=some (.tup (S.map Tb.t)):=es
 generalize hN:mixedI (cellI ns 1) 1=N at em1
 obtain ⟨b,hbm,eb⟩:=zau (enc:=Tb.t) (cs:=S) (by intro e;rw [e] at hSp;cases hSp) N
 have hbo:=hSo b hbm
 obtain ⟨ps,er,hrok,hrwg⟩:=zir hd hw hrw 16 hbo (mixedI (cellI ns 2) 2)
 have dR:dep (rowT ps)<=3:=zzn (zll hrok) (by decide)
 rw [zag hl rfl]
 show zaa (evSs (glo P (run P 18)) zfs.body [.val (.lst (ns.map .int)),.no,.no,.no,.no,.no,.no,.no,.no,.no,.no,.no,.no])=_
 unfold zfs
 dsimp only
 generalize hX:T.lst (ns.map .int)=X
 rw [hX] at em0 em1 em2 em3 em4 em5
 rw [zbc (t:=.tup (S.map Tb.t)) (τ':=[.val X,.val (.tup (S.map Tb.t)),.no,.no,.no,.no,.no,.no,.no,.no,.no,.no,.no]) rfl (by simp [evE,evEs,view,Sl.get,glo,em0,es']) rfl]
 rw [zbc (t:=.int N) (τ':=[.val X,.val (.tup (S.map Tb.t)),.val (.int N),.no,.no,.no,.no,.no,.no,.no,.no,.no,.no]) rfl (by simp [evE,evEs,view,Sl.get,glo,em1]) rfl]
 rw [zbc (t:=b.t) (τ':=[.val X,.val (.tup (S.map Tb.t)),.val (.int N),.val b.t,.no,.no,.no,.no,.no,.no,.no,.no,.no]) rfl (by
  simp [evE,view,Sl.get,bltT,binT,modT,hSp,idxT,eb]) rfl]
 rw [zbc (t:=rowT ps) (τ':=[.val X,.val (.tup (S.map Tb.t)),.val (.int N),.val b.t,.val (rowT ps),.no,.no,.no,.no,.no,.no,.no,.no]) rfl (by simp [evE,evEs,view,Sl.get,glo,em2,er]) rfl]
 obtain ⟨t1,f1,e1⟩:=zqr hbt hrwg dR (A:=X) (N:=N) (k1:=4) (k2:=8) (m:=3) (j:=3) (.inl rfl) (.inl rfl) (.inl rfl) em3 (.val (.tup (S.map Tb.t))) (.val b.t) .no .no .no .no .no .no .no .no
  (ss:=[.asg 5 (.call "is_row" [.var 3,.var 4]),
  .ite (.lor (.lnot (.tru (.isi (.var 5) .tbool))) (.cmp .ne (.var 5) (.call "_law_is_row" [.var 3,.var 4]))) [.ret (.cst (.bl false))] [],
  .asg 4 (.tup []),
  .loop [6,7] .enum [.var 1] lout3,
  .ite (spC 64) (spE 128 5 5) [],
  .asg 5 (.call "is_store" [.var 1,.var 4]),
  .asg 11 (.land (.isi (.var 4) .ttup) (.cmp .eq (.blt .len (.var 4)) (.blt .len (.var 1)))),
  .ite (.tru (.var 11)) [.loop [7,12] .zip [.var 1,.var 4] dbody] [],
  .ret (.land (.isi (.var 5) .tbool) (.cmp .eq (.var 5) (.var 11)))])
 refine Eq.trans (zzf zaa e1) ?_
 have r1:run P 18 "is_row" [b.t,t1]=some (.bl (rowB b.cs t1)):=zez h3 14 _ _ _ b.cs hbo.cl f1.1
 have r2:run P 18 "_law_is_row" [b.t,t1]=some (.bl (rowB b.cs t1)):=zi5 hir hiw hfr 15 _ _ _ b.cs hbo.cl hbo.kk f1.1
 rw [zbc (t:=.bl (rowB b.cs t1)) (τ':=[.val X,.val (.tup (S.map Tb.t)),.val (.int N),.val b.t,.val t1,.val (.bl (rowB b.cs t1)),.no,.no,.no,.no,.no,.no,.no]) rfl (by simp [evE,evEs,view,Sl.get,glo,r1]) rfl]
 rw [zan rfl (by simp [evE,evEs,view,Sl.get,glo,r2,isiT,truT,neB])]
 rw [zbc (t:=.tup []) (τ':=[.val X,.val (.tup (S.map Tb.t)),.val (.int N),.val b.t,.val (.tup []),.val (.bl (rowB b.cs t1)),.no,.no,.no,.no,.no,.no,.no]) rfl (by simp [evE,evEs]) rfl]
 obtain ⟨Z,s6,s7,s8,s9,s10,ez,hZS,hZ⟩:=zrv hd hw hrw hnm hky 16 hSo hSl X N (mixedI (cellI ns 4) 4) em4 (.val b.t) (.val (.bl (rowB b.cs t1))) .no .no
 rw [zao ez]
 have hZl:Z.length<=4:=by have:=zzf List.length hZS;rw [zyj] at this;omega
 have wZ:wg (.tup (Z.map fun z=>.tup (z.2.map rowT)))=true:=zkw (by rw [zyj];exact hZl) fun x hx=>by
  obtain ⟨z,hz,rfl⟩:=omm hx
  refine zkw (by rw [zyj];exact (hZ z hz).1) fun y hy=>?_
  obtain ⟨qs,hq,rfl⟩:=omm hy
  exact ((hZ z hz).2 qs hq).2
 have dZ:dep (.tup (Z.map fun z=>.tup (z.2.map rowT)))<=3:=by
  rw [dep]
  refine Nat.succ_le_succ (zfr fun x hx=>?_)
  obtain ⟨z,hz,rfl⟩:=omm hx
  rw [dep]
  refine Nat.succ_le_succ (zfr fun y hy=>?_)
  obtain ⟨qs,hq,rfl⟩:=omm hy
  exact zll ((hZ z hz).2 qs hq).1
 obtain ⟨t2,f2,e2⟩:=zqr hbt wZ dZ (A:=X) (N:=N) (k1:=64) (k2:=128) (m:=5) (j:=5) (.inr rfl) (.inr rfl) (.inr rfl) em5 (.val (.tup (S.map Tb.t))) (.val b.t) (.val (.bl (rowB b.cs t1))) s6 s7 s8 s9 s10 .no .no
  (ss:=[.asg 5 (.call "is_store" [.var 1,.var 4]),
  .asg 11 (.land (.isi (.var 4) .ttup) (.cmp .eq (.blt .len (.var 4)) (.blt .len (.var 1)))),
  .ite (.tru (.var 11)) [.loop [7,12] .zip [.var 1,.var 4] dbody] [],
  .ret (.land (.isi (.var 5) .tbool) (.cmp .eq (.var 5) (.var 11)))])
 rw [e2]
 have r3:run P 18 "is_store" [.tup (S.map Tb.t),t2]=some (.bl (storeB S t2)):=zk7 h3 hst hpr hwo 12 hSo hSl f2.1
 rw [zbc (t:=.bl (storeB S t2)) (τ':=[.val X,.val (.tup (S.map Tb.t)),.val (.int N),.val b.t,.val t2,.val (.bl (storeB S t2)),s6,s7,s8,s9,s10,.no,.no]) rfl (by simp [evE,evEs,view,Sl.get,glo,r3]) rfl]
 have fin:∀ (v:Bool) (s7' s12:Sl),v=storeB S t2->zaa (evSs (glo P (run P 18)) [.ret (.land (.isi (.var 5) .tbool) (.cmp .eq (.var 5) (.var 11)))] [.val X,.val (.tup (S.map Tb.t)),.val (.int N),.val b.t,.val t2,.val (.bl (storeB S t2)),s6,s7',s8,s9,s10,.val (.bl v),s12])=some (.bl true):=fun v s7' s12 e=>by
  rw [e,ret0 (t:=.bl true) rfl (by simp [evE,view,Sl.get,isiT,eqB])]
  rfl
 cases t2 with
 | tup xs =>
  have hb2:=zdm f2.1
  rw [zbc (t:=.bl (decide (xs.length=S.length))) (τ':=[.val X,.val (.tup (S.map Tb.t)),.val (.int N),.val b.t,.val (.tup xs),.val (.bl (storeB S (.tup xs))),s6,s7,s8,s9,s10,.val (.bl (decide (xs.length=S.length))),.no]) rfl (by
   have:((xs.length:Int)==(S.length:Int))=decide (xs.length=S.length):=by
    by_cases h:xs.length=S.length
    ·simp [h]
    ·rw [decide_eq_false h];simp;omega
   simp [evE,view,Sl.get,isiT,bltT,eqI2,this]) rfl]
  by_cases hx:xs.length=S.length
  ·rw [zyw hx]
   have hz:(S.zip xs).length<=16777216:=by rw [List.length_zip];omega
   have hit:items .zip [.tup (S.map Tb.t),.tup xs]=some ((S.zip xs).map fun p=>.tup [p.1.t,p.2]):=by
    simp only [items]
    rw [show seqOf (.tup (S.map Tb.t))=some (S.map Tb.t) from rfl,show seqOf (.tup xs)=some xs from rfl]
    simp only [Option.bind_some,zdr]
    try rw [if_pos (show _<=SZ from hz)]
   obtain ⟨s7',s12',el⟩:=ztx (G:=glo P (run P 18)) (S:=S) (xs:=xs) (fun p hp'=>by
    have hm':=List.of_mem_zip (a:=p.1) (b:=p.2) hp'
    exact zml har hir hiw hfr hnm hky 14 (hSo p.1 hm'.1) (hb2.2 p.2 hm'.2) (zp0 (f2.2.2 xs rfl p.2 hm'.2))) (s0:=.val X) (s1:=.val (.tup (S.map Tb.t))) (s2:=.val (.int N)) (s3:=.val b.t) (s4:=.val (.tup xs)) (s5:=.val (.bl (storeB S (.tup xs)))) (s6:=s6) (s8:=s8) (s9:=s9) (s10:=s10) (S.zip xs) [] s7 .no true rfl
   rw [zmu (τ':=[.val X,.val (.tup (S.map Tb.t)),.val (.int N),.val b.t,.val (.tup xs),.val (.bl (storeB S (.tup xs))),s6,s7',s8,s9,s10,.val (.bl (true&&(S.zip xs).all fun p=>rowsB p.1 p.2)),s12']) rfl (by simp [evE,view,Sl.get,truT]) (by
    rw [zao (zcd (xs:=[.tup (S.map Tb.t),.tup xs]) (τ0:=[.val X,.val (.tup (S.map Tb.t)),.val (.int N),.val b.t,.val (.tup xs),.val (.bl (storeB S (.tup xs))),s6,s7,s8,s9,s10,.val (.bl true),.no]) rfl (by simp [evEs,evE,view,Sl.get]) hit el),evSs])]
   exact fin _ _ _ (by simp [storeB,hx])
  ·rw [decide_eq_false hx,zan rfl (by simp [evE,view,Sl.get,truT])]
   exact fin _ _ _ (by simp [storeB,hx])
 | _ =>
  rw [zbc (t:=.bl false) (τ':=[.val X,.val (.tup (S.map Tb.t)),.val (.int N),.val b.t,_,_,s6,s7,s8,s9,s10,.val (.bl false),.no]) rfl (by simp [evE,view,Sl.get,isiT]) rfl]
  rw [zan rfl (by simp [evE,view,Sl.get,truT])]
  exact fin _ _ _ rfl
noncomputable def zec:Fd:=⟨1,2,[.loop [1] .range [.cst (.int 8)] [.ite (.lnot (.tru (.call "_law_once" [.bin .add (.comp (.bin .add (.var 0) (.bin .mul (.cst (.int 104729)) (.var 2))) 1 .plain [.var 0] none) (.lst [.var 1])]))) [.ret (.cst (.bl false))] []],
  .ret (.cst (.bl true))]⟩
theorem zk0 {P:Pr} (hl:P.fn "law"=some zec) (ho:∀ ns:List Int,run P 19 "_law_once" [.lst (ns.map .int)]=some (.bl true)) (ns:List Int) (hn:ns.length<=63):run P 20 "law" [.lst (ns.map .int)]=some (.bl true):=by
 rw [zag hl rfl]
 have go:∀ ns:List Int,(glo P (run P 19)).call "_law_once" [.lst (ns.map .int)]=some (.bl true):=ho
 generalize glo P (run P 19)=G at *
 show zaa (evSs G zec.body [.val (.lst (ns.map .int)),.no])=_
 have step:∀ (i:Nat) (s1:Sl),((bndS [1] (T.int (i:Int)) [.val (.lst (ns.map .int)),s1]).bind fun τ'=>evSs G [.ite (.lnot (.tru (.call "_law_once" [.bin .add (.comp (.bin .add (.var 0) (.bin .mul (.cst (.int 104729)) (.var 2))) 1 .plain [.var 0] none) (.lst [.var 1])]))) [.ret (.cst (.bl false))] []] τ')=some (.nx [.val (.lst (ns.map .int)),.val (.int (i:Int))]):=fun i s1=>by
  show evSs G _ [.val (.lst (ns.map .int)),.val (.int (i:Int))]=_
  have sm:small 104729=true:=by decide
  have k1:evE G (.comp (.bin .add (.var 0) (.bin .mul (.cst (.int 104729)) (.var 2))) 1 .plain [.var 0] none) (view [.val (.lst (ns.map .int)),.val (.int (i:Int))])=some (.lst (ns.map fun x=>.int (x+104729*(i:Int)))) :=
   zc5 (enc:=T.int) (l:=ns) (its:=ns.map .int) (xs:=[.lst (ns.map .int)]) (by simp [evEs,evE,view,Sl.get]) (zpu (.inr rfl) (by rw [List.length_map];omega)) rfl (fun x=>.int (x+104729*(i:Int))) (fun x _=>by simp [evE,view,Sl.get,binT,addT,mulT,sm])
  have k2:evE G (.bin .add (.comp (.bin .add (.var 0) (.bin .mul (.cst (.int 104729)) (.var 2))) 1 .plain [.var 0] none) (.lst [.var 1])) (view [.val (.lst (ns.map .int)),.val (.int (i:Int))])=some (.lst ((ns.map (fun x=>x+104729*(i:Int))++[(i:Int)]).map .int)):=by
   have hz:(ns.map fun x=>T.int (x+104729*(i:Int))).length+([T.int (i:Int)]:List T).length<=16777216:=by rw [zyj,zzt];omega
   rw [evE,k1,zye,show evE G (.lst [.var 1]) (view [.val (.lst (ns.map .int)),.val (.int (i:Int))])=some (.lst [.int (i:Int)]) from rfl,zye,binT,addL hz,zzs,zzk]
   rfl
  have k3:evE G (.call "_law_once" [.bin .add (.comp (.bin .add (.var 0) (.bin .mul (.cst (.int 104729)) (.var 2))) 1 .plain [.var 0] none) (.lst [.var 1])]) (view [.val (.lst (ns.map .int)),.val (.int (i:Int))])=some (.bl true):=by
   rw [evE,evEs,k2]
   simp only [evEs,Option.bind_some,go]
  rw [show evSs G [S.ite (.lnot (.tru (.call "_law_once" [.bin .add (.comp (.bin .add (.var 0) (.bin .mul (.cst (.int 104729)) (.var 2))) 1 .plain [.var 0] none) (.lst [.var 1])]))) [.ret (.cst (.bl false))] []] [.val (.lst (ns.map .int)),.val (.int (i:Int))]=evSs G [] [.val (.lst (ns.map .int)),.val (.int (i:Int))] from zan rfl (zts k3)]
  rfl
 have lp:∀ (l:List Nat) (s1:Sl),∃ s1',loopM (fun x τ=>(bndS [1] x τ).bind fun τ'=>evSs G [.ite (.lnot (.tru (.call "_law_once" [.bin .add (.comp (.bin .add (.var 0) (.bin .mul (.cst (.int 104729)) (.var 2))) 1 .plain [.var 0] none) (.lst [.var 1])]))) [.ret (.cst (.bl false))] []] τ') (l.map fun (i:Nat)=>T.int (i:Int)) [.val (.lst (ns.map .int)),s1]=some (.nx [.val (.lst (ns.map .int)),s1']):=fun l=>by
  induction l with
  | nil=>exact fun s1=>⟨s1,rfl⟩
  | cons i l ih =>
   intro s1
   obtain ⟨s1',e⟩:=ih (.val (.int (i:Int)))
   exact ⟨s1',by rw [zyh,loopM,step];exact e⟩
 obtain ⟨s1',e⟩:=lp (List.range 8) .no
 unfold zec
 dsimp only
 rw [zao (zcd (τ0:=[.val (.lst (ns.map .int)),.no]) (xs:=[.int 8]) (its:=(List.range 8).map fun (i:Nat)=>T.int (i:Int)) rfl (by simp [evEs,evE]) rfl e)]
 rw [ret0 (t:=.bl true) rfl (by simp [evE])]
 rfl
end Ev.K04
end
end
end
noncomputable section
noncomputable section
noncomputable section
lay_quick PySem.Challenge.pw_dealtables_k07_lists_anywhere
namespace Ev
open PySem PySem.Spec PyProof.Rows L2
noncomputable def pT:Program:=PySem.W.Fast.tw16823742491032364110
theorem pT_eq:PySem.Challenge.pw_dealtables_k07_lists_anywhere=pT:=PySem.W.Fast.te16823742491032364110
noncomputable def top (i:Nat):Stmt:=pT.main.body.getD i (.Pass ⟨0,0,0,0⟩)
noncomputable def tab:Tab:=("is_text_of",K04.za7,top 3,["thing", "fewest", "most", "signs"])::("is_worth",K04.zbn,top 4,["kind", "thing"])::("may_stand",K04.zbt,top 5,["column", "thing"])::("worths_of",K04.zbd,top 6,["table", "row", "names"])::("is_row",K04.zc4,top 7,["table", "thing"])::("is_store",K04.zb4,top 8,["schema", "thing"])::("are_rows",K04.zbo,top 9,["table", "thing"])::("_law_cell_at",K04.za9,top 11,["_law_script", "_law_k"])::("_law_mixed",K04.zb8,top 12,["_law_script", "_law_k"])::("_law_drawn",K04.zal,top 13,["_law_number", "_law_k"])::("_law_names",K04.za6,top 14,["_law_table"])::("_law_key",K04.zbk,top 15,["_law_table", "_law_row_here"])::("_law_test",K04.zas,top 16,["_law_table", "_law_number", "_law_deep"])::("_law_bare",K04.zba,top 17,["_law_name", "_law_number"])::("_law_pairs",K04.za5,top 18,["_law_table", "_law_kinds"])::("_law_rule",K04.za1,top 19,["_law_bare_here", "_law_table", "_law_number"])::("_law_schema",K04.zbw,top 20,["_law_number"])::("_law_worth",K04.zai,top 21,["_law_column", "_law_number"])::("_law_row",K04.zbu,top 22,["_law_table", "_law_number"])::("_law_from",K04.zbg,top 23,["_law_thing", "_law_low", "_law_high"])::("_law_is_worth",K04.zak,top 24,["_law_thing", "_law_kind"])::("_law_is_row",K04.zbf,top 25,["_law_table", "_law_thing"])::("_law_are_rows",K04.zbb,top 26,["_law_table", "_law_thing"])::("_law_places_in",K04.zax,top 27,["_law_bent_one", "_law_bent_way"])::("_law_otherwise",K04.zbj,top 29,["_law_bent_one", "_law_bent_number"])::("_law_once",K04.zfs,top 31,["_law_script"])::("law",K04.zec,top 32,["_law_script"])::[]
noncomputable def cons:List (Str × T):=[("FIGURES",.str K04.FG),("LETTERS",.str K04.LT)]
theorem stAll:(tab.all fun p=>stOk p.2.1 p.2.2.1 p.2.2.2)=true:=by kernel_rfl
theorem trAll:(tab.map fun p=>trSs 60 ⟨zab p.2.2.1,zar (zab p.2.2.1)⟩ (defBody p.2.2.1))=tab.map fun p=>some p.2.1.body:=by kernel_rfl
theorem tab_st:∀ p∈tab,St p.1 p.2.1 p.2.2.1 p.2.2.2:=fun p hp=>zxi (oml stAll p hp) (List.map_inj_left.mp trAll p hp)
theorem law_mem:(("law":Str),K04.zec,top 32,[("_law_script":Str)])∈tab:=(.tail _ (.tail _ (.tail _ (.tail _ (.tail _ (.tail _ (.tail _ (.tail _ (.tail _ (.tail _ (.tail _ (.tail _ (.tail _ (.tail _ (.tail _ (.tail _ (.tail _ (.tail _ (.tail _ (.tail _ (.tail _ (.tail _ (.tail _ (.tail _ (.tail _ (.tail _ (.head _)))))))))))))))))))))))))))
theorem put_st:PutS (top 28):=⟨by kernel_rfl,⟨by kernel_rfl,by kernel_rfl,by kernel_rfl,by decide +kernel,by decide +kernel,by decide +kernel,by decide +kernel⟩,by kernel_rfl,by kernel_rfl,by kernel_rfl⟩
theorem lam_nm:(spoL (top 30)).2.2.1.names=[(lamPx,.local),(lamNx,.free),("_law_otherwise",.globalImplicit)]:=by kernel_rfl
theorem spo_st:SpoS (top 30):=⟨by kernel_rfl,⟨by kernel_rfl,by kernel_rfl,by kernel_rfl,by decide +kernel,by decide +kernel,by decide +kernel,by decide +kernel⟩,by kernel_rfl,by kernel_rfl,by kernel_rfl,zte (a:=argOf (spoL (top 30)).1) (by kernel_rfl) (by kernel_rfl) (by kernel_rfl) lam_nm (by kernel_rfl) (by kernel_rfl) (by kernel_rfl),clo_of lam_nm⟩
theorem law_pure:∀ ns:List Int,ns.length<=63->run (tab.prT cons) 20 "law" [.lst (ns.map .int)]=some (.bl true):=fun ns hn=>K04.zk0 rfl (K04.zpi rfl rfl rfl rfl rfl rfl rfl rfl rfl rfl rfl rfl rfl rfl ⟨rfl,rfl,rfl,rfl,rfl⟩ rfl rfl rfl rfl rfl rfl rfl rfl rfl rfl rfl rfl) ns hn
end Ev
end
end
end
noncomputable section
noncomputable section
noncomputable section
namespace Ev
open PySem PySem.Spec PySem.W PyProof.Rows L2
noncomputable def qT:Program:=PySem.W.view pT [1,2,3,4,5,6,7,8,9,11,12,13,14,15,16,17,18,19,20,21,22,23,24,25,26,27,28,29,30,31,32]
noncomputable def xT (s:Shared):Bool:=xlAt qT [] s&&recOk [] s
noncomputable def sts:List (Str × Stmt):=[("is_text_of",top 3),("is_worth",top 4),("may_stand",top 5),("worths_of",top 6),("is_row",top 7),("is_store",top 8),("are_rows",top 9),("_law_cell_at",top 11),("_law_mixed",top 12),("_law_drawn",top 13),("_law_names",top 14),("_law_key",top 15),("_law_test",top 16),("_law_bare",top 17),("_law_pairs",top 18),("_law_rule",top 19),("_law_schema",top 20),("_law_worth",top 21),("_law_row",top 22),("_law_from",top 23),("_law_is_worth",top 24),("_law_is_row",top 25),("_law_are_rows",top 26),("_law_places_in",top 27),("_law_otherwise",top 29),("_law_once",top 31),("law",top 32),(spoF,top 30),(putF,top 28)]
noncomputable def hkT:Hook:=ziq sts bnames cons
noncomputable def hdL (w:World):=(openEnds treeTable pT w 1834).map fun s=>(openSeen qT [] (importedModules pT.main.body) xT true s,seeL (sts.map (·.1)) bnames (cons.map (·.1)) s.heap)
noncomputable def hdR (w:World):=some (openGood qT [],some (dueAll sts bnames cons,true))
lay_quick Ev.hdL Ev.hdR
theorem hd_left:∀ w,PySem.W.Fast.tw16613198539260469538 w=PySem.W.Fast.tw4742246816059606431 w:=fun w=>by kernel_rfl
theorem hd_left':LeftO PySem.Challenge.pw_dealtables_k07_lists_anywhere qT [] xT hkT.obs hkT.val 1834:=by
 rw [pT_eq]
 exact fun w=>((congrFun PySem.W.Fast.te16613198539260469538 w).trans (hd_left w)).trans (congrFun PySem.W.Fast.te4742246816059606431 w).symm
theorem nm_law:("law":Str)=⟨#[108,97,119]⟩:=by decide +kernel
noncomputable def dL:DefRec:=⟨⟨#[108,97,119]⟩,za4 (top 32),defBody (top 32),zab (top 32),(match top 32 with | .FunctionDef _ _ _ _ _ _ _ _ _ p=>p | _=>⟨0,0,0,0⟩)⟩
theorem hd_def:defOf qT ("law":Str)=some (dL,[]):=by rw [nm_law];kernel_rfl
theorem hd_the:Program.theDef PySem.Challenge.pw_dealtables_k07_lists_anywhere ("law":Str)=some (dL.params,dL.body,dL.scope):=by rw [pT_eq,nm_law];kernel_rfl
end Ev
open PySem PySem.W PyProof.Rows
set_option maxRecDepth 100000 in
set_option maxHeartbeats 0 in
theorem PySem.Challenge.cw_dealtables_k07_lists_anywhere_holds : PySem.Challenge.rw_dealtables_k07_lists_anywhere.Holds := by
 w_on;o_law
 refine PySem.W.holds_open (q:=Ev.qT) (loose:=[]) (Xt:=Ev.xT) (XP:=XL Ev.qT []) (Yf:=Ev.hkT.obs) (Ya:=Ev.hkT.val) (YP:=Ev.hkT.says) (N:=1834) Ev.hd_left' Ev.hkT.of Ev.hkT.keeps (fun s e=>xl_of s (Bool.and_eq_true_iff.mp e).1) XL.keeps Ev.hd_def Ev.hd_the rfl (fun s e=>recFacts_of (Bool.and_eq_true_iff.mp e).2) rfl (by assumption) (by first | k_qdec | decide +kernel) ⟨rfl,rfl,rfl,rfl,rfl,by decide +kernel⟩ ?hw ?hc
 case hw=>w_witness2
 case hc=>exact Ev.zky (l:=PySem.Challenge.rw_dealtables_k07_lists_anywhere) (n:=63) (k:=19) (x:="_law_script") (tab:=Ev.tab) (cs:=Ev.cons) rfl (by decide) rfl ⟨rfl,by decide,by decide⟩ Ev.nm_law.symm Ev.tab_st Ev.spo_st Ev.put_st (Ev.zn0 (ps:=[Ev.spoT,Ev.lamNx,Ev.spoD]) (by kernel_rfl) (by kernel_rfl) (by decide +kernel)) (Ev.zn0 (ps:=[Ev.putO,Ev.putW,Ev.putB]) (by kernel_rfl) (by kernel_rfl) (by decide +kernel)) Ev.law_mem rfl rfl rfl rfl Ev.law_pure
end
end
end
