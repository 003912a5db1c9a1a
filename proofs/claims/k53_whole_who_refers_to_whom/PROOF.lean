import PyProof.Rows.All
import Wide.All
import OpenK.AllK
import Wide.FinOn
import Lean
import PyProof.EqAt
import PyProof.EqKinds
import PyProof.TupleCall
import PySem.Syntax
import PySem.Builtin.Str.Common
import PySem.Eval
import PyProof.CompFree
import PyProof.Cells
import PyProof.NeKinds
import PyProof.FString5
import PyProof.Draws
import PyProof.EnumMake
import PyProof.TupleIter
import PyProof.EnumFor
import KE.KSortTup
import KE.KDictSum
import KE.KItemsList
import PyProof.Rows.SetFrom
import PyProof.Rows.SetListFold
import PyProof.IsiH_list
import PyProof.AttrMiss
import KE.KDictOf
import PyProof.ZipIter
import PyProof.DictValues
import PySem.Challenge.RW_dealtables_k53_whole_who_refers_to_whom
set_option Elab.async false
set_option linter.all false
set_option maxRecDepth 100000
set_option maxHeartbeats 8000000
set_option genSizeOf false
noncomputable section
open PySem Spec PyProof.Rows
def ua0:=@List.mem_map
def ua1:=@List.mem_cons
def ua2:=@eq_of_beq
def ua3:=@List.size_toArray
def ua4:=@List.getElem?_set_self
def ua5:=@List.getElem_mem
def ua6:=@List.flatMap_cons
def ua7:=@List.nodup_cons
def ua8:=@List.map_congr_left
def ua9:=@beq_self_eq_true
def ub0:=@List.filter_cons
def ub1:=@List.length_set
def ub2:=@Array.getElem?_eq_getElem
def ub3:=@Heap.SameBut.update
def ub4:=@wpAny_field
def ub5:=@sizeLine_eq
def ub6:=@List.mem_of_mem_take
def ub7:=@List.any_cons
def ub8:=@wpAny_pyIter_tuple
def ub9:=@List.mem_filter
def uc0:=@Int.emod_lt_of_pos
def uc1:=@List.all_eq_true
def uc2:=@wpAny_holding
def uc3:=@beq_eq_false_iff_ne
def uc4:=@List.getElem?_append_right
def uc5:=@List.getElem?_append_left
def uc6:=@List.sum_cons
def uc7:=@Int.emod_nonneg
def uc8:=@wpAny_dictEntries
def uc9:=@Heap.get?_update_ne
def ud0:=@wpAny_typeNameOfWhole_valiter
def ud1:=@wpAny_typeNameOfWhole_keyiter
def ud2:=@wpAny_seqItems
def ud3:=@wpAny_fieldsOf
def ud4:=@List.nodup_nil
def ud5:=@List.pairwise_cons
def ud6:=@wpAny_setField_rec
def ud7:=@Obj.data_mapFields
def ud8:=@List.mem_filterMap
def ud9:=@List.length_filter_le
def ue0:=@List.getElem?_eq_none
def ue1:=@Option.bind_eq_some_iff
def ue2:=@List.mem_append
def ue3:=@List.mem_singleton
def ue4:=@List.mem_flatMap
def ue5:=@beq_iff_eq
def zzf:=@Heap.get?_push_of_some
def zzg:=@wpAny_bind
def zzh:=@Option.bind_some
def zzi:=@List.map_cons
def zzl:=@wpAny_pure
def zzm:=@List.getElem?_eq_getElem
def zzn:=@Bool.and_eq_true
def zzo:=@List.length_map
def zzp:=@Heap.get?_push_size
def zzq:=@List.mem_cons_of_mem
def zzr:=@List.getD_eq_getElem?_getD
def zzs:=@List.size_toArray
def zzt:=@List.mem_cons_self
def zzu:=@List.append_nil
def zzv:=@Heap.lt_size
def zzw:=@Nat.le_refl
def zzx:=@Bool.false_ne_true
def zzy:=@List.length_append
def zzz:=@congrArg
def zz0:=@decide_eq_true
def zz1:=@Nat.lt_of_lt_of_le
def zz2:=@Option.some.inj
def zz3:=@Heap.size_push
def zz4:=@List.length_cons
def zz5:=@Nat.ne_of_lt
def zz6:=@List.map_append
def zz7:=@decide_eq_false
def zz8:=@Nat.le_trans
def zz9:=@Array.length_toList
def zAa:=@List.getElem?_set_ne
def zAb:=@List.getElem?_map
def zAc:=@wpAny_call_entry
def zAd:=@Nat.zero_le
def zAe:=@List.map_map
def zAf:=@of_decide_eq_true
def zAg:=@Bool.false_eq_true
def zAh:=@List.filterMap_cons
def zAi:=@wpAny_newObj_type
def zAj:=@List.lookup_cons
def zAk:=@List.append_assoc
def zAl:=@wpAny_callSpecial?_slot
def zAm:=@List.mem_of_getElem?
def zAn:=@List.mem_append_right
def zAo:=@List.getElem?_append_left
def zAp:=@Nat.lt_irrefl
def zAq:=@List.getElem?_append_right
def zAt:=@List.mem_range
def zAu:=@decide_eq_true_eq
def zAv:=@List.length_take
def zAw:=@Array.getElem?_toList
def zAx:=@Nat.succ_le_succ
def zAy:=@wpAny_mono
theorem xgz {α:Type _} {a:α} {l:List α}:(a::l)[0]?=some a:=rfl
theorem xgs {α:Type _} {a:α} {l:List α} {i:Nat}:(a::l)[i+1]?=l[i]?:=rfl
theorem xbs {α β:Type _} {a:α} {f:α->Option β}:(some a).bind f=f a:=rfl
theorem xjs {α:Type _} {a:Option α}:(some a).join=a:=rfl
theorem xmc {α β:Type _} {a:α} {l:List α} {f:α->β}:(a::l).map f=f a::l.map f:=rfl
theorem xmn {α β:Type _} {f:α->β}:[].map f=[]:=rfl
theorem xms {α β:Type _} {a:α} {f:α->β}:(some a).map f=some (f a):=rfl
theorem xss {α:Type _} {a b:α} {l:List α} {n:Nat}:(a::l).set (n+1) b=a::l.set n b:=rfl
theorem xsz {α:Type _} {a b:α} {l:List α}:(a::l).set 0 b=b::l:=rfl
end
theorem obs {α β:Type} {o:Option α} {f:α->Option β} {b:β}:o.bind f=some b->∃ a,o=some a/\f a=some b:=ue1.mp
theorem oms {α β:Type} {o:Option α} {f:α->β} {b:β}:o.map f=some b->∃ a,o=some a/\f a=b:=Option.map_eq_some_iff.mp
theorem omc {α:Type} {a b:α} {l:List α}:a∈b::l->a=b\/a∈l:=ua1.mp
theorem oma {α:Type} {a:α} {s t:List α}:a∈s++t->a∈s\/a∈t:=ue2.mp
theorem omm {α β:Type} {f:α->β} {l:List α} {b:β}:b∈l.map f->∃ a,a∈l/\f a=b:=ua0.mp
theorem omg {α:Type} {a b:α}:a∈[b]->a=b:=ue3.mp
theorem oml {α:Type} {p:α->Bool} {l:List α}:l.all p=true->∀ x,x∈l->p x=true:=uc1.mp
theorem ome {α:Type} {l:List α} {i:Nat} {a:α}:l[i]?=some a->∃ h:i<l.length,l[i]=a:=List.getElem?_eq_some_iff.mp
section
namespace L2
open PySem Spec PyProof.Rows
section
abbrev Key:=Sum Int (Option Str)
def ya2:Value->Bool
 | .none=>true
 | _=>false
theorem zij {v:Value} (h:ya2 v=true):v=Value.none:=by cases v<;>first | rfl | cases h
def yc8:Key->Value->Bool
 | .inl k,v=>Value.isInt k v
 | .inr (some x),v=>Value.isStrOf x v
 | .inr none,v=>ya2 v
def keyH (w:World):Key->Int
 | .inl k=>hashInt k
 | .inr (some x)=>hashStr w x
 | .inr none=>4238894112
theorem zaw:∀ {k:Key} {v:Value},yc8 k v=true->(∃ i t,k=Sum.inl i/\v=Value.int i t)\/(∃ x t,k=Sum.inr (some x)/\v=Value.str x t)\/(k=Sum.inr none/\v=Value.none)
 | .inl i,v,h=>by obtain ⟨t,e⟩:=Value.isInt_shape (k:=i) (v:=v) h;exact .inl ⟨i,t,rfl,e⟩
 | .inr (some x),v,h=>by obtain ⟨t,e⟩:=Value.isStrOf_shape (x:=x) (v:=v) h;exact .inr (.inl ⟨x,t,rfl,e⟩)
 | .inr none,v,h=>.inr (.inr ⟨rfl,zij h⟩)
theorem zmu (i:Int) (t:Tok):yc8 (.inl i) (.int i t)=true:=by simp [yc8,Value.isInt]
theorem zmt (x:Str) (t:Tok):yc8 (.inr (some x)) (.str x t)=true:=by simp [yc8,Value.isStrOf]
theorem zw6 (a b:Int):decide ((Sum.inl a:Key)=Sum.inl b)=(a==b):=by
 by_cases e:a=b
 .subst e;simp
 .have h:¬ (Sum.inl a:Key)=Sum.inl b:=fun q=>e (Sum.inl.inj q);rw [zz7 h];exact (uc3.mpr e).symm
theorem zw3 (a b:Str):decide ((Sum.inr (some a):Key)=Sum.inr (some b))=decide (a=b):=by
 by_cases e:a=b
 .subst e;simp
 .have h:¬ (Sum.inr (some a):Key)=Sum.inr (some b):=fun q=>e (zz2 (Sum.inr.inj q));rw [zz7 h,zz7 e]
theorem zrd (a:Int) (b:Option Str):decide ((Sum.inl a:Key)=Sum.inr b)=false:=zz7 (fun q=>nomatch q)
theorem zrb (a:Option Str) (b:Int):decide ((Sum.inr a:Key)=Sum.inl b)=false:=zz7 (fun q=>nomatch q)
theorem zw2 (a:Str):decide ((Sum.inr (some a):Key)=Sum.inr none)=false:=zz7 (fun q=>nomatch (Sum.inr.inj q))
theorem zw4 (a:Str):decide ((Sum.inr none:Key)=Sum.inr (some a))=false:=zz7 (fun q=>nomatch (Sum.inr.inj q))
theorem zw5:decide ((Sum.inr none:Key)=Sum.inr none)=true:=zz0 rfl
theorem zcn {prog:Program} {w:World} {A:Around} {E:Value->Shared->Prop} {s:Shared} {Q:Int->Shared->Prop} (h:Q 4238894112 { s with toks:=s.toks+1 }):wpAny (model prog w) A (PySem.pyHash .none) Q E s :=
 PySem.W.pyHash_slot (T:="NoneType") rfl PySem.F.slot_NoneType_hash PySem.F.entry_NoneType_hash (PySem.F.args_NoneType_hash_1 _) (beq_builtin_none _) (.inl rfl) (zzg (zzl (zzg (wpAny_mkInt (zzl ⟨_,_,rfl,h⟩)))))
def zak (prog:Program) (w:World):PySem.KeyKind prog w Key where
 is:=yc8
 hash:=keyH w
 inj:=fun v a b ha hb=>by rcases zaw ha with ⟨i,t,rfl,rfl⟩ | ⟨x,t,rfl,rfl⟩ | ⟨rfl,rfl⟩<;>rcases zaw hb with ⟨j,u,rfl,e⟩ | ⟨y,u,rfl,e⟩ | ⟨rfl,e⟩<;>first | (cases e;rfl) | cases e
 byValue:=fun k v h=>by rcases zaw h with ⟨i,t,rfl,rfl⟩ | ⟨x,t,rfl,rfl⟩ | ⟨rfl,rfl⟩<;>rfl
 pyHash:=fun hv h=>by
  rcases zaw hv with ⟨i,t,rfl,rfl⟩ | ⟨x,t,rfl,rfl⟩ | ⟨rfl,rfl⟩
  .exact wpAny_pyHash_int h
  .exact wpAny_pyHash_str h
  .exact zcn h
 eqBool:=fun hu hv h=>by
  rcases zaw hu with ⟨i,t,rfl,rfl⟩ | ⟨x,t,rfl,rfl⟩ | ⟨rfl,rfl⟩
  .rcases zaw hv with ⟨j,u,rfl,rfl⟩ | ⟨y,u,rfl,rfl⟩ | ⟨rfl,rfl⟩
   .rw [zw6] at h;exact wpAny_eqBool_int h
   .rw [zrd] at h;exact SeqAt.EqAt.int_str i t y u _ _ _ _ h
   .rw [zrd] at h;exact SeqAt.EqAt.int_none i t _ _ _ _ h
  .rcases zaw hv with ⟨j,u,rfl,rfl⟩ | ⟨y,u,rfl,rfl⟩ | ⟨rfl,rfl⟩
   .rw [zrb] at h;exact SeqAt.EqAt.str_int x t j u _ _ _ _ h
   .rw [zw3] at h;exact wpAny_eqBool_str h
   .rw [zw2] at h;exact SeqAt.EqAt.str_none x t _ _ _ _ h
  .rcases zaw hv with ⟨j,u,rfl,rfl⟩ | ⟨y,u,rfl,rfl⟩ | ⟨rfl,rfl⟩
   .rw [zrb] at h;exact SeqAt.EqAt.none_int j u _ _ _ _ h
   .rw [zw4] at h;exact SeqAt.EqAt.none_str y u _ _ _ _ h
   .rw [zw5] at h;exact SeqAt.EqAt.same .none _ _ _ _ h
 «strs»:=fun k x t v h=>by
  rcases zaw h with ⟨i,u,rfl,e⟩ | ⟨y,u,rfl,e⟩ | ⟨rfl,e⟩
  .exact nomatch e
  .injection e with e1 _;subst e1;cases v<;>rfl
  .exact nomatch e
theorem zib (prog:Program) (w:World) (i:Int) (t:Tok):(zak prog w).is (.inl i) (.int i t)=true:=zmu i t
theorem zia (prog:Program) (w:World) (x:Str) (t:Tok):(zak prog w).is (.inr (some x)) (.str x t)=true:=zmt x t
end
section
variable {b:Addr}
inductive V where
 | non | bl (b:Bool) | int (i:Int) | str (x:Str) | byt (b:Array UInt8) | flt (b:UInt64) | ref (a:Addr) | ty (n:String)
 deriving DecidableEq
def RelV:V->Value->Prop
 | .non,u=>u=Value.none
 | .bl b,u=>u=Value.bool b
 | .int i,u=>∃ t,u=Value.int i t
 | .str x,u=>∃ t,u=Value.str x t
 | .byt b,u=>∃ t,u=Value.bytes b t
 | .flt b,u=>∃ t,u=Value.float b t
 | .ref a,u=>u=Value.ref a
 | .ty n,u=>u=Value.type n
abbrev Vals:List V->List Value->Prop:=Paired RelV
theorem Vals.length {xs:List V} {us:List Value} (r:Vals xs us):xs.length=us.length:=Paired.length r
theorem Vals.get:∀ {xs:List V} {us:List Value} {i:Nat} {x:V},Vals xs us->xs[i]?=some x->∃ u,us[i]?=some u/\RelV x u
 | _,_,_,_,.nil,e=>by simp at e
 | _,_,0,_,.cons r _,e=>by simp at e;subst e;exact ⟨_,rfl,r⟩
 | _,_,i+1,x,.cons _ t,e=>by obtain ⟨u,h1,h2⟩:=Vals.get (i:=i) (x:=x) t (by simpa using e);exact ⟨u,by simpa using h1,h2⟩
theorem Vals.append:∀ {xs ys:List V} {us ws:List Value},Vals xs us->Vals ys ws->Vals (xs++ys) (us++ws)
 | _,_,_,_,.nil,s=>s
 | _,_,_,_,.cons r t,s=>.cons r (Vals.append t s)
theorem Vals.take:∀ {xs:List V} {us:List Value} (n:Nat),Vals xs us->Vals (xs.take n) (us.take n)
 | _,_,0,_=>.nil
 | _,_,_+1,.nil=>.nil
 | _,_,n+1,.cons r t=>.cons r (Vals.take n t)
theorem Vals.drop:∀ {xs:List V} {us:List Value} (n:Nat),Vals xs us->Vals (xs.drop n) (us.drop n)
 | _,_,0,r=>r
 | _,_,_+1,.nil=>.nil
 | _,_,n+1,.cons _ t=>Vals.drop n t
def RelO:Option V->Option Value->Prop
 | some v,some u=>RelV v u
 | none,none=>True
 | _,_=>False
def KV {κ:Type}:List (κ × V)->List (κ × Value)->Prop:=Paired fun (p:κ × V) (q:κ × Value)=>p.1=q.1/\RelV p.2 q.2
def kV:Key->V
 | .inl i=>.int i
 | .inr (some x)=>.str x
 | .inr none=>.non
inductive HO where
  | lst (xs:List V)
  | tup (xs:List V)
  | dK (qb:List (Key × V)) | dT (qb:List (List Key × V))
  | set (S:Int->Bool) (n:Nat)
  | ins (C dx:Addr) (fs:List (Str × V))
  | own (x:Addr)
  | xd (fs:List (Str × V))
  | met (f x:Addr)
  | rng (lo hi:Int)
  | frz (o:Obj) (u:HO)
  | tbl (ps:Array Value)
  | ext (φ:Heap->Prop)
abbrev Hp:=Addr->Option HO
def upd (H:Hp) (a:Addr) (o:HO):Hp:=fun b=>if b=a then some o else H b
theorem zah {H:Hp} {a:Addr} {o:HO}:upd H a o a=some o:=by unfold upd;rw [if_pos rfl]
theorem zad {H:Hp} {a:Addr} {o:HO} (h:b≠a):upd H a o b=H b:=by unfold upd;rw [if_neg h]
theorem zh7 {H:Hp} {a:Addr} {o u:HO} (h:H a=some o) (h':H b=some u) (d:o≠u):a≠b:=by intro e;subst e;rw [h] at h';exact d (zz2 h')
theorem zae {H:Hp} {a:Addr} {o:HO} (h:H a=some o) (h':H b=none):a≠b:=by intro e;subst e;rw [h] at h';cases h'
section
variable (P:Program) (w:World)
def ObjOk (H:Hp) (h:Heap) (a:Addr):HO->Prop
 | .lst xs=>xs.length<=sizeLine/\∃ (qc:List Value) (n:Nat),Vals xs qc/\h.get? a=some { cls:=.type "list",data:=.seq qc.toArray n }
 | .tup xs=>xs.length<=sizeLine/\∃ qc:List Value,Vals xs qc/\IsTup h a qc.toArray
 | .dK qb=>qb.length<=sizeLine/\(a==sysModules)=false/\∃ vs,KV qb vs/\h.DictOf (zak P w) a vs
 | .dT qb=>qb.length<=sizeLine/\(a==sysModules)=false/\∃ xs:List (List Key × Addr × Value),
   Paired (fun (p:List Key × V) (q:List Key × Addr × Value)=>p.1=q.1/\H q.2.1=some (.tup (p.1.map kV))/\RelV p.2 q.2.2) qb xs /\
   ∃ o es ep,h.get? a=some o/\o.ExactDict/\o.data=.dict es ep/\es.toList=xs.map (entryOfKey (tupleKind (zak P w)))/\(xs.map (·.1)).Nodup
 | .set S n=>h.SetOf (intKind P w) a S n
 | .ins C dx fs=>H dx=some (.own a)/\fs.length<=1000/\dx≠a/\h.get? a=some (W.instObj C dx) /\
   ∃ mA,h.Ns1 dx mA/\(∀ f,RelO (fs.lookup f) (mA f))/\PySem.Within mA (fs.map (·.1))
 | .own _=>∃ o,h.get? a=some o
 | .xd fs=>∃ mA,h.Ns1 a mA/\∀ f,RelO (fs.lookup f) (mA f)
 | .rng lo hi=>∃ t u v,h.get? a=some { cls:=.type "range",data:=.fields #[.int lo t,.int hi u,.int 1 v] }
 | .frz o u=>h.get? a=some o/\ObjOk H h a u
 | .tbl ps=>h.get? a=some { cls:=.none,data:=.fields ps }
 | .met f x=>h.get? a=some (W.methodObj (.ref f) (.ref x))
 | .ext φ=>φ h/\(∃ o,h.get? a=some o)/\∀ h1 h2:Heap,φ h1->(∀ o,h1.get? a=some o->h2.get? a=some o)->φ h2
def HOk (H:Hp) (h:Heap):Prop:=∀ a o,H a=some o->ObjOk P w H h a o
end
section
variable {P:Program} {w:World} {H H':Hp} {h h':Heap} {a:Addr} {o:HO}
theorem ObjOk.lt (x:ObjOk P w H h a o):a<h.objs.size:=by
 cases o with
 | lst xs=>obtain ⟨_,_,_,_,e⟩:=x;exact zzv e
 | tup xs=>obtain ⟨_,_,_,p⟩:=x;exact p.lt
 | dK qb=>obtain ⟨_,_,_,_,o,_,_,e,_⟩:=x;exact zzv e
 | dT qb=>obtain ⟨_,_,_,_,o,_,_,e,_⟩:=x;exact zzv e
 | set S n=>obtain ⟨o,_,_,_,e,_⟩:=x;exact zzv e
 | ins C dx fs=>obtain ⟨_,_,_,e,_⟩:=x;exact zzv e
 | own y=>obtain ⟨_,e⟩:=x;exact zzv e
 | xd fs=>obtain ⟨_,⟨_,_,_,e,_⟩,_⟩:=x;exact zzv e
 | rng lo hi=>obtain ⟨_,_,_,e⟩:=x;exact zzv e
 | frz ob u=>obtain ⟨e,_⟩:=x;exact zzv e
 | tbl ps=>exact zzv (show h.get? a=some _ from x)
 | met f y=>exact zzv (show h.get? a=some _ from x)
 | ext φ=>obtain ⟨_,⟨_,e⟩,_⟩:=x;exact zzv e
theorem Paired.mapP {α β:Type} {F G:α->β->Prop}:∀ {l₁:List α} {l₂:List β},Paired F l₁ l₂->(∀ a b,F a b->G a b)->Paired G l₁ l₂
 | _,_,.nil,_=>.nil
 | _,_,.cons r t,f=>.cons (f _ _ r) (Paired.mapP t f)
theorem ObjOk.stay (x:ObjOk P w H h a o) (k:∀ b u,(b=a\/H b=some (.own a))->h.get? b=some u->h'.get? b=some u)
  (ho:∀ b,H b=some (.own a)->H' b=some (.own a)) (ht:∀ b xs,H b=some (.tup xs)->H' b=some (.tup xs)):ObjOk P w H' h' a o:=by
 induction o with
 | lst xs=>obtain ⟨z,qc,n,r,e⟩:=x;exact ⟨z,qc,n,r,k _ _ (.inl rfl) e⟩
 | tup xs=>obtain ⟨z,qc,r,ob,e,c⟩:=x;exact ⟨z,qc,r,ob,k _ _ (.inl rfl) e,c⟩
 | dK qb=>obtain ⟨z,y,vs,r,ob,es,ep,e,c⟩:=x;exact ⟨z,y,vs,r,ob,es,ep,k _ _ (.inl rfl) e,c⟩
 | dT qb =>obtain ⟨z,y,xs,r,ob,es,ep,e,c⟩:=x;exact ⟨z,y,xs,Paired.mapP r fun p q z=>⟨z.1,ht _ _ z.2.1,z.2.2⟩,ob,es,ep,k _ _ (.inl rfl) e,c⟩
 | set S n=>obtain ⟨ob,es,ep,t,e,c⟩:=x;exact ⟨ob,es,ep,t,k _ _ (.inl rfl) e,c⟩
 | ins C dx fs =>obtain ⟨d,z,ne,e,mA,⟨od,es,ep,e2,c⟩,r⟩:=x;exact ⟨ho _ d,z,ne,k _ _ (.inl rfl) e,mA,⟨od,es,ep,k _ _ (.inr d) e2,c⟩,r⟩
 | own y=>obtain ⟨ob,e⟩:=x;exact ⟨ob,k _ _ (.inl rfl) e⟩
 | xd fs=>obtain ⟨mA,⟨od,es,ep,e,c⟩,r⟩:=x;exact ⟨mA,⟨od,es,ep,k _ _ (.inl rfl) e,c⟩,r⟩
 | rng lo hi=>obtain ⟨t,u,v,e⟩:=x;exact ⟨t,u,v,k _ _ (.inl rfl) e⟩
 | frz ob u ih=>obtain ⟨e,q⟩:=x;exact ⟨k _ _ (.inl rfl) e,ih q⟩
 | tbl ps =>have e:h.get? a=some { cls:=.none,data:=.fields ps }:=x;show h'.get? a=some { cls:=.none,data:=.fields ps };exact k a _ (.inl rfl) e
 | met f y =>have e:h.get? a=some (W.methodObj (.ref f) (.ref y)):=x;show h'.get? a=some (W.methodObj (.ref f) (.ref y));exact k a _ (.inl rfl) e
 | ext φ=>obtain ⟨p,⟨o,e⟩,st⟩:=x;exact ⟨st _ _ p fun o q=>k _ _ (.inl rfl) q,⟨o,k _ _ (.inl rfl) e⟩,st⟩
theorem HOk.lt (x:HOk P w H h) (e:H a=some o):a<h.objs.size:=(x a o e).lt
theorem HOk.fresh (x:HOk P w H h) (e:h.objs.size<=a):H a=none:=by
 cases q:H a with
 | none=>rfl
 | some u=>exact absurd (zz1 (x.lt q) e) (zAp _)
theorem HOk.kept (x:HOk P w H h) (k:∀ b u,h.get? b=some u->h'.get? b=some u):HOk P w H h':=fun a o e =>(x a o e).stay (fun b u _ q=>k b u q) (fun _ q=>q) fun _ _ q=>q
theorem HOk.laid (x:HOk P w H h) (k:∀ b u,h.get? b=some u->h'.get? b=some u) (hp:h.objs.size<=a) (new:ObjOk P w (upd H a o) h' a o):HOk P w (upd H a o) h':=fun b u e=>by
 have hn:=x.fresh hp;by_cases hb:b=a
 .subst hb;rw [zah] at e;cases e;exact new
 .rw [zad hb] at e;exact (x b u e).stay (fun c v _ q=>k c v q) (fun c q=>by rw [zad (zae q hn)];exact q) fun c xs q=>by rw [zad (zae q hn)];exact q
end
def Rd (H:Hp) (a:Addr) (u:HO):Prop:=H a=some u\/∃ o,H a=some (.frz o u)
theorem Rd.ok {P:Program} {w:World} {H:Hp} {h:Heap} {a:Addr} {u:HO} (r:Rd H a u) (x:HOk P w H h):ObjOk P w H h a u:=by
 rcases r with r | ⟨o,r⟩
 .exact x a u r
 .obtain ⟨_,q⟩:=x a _ r;exact q
def Mut:Option HO->Prop
 | some (.lst _)=>True
 | some (.dK _)=>True
 | some (.dT _)=>True
 | some (.set _ _)=>True
 | some (.ins _ _ _)=>True
 | some (.ext _)=>True
 | _=>False
section
variable {P:Program} {w:World} {H:Hp} {h h':Heap} {x e:Addr} {o':HO}
theorem HOk.write (ok:HOk P w H h) (mu:Mut (H x)) (he:e=x\/H e=some (.own x)) (k:∀ b u,b≠e->h.get? b=some u->h'.get? b=some u) (heo:∃ u,h'.get? e=some u)
  (new:ObjOk P w (upd H x o') h' x o'):HOk P w (upd H x o') h':=fun b u q=>by
 have nown:∀ c y,H c=some (.own y)->c≠x:=fun c y r z=>by subst z;rw [r] at mu;exact mu
 have ntup:∀ c xs,H c=some (.tup xs)->c≠x:=fun c xs r z=>by subst z;rw [r] at mu;exact mu
 by_cases hb:b=x
 .subst hb;rw [zah] at q;cases q;exact new
 .rw [zad hb] at q;by_cases hbe:b=e
  .have q':H b=some (.own x):=by
    rcases he with z | z
    .exact absurd (hbe.trans z) hb
    .rw [hbe];exact z
   rw [q] at q';cases q';obtain ⟨v,hv⟩:=heo;exact ⟨v,by rw [hbe];exact hv⟩
  .refine (ok b u q).stay (fun c v hc r=>k c v ?_ r) (fun c r=>by rw [zad (nown c b r)];exact r) fun c xs r=>by rw [zad (ntup c xs r)];exact r
   rcases hc with rfl | hc
   .exact hbe
   .rintro rfl;rcases he with z | z
    .exact nown c b hc z
    .rw [hc] at z;cases z;exact hb rfl
end
structure Un (fs ex:List Addr) (H H':Hp) (h h':Heap):Prop where
 keep:∀ b o,h.get? b=some o->H b=none->b∉fs->b∉ex->h'.get? b=some o
 slot:∀ b o,h.get? b=some o->H b=none->b∈fs->b∉ex->∃ sl,h'.get? b=some { o with slots:=sl }
 free:∀ b o,h.get? b=some o->H b=none->b∉ex->H' b=none
 there:∀ b o,h.get? b=some o->b∉ex->∃ o',h'.get? b=some o'
 tups:∀ b xs,H b=some (.tup xs)->H' b=some (.tup xs)
 frzs:∀ b o u,H b=some (.frz o u)->H' b=some (.frz o u)
 tbls:∀ b ps,H b=some (.tbl ps)->∃ ydd,H' b=some (.tbl (ps++ydd))
section
variable {fs fs' ex ex':List Addr} {H H1 H2:Hp} {h h1 h2 h':Heap} {a x e:Addr} {o:HO}
theorem Un.any (u:Un fs ex H H1 h h1) {ob:Obj} (q:h.get? b=some ob) (n:H b=none) (hx:b∉ex):∃ sl,h1.get? b=some { ob with slots:=sl }:=by
 by_cases hb:b∈fs
 .exact u.slot b ob q n hb hx
 .exact ⟨ob.slots,u.keep b ob q n hb hx⟩
theorem Un.kept (k:∀ b u,h.get? b=some u->h'.get? b=some u):Un fs ex H H h h' :=
 ⟨fun b ob q _ _ _=>k b ob q,fun b ob q _ _ _=>⟨ob.slots,k b ob q⟩,fun _ _ _ n _=>n,fun b ob q _=>⟨ob,k b ob q⟩,fun _ _ q=>q,fun _ _ _ q=>q,fun _ ps q=>⟨#[],by rw [q];simp⟩⟩
theorem Un.refl:Un fs ex H H h h:=Un.kept fun _ _ q=>q
theorem Un.laid (k:∀ b u,h.get? b=some u->h'.get? b=some u) (hp:h.objs.size<=a) (hn:H a=none):Un fs ex H (upd H a o) h h' where
 keep:=fun b u q _ _ _=>k b u q
 slot:=fun b u q _ _ _=>⟨u.slots,k b u q⟩
 free:=fun b u q n _=>by rw [zad (zz5 (zz1 (zzv q) hp))];exact n
 there:=fun b u q _=>⟨u,k b u q⟩
 tups:=fun b xs q=>by rw [zad (zae q hn)];exact q
 frzs:=fun b u xs q=>by rw [zad (zae q hn)];exact q
 tbls:=fun b ps q=>⟨#[],by rw [zad (zae q hn),q];simp⟩
theorem Un.write (mu:Mut (H x)) (he:e=x\/H e=some (.own x)) (k:∀ b u,b≠e->h.get? b=some u->h'.get? b=some u) (heo:∃ u,h'.get? e=some u):Un fs ex H (upd H x o) h h':=by
 have hx:∀ b,H b=none->b≠x:=fun b n z=>by subst z;rw [n] at mu;exact mu
 have hb:∀ b,H b=none->b≠e:=fun b n z=>by
  subst z;rcases he with r | r
  .exact hx b n r
  .rw [n] at r;cases r
 have hm:∀ b u,H b=some u->¬ Mut (some u)->b≠x:=fun b u q nm z=>by subst z;rw [q] at mu;exact nm mu
 refine ⟨fun b u q n _ _=>k b u (hb b n) q,fun b u q n _ _=>⟨u.slots,k b u (hb b n) q⟩,fun b u q n _=>by rw [zad (hx b n)];exact n,fun b u q _=>?_,
  fun b xs q=>by rw [zad (hm b _ q fun z=>z)];exact q,fun b u xs q=>by rw [zad (hm b _ q fun z=>z)];exact q,fun b ps q=>⟨#[],by rw [zad (hm b _ q fun z=>z),q];simp⟩⟩
 by_cases hbe:b=e
 .subst hbe;exact heo
 .exact ⟨u,k b u hbe q⟩
end
def trk (h:Heap) (H:Hp):List Addr:=(List.range h.objs.size).filter fun a=>(H a).isSome
def yd4 (h:Heap) (H:Hp):Heap:=PySem.W.hideAll h (trk h H)
theorem zm7 (h:Heap) (H:Hp):(yd4 h H).objs.size=h.objs.size:=PySem.W.hideAll_size _ _
theorem zp8 {h:Heap} {H:Hp} {o:Obj} (e:h.get? b=some o) (n:H b=none):(yd4 h H).get? b=some o :=
 PySem.W.hideAll_get _ e fun hm=>by have q:(H b).isSome=true:=(ub9.mp hm).2;rw [n] at q;simp at q
theorem ztl {h:Heap} {H:Hp} {o:Obj} (e:(yd4 h H).get? b=some o):h.get? b=some o/\H b=none:=by
 have e':h.get? b=some o:=PySem.W.of_hideAll (trk h H) e;refine ⟨e',?_⟩;cases q:H b with
 | none=>rfl
 | some x =>have hm:b∈trk h H:=ub9.mpr ⟨List.mem_range.mpr (Heap.lt_size e'),by simp [q]⟩;have z:(yd4 h H).get? b=none:=PySem.W.hideAll_none (trk h H) hm;rw [z] at e;cases e
def zun (g h:Heap) (L:Addr):List (Addr × Obj):=(List.range h.objs.size).filterMap fun a=>if a=L\/(g.get? a).isSome=true then none else (h.get? a).map fun o=>(a,o)
def rest (g h:Heap) (L d:Addr):List (Addr × Obj):=(zun g h L).filter fun p=>decide (p.1≠d)
end
section
variable {t' i:Nat} {ch:List Addr} {x:Str} {A:Around} {E:Value->Shared->Prop}
structure Mod (K:W.Frag) (mg:Str->Option Value) (base:Heap):Prop where
 kin:K.In base
 glob:base.Ns mainGlobals mg
 blt:∃ mb,base.Ns builtinsNs mb/\∀ x:Str,x≠"__name__"->mb x=bootBuiltins x
 nolimit:base.NoLimit
structure Cx where
 prog:Program
 w:World
 K:W.Frag
 mg:Str->Option Value
 base:Heap
 A:Around
 N:List Str
 s₀:Shared
 H₀:Hp
 env:Env
 outer:List Env
 stack:List Env
 ex:List Addr
 fn:Str->Bool
 calm:Bool
 pn:List (Addr × Obj)
 xe:Value->Shared->Prop
def frs (l:List Env):List Addr:=l.filterMap (·.frame)
abbrev Cx.fs (X:Cx):List Addr:=frs X.outer
def Vis (sc:Scope) (x:Str):Prop:=sc.names.lookup x=some .local\/sc.names.lookup x=some .cell\/sc.names.lookup x=some .free
def Loc (sc:Scope) (x:Str):Prop:=sc.names.lookup x=some .local\/sc.names.lookup x=some .cell
def Look (env:Env) (h:Heap) (m:Str->Option Value) (x:Str) (u:Value):Prop :=
 (env.kindOf x=some .local/\m x=some u)\/((env.kindOf x=some .cell\/env.kindOf x=some .free)/\∃ c,env.cells.lookup x=some c/\h.IsCell c (some u))
structure Cx.Ok (X:Cx):Prop where
 mod:Mod X.K X.mg X.base
 kind:X.env.scope.kind=.function
 glob:X.env.globals=mainGlobals
 blt:X.env.builtins=builtinsNs
 above:X.s₀.heap.objs.size<=X.env.locals
 inj:∀ x y c,X.env.cells.lookup x=some c->X.env.cells.lookup y=some c->x=y
 has:∀ x,(X.env.kindOf x=some .cell\/X.env.kindOf x=some .free)->∃ c,X.env.cells.lookup x=some c
 cab:∀ x c,X.fn x=true->X.env.cells.lookup x=some c->X.s₀.heap.objs.size<=c
 hd:X.calm=true->X.A.handled=none
 frames:X.A.frames=some X.stack
 stk:X.stack=X.outer\/(X.stack=X.env::X.outer/\X.env.frame=some X.env.locals)
 exf:∀ b∈X.ex,b≠X.env.locals/\∀ x c,X.env.cells.lookup x=some c->c≠b
 bs:∀ b o,X.base.get? b=some o->X.s₀.heap.get? b=some o/\X.H₀ b=none
 bsz:X.base.objs.size<=X.s₀.heap.objs.size
 noex:∀ b o,X.base.get? b=some o->b∉X.ex
 exfs:∀ b∈X.ex,b∉X.fs
 funs:X.s₀.heap.FunFrames X.base X.outer
 frf:∀ b∈X.fs,X.H₀ b=none
structure Inv (X:Cx) (pj:List (Addr × Obj)) (O:List (Option V)) (H:Hp) (s:Shared):Prop where
 ok:X.Ok
 os:s.os=X.s₀.os
 bare:AllBare s.gens
 base:Un X.fs X.ex X.H₀ H X.s₀.heap s.heap
 loc:∃ m,s.heap.Ns X.env.locals m/\∀ (i:Nat) (x:Str) (v:V),X.N[i]?=some x->O[i]?=some (some v)->Vis X.env.scope x->∃ u,RelV v u/\Look X.env s.heap m x u
 cell:∀ x c,X.env.cells.lookup x=some c->∃ v,s.heap.IsCell c v
 free:H X.env.locals=none
 freeC:∀ x c,X.env.cells.lookup x=some c->H c=none
 pin:∀ p∈X.pn++pj,s.heap.get? p.1=some p.2/\H p.1=none/\p.1≠X.env.locals/\p.1∉X.fs/\∀ v,p.2.data≠.cell v
 hok:HOk X.prog X.w H s.heap
 len:O.length=X.N.length
section
variable {X:Cx} {pj:List (Addr × Obj)} {O:List (Option V)} {H H':Hp} {s:Shared} {h':Heap}
theorem Cx.Ok.nofr (ok:X.Ok) {b:Addr} {o:Obj} (e:X.base.get? b=some o):b∉X.fs:=fun hb=>by have:=(ok.funs.mem hb).1;rw [e] at this;cases this
theorem Inv.bs (I:Inv X pj O H s):∀ b o,X.base.get? b=some o->s.heap.get? b=some o/\H b=none:=fun b o e =>⟨I.base.keep b o (I.ok.bs b o e).1 (I.ok.bs b o e).2 (I.ok.nofr e) (I.ok.noex b o e),I.base.free b o (I.ok.bs b o e).1 (I.ok.bs b o e).2 (I.ok.noex b o e)⟩
theorem Inv.bk (I:Inv X pj O H s):∀ b o,X.base.get? b=some o->s.heap.get? b=some o:=fun b o e=>(I.bs b o e).1
theorem Inv.mod (I:Inv X pj O H s):Mod X.K X.mg X.base:=I.ok.mod
theorem Inv.kIn (I:Inv X pj O H s):X.K.In s.heap:=I.ok.mod.kin.keeps I.bk
theorem Inv.lt (I:Inv X pj O H s):X.env.locals<s.heap.objs.size:=let ⟨_,hn,_⟩:=I.loc;hn.lt
theorem Inv.sz (I:Inv X pj O H s):X.s₀.heap.objs.size<=s.heap.objs.size:=zz8 I.ok.above (Nat.le_of_lt I.lt)
theorem Inv.nofs (I:Inv X pj O H s) {a:Addr} (h:s.heap.objs.size<=a):a∉X.fs:=fun hb=>by obtain ⟨_,o,ho,_⟩:=I.ok.funs.mem hb;exact absurd (zz1 (zzv ho) (zz8 I.sz h)) (zAp _)
theorem Inv.cne (I:Inv X pj O H s):∀ x c,X.env.cells.lookup x=some c->c≠X.env.locals:=fun x c e z=>by obtain ⟨v,o,ho,hd⟩:=I.cell x c e;obtain ⟨m,⟨o',es,ep,ho',hd',_⟩,_⟩:=I.loc;rw [z,ho'] at ho;cases ho;rw [hd'] at hd;cases hd
theorem Inv.funs (I:Inv X pj O H s):s.heap.FunFrames X.base X.outer:=by
 have all:∀ (l:List Env),(∀ b∈frs l,b∈X.fs)->X.s₀.heap.FunFrames X.base l->s.heap.FunFrames X.base l:=by
  intro l
  induction l with
  | nil=>intro _ _;trivial
  | cons env r ih =>intro hs hl;obtain ⟨hk,⟨L,o,hf,hn,ho,hd⟩,hr⟩:=hl;have hL:L∈X.fs:=hs L (by unfold frs;rw [zAh,hf];exact zzt);obtain ⟨sl,e⟩:=I.base.slot L o ho (I.ok.frf L hL) hL fun z=>I.ok.exfs L z hL;exact ⟨hk,⟨L,_,hf,hn,e,hd⟩,ih (fun b hb=>hs b (by unfold frs;rw [zAh,hf];exact zzq _ hb)) hr⟩
 exact all X.outer (fun _ hb=>hb) I.ok.funs
theorem Inv.stack (I:Inv X pj O H s):s.heap.FunFrames X.base X.stack:=by
 rcases I.ok.stk with e | ⟨e,hf⟩
 .rw [e];exact I.funs
 .rw [e];obtain ⟨m,hn,_⟩:=I.loc;refine .cons (by rw [I.ok.kind];decide) hf hn ?_ I.funs;exact Heap.get?_none_of_le (zz8 I.ok.bsz I.ok.above)
theorem Inv.stkSub (I:Inv X pj O H s):∀ b∈frs X.stack,b∈X.env.locals::X.fs:=fun b hb=>by
 rcases I.ok.stk with e | ⟨e,hf⟩
 .rw [e] at hb;exact zzq _ hb
 .rw [e] at hb;unfold frs at hb;rw [zAh,hf] at hb;exact hb
theorem Inv.stkFree (I:Inv X pj O H s):∀ b∈frs X.stack,H b=none:=fun b hb=>by
 rcases omc (I.stkSub b hb) with e | hb
 .rw [e];exact I.free
 .obtain ⟨_,o,ho,_⟩:=I.ok.funs.mem hb;exact I.base.free b o ho (I.ok.frf b hb) fun z=>I.ok.exfs b z hb
theorem Inv.step {g':Array GenState} {d':Drawn} (I:Inv X pj O H s)
  (hch:∀ b∈ch,(b∈X.ex\/X.s₀.heap.objs.size<=b)/\b≠X.env.locals/\(∀ x c,X.env.cells.lookup x=some c->c≠b)/\∀ p∈X.pn++pj,p.1≠b)
  (keep:∀ b o,b≠X.env.locals->b∉X.fs->b∉ch->s.heap.get? b=some o->H b=none->h'.get? b=some o)
  (slot:∀ b o,b≠X.env.locals->b∈X.fs->b∉ch->s.heap.get? b=some o->H b=none->∃ sl,h'.get? b=some { o with slots:=sl }) (free:∀ b o,b∉ch->s.heap.get? b=some o->H b=none->H' b=none)
  (there:∀ b o,b∉ch->s.heap.get? b=some o->∃ o',h'.get? b=some o')
  (tups:∀ b xs,H b=some (.tup xs)->H' b=some (.tup xs)) (frzs:∀ b o u,H b=some (.frz o u)->H' b=some (.frz o u)) (tbls:∀ b ps,H b=some (.tbl ps)->∃ ydd,H' b=some (.tbl (ps++ydd)))
  (ns:∀ m,s.heap.Ns X.env.locals m->h'.Ns X.env.locals m) (hok:HOk X.prog X.w H' h') (hg:AllBare g') :
  Inv X pj O H' { s with heap:=h',gens:=g',drawn:=d',toks:=t' }:=by
 have neL:∀ b o,X.s₀.heap.get? b=some o->b≠X.env.locals:=fun b o e=>zz5 (zz1 (zzv e) I.ok.above);have neC:∀ b o,X.s₀.heap.get? b=some o->b∉X.ex->b∉ch:=fun b o e hx hb=>by
  rcases (hch b hb).1 with z | z
  .exact hx z
  .exact absurd (zz1 (zzv e) z) (zAp _)
 have cellK:∀ x c,X.env.cells.lookup x=some c->∀ v,s.heap.IsCell c v->h'.IsCell c v:=fun x c e v ⟨o,ho,hd⟩=>by
  have nch:c∉ch:=fun z=>(hch c z).2.2.1 x c e rfl;by_cases hc:c∈X.fs
  .obtain ⟨sl,q⟩:=slot c o (I.cne x c e) hc nch ho (I.freeC x c e);exact ⟨_,q,hd⟩
  .exact ⟨o,keep c o (I.cne x c e) hc nch ho (I.freeC x c e),hd⟩
 refine ⟨I.ok,I.os,hg,⟨fun b o e n hb hx=>?_,fun b o e n hb hx=>?_,fun b o e n hx=>?_,fun b o e hx=>?_,fun b xs e=>tups b xs (I.base.tups b xs e),fun b o xs e=>frzs b o xs (I.base.frzs b o xs e),fun b ps e=>?_⟩,?_,fun x c e=>?_,?_,fun x c e=>?_,fun p hp=>?_,hok,I.len⟩
 .exact keep b o (neL b o e) hb (neC b o e hx) (I.base.keep b o e n hb hx) (I.base.free b o e n hx)
 .obtain ⟨sl,e1⟩:=I.base.slot b o e n hb hx;obtain ⟨sl',e2⟩:=slot b _ (neL b o e) hb (neC b o e hx) e1 (I.base.free b o e n hx);exact ⟨sl',e2⟩
 .obtain ⟨o',e1⟩:=I.base.there b o e hx;exact free b o' (neC b o e hx) e1 (I.base.free b o e n hx)
 .obtain ⟨o',e1⟩:=I.base.there b o e hx;exact there b o' (neC b o e hx) e1
 .obtain ⟨m1,e1⟩:=I.base.tbls b ps e;obtain ⟨m2,e2⟩:=tbls b _ e1;exact ⟨m1++m2,by rw [e2,Array.append_assoc]⟩
 .obtain ⟨m,hn,hl⟩:=I.loc;refine ⟨m,ns m hn,fun i x v e1 e2 e3=>?_⟩;obtain ⟨u,r,l⟩:=hl i x v e1 e2 e3;refine ⟨u,r,?_⟩;rcases l with l | ⟨k,c,e,z⟩
  .exact .inl l
  .exact .inr ⟨k,c,e,cellK x c e _ z⟩
 .obtain ⟨v,z⟩:=I.cell x c e;exact ⟨v,cellK x c e v z⟩
 .obtain ⟨m,⟨o,_,_,ho,_⟩,_⟩:=I.loc;exact free _ o (fun z=>(hch _ z).2.1 rfl) ho I.free
 .obtain ⟨v,o,ho,hd⟩:=I.cell x c e;exact free c o (fun z=>(hch c z).2.2.1 x c e rfl) ho (I.freeC x c e)
 .obtain ⟨e,n,ne,nf,d⟩:=I.pin p hp;have nch:p.1∉ch:=fun z=>(hch p.1 z).2.2.2 p hp rfl;exact ⟨keep p.1 p.2 ne nf nch e n,free p.1 p.2 nch e n,ne,nf,d⟩
theorem Inv.un (I:Inv X pj O H s) (u:Un X.fs [] H H' s.heap h') (hok:HOk X.prog X.w H' h'):Inv X pj O H' { s with heap:=h',toks:=t' }:=by
 obtain ⟨m,⟨o,es,ep,ho,r⟩,_⟩:=id I.loc;obtain ⟨sl,hL⟩:=u.any ho I.free (by simp);exact I.step (g':=s.gens) (d':=s.drawn) (ch:=[]) (fun _ z=>nomatch z) (fun b o _ hb _ e n=>u.keep b o e n hb (by simp)) (fun b o _ hb _ e n=>u.slot b o e n hb (by simp)) (fun b o _ e n=>u.free b o e n (by simp)) (fun b o _ e=>u.there b o e (by simp)) u.tups u.frzs u.tbls (fun m' hm=>by obtain ⟨o',es',ep',ho',r'⟩:=hm;rw [ho] at ho';cases ho';exact ⟨_,es',ep',hL,r'⟩) hok I.bare
theorem Inv.call {g':Array GenState} {d':Drawn} (I:Inv X pj O H s) (u:Un (frs X.stack) ch H H' s.heap h') (hok:HOk X.prog X.w H' h') (hg:AllBare g')
  (hch:∀ b∈ch,(b∈X.ex\/X.s₀.heap.objs.size<=b)/\b≠X.env.locals/\(∀ x c,X.env.cells.lookup x=some c->c≠b)/\∀ p∈X.pn++pj,p.1≠b) :
  Inv X pj O H' { s with heap:=h',gens:=g',drawn:=d',toks:=t' }:=by
 obtain ⟨m,⟨o,es,ep,ho,r⟩,_⟩:=id I.loc;obtain ⟨sl,hL⟩:=u.any ho I.free fun z=>(hch _ z).2.1 rfl;exact I.step (ch:=ch) hch (fun b o hL hb hc e n=>u.keep b o e n (fun z=>(omc (I.stkSub b z)).elim hL hb) hc) (fun b o _ _ hc e n=>u.any e n hc) (fun b o hc e n=>u.free b o e n hc) (fun b o hc e=>u.there b o e hc) u.tups u.frzs u.tbls (fun m' hm=>by obtain ⟨o',es',ep',ho',r'⟩:=hm;rw [ho] at ho';cases ho';exact ⟨_,es',ep',hL,r'⟩) hok hg
theorem Inv.turned {it:Addr} (I:Inv X pj O H s) (k:∀ b o,b≠it->s.heap.get? b=some o->h'.get? b=some o) (hn:H it=none) (hL:it≠X.env.locals)
  (h1:it∈X.ex\/X.s₀.heap.objs.size<=it) (h2:∀ x c,X.env.cells.lookup x=some c->c≠it) (h3:∀ p∈X.pn++pj,p.1≠it):Inv X pj O H { s with heap:=h',toks:=t' }:=by
 have nit:∀ b u,H b=some u->b≠it:=fun b u e z=>by rw [z,hn] at e;cases e
 refine I.step (g':=s.gens) (d':=s.drawn) (ch:=[it]) (fun b hb=>?_) (fun b o _ _ hc e _=>k b o (fun z=>hc (by simp [z])) e) (fun b o _ _ hc e _=>⟨o.slots,k b o (fun z=>hc (by simp [z])) e⟩) (fun _ _ _ _ n=>n)
  (fun b o hc e=>⟨o,k b o (fun z=>hc (by simp [z])) e⟩) (fun _ _ e=>e) (fun _ _ _ e=>e) (fun b ps e=>⟨#[],by rw [e];simp⟩) (fun m hm=>?_) (fun b u e=>?_) I.bare
 .have e:b=it:=by simpa using hb
  subst e;exact ⟨h1,hL,h2,h3⟩
 .obtain ⟨o,es,ep,ho,r⟩:=hm;exact ⟨o,es,ep,k _ o (Ne.symm hL) ho,r⟩
 .refine (I.hok b u e).stay (fun c v hc q=>k c v ?_ q) (fun _ q=>q) fun _ _ q=>q;rcases hc with z | z
  .rw [z];exact nit b u e
  .exact nit c _ z
theorem Inv.tok (I:Inv X pj O H s) (t:Nat):Inv X pj O H { s with toks:=t }:=I.un (h':=s.heap) (t':=t) Un.refl I.hok
theorem Inv.kept {t':Nat} (I:Inv X pj O H s) (k:∀ b u,s.heap.get? b=some u->h'.get? b=some u):Inv X pj O H { s with heap:=h',toks:=t' }:=I.un (Un.kept k) (I.hok.kept k)
theorem Inv.laid {a:Addr} {o:HO} {t':Nat} (I:Inv X pj O H s) (k:∀ b u,s.heap.get? b=some u->h'.get? b=some u) (hp:s.heap.objs.size<=a) (new:ObjOk X.prog X.w (upd H a o) h' a o) :
  Inv X pj O (upd H a o) { s with heap:=h',toks:=t' }:=I.un (Un.laid k hp (I.hok.fresh hp)) (I.hok.laid k hp new)
theorem Inv.write {x e:Addr} {o:HO} {t':Nat} (I:Inv X pj O H s) (mu:Mut (H x)) (he:e=x\/H e=some (.own x)) (k:∀ b u,b≠e->s.heap.get? b=some u->h'.get? b=some u) (heo:∃ u,h'.get? e=some u)
  (new:ObjOk X.prog X.w (upd H x o) h' x o):Inv X pj O (upd H x o) { s with heap:=h',toks:=t' }:=I.un (Un.write mu he k heo) (I.hok.write mu he k heo new)
theorem Inv.pins_of {pins':List (Addr × Obj)} (I:Inv X pj O H s) (h:∀ p∈pins',s.heap.get? p.1=some p.2/\H p.1=none/\p.1≠X.env.locals/\p.1∉X.fs/\∀ v,p.2.data≠.cell v):Inv X pins' O H s :=
 ⟨I.ok,I.os,I.bare,I.base,I.loc,I.cell,I.free,I.freeC,fun p hp=>(oma hp).elim (fun z=>I.pin p (List.mem_append_left _ z)) (h p),I.hok,I.len⟩
theorem zjf {N:List Str} (hN:N.Nodup) {j:Nat} (a:N[i]?=some x) (b:N[j]?=some x):i=j:=by obtain ⟨h1,e1⟩:=ome a;obtain ⟨h2,e2⟩:=ome b;exact (List.getElem_inj hN).mp (e1.trans e2.symm)
theorem zgo {M:Model} {v:V} {u:Value} {Q:Unit->Shared->Prop} (I:Inv X pj O H s) (hN:X.N.Nodup) (hi:X.N[i]?=some x) (hx:Loc X.env.scope x) (r:RelV v u)
  (h:∀ s',Inv X pj (O.set i (some v)) H s'->(∃ a,Heap.SameBut a s.heap s'.heap/\(a=X.env.locals\/X.env.cells.lookup x=some a))->Q () s') (hf:X.fn x=true\/X.env.scope.names.lookup x=some .local:=by first | exact .inl rfl | exact .inr rfl | assumption):wpAny M A (storeName X.env x u) Q E s:=by
 obtain ⟨m,hn,hl⟩:=id I.loc;have hcls:(X.env.scope.kind==.class||(X.env.scope.kind==.module&&X.env.locals != X.env.globals))=false:=by rw [I.ok.kind];rfl
 have hiO:i<O.length:=by rw [I.len];exact (ome hi).1
 have cne:=I.cne;have tracked:∀ {a:Addr} {h':Heap},(∃ o,s.heap.get? a=some o/\H a=none)->Heap.SameBut a s.heap h'->HOk X.prog X.w H h':=fun {a h'} ha hs b ob e=>by
  obtain ⟨_,_,hfree⟩:=ha;refine (I.hok b ob e).stay (fun c w' hc q=>(hs.2 c ?_).trans q) (fun _ q=>q) fun _ _ q=>q;rintro rfl;rcases hc with rfl | hc
  .rw [hfree] at e;cases e
  .rw [hfree] at hc;cases hc
 rcases hx with hk | hk
 .refine wpAny_storeName_local hk hn (fun h' hn' hs=>?_) hcls;obtain ⟨oL,_,_,hoL,_⟩:=id hn;refine h _ ⟨I.ok,I.os,I.bare,⟨fun b o e n hb hx=>?_,fun b o e n hb hx=>?_,I.base.free,fun b o e hx=>?_,I.base.tups,I.base.frzs,I.base.tbls⟩,⟨_,hn',fun j y v' e1 e2 e3=>?_⟩,fun y c e=>?_,I.free,I.freeC,fun p hp=>?_,tracked ⟨oL,hoL,I.free⟩ hs,by simpa using I.len⟩ ⟨_,hs,.inl rfl⟩
  .exact (hs.2 b (zz5 (zz1 (zzv e) I.ok.above))).trans (I.base.keep b o e n hb hx)
  .obtain ⟨sl,e1⟩:=I.base.slot b o e n hb hx;exact ⟨sl,(hs.2 b (zz5 (zz1 (zzv e) I.ok.above))).trans e1⟩
  .obtain ⟨o',e1⟩:=I.base.there b o e hx;exact ⟨o',(hs.2 b (zz5 (zz1 (zzv e) I.ok.above))).trans e1⟩
  .by_cases hj:j=i
   .subst hj;rw [hi] at e1;cases e1;rw [ua4 hiO] at e2;cases e2;exact ⟨u,r,.inl ⟨hk,by simp⟩⟩
   .rw [zAa (Ne.symm hj)] at e2;obtain ⟨u',r',q⟩:=hl j y v' e1 e2 e3;refine ⟨u',r',?_⟩;rcases q with ⟨k,e⟩ | ⟨k,c,e,z⟩
    .refine .inl ⟨k,?_⟩;have:y≠x:=fun e=>hj (zjf hN e1 (e▸hi));simp [this,e]
    .exact .inr ⟨k,c,e,z.sameBut hs (cne y c e)⟩
  .obtain ⟨w',z⟩:=I.cell y c e;exact ⟨w',z.sameBut hs (cne y c e)⟩
  .obtain ⟨e,n,ne,nf,d⟩:=I.pin p hp;exact ⟨(hs.2 p.1 ne).trans e,n,ne,nf,d⟩
 .have hfn:X.fn x=true:=by
   rcases hf with z | z
   .exact z
   .rw [z] at hk;cases hk
  obtain ⟨c,hc⟩:=I.ok.has x (.inl hk);obtain ⟨w',z⟩:=I.cell x c hc;refine wpAny_storeName_cell I.ok.kind hk hc z (fun h' hc' hs=>?_);obtain ⟨oc,hoc,hocd⟩:=id z;refine h { s with heap:=h' } ⟨I.ok,I.os,I.bare,⟨fun b o e n hb hx=>?_,fun b o e n hb hx=>?_,I.base.free,fun b o e hx=>?_,I.base.tups,I.base.frzs,I.base.tbls⟩,⟨m,hn.sameBut hs (Ne.symm (cne x c hc)),fun j y v' e1 e2 e3=>?_⟩,fun y c' e=>?_,I.free,I.freeC,fun p hp=>?_,tracked ⟨oc,hoc,I.freeC x c hc⟩ hs,by simpa using I.len⟩ ⟨c,hs,.inr hc⟩
  .exact (hs.2 b (zz5 (zz1 (zzv e) (I.ok.cab x c hfn hc)))).trans (I.base.keep b o e n hb hx)
  .obtain ⟨sl,e1⟩:=I.base.slot b o e n hb hx;exact ⟨sl,(hs.2 b (zz5 (zz1 (zzv e) (I.ok.cab x c hfn hc)))).trans e1⟩
  .obtain ⟨o',e1⟩:=I.base.there b o e hx;exact ⟨o',(hs.2 b (zz5 (zz1 (zzv e) (I.ok.cab x c hfn hc)))).trans e1⟩
  .by_cases hj:j=i
   .subst hj;rw [hi] at e1;cases e1;rw [ua4 hiO] at e2;cases e2;exact ⟨u,r,.inr ⟨.inl hk,c,hc,hc'⟩⟩
   .rw [zAa (Ne.symm hj)] at e2;obtain ⟨u',r',q⟩:=hl j y v' e1 e2 e3;refine ⟨u',r',?_⟩;rcases q with q | ⟨k,c',e,z'⟩
    .exact .inl q
    .refine .inr ⟨k,c',e,z'.sameBut hs ?_⟩;rintro rfl;exact hj (zjf hN e1 (I.ok.inj _ _ _ e hc▸hi))
  .by_cases hcc:c'=c
   .subst hcc;exact ⟨_,hc'⟩
   .obtain ⟨w2,z2⟩:=I.cell y c' e;exact ⟨w2,z2.sameBut hs hcc⟩
  .obtain ⟨e,n,ne,nf,d⟩:=I.pin p hp;refine ⟨(hs.2 p.1 ?_).trans e,n,ne,nf,d⟩;intro q;rw [q,hoc] at e;have q':oc=p.2:=zz2 e;exact d w' (by rw [<- q'];exact hocd)
theorem zi1 {M:Model} {v:V} {u:Value} {Q:Unit->Shared->Prop} (I:Inv X pj O H s) (hN:X.N.Nodup) (hi:X.N[i]?=some x) (hx:Loc X.env.scope x) (r:RelV v u)
  (h:∀ s',Inv X pj (O.set i (some v)) H s'->Q () s') (hf:X.fn x=true\/X.env.scope.names.lookup x=some .local:=by first | exact .inl rfl | exact .inr rfl | assumption):wpAny M A (storeName X.env x u) Q E s :=
 zgo I hN hi hx r (fun s' I' _=>h s' I') hf
theorem Inv.call' {s':Shared} (I:Inv X pj O H s) (ho:s'.os=s.os) (u:Un (frs X.stack) ch H H' s.heap s'.heap) (hok:HOk X.prog X.w H' s'.heap) (hg:AllBare s'.gens)
  (hch:∀ b∈ch,(b∈X.ex\/X.s₀.heap.objs.size<=b)/\b≠X.env.locals/\(∀ x c,X.env.cells.lookup x=some c->c≠b)/\∀ p∈X.pn++pj,p.1≠b):Inv X pj O H' s':=by
 obtain ⟨h',g',d',t',o'⟩:=s';have e:o'=s.os:=ho;subst e;exact I.call (g':=g') (t':=t') (d':=d') u hok hg hch
end
abbrev XK:=Value->Option Addr->Hp->Prop
abbrev St:=List (Option V)
abbrev VK:=V->Hp->Prop
abbrev TE:=St->Hp->VK->Prop
abbrev TT:=St->Hp->(Bool->Hp->Prop)->Prop
abbrev TA:=St->Hp->(List V->Hp->Prop)->Prop
structure Ends where
 nx:St->Hp->Prop
 rt:VK
 bk:St->Hp->Prop:=fun _ _=>False
 ct:St->Hp->Prop:=fun _ _=>False
abbrev TS:=Ends->St->Hp->Prop
def EP (X:Cx) (pj:List (Addr × Obj)) (O:St) (Q:VK) (u:Value) (s':Shared):Prop:=∃ v H',Inv X pj O H' s'/\RelV v u/\Q v H'
def TP (X:Cx) (pj:List (Addr × Obj)) (O:St) (Q:Bool->Hp->Prop) (b:Bool) (s':Shared):Prop:=∃ H',Inv X pj O H' s'/\Q b H'
def AP (X:Cx) (pj:List (Addr × Obj)) (O:St) (Q:List V->Hp->Prop) (us:List Value) (s':Shared):Prop:=∃ vs H',Inv X pj O H' s'/\Vals vs us/\Q vs H'
def SP (X:Cx) (pj:List (Addr × Obj)) (D:Ends) (f:Flow) (s':Shared):Prop :=
 match f with
 | .next=>∃ O' H',Inv X pj O' H' s'/\D.nx O' H'
 | .brk=>∃ O' H',Inv X pj O' H' s'/\D.bk O' H'
 | .cont=>∃ O' H',Inv X pj O' H' s'/\D.ct O' H'
 | .ret u=>∃ v O' H',Inv X pj O' H' s'/\RelV v u/\D.rt v H'
def PE (X:Cx) (e:Expr) (t:TE):Prop :=
 ∀ (pj:List (Addr × Obj)) (s:Shared) (O:St) (H:Hp) (Q:VK),Inv X pj O H s->t O H Q->wpAny (model X.prog X.w) X.A (eval e X.env) (EP X pj O Q) X.xe s
def PT (X:Cx) (e:Expr) (t:TT):Prop :=
 ∀ (pj:List (Addr × Obj)) (s:Shared) (O:St) (H:Hp) (Q:Bool->Hp->Prop),Inv X pj O H s->t O H Q->wpAny (model X.prog X.w) X.A (isTrue e X.env (eval e X.env)) (TP X pj O Q) X.xe s
def PW (X:Cx) (e:Expr) (t:TT):Prop :=
 ∀ (whole:Sem Value) (pj:List (Addr × Obj)) (s:Shared) (O:St) (H:Hp) (Q:Bool->Hp->Prop),Inv X pj O H s->t O H Q->wpAny (model X.prog X.w) X.A (isTrue e X.env whole) (TP X pj O Q) X.xe s
theorem PW.pt {X:Cx} {e:Expr} {t:TT} (h:PW X e t):PT X e t:=h _
def PA (X:Cx) (es:List Expr) (t:TA):Prop :=
 ∀ (pos:Pos) (pj:List (Addr × Obj)) (s:Shared) (O:St) (H:Hp) (Q:List V->Hp->Prop),Inv X pj O H s->t O H Q->wpAny (model X.prog X.w) X.A (spliced (backTo pos (starEach es X.env))) (AP X pj O Q) X.xe s
def PS (X:Cx) (st:Stmt) (t:TS):Prop :=
 ∀ (pj:List (Addr × Obj)) (s:Shared) (O:St) (H:Hp) (D:Ends),Inv X pj O H s->t D O H->wpAny (model X.prog X.w) X.A (exec st X.env) (SP X pj D) X.xe s
def PSs (X:Cx) (st:List Stmt) (t:TS):Prop :=
 ∀ (pj:List (Addr × Obj)) (s:Shared) (O:St) (H:Hp) (D:Ends),Inv X pj O H s->t D O H->wpAny (model X.prog X.w) X.A (execs st X.env) (SP X pj D) X.xe s
theorem thn {α:Type} {t:Sem α} {Q Q':α->Shared->Prop} {M:Model} {s:Shared} (h:wpAny M A t Q E s) (hQ:∀ a s,Q a s->Q' a s):wpAny M A t Q' E s:=zAy h hQ fun _ _ x=>x
end
section
variable {x:Str} {E Q:Value->Shared->Prop} {pj:List (Addr × Obj)} {u:Value}
section
variable {X:Cx}
def tVar (i:Nat):TE:=fun O H Q=>∃ v,O[i]?=some (some v)/\Q v H
def tC (v:V):TE:=fun _ H Q=>Q v H
theorem zfg {i:Nat} {pos:Pos} (hN:X.N[i]?=some x) (hv:Vis X.env.scope x) (hd:(x==("__debug__":Str))=false:=by decide) (hcd:(x==("__classdict__":Str))=false:=by decide):PE X (.Name x pos) (tVar i):=by
 intro pj s O H Q I h;obtain ⟨v,e,h⟩:=h;obtain ⟨m,hn,hl⟩:=I.loc;obtain ⟨u,r,l⟩:=hl i x v hN e hv;have fin:EP X pj O Q u s:=⟨v,H,I,r,h⟩;rcases l with ⟨hk,hm⟩ | ⟨hk,c,hc,hcell⟩
 .exact wpAny_Name (wpAny_loadName_local I.ok.kind hk hn hm fin) hd
 .rcases hk with hk | hk
  .exact wpAny_Name (wpAny_loadName_cell I.ok.kind hk hc hcell fin) hd
  .exact wpAny_Name (wpAny_loadName_free I.ok.kind hk hc hcell fin hcd) hd
theorem zvv {i j pos}:PE X (.Constant (.int i) j pos) (tC (.int i)):=fun _ _ _ H _ I h=>wpAny_Constant_int ⟨.int i,H,I.tok _,⟨_,rfl⟩,h⟩
theorem zyq {b j pos}:PE X (.Constant (.bool b) j pos) (tC (.bl b)):=fun _ _ _ H _ I h=>Constant_bool ⟨.bl b,H,I,rfl,h⟩
theorem zvu {j pos}:PE X (.Constant .none j pos) (tC .non):=fun _ _ _ H _ I h=>Constant_none ⟨.non,H,I,rfl,h⟩
theorem zvq {x j pos}:PE X (.Constant (.str x) j pos) (tC (.str x)):=fun _ _ _ H _ I h=>Calls.Constant_str ⟨.str x,H,I.tok _,⟨_,rfl⟩,h⟩
def Gl (X:Cx) (x:Str):Prop:=X.env.kindOf x=some .globalImplicit
theorem zmo {s:Shared} {O:St} {H:Hp} {pos:Pos} (I:Inv X pj O H s) (hg:Gl X x) (hm:X.mg x=some u) (h:Q u s)
  (hd:(x==("__debug__":Str))=false:=by decide):wpAny (model X.prog X.w) X.A (eval (.Name x pos) X.env) Q E s :=
 Calls.Name_function_global I.ok.kind hg (Calls.loadGlobal_global (by rw [I.ok.glob];exact I.mod.glob.keeps I.bk) hm h) hd
theorem zfm {s:Shared} {O:St} {H:Hp} {pos:Pos} (I:Inv X pj O H s) (hg:Gl X x) (hm:X.mg x=none) (hv:bootBuiltins x=some u) (h:Q u s)
  (hn:x≠"__name__":=by decide) (hd:(x==("__debug__":Str))=false:=by decide):wpAny (model X.prog X.w) X.A (eval (.Name x pos) X.env) Q E s:=by
 obtain ⟨mb,h1,h2⟩:=I.mod.blt;exact Calls.Name_function_global I.ok.kind hg (Calls.loadGlobal_builtin (by rw [I.ok.glob];exact I.mod.glob.keeps I.bk) hm (by rw [I.ok.blt];exact h1.keeps I.bk) ((h2 x hn).trans hv) h) hd
theorem zs3 {v:V} {pos:Pos} (hg:Gl X x) (hm:X.mg x=some u) (r:RelV v u) (hd:(x==("__debug__":Str))=false:=by decide):PE X (.Name x pos) (tC v) :=
 fun _ _ _ H _ I h=>zmo I hg hm ⟨v,H,I,r,h⟩ hd
theorem zs6 {v:V} {pos:Pos} (hg:Gl X x) (hm:X.mg x=none) (hv:bootBuiltins x=some u) (r:RelV v u) (hn:x≠"__name__":=by decide) (hd:(x==("__debug__":Str))=false:=by decide):PE X (.Name x pos) (tC v) :=
 fun _ _ _ H _ I h=>zfm I hg hm hv ⟨v,H,I,r,h⟩ hn hd
variable {a b:Expr} {ta tb:TE} {pos:Pos}
variable {tA tB':TT} {rest:List Expr}
def tAnd (t u:TT):TT:=fun O H Q=>t O H fun c H1=>if c=true then u O H1 Q else Q false H1
def tOr (t u:TT):TT:=fun O H Q=>t O H fun c H1=>if c=true then Q true H1 else u O H1 Q
def tNot (t:TT):TT:=fun O H Q=>t O H fun c H1=>Q (!c) H1
theorem zso (ha:PT X a tA):PW X (.BoolOp .And [a] pos) tA:=by
 intro wh pj s O H Q I h;refine isTrue_and (thn (ha pj s O H Q I h) fun c s1 e=>?_);cases c with
 | true=>exact isTrue_and_nil e
 | false=>exact e
theorem zve (ha:PT X a tA):PW X (.BoolOp .Or [a] pos) tA:=by
 intro wh pj s O H Q I h;refine isTrue_or (thn (ha pj s O H Q I h) fun c s1 e=>?_);cases c with
 | false=>exact isTrue_or_nil e
 | true=>exact e
theorem zvg (ha:PT X a tA) (hb:PW X (.BoolOp .And (b::rest) pos) tB'):PW X (.BoolOp .And (a::b::rest) pos) (tAnd tA tB'):=by
 intro wh pj s O H Q I h;refine isTrue_and (thn (ha pj s O H _ I h) fun c s1 ⟨H1,I1,q1⟩=>?_);cases c with
 | true=>exact hb wh pj s1 O H1 Q I1 q1
 | false=>exact ⟨H1,I1,q1⟩
theorem zyl (ha:PT X a tA) (hb:PW X (.BoolOp .Or (b::rest) pos) tB'):PW X (.BoolOp .Or (a::b::rest) pos) (tOr tA tB'):=by
 intro wh pj s O H Q I h;refine isTrue_or (thn (ha pj s O H _ I h) fun c s1 ⟨H1,I1,q1⟩=>?_);cases c with
 | true=>exact ⟨H1,I1,q1⟩
 | false=>exact hb wh pj s1 O H1 Q I1 q1
theorem zvk (ha:PT X a tA):PT X (.UnaryOp .Not a pos) (tNot tA):=by intro pj s O H Q I h;exact isTrue_not (ha pj s O H (fun c H1=>Q (!c) H1) I h)
def ygb (ta tb:TE):TE:=fun O H Q=>ta O H fun x H1=>∃ c,x=.bl c/\if c=true then tb O H1 Q else Q (.bl false) H1
def tOrV (ta tb:TE):TE:=fun O H Q=>ta O H fun x H1=>∃ c,x=.bl c/\if c=true then Q (.bl true) H1 else tb O H1 Q
def yfz (ta:TE):TE:=fun O H Q=>ta O H fun x H1=>∃ c,x=.bl c/\Q (.bl (!c)) H1
theorem zvs {op} {t:TE} (h:PE X a t):PE X (.BoolOp op [a] pos) t:=fun pj s O H Q I hw=>BoolOp_one (h pj s O H Q I hw)
theorem zvw (ha:PE X a ta) (hb:PE X (.BoolOp .And (b::rest) pos) tb):PE X (.BoolOp .And (a::b::rest) pos) (ygb ta tb):=by
 intro pj s O H Q I h;refine BoolOp_and (thn (ha pj s O H _ I h) fun v s1 ⟨x,H1,I1,r1,q1⟩=>?_);obtain ⟨c,rfl,q1⟩:=q1;cases r1;refine wpAny_truthy_bool ?_;cases c with
 | true=>exact hb pj s1 O H1 Q I1 q1
 | false=>exact ⟨.bl false,H1,I1,rfl,q1⟩
theorem zyo (ha:PE X a ta) (hb:PE X (.BoolOp .Or (b::rest) pos) tb):PE X (.BoolOp .Or (a::b::rest) pos) (tOrV ta tb):=by
 intro pj s O H Q I h;refine BoolOp_or (thn (ha pj s O H _ I h) fun v s1 ⟨x,H1,I1,r1,q1⟩=>?_);obtain ⟨c,rfl,q1⟩:=q1;cases r1;refine wpAny_truthy_bool ?_;cases c with
 | false=>exact hb pj s1 O H1 Q I1 q1
 | true=>exact ⟨.bl true,H1,I1,rfl,q1⟩
theorem zvt (ha:PE X a ta):PE X (.UnaryOp .Not a pos) (yfz ta):=by intro pj s O H Q I h;refine UnaryOp_ (thn (ha pj s O H _ I h) fun v s1 ⟨x,H1,I1,r1,q1⟩=>?_);obtain ⟨c,rfl,q1⟩:=q1;cases r1;exact not_of (wpAny_truthy_bool ⟨.bl (!c),H1,I1,rfl,q1⟩)
end
end
section
variable {K:W.Frag} {es:List Expr} {tg:Expr} {P:Program} {w:World}
def SqL (K:W.Frag) (H:Hp) (a:Addr) (xs:List V):Prop :=
 Rd H a (.lst xs) \/
  ∃ (o:Obj) (qc:Array Value) (n:Nat),K.lookup a=some o/\o.cls=.type "list"/\o.dict=none/\o.data=.seq qc n/\qc.size<=sizeLine/\Vals xs qc.toList
def SqT (K:W.Frag) (H:Hp) (a:Addr) (xs:List V):Prop :=
 Rd H a (.tup xs) \/
  ∃ (o:Obj) (qc:Array Value) (n:Nat),K.lookup a=some o/\o.cls=.type "tuple"/\o.data=.seq qc n/\qc.size<=sizeLine/\Vals xs qc.toList
def absV:Value->Option V
 | .none=>some .non
 | .bool b=>some (.bl b)
 | .int i _=>some (.int i)
 | .str x _=>some (.str x)
 | .bytes b _=>some (.byt b)
 | .float b _=>some (.flt b)
 | .ref a=>some (.ref a)
 | .type n=>some (.ty n)
 | _=>none
theorem RelV.abs {x:V} {u:Value} (r:RelV x u):absV u=some x:=by
 cases x with
 | non=>cases r;rfl
 | bl _=>cases r;rfl
 | int _=>obtain ⟨t,rfl⟩:=r;rfl
 | str _=>obtain ⟨t,rfl⟩:=r;rfl
 | byt _=>obtain ⟨t,rfl⟩:=r;rfl
 | flt _=>obtain ⟨t,rfl⟩:=r;rfl
 | ref _=>cases r;rfl
 | ty _=>cases r;rfl
theorem RelV.inj {x y:V} {u:Value} (r:RelV x u) (q:RelV y u):x=y:=zz2 (r.abs.symm.trans q.abs)
theorem Vals.inj:∀ {xs ys:List V} {us:List Value},Vals xs us->Vals ys us->xs=ys
 | _,_,_,.nil,.nil=>rfl
 | _,_,_,.cons r t,.cons r' t'=>by rw [r.inj r',Vals.inj t t']
section
variable {X:Cx} {pj:List (Addr × Obj)} {O:St} {H:Hp} {s:Shared} {a:Addr} {xs ys:List V}
theorem SqL.of (h:H a=some (.lst xs)):SqL K H a xs:=.inl (.inl h)
theorem SqT.of (h:H a=some (.tup xs)):SqT K H a xs:=.inl (.inl h)
theorem Inv.list (I:Inv X pj O H s) (h:SqL X.K H a xs):∃ qc:List Value,Vals xs qc/\PlainL s.heap a qc.toArray/\xs.length<=sizeLine:=by
 rcases h with h | ⟨o,qc,n,hk,hc,hd,hs,hz,r⟩
 .obtain ⟨z,qc,n,r,e⟩:=h.ok I.hok;exact ⟨qc,r,⟨_,n,e,rfl,rfl,rfl⟩,z⟩
 .refine ⟨qc.toList,r,⟨o,n,I.kIn a o hk,hc,hd,by simpa using hs⟩,?_⟩;have e:=r.length;simp only [Array.length_toList] at e;omega
theorem Inv.tuple (I:Inv X pj O H s) (h:SqT X.K H a xs):∃ qc:List Value,Vals xs qc/\IsTup s.heap a qc.toArray/\xs.length<=sizeLine:=by
 rcases h with h | ⟨o,qc,n,hk,hc,hs,hz,r⟩
 .obtain ⟨z,qc,r,p⟩:=h.ok I.hok;exact ⟨qc,r,p,z⟩
 .refine ⟨qc.toList,r,⟨o,I.kIn a o hk,hc,n,by simpa using hs⟩,?_⟩;have e:=r.length;simp only [Array.length_toList] at e;omega
theorem Inv.list_inj (I:Inv X pj O H s) (h:SqL X.K H a xs) (h':SqL X.K H a ys):xs=ys:=by
 obtain ⟨qc,r,⟨o,n,e,_,_,d⟩,_⟩:=I.list h;obtain ⟨its',r',⟨o',n',e',_,_,d'⟩,_⟩:=I.list h';rw [e] at e';cases e';rw [d] at d';injection d' with d1 _;have:qc=its':=by simpa using congrArg Array.toList d1
 subst this;exact r.inj r'
theorem Inv.tuple_inj (I:Inv X pj O H s) (h:SqT X.K H a xs) (h':SqT X.K H a ys):xs=ys:=by
 obtain ⟨qc,r,⟨o,e,_,n,d⟩,_⟩:=I.tuple h;obtain ⟨its',r',⟨o',e',_,n',d'⟩,_⟩:=I.tuple h';rw [e] at e';cases e';rw [d] at d';injection d' with d1 _;have:qc=its':=by simpa using congrArg Array.toList d1
 subst this;exact r.inj r'
end
abbrev Cx.wish (X:Cx) (E:Value->Shared->Prop):Cx:={ X with xe:=E }
abbrev Cx.nox (X:Cx):Cx:=X.wish fun _ _=>False
theorem Cx.Ok.wish {X:Cx} (ok:X.Ok) (E:Value->Shared->Prop):(X.wish E).Ok :=
 ⟨ok.mod,ok.kind,ok.glob,ok.blt,ok.above,ok.inj,ok.has,ok.cab,ok.hd,ok.frames,ok.stk,ok.exf,ok.bs,ok.bsz,ok.noex,ok.exfs,ok.funs,ok.frf⟩
theorem Cx.Ok.unwish {X:Cx} {E:Value->Shared->Prop} (ok:(X.wish E).Ok):X.Ok :=
 ⟨ok.mod,ok.kind,ok.glob,ok.blt,ok.above,ok.inj,ok.has,ok.cab,ok.hd,ok.frames,ok.stk,ok.exf,ok.bs,ok.bsz,ok.noex,ok.exfs,ok.funs,ok.frf⟩
section
variable {X:Cx} {pj:List (Addr × Obj)} {O:St} {H:Hp} {s:Shared} {E:Value->Shared->Prop}
theorem Inv.wish (I:Inv X pj O H s) (E:Value->Shared->Prop):Inv (X.wish E) pj O H s:=⟨I.ok.wish E,I.os,I.bare,I.base,I.loc,I.cell,I.free,I.freeC,I.pin,I.hok,I.len⟩
theorem Inv.unwish (I:Inv (X.wish E) pj O H s):Inv X pj O H s:=⟨I.ok.unwish,I.os,I.bare,I.base,I.loc,I.cell,I.free,I.freeC,I.pin,I.hok,I.len⟩
theorem SP.unwish {D:Ends} {f:Flow} {s':Shared} (h:SP (X.wish E) pj D f s'):SP X pj D f s':=by
 cases f with
 | next=>obtain ⟨O',H',I,q⟩:=h;exact ⟨O',H',I.unwish,q⟩
 | brk=>obtain ⟨O',H',I,q⟩:=h;exact ⟨O',H',I.unwish,q⟩
 | cont=>obtain ⟨O',H',I,q⟩:=h;exact ⟨O',H',I.unwish,q⟩
 | ret u=>obtain ⟨v,O',H',I,r,q⟩:=h;exact ⟨v,O',H',I.unwish,r,q⟩
theorem PSs.nox {st:List Stmt} {t:TS} (h:PSs X.nox st t):PSs X st t:=fun pj s O H D I hw =>zAy (h pj s O H D (I.wish _) hw) (fun _ _ q=>q.unwish) fun _ _ z=>False.elim z
end
section
variable {X:Cx} {st:Stmt} {rest:List Stmt} {t u:TS} {e:Expr} {te:TE} {pos:Pos}
def yf1:TS:=fun D O H=>D.nx O H
def tSeq (t u:TS):TS:=fun D O H=>t { D with nx:=u D } O H
theorem zsu:PSs X [] yf1:=fun _ _ O H _ I h=>wpAny_execs_nil ⟨O,H,I,h⟩
theorem zph (h1:PS X st t) (h2:PSs X rest u):PSs X (st::rest) (tSeq t u):=by
 intro pj s O H D I h;refine wpAny_execs_cons (thn (h1 pj s O H { D with nx:=u D } I h) fun f s1 q=>?_);cases f with
 | next =>obtain ⟨O',H',I',q⟩:=q;exact h2 pj s1 O' H' D I' q
 | ret v=>exact q
 | brk=>exact q
 | cont=>exact q
theorem Inv.quiet {pj:List (Addr × Obj)} {O:St} {H:Hp} {s:Shared} (I:Inv X pj O H s):interactive X.env=false:=by simp [interactive,I.ok.kind]
def yfr (te:TE):TS:=fun D O H=>te O H fun _ H1=>D.nx O H1
theorem zfw (he:PE X e te) (hs:swapsWith e none pos.line X.env=pure false:=by rfl):PS X (.Expr e pos) (yfr te):=by intro pj s O H D I h;exact wpAny_Expr_any (thn (he pj s O H _ I h) fun v s1 ⟨x,H1,I1,r1,q1⟩=>⟨O,H1,I1,q1⟩) I.quiet hs
def tRet (te:TE):TS:=fun D O H=>te O H D.rt
theorem zvl (he:PE X e te):PS X (.Return (some e) pos) (tRet te):=by intro pj s O H D I h;exact wpAny_Return_some (thn (he pj s O H _ I h) fun v s1 ⟨x,H1,I1,r1,q1⟩=>⟨x,O,H1,I1,r1,q1⟩)
def tIfS (c:TT) (t u:TS):TS:=fun D O H=>c O H fun b H1=>if b=true then t D O H1 else u D O H1
theorem zym {c:Expr} {a b:List Stmt} {tc:TT} (hc:PT X c tc) (ha:PSs X a t) (hb:PSs X b u):PS X (.If c a b pos) (tIfS tc t u):=by
 intro pj s O H D I h;refine wpAny_If (thn (hc pj s O H _ I h) fun d s1 ⟨H1,I1,q1⟩=>?_);cases d with
 | true=>exact ha pj s1 O H1 D I1 q1
 | false=>exact hb pj s1 O H1 D I1 q1
end
abbrev TG:=V->St->Hp->(St->Hp->Prop)->Prop
abbrev TGs:=List V->St->Hp->(St->Hp->Prop)->Prop
def PG (X:Cx) (target:Expr) (t:TG):Prop :=
 ∀ (pj:List (Addr × Obj)) (s:Shared) (O:St) (H:Hp) (v:V) (u:Value) (Q:St->Hp->Prop),Inv X pj O H s->RelV v u->t v O H Q ->
  wpAny (model X.prog X.w) X.A (assign target X.env u) (fun _ s'=>∃ O' H',Inv X pj O' H' s'/\Q O' H') X.xe s
def PGs (X:Cx) (ts:List Expr) (t:TGs):Prop :=
 ∀ (pj:List (Addr × Obj)) (s:Shared) (O:St) (H:Hp) (vs:List V) (us:List Value) (Q:St->Hp->Prop),Inv X pj O H s->Vals vs us->t vs O H Q ->
  wpAny (model X.prog X.w) X.A (assignInOrder ((assignEach ts X.env).map (·.2)) us) (fun _ s'=>∃ O' H',Inv X pj O' H' s'/\Q O' H') X.xe s
section
variable {X:Cx} {pos:Pos}
def yeo (i:Nat):TG:=fun v O H Q=>Q (O.set i (some v)) H
theorem zl4 {i:Nat} {x:Str} (hN:X.N.Nodup) (hi:X.N[i]?=some x) (hx:Loc X.env.scope x) (hf:X.fn x=true\/X.env.scope.names.lookup x=some .local:=by first | exact .inl rfl | exact .inr rfl | assumption):PG X (.Name x pos) (yeo i):=by intro pj s O H v u Q I r h;exact wpAny_assign_Name (zi1 I hN hi hx r (fun s' I'=>⟨_,H,I',h⟩) hf)
def gNil:TGs:=fun vs O H Q=>vs=[]/\Q O H
def ye9 (t:TG) (u:TGs):TGs:=fun vs O H Q=>∃ v r,vs=v::r/\t v O H fun O' H'=>u r O' H' Q
theorem zs1:PGs X [] gNil:=by intro pj s O H vs us Q I r h;obtain ⟨e,h⟩:=h;subst e;cases r;exact assignInOrder_nil ⟨O,H,I,h⟩
theorem zpl {e:Expr} {t:TG} {u:TGs} (h1:PG X e t) (h2:PGs X es u)
  (hs:(assignEach (e::es) X.env).map (·.2)=assign e X.env::(assignEach es X.env).map (·.2):=by rfl):PGs X (e::es) (ye9 t u):=by
 intro pj s O H vs us Q I r h;obtain ⟨v,vr,e1,h⟩:=h;subst e1;cases r with
 | cons r rr =>rw [hs];refine assignInOrder_cons (thn (h1 pj s O H _ _ _ I r h) fun _ s1 ⟨O1,H1,I1,q1⟩=>?_);exact h2 pj s1 O1 H1 _ _ Q I1 rr q1
def gTup (K:W.Frag) (n:Nat) (t:TGs):TG:=fun v O H Q=>∃ a xs,v=.ref a/\SqT K H a xs/\xs.length=n/\t xs O H Q
theorem zvo {k:Nat} {t:TGs} {n:Nat} (hc:X.calm=true) (h:PGs X es t)
  (hn:(assignEach es X.env).length=n:=by rfl) (hst:(assignEach es X.env).findIdx? (·.1)=none:=by rfl):PG X (.Tuple es k pos) (gTup X.K n t):=by
 intro pj s O H v u Q I r hw;obtain ⟨a,xs,e1,hq,hl,hw⟩:=hw;subst e1;cases r;obtain ⟨qc,rv,ht,hz⟩:=I.tuple hq;refine assign_Tuple_tuple (I.ok.hd hc) ht (by simp [hn,<- hl,rv.length]) hst fun h' hx=>?_;have I1:Inv X pj O H { s with heap:=h' }:=I.kept (t':=s.toks) fun b o e=>hx b o (zz5 (zzv e)) e;exact h pj _ O H xs _ Q I1 (by simpa using rv) hw
def tAsg (te:TE) (g:TG):TS:=fun D O H=>te O H fun x H1=>g x O H1 D.nx
theorem zja {i:Nat} {x:Str} {e:Expr} {te:TE} {pos':Pos} (hN:X.N.Nodup) (hi:X.N[i]?=some x) (hx:Loc X.env.scope x) (he:PE X e te) (hs:swapsWith e (some (.Name x pos')) pos.line X.env=pure false:=by rfl) (hf:X.fn x=true\/X.env.scope.names.lookup x=some .local:=by first | exact .inl rfl | exact .inr rfl | assumption) :
  PS X (.Assign [.Name x pos'] e pos) (tAsg te (yeo i)):=by
 intro pj s O H D I h;refine wpAny_Assign_Name (thn (he pj s O H _ I h) fun v s1 ⟨y,H1,I1,r1,q1⟩=>?_) hs;exact zi1 I1 hN hi hx r1 (fun s2 I2=>⟨_,H1,I2,q1⟩) hf
end
section
variable {X:Cx} {pos:Pos}
end
structure It where
 go:Nat->Hp->Prop
 yld:Nat->Hp->V->Hp->Prop
 stop:Nat->Hp->Prop
def ycf (X:Cx) (pj:List (Addr × Obj)) (H:Hp) (b:Addr):Prop :=
 H b=none/\b≠X.env.locals/\b∉X.fs/\(b∈X.ex\/X.s₀.heap.objs.size<=b)/\(∀ x c,X.env.cells.lookup x=some c->c≠b)/\∀ p∈X.pn++pj,p.1≠b
theorem Inv.fpOk {X:Cx} {pj:List (Addr × Obj)} {O:St} {H H':Hp} {s:Shared} {b:Addr} (I:Inv X pj O H s) (hb:s.heap.objs.size<=b) (hn:H' b=none):ycf X pj H' b:=by
 refine ⟨hn,Nat.ne_of_gt (zz1 I.lt hb),I.nofs hb,.inr (zz8 I.sz hb),fun x c e z=>?_,fun p hp z=>?_⟩
 .obtain ⟨v,q⟩:=I.cell x c e;exact absurd (zz1 q.lt (by rw [z];exact hb)) (zAp _)
 .exact absurd (zz1 (zzv (I.pin p hp).1) (by rw [z];exact hb)) (zAp _)
structure Turn (P:Program) (w:World) (K:W.Frag) (tg:Expr) (J:It) (fp:List Addr) (it:Addr) (tn:Nat->Heap->Prop):Prop where
 mem:it∈fp
 obj:∀ i h,tn i h->∀ b∈fp,∃ o,h.get? b=some o/\∀ v,o.data≠.cell v
 keep:∀ i h h',tn i h->(∀ b∈fp,∀ o,h.get? b=some o->h'.get? b=some o)->tn i h'
 item:∀ (X:Cx),X.prog=P->X.w=w->X.K=K->X.calm=true->∀ (i:Nat) (pj:List (Addr × Obj)) (s:Shared) (O:St) (H:Hp) (E:Value->Shared->Prop),Inv X pj O H s->(∀ b∈fp,ycf X pj H b)->tn i s.heap->J.go i H ->
  wpAny (model P w) X.A (pyNext (.ref it)) (fun r s1=>∃ u,r=some u /\
   wpAny (model P w) X.A (letOwnedTupleGo tg (.ref it) u) (fun _ s2=>∃ x H',Inv X pj O H' s2/\RelV x u/\J.yld i H x H'/\tn (i+1) s2.heap/\∀ b∈fp,H' b=none) E s1) E s
 done:∀ (X:Cx),X.prog=P->X.w=w->X.K=K->X.calm=true->∀ (i:Nat) (pj:List (Addr × Obj)) (s:Shared) (O:St) (H:Hp) (E:Value->Shared->Prop),Inv X pj O H s->(∀ b∈fp,ycf X pj H b)->tn i s.heap->J.stop i H ->
  wpAny (model P w) X.A (pyNext (.ref it)) (fun r s1=>r=none/\Inv X pj O H s1) E s
 self:∀ (A:Around) (i:Nat) (s:Shared) (Q:Value->Shared->Prop) (E:Value->Shared->Prop),tn i s.heap->Q (.ref it) s->wpAny (model P w) A (pyIter (.ref it)) Q E s
abbrev TI:=St->Hp->(It->Hp->Prop)->Prop
def PIE (X:Cx) (pj:List (Addr × Obj)) (O:St) (tg:Expr) (R:It->Hp->Prop) (itv:Value) (s2:Shared):Prop :=
 ∃ (it:Addr) (fp:List Addr) (tn:Nat->Heap->Prop) (J:It) (H':Hp),itv=.ref it/\Inv X pj O H' s2/\Turn X.prog X.w X.K tg J fp it tn/\tn 0 s2.heap/\(∀ b∈fp,ycf X pj H' b)/\R J H'
def PI (X:Cx) (tg iter:Expr) (wi:TI):Prop :=
 ∀ (pj:List (Addr × Obj)) (s:Shared) (O:St) (H:Hp) (R:It->Hp->Prop),Inv X pj O H s->wi O H R ->
  wpAny (model X.prog X.w) X.A (eval iter X.env) (fun v s1=>wpAny (model X.prog X.w) X.A (pyIter v) (PIE X pj O tg R) X.xe s1) X.xe s
theorem zqc {M:Model} {A:Around} {E:Value->Shared->Prop} {s:Shared} {it:Addr} {u:Value} {o:Obj} {n:String} {vs:Array Value} {Q:Unit->Shared->Prop} (ho:s.heap.get? it=some o) (hc:o.cls=.type n) (hd:o.data=.fields vs)
  (hn:["enumerate", "zip", "dict_itemiterator", "dict_reverseitemiterator", "odict_iterator", "itertools.zip_longest", "itertools.pairwise"].contains n=false) (hQ:Q () s):wpAny M A (letOwnedTupleGo tg (.ref it) u) Q E s:=by
 unfold letOwnedTupleGo;cases tg<;>first
  | exact zzl hQ
  | (cases u<;>first
    | exact zzl hQ
    | (refine zzg (wpAny_load ho ?_)
       rw [hc,hd];show wpAny M A (if (["enumerate", "zip", "dict_itemiterator", "dict_reverseitemiterator", "odict_iterator", "itertools.zip_longest", "itertools.pairwise"].contains n&&vs[0]?==some (rawInt _))=true then _ else _) Q E s;rw [if_neg (by intro h;rw [hn,Bool.false_and] at h;cases h)];exact zzl hQ))
def Itl (K:W.Frag) (a:Addr):It :=
 ⟨fun i H=>∃ xs x,SqL K H a xs/\xs[i]?=some x,fun i H x H'=>H'=H/\∀ xs,SqL K H a xs->xs[i]?=some x,fun i H=>∃ xs,SqL K H a xs/\xs.length<=i⟩
def Itt (K:W.Frag) (a:Addr):It :=
 ⟨fun i H=>∃ xs x,SqT K H a xs/\xs[i]?=some x,fun i H x H'=>H'=H/\∀ xs,SqT K H a xs->xs[i]?=some x,fun i H=>∃ xs,SqT K H a xs/\xs.length<=i⟩
def Itr (lo:Int) (n:Nat):It:=⟨fun i _=>i<n,fun i H x H'=>H'=H/\x=.int (lo+i),fun i _=>n<=i⟩
theorem zk6 (a it:Addr):Turn P w K tg (Itl K a) [it] it (fun i h=>h.IsListIter it a i) where
 mem:=by simp
 obj:=fun i h st b hb=>by
  have e:b=it:=by simpa using hb
  subst e;obtain ⟨o,e,c,d⟩:=st;exact ⟨o,e,fun v z=>by rw [d] at z;cases z⟩
 keep:=fun i h h' st k=>st.at fun o e=>k it (by simp) o e
 item:=by intro X hP hw hK hc i pj s O H E I hf st hg;subst hP hw hK;obtain ⟨xs,x,hq,hx⟩:=hg;obtain ⟨qc,rv,p,hz⟩:=I.list hq;obtain ⟨u,hu,ru⟩:=rv.get hx;obtain ⟨f0,f1,f2,f3,f4,f5⟩:=hf it (by simp);refine wpAny_pyNext_list_item st p.isList (x:=u) (by simpa using hu) fun h' st' sb=>?_;have I1:Inv X pj O H { s with heap:=h' }:=I.turned (t':=s.toks) (fun b o hb e=>(sb.2 b hb).trans e) f0 f1 f3 f4 f5;obtain ⟨o,e,c,d⟩:=id st';exact ⟨u,rfl,zqc (s:={ s with heap:=h' }) e c d (by decide) ⟨x,H,I1,ru,⟨rfl,fun ys hy=>by rw [I.list_inj hy hq];exact hx⟩,st',fun b hb=>(hf b hb).1⟩⟩
 done:=by intro X hP hw hK hc i pj s O H E I hf st hg;subst hP hw hK;obtain ⟨xs,hq,hx⟩:=hg;obtain ⟨qc,rv,p,hz⟩:=I.list hq;obtain ⟨f0,f1,f2,f3,f4,f5⟩:=hf it (by simp);have hl:=rv.length;exact wpAny_pyNext_list_end (I.ok.hd hc) st p.isList (by simp;omega) fun h' eb=>⟨rfl,I.turned (t':=s.toks) (fun b o hb e=>eb b o hb e) f0 f1 f3 f4 f5⟩
 self:=fun _ _ _ _ _ st h=>wpAny_pyIter_listiter st h
theorem zkc (a it:Addr):Turn P w K tg (Itt K a) [it] it (fun i h=>h.IsTupleIter it a i) where
 mem:=by simp
 obj:=fun i h st b hb=>by
  have e:b=it:=by simpa using hb
  subst e;obtain ⟨o,e,c,d⟩:=st;exact ⟨o,e,fun v z=>by rw [d] at z;cases z⟩
 keep:=fun i h h' st k=>st.at fun o e=>k it (by simp) o e
 item:=by intro X hP hw hK hc i pj s O H E I hf st hg;subst hP hw hK;obtain ⟨xs,x,hq,hx⟩:=hg;obtain ⟨qc,rv,p,hz⟩:=I.tuple hq;obtain ⟨u,hu,ru⟩:=rv.get hx;obtain ⟨f0,f1,f2,f3,f4,f5⟩:=hf it (by simp);refine wpAny_pyNext_tuple_item st (show s.heap.IsTuple a qc.toArray from p) (x:=u) (by simpa using hu) fun h' st' sb=>?_;have I1:Inv X pj O H { s with heap:=h' }:=I.turned (t':=s.toks) (fun b o hb e=>(sb.2 b hb).trans e) f0 f1 f3 f4 f5;obtain ⟨o,e,c,d⟩:=id st';exact ⟨u,rfl,zqc (s:={ s with heap:=h' }) e c d (by decide) ⟨x,H,I1,ru,⟨rfl,fun ys hy=>by rw [I.tuple_inj hy hq];exact hx⟩,st',fun b hb=>(hf b hb).1⟩⟩
 done:=by intro X hP hw hK hc i pj s O H E I hf st hg;subst hP hw hK;obtain ⟨xs,hq,hx⟩:=hg;obtain ⟨qc,rv,p,hz⟩:=I.tuple hq;obtain ⟨f0,f1,f2,f3,f4,f5⟩:=hf it (by simp);have hl:=rv.length;exact wpAny_pyNext_tuple_end (I.ok.hd hc) st (show s.heap.IsTuple a qc.toArray from p) (by simp;omega) fun h' eb=>⟨rfl,I.turned (t':=s.toks) (fun b o hb e=>eb b o hb e) f0 f1 f3 f4 f5⟩
 self:=fun _ _ _ _ _ st h=>wpAny_pyIter_tupleiter st h
theorem zkd (it:Addr) (lo:Int) (n:Nat):Turn P w K tg (Itr lo n) [it] it (fun i h=>IsRangeIter h it (lo+(i:Nat)*1) ((n:Int)-(i:Nat)) 1) where
 mem:=by simp
 obj:=fun i h st b hb=>by
  have e:b=it:=by simpa using hb
  subst e;exact ⟨_,st,fun v z=>by have z':Data.fields _=Data.cell v:=z;cases z'⟩
 keep:=fun i h h' st k=>k it (by simp) _ st
 item:=by intro X hP hw hK hc i pj s O H E I hf st hg;subst hP hw hK;obtain ⟨f0,f1,f2,f3,f4,f5⟩:=hf it (by simp);have W:=Walks.range (prog:=X.prog) (w:=X.w) (I.ok.hd hc) it lo 1 n;refine W.item i s _ _ hg st fun v h' tk hv st' kk=>?_;obtain ⟨t,rfl⟩:=hv;have I1:Inv X pj O H { s with heap:=h',toks:=tk }:=I.turned (fun b o hb e=>kk b o (by simpa using hb) e) f0 f1 f3 f4 f5;refine ⟨_,rfl,zqc (s:={ s with heap:=h',toks:=tk }) (n:="range_iterator") st' rfl rfl (by decide) ⟨.int (lo+i),H,I1,⟨t,?_⟩,⟨rfl,rfl⟩,st',fun b hb=>(hf b hb).1⟩⟩;rw [Int.mul_one]
 done:=by intro X hP hw hK hc i pj s O H E I hf st hg;subst hP hw hK;obtain ⟨f0,f1,f2,f3,f4,f5⟩:=hf it (by simp);exact wpAny_pyNext_range_end (I.ok.hd hc) st (by have:n<=i:=hg;omega) fun h' eb=>⟨rfl,I.turned (t':=s.toks) (fun b o hb e=>eb b o hb e) f0 f1 f3 f4 f5⟩
 self:=fun _ _ _ _ _ st h=>wpAny_pyIter_rangeiter st h
end
section
variable {pj:List (Addr × Obj)} {s:Shared} {fp:List Addr}
section
variable {X:Cx} {tg:Expr}
theorem zpd {O:St} {H:Hp} {R:It->Hp->Prop} {E:Value->Shared->Prop} {lo hi:Int} {t u v:Tok} {tk:Nat} (I:Inv X pj O H s) (h1 : -(2 ^ 62)<=lo) (h2:lo<2 ^ 62) (h3 : -(2 ^ 62)<=hi) (h4:hi<2 ^ 62)
  (q:R (Itr lo (hi-lo).toNat) H):wpAny (model X.prog X.w) X.A (pyIter (.ref s.heap.objs.size)) (PIE X pj O tg R) E { s with heap:=s.heap.push { cls:=.type "range",data:=.fields #[.int lo t,.int hi u,.int 1 v] },toks:=tk }:=by
 refine wpAny_pyIter_range (IsRange.new ..) (small_one h1 h2 h3 h4) ?_;have I1:Inv X pj O H { s with heap:=s.heap.push { cls:=.type "range",data:=.fields #[.int lo t,.int hi u,.int 1 v] },toks:=tk }:=I.kept fun b o e=>zzf _ e;refine ⟨(s.heap.push { cls:=.type "range",data:=.fields #[.int lo t,.int hi u,.int 1 v] }).objs.size,[(s.heap.push { cls:=.type "range",data:=.fields #[.int lo t,.int hi u,.int 1 v] }).objs.size],_,_,H,rfl,
  I1.kept (t':=tk) fun b o e=>zzf _ e,zkd _ lo (hi-lo).toNat,?_,fun b hb=>?_,q⟩
 .have e1:lo+((0:Nat):Int)*1=lo:=by simp
  have e2:(((hi-lo).toNat:Nat):Int)-((0:Nat):Int)=Builtin.Range.rangeSize lo hi 1:=by rw [rangeSize_one];split<;>omega
  show IsRangeIter _ _ (lo+((0:Nat):Int)*1) ((((hi-lo).toNat:Nat):Int)-((0:Nat):Int)) 1;rw [e1,e2];exact zzp _ rfl
 .have e:b=(s.heap.push { cls:=.type "range",data:=.fields #[.int lo t,.int hi u,.int 1 v] }).objs.size:=by simpa using hb
  subst e;exact I1.fpOk (zzw _) (I1.hok.fresh (zzw _))
def ygd (ta:TA):TI:=fun O H R=>ta O H fun vs H1=>∃ j:Int,vs=[.int j] /\ -(2 ^ 62)<=j/\j<2 ^ 62/\R (Itr 0 j.toNat) H1
theorem zl3 {a:Expr} {ta:TA} {p pos:Pos} (hg:Gl X "range") (hm:X.mg "range"=none) (ha:PA X [a] ta) (hs:starEach [a] X.env=[(false,eval a X.env)]:=by rfl):PI X tg (.Call (.Name "range" p) [a] [] pos) (ygd ta):=by
 intro pj s O H R I h;refine Call_ (zfm I hg hm boot_range (PyProof.Rows.callWith_type1 (thn (ha pos pj s O H _ I h) fun us s1 ⟨vs,H1,I1,r1,q1⟩=>?_) hs rfl));obtain ⟨j,e,q1,q2,q⟩:=q1;subst e;cases r1 with
 | cons r rr =>cases rr;obtain ⟨t,rfl⟩:=r;exact call_range_1 (zpd I1 (by omega) (by omega) q1 q2 (by simpa using q))
def tFor (wi:TI) (g:TG) (tb:TS):TS:=fun D O H=>wi O H fun J H1=>∃ W:Nat->Nat->St->Hp->Prop,(∃ m,W 0 m O H1)/\∀ i m O H,W i m O H ->
 (J.stop i H/\D.nx O H)\/(J.go i H/\∃ N:St->Hp->Prop,(∀ O' H',N O' H'->∃ m',m'<m/\W (i+1) m' O' H')/\∀ x H',J.yld i H x H'->g x O H' fun O2 H2=>tb { D with nx:=N,ct:=N,bk:=D.nx } O2 H2)
def ycl (fp:List Addr) (h:Heap):List (Addr × Obj):=fp.filterMap fun b=>(h.get? b).map fun o=>(b,o)
theorem zcx {h:Heap} {b:Addr} {o:Obj} (hb:b∈fp) (e:h.get? b=some o):(b,o)∈ycl fp h:=ud8.mpr ⟨b,hb,by rw [e];rfl⟩
theorem zma {h:Heap} {p:Addr × Obj} (hp:p∈ycl fp h):p.1∈fp/\h.get? p.1=some p.2:=by
 obtain ⟨b,hb,e⟩:=ud8.mp hp;cases q:h.get? b with
 | none=>rw [q] at e;cases e
 | some o =>rw [q] at e;have e':(b,o)=p:=zz2 e;subst e';exact ⟨hb,q⟩
theorem Inv.pinned {O:St} {H:Hp} (I:Inv X pj O H s) (hf:∀ b∈fp,ycf X pj H b) (ho:∀ b∈fp,∃ o,s.heap.get? b=some o/\∀ v,o.data≠.cell v):Inv X (pj++ycl fp s.heap) O H s :=
 I.pins_of fun p hp=>(oma hp).elim (fun z=>I.pin p (zAn _ z)) fun z=>by obtain ⟨hb,e⟩:=zma z;obtain ⟨f0,f1,f2,_⟩:=hf p.1 hb;obtain ⟨o,e',d⟩:=ho p.1 hb;rw [e] at e';cases e';exact ⟨e,f0,f1,f2,d⟩
theorem Inv.unpinned {pl:List (Addr × Obj)} {O:St} {H:Hp} (I:Inv X (pj++pl) O H s):Inv X pj O H s:=I.pins_of fun p hp=>I.pin p (zAn _ (List.mem_append_left _ hp))
theorem zq6 {iter:Expr} {body:List Stmt} {wi:TI} {g:TG} {tb:TS} {pos:Pos} (hp:PassesOwn (model X.prog X.w) X.A X.env X.xe) (hc:X.calm=true) (hi:PI X tg iter wi) (hg:PG X tg g) (hb:PSs X body tb)
  (hs:∀ x,foldedSetIterable iter X.env x=pure x:=by intro _;rfl):PS X (.For tg iter body [] pos) (tFor wi g tb):=by
 intro pj s O H D I h;refine wpAny_For (thn (hi pj s O H _ I h) fun v s1 h1=>thn h1 fun itv s2 h2=>?_) hs;obtain ⟨it,fp,tn,J,H2,e,I2,T,st2,f2,W,⟨m0,w0⟩,turn⟩:=h2;subst e;have stat:∀ {H':Hp},(∀ b∈fp,H' b=none)->∀ b∈fp,ycf X pj H' b:=fun hn b hb=>⟨hn b hb,(f2 b hb).2⟩;refine codeAny_forLoop_any (fun n s'=>∃ i O' H',Inv X pj O' H' s'/\tn i s'.heap/\(∀ b∈fp,H' b=none)/\W i n O' H') ?_ m0 ⟨0,O,H2,I2,st2,fun b hb=>(f2 b hb).1,w0⟩;rintro n s3 ⟨i,O3,H3,I3,st3,fr3,w3⟩;rcases turn i n O3 H3 w3 with ⟨stop,qn⟩ | ⟨go,N,hN,step⟩
 .refine wpAny_passesOwn hp (thn (T.done X rfl rfl rfl hc i pj s3 O3 H3 X.xe I3 (stat fr3) st3 stop) fun r s4 ⟨hr,I4⟩=>?_);subst hr;exact wpAny_execs_nil ⟨O3,H3,I4,qn⟩
 .refine wpAny_passesOwn hp (thn (T.item X rfl rfl rfl hc i pj s3 O3 H3 X.xe I3 (stat fr3) st3 go) fun r s4 ⟨u,hr,h4⟩=>?_);subst hr;refine wpAny_passesOwn hp (thn h4 fun _ s5 ⟨x,H5,I5,r5,y5,st5,fr5⟩=>?_);have I5':=I5.pinned (stat fr5) (T.obj _ _ st5);refine wpAny_passesOwn hp (thn (hg _ s5 O3 H5 x u _ I5' r5 (step x H5 y5)) fun _ s6 ⟨O6,H6,I6,q6⟩=>?_);refine wpAny_passesOwn hp (thn (hb _ s6 O6 H6 _ I6 q6) fun f s7 q7=>?_);have again:∀ {O7:St} {H7:Hp},Inv X (pj++ycl fp s5.heap) O7 H7 s7->N O7 H7->∃ m,m<n/\∃ i O' H',Inv X pj O' H' s7/\tn i s7.heap/\(∀ b∈fp,H' b=none)/\W i m O' H':=fun {O7 H7} I7 n7=>by obtain ⟨m',hm,w7⟩:=hN O7 H7 n7;refine ⟨m',hm,i+1,O7,H7,I7.unpinned,T.keep _ _ _ st5 fun b hb o e=>(I7.pin (b,o) (zAn _ (zAn _ (zcx hb e)))).1,fun b hb=>?_,w7⟩;obtain ⟨o,e,d⟩:=T.obj _ _ st5 b hb;exact (I7.pin (b,o) (zAn _ (zAn _ (zcx hb e)))).2.1
  cases f with
  | next=>obtain ⟨O7,H7,I7,n7⟩:=q7;exact again I7 n7
  | cont=>obtain ⟨O7,H7,I7,n7⟩:=q7;exact again I7 n7
  | brk=>obtain ⟨O7,H7,I7,q7⟩:=q7;exact ⟨O7,H7,I7.unpinned,q7⟩
  | ret v=>obtain ⟨x7,O7,H7,I7,r7,q7⟩:=q7;exact ⟨x7,O7,H7,I7.unpinned,r7,q7⟩
end
end
section
variable {pj:List (Addr × Obj)} {op:CmpOp} {g:Int->Int->Int} {us:List Value}
abbrev R2:=V->V->Hp->VK->Prop
def OpR (X:Cx) (f:Value->Value->Sem Value) (r:R2):Prop :=
 ∀ (pj:List (Addr × Obj)) (s:Shared) (O:St) (H:Hp) (x y:V) (v u:Value) (Q:VK),Inv X pj O H s->RelV x v->RelV y u->r x y H Q ->
  wpAny (model X.prog X.w) X.A (f v u) (EP X pj O Q) X.xe s
def UnR (X:Cx) (f:Value->Sem Value) (r:V->Hp->VK->Prop):Prop :=
 ∀ (pj:List (Addr × Obj)) (s:Shared) (O:St) (H:Hp) (x:V) (v:Value) (Q:VK),Inv X pj O H s->RelV x v->r x H Q ->
  wpAny (model X.prog X.w) X.A (f v) (EP X pj O Q) X.xe s
def yb7 (X:Cx) (f:Value) (r:List V->Hp->VK->Prop):Prop :=
 ∀ (pj:List (Addr × Obj)) (s:Shared) (O:St) (H:Hp) (xs:List V) (us:List Value) (Q:VK),Inv X pj O H s->Vals xs us->r xs H Q ->
  wpAny (model X.prog X.w) X.A (call f us) (EP X pj O Q) X.xe s
def TruR (X:Cx) (r:V->Hp->(Bool->Hp->Prop)->Prop):Prop :=
 ∀ (pj:List (Addr × Obj)) (s:Shared) (O:St) (H:Hp) (x:V) (v:Value) (Q:Bool->Hp->Prop),Inv X pj O H s->RelV x v->r x H Q ->
  wpAny (model X.prog X.w) X.A (truthy v) (TP X pj O Q) X.xe s
def tOp (r:R2) (ta tb:TE):TE:=fun O H Q=>ta O H fun x H1=>tb O H1 fun y H2=>r x y H2 Q
def tUn (r:V->Hp->VK->Prop) (ta:TE):TE:=fun O H Q=>ta O H fun x H1=>r x H1 Q
def rI (C:Int->Int->Prop) (g:Int->Int->V):R2:=fun x y H Q=>∃ i j,x=.int i/\y=.int j/\C i j/\Q (g i j) H
def rI0 (g:Int->Int->V):R2:=fun x y H Q=>∃ i j,x=.int i/\y=.int j/\Q (g i j) H
def rU (g:Int->V):V->Hp->VK->Prop:=fun x H Q=>∃ i,x=.int i/\Q (g i) H
section
variable {X:Cx} {a b c:Expr} {ta tb tc:TE} {pos:Pos}
theorem ya0 (ha:PE X a ta) (hb:PE X b tb) {s:Shared} {O:St} {H:Hp} {R:V->V->Hp->Prop} (I:Inv X pj O H s)
  (h:ta O H fun x H1=>tb O H1 fun y H2=>R x y H2) {Q:Value->Shared->Prop} {f:Value->Value->Sem Value}
  (hf:∀ v u s2 x y H2,Inv X pj O H2 s2->RelV x v->RelV y u->R x y H2->wpAny (model X.prog X.w) X.A (f v u) Q X.xe s2) :
  wpAny (model X.prog X.w) X.A (eval a X.env) (fun v s₁=>wpAny (model X.prog X.w) X.A (eval b X.env) (fun u s₂=>wpAny (model X.prog X.w) X.A (f v u) Q X.xe s₂) X.xe s₁) X.xe s:=by
 refine thn (ha pj s O H _ I h) fun v s1 ⟨x,H1,I1,r1,q1⟩=>?_;refine thn (hb pj s1 O H1 _ I1 q1) fun u s2 ⟨y,H2,I2,r2,q2⟩=>?_;exact hf v u s2 x y H2 I2 r1 r2 q2
theorem zvr {op:Operator} {r:R2} (ho:OpR X (binaryOp op) r) (ha:PE X a ta) (hb:PE X b tb):PE X (.BinOp a op b pos) (tOp r ta tb):=by intro pj s O H Q I h;exact wpAny_BinOp (ya0 ha hb I h fun v u s2 x y H2 I2 rx ry q=>ho pj s2 O H2 x y v u Q I2 rx ry q)
theorem zyn {op:UnaryOp} {r:V->Hp->VK->Prop} (ho:UnR X (unaryOp op) r) (ha:PE X a ta):PE X (.UnaryOp op a pos) (tUn r ta):=by intro pj s O H Q I h;exact UnaryOp_ (thn (ha pj s O H _ I h) fun v s1 ⟨x,H1,I1,r1,q1⟩=>ho pj s1 O H1 x v Q I1 r1 q1)
theorem opI {f:Value->Value->Sem Value} {C:Int->Int->Prop}
  (rule:∀ (i j:Int) (t u:Tok) (s:Shared) (Q:Value->Shared->Prop) (E:Value->Shared->Prop),C i j->Q (.int (g i j) s.toks) { s with toks:=s.toks+1 }->wpAny (model X.prog X.w) X.A (f (.int i t) (.int j u)) Q E s) :
  OpR X f (rI C fun i j=>.int (g i j)):=by
 intro pj s O H x y v u Q I rx ry h;obtain ⟨i,j,rfl,rfl,hc,q⟩:=h;obtain ⟨t,rfl⟩:=rx;obtain ⟨t',rfl⟩:=ry;exact rule i j t t' s _ _ hc ⟨.int (g i j),H,I.tok _,⟨_,rfl⟩,q⟩
theorem opI0 {f:Value->Value->Sem Value}
  (rule:∀ (i j:Int) (t u:Tok) (s:Shared) (Q:Value->Shared->Prop) (E:Value->Shared->Prop),Q (.int (g i j) s.toks) { s with toks:=s.toks+1 }->wpAny (model X.prog X.w) X.A (f (.int i t) (.int j u)) Q E s) :
  OpR X f (rI0 fun i j=>.int (g i j)):=by
 intro pj s O H x y v u Q I rx ry h;obtain ⟨i,j,rfl,rfl,q⟩:=h;obtain ⟨t,rfl⟩:=rx;obtain ⟨t',rfl⟩:=ry;exact rule i j t t' s _ _ ⟨.int (g i j),H,I.tok _,⟨_,rfl⟩,q⟩
theorem opB0 {f:Value->Value->Sem Value} {g:Int->Int->Bool}
  (rule:∀ (i j:Int) (t u:Tok) (s:Shared) (Q:Value->Shared->Prop) (E:Value->Shared->Prop),Q (.bool (g i j)) s->wpAny (model X.prog X.w) X.A (f (.int i t) (.int j u)) Q E s) :
  OpR X f (rI0 fun i j=>.bl (g i j)):=by
 intro pj s O H x y v u Q I rx ry h;obtain ⟨i,j,rfl,rfl,q⟩:=h;obtain ⟨t,rfl⟩:=rx;obtain ⟨t',rfl⟩:=ry;exact rule i j t t' s _ _ ⟨.bl (g i j),H,I,rfl,q⟩
def CDiv (i j:Int):Prop:=0<j/\j<1073741824
def CMul (i j:Int):Prop:=(-(2 ^ 64)<i/\i<2 ^ 64)\/(-(2 ^ 64)<j/\j<2 ^ 64)
theorem CMul.ok {i j:Int} (h:CMul i j):IntMulOk i j:=by
 rcases h with ⟨h1,h2⟩ | ⟨h1,h2⟩
 .exact .of_left (intBits_le_64 h1 h2)
 .exact .of_right (intBits_le_64 h1 h2)
theorem zv5:OpR X (binaryOp .Add) (rI0 fun i j=>.int (i+j)):=opI0 fun _ _ _ _ _ _ _ q=>add_int q
theorem zv3:OpR X (binaryOp .Sub) (rI0 fun i j=>.int (i-j)):=opI0 fun _ _ _ _ _ _ _ q=>sub_int q
theorem yfd:OpR X (binaryOp .Mult) (rI CMul fun i j=>.int (i*j)):=opI fun _ _ _ _ _ _ _ hc q=>mul_int q hc.ok
theorem yeq:OpR X (binaryOp .FloorDiv) (rI CDiv fun i j=>.int (i/j)):=opI fun i j _ _ _ _ _ hc q=>by have h1:(0:Int)<j:=hc.1;have h2:j<1073741824:=hc.2;exact floordiv_int (by omega) (by rw [Int.fdiv_eq_ediv_of_nonneg i (by omega)];exact q) (.inl (PyProof.noPylong_small (by omega)))
theorem ye6:OpR X (binaryOp .Mod) (rI (fun _ j=>0<j) fun i j=>.int (i%j)):=opI fun i j _ _ _ _ _ hc q=>by have h1:(0:Int)<j:=hc;exact mod_int' (by omega) (by rw [Int.fmod_eq_emod_of_nonneg i (by omega)];exact q)
theorem unI {f:Value->Sem Value} {g:Int->Int}
  (rule:∀ (i:Int) (t:Tok) (s:Shared) (Q:Value->Shared->Prop) (E:Value->Shared->Prop),Q (.int (g i) s.toks) { s with toks:=s.toks+1 }->wpAny (model X.prog X.w) X.A (f (.int i t)) Q E s) :
  UnR X f (rU fun i=>.int (g i)):=by
 intro pj s O H x v Q I rx h;obtain ⟨i,rfl,q⟩:=h;obtain ⟨t,rfl⟩:=rx;exact rule i t s _ _ ⟨.int (g i),H,I.tok _,⟨_,rfl⟩,q⟩
theorem zup:UnR X (unaryOp .USub) (rU fun i=>.int (-i)):=unI fun _ _ _ _ _ q=>neg_int q
end
section
variable {X:Cx} {a b c:Expr} {ta tb tc:TE} {pos:Pos}
theorem znm {O:St} {H:Hp} {s:Shared} {Q:VK} {k k':Bool} (I:Inv X pj O H s) (q:Q (.bl k) H) (e:k=k'):EP X pj O Q (.bool k') s:=by subst e;exact ⟨.bl k,H,I,rfl,q⟩
theorem zyr:OpR X (compareOp .Lt) (rI0 fun i j=>.bl (decide (i<j))):=opB0 fun _ _ _ _ _ _ _ q=>lt_int q
theorem zys:OpR X (compareOp .Gt) (rI0 fun i j=>.bl (decide (j<i))):=opB0 fun _ _ _ _ _ _ _ q=>gt_int q
theorem zl8:OpR X (compareOp .Lt) (fun x y H Q=>∃ i j,x=.str i/\y=.str j/\Q (.bl (decide (i.cps.toList<j.cps.toList))) H):=by intro pj s O H x y v u Q I rx ry h;obtain ⟨i,j,rfl,rfl,q⟩:=h;obtain ⟨t,rfl⟩:=rx;obtain ⟨t',rfl⟩:=ry;exact lt_str (znm I q rfl)
theorem zv4:OpR X (compareOp .Is) (fun x y H Q=>y=.non/\Q (.bl (decide (x=.non))) H):=by
 intro pj s O H x y v u Q I rx ry h;obtain ⟨rfl,q⟩:=h;cases ry;refine is_none_gen (znm I q ?_);cases x<;>first
  | (cases rx;rfl)
  | (obtain ⟨t,rfl⟩:=rx;rfl)
theorem zte:OpR X (compareOp .IsNot) (fun x y H Q=>y=.non/\Q (.bl (!decide (x=.non))) H):=by
 intro pj s O H x y v u Q I rx ry h;obtain ⟨rfl,q⟩:=h;cases ry;refine isnot_none_gen (znm I q ?_);cases x<;>first
  | (cases rx;rfl)
  | (obtain ⟨t,rfl⟩:=rx;rfl)
theorem yb1 (b:Expr) (h:op≠.In:=by decide) (h2:op≠.NotIn:=by decide):behindInMarks op b=false:=by
 have e1:(op==CmpOp.In)=false:=by cases op<;>first | rfl | exact absurd rfl h
 have e2:(op==CmpOp.NotIn)=false:=by cases op<;>first | rfl | exact absurd rfl h2
 cases b<;>simp [behindInMarks,e1,e2]
theorem zs4 {r:R2} (ho:OpR X (compareOp op) r) (ha:PE X a ta) (hb:PE X b tb) (hm:behindInMarks op b=false):PE X (.Compare a [op] [b] pos) (tOp r ta tb):=by intro pj s O H Q I h;exact wpAny_Compare1 (ya0 ha hb I h fun v u s2 x y H2 I2 rx ry q=>ho pj s2 O H2 x y v u Q I2 rx ry q) hm
def ygf (t:TE):TT:=fun O H Q=>t O H fun x H'=>∃ k,x=.bl k/\Q k H'
theorem zst {r:R2} (ho:OpR X (compareOp op) r) (ha:PE X a ta) (hb:PE X b tb) (hm:behindInMarks op b=false):PT X (.Compare a [op] [b] pos) (ygf (tOp r ta tb)):=by
 intro pj s O H Q I h;refine wpAny_isTrue_Compare1 (thn (ha pj s O H _ I h) fun v s1 ⟨x,H1,I1,r1,q1⟩=>thn (hb pj s1 O H1 _ I1 q1) fun u s2 ⟨y,H2,I2,r2,q2⟩ =>thn (ho pj s2 O H2 x y v u _ I2 r1 r2 q2) fun c s3 ⟨z,H3,I3,r3,k,e,q3⟩=>?_) hm;subst e;cases r3;exact wpAny_truthy_bool ⟨H3,I3,q3⟩
def yge (K:W.Frag) (x:V) (H:Hp) (k:Bool):Prop :=
 match x with
 | .non=>k=false
 | .bl b=>k=b
 | .int i=>k=(i != 0)
 | .str y=>y.length<=sizeLine/\k=((y.length:Int) != 0)
 | .byt y=>y.size<=sizeLine/\k=((y.size:Int) != 0)
 | .ref p=>(∃ xs,SqL K H p xs/\k=!xs.isEmpty)\/(∃ xs,SqT K H p xs/\k=!xs.isEmpty)\/∃ qb,H p=some (.dK qb)/\k=!qb.isEmpty
 | _=>False
theorem zks {κ:Type} {qb:List (κ × V)} {vs:List (κ × Value)} (r:KV qb vs):(!vs.isEmpty)=!qb.isEmpty:=by cases r<;>rfl
theorem zfn {xs:List V} {qc:List Value} (r:Vals xs qc):(!qc.toArray.isEmpty)=!xs.isEmpty:=by cases r<;>simp
theorem yc1:(sizeLine:Nat)<2 ^ 63:=by rw [ub5];decide
theorem zus:TruR X (fun x H Q=>∃ k,yge X.K x H k/\Q k H):=by
 intro pj s O H x v Q I rx h;obtain ⟨k,e,q⟩:=h;have hl:=yc1;have hs:sizeLine=16777216:=ub5;cases x with
 | non =>cases rx;have e':k=false:=e;subst e';exact truthy_none ⟨H,I,q⟩
 | bl b =>cases rx;have e':k=b:=e;subst e';exact wpAny_truthy_bool ⟨H,I,q⟩
 | int i =>obtain ⟨t,rfl⟩:=rx;have e':k=(i != 0):=e;subst e';exact PySem.P.truthy_int ⟨H,I,q⟩
 | str y =>obtain ⟨t,rfl⟩:=rx;obtain ⟨hy,e'⟩:y.length<=sizeLine/\k=((y.length:Int) != 0):=e;subst e';exact PySem.P.truthy_str (by omega) ⟨H,I.tok _,q⟩
 | byt y =>obtain ⟨t,rfl⟩:=rx;obtain ⟨hy,e'⟩:y.size<=sizeLine/\k=((y.size:Int) != 0):=e;subst e';exact PySem.W.truthy_bytes (by omega) ⟨H,I.tok _,q⟩
 | ref p =>
  cases rx;have e':(∃ xs,SqL X.K H p xs/\k=!xs.isEmpty)\/(∃ xs,SqT X.K H p xs/\k=!xs.isEmpty)\/∃ qb,H p=some (.dK qb)/\k=!qb.isEmpty:=e;rcases e' with ⟨xs,hx,e'⟩ | ⟨xs,hx,e'⟩ | ⟨qb,hx,e'⟩
  .subst e';obtain ⟨qc,r,pl,hz⟩:=I.list hx;have hlen:=r.length;exact wpAny_truthy_list pl.isList (by simp only [List.size_toArray];omega) ⟨H,I.tok _,by rw [zfn r];exact q⟩
  .subst e';obtain ⟨qc,r,pl,hz⟩:=I.tuple hx;have hlen:=r.length;exact truthy_tuple pl (by simp only [List.size_toArray];omega) ⟨H,I.tok _,by rw [zfn r];exact q⟩
  .subst e';obtain ⟨hz,hS,vs,r,m⟩:qb.length<=sizeLine/\(p==sysModules)=false/\∃ vs,KV qb vs/\s.heap.DictOf (zak X.prog X.w) p vs:=I.hok p _ hx;have hlen:qb.length=vs.length:=Paired.length r;exact wpAny_truthy_dict hS m (by omega) ⟨H,I.tok _,by rw [zks r];exact q⟩
 | _=>exact (show False from e).elim
theorem zpg (ha:PE X a ta) (he:∀ whole,isTrue a X.env whole=(do let v <- whole;standAt a.pos;holding [v] (truthy v))) :
  PT X a (fun O H Q=>ta O H fun x H'=>∃ k,yge X.K x H' k/\Q k H'):=by
 intro pj s O H Q I h;exact isTrue_plain (thn (ha pj s O H _ I h) fun v s1 ⟨x,H1,I1,r1,q1⟩=>zus pj s1 O H1 x v Q I1 r1 q1) (he _)
theorem yb6 {x:V} (r:Vals [x] us):∃ u,us=[u]/\RelV x u:=by
 cases r with
 | cons r1 r2=>cases r2;exact ⟨_,rfl,r1⟩
theorem ye0 {x y:V} (r:Vals [x,y] us):∃ u w',us=[u,w']/\RelV x u/\RelV y w':=by
 cases r with
 | cons r1 r2 =>
  cases r2 with
  | cons r3 r4=>cases r4;exact ⟨_,_,rfl,r1,r3⟩
theorem zhj:yb7 X (.type "int") (fun xs H Q=>(∃ i,xs=[.int i]/\Q (.int i) H)\/∃ k,xs=[.bl k]/\Q (.int (if k then 1 else 0)) H):=by
 intro pj s O H xs us Q I r h;rcases h with ⟨i,rfl,q⟩ | ⟨k,rfl,q⟩
 .obtain ⟨u,rfl,t,rfl⟩:=yb6 r;exact call_int_int ⟨.int i,H,I,⟨_,rfl⟩,q⟩
 .obtain ⟨u,rfl,r1⟩:=yb6 r;cases r1;exact call_int_bool ⟨.int (if k then 1 else 0),H,I.tok _,⟨_,rfl⟩,q⟩
end
end
section
structure ObjM (h:Heap) (x dx C:Addr) (mA:Str->Option Value):Prop where
 obj:h.get? x=some (W.instObj C dx)
 ns:h.Ns1 dx mA
 ne:dx≠x
section
variable {prog:Program} {w:World} {A:Around} {E:Value->Shared->Prop} {s:Shared} {K:W.Frag} {x dx C f:Addr} {mA:Str->Option Value} {name:Str} {v:Value}
end
theorem RelO.some_of {v:V} {o:Option Value} (r:RelO (some v) o):∃ u,o=some u/\RelV v u:=by
 cases o with
 | none=>exact (show False from r).elim
 | some u=>exact ⟨u,rfl,r⟩
section
variable {P:Program} {w:World} {H H':Hp} {h h':Heap} {a C dx:Addr} {fs fs':List (Str × V)}
end
structure Cls (K:W.Frag) (C:Addr):Prop where
 pg:PySem.W.plainGet K C Str.empty=true
 hd:PySem.W.hasDictIn K C=true
 po:PySem.W.plainOver K C=true
 sa:W.findIn K (.ref C) "__setattr__"=some (some (.builtin "object.__setattr__"))
structure Con (K:W.Frag) (C:Addr) (f:Str) (v:V) (u:Value):Prop where
 at_:W.findIn K (.ref C) f=some (some u)
 rel:RelV v u
 get:PySem.W.specialIn K u "__get__"=some none
 cp:PySem.W.copiedNames.contains f=false
structure Meth (K:W.Frag) (C:Addr) (m:Str) (f:Addr):Prop where
 at_:W.findIn K (.ref C) m=some (some (.ref f))
 fn:W.isFn K (.ref f)=true
 kp:W.keepIn K (.ref f)=true
section
variable {X:Cx} {pj:List (Addr × Obj)} {O:St} {H:Hp} {s:Shared} {a C dx:Addr} {fs:List (Str × V)} {f:Str} {v:V} {A:Around} {E:Value->Shared->Prop}
end
section
variable {X:Cx} {o e value:Expr} {f:Str} {pos pos' tpos:Pos} {ta tv:TE}
end
section
variable {X:Cx} {pj:List (Addr × Obj)} {O:St} {H:Hp} {s:Shared} {A:Around} {E:Value->Shared->Prop} {Q:Value->Shared->Prop} {c:Value} {b:Bool}
end
end
section
variable {K:W.Frag} {us:List Value} {mg:Str->Option Value} {scope:Scope}
structure Room (k:Nat) (A:Around):Prop where
 hd:A.handled=none
 dp:A.depth+3*k+5<recursionLimit
 un:A.units+16*k+200<cLine
theorem Room.deeper {k:Nat} {A:Around} (r:Room (k+1) A) (env:Env):Room k (A.deeper env) :=
 ⟨r.hd,by have:=r.dp;show A.depth+1+3*k+5<_;omega,by have:=r.un;show A.units+3+16*k+200<_;omega⟩
theorem Room.depth {k:Nat} {A:Around} (r:Room k A):A.depth<recursionLimit:=by have:=r.dp;omega
def tNil:TA:=fun _ H Q=>Q [] H
def yf4 (ta:TE) (tr:TA):TA:=fun O H Q=>ta O H fun x H1=>tr O H1 fun xs H2=>Q (x::xs) H2
section
variable {X:Cx} {e:Expr} {es:List Expr} {te:TE} {t:TA} {pos:Pos}
theorem zje:PA X [] tNil:=fun _ _ _ _ H Q I h=>Calls.spliced_nil ⟨[],H,I,.nil,h⟩
theorem zer (ha:PE X e te) (hr:PA X es t) (hs:starEach (e::es) X.env=(false,eval e X.env)::starEach es X.env:=by rfl):PA X (e::es) (yf4 te t):=by intro pos pj s O H Q I h;rw [hs];show wpAny _ _ (spliced ((false,eval e X.env)::backTo pos (starEach es X.env))) _ _ s;refine Calls.spliced_cons (thn (ha pj s O H _ I h) fun u s1 ⟨x,H1,I1,r1,q1⟩=>?_);exact thn (hr pos pj s1 O H1 _ I1 q1) fun us s2 ⟨xs,H2,I2,r2,q2⟩=>⟨x::xs,H2,I2,.cons r1 r2,q2⟩
def tTup (t:TA):TE:=fun O H Q=>t O H fun xs H1=>xs.length<=sizeLine/\∀ p,H1 p=none->Q (.ref p) (upd H1 p (.tup xs))
def tLst (t:TA):TE:=fun O H Q=>t O H fun xs H1=>xs.length<=sizeLine/\∀ p,H1 p=none->Q (.ref p) (upd H1 p (.lst xs))
theorem zvp {x1} (h:PA X es t):PE X (.Tuple es x1 pos) (tTup t):=by intro pj s O H Q I hq;refine wpAny_Tuple_spliced (thn (h pos pj s O H _ I hq) fun us s1 ⟨xs,H1,I1,r,z,q⟩=>⟨by rw [<- r.length];exact z,?_⟩);have hf:H1 s1.heap.objs.size=none:=I1.hok.fresh (zzw _);refine ⟨.ref s1.heap.objs.size,upd H1 s1.heap.objs.size (.tup xs),I1.laid (t':=s1.toks) (fun b u e=>zzf _ e) (zzw _) ?_,rfl,q _ hf⟩;exact ⟨z,us,r,⟨_,zzp _ rfl,rfl,_,rfl⟩⟩
theorem zq7 (h:PA X es t):PE X (.List es pos) (tLst t):=by intro pj s O H Q I hq;refine wpAny_List_spliced (thn (h pos pj s O H _ I hq) fun us s1 ⟨xs,H1,I1,r,z,q⟩=>⟨by rw [<- r.length];exact z,?_⟩);have hf:H1 s1.heap.objs.size=none:=I1.hok.fresh (zzw _);refine ⟨.ref s1.heap.objs.size,upd H1 s1.heap.objs.size (.lst xs),I1.laid (t':=s1.toks) (fun b u e=>zzf _ e) (zzw _) ?_,rfl,q _ hf⟩;exact ⟨z,us,0,r,zzp _ rfl⟩
end
abbrev Sp:=List V->Hp->VK->XK->Prop
abbrev CXT:=List Env->Hp->Shared->XK->Value->Shared->Prop
structure Env0 (P:Program) (w:World) (K:W.Frag) (mg:Str->Option Value) (base:Heap) (A:Around) (outer:List Env) (s:Shared) (H:Hp):Prop where
 frames:A.frames=some outer
 mod:Mod K mg base
 bs:∀ b o,base.get? b=some o->s.heap.get? b=some o/\H b=none
 bsz:base.objs.size<=s.heap.objs.size
 funs:s.heap.FunFrames base outer
 frf:∀ b∈frs outer,H b=none
 hok:HOk P w H s.heap
 bare:AllBare s.gens
def CE (outer:List Env) (P:Program) (w:World) (H:Hp) (s:Shared) (Q:VK) (u:Value) (s':Shared):Prop :=
 ∃ v H',s'.os=s.os/\AllBare s'.gens/\Un (frs outer) [] H H' s.heap s'.heap/\HOk P w H' s'.heap/\RelV v u/\Q v H'
def CR (CX:CXT) (outer:List Env) (P:Program) (w:World) (H:Hp) (s:Shared) (Q:VK) (E:XK) (r:Result) (s':Shared):Prop :=
 match r with
 | .ok (.ret u)=>CE outer P w H s Q u s'
 | .ok _=>False
 | .error e=>CX outer H s E e s'
structure FnOk (P:Program) (w:World) (K:W.Frag) (mg:Str->Option Value) (base:Heap) (CX:CXT) (k:Nat) (f:Addr) (fd:FuncData) (ps:List Str) (sp:Sp):Prop where
 len:∀ vs H Q E,sp vs H Q E->vs.length=ps.length
 run:∀ (A:Around) (outer:List Env) (s:Shared) (H:Hp) (args:Args) (us:List Value) (vs:List V) (Q:VK) (E:XK),Room k A->Env0 P w K mg base A outer s H->BindsTo s fd args (ps.zip us)->Vals vs us->sp vs H Q E ->
  codeAny (model P w) A (.call (.ref f) args) (CR CX outer P w H s Q E) s
section
variable {X:Cx} {pj:List (Addr × Obj)} {O:St} {H:Hp} {s s':Shared}
theorem Inv.env0 (I:Inv X pj O H s):Env0 X.prog X.w X.K X.mg X.base X.A X.stack s H :=
 ⟨I.ok.frames,I.ok.mod,I.bs,zz8 I.ok.bsz I.sz,I.stack,I.stkFree,I.hok,I.bare⟩
theorem Inv.after {Q:VK} {u:Value} (I:Inv X pj O H s) (h:CE X.stack X.prog X.w H s Q u s'):EP X pj O Q u s':=by obtain ⟨v,H',os,bare,un,hok,r,q⟩:=h;obtain ⟨hh,g,d,t,os'⟩:=s';obtain rfl:os'=s.os:=os;exact ⟨v,H',I.call (h':=hh) (g':=g) (d':=d) (t':=t) (ch:=[]) un hok bare (fun b z=>absurd z (by simp)),r,q⟩
end
def ygg (sp:Sp) (dvs:List V) (E:XK) (t:TA):TE:=fun O H Q=>t O H fun vs H1=>sp (vs++dvs) H1 Q E
def Binds (K:W.Frag) (fd:FuncData) (ps:List Str) (ds:List Value):Prop :=
 ∀ (s:Shared) (us:List Value),K.In s.heap->(us++ds).length=ps.length->BindsTo s fd ⟨us,[]⟩ (ps.zip (us++ds))
theorem Binds.all {fd:FuncData} {ps:List Str} (h:∀ us:List Value,us.length=ps.length->bindArgs fd ⟨us,[]⟩=pure (ps.zip us)):Binds K fd ps []:=fun s us _ hl=>by rw [zzu] at hl ⊢;exact .of_eq (h us hl)
def ydi (CX:CXT) (X:Cx) (E:XK):Prop:=∀ (pj:List (Addr × Obj)) (O:St) (H:Hp) (s:Shared) (e:Value) (s':Shared),Inv X pj O H s->CX X.stack H s E e s'->X.xe e s'
section
variable {X:Cx} {CX:CXT} {k:Nat} {f C:Addr} {fd:FuncData} {ps:List Str} {sp:Sp} {dvs:List V} {ds:List Value} {E:XK} {x m:Str} {p pos apos:Pos} {e o:Expr} {es:List Expr} {ta:TE} {t:TA}
theorem zu4 {pj:List (Addr × Obj)} {O:St} {H:Hp} {s:Shared} {Q:VK} {vs:List V} (F:FnOk X.prog X.w X.K X.mg X.base CX k f fd ps sp) (hr:Room k X.A) (hb:Binds X.K fd ps ds) (hd:Vals dvs ds) (hx:ydi CX X E)
  (I:Inv X pj O H s) (r:Vals vs us) (h:sp (vs++dvs) H Q E):wpAny (model X.prog X.w) X.A (call (.ref f) us) (EP X pj O Q) X.xe s:=by
 have r2:Vals (vs++dvs) (us++ds):=r.append hd;have hl:(us++ds).length=ps.length:=by rw [<- r2.length];exact F.len _ _ _ _ h
 refine wpAny_call (codeAny_mono (F.run X.A X.stack s H ⟨us,[]⟩ (us++ds) (vs++dvs) Q E hr I.env0 (hb s us I.kIn hl) r2 h) fun r s' hq=>?_);cases r with
 | error e=>exact hx pj O H s e s' I hq
 | ok fl =>
  cases fl with
  | ret u=>exact I.after hq
  | next=>exact False.elim hq
  | brk=>exact False.elim hq
  | cont=>exact False.elim hq
theorem zs5 (F:FnOk X.prog X.w X.K X.mg X.base CX k f fd ps sp) (hr:Room k X.A) (hg:Gl X x) (hm:X.mg x=some (.ref f)) (hk:W.keepIn X.K (.ref f)=true) (hb:Binds X.K fd ps ds) (hd:Vals dvs ds) (hx:ydi CX X E)
  (ha:PA X (e::es) t) (hdb:(x==("__debug__":Str))=false:=by decide) (he:starEach (e::es) X.env=(false,eval e X.env)::starEach es X.env:=by rfl) (hpl:(backTo pos (starEach es X.env)).any (·.1)=false:=by rfl) :
  PE X (.Call (.Name x p) (e::es) [] pos) (ygg sp dvs E t):=by
 intro pj s O H Q I h;refine wpAny_Call_Name_kw (zmo I hg hm ?_ hdb);refine PySem.W.callWith_K (h₀:=X.base) I.ok.mod.kin hk (thn (ha pos pj s O H _ I h) fun us s1 ⟨vs,H1,I1,r,q⟩=>⟨I1.kIn,?_⟩) he hpl;exact zu4 F hr hb hd hx I1 r q
structure Mk (K:W.Frag) (C f:Addr):Prop where
 makes:PySem.W.makesIn K C=true
 init:W.findIn K (.ref C) "__init__"=some (some (.ref f))
 fn:W.isFn K (.ref f)=true
 kp:W.keepIn K (.ref C)=true
end
section
variable {X:Cx} {CX:CXT} {k:Nat} {f C:Addr} {fd:FuncData} {ps ks:List Str} {sp:Sp} {E:XK} {x m:Str} {p pos apos kpos:Pos} {e o:Expr} {es:List Expr} {kws:List Keyword} {te ta:TE} {t tk:TA} {nm:Option Str}
structure KBinds (K:W.Frag) (fd:FuncData) (ps ks:List Str) (g:List Value->List Value->List Value) (gV:List V->List V->List V):Prop where
 to:∀ (s:Shared) (us ws:List Value),K.In s.heap->(g us ws).length=ps.length->BindsTo s fd ⟨us,ks.zip ws⟩ (ps.zip (g us ws))
 rel:∀ {vs:List V} {us:List Value} {zs:List V} {ws:List Value},Vals vs us->Vals zs ws->Vals (gV vs zs) (g us ws)
variable {g:List Value->List Value->List Value} {gV:List V->List V->List V}
end
structure FnScope (N P:List Str) (sc:Scope):Prop where
 kind:sc.kind=.function
 co:sc.isCoroutine=false
 gen:sc.isGenerator=false
 nd:N.Nodup
 pre:N.take P.length=P
 par:∀ x∈P,sc.names.lookup x=some .local\/sc.names.lookup x=some .cell
 nofree:∀ y∈sc.names,y.2≠.free
theorem zhl {kindOf:Str->Option NameKind} {x:Str}:∀ {binds:List (Str × Value)} {m:Str->Option Value},(∀ v,(x,v)∉binds)->bindL kindOf binds m x=m x
 | [],_,_=>rfl
 | (n,v)::r,m,h=>by
  unfold bindL;rw [zhl fun w hw=>h w (zzq _ hw)];split
  .have:x≠n:=by rintro rfl;exact h v zzt
   simp [this]
  .rfl
theorem zhn {kindOf:Str->Option NameKind} {x:Str}:∀ {binds:List (Str × Value)} {m:Str->Option Value},(∀ v,(x,v)∉binds)->bindC kindOf binds m x=m x
 | [],_,_=>rfl
 | (n,v)::r,m,h=>by
  unfold bindC;rw [zhn fun w hw=>h w (zzq _ hw)];split
  .rfl
  .have:x≠n:=by rintro rfl;exact h v zzt
   simp [this]
theorem zhm {kindOf:Str->Option NameKind} {x:Str} {v:Value}:∀ {P:List Str} {vs:List Value} {i:Nat} {m:Str->Option Value},P.Nodup->P[i]?=some x->vs[i]?=some v->kindOf x=some .local ->
  bindL kindOf (P.zip vs) m x=some v
 | [],_,_,_,_,h,_,_=>by simp at h
 | _::_,[],_,_,_,_,h,_=>by simp at h
 | p::P,w::vs,0,m,nd,h1,h2,hk=>by simp at h1 h2;subst h1;subst h2;show bindL kindOf ((p,w)::P.zip vs) m p=_;unfold bindL;rw [zhl fun v hv=>(ua7.mp nd).1 (List.of_mem_zip hv).1,if_pos hk];simp
 | p::P,w::vs,i+1,m,nd,h1,h2,hk=>by show bindL kindOf ((p,w)::P.zip vs) m x=_;unfold bindL;exact zhm (i:=i) (ua7.mp nd).2 (by simpa using h1) (by simpa using h2) hk
theorem zho {kindOf:Str->Option NameKind} {x:Str} {v:Value}:∀ {P:List Str} {vs:List Value} {i:Nat} {m:Str->Option Value},P.Nodup->P[i]?=some x->vs[i]?=some v->kindOf x≠some .local ->
  bindC kindOf (P.zip vs) m x=some v
 | [],_,_,_,_,h,_,_=>by simp at h
 | _::_,[],_,_,_,_,h,_=>by simp at h
 | p::P,w::vs,0,m,nd,h1,h2,hk=>by simp at h1 h2;subst h1;subst h2;show bindC kindOf ((p,w)::P.zip vs) m p=_;unfold bindC;rw [zhn fun v hv=>(ua7.mp nd).1 (List.of_mem_zip hv).1,if_neg hk];simp
 | p::P,w::vs,i+1,m,nd,h1,h2,hk=>by show bindC kindOf ((p,w)::P.zip vs) m x=_;unfold bindC;exact zho (i:=i) (ua7.mp nd).2 (by simpa using h1) (by simpa using h2) hk
def start (N:List Str) (vs:List V):St:=vs.map some++List.replicate (N.length-vs.length) none
def yec (CX:CXT) (P:Program) (w:World) (K:W.Frag) (mg:Str->Option Value) (base:Heap) (N:List Str) (qual:Str) (scope:Scope) (f:Addr) (cd:Value) (A:Around) (outer:List Env) (s:Shared) (H:Hp) (E:XK):Cx where
 prog:=P
 w:=w
 K:=K
 mg:=mg
 base:=base
 A:=A.deeper (envOfC qual scope s.heap.objs.size f cd)
 N:=N
 s₀:=s
 H₀:=H
 env:=envOfC qual scope s.heap.objs.size f cd
 outer:=outer
 stack:=envOfC qual scope s.heap.objs.size f cd::outer
 ex:=[]
 calm:=true
 fn:=fun _=>true
 pn:=[]
 xe:=fun e s'=>wpAny (model P w) (A.deeper (envOfC qual scope s.heap.objs.size f cd)) (leaving (envOfC qual scope s.heap.objs.size f cd) e) (fun _ s''=>CX outer H s E e s'') (fun e' s''=>CX outer H s E e' s'') s'
theorem zj5 {sc:Scope} {n:Nat} {x:Str} (h:sc.names.lookup x=some .cell):∃ c,(cellsFrom n sc.names []).lookup x=some c:=by have q:=W.cellsFrom_some sc.names n [] (.inl h);exact Option.isSome_iff_exists.mp q
theorem zmz {CX:CXT} {P:Program} {w:World} {base:Heap} {N ps:List Str} {qual:Str} {f:Addr} {cd:Value} {A:Around} {outer:List Env} {s s1:Shared} {H:Hp} {E:XK} {vs:List V}
  (S:FnScope N ps scope) (hd:A.handled=none) (e0:Env0 P w K mg base A outer s H) (hl:vs.length=ps.length) (r:Vals vs us)
  (x:InCallC s s.heap.objs.size (bindL (envOfC qual scope s.heap.objs.size f cd).kindOf (ps.zip us) fun _=>none) (cellsFrom (s.heap.objs.size+1) scope.names []) (bindC (envOfC qual scope s.heap.objs.size f cd).kindOf (ps.zip us) fun _=>none) s1) :
  Inv (yec CX P w K mg base N qual scope f cd A outer s H E) [] (start N vs) H s1:=by
 have hpl:ps.length<=N.length:=by have:=zzz List.length S.pre;rw [zAv] at this;omega
 obtain ⟨h1,tk,rfl,hk⟩:=x.done;have noA:∀ b:Addr,b∉(yec CX P w K mg base N qual scope f cd A outer s H E).ex:=fun b z=>absurd (show b∈([]:List Addr) from z) (by simp);refine ⟨⟨e0.mod,S.kind,rfl,rfl,zzw _,fun y z c h1 h2=>?_,fun y hy=>?_,fun y c _ h=>?_,fun _=>hd,Around.frames_deeper e0.frames,.inr ⟨rfl,rfl⟩,fun b z=>absurd z (noA b),e0.bs,e0.bsz,fun b _ _=>noA b,fun b z=>absurd z (noA b),e0.funs,e0.frf⟩,
  rfl,e0.bare,Un.kept hk,⟨_,x.toInCall.ns,fun i y v h1 h2 h3=>?_⟩,fun y c h=>⟨_,x.cell y c h⟩,e0.hok.fresh (Nat.le_refl _),fun y c h=>?_,fun p hp=>absurd (show p∈([]:List (Addr × Obj)) from hp) (by simp),e0.hok.kept hk,?_⟩
 .exact name_of_addr x.apart (PySem.mem_of_lookup h1) (PySem.mem_of_lookup h2)
 .have hy:scope.names.lookup y=some .cell\/scope.names.lookup y=some .free:=hy;rcases hy with hy | hy
  .exact zj5 hy
  .exact absurd rfl (S.nofree _ (PySem.mem_of_lookup hy))
 .exact Nat.le_of_lt (x.above y c (PySem.mem_of_lookup h))
 .have hi:i<vs.length:=by
   unfold start at h2;by_cases hi:i<vs.length
   .exact hi
   .rw [uc4 (by simpa using hi)] at h2;rw [List.getElem?_replicate] at h2;split at h2<;>cases h2
  have ha:vs[i]?=some v:=by
   unfold start at h2;rw [uc5 (by simpa using hi),List.getElem?_map] at h2;cases e:vs[i]? with
   | none=>rw [e] at h2;cases h2
   | some a=>rw [e] at h2;cases h2;rfl
  obtain ⟨u,hu,rv⟩:=r.get ha;have hp:ps[i]?=some y:=by rw [<- S.pre,List.getElem?_take_of_lt (by omega)];exact h1
  have ndP:ps.Nodup:=by rw [<- S.pre];exact S.nd.sublist (List.take_sublist _ _)
  refine ⟨u,rv,?_⟩;rcases S.par y (zAm hp) with k | k
  .exact .inl ⟨k,zhm ndP hp hu k⟩
  .obtain ⟨c,e⟩:=zj5 (n:=s.heap.objs.size+1) k;refine .inr ⟨.inl k,c,e,?_⟩;have q:=x.cell y c e;rw [zho ndP hp hu (by show scope.names.lookup y≠_;rw [k];decide)] at q;exact q
 .exact e0.hok.fresh (Nat.le_of_lt (x.above y c (PySem.mem_of_lookup h)))
 .unfold start;show _=N.length;rw [zzy,zzo,List.length_replicate];omega
theorem zy8 {CX:CXT} {P:Program} {w:World} {base:Heap} {k:Nat} {f:Addr} {name qual:Str} {params:Arguments} {body:List Stmt} {dV kV doc pm cdv ct oc:Value} {an od:Option Addr}
  {osl:Array (Option Value)} {N ps:List Str} {sp:Sp} (lk:K.lookup f=some ⟨oc,od,.func (W.fnOf name qual params body scope dV kV doc pm an cdv ct),osl⟩) (hcd:W.codeIn K cdv qual=true) (S:FnScope N ps scope)
  (len:∀ vs H Q E,sp vs H Q E->vs.length=ps.length)
  (hbody:∀ (A:Around) (outer:List Env) (s:Shared) (H:Hp) (vs:List V) (Q:VK) (E:XK),Room k (A.deeper (envOfC qual scope s.heap.objs.size f cdv))->sp vs H Q E ->
   ∃ t,PSs (yec CX P w K mg base N qual scope f cdv A outer s H E) body t/\t { nx:=fun _ H'=>Q .non H',rt:=Q } (start N vs) H) :
  FnOk P w K mg base CX (k+1) f (W.fnOf name qual params body scope dV kV doc pm an cdv ct) ps sp:=by
 refine ⟨len,fun A outer s H args us vs Q E hr e0 hb r hsp=>?_⟩;have hl:=len _ _ _ _ hsp;have KX:K.In s.heap:=e0.mod.kin.keeps fun b o e=>(e0.bs b o e).1;have lim:s.heap.NoLimit:=e0.mod.nolimit.keeps fun b o e=>(e0.bs b o e).1;have hkind:∀ y∈ps.zip us,scope.names.lookup y.1=some .local\/(scope.names.lookup y.1=some .cell/\((cellsFrom (s.heap.objs.size+1) scope.names []).lookup y.1).isSome=true):=fun ⟨n,v⟩ hy=>by
  rcases S.par n (List.of_mem_zip hy).1 with q | q
  .exact .inl q
  .exact .inr ⟨q,W.cellsFrom_some _ _ _ (.inl q)⟩
 refine codeAny_call_function hr.depth (KX _ _ lk) rfl S.co S.gen rfl (PySem.W.codeRec_of KX hcd) (hb _ _ _ _ ?_);refine wpAny_newFunctionEnv_cells S.kind hkind fun env he s1 x=>?_;subst he;refine ⟨lim.keeps x.toInCall.keep,codeAny_func ?_⟩;obtain ⟨t,ht,hq⟩:=hbody A outer s H vs Q E (hr.deeper _) hsp;have I:Inv (yec CX P w K mg base N qual scope f cdv A outer s H E) [] (start N vs) H s1:=zmz S hr.hd e0 hl r x;refine zAy (ht [] s1 (start N vs) H _ I hq) (fun fl s' hs=>?_) fun e s' hs=>hs;have fin:∀ {O':St} {H':Hp} {v:V} {u:Value},Inv (yec CX P w K mg base N qual scope f cdv A outer s H E) [] O' H' s'->RelV v u->Q v H'->CE outer P w H s Q u s' :=
  fun {O' H' v u} J rv q=>⟨v,H',J.os,J.bare,J.base,J.hok,rv,q⟩
 cases fl with
 | ret u =>obtain ⟨v,O',H',J,rv,q⟩:=hs;exact fin J rv q
 | next =>obtain ⟨O',H',J,q⟩:=hs;exact fin (v:=V.non) (u:=Value.none) J rfl q
 | brk =>obtain ⟨_,_,_,q⟩:=hs;exact False.elim q
 | cont =>obtain ⟨_,_,_,q⟩:=hs;exact False.elim q
end
section
section
variable {X:Cx} {x:Str} {p pos:Pos} {e:Expr} {es:List Expr} {t:TA} {id T:String} {r:List V->Hp->VK->Prop}
def tCB (r:List V->Hp->VK->Prop) (t:TA):TE:=fun O H Q=>t O H fun vs H1=>r vs H1 Q
theorem zjd (hc:yb7 X (.builtin id) r) (hg:Gl X x) (hm:X.mg x=none) (hv:bootBuiltins x=some (.builtin id)) (ha:PA X (e::es) t) (hn:x≠"__name__":=by decide) (hdb:(x==("__debug__":Str))=false:=by decide)
  (he:starEach (e::es) X.env=(false,eval e X.env)::starEach es X.env:=by rfl) (hpl:(backTo pos (starEach es X.env)).any (·.1)=false:=by rfl):PE X (.Call (.Name x p) (e::es) [] pos) (tCB r t):=by
 intro pj s O H Q I h;refine wpAny_Call_Name_kw (zfm I hg hm hv ?_ hn hdb);exact PyProof.Rows.callWith_builtin1 (thn (ha pos pj s O H _ I h) fun us s1 ⟨vs,H1,I1,r1,q1⟩=>hc pj s1 O H1 vs us Q I1 r1 q1) he hpl
theorem zl5 (hc:yb7 X (.type T) r) (hg:Gl X x) (hm:X.mg x=none) (hv:bootBuiltins x=some (.type T)) (ha:PA X (e::es) t) (hn:x≠"__name__":=by decide) (hdb:(x==("__debug__":Str))=false:=by decide)
  (he:starEach (e::es) X.env=(false,eval e X.env)::starEach es X.env:=by rfl) (hpl:(backTo pos (starEach es X.env)).any (·.1)=false:=by rfl):PE X (.Call (.Name x p) (e::es) [] pos) (tCB r t):=by
 intro pj s O H Q I h;refine wpAny_Call_Name_kw (zfm I hg hm hv ?_ hn hdb);exact PyProof.Rows.callWith_type1 (thn (ha pos pj s O H _ I h) fun us s1 ⟨vs,H1,I1,r1,q1⟩=>hc pj s1 O H1 vs us Q I1 r1 q1) he hpl
end
end
end L2
namespace HT
open PySem PyProof.Rows
variable {Q:Value->Shared->Prop} {lo hi:Option Int}
section
open PySem.SeqAt
open PySem.AutoSeq1 (wpAny_loadPart')
open PySem.MeetsSeq PySem.MeetsSeq2 PySem.MeetsSeq3
end
section
variable {prog:Program} {w:World} {A:Around} {E:Value->Shared->Prop} {s:Shared}
theorem cat_tup {t b:Addr} {vs ws:List Value} (ht:IsTup s.heap t vs.toArray) (hb:IsTup s.heap b ws.toArray) (hv:vs≠[])
  (h1:ws=[]->Q (.ref t) s) (h2:ws≠[]->Q (.ref s.heap.objs.size) { s with heap:=s.heap.push { cls:=.type "tuple",data:=.seq (vs++ws).toArray } })
  (hsz:vs.length+ws.length<=sizeLine):wpAny (model prog w) A (binaryOp .Add (.ref t) (.ref b)) Q E s:=by
 obtain ⟨⟨cls,dd,data,sl⟩,ho,hc,n,hd⟩:=id ht;obtain ⟨⟨cls2,dd2,data2,sl2⟩,ho2,hc2,n2,hd2⟩:=id hb;simp only at hc hd hc2 hd2;subst hc hd hc2 hd2;have e:vs.toArray++ws.toArray=(vs++ws).toArray:=by simp
 by_cases hw:ws=[]
 .exact concat_meets ⟨_,ho,rfl⟩ ⟨_,ho2,rfl⟩ noFill_tuple_add seq_tuple_add PySem.F.slot_tuple_add PySem.F.entry_tuple_add (PySem.F.args_tuple_add_2 _ _)
   (tuple_addW1 t b vs.toArray ws.toArray n n2 dd dd2 sl sl2 (by simpa using hv) (by simp [hw])) ⟨ho,ho2,h1 hw⟩
 .refine concat_meets ⟨_,ho,rfl⟩ ⟨_,ho2,rfl⟩ noFill_tuple_add seq_tuple_add PySem.F.slot_tuple_add PySem.F.entry_tuple_add (PySem.F.args_tuple_add_2 _ _)
   (tuple_addW2 t b vs.toArray ws.toArray n n2 dd dd2 sl sl2 (by simpa using hv) (by simpa using hw) (by rw [ua3,ua3];exact hsz)) ⟨ho,ho2,?_⟩
  rw [e];exact h2 hw
def sIx (n d:Nat):Option Int->Nat
 | none=>d
 | some v=>if v<0 then (v+(n:Int)).toNat else min v.toNat n
theorem zu2 (n d:Nat) (hd:d<=n) (o:Option Int):sIx n d o<=n:=by
 cases o with
 | none=>exact hd
 | some v =>
  show (if v<0 then (v+(n:Int)).toNat else min v.toNat n)<=n;by_cases hv:v<0
  .rw [if_pos hv];omega
  .rw [if_neg hv];exact Nat.min_le_right _ _
theorem zn0 (v:Int) (n d:Nat):(if v<0 then max (v+(n:Int)) 0 else min v (n:Int))=((sIx n d (some v):Nat):Int):=by
 show (if v<0 then max (v+(n:Int)) 0 else min v (n:Int))=(((if v<0 then (v+(n:Int)).toNat else min v.toNat n):Nat):Int);by_cases hv:v<0
 .simp only [if_pos hv];omega
 .simp only [if_neg hv];omega
theorem zkx (lo hi:Option Int) (n:Nat):Builtin.Slice.sliceAdjust lo hi 1 (n:Int)=(((sIx n 0 lo:Nat):Int),((sIx n n hi:Nat):Int)):=by
 have h1:¬ ((1:Int)<0):=by omega
 unfold Builtin.Slice.sliceAdjust;simp only [h1,if_false];refine Prod.ext ?_ ?_
 .cases lo with
  | none=>rfl
  | some v=>exact zn0 v n 0
 .cases hi with
  | none=>rfl
  | some v=>exact zn0 v n n
theorem zkj (i j:Nat):Builtin.Slice.slicePlaces (i:Int) (j:Int) 1=j-i:=by
 unfold Builtin.Slice.slicePlaces;have h1:(1:Int)>0:=by omega
 simp only [h1,if_true,Int.ediv_one];split<;>omega
theorem zfe {v:Value} {o:Option Int} {Q:Option Int->Shared->Prop} (p:IsPart v o) (h:Q o s):wpAny (model prog w) A (Builtin.Slice.slicePartIndex v) Q E s:=by
 cases p with
 | none=>exact slicePart_none h
 | int i t=>exact slicePart_int h
theorem sliceApplied_gen {sl:Addr} {vl vu:Value} {n:Nat} {Q:Int × Int × Nat->Shared->Prop} (hs:s.heap.IsSliceOf sl vl vu .none) (pl:IsPart vl lo) (pu:IsPart vu hi)
  (h:Q (((sIx n 0 lo:Nat):Int),1,sIx n n hi-sIx n 0 lo) s):wpAny (model prog w) A (Builtin.Slice.sliceApplied (.ref sl) (pure (n:Int))) Q E s:=by
 obtain ⟨os,hos,hcs,hds⟩:=id hs;unfold Builtin.Slice.sliceApplied Builtin.Slice.sliceFields;refine zzg (zzg (ub4 hos hds (x:=vl) rfl (zzg (ub4 hos hds (x:=vu) rfl (zzg (ub4 hos hds (x:=.none) rfl (zzl ?_)))))));refine zzg (slicePart_none ?_);show wpAny _ _ (if ((1:Int)==0)=true then _ else _) _ _ s;rw [if_neg (by decide)];refine zzg (zfe pl (zzg (zfe pu (zzg (zzl ?_)))));show wpAny _ _ (match Builtin.Slice.sliceAdjust lo hi 1 (n:Int) with | (lo,hi)=>pure (lo,(1:Int),Builtin.Slice.slicePlaces lo hi 1)) _ _ s;rw [zkx lo hi n];show wpAny _ _ (pure (((sIx n 0 lo:Nat):Int),(1:Int),Builtin.Slice.slicePlaces ((sIx n 0 lo:Nat):Int) ((sIx n n hi:Nat):Int) 1)) _ _ s;rw [zkj];exact zzl h
theorem zpk (xs:Array Value) (i k:Nat):((List.range k).filterMap fun (m:Nat)=>xs[((i:Int)+(m:Int)*1).toNat]?).toArray=((xs.toList.drop i).take k).toArray:=by
 have e:(fun (m:Nat)=>xs[((i:Int)+(m:Int)*1).toNat]?)=fun m=>xs[i+m]?:=by
  funext m;have:((i:Int)+(m:Int)*1).toNat=i+m:=by omega
  rw [this]
 rw [e];have:=pick_run xs i k;rw [List.filterMap_map] at this;have e2:((fun x=>xs[x]?)∘fun x=>i+x)=fun m=>xs[i+m]?:=rfl;rw [e2] at this;rw [this]
theorem getItem_tuple_cut {t sl:Addr} {items:Array Value} {vl vu:Value} (ht:IsTup s.heap t items) (hs:s.heap.IsSliceOf sl vl vu .none) (pl:IsPart vl lo) (pu:IsPart vu hi)
  (hw:¬ (sIx items.size 0 lo=0/\sIx items.size items.size hi=items.size))
  (h:Q (.ref s.heap.objs.size) { s with heap:=s.heap.push { cls:=.type "tuple",data:=.seq ((items.toList.drop (sIx items.size 0 lo)).take (sIx items.size items.size hi-sIx items.size 0 lo)).toArray } })
  (hsz:items.size<=sizeLine):wpAny (model prog w) A (getItem (.ref t) (.ref sl)) Q E s:=by
 have htake:sizeOk (.seq ((items.toList.drop (sIx items.size 0 lo)).take (sIx items.size items.size hi-sIx items.size 0 lo)).toArray):=by show ((items.toList.drop (sIx items.size 0 lo)).take (sIx items.size items.size hi-sIx items.size 0 lo)).toArray.size<=sizeLine;rw [zzs,zAv,List.length_drop,zz9];omega
 have hj:sIx items.size items.size hi<=items.size:=zu2 _ _ (zzw _) hi;obtain ⟨os,hos,hcs,hds⟩:=id hs;have hTs:s.TypeIs (.ref sl) "slice":=⟨os,hos,hcs⟩;unfold getItem
 try with_reducible refine uc2 ?_
 first | refine zzg (zzl ?_) | skip
 refine zzg (wpAny_sequenceKey ht.typeIs (by decide) ?_);refine zzg (zAl (name:=Str.ofString "__getitem__") ht.typeIs PyProof.Rows.slot_tuple_getitem
  (zAc PyProof.Rows.slot_tuple_getitem ht.typeIs entry_tuple_getitem ?_ (args_tuple_getitem _ _)))
 show wpAny _ _ (Builtin.Tuple.tupleItemsOf (.ref t) >>= _) _ _ s;refine zzg (tupleItemsOf_ ht ?_);refine zzg (wpAny_typeOf hTs ?_);rw [if_pos (by decide)];refine zzg (sliceApplied_gen hs pl pu ?_);have hno:¬ ((((sIx items.size 0 lo:Nat):Int)==0&&(1:Int)==1&&(sIx items.size items.size hi-sIx items.size 0 lo)==items.size)=true):=by intro q;rw [zzn,zzn] at q;have q1:((sIx items.size 0 lo:Nat):Int)=0:=ua2 q.1.1;have q2:sIx items.size items.size hi-sIx items.size 0 lo=items.size:=ua2 q.2;exact hw ⟨by omega,by omega⟩
 show wpAny _ _ (if (((sIx items.size 0 lo:Nat):Int)==0&&(1:Int)==1&&(sIx items.size items.size hi-sIx items.size 0 lo)==items.size)=true then _ else _) _ _ s;rw [if_neg hno,zpk]
 first
  | exact zzg (m:=Builtin.Tuple.tupleExact _) (zAi (zzl ⟨_,rfl,zzl h⟩) htake)
  | exact zzg (m:=Builtin.Tuple.tupleExact _) (zAi (zzg (zzl (zzl ⟨_,rfl,zzl h⟩))) htake)
  | exact zzg (zzg (m:=Builtin.Tuple.tupleExact _) (zAi (zzl (zzl ⟨_,rfl,zzl h⟩)) htake))
  | exact zzg (zzg (m:=Builtin.Tuple.tupleExact _) (zAi (zzl ⟨_,rfl,zzl h⟩) htake))
end
end HT
namespace L2
open PySem Spec PyProof.Rows
section
abbrev TO:=St->Hp->(Option Int->Hp->Prop)->Prop
def PO (X:Cx) (e:Option Expr) (t:TO):Prop :=
 ∀ (pj:List (Addr × Obj)) (s:Shared) (O:St) (H:Hp) (Q:Option Int->Hp->Prop),Inv X pj O H s->t O H Q ->
  wpAny (model X.prog X.w) X.A (evalPart e X.env) (fun u s'=>∃ o H',Inv X pj O H' s'/\IsPart u o/\Q o H') X.xe s
def zr0:TO:=fun _ H Q=>Q none H
def yf5 (t:TE):TO:=fun O H Q=>t O H fun x H1=>∃ i,x=.int i/\Q (some i) H1
section
variable {X:Cx} {e:Expr} {te:TE} {lo hi:Option Expr} {tl th:TO} {pos p2:Pos}
theorem zsx:PO X none zr0:=by intro pj s O H Q I h;rw [evalPart_none];exact zzl ⟨none,H,I,.none,h⟩
theorem zsw (h:PE X e te):PO X (some e) (yf5 te):=by intro pj s O H Q I hw;rw [evalPart_some];refine thn (h pj s O H _ I hw) fun u s1 ⟨x,H1,I1,r1,q1⟩=>?_;obtain ⟨i,rfl,q⟩:=q1;obtain ⟨t,rfl⟩:=r1;exact ⟨some i,H1,I1,.int i t,q⟩
def SlR (X:Cx) (r:V->Option Int->Option Int->Hp->VK->Prop):Prop :=
 ∀ (pj:List (Addr × Obj)) (s:Shared) (O:St) (H:Hp) (x:V) (v vl vu:Value) (lo hi:Option Int) (sl:Addr) (Q:VK),Inv X pj O H s->RelV x v->s.heap.IsSliceOf sl vl vu .none->IsPart vl lo->IsPart vu hi->r x lo hi H Q ->
  ∃ T id,typeLookup (.type T) "__getitem__"=pure (some (.builtin id))/\s.TypeIs v T/\wpAny (model X.prog X.w) X.A (getItem v (.ref sl)) (EP X pj O Q) X.xe s
def tSl (r:V->Option Int->Option Int->Hp->VK->Prop) (te:TE) (tl th:TO):TE:=fun O H Q=>te O H fun x H1=>tl O H1 fun l H2=>th O H2 fun u H3=>r x l u H3 Q
theorem zpm {r:V->Option Int->Option Int->Hp->VK->Prop} (hr:SlR X r) (he:PE X e te) (hl:PO X lo tl) (hu:PO X hi th):PE X (.Subscript e (.Slice lo hi none p2) pos) (tSl r te tl th):=by intro pj s O H Q I h;refine Subscript_ (thn (he pj s O H _ I h) fun v s1 ⟨x,H1,I1,r1,q1⟩=>?_);refine wpAny_Slice (thn (hl pj s1 O H1 _ I1 q1) fun vl s2 ⟨l,H2,I2,pl,q2⟩=>thn (hu pj s2 O H2 _ I2 q2) fun vu s3 ⟨u,H3,I3,pu,q3⟩=>?_);rw [evalPart_none];refine zzl ?_;have I4:Inv X pj O H3 { s3 with heap:=s3.heap.push { cls:=.type "slice",data:=.fields #[vl,vu,.none] } }:=I3.kept (t':=s3.toks) fun b ob q=>zzf _ q;obtain ⟨T,id,hT,ht,hg⟩:=hr pj { s3 with heap:=s3.heap.push { cls:=.type "slice",data:=.fields #[vl,vu,.none] } } O H3 x v vl vu l u s3.heap.objs.size Q I4 r1 (Heap.IsSliceOf.new ..) pl pu q3;show wpAny (model X.prog X.w) X.A (subscriptTail e (.Slice lo hi none p2) v (.ref s3.heap.objs.size)) (EP X pj O Q) X.xe { s3 with heap:=s3.heap.push { cls:=.type "slice",data:=.fields #[vl,vu,.none] } };exact tail_any (ops:=[.ref s3.heap.objs.size,v]) ht hT hg (by with_unfolding_all rfl)
def ydk (xs:List V) (lo hi:Option Int):List V:=(xs.drop (HT.sIx xs.length 0 lo)).take (HT.sIx xs.length xs.length hi-HT.sIx xs.length 0 lo)
theorem ze1 (xs:List V) (lo hi:Option Int):(ydk xs lo hi).length<=xs.length:=by unfold ydk;rw [zAv,List.length_drop];omega
def rSlT (K:W.Frag):V->Option Int->Option Int->Hp->VK->Prop:=fun x lo hi H Q=>∃ a xs,x=.ref a/\SqT K H a xs /\
 ¬ (HT.sIx xs.length 0 lo=0/\HT.sIx xs.length xs.length hi=xs.length)/\∀ p,H p=none->Q (.ref p) (upd H p (.tup (ydk xs lo hi)))
theorem zuy:SlR X (rSlT X.K):=by
 intro pj s O H x v vl vu lo hi sl Q I rx hs pl pu h;obtain ⟨a,xs,rfl,hx,hw,q⟩:=h;cases rx;obtain ⟨qc,r,ht,hz⟩:=I.tuple hx;have hlen:qc.toArray.size=xs.length:=by rw [zzs];exact r.length.symm
 refine ⟨"tuple",_,PyProof.Rows.slot_tuple_getitem.lookup,ht.typeIs,?_⟩;refine HT.getItem_tuple_cut ht hs pl pu (by rw [hlen];exact hw) ?_ (by rw [hlen];exact hz);rw [hlen];refine ⟨.ref s.heap.objs.size,_,I.laid (t':=s.toks) (o:=.tup (ydk xs lo hi)) (fun b ob q=>zzf _ q) (zzw _) ?_,rfl,q _ (I.hok.fresh (zzw _))⟩;exact ⟨zz8 (ze1 xs lo hi) hz,_,(r.drop (HT.sIx xs.length 0 lo)).take (HT.sIx xs.length xs.length hi-HT.sIx xs.length 0 lo),IsTup.new _ _⟩
end
end
section
def ixN (n:Nat) (i:Int):Option Nat:=if 0<=i then (if i<n then some i.toNat else none) else if -(n:Int)<=i then some (i+n).toNat else none
def atI {α:Type} (xs:List α) (i:Int):Option α:=(ixN xs.length i).bind fun j=>xs[j]?
theorem zt1 {n:Nat} {i:Int} {j:Nat} (h:ixN n i=some j):seqIndex? i n=some j/\j<n /\ -(n:Int)<=i/\i<n:=by
 unfold ixN at h;by_cases h0:0<=i
 .rw [if_pos h0] at h;by_cases h1:i<n
  .rw [if_pos h1] at h;have e:i.toNat=j:=zz2 h;exact ⟨by rw [seqIndex_of h0 h1,e],by omega,by omega,h1⟩
  .rw [if_neg h1] at h;cases h
 .rw [if_neg h0] at h;by_cases h1 : -(n:Int)<=i
  .rw [if_pos h1] at h;have e:(i+n).toNat=j:=zz2 h;exact ⟨by rw [seqIndex_neg (by omega) h1,e],by omega,h1,by omega⟩
  .rw [if_neg h1] at h;cases h
theorem zob {α:Type} {xs:List α} {i:Int} {v:α} (h:atI xs i=some v):∃ j,seqIndex? i xs.length=some j/\xs[j]?=some v/\j<xs.length /\ -(xs.length:Int)<=i/\i<xs.length:=by
 unfold atI at h;cases e:ixN xs.length i with
 | none=>rw [e] at h;cases h
 | some j =>rw [e] at h;obtain ⟨h1,h2,h3,h4⟩:=zt1 e;exact ⟨j,h1,h,h2,h3,h4⟩
def zix (b:Expr):Prop:=∀ o i,subscripted b false o i=operate [o,i] (getItem o i)
def IxR (X:Cx) (r:R2):Prop :=
 ∀ (value slice:Expr) (pj:List (Addr × Obj)) (s:Shared) (O:St) (H:Hp) (x y:V) (v u:Value) (Q:VK),Inv X pj O H s->RelV x v->RelV y u->r x y H Q ->
  subscripted slice false v u=operate [v,u] (getItem v u)->wpAny (model X.prog X.w) X.A (subscriptTail value slice v u) (EP X pj O Q) X.xe s
def MtR (X:Cx) (id:String) (r:V->List V->Hp->VK->Prop):Prop :=
 ∀ (pj:List (Addr × Obj)) (s:Shared) (O:St) (H:Hp) (x:V) (xs:List V) (v:Value) (us:List Value) (Q:VK),Inv X pj O H s->RelV x v->Vals xs us->r x xs H Q ->
  wpAny (model X.prog X.w) X.A (call (.builtin id) (v::us)) (EP X pj O Q) X.xe s
section
variable {X:Cx} {a b:Expr} {ta tb:TE} {pos:Pos}
theorem zyp {r:R2} (hr:IxR X r) (ha:PE X a ta) (hb:PE X b tb) (hs:zix b):PE X (.Subscript a b pos) (tOp r ta tb):=by intro pj s O H Q I h;exact Subscript_ (ya0 ha hb I h fun v u s2 x y H2 I2 rx ry q=>hr a b pj s2 O H2 x y v u Q I2 rx ry q (hs _ _))
def rIxL (K:W.Frag):R2:=fun x y H Q=>∃ p xs i v,x=.ref p/\y=.int i/\SqL K H p xs/\atI xs i=some v/\Q v H
def rIxT (K:W.Frag):R2:=fun x y H Q=>∃ p xs i v,x=.ref p/\y=.int i/\SqT K H p xs/\atI xs i=some v/\Q v H
theorem zt0:IxR X (rIxL X.K):=by
 intro value slice pj s O H x y v u Q I rx ry h hs;obtain ⟨p,xs,i,z,rfl,rfl,hq,he,q⟩:=h;cases rx;obtain ⟨t,rfl⟩:=ry;obtain ⟨qc,r,pl,hz⟩:=I.list hq;obtain ⟨j,h1,h2,h3,h4,h5⟩:=zob he;obtain ⟨w,ew,rw'⟩:=r.get h2;have hl:=r.length;have hn:=yc1;have fin:EP X pj O Q w s:=⟨z,H,I,rw',q⟩;by_cases h0:0<=i
 .have hj:i.toNat=j:=by rw [seqIndex_of h0 h5] at h1;exact zz2 h1
  exact item_listR pl.isList h0 (by omega) (by rw [hj];simpa using ew) fin hs
 .have hj:(i+(qc.toArray.size:Int)).toNat=j:=by rw [seqIndex_neg (by omega) h4] at h1;rw [zzs,<- hl];exact zz2 h1
  exact subscriptTail_builtinR (x:=w) pl.isList.typeIs slot_list_getitem.lookup
   (wpAny_getItem_list_neg (Q:=fun r s'=>r=w/\EP X pj O Q r s') pl.isList (by omega) (by rw [ua3]<;>omega) (by omega) (by rw [hj];simpa using ew) ⟨rfl,fin⟩) hs
theorem zxa:IxR X (rIxT X.K):=by
 intro value slice pj s O H x y v u Q I rx ry h hs;obtain ⟨p,xs,i,z,rfl,rfl,hq,he,q⟩:=h;cases rx;obtain ⟨t,rfl⟩:=ry;obtain ⟨qc,r,pl,hz⟩:=I.tuple hq;obtain ⟨j,h1,h2,h3,h4,h5⟩:=zob he;obtain ⟨w,ew,rw'⟩:=r.get h2;have hl:=r.length;have hn:=yc1;have fin:EP X pj O Q w s:=⟨z,H,I,rw',q⟩;exact subscriptTail_builtinR (x:=w) pl.typeIs slot_tuple_getitem.lookup
  (getItem_tuple (j:=j) (Q:=fun r s'=>r=w/\EP X pj O Q r s') pl (by omega) (by omega) (by rw [ua3,<- hl];exact h1) (by simpa using ew) ⟨rfl,fin⟩) hs
theorem zgt (lo hi:Option Int) (n:Nat):(sliceBounds lo hi none n).1=((HT.sIx n 0 lo:Nat):Int)/\(sliceBounds lo hi none n).2.1=((HT.sIx n n hi:Nat):Int)/\(sliceBounds lo hi none n).2.2=1:=by
 refine ⟨?_,?_,rfl⟩
 .cases lo with
  | none=>simp [sliceBounds,HT.sIx]
  | some i =>
   simp only [sliceBounds,HT.sIx,Option.getD_none,show (1:Int)>0 by decide,if_true];by_cases h:i<0
   .simp only [h,if_true]<;>omega
   .simp only [h,if_false]<;>omega
 .cases hi with
  | none=>simp [sliceBounds,HT.sIx]
  | some i =>
   simp only [sliceBounds,HT.sIx,Option.getD_none,show (1:Int)>0 by decide,if_true];by_cases h:i<0
   .simp only [h,if_true]<;>omega
   .simp only [h,if_false]<;>omega
theorem zfs (qc:List Value) (lo hi:Option Int):slicePick qc.toArray lo hi none=((qc.drop (HT.sIx qc.length 0 lo)).take (HT.sIx qc.length qc.length hi-HT.sIx qc.length 0 lo)).toArray:=by obtain ⟨h1,h2,h3⟩:=zgt lo hi qc.toArray.size;unfold slicePick;rw [h1,h2,h3];simp only [sliceRange_one,pick_run,List.size_toArray]<;>rfl
def rSlL (K:W.Frag):V->Option Int->Option Int->Hp->VK->Prop:=fun x lo hi H Q=>∃ a xs,x=.ref a/\SqL K H a xs/\∀ p,H p=none->Q (.ref p) (upd H p (.lst (ydk xs lo hi)))
theorem zsd:SlR X (rSlL X.K):=by intro pj s O H x v vl vu lo hi sl Q I rx hs pl pu h;obtain ⟨a,xs,rfl,hx,q⟩:=h;cases rx;obtain ⟨qc,r,ht,hz⟩:=I.list hx;have hlen:=r.length;refine ⟨"list",_,slot_list_getitem.lookup,ht.isList.typeIs,?_⟩;refine wpAny_getItem_list_slice ht.isList hs pl pu .none (by simp) ?_ (by rw [ua3]<;>omega);rw [zfs,<- hlen];refine ⟨.ref s.heap.objs.size,_,I.laid (t':=s.toks) (o:=.lst (ydk xs lo hi)) (fun b ob q=>zzf _ q) (zzw _) ?_,rfl,q _ (I.hok.fresh (zzw _))⟩;exact ⟨zz8 (ze1 xs lo hi) hz,_,0,(r.drop (HT.sIx xs.length 0 lo)).take (HT.sIx xs.length xs.length hi-HT.sIx xs.length 0 lo),zzp _ rfl⟩
def ycv:V->Bool
 | .non=>true
 | .bl _=>true
 | .int _=>true
 | .str _=>true
 | _=>false
def eqV:V->V->Bool
 | .non,.non=>true
 | .bl a,.bl b=>a==b
 | .bl a,.int b=>(if a then 1 else 0)==b
 | .int a,.bl b=>a==(if b then 1 else 0)
 | .int a,.int b=>a==b
 | .str a,.str b=>a==b
 | _,_=>false
theorem zxm {A:Around} {s:Shared} {y x:V} {u v:Value} (ry:RelV y u) (rx:RelV x v) (fy:ycv y=true) (fx:ycv x=true):SeqAt.EqAt A s u v (eqV y x):=by
 cases y with
 | non =>
  cases ry;cases x with
  | non=>cases rx;exact SeqAt.EqAt.same _
  | bl b=>cases rx;exact SeqAt.EqAt.none_bool b
  | int b=>obtain ⟨t,rfl⟩:=rx;exact SeqAt.EqAt.none_int b t
  | str b=>obtain ⟨t,rfl⟩:=rx;exact SeqAt.EqAt.none_str b t
  | _=>exact absurd (show false=true from fx) zzx
 | bl a =>
  cases ry;cases x with
  | non=>cases rx;exact SeqAt.EqAt.bool_none a
  | bl b=>cases rx;exact SeqAt.EqAt.bool_bool a b
  | int b=>obtain ⟨t,rfl⟩:=rx;exact SeqAt.EqAt.bool_int a b t
  | str b=>obtain ⟨t,rfl⟩:=rx;exact SeqAt.EqAt.bool_str a b t
  | _=>exact absurd (show false=true from fx) zzx
 | int a =>
  obtain ⟨t',rfl⟩:=ry;cases x with
  | non=>cases rx;exact SeqAt.EqAt.int_none a t'
  | bl b=>cases rx;exact SeqAt.EqAt.int_bool a t' b
  | int b=>obtain ⟨t,rfl⟩:=rx;exact SeqAt.EqAt.int_int a t' b t
  | str b=>obtain ⟨t,rfl⟩:=rx;exact SeqAt.EqAt.int_str a t' b t
  | _=>exact absurd (show false=true from fx) zzx
 | str a =>
  obtain ⟨t',rfl⟩:=ry;cases x with
  | non=>cases rx;exact SeqAt.EqAt.str_none a t'
  | bl b=>cases rx;exact SeqAt.EqAt.str_bool a t' b
  | int b=>obtain ⟨t,rfl⟩:=rx;exact SeqAt.EqAt.str_int a t' b t
  | str b=>obtain ⟨t,rfl⟩:=rx;exact SeqAt.EqAt.str_str a t' b t
  | _=>exact absurd (show false=true from fx) zzx
 | _=>exact absurd (show false=true from fy) zzx
def eqU (x:V) (u:Value):Bool:=match u with
 | .none=>eqV .non x
 | .bool b=>eqV (.bl b) x
 | .int i _=>eqV (.int i) x
 | .str z _=>eqV (.str z) x
 | _=>false
theorem zrm {x y:V} {u:Value} (r:RelV y u) (f:ycv y=true):eqU x u=eqV y x:=by
 cases y with
 | non=>cases r;rfl
 | bl b=>cases r;rfl
 | int i=>obtain ⟨t,rfl⟩:=r;rfl
 | str z=>obtain ⟨t,rfl⟩:=r;rfl
 | _=>exact absurd (show false=true from f) zzx
theorem zjj {A:Around} {s:Shared} {x:V} {v:Value} (rx:RelV x v) (fx:ycv x=true):∀ {xs:List V} {us:List Value},Vals xs us->xs.all ycv=true->∀ u∈us,SeqAt.EqAt A s u v (eqU x u)
 | _,_,.nil,_=>fun u hu=>by cases hu
 | y::xs,u::us,.cons r t,f=>fun u' hu=>by
  rw [List.all_cons,zzn] at f;rcases omc hu with rfl | hu
  .rw [zrm r f.1];exact zxm r rx f.1 fx
  .exact zjj rx fx t f.2 u' hu
theorem zd4:yb7 X (.builtin "len") (fun xs H Q=>∃ p ys,xs=[.ref p]/\(SqL X.K H p ys\/SqT X.K H p ys)/\Q (.int ys.length) H):=by
 intro pj s O H xs us Q I r h;obtain ⟨p,ys,rfl,hq,q⟩:=h;obtain ⟨u,rfl,rx⟩:=yb6 r;cases rx;have hn:=yc1;rcases hq with hq | hq
 .obtain ⟨qc,r',pl,hz⟩:=I.list hq;have hlen:=r'.length;exact Calls.call_len_list pl.isList (by simp only [List.size_toArray]<;>omega) ⟨.int ys.length,H,I.tok _,⟨s.toks+1,by rw [ua3,hlen]⟩,q⟩
 .obtain ⟨qc,r',pl,hz⟩:=I.tuple hq;have hlen:=r'.length;exact len_tuple pl (by simp only [List.size_toArray]<;>omega) ⟨.int ys.length,H,I.tok _,⟨s.toks+1,by rw [ua3,hlen]⟩,q⟩
theorem zdr:yb7 X (.type "tuple") (fun xs H Q=>∃ p ys,xs=[.ref p]/\((SqL X.K H p ys/\∀ l,H l=none->Q (.ref l) (upd H l (.tup ys)))\/(SqT X.K H p ys/\Q (.ref p) H))):=by
 intro pj s O H xs us Q I r h;obtain ⟨p,ys,rfl,h⟩:=h;obtain ⟨u,rfl,rx⟩:=yb6 r;cases rx;rcases h with ⟨hq,q⟩ | ⟨hq,q⟩
 .obtain ⟨qc,r',pl,hz⟩:=I.list hq;have hlen:=r'.length;refine call_tuple_list pl.isList (fun h' kp=>?_) (by simp only [List.size_toArray]<;>omega);have I1:Inv X pj O H { s with heap:=h' }:=I.kept (t':=s.toks) kp;have I2:Inv X pj O (upd H h'.objs.size (.tup ys)) { s with heap:=h'.push { cls:=.type "tuple",data:=.seq qc.toArray } } :=
   I1.laid (t':=s.toks) (fun b o e=>zzf _ e) (zzw _) (show ObjOk X.prog X.w _ _ _ (.tup ys) from ⟨hz,qc,r',IsTup.new _ _⟩)
  exact ⟨.ref h'.objs.size,_,I2,rfl,q _ (I1.hok.fresh (zzw _))⟩
 .obtain ⟨qc,r',pl,hz⟩:=I.tuple hq;exact call_tuple_same pl ⟨.ref p,H,I,rfl,q⟩
def tyV (K:W.Frag) (T:String) (x:V) (H:Hp):Prop:=match x with
 | .str _=>T="str"
 | .int _=>T="int"
 | .ref p=>(T="list"/\∃ xs,SqL K H p xs)\/(T="tuple"/\∃ o,K.lookup p=some o/\o.cls=.type "tuple"/\o.dict=none) \/
   (T="dict"/\((∃ qb,H p=some (.dK qb))\/∃ qb,H p=some (.dT qb)))\/(T="set"/\∃ S n,H p=some (.set S n))
 | _=>False
theorem zuq {pj:List (Addr × Obj)} {O:St} {H:Hp} {s:Shared} {T:String} {x:V} {v:Value} (I:Inv X pj O H s) (r:RelV x v) (ty:tyV X.K T x H) :
  s.TypeIs v T/\∀ a,v=.ref a->∃ ob,s.heap.get? a=some ob/\ob.dict=none:=by
 cases x with
 | str z =>obtain ⟨t,rfl⟩:=r;cases (show T="str" from ty);exact ⟨typeIs_str s z t,fun _ e=>nomatch e⟩
 | int i =>obtain ⟨t,rfl⟩:=r;cases (show T="int" from ty);exact ⟨typeIs_int s i t,fun _ e=>nomatch e⟩
 | ref p =>
  cases r;rcases ty with ⟨rfl,xs,hq⟩ | ⟨rfl,o,hk,hc,hd⟩ | ⟨rfl,hk⟩ | ⟨rfl,S,n,hk⟩
  .obtain ⟨qc,_,pl,_⟩:=I.list hq;refine ⟨pl.isList.typeIs,fun a e=>?_⟩;cases e;obtain ⟨o,n,e,c,hd,_⟩:=pl;exact ⟨o,e,hd⟩
  .refine ⟨⟨o,I.kIn p o hk,hc⟩,fun a e=>?_⟩;cases e;exact ⟨o,I.kIn _ o hk,hd⟩
  .have z:∃ o,s.heap.get? p=some o/\o.ExactDict:=by
    rcases hk with ⟨qb,hk⟩ | ⟨qb,hk⟩
    .obtain ⟨_,_,_,_,o,_,_,e,ex,_⟩:=I.hok p _ hk;exact ⟨o,e,ex⟩
    .obtain ⟨_,_,_,_,o,_,_,e,ex,_⟩:=I.hok p _ hk;exact ⟨o,e,ex⟩
   obtain ⟨o,e,ex⟩:=z;refine ⟨⟨o,e,ex.1⟩,fun a e2=>?_⟩;cases e2;exact ⟨o,e,ex.2.1⟩
  .obtain ⟨o,_,_,_,e,ex,_⟩:=I.hok p _ hk;refine ⟨⟨o,e,ex.1⟩,fun a e2=>?_⟩;cases e2;exact ⟨o,e,ex.2.1⟩
 | _=>exact False.elim ty
def tBM (K:W.Frag) (T:String) (r:V->List V->Hp->VK->Prop) (to:TE) (t:TA):TE:=fun O H Q=>to O H fun x H1=>tyV K T x H1/\t O H1 fun xs H2=>r x xs H2 Q
variable {o e:Expr} {es:List Expr} {to:TE} {t:TA} {name:Str} {apos cpos:Pos} {T id:String} {r:V->List V->Hp->VK->Prop}
theorem zl6 (pa:PlainAttrs T) (slot:Slot T name id) (hty:typeOf (.builtin id)=pure (.type "method_descriptor")) (hm:MtR X id r) (ho:PE X o to) (ha:PA X (e::es) t)
  (hbase:attributeBase o name X.env (eval o X.env)=eval o X.env:=by rfl)
  (hfew:((backTo cpos (starEach (e::es) X.env)).all (fun x=>!x.1)&&(backToKw cpos (keywordEach [] X.env)).all (fun x=>x.1.isSome)
   && decide ((e::es).length+([]:List Keyword).length+(if ([]:List Keyword).isEmpty then 0 else 1)<30))=true:=by rfl)
  (hline:(apos.endLine==cpos.line)=true:=by rfl) (hs:starEach (e::es) X.env=(false,eval e X.env)::starEach es X.env:=by rfl) (hplain:(backTo cpos (starEach es X.env)).any (·.1)=false:=by rfl) :
  PE X (.Call (.Attribute o name apos) (e::es) [] cpos) (tBM X.K T r to t):=by
 intro pj s O H Q I h;refine wpAny_Call_method_late hbase hfew hline rfl (thn (ho pj s O H _ I h) fun v s1 ⟨x,H1,I1,r1,ty,q1⟩=>?_);obtain ⟨h1,h2⟩:=zuq I1 r1 ty;refine ⟨T,id,pa,slot,hty,h1,h2,?_⟩;have hA:=ha cpos pj s1 O H1 _ I1 q1;rw [hs] at hA ⊢;refine Calls.callWith_builtin (by show (false||(backTo cpos (starEach es X.env)).any (·.1))=false;rw [hplain]<;>rfl) (Calls.evalArgs_plain ?_);exact thn hA fun us s2 ⟨vs,H2,I2,r2,q2⟩=>hm pj s2 O H2 x vs v us Q I2 r1 r2 q2
end
end
section
variable {qc:List Value}
def MtM (X:Cx) (id:String) (r:V->List V->Hp->VK->Prop):Prop :=
 ∀ (pj:List (Addr × Obj)) (s:Shared) (O:St) (H:Hp) (x:V) (xs:List V) (v:Value) (us:List Value) (Q:VK),Inv X pj O H s->RelV x v->Vals xs us->r x xs H Q ->
  wpAny (model X.prog X.w) X.A (call (.builtin id) (v::us)) (EP X pj O Q) X.xe s
theorem Vals.one {x:V} {us:List Value} (h:Vals [x] us):∃ u,us=[u]/\RelV x u:=by
 cases h with
 | cons r t=>cases t;exact ⟨_,rfl,r⟩
theorem Vals.two {x y:V} {us:List Value} (h:Vals [x,y] us):∃ u v,us=[u,v]/\RelV x u/\RelV y v:=by
 cases h with
 | cons r t=>
  obtain ⟨_,rfl,q⟩:=Vals.one t;exact ⟨_,_,rfl,r,q⟩
section
variable {X:Cx} {pj:List (Addr × Obj)} {O:St} {H:Hp} {s:Shared} {l b:Addr} {xs ys zs:List V}
theorem Inv.lset {its':List Value} {n:Nat} {f:Array Value->Array Value} {t':Nat} (I:Inv X pj O H s) (hH:H l=some (.lst xs))
  (e:s.heap.get? l=some { cls:=.type "list",data:=.seq qc.toArray n }) (hf:f qc.toArray=its'.toArray) (hv:Vals ys its') (hz:ys.length<=sizeLine) :
  Inv X pj O (upd H l (.lst ys)) { s with heap:=s.heap.update l (Obj.mapSeq f),toks:=t' }:=by
 have q:=PySem.IsL.update e f;rw [hf] at q;refine I.write (x:=l) (e:=l) (by rw [hH];exact trivial) (.inl rfl) (fun b' u hb hu=>(Heap.get?_update_other s.heap (Obj.mapSeq f) (Ne.symm hb)).trans hu) ⟨_,q⟩ ?_;exact ⟨hz,its',_,hv,q⟩
theorem Inv.lnew {t':Nat} (I:Inv X pj O H s) (hv:Vals ys qc) (hz:ys.length<=sizeLine) :
  Inv X pj O (upd H s.heap.objs.size (.lst ys)) { s with heap:=s.heap.push { cls:=.type "list",data:=.seq qc.toArray },toks:=t' } :=
 I.laid (fun _ _ q=>zzf _ q) (zzw _) ⟨hz,qc,0,hv,zzp _ rfl⟩
theorem Inv.fresh (I:Inv X pj O H s):H s.heap.objs.size=none:=I.hok.fresh (zzw _)
theorem Inv.lstM (I:Inv X pj O H s) (hH:H l=some (.lst xs)):xs.length<=sizeLine/\∃ (qc:List Value) (n:Nat),Vals xs qc/\xs.length=qc.length/\s.heap.get? l=some { cls:=.type "list",data:=.seq qc.toArray n }:=by obtain ⟨z,qc,n,r,e⟩:=I.hok l _ hH;exact ⟨z,qc,n,r,r.length,e⟩
theorem zpu {n:Nat} (h:n<=sizeLine):Builtin.List.listTooLong n=false:=by unfold Builtin.List.listTooLong;exact zz7 (by omega)
end
section
variable {X:Cx}
def zlu:V->List V->Hp->VK->Prop:=fun x vs H Q=>∃ l xs y,x=.ref l/\vs=[y]/\H l=some (.lst xs)/\xs.length<sizeLine/\Q .non (upd H l (.lst (xs++[y])))
theorem zes:MtM X "list.append" zlu:=by intro pj s O H x vs v us Q I rx rv h;obtain ⟨l,xs,y,rfl,rfl,hH,hz,q⟩:=h;cases rx;obtain ⟨u,rfl,ru⟩:=rv.one;obtain ⟨z,qc,n,r,hl,e⟩:=I.lstM hH;refine call_meets F.slot_list_append ⟨_,e,rfl⟩ F.entry_list_append (F.args_list_append_2 _ _) (PySem.list_append l qc.toArray n u (by rw [zzs];omega)) ⟨e,?_⟩;refine ⟨.non,_,I.lset (its':=qc++[u]) hH e (by simp) (r.append (.cons ru .nil)) ?_,rfl,q⟩;rw [zzy,List.length_singleton];omega
end
section
variable {prog:Program} {w:World} {A:Around} {E:Value->Shared->Prop} {s:Shared}
set_option maxRecDepth 100000 in
end
section
variable {X:Cx}
end
end
end L2
namespace Att
open PySem PySem.W PySem.Calls PyProof.Rows
theorem zev {P:Params} {h:Heap}:∀ (ns:List Int) (vs:List Value),WellAll P h vs (ns.map WData.int)->IntsAre vs ns:=by
 intro ns
 induction ns with
 | nil =>intro vs w;rw [List.map_nil] at w;cases w;exact .nil
 | cons n ns ih =>
  intro vs w;rw [zzi] at w;cases w with
  | cons a b =>cases a;exact .cons _ _ (ih _ b)
theorem zlk {l:OpenLaw} {n:Nat} (hn:l.most=some n) {P:Params} {h:Heap} {args:List WData} {vals:List Value}
  (hpre:l.row.toRowW.claim.pre args=true) (hwl:WellAll P h vals args) :
  ∃ a vs ns,vals=[Value.ref a]/\args=[WData.list (ns.map WData.int)]/\h.get? a=some { cls:=.type "list",data:=.seq vs.toArray }/\IntsAre vs ns/\ns.length<=n:=by
 have hsh:WShape.hasAll [] args [.list .int]=true:=(pre_splitW hpre).1;have hc:l.pre.holds [] { args:=args }=true:=(pre_splitW hpre).2;obtain ⟨d,r,rfl,h1,h2⟩:=hasAllW_cons hsh;obtain rfl:=hasAllW_nil h2;obtain ⟨xs,rfl,h3⟩:=hasW_list h1;obtain ⟨ns,rfl⟩:=items_int h3;have hlen:ns.length<=n:=by
  unfold OpenLaw.pre at hc;have h4:(WTm.not (.lt (.lit (.int (n:Int))) (.len (.arg 0)))).holds [] { args:=[.list (ns.map .int)] }=true:=by have h4:=(holds_andW hc).1;rw [hn] at h4;exact h4
  have h5:=condW_of h4 (w_not (w_lt w_lit (w_len_list (w_arg rfl))));rw [zzo] at h5;refine Nat.le_of_not_lt fun q=>?_;have q':(n:Int)<((ns.length:Nat):Int):=by omega
  first
   | (rw [zz0 q'] at h5;exact absurd h5 (by decide))
   | (simp at h5;omega)
 cases hwl with
 | cons w1 w2 =>
  cases w2;cases w1 with
  | list ho hall=>exact ⟨_,_,ns,rfl,rfl,ho,zev ns _ hall,hlen⟩
theorem zly (l:OpenLaw) (args:List WData):l.row.toRowW.claim.post args (.bool true) args=true :=
 postW_of (r:=l.row.toRowW) (X:=(true==true))
  (show WShape.has [] (.bool true) .bool=true by first | rfl | decide | simp [WShape.has,WShape.arms,WShape.armsAll])
  (show (WTm.eq .res (.lit (.bool true))).value [] { args:=args,res:=some (.bool true),after:=args }=some (.bool (true==true)) from w_eq_bool (w_res rfl) w_lit) rfl
theorem attach_call {l:OpenLaw} {n:Nat} {q:Program} {loose:List Str} {XP:(Str->Option Value)->Heap->Prop} {YP:World->Heap->Prop} {d:DefRec}
  (hn:l.most=some n) (hdf:d.params.defaults=[])
  (call:∀ (w:World) (s₀ s₁:Shared) (mg mb:Str->Option Value) (fa:Addr) (o:Obj) (pm cd doc:Value) (a:Addr) (vs:List Value) (ns:List Int),
   Ground q loose [] XP w s₀ mg mb s₁.heap->YP w s₁.heap ->
   s₁.heap.get? fa=some o->o.data=.func (docDef d.name d.params d.body d.scope pm cd doc)->s₁.heap.CodeRec cd d.name->mg d.name=some (.ref fa) ->
   s₁.heap.get? a=some { cls:=.type "list",data:=.seq vs.toArray }->IntsAre vs ns->ns.length<=n->s₁.gens=#[] ->
   codeAny (model l.prog w) callerA (.call (.ref fa) ⟨[.ref a],[]⟩) (fun r s'=>r=.ok (.ret (.bool true))/\OldK s₁.heap s'.heap/\s'.os=s₁.os/\AllBare s'.gens) s₁) :
  WalkO q loose XP YP l.row.toRowW d [] (fun f vs=>PySem.call f vs):=by
 intro w s₀ s₁ mg mb G Y fa o pm cd doc dV kV ho hd hcd hD hmg hg args vals as hpre hlay hrd hwl hlo;obtain rfl:dV=.none:=Dflts.none hD hdf;obtain rfl:kV=.none:=Dflts.noKw hD;obtain ⟨a,vs,ns,rfl,rfl,hobj,hints,hlen⟩:=zlk hn hpre hwl;refine enter_call (codeAny_mono (call w s₀ s₁ mg mb fa o pm cd doc a vs ns G Y ho (fd_plain hd) hcd hmg hobj hints hlen hg) fun r s' hq=>?_);obtain ⟨rfl,h2,h3,h4⟩:=hq;exact ⟨.inl ⟨.bool true,.bool true,[],rfl,fun _=>rfl,.bool true,zly l _,fun _=>⟨List.Pairwise.nil,fun _ hm=>(nomatch hm)⟩⟩,h2,h3,h4⟩
section
variable {prog:Program} {w:World} {A:Around} {E:Value->Shared->Prop} {s:Shared} {K:Frag}
end
end Att
namespace L2
open PySem Spec PyProof.Rows
section
theorem zgk:∀ {vs:List Value} {ns:List Int},IntsAre vs ns->Vals (ns.map V.int) vs
 | _,_,.nil=>.nil
 | _,_,.cons n t h=>.cons ⟨t,rfl⟩ (zgk h)
def Only (H:Hp):Prop:=∀ b,H b=none\/∃ o xs,H b=some (.frz o (.lst xs))
end
section
end
section
variable {x qual:Str} {st:Stmt} {f:Addr} {fd:FuncData} {ps:List Str}
def zch (s:Stmt):Arguments:=match s with
 | .FunctionDef _ a _ _ _ _ _ _ _ _=>a
 | _=>{ posonlyargs:=[],args:=[],vararg:=none,kwonlyargs:=[],kw_defaults:=[],kwarg:=none,defaults:=[] }
def zbq (s:Stmt):List Stmt:=match s with
 | .FunctionDef _ _ b _ _ _ _ _ _ _=>b
 | _=>[]
def zab (s:Stmt):Scope:=match s with
 | .FunctionDef _ _ _ _ _ _ sc _ _ _=>sc
 | _=>{ kind:=.function,names:=[],isGenerator:=false,isCoroutine:=false }
abbrev CX0:CXT:=fun _ _ _ _ _ _=>False
abbrev E0:XK:=fun _ _ _=>False
theorem yfq {X:Cx}:ydi CX0 X E0:=fun _ _ _ _ _ _ _ h=>h.elim
structure Fun (K:W.Frag) (x qual:Str) (st:Stmt) (f:Addr) (fd:FuncData):Prop where
 ex:∃ (oc:Value) (od:Option Addr) (kV doc pm:Value) (an:Option Addr) (cdv ct:Value) (osl:Array (Option Value)),
  fd=W.fnOf x qual (zch st) (zbq st) (zab st) .none kV doc pm an cdv ct/\K.lookup f=some ⟨oc,od,.func fd,osl⟩/\W.codeIn K cdv qual=true
 kp:W.keepIn K (.ref f)=true
section
variable {P:Program} {w:World} {K:W.Frag} {mg:Str->Option Value} {base:Heap}
theorem Fun.ok {N:List Str} {k:Nat} {sp:Sp} (F:Fun K x qual st f fd) (S:FnScope N ps (zab st)) (len:∀ vs H Q E,sp vs H Q E->vs.length=ps.length)
  (hbody:∀ (cdv:Value) (A:Around) (outer:List Env) (s:Shared) (H:Hp) (vs:List V) (Q:VK) (E:XK),Room k (A.deeper (envOfC qual (zab st) s.heap.objs.size f cdv))->sp vs H Q E ->
   ∃ t,PSs (yec CX0 P w K mg base N qual (zab st) f cdv A outer s H E).nox (zbq st) t/\t { nx:=fun _ H'=>Q .non H',rt:=Q } (start N vs) H):FnOk P w K mg base CX0 (k+1) f fd ps sp:=by
 obtain ⟨oc,od,kV,doc,pm,an,cdv,ct,osl,rfl,lk,hcd⟩:=F.ex;refine zy8 lk hcd S len fun A outer s H vs Q E hr hsp=>?_;obtain ⟨t,h,q⟩:=hbody cdv A outer s H vs Q E hr hsp;exact ⟨t,h.nox,q⟩
theorem Fun.binds (F:Fun K x qual st f fd)
  (h:∀ (kV doc pm:Value) (an:Option Addr) (cdv ct:Value) (us:List Value),us.length=ps.length->bindArgs (W.fnOf x qual (zch st) (zbq st) (zab st) .none kV doc pm an cdv ct) ⟨us,[]⟩=pure (ps.zip us)):Binds K fd ps []:=by
 obtain ⟨oc,od,kV,doc,pm,an,cdv,ct,osl,rfl,lk,hcd⟩:=F.ex;exact .all (h kV doc pm an cdv ct)
theorem zxi {oc:Value} {od an:Option Addr} {osl:Array (Option Value)} {kV doc pm cdv ct:Value} (l:K.lookup f=some ⟨oc,od,.func (W.fnOf x qual (zch st) (zbq st) (zab st) .none kV doc pm an cdv ct),osl⟩)
  (c:W.codeIn K cdv qual=true) (k:W.keepIn K (.ref f)=true):Fun K x qual st f (W.fnOf x qual (zch st) (zbq st) (zab st) .none kV doc pm an cdv ct):=⟨⟨oc,od,kV,doc,pm,an,cdv,ct,osl,rfl,l,c⟩,k⟩
end
theorem zgs {n:Nat} (h:n<=1000):n<sizeLine:=Nat.lt_of_le_of_lt h (by decide)
section
variable {X:Cx}
end
theorem yff {A B:Prop} (h:B):if false=true then A else B:=by rw [if_neg zzx];exact h
theorem yfp {A B:Prop} (h:A):if true=true then A else B:=by rw [if_pos rfl];exact h
def Same (H H':Hp):Prop:=∀ b o,H b=some o->H' b=some o
theorem Same.refl (H:Hp):Same H H:=fun _ _ h=>h
theorem Same.trans {H H1 H2:Hp} (a:Same H H1) (b:Same H1 H2):Same H H2:=fun c o h=>b c o (a c o h)
theorem Same.free {H H':Hp} (e:Same H H') {l:Addr} (h:H' l=Option.none):H l=Option.none:=by
 cases q:H l with
 | none=>rfl
 | some o =>rw [e l o q] at h;cases h
theorem Same.seq {K:W.Frag} {H H':Hp} {a:Addr} {xs:List V} (e:Same H H') (h:SqL K H a xs):SqL K H' a xs:=by
 rcases h with (h | ⟨o,h⟩) | h
 .exact .inl (.inl (e _ _ h))
 .exact .inl (.inr ⟨o,e _ _ h⟩)
 .exact .inr h
end
end L2
end
namespace Ev
open PySem
section
abbrev Kt:=Sum Int (Option Str)
inductive T where
 | non | bl (b:Bool) | int (i:Int) | str (x:Str) | tup (xs:List T) | lst (xs:List T)
 | dk (ks:List Kt) (vs:List T) | dt (ks:List (List Kt)) (vs:List T)
 deriving Inhabited
inductive Bo where
 | add | sub | mul | fdiv | mod
 deriving DecidableEq
inductive Co where
 | eq | ne | lt | gt | isin | notin | isN | notN | notF
 deriving DecidableEq
inductive Ik where
 | plain | range | enum | zip
 deriving DecidableEq
noncomputable def Ik.pair:Ik->Bool
 | .enum=>true
 | .zip=>true
 | _=>false
inductive Ty where
 | tbool
 deriving DecidableEq
inductive Bn where
 | len | toInt | toTuple | any | sorted | dict
 deriving DecidableEq
inductive Mt where
 | index
 deriving DecidableEq
inductive E where
 | var (i:Nat) | cst (t:T) | glb (x:Str)
 | bin (o:Bo) (a b:E) | cmp (o:Co) (a b:E)
 | land (a b:E) | lor (a b:E) | lnot (a:E) | neg (a:E) | tru (a:E)
 | tup (es:List E) | lst (es:List E)
 | idx (a b:E) | sli (a:E) (lo hi:Option E)
 | call (f:Str) (es:List E) | blt (f:Bn) (a:E) | isi (a:E) (k:Ty) | mth (m:Mt) (a b:E)
 | comp (elt:E) (n:Nat) (k:Ik) (src:List E) (cond:Option E)
 | dg1 (a k:E)
 deriving Inhabited
inductive S where
 | asg (i:Nat) (e:E)
 | app (i:Nat) (e:E)
 | ext (i:Nat) (e:E)
 | dnew (i:Nat)
 | dput (i:Nat) (k v:E)
 | dapp (i:Nat) (k v:E)
 | vloop (is:List Nat) (i:Nat) (body:List S)
 | ret (e:E)
 | fail | exp (e:E)
 | ite (c:E) (a b:List S)
 | loop (is:List Nat) (k:Ik) (src:List E) (body:List S)
 deriving Inhabited
abbrev SZ:Nat:=16777216
abbrev Env:=List (Option T)
structure Glo where
 call:Str->List T->Option T
 con:Str->Option T
noncomputable def yes:T->Option Kt
 | .int i=>some (.inl i)
 | .str x=>some (.inr (some x))
 | .non=>some (.inr none)
 | _=>none
noncomputable def ybn:List T->Option (List Kt)
 | []=>some []
 | x::r=>(yes x).bind fun k=>(ybn r).bind fun ks=>some (k::ks)
noncomputable def tkO:T->Option (List Kt)
 | .tup xs=>ybn xs
 | _=>none
noncomputable def ydm:List T->Option (List (List Kt))
 | []=>some []
 | x::r=>(tkO x).bind fun k=>(ydm r).bind fun ks=>some (k::ks)
noncomputable def kT:Kt->T
 | .inl i=>.int i
 | .inr (some x)=>.str x
 | .inr none=>.non
noncomputable def tkT (k:List Kt):T:=.tup (k.map kT)
section
variable {κ β:Type} [DecidableEq κ]
noncomputable def ybt:List κ->List β->κ->Option β
 | k::ks,v::vs,q=>if k=q then some v else ybt ks vs q
 | _,_,_=>none
noncomputable def yfo:List (κ × β)->κ->Option β
 | [],_=>none
 | p::r,k=>if p.1=k then some p.2 else yfo r k
noncomputable def ybq (qb:List (κ × β)) (k:κ) (v:β):List (κ × β) :=
 if (qb.any fun kv=>decide (kv.1=k))=true then qb.map (fun kv=>if kv.1=k then (kv.1,v) else kv) else qb++[(k,v)]
noncomputable def yfa (qb:List (κ × β)) (k:κ):List (κ × β):=qb.filter fun kv=>decide (kv.1≠k)
end
noncomputable def kLt:Kt->Kt->Bool
 | .inl a,.inl b=>decide (a<b)
 | .inr (some a),.inr (some b)=>decide (a.cps.toList<b.cps.toList)
 | _,_=>false
noncomputable def ycm:Kt->Kt->Bool
 | .inl _,.inl _=>true
 | .inr (some _),.inr (some _)=>true
 | _,_=>false
noncomputable def ya3:List Kt->List Kt->Bool
 | x::xs,y::ys=>if x=y then ya3 xs ys else kLt x y
 | _,_=>false
noncomputable def alike:List Kt->List Kt->Bool
 | [],[]=>true
 | x::xs,y::ys=>ycm x y&&alike xs ys
 | _,_=>false
noncomputable def ydn (k:List Kt):List (List Kt)->List (List Kt)
 | []=>[k]
 | x::r=>if ya3 k x then k::x::r else x::ydn k r
noncomputable def yax:List (List Kt)->List (List Kt)
 | []=>[]
 | k::r=>ydn k (yax r)
noncomputable def ydc (l:List (List Kt)):Option (List (List Kt)):=if l.length<=60/\l.Nodup/\(l.all fun x=>(!x.isEmpty)&&l.all fun y=>alike x y)=true then some (yax l) else none
noncomputable def yb4 (l:List (List Kt)):Option T:=(ydc l).map fun r=>.lst (r.map tkT)
noncomputable def yct (i:Int):Bool:=decide (-18446744073709551616<i)&&decide (i<18446744073709551616)
noncomputable def ybp:T->T->Option T
 | .int a,y=>(match y with
  | .int b=>some (.int (a+b))
  | _=>none)
 | .lst a,y=>(match y with
  | .lst b=>if a.length+b.length<=SZ then some (.lst (a++b)) else none
  | _=>none)
 | .tup a,y=>(match y with
  | .tup b=>if a.length+b.length<=SZ then some (.tup (a++b)) else none
  | _=>none)
 | _,_=>none
noncomputable def yev:T->T->Option T
 | .int a,.int b=>some (.int (a-b))
 | _,_=>none
noncomputable def yd7:T->T->Option T
 | .int a,.int b=>if yct a||yct b then some (.int (a*b)) else none
 | _,_=>none
noncomputable def yat:T->T->Option T
 | .int a,.int b=>if 0<b/\b<1073741824 then some (.int (a/b)) else none
 | _,_=>none
noncomputable def ybh:T->T->Option T
 | .int a,.int b=>if 0<b then some (.int (a%b)) else none
 | _,_=>none
noncomputable def ya0:Bo->T->T->Option T
 | .add=>ybp | .sub=>yev | .mul=>yd7 | .fdiv=>yat | .mod=>ybh
mutual
noncomputable def eqT:T->T->Bool
 | .non,y=>(match y with
  | .non=>true
  | _=>false)
 | .bl a,y=>(match y with
  | .bl b=>a==b
  | .int b=>(if a then 1 else 0)==b
  | _=>false)
 | .int a,y=>(match y with
  | .bl b=>a==(if b then 1 else 0)
  | .int b=>a==b
  | _=>false)
 | .str a,y=>(match y with
  | .str b=>a==b
  | _=>false)
 | .tup a,y=>(match y with
  | .tup b=>yb0 a b
  | _=>false)
 | .lst a,y=>(match y with
  | .lst b=>yb0 a b
  | _=>false)
 | _,_=>false
noncomputable def yb0:List T->List T->Bool
 | [],[]=>true
 | x::xs,y::ys=>eqT x y&&yb0 xs ys
 | _,_=>false
end
mutual
noncomputable def dpP:T->T->Nat
 | .tup a,y=>(match y with
  | .tup b=>ybe a b+1
  | .dk _ _=>20000
  | .dt _ _=>20000
  | _=>0)
 | .lst a,y=>(match y with
  | .lst b=>ybe a b+1
  | .dk _ _=>20000
  | .dt _ _=>20000
  | _=>0)
 | .dk _ _,_=>20000
 | .dt _ _,_=>20000
 | _,y=>(match y with
  | .dk _ _=>20000
  | .dt _ _=>20000
  | _=>0)
noncomputable def ybe:List T->List T->Nat
 | x::xs,y::ys=>max (dpP x y) (ybe xs ys)
 | _,_=>0
end
noncomputable def flat:T->Bool
 | .tup _=>false
 | .lst _=>false
 | .dk _ _=>false
 | .dt _ _=>false
 | _=>true
noncomputable def eqC (x y:T):Option T:=if dpP x y<=30 then some (.bl (eqT x y)) else none
noncomputable def neC (x y:T):Option T:=if dpP x y<=30 then some (.bl (!eqT x y)) else none
noncomputable def ltC:T->T->Option T
 | .int a,.int b=>some (.bl (decide (a<b)))
 | .str a,.str b=>some (.bl (decide (a.cps.toList<b.cps.toList)))
 | _,_=>none
noncomputable def yfb:T->Option (List T)
 | .tup xs=>some xs
 | .lst xs=>some xs
 | _=>none
noncomputable def dpI (x:T) (xs:List T):Bool:=xs.all fun z=>decide (dpP z x<=30)
noncomputable def inC (x y:T):Option Bool :=
 match y with
 | .tup xs=>if dpI x xs then some (xs.any fun z=>eqT z x) else none
 | .lst xs=>if dpI x xs then some (xs.any fun z=>eqT z x) else none
 | .dt ks _=>(match x with
  | .tup xs=>(ybn xs).map fun k=>ks.any fun q=>decide (q=k)
  | _=>none)
 | _=>none
noncomputable def yay:Co->T->T->Option T
 | .eq,x,y=>eqC x y
 | .ne,x,y=>neC x y
 | .lt,x,y=>ltC x y
 | .gt,x,y=>(match x,y with
  | .int a,.int b=>some (.bl (decide (b<a)))
  | _,_=>none)
 | .isin,x,y=>(inC x y).map .bl
 | .notin,x,y=>(inC x y).map fun b=>.bl (!b)
 | .isN,x,y=>(match x,y with
  | .non,.non=>some (.bl true)
  | _,.non=>some (.bl false)
  | _,_=>none)
 | .notN,x,y=>(match x,y with
  | .non,.non=>some (.bl false)
  | _,.non=>some (.bl true)
  | _,_=>none)
 | .notF,x,y=>(match x,y with
  | .bl b,.bl false=>some (.bl b)
  | .non,.bl false=>some (.bl true)
  | _,_=>none)
noncomputable def ixI (n:Nat) (i:Int):Option Nat:=if 0<=i then (if i<n then some i.toNat else none) else if -(n:Int)<=i then some (i+n).toNat else none
noncomputable def ybk (xs:List T) (i:Int):Option T:=(ixI xs.length i).bind fun j=>xs[j]?
noncomputable def yai:T->T->Option T
 | .tup xs,.int i=>ybk xs i
 | .lst xs,.int i=>ybk xs i
 | .dt ks vs,.tup xs=>(ybn xs).bind fun k=>ybt ks vs k
 | _,_=>none
noncomputable def ycw (n d:Nat):Option Int->Nat
 | none=>d
 | some v=>if v<0 then (v+(n:Int)).toNat else min v.toNat n
noncomputable def cut (xs:List T) (lo hi:Option Int):List T:=(xs.drop (ycw xs.length 0 lo)).take (ycw xs.length xs.length hi-ycw xs.length 0 lo)
noncomputable def yc6:T->Option Int->Option Int->Option T
 | .tup xs,lo,hi=>some (.tup (cut xs lo hi))
 | .lst xs,lo,hi=>some (.lst (cut xs lo hi))
 | _,_,_=>none
noncomputable def yc3:T->Option Bool
 | .non=>some false
 | .bl b=>some b
 | .int i=>some (i != 0)
 | .tup xs=>some (!xs.isEmpty)
 | .lst xs=>some (!xs.isEmpty)
 | _=>none
noncomputable def yer (x:T):Ty->Bool
 | .tbool=>(match x with
  | .bl _=>true
  | _=>false)
mutual
noncomputable def ltD:T->T->Option Bool
 | .int a,y=>(match y with
  | .int b=>some (decide (a<b))
  | _=>none)
 | .str a,y=>(match y with
  | .str b=>some (decide (a.cps.toList<b.cps.toList))
  | _=>none)
 | .tup a,y=>(match y with
  | .tup b=>ybl a b
  | _=>none)
 | _,_=>none
noncomputable def ybl:List T->List T->Option Bool
 | [],y=>some (!y.isEmpty)
 | x::xs,y=>(match y with
  | []=>some false
  | b::ys=>if eqT x b=true then ybl xs ys else ltD x b)
end
noncomputable def cD (x y:T):Bool:=ltD x y==some true
noncomputable def kdN:T->Option Nat
 | .int _=>some 0
 | .str _=>some 1
 | .tup _=>some 2
 | _=>none
structure OkN (l:List T):Prop where
 len:l.length<=60
 dp:∀ x∈l,∀ y∈l,dpP x y<=20
 lt:∀ x∈l,∀ y∈l,∃ b,ltD x y=some b
 kd:∃ n,∀ x∈l,∃ a r,x=.tup (a::r)/\kdN a=some n
 tot:l.Pairwise fun x y=>cD y x=!cD x y
 tr:∀ x∈l,∀ y∈l,∀ z∈l,cD x y=true->cD y z=true->cD x z=true
noncomputable def yet (x:T):List T->List T
 | []=>[x]
 | y::r=>if cD x y=true then x::y::r else y::yet x r
noncomputable def yas:List T->List T
 | []=>[]
 | x::r=>yet x (yas r)
open Classical in
noncomputable def yb5 (l:List T):Option T:=if OkN l then some (.lst (yas l)) else none
noncomputable def yds:T->Option (List Kt × T)
 | .tup [.tup ks,v]=>(ybn ks).map fun k=>(k,v)
 | _=>none
noncomputable def ybx:List T->Option (List (List Kt × T))
 | []=>some []
 | x::r=>(yds x).bind fun p=>(ybx r).bind fun ps=>some (p::ps)
noncomputable def ybr (l:List (List Kt × T)):List (List Kt × T):=l.foldl (fun acc p=>ybq acc p.1 p.2) []
noncomputable def blO:T->Option Bool
 | .bl b=>some b
 | _=>none
noncomputable def zdz:List T->Option (List Bool)
 | []=>some []
 | x::r=>(blO x).bind fun b=>(zdz r).bind fun bs=>some (b::bs)
noncomputable def yfk:T->T->Option T
 | .dt ks vs,y=>(match y with
  | .non=>some .non
  | .tup xs=>(ybn xs).map fun q=>(ybt ks vs q).getD .non
  | _=>none)
 | _,_=>none
noncomputable def ya6:Bn->T->Option T
 | .len,x=>(match x with
  | .tup xs=>some (.int xs.length)
  | .lst xs=>some (.int xs.length)
  | _=>none)
 | .toInt,x=>(match x with
  | .int i=>some (.int i)
  | .bl b=>some (.int (if b then 1 else 0))
  | _=>none)
 | .toTuple,x=>(match x with
  | .tup xs=>some (.tup xs)
  | .lst xs=>some (.tup xs)
  | _=>none)
 | .any,x=>(match x with
  | .lst xs=>(zdz xs).map fun bs=>.bl (bs.any id)
  | _=>none)
 | .sorted,x=>(match x with
  | .dt ks _=>yb4 ks
  | .dk [] _=>some (.lst [])
  | .lst xs=>(match (ydm xs).bind yb4 with
   | some r=>some r
   | none=>yb5 xs)
  | _=>none)
 | .dict,x=>(match x with
  | .lst xs=>(ybx xs).bind fun l=>if l.length<=1000 then some (.dt ((ybr l).map (·.1)) ((ybr l).map (·.2))) else none
  | _=>none)
noncomputable def zc5 (x:T):List T->Option Nat
 | []=>none
 | y::r=>if eqT y x then some 0 else (zc5 x r).map (·+1)
noncomputable def yd8:Mt->T->T->Option T
 | .index,.lst xs,y=>if flat y&&xs.all flat then (zc5 y xs).map fun (i:Nat)=>T.int (i:Int) else none
 | _,_,_=>none
noncomputable def ya8:List T->Nat->List T
 | [],_=>[]
 | x::r,i=>.tup [.int i,x]::ya8 r (i+1)
noncomputable def yck:List T->List T->List T
 | x::xs,y::ys=>.tup [x,y]::yck xs ys
 | _,_=>[]
noncomputable def ybm (n:Nat):List T:=(List.range n).map fun (i:Nat)=>T.int (i:Int)
noncomputable def ybv (x:Str):Bool:=x.cps.all (·<128)
noncomputable def items:Ik->List T->Option (List T)
 | .plain,l=>(match l with
  | [.tup xs]=>some xs
  | [.lst xs]=>some xs
  | _=>none)
 | .range,l=>(match l with
  | [.int n]=>if -4611686018427387904<=n/\n<4611686018427387904 then some (ybm n.toNat) else none
  | _=>none)
 | .enum,l=>(match l with
  | [.tup xs]=>some (ya8 xs 0)
  | [.lst xs]=>some (ya8 xs 0)
  | _=>none)
 | .zip,l=>(match l with
  | [x,y]=>(match x with
   | .tup xs=>(yfb y).bind fun ys=>some (yck xs ys)
   | _=>none)
  | _=>none)
noncomputable def yak (k:Ik) (xs:List T):Option (List T):=(items k xs).bind fun qc=>if qc.length<=SZ then some qc else none
noncomputable def bnd (n:Nat) (x:T) (ρ:Env):Option Env :=
 if n=1 then some (some x::ρ) else
  match x with
  | .tup xs=>if xs.length=n then some (xs.map some++ρ) else none
  | _=>none
noncomputable def ya4 (f:T->Option (Option T)):List T->Option (List T)
 | []=>some []
 | x::xs=>(f x).bind fun r=>(ya4 f xs).bind fun rs=>match r with
  | none=>some rs
  | some y=>some (y::rs)
noncomputable def asI:Option T->Option (Option Int)
 | none=>some none
 | some (.int i)=>some (some i)
 | some _=>none
mutual
noncomputable def evE (G:Glo):E->Env->Option T
 | .var i,ρ=>(ρ[i]?).join
 | .cst t,_=>some t
 | .glb x,_=>G.con x
 | .bin o a b,ρ=>(evE G a ρ).bind fun x=>(evE G b ρ).bind fun y=>ya0 o x y
 | .cmp o a b,ρ=>(evE G a ρ).bind fun x=>(evE G b ρ).bind fun y=>yay o x y
 | .land a b,ρ=>(evE G a ρ).bind fun x=>match x with
  | .bl true=>evE G b ρ
  | .bl false=>some (.bl false)
  | _=>none
 | .lor a b,ρ=>(evE G a ρ).bind fun x=>match x with
  | .bl true=>some (.bl true)
  | .bl false=>evE G b ρ
  | _=>none
 | .lnot a,ρ=>(evE G a ρ).bind fun x=>match x with
  | .bl b=>some (.bl (!b))
  | _=>none
 | .neg a,ρ=>(evE G a ρ).bind fun x=>match x with
  | .int i=>some (.int (-i))
  | _=>none
 | .tru a,ρ=>(evE G a ρ).bind fun x=>(yc3 x).map .bl
 | .tup es,ρ=>if es.length<=1000 then (yad G es ρ).map .tup else none
 | .lst es,ρ=>if es.length<=1000 then (yad G es ρ).map .lst else none
 | .idx a b,ρ=>(evE G a ρ).bind fun x=>(evE G b ρ).bind fun y=>yai x y
 | .sli a lo hi,ρ=>(evE G a ρ).bind fun x=>(evO G lo ρ).bind fun l=>(evO G hi ρ).bind fun h=>(asI l).bind fun l'=>(asI h).bind fun h'=>yc6 x l' h'
 | .call f es,ρ=>(yad G es ρ).bind fun xs=>G.call f xs
 | .blt f a,ρ=>(evE G a ρ).bind fun x=>ya6 f x
 | .isi a k,ρ=>(evE G a ρ).bind fun x=>some (.bl (yer x k))
 | .mth m a b,ρ=>(evE G a ρ).bind fun x=>(evE G b ρ).bind fun y=>yd8 m x y
 | .comp elt n k src cond,ρ=>(yad G src ρ).bind fun xs=>(yak k xs).bind fun qc =>
   (ya4 (fun x=>(bnd n x ρ).bind fun ρ'=>(evO G cond ρ').bind fun c=>match c with
    | none=>(evE G elt ρ').map some
    | some (.bl true)=>(evE G elt ρ').map some
    | some (.bl false)=>some none
    | some _=>none) qc).map .lst
 | .dg1 a k,ρ=>(evE G a ρ).bind fun x=>(evE G k ρ).bind fun y=>yfk x y
noncomputable def yad (G:Glo):List E->Env->Option (List T)
 | [],_=>some []
 | e::es,ρ=>(evE G e ρ).bind fun x=>(yad G es ρ).bind fun xs=>some (x::xs)
noncomputable def evO (G:Glo):Option E->Env->Option (Option T)
 | none,_=>some none
 | some e,ρ=>(evE G e ρ).map some
end
inductive Sl where
 | no | val (t:T) | own (ts:List T) | dk (qb:List (Kt × T)) | dt (qb:List (List Kt × T))
 | dl (qb:List (List Kt × List T))
 deriving Inhabited
noncomputable def Sl.isDl:Sl->Bool
 | .dl _=>true
 | _=>false
noncomputable def Sl.get:Sl->Option T
 | .val t=>some t
 | _=>none
noncomputable def Sl.frz:Sl->Sl
 | .own ts=>.val (.lst ts)
 | .dk qb=>.val (.dk (qb.map (·.1)) (qb.map (·.2)))
 | .dt qb=>.val (.dt (qb.map (·.1)) (qb.map (·.2)))
 | s=>s
inductive Out where
 | nx (U:List Sl) | rt (t:T)
 deriving Inhabited
noncomputable def ygl (U:List Sl):Env:=U.map Sl.get
noncomputable def yae:List Nat->List Sl->List Sl
 | [],U=>U
 | i::r,U=>yae r (U.modify i Sl.frz)
mutual
noncomputable def yah:E->List Nat
 | .var i=>[i]
 | .cst _=>[] | .glb _=>[]
 | .bin _ a b=>yah a++yah b
 | .cmp _ a b=>yah a++yah b
 | .land a b=>yah a++yah b
 | .lor a b=>yah a++yah b
 | .lnot a=>yah a
 | .neg a=>yah a
 | .tru a=>yah a
 | .tup es=>yaq es
 | .lst es=>yaq es
 | .idx a b=>yah a++yah b
 | .sli a lo hi=>yah a++(yb8 lo++yb8 hi)
 | .call _ es=>yaq es
 | .blt _ a=>yah a
 | .isi a _=>yah a
 | .mth _ a b=>yah a++yah b
 | .comp elt n _ src cond=>yaq src++((yah elt++yb8 cond).filterMap fun i=>if n<=i then some (i-n) else none)
 | .dg1 a k=>yah a++yah k
noncomputable def yaq:List E->List Nat
 | []=>[]
 | e::es=>yah e++yaq es
noncomputable def yb8:Option E->List Nat
 | none=>[]
 | some e=>yah e
end
noncomputable def fresh:E->Bool
 | .lst _=>true
 | .bin .add _ _=>true
 | _=>false
noncomputable def yap (e:E) (t:T):Sl:=match fresh e,t with
 | true,.lst ts=>.own ts
 | _,t=>.val t
noncomputable def setAll:List Nat->List T->List Sl->Option (List Sl)
 | [],[],U=>some U
 | i::is,x::xs,U=>setAll is xs (U.set i (.val x))
 | _,_,_=>none
noncomputable def ya1 (is:List Nat) (x:T) (U:List Sl):Option (List Sl) :=
 match is,x with
 | [i],x=>some (U.set i (.val x))
 | is,.tup xs=>setAll is xs U
 | _,_=>none
noncomputable def yav (f:T->List Sl->Option Out):List T->List Sl->Option Out
 | [],U=>some (.nx U)
 | x::xs,U=>(f x U).bind fun o=>match o with
  | .nx U'=>yav f xs U'
  | .rt t=>some (.rt t)
noncomputable def yeb (s:Option Sl) (k v:T):Option Sl :=
 match s with
 | some (.dk qb)=>(match yes k,qb with
  | some q,_=>if qb.length<SZ then some (.dk (ybq qb q v)) else none
  | none,[]=>(tkO k).map fun q=>.dt [(q,v)]
  | none,_=>none)
 | some (.dt qb)=>(tkO k).bind fun q=>if qb.length<SZ then some (.dt (ybq qb q v)) else none
 | _=>none
noncomputable def sdP (qb:List (List Kt × List T)) (q:List Kt):List (List Kt × List T):=if (qb.any fun p=>decide (p.1=q))=true then qb else qb++[(q,[])]
noncomputable def apP (qb:List (List Kt × List T)) (q:List Kt) (y:T):List (List Kt × List T):=qb.map fun p=>if p.1=q then (p.1,p.2++[y]) else p
noncomputable def sdS (U:List Sl) (i:Nat) (q:List Kt):Option (List (List Kt × List T)) :=
 match U[i]? with
 | some (.dk qb)=>if (qb.isEmpty&&!U.any Sl.isDl)=true then some [(q,[])] else none
 | some (.dl qb)=>if qb.length<SZ then some (sdP qb q) else none
 | _=>none
mutual
noncomputable def evS (G:Glo):S->List Sl->Option Out
 | .asg i e,U=>(evE G e (ygl (yae (yah e) U))).bind fun t=>some (.nx ((yae (yah e) U).set i (yap e t)))
 | .app i e,U=>(evE G e (ygl (yae (yah e) U))).bind fun t=>match (yae (yah e) U)[i]? with
  | some (.own ts)=>if ts.length<SZ then some (.nx ((yae (yah e) U).set i (.own (ts++[t])))) else none
  | _=>none
 | .ext i e,U=>(evE G e (ygl (yae (yah e) U))).bind fun t=>match t,(yae (yah e) U)[i]? with
  | .lst us,some (.own ts)=>if ts.length+us.length<=SZ then some (.nx ((yae (yah e) U).set i (.own (ts++us)))) else none
  | _,_=>none
 | .dnew i,U=>some (.nx (U.set i (.dk [])))
 | .dput i k v,U=>(evE G v (ygl (yae (yah v++yah k) U))).bind fun y=>(evE G k (ygl (yae (yah v++yah k) U))).bind fun x =>(yeb (yae (yah v++yah k) U)[i]? x y).map fun s=>.nx ((yae (yah v++yah k) U).set i s)
 | .dapp i k v,U=>(evE G k (ygl (yae (yah k++yah v) U))).bind fun x=>(tkO x).bind fun q=>(sdS (yae (yah k++yah v) U) i q).bind fun qb=>(evE G v (ygl (yae (yah k++yah v) U))).bind fun y =>
   if (qb.all fun p=>decide (p.2.length<SZ))=true then some (.nx ((yae (yah k++yah v) U).set i (.dl (apP qb q y)))) else none
 | .vloop is i body,U=>(match U[i]? with
  | some (.dl qb)=>yav (fun x U=>(ya1 is x U).bind fun U'=>yab G body U') (qb.map fun p=>T.lst p.2) (U.set i .no)
  | some (.dk qb)=>if (qb.isEmpty&&!U.any Sl.isDl)=true then some (.nx (U.set i .no)) else none
  | _=>none)
 | .fail,_=>none
 | .exp e,U=>(evE G e (ygl (yae (yah e) U))).bind fun _=>some (.nx (yae (yah e) U))
 | .ret e,U=>(evE G e (ygl (yae (yah e) U))).map .rt
 | .ite c a b,U=>(evE G c (ygl (yae (yah c) U))).bind fun t=>match t with
  | .bl true=>yab G a (yae (yah c) U)
  | .bl false=>yab G b (yae (yah c) U)
  | _=>none
 | .loop is k src body,U=>(yad G src (ygl (yae (yaq src) U))).bind fun xs=>(items k xs).bind fun qc =>yav (fun x U=>(ya1 is x U).bind fun U'=>yab G body U') qc (yae (yaq src) U)
noncomputable def yab (G:Glo):List S->List Sl->Option Out
 | [],U=>some (.nx U)
 | s::ss,U=>(evS G s U).bind fun o=>match o with
  | .nx U'=>yab G ss U'
  | o=>some o
end
structure Fd where
 np:Nat
 ns:Nat
 body:List S
 deriving Inhabited
noncomputable def yal (D:Fd) (ts:List T):List Sl:=ts.map .val++List.replicate (D.ns-ts.length) .no
noncomputable def zaa:Option Out->Option T
 | some (.nx _)=>some .non
 | some (.rt t)=>some t
 | _=>none
structure Pr where
 fn:Str->Option Fd
 con:Str->Option T
noncomputable def glo (P:Pr) (run:Str->List T->Option T):Glo:=⟨run,P.con⟩
noncomputable def run (P:Pr):Nat->Str->List T->Option T
 | 0,_,_=>none
 | n+1,f,ts=>(P.fn f).bind fun D=>if ts.length=D.np then zaa (yab (glo P (run P n)) D.body (yal D ts)) else none
end
section
noncomputable def yaj:List Str->Str->Option Nat
 | [],_=>none
 | y::r,x=>if y==x then some 0 else (yaj r x).map (·+1)
structure Tc where
 sc:Scope
 nm:List Str
noncomputable def ybu (sc:Scope) (x:Str):Bool:=match sc.names.lookup x with
 | some .local=>true
 | some .cell=>true
 | some .free=>true
 | _=>false
noncomputable def glB (sc:Scope) (x:Str):Bool:=sc.names.lookup x==some .globalImplicit
noncomputable def zac (x:Str):Bool:=!(x==("__debug__":Str))&&!(x==("__classdict__":Str))&&!(x==("__name__":Str))&&(!(x==(".0":Str))&&(!(x==(".put":Str))&&!(x==(".lam":Str))))
noncomputable def ye3 (x:Str):Option Ty :=
 if x==("bool":Str) then some .tbool else none
noncomputable def yeh (x:Str):Option Bn :=
 if x==("len":Str) then some .len else if x==("int":Str) then some .toInt else if x==("tuple":Str) then some .toTuple else if x==("any":Str) then some .any else if x==("sorted":Str) then some .sorted else none
noncomputable def yfl (x:Str):Option Bn:=if x==("dict":Str) then some .dict else yeh x
noncomputable def ygc (x:Str):Option Mt:=if x==("index":Str) then some .index else none
noncomputable def bnames:List Str:=["len", "int", "str", "list", "tuple", "bool", "isinstance", "range", "enumerate", "zip", "all", "any", "set", "sorted", "min", "max", "sum", "dict"]
noncomputable def yft:Operator->Option Bo
 | .Add=>some .add | .Sub=>some .sub | .Mult=>some .mul | .FloorDiv=>some .fdiv | .Mod=>some .mod
 | _=>none
noncomputable def zp7:Expr->Bool
 | .Constant (.bool false) _ _=>true
 | _=>false
noncomputable def zmy:Expr->Bool
 | .Constant .none _ _=>true
 | _=>false
noncomputable def yel:CmpOp->Expr->Option Co
 | .Eq,_=>some .eq | .NotEq,_=>some .ne | .Lt,_=>some .lt | .LtE,_=>none | .Gt,_=>some .gt | .GtE,_=>none
 | .In,e=>if behindInMarks .In e then none else some .isin
 | .NotIn,e=>if behindInMarks .NotIn e then none else some .notin
 | .Is,e=>if zmy e then some .isN else none
 | .IsNot,e=>if zmy e then some .notN else if zp7 e then some .notF else none
noncomputable def zbz:Expr->Option (List Str)
 | .Name x _=>some [x]
 | .Tuple es _ _=>es.mapM fun e=>match e with
  | .Name x _=>some x
  | _=>none
 | _=>none
noncomputable def yco:Expr->Bool
 | .Slice ..=>true
 | .Tuple ..=>true
 | .Starred ..=>true
 | _=>false
noncomputable def ycc:List Str->Bool
 | []=>true
 | x::r=>!r.contains x&&ycc r
noncomputable def zct (out sc:Scope) (xs:List Str):Bool :=
 sc.kind==.function&&ycc xs&&(xs.all fun x=>zac x&&(sc.names.lookup x==some .local||sc.names.lookup x==some .cell)) &&
 (sc.names.all fun p=>match p.2 with
  | .free=>(sc.names.lookup p.1==some .free)&&(out.names.lookup p.1==some .cell||out.names.lookup p.1==some .free)
  | .local=>(sc.names.lookup p.1==some .local)&&(xs.contains p.1||p.1==(".0":Str))
  | .cell=>(sc.names.lookup p.1==some .cell)&&xs.contains p.1
  | _=>true)
noncomputable def yao:Expr->Bool
 | .Tuple ..=>true
 | _=>false
noncomputable def yc9 {α β:Type} (f:α->Option β):List α->Option (List β)
 | []=>some []
 | x::r=>(f x).bind fun y=>(yc9 f r).bind fun ys=>some (y::ys)
noncomputable def yf0 {α β:Type} (f:α->Option β):Option α->Option (Option β)
 | none=>some none
 | some x=>(f x).map some
inductive Md where
 | val | tst
 deriving DecidableEq
mutual
noncomputable def tr:Nat->Tc->Md->Expr->Option E
 | 0,_,_,_=>none
 | n+1,c,.tst,e=>trT n c e
 | n+1,c,.val,e=>trV n c e
noncomputable def trT:Nat->Tc->Expr->Option E
 | 0,_,_=>none
 | n+1,c,.BoolOp .And [a] _=>trT n c a
 | n+1,c,.BoolOp .And (a::b::r) pos=>(trT n c a).bind fun x=>(trT n c (.BoolOp .And (b::r) pos)).bind fun y=>some (.land x y)
 | n+1,c,.BoolOp .Or [a] _=>trT n c a
 | n+1,c,.BoolOp .Or (a::b::r) pos=>(trT n c a).bind fun x=>(trT n c (.BoolOp .Or (b::r) pos)).bind fun y=>some (.lor x y)
 | n+1,c,.UnaryOp .Not a _=>(trT n c a).bind fun x=>some (.lnot x)
 | n+1,c,.Compare a [op] [b] _=>(yel op b).bind fun o=>(trV n c a).bind fun x=>(trV n c b).bind fun y=>some (.cmp o x y)
 | n+1,c,.Name x pos=>(trV n c (.Name x pos)).bind fun x=>some (.tru x)
 | n+1,c,.Call f es ks pos=>(trV n c (.Call f es ks pos)).bind fun x=>some (.tru x)
 | n+1,c,.Subscript a b pos=>(trV n c (.Subscript a b pos)).bind fun x=>some (.tru x)
 | _,_,_=>none
noncomputable def trV:Nat->Tc->Expr->Option E
 | 0,_,_=>none
 | _+1,_,.Constant .none _ _=>some (.cst .non)
 | _+1,_,.Constant (.bool b) _ _=>some (.cst (.bl b))
 | _+1,_,.Constant (.int i) _ _=>some (.cst (.int i))
 | _+1,_,.Constant (.str x) _ _=>some (.cst (.str x))
 | _+1,c,.Name x _=>if zac x then (if ybu c.sc x then (yaj c.nm x).map .var else if glB c.sc x&&!bnames.contains x then some (.glb x) else none) else none
 | n+1,c,.BinOp a op b _=>(yft op).bind fun o=>(trV n c a).bind fun x=>(trV n c b).bind fun y=>some (.bin o x y)
 | n+1,c,.UnaryOp .Not a _=>(trV n c a).bind fun x=>some (.lnot x)
 | n+1,c,.UnaryOp .USub a _=>(trV n c a).bind fun x=>some (.neg x)
 | n+1,c,.BoolOp _ [a] _=>trV n c a
 | n+1,c,.BoolOp .And (a::b::r) pos=>(trV n c a).bind fun x=>(trV n c (.BoolOp .And (b::r) pos)).bind fun y=>some (.land x y)
 | n+1,c,.BoolOp .Or (a::b::r) pos=>(trV n c a).bind fun x=>(trV n c (.BoolOp .Or (b::r) pos)).bind fun y=>some (.lor x y)
 | n+1,c,.Compare a [op] [b] _=>(yel op b).bind fun o=>(trV n c a).bind fun x=>(trV n c b).bind fun y=>some (.cmp o x y)
 | n+1,c,.Tuple es _ _=>(yc9 (trV n c) es).bind fun xs=>some (.tup xs)
 | n+1,c,.List es _=>(yc9 (trV n c) es).bind fun xs=>some (.lst xs)
 | n+1,c,.Subscript a (.Slice lo hi none _) _=>(trV n c a).bind fun x=>(yf0 (trV n c) lo).bind fun l=>(yf0 (trV n c) hi).bind fun h=>some (.sli x l h)
 | n+1,c,.Subscript a b _=>if yco b then none else (trV n c a).bind fun x=>(trV n c b).bind fun y=>some (.idx x y)
 | n+1,c,.Call (.Name f _) [a,b] [] _ =>
  if f==("isinstance":Str) then
   (match b with
   | .Name ty _=>if glB c.sc f&&glB c.sc ty then (ye3 ty).bind fun k=>(trV n c a).bind fun x=>some (.isi x k) else none
   | _=>none)
  else if glB c.sc f&&zac f&&!bnames.contains f then (yc9 (trV n c) [a,b]).bind fun xs=>some (.call f xs) else none
 | n+1,c,.Call (.Name f _) [a] [] _=>if glB c.sc f&&zac f then (match yfl f with
  | some k=>(trV n c a).bind fun x=>some (.blt k x)
  | none=>if bnames.contains f then none else (trV n c a).bind fun x=>some (.call f [x])) else none
 | n+1,c,.Call (.Name f _) (e::es) [] _=>if glB c.sc f&&zac f&&!bnames.contains f then (yc9 (trV n c) (e::es)).bind fun xs=>some (.call f xs) else none
 | n+1,c,.Call (.Attribute o m apos) [a] [] cpos=>if apos.endLine==cpos.line then (trV n c o).bind fun x=>(trV n c a).bind fun y=>(if m==("get":Str) then some (.dg1 x y) else (ygc m).bind fun k=>some (.mth k x y)) else none
 | n+1,c,.ListComp elt [⟨tg,iter,ifs,0⟩] scope _=>(zbz tg).bind fun xs=>(trI n c iter).bind fun ki=>if zct c.sc scope xs&&(!ki.1.pair||yao tg)&&(!yao tg||decide (2<=xs.length)) then
   (match ifs with
   | []=>(trV n ⟨scope,xs++c.nm⟩ elt).bind fun x=>some (.comp x xs.length ki.1 ki.2 none)
   | [t]=>(trV n ⟨scope,xs++c.nm⟩ elt).bind fun x=>(trT n ⟨scope,xs++c.nm⟩ t).bind fun y=>some (.comp x xs.length ki.1 ki.2 (some y))
   | _=>none) else none
 | _,_,_=>none
noncomputable def trI:Nat->Tc->Expr->Option (Ik × List E)
 | 0,_,_=>none
 | n+1,c,.Call (.Name f p) [a] [] pos=>if f==("range":Str)&&glB c.sc f then (trV n c a).bind fun x=>some (.range,[x])
   else if f==("enumerate":Str)&&glB c.sc f then (trV n c a).bind fun x=>some (.enum,[x])
   else (trV n c (.Call (.Name f p) [a] [] pos)).bind fun x=>some (.plain,[x])
 | n+1,c,.Call (.Name f p) [a,b] [] pos=>if f==("zip":Str)&&glB c.sc f then (trV n c a).bind fun x=>(trV n c b).bind fun y=>some (.zip,[x,y])
   else (trV n c (.Call (.Name f p) [a,b] [] pos)).bind fun x=>some (.plain,[x])
 | n+1,c,e=>(trV n c e).bind fun x=>some (.plain,[x])
end
noncomputable def yfh:Expr->Bool
 | .List ..=>true
 | .BinOp ..=>true
 | _=>false
noncomputable def zik:Expr->Bool
 | .ListComp ..=>true
 | _=>false
noncomputable def zf5:Expr->Bool
 | .Dict [] [] _=>true
 | _=>false
noncomputable def yek:Expr->Option (Str × Str × Pos × Pos × List Expr × Pos)
 | .Call f es ks cpos=>(match f with
  | .Attribute o m apos=>(match o with
   | .Name y p=>(match ks with
    | []=>some (y,m,p,apos,es,cpos)
    | _=>none)
   | _=>none)
  | _=>none)
 | _=>none
noncomputable def emL:Expr->Bool
 | .List l _=>l.isEmpty
 | _=>false
noncomputable def sdC (e:Expr):Option (Str × Expr):=(yek e).bind fun x=>match x.2.2.2.2.1 with
 | [k,l]=>if emL l&&(x.2.1==("setdefault":Str)&&x.2.2.2.1.endLine==x.2.2.2.2.2.line) then some (x.1,k) else none
 | _=>none
noncomputable def valC (e:Expr):Option Str:=(yek e).bind fun x=>match x.2.2.2.2.1 with
 | []=>if x.2.1==("values":Str)&&x.2.2.2.1.endLine==x.2.2.2.2.2.line then some x.1 else none
 | _=>none
mutual
noncomputable def trS:Nat->Tc->Stmt->Option S
 | 0,_,_=>none
 | n+1,c,.Assign [.Subscript (.Name x _) k _] v _=>if ybu c.sc x&&zac x&&!yco k then (yaj c.nm x).bind fun i=>(trV n c k).bind fun y=>(if zik v then none else (trV n c v).bind fun z=>some (.dput i y z)) else none
 | n+1,c,.Assign [.Name x _] e _=>if zac x&&(c.sc.names.lookup x==some .local||c.sc.names.lookup x==some .cell) then (yaj c.nm x).bind fun i=>if zf5 e then some (.dnew i) else ((trV n c e).bind fun y=>if fresh y&&!yfh e then none else some (.asg i y)) else none
 | n+1,c,.Expr (.Call (.Attribute (.Name x _) m apos) [a] [] cpos) _=>if apos.endLine==cpos.line&&ybu c.sc x&&zac x then (yaj c.nm x).bind fun i=>(trV n c a).bind fun y =>(if m==("append":Str) then some (.app i y) else if m==("extend":Str) then some (.ext i y) else none) else none
 | n+1,c,.Expr (.Call (.Attribute o m apos) [a] [] cpos) _=>if apos.endLine==cpos.line&&m==("append":Str) then (sdC o).bind fun p=>if ybu c.sc p.1&&zac p.1 then (yaj c.nm p.1).bind fun i=>(trV n c p.2).bind fun x=>(trV n c a).bind fun y=>some (.dapp i x y) else none else none
 | n+1,c,.Expr (.Call (.Name f p) es ks cpos) _=>(trV n c (.Call (.Name f p) es ks cpos)).bind fun x=>some (.exp x)
 | _+1,_,.Raise _ _ _=>some .fail
 | n+1,c,.Return (some e) _=>(trV n c e).bind fun y=>some (.ret y)
 | n+1,c,.If t a b _=>(trT n c t).bind fun z=>(ydl n c a).bind fun x=>(ydl n c b).bind fun y=>some (.ite z x y)
 | n+1,c,.For tg iter body [] _=>(zbz tg).bind fun xs=>(yc9 (yaj c.nm) xs).bind fun is=>(match valC iter with
   | some y=>(yaj c.nm y).bind fun i=>(ydl n c body).bind fun b=>if !yao tg&&(ybu c.sc y&&zac y)&&ycc xs&&(xs.all fun x=>zac x&&(c.sc.names.lookup x==some .local||c.sc.names.lookup x==some .cell)) then some (.vloop is i b) else none
   | none=>(trI n c iter).bind fun ki=>(ydl n c body).bind fun b=>if (!ki.1.pair||yao tg)&&(!yao tg||decide (2<=xs.length))&&ycc xs&&(xs.all fun x=>zac x&&(c.sc.names.lookup x==some .local||c.sc.names.lookup x==some .cell)) then some (.loop is ki.1 ki.2 b) else none)
 | _,_,_=>none
noncomputable def ydl:Nat->Tc->List Stmt->Option (List S)
 | 0,_,_=>none
 | _+1,_,[]=>some []
 | n+1,c,s::ss=>(trS n c s).bind fun x=>(ydl n c ss).bind fun xs=>some (x::xs)
end
noncomputable def zbd (sc:Scope):List Str:=(sc.names.filter fun p=>p.2==.local||p.2==.cell).map (·.1)
end
end Ev
namespace L2
open PySem
variable {scope:Scope} {env:Env}
def za2 (env:Env):List (Str × NameKind)->List (Str × Addr)->List (Str × Addr)
 | [],acc=>acc
 | (n,k)::r,acc=>if k==.free then za2 env r ((n,(env.cells.lookup n).getD 0)::acc) else za2 env r acc
theorem ze2 {env:Env} (f:Str × NameKind->List (Str × Addr)->Sem (ForInStep (List (Str × Addr))))
  (hf:∀ n k cs,f (n,k) cs=if k==.free then (do let a <- cellOf env n;pure (ForInStep.yield ((n,a)::cs))) else pure (.yield cs)) :
  ∀ (names:List (Str × NameKind)) (acc:List (Str × Addr)),(∀ y∈names,y.2=.free->∃ c,env.cells.lookup y.1=some c)->(forIn names acc f:Sem _)=pure (za2 env names acc)
 | [],acc,_=>rfl
 | (n,k)::r,acc,h=>by
  rw [List.forIn_cons,hf];unfold za2;by_cases hk:(k==.free)=true
  .rw [if_pos hk,if_pos hk];obtain ⟨c,hc⟩:=h (n,k) List.mem_cons_self (by simpa using hk);have e:cellOf env n=pure c:=by unfold cellOf;rw [hc]
   rw [e,hc];simp only [pure_bind,Option.getD_some];exact ze2 f hf r _ fun y hy=>h y (zzq _ hy)
  .rw [if_neg hk,if_neg hk];simp only [pure_bind];exact ze2 f hf r _ fun y hy=>h y (zzq _ hy)
theorem zdo (h:∀ y∈scope.names,y.2=.free->∃ c,env.cells.lookup y.1=some c):closureFor scope env=pure (za2 env scope.names []):=by simp only [closureFor];rw [ze2 (env:=env) _ (fun n k cs=>by by_cases hk:(k==NameKind.free)=true<;>simp [hk]) scope.names [] h];simp only [pure_bind]
theorem zeh {env:Env}:∀ (names:List (Str × NameKind)) (acc:List (Str × Addr)),(∀ x c,acc.lookup x=some c->env.cells.lookup x=some c)->(∀ y∈names,y.2=.free->∃ c,env.cells.lookup y.1=some c) ->
  ∀ x c,(za2 env names acc).lookup x=some c->env.cells.lookup x=some c
 | [],acc,h,_,x,c,e=>h x c e
 | (n,k)::r,acc,h,hn,x,c,e=>by
  unfold za2 at e;have hr:∀ y∈r,y.2=.free->∃ c,env.cells.lookup y.1=some c:=fun y hy=>hn y (zzq _ hy);by_cases hk:(k==.free)=true
  .rw [if_pos hk] at e;obtain ⟨c',hc'⟩:=hn (n,k) List.mem_cons_self (by simpa using hk);refine zeh r _ (fun x c e=>?_) hr x c e;rw [zAj] at e;cases hb:x==n with
   | true =>rw [hb] at e;have e':some ((env.cells.lookup n).getD 0)=some c:=e;rw [hc'] at e';cases e';rw [ue5.mp hb];exact hc'
   | false=>rw [hb] at e;exact h x c e
  .rw [if_neg hk] at e;exact zeh r acc h hr x c e
theorem zei {env:Env} {x:Str}:∀ (names:List (Str × NameKind)) (acc:List (Str × Addr)),((x,NameKind.free)∈names\/(acc.lookup x).isSome=true)->((za2 env names acc).lookup x).isSome=true
 | [],acc,h=>h.elim (fun z=>nomatch z) id
 | (n,k)::r,acc,h=>by
  unfold za2;have up:∀ a:Addr,(acc.lookup x).isSome=true->(List.lookup x ((n,a)::acc)).isSome=true:=fun a z=>by
   rw [zAj];cases x==n with
   | true=>rfl
   | false=>exact z
  by_cases hk:(k==.free)=true
  .rw [if_pos hk];refine zei r _ ?_;rcases h with h | h
   .rcases omc h with e | e
    .cases e;right;rw [zAj,ua9];rfl
    .exact .inl e
   .exact .inr (up _ h)
  .rw [if_neg hk];refine zei r _ ?_;rcases h with h | h
   .rcases omc h with e | e
    .cases e;exact absurd rfl hk
    .exact .inl e
   .exact .inr h
theorem yd6 {x:Str} {names:List (Str × NameKind)} (hn:∀ y∈names,y.2=.free->∃ c,env.cells.lookup y.1=some c) (h:(x,NameKind.free)∈names):(za2 env names []).lookup x=env.cells.lookup x:=by obtain ⟨c,hc⟩:=Option.isSome_iff_exists.mp (zei (env:=env) names [] (.inl h));rw [hc,zeh names [] (fun _ _ e=>by cases e) hn x c hc]
theorem zcb:∀ (names:List (Str × NameKind)) (n:Nat) (acc:List (Str × Addr)),cellsFrom n names acc=cellsFrom n names []++acc
 | [],n,acc=>rfl
 | (x,k)::r,n,acc=>by
  unfold cellsFrom;by_cases hk:(k==.cell)=true
  .rw [if_pos hk,if_pos hk,zcb r (n+1) ((x,n)::acc),zcb r (n+1) [(x,n)],zAk];rfl
  .rw [if_neg hk,if_neg hk];exact zcb r n acc
theorem zdp {x:Str} {c:Addr}:∀ (names:List (Str × NameKind)) (n:Nat),(x,c)∈cellsFrom n names []->n<=c/\(x,NameKind.cell)∈names
 | [],n,h=>by cases h
 | (y,k)::r,n,h=>by
  unfold cellsFrom at h;by_cases hk:(k==.cell)=true
  .rw [if_pos hk,zcb] at h;have ek:k=.cell:=by simpa using hk
   rcases oma h with h | h
   .obtain ⟨h1,h2⟩:=zdp r (n+1) h;exact ⟨by omega,zzq _ h2⟩
   .have e:(x,c)=(y,n):=by simpa using h
    cases e;exact ⟨zzw _,by rw [ek];exact zzt⟩
  .rw [if_neg hk] at h;obtain ⟨h1,h2⟩:=zdp r n h;exact ⟨h1,zzq _ h2⟩
theorem zdq {x:Str}:∀ (names:List (Str × NameKind)) (n:Nat) (acc:List (Str × Addr)),((x,NameKind.cell)∈names\/(acc.lookup x).isSome=true)->((cellsFrom n names acc).lookup x).isSome=true
 | [],_,acc,h=>h.elim (fun z=>nomatch z) id
 | (y,k)::r,n,acc,h=>by
  unfold cellsFrom;by_cases hk:(k==.cell)=true
  .rw [if_pos hk];refine zdq r _ _ ?_;rcases h with h | h
   .rcases omc h with e | e
    .cases e;right;rw [zAj,ua9];rfl
    .exact .inl e
   .right;rw [zAj];cases x==y with
    | true=>rfl
    | false=>exact h
  .rw [if_neg hk];refine zdq r _ _ ?_;rcases h with h | h
   .rcases omc h with e | e
    .cases e;exact absurd rfl hk
    .exact .inl e
   .exact .inr h
theorem yc7 {x:Str} {c:Addr} {names:List (Str × NameKind)} {n:Nat} {acc:List (Str × Addr)} (h:(cellsFrom n names acc).lookup x=some c) :
  (x,c)∈cellsFrom n names []\/((cellsFrom n names []).lookup x=none/\acc.lookup x=some c):=by
 rw [zcb,List.lookup_append] at h;cases e:(cellsFrom n names []).lookup x with
 | none=>rw [e] at h;exact .inr ⟨rfl,by simpa using h⟩
 | some d =>
  rw [e] at h;have h':some d=some c:=by simpa using h
  cases h';exact .inl (mem_of_lookup e)
section
variable {M:Model} {A:Around} {E:Value->Shared->Prop} {s:Shared}
theorem zpv {globals:Addr} {cl:List (Str × Addr)} {qual:Str} {Q:Env->Shared->Prop}
  (hQ:Q { scope:=scope,locals:=s.heap.objs.size,globals:=globals,cells:=cellsFrom (s.heap.objs.size+1) scope.names cl,qual:=qual,func:=none,code:=env.code,frame:=env.frame,builtins:=env.builtins }
   { s with heap:=pushCells (s.heap.push { cls:=.type "dict",data:=.dict #[] }) scope.names }) :
  wpAny M A (newFunctionEnv scope globals cl [] qual none .none (some env)) Q E s:=by
 simp only [newFunctionEnv,Option.isSome_some,if_true];refine zzg (wpAny_alloc ?_);refine wpAny_bind (wpAny_layCells _ (fun name kind cells=>by cases hkc:kind==NameKind.cell<;>simp []) _ _ _ _ ?_);rw [show ({ s with heap:=s.heap.push { cls:=.type "dict",data:=.dict #[] } }:Shared).heap.objs.size=s.heap.objs.size+1 from zz3 ..];simp only [List.forIn_nil,pure_bind];exact zzl hQ
end
end L2
namespace Ev
open PySem Spec PyProof.Rows L2
section
open AutoSeq1 (wpAny_loadPart')
section
variable {X:Cx}
end
section
variable {prog:Program} {w:World} {A:Around} {E:Value->Shared->Prop} {s:Shared}
theorem zjt {α β:Type} {f g:α->Option β}:∀ {l:List α},(∀ a∈l,f a=g a)->l.filterMap f=l.filterMap g
 | [],_=>rfl
 | a::l,h=>by rw [zAh,zAh,h a zzt,zjt fun b hb=>h b (zzq _ hb)]
theorem znb {t sl:Addr} {zs:Array Value} {vl vu:Value} {lo hi:Option Int} {Q:Value->Shared->Prop} (ht:IsTup s.heap t zs) (hs:s.heap.IsSliceOf sl vl vu .none) (pl:IsPart vl lo) (pu:IsPart vu hi)
  (hw:HT.sIx zs.size 0 lo=0/\HT.sIx zs.size zs.size hi=zs.size) (h:Q (.ref t) s):wpAny (model prog w) A (getItem (.ref t) (.ref sl)) Q E s:=by
 obtain ⟨os,hos,hcs,hds⟩:=id hs;have hT:s.TypeIs (.ref sl) "slice":=⟨os,hos,hcs⟩;unfold getItem
 try with_reducible refine uc2 ?_
 first | refine zzg (zzl ?_) | skip
 refine zzg (wpAny_sequenceKey ht.typeIs (by decide) ?_);refine zzg (zAl (name:=Str.ofString "__getitem__") ht.typeIs PyProof.Rows.slot_tuple_getitem (zAc PyProof.Rows.slot_tuple_getitem ht.typeIs PyProof.Rows.entry_tuple_getitem ?_ (PyProof.Rows.args_tuple_getitem _ _)));show wpAny _ _ (Builtin.Tuple.tupleItemsOf (.ref t) >>= _) _ _ s;refine zzg (tupleItemsOf_ ht ?_);refine zzg (wpAny_typeOf hT ?_);rw [if_pos (by decide)];refine zzg (HT.sliceApplied_gen hs pl pu ?_);have hyes:(((HT.sIx zs.size 0 lo:Nat):Int)==0&&(1:Int)==1&&(HT.sIx zs.size zs.size hi-HT.sIx zs.size 0 lo)==zs.size)=true:=by rw [hw.1,hw.2];simp
 show wpAny _ _ (if (((HT.sIx zs.size 0 lo:Nat):Int)==0&&(1:Int)==1&&(HT.sIx zs.size zs.size hi-HT.sIx zs.size 0 lo)==zs.size)=true then _ else _) _ _ s;rw [if_pos hyes];refine zzg (show wpAny _ _ (Builtin.Tuple.tupleIsExact (.ref t)) _ _ s from ?_);unfold Builtin.Tuple.tupleIsExact;refine zzg (wpAny_typeOf ht.typeIs (zzl ?_));simp only [beq_self_eq_true,if_true];exact zzg (wpAny_rule (zzl ⟨_,rfl,zzl h⟩))
end
section
variable {X:Cx} {c:Tc} {a:Expr} {pos p2:Pos}
theorem zo6:SlR X (fun x lo hi H Q=>∃ a xs,x=.ref a/\SqT X.K H a xs/\(HT.sIx xs.length 0 lo=0/\HT.sIx xs.length xs.length hi=xs.length)/\Q (.ref a) H):=by
 intro pj s O H x v vl vu lo hi sl Q I rx hs pl pu h;obtain ⟨a,xs,rfl,hx,hw,q⟩:=h;cases rx;obtain ⟨qc,r,ht,hz⟩:=I.tuple hx;have hlen:qc.toArray.size=xs.length:=by rw [zzs];exact r.length.symm
 exact ⟨"tuple",_,PyProof.Rows.slot_tuple_getitem.lookup,ht.typeIs,znb ht hs pl pu (by rw [hlen];exact hw) ⟨.ref a,H,I,rfl,q⟩⟩
end
end
section
variable {K:W.Frag} {H F F' H' H1:Hp} {xs:List V} {o:HO} {p:Addr} {e:Expr} {f g:Env->Option T} {h:T->T->Option T}
def Ls (K:W.Frag) (H:Hp) (a:Addr) (xs:List V):Prop :=
 Rd H a (.lst xs)\/∃ (qc:Array Value) (n:Nat),K.lookup a=some { cls:=.type "list",data:=.seq qc n }/\qc.size<=sizeLine/\Vals xs qc.toList
theorem Ls.of {a:Addr} (h:H a=some (.lst xs)):Ls K H a xs:=.inl (.inl h)
theorem Ls.sq {a:Addr} (h:Ls K H a xs):SqL K H a xs:=by
 rcases h with h | ⟨qc,n,h1,h2,h3⟩
 .exact .inl h
 .exact .inr ⟨_,qc,n,h1,rfl,rfl,rfl,h2,h3⟩
theorem Ls.ok {X:Cx} {pj:List (Addr × Obj)} {O:L2.St} {H:Hp} {s:Shared} {a:Addr} {xs:List V} (h:Ls X.K H a xs) (I:Inv X pj O H s) :
  xs.length<=sizeLine/\∃ (qc:List Value) (n:Nat),Vals xs qc/\s.heap.get? a=some { cls:=.type "list",data:=.seq qc.toArray n }:=by
 rcases h with h | ⟨qc,n,h1,h2,h3⟩
 .obtain ⟨z,qc,n,r,e⟩:=h.ok I.hok;exact ⟨z,qc,n,r,e⟩
 .exact ⟨by rw [h3.length,zz9];exact h2,qc.toList,n,h3,by rw [Array.toArray_toList];exact I.kIn a _ h1⟩
abbrev Tq (_K:W.Frag) (F:Hp) (a:Addr) (xs:List V):Prop:=F a=some (.tup xs)
mutual
def Rep (K:W.Frag) (F:Hp):T->V->Prop
 | .non,v=>v=.non
 | .bl b,v=>v=.bl b
 | .int i,v=>v=.int i
 | .str x,v=>v=.str x
 | .tup ts,v=>∃ a vs,v=.ref a/\Tq K F a vs/\Reps K F ts vs
 | .lst ts,v=>∃ a vs,v=.ref a/\Ls K F a vs/\Reps K F ts vs
 | .dk ks ts,v=>∃ a ws,v=.ref a/\F a=some (.dK ws)/\ws.map (·.1)=ks/\Reps K F ts (ws.map (·.2))
 | .dt ks ts,v=>∃ a ws,v=.ref a/\F a=some (.dT ws)/\ws.map (·.1)=ks/\Reps K F ts (ws.map (·.2))
def Reps (K:W.Frag) (F:Hp):List T->List V->Prop
 | [],vs=>vs=[]
 | t::ts,vs=>∃ v r,vs=v::r/\Rep K F t v/\Reps K F ts r
end
theorem zll {a:Addr} (e:Same F F') (h:Rd F a o):Rd F' a o:=by
 rcases h with h | ⟨b,h⟩
 .exact .inl (e _ _ h)
 .exact .inr ⟨b,e _ _ h⟩
theorem Ls.same {a:Addr} (e:Same F F') (h:Ls K F a xs):Ls K F' a xs:=by
 rcases h with h | h
 .exact .inl (zll e h)
 .exact .inr h
theorem zai {a:Addr} (e:Same F F') (h:Tq K F a xs):SqT K F' a xs:=SqT.of (e _ _ h)
mutual
theorem Rep.mono {K:W.Frag} {F F':Hp} (e:Same F F'):∀ {t:T} {v:V},Rep K F t v->Rep K F' t v
 | .non,_,h=>h
 | .bl _,_,h=>h
 | .int _,_,h=>h
 | .str _,_,h=>h
 | .tup _,_,h=>by obtain ⟨a,vs,h1,h2,h3⟩:=h;exact ⟨a,vs,h1,e _ _ h2,Reps.mono e h3⟩
 | .lst _,_,h=>by obtain ⟨a,vs,h1,h2,h3⟩:=h;exact ⟨a,vs,h1,Ls.same e h2,Reps.mono e h3⟩
 | .dk _ _,_,h=>by obtain ⟨a,ws,h1,h2,h3,h4⟩:=h;exact ⟨a,ws,h1,e _ _ h2,h3,Reps.mono e h4⟩
 | .dt _ _,_,h=>by obtain ⟨a,ws,h1,h2,h3,h4⟩:=h;exact ⟨a,ws,h1,e _ _ h2,h3,Reps.mono e h4⟩
theorem Reps.mono {K:W.Frag} {F F':Hp} (e:Same F F'):∀ {ts:List T} {vs:List V},Reps K F ts vs->Reps K F' ts vs
 | [],_,h=>h
 | _::_,_,h=>by obtain ⟨v,r,h1,h2,h3⟩:=h;exact ⟨v,r,h1,Rep.mono e h2,Reps.mono e h3⟩
end
theorem Reps.length {K:W.Frag} {F:Hp}:∀ {ts:List T} {vs:List V},Reps K F ts vs->vs.length=ts.length
 | [],_,h=>by cases h;rfl
 | _::_,_,h=>by obtain ⟨v,r,rfl,_,h3⟩:=h;simp [Reps.length h3]
theorem Reps.cons {t:T} {v:V} {ts:List T} {vs:List V} (h:Rep K F t v) (r:Reps K F ts vs):Reps K F (t::ts) (v::vs):=⟨v,vs,rfl,h,r⟩
theorem Reps.app {K:W.Frag} {F:Hp}:∀ {ts us:List T} {vs ws:List V},Reps K F ts vs->Reps K F us ws->Reps K F (ts++us) (vs++ws)
 | [],_,_,_,h,r=>by cases h;exact r
 | _::_,_,_,_,h,r=>by obtain ⟨v,q,rfl,h2,h3⟩:=h;exact ⟨v,_,rfl,h2,Reps.app h3 r⟩
theorem Reps.drop {K:W.Frag} {F:Hp}:∀ (n:Nat) {ts:List T} {vs:List V},Reps K F ts vs->Reps K F (ts.drop n) (vs.drop n)
 | 0,_,_,h=>h
 | _+1,[],_,h=>by cases h;exact rfl
 | n+1,_::_,_,h=>by obtain ⟨v,q,rfl,h2,h3⟩:=h;exact Reps.drop n h3
theorem Reps.take {K:W.Frag} {F:Hp}:∀ (n:Nat) {ts:List T} {vs:List V},Reps K F ts vs->Reps K F (ts.take n) (vs.take n)
 | 0,_,_,_=>rfl
 | _+1,[],_,h=>by cases h;exact rfl
 | n+1,_::_,_,h=>by obtain ⟨v,q,rfl,h2,h3⟩:=h;exact ⟨v,_,rfl,h2,Reps.take n h3⟩
theorem Reps.get {K:W.Frag} {F:Hp}:∀ {ts:List T} {vs:List V} {i:Nat} {t:T},Reps K F ts vs->ts[i]?=some t->∃ v,vs[i]?=some v/\Rep K F t v
 | [],_,_,_,_,e=>by simp at e
 | _::_,_,0,_,h,e=>by obtain ⟨v,q,rfl,h2,h3⟩:=h;simp at e;subst e;exact ⟨v,rfl,h2⟩
 | _::_,_,i+1,t,h,e=>by obtain ⟨v,q,rfl,h2,h3⟩:=h;obtain ⟨w,h4,h5⟩:=Reps.get (i:=i) (t:=t) h3 (by simpa using e);exact ⟨w,by simpa using h4,h5⟩
def ydg:HO->Bool
 | .tbl _=>true
 | _=>false
def lamQ:Str:="_law_spoilt.<locals>.<lambda>"
def CdAt (H:Hp) (cv:Value):Prop:=∃ a oc vs t,cv=.ref a/\H a=some (.frz oc (.own 0))/\oc.data=.fields vs/\vs[1]?=some (.str lamQ t)
def TbAt (H:Hp) (b:Addr):Prop:=∃ ps:Array Value,H b=some (.tbl ps)/\TriplesOk ps.toList/\∀ pos cv,codeAmong pos ps.toList=some cv->CdAt H cv
theorem CdAt.up {cv:Value} (h:CdAt H cv) (k:∀ a o u,H a=some (.frz o u)->H' a=some (.frz o u)):CdAt H' cv:=by obtain ⟨a,oc,vs,t,h1,h2,h3,h4⟩:=h;exact ⟨a,oc,vs,t,h1,k _ _ _ h2,h3,h4⟩
theorem TbAt.up {H H':Hp} {b:Addr} (h:TbAt H b) (k:∀ a o u,H a=some (.frz o u)->H' a=some (.frz o u)) (kt:∀ a ps,H a=some (.tbl ps)->H' a=some (.tbl ps)):TbAt H' b:=by obtain ⟨ps,h1,h2,h3⟩:=h;exact ⟨ps,kt _ _ h1,h2,fun pos cv e=>(h3 pos cv e).up k⟩
structure SameT (H H':Hp):Prop where
 st:∀ b u,H b=some u->ydg u=false->H' b=some u
 fr:∀ b,H' b=none->H b=none
 tb:∀ b,TbAt H b->TbAt H' b
 tt:∀ b ps,H b=some (.tbl ps)->∃ qs,H' b=some (.tbl qs)
theorem ydz (e:Same H H'):SameT H H':=⟨fun b u h _=>e b u h,fun _ h=>e.free h,fun _ h=>h.up (fun a o u q=>e a _ q) fun a ps q=>e a _ q,fun b ps h=>⟨ps,e b _ h⟩⟩
theorem SameT.refl (H:Hp):SameT H H:=ydz (Same.refl H)
theorem SameT.free (e:SameT H H') {l:Addr} (h:H' l=none):H l=none:=e.fr l h
theorem SameT.trans {H2:Hp} (a:SameT H H1) (b:SameT H1 H2):SameT H H2:=⟨fun c u h q=>b.st c u (a.st c u h q) q,fun c h=>a.fr c (b.fr c h),fun c h=>b.tb c (a.tb c h),fun c ps h=>let ⟨qs,g⟩:=a.tt c ps h;b.tt c qs g⟩
theorem SameT.upd {H H1:Hp} {a:Addr} {o o1:HO} (e:SameT H H1) (h0:H a=none) (h1:H1 a=some o1) (k1:ydg o1=false) (k2:∀ p u,o1≠.frz p u):SameT H (upd H1 a o):=by
 refine ⟨fun b u h q=>?_,fun b h=>?_,fun b h=>?_,fun b ps h=>?_⟩
 .rw [zad (zae h h0)];exact e.st b u h q
 .by_cases hb:b=a
  .subst hb;exact h0
  .rw [zad hb] at h;exact e.fr b h
 .refine (e.tb b h).up (fun c p u q=>?_) fun c ps q=>?_
  .rw [zad (zh7 q h1 fun z=>k2 _ _ z.symm)];exact q
  .rw [zad (zh7 q h1 (by intro z;subst z;cases k1))];exact q
 .obtain ⟨qs,g⟩:=e.tt b ps h;exact ⟨qs,by rw [zad (zae h h0)];exact g⟩
def ye8:Option Obj->Option Addr
 | some ⟨_,_,.func fd,_⟩=>(match fd.code with | .ref c=>some c | _=>none)
 | _=>none
def yf6 (i:Nat):Option Obj->Option Addr
 | some ⟨_,_,.fields vs,_⟩=>(match vs.getD i .none with | .ref c=>some c | _=>none)
 | _=>none
def yfs:Option (Option Value)->Option Addr
 | some (some (.ref f))=>some f
 | _=>none
def yey (K:W.Frag):Option Addr:=(yfs (W.nsIn K mainGlobals "_law_spoilt")).bind fun f=>(ye8 (K.lookup f)).bind fun c=>yf6 11 (K.lookup c)
structure Step (F H F' H':Hp):Prop where
 hh:SameT H H'
 ff:Same F F'
 fh:Same F' H'
 nw:∀ a,F' a≠none->F a≠none\/H a=none\/∃ xs,H a=some (.tup xs)
theorem Step.refl {F H:Hp} (h:Same F H):Step F H F H:=⟨SameT.refl H,Same.refl F,h,fun _ z=>.inl z⟩
def Tbk (K:W.Frag) (F H:Hp):Prop:=∀ p,yey K=some p->F p=none/\TbAt H p
theorem Tbk.up (h:Tbk K F H) (S:Step F H F' H'):Tbk K F' H':=fun p q=>by
 obtain ⟨h1,h2⟩:=h p q;refine ⟨?_,S.hh.tb p h2⟩;cases e:F' p with
 | none=>rfl
 | some v =>
  rcases S.nw p (by rw [e];simp) with z | z | ⟨xs,z⟩
  .exact absurd h1 z
  .obtain ⟨ps,h3,_⟩:=h2;rw [h3] at z;cases z
  .obtain ⟨ps,h3,_⟩:=h2;rw [h3] at z;cases z
theorem Step.trans {F H F1 H1 F2 H2:Hp} (a:Step F H F1 H1) (b:Step F1 H1 F2 H2):Step F H F2 H2 :=
 ⟨a.hh.trans b.hh,a.ff.trans b.ff,b.fh,fun x z=>by
  rcases b.nw x z with q | q | ⟨xs,q⟩
  .exact a.nw x q
  .exact .inr (.inl (a.hh.free q))
  .cases h:H x with
   | none=>exact .inr (.inl rfl)
   | some o =>
    by_cases ht:ydg o=true
    .cases o with
     | tbl ps=>obtain ⟨qs,g⟩:=a.hh.tt x ps h;rw [q] at g;cases g
     | _=>cases ht
    .have h':=a.hh.st x o h (by simpa using ht);rw [q] at h';cases h';exact .inr (.inr ⟨xs,rfl⟩)⟩
theorem zo7 (h:Same F H):Same (upd F p o) (upd H p o):=fun b u e=>by
 by_cases hb:b=p
 .subst hb;rw [zah] at e ⊢;exact e
 .rw [zad hb] at e ⊢;exact h b u e
theorem zbi (h:H p=none):Same H (upd H p o):=fun b u e=>by rw [zad (zae e h)];exact e
theorem Step.new {F1:Hp} (a:Step F H F1 H1) (h:H1 p=none):Step F H (upd F1 p o) (upd H1 p o) :=
 ⟨a.hh.trans (ydz (zbi h)),a.ff.trans (zbi (a.fh.free h)),zo7 a.fh,fun x z=>by
  by_cases hx:x=p
  .subst hx;exact .inr (.inl (a.hh.free h))
  .rw [zad hx] at z;exact a.nw x z⟩
theorem Step.newH {F1:Hp} (a:Step F H F1 H1) (h:H1 p=none):Step F H F1 (upd H1 p o) :=
 ⟨a.hh.trans (ydz (zbi h)),a.ff,a.fh.trans (zbi h),a.nw⟩
structure EnvE (X:Cx) (c:Tc) (r:Env) (F:Hp) (O:L2.St) (H:Hp):Prop where
 fh:Same F H
 tb:Tbk X.K F H
 get:∀ (x:Str) (i:Nat) (t:T),zac x=true->yaj c.nm x=some i->ybu c.sc x=true->r[i]?=some (some t)->∃ (j:Nat) (v:V),X.N[j]?=some x/\O[j]?=some (some v)/\Rep X.K F t v
theorem EnvE.step {X:Cx} {c:Tc} {r:Env} {O:L2.St} (e:EnvE X c r F O H) (s:Step F H F' H'):EnvE X c r F' O H' :=
 ⟨s.fh,e.tb.up s,fun x i t pn a b d=>let ⟨j,v,h1,h2,h3⟩:=e.get x i t pn a b d;⟨j,v,h1,h2,h3.mono s.ff⟩⟩
def spT (K:W.Frag) (g:List T->Option T):Sp:=fun vs H Q _=>∃ F ts t,Same F H/\Tbk K F H/\Reps K F ts vs/\g ts=some t/\∀ v F' H',Step F H F' H'->Rep K F' t v->Q v H'
def ycz (f:Str):Bool:=!(f==(".put":Str))&&!(f==(".lam":Str))
structure Gd (X:Cx) (c:Tc) (G:Glo) (k:Nat):Prop where
 room:Room k X.A
 calm:X.calm=true
 nob:∀ x∈bnames,X.mg x=none
 call:∀ f ts t,ycz f=true->G.call f ts=some t->∃ (a:Addr) (fd:FuncData) (ps:List Str),FnOk X.prog X.w X.K X.mg X.base CX0 k a fd ps (spT X.K (G.call f))/\X.mg f=some (.ref a)/\W.keepIn X.K (.ref a)=true/\Binds X.K fd ps []
 con:∀ x t,G.con x=some t->∃ u v,X.mg x=some u/\RelV v u/\∀ F,Rep X.K F t v
 vis:∀ x,ybu c.sc x=true->Vis X.env.scope x
 gl:∀ x,glB c.sc x=true->Gl X x
 cap:∀ x,(c.sc.names.lookup x=some .cell\/c.sc.names.lookup x=some .free)->(X.env.kindOf x=some .cell\/X.env.kindOf x=some .free)
 nd:X.N.Nodup
def spE (X:Cx) (c:Tc) (f:Env->Option T):TE:=fun O H Q=>∃ r F t,EnvE X c r F O H/\f r=some t/\∀ v F' H',Step F H F' H'->Rep X.K F' t v->Q v H'
def spB (X:Cx) (c:Tc) (f:Env->Option T):TT:=fun O H Q=>∃ r F b,EnvE X c r F O H/\f r=some (.bl b)/\∀ F' H',Step F H F' H'->Q b H'
def spL (X:Cx) (c:Tc) (f:Env->Option (List T)):TA:=fun O H Q=>∃ r F ts,EnvE X c r F O H/\f r=some ts/\∀ vs F' H',Step F H F' H'->Reps X.K F' ts vs->Q vs H'
abbrev Oke (X:Cx) (c:Tc) (e:Expr) (f:Env->Option T):Prop:=PE X e (spE X c f)
abbrev Okt (X:Cx) (c:Tc) (e:Expr) (f:Env->Option T):Prop:=PT X e (spB X c f)
theorem za0 {X:Cx} {t t':TE} (h:PE X e t) (m:∀ O H Q,t' O H Q->t O H Q):PE X e t':=fun pj s O H Q I q=>h pj s O H Q I (m O H Q q)
theorem zhz {X:Cx} {t t':TT} (h:PT X e t) (m:∀ O H Q,t' O H Q->t O H Q):PT X e t':=fun pj s O H Q I q=>h pj s O H Q I (m O H Q q)
theorem zlw {X:Cx} {t t':TT} (h:PW X e t) (m:∀ O H Q,t' O H Q->t O H Q):PW X e t':=fun wh pj s O H Q I q=>h wh pj s O H Q I (m O H Q q)
theorem zc4 {X:Cx} {e:Stmt} {t t':TS} (h:PS X e t) (m:∀ D O H,t' D O H->t D O H):PS X e t':=fun pj s O H D I q=>h pj s O H D I (m D O H q)
theorem zi9 {X:Cx} {e:List Stmt} {t t':TS} (h:PSs X e t) (m:∀ D O H,t' D O H->t D O H):PSs X e t':=fun pj s O H D I q=>h pj s O H D I (m D O H q)
def OpS (X:Cx) (f:Value->Value->Sem Value) (g:T->T->Option T):Prop :=
 OpR X f (fun x y H Q=>∃ F t1 t2 t,Same F H/\Rep X.K F t1 x/\Rep X.K F t2 y/\g t1 t2=some t/\∀ v F' H',Step F H F' H'->Rep X.K F' t v->Q v H')
section
variable {X:Cx} {c:Tc} {a b:Expr} {pos:Pos}
theorem zyw {op:Operator} (ho:OpS X (binaryOp op) h) (ha:Oke X c a f) (hb:Oke X c b g):Oke X c (.BinOp a op b pos) (fun r=>(f r).bind fun x=>(g r).bind fun y=>h x y):=by refine za0 (zvr ho ha hb) fun O H Q q=>?_;obtain ⟨r,F,t,e,ht,q⟩:=q;obtain ⟨t1,e1,ht⟩:=obs ht;obtain ⟨t2,e2,ht⟩:=obs ht;refine ⟨r,F,t1,e,e1,fun v1 F1 H1 s1 r1=>⟨r,F1,t2,e.step s1,e2,fun v2 F2 H2 s2 r2=>?_⟩⟩;exact ⟨F2,t1,t2,t,s2.fh,r1.mono s2.ff,r2,ht,fun v F' H' s3 r3=>q v F' H' (s1.trans (s2.trans s3)) r3⟩
theorem zwi {op:CmpOp} (ho:OpS X (compareOp op) h) (ha:Oke X c a f) (hb:Oke X c b g) (hm:behindInMarks op b=false):Oke X c (.Compare a [op] [b] pos) (fun r=>(f r).bind fun x=>(g r).bind fun y=>h x y):=by refine za0 (zs4 ho ha hb hm) fun O H Q q=>?_;obtain ⟨r,F,t,e,ht,q⟩:=q;obtain ⟨t1,e1,ht⟩:=obs ht;obtain ⟨t2,e2,ht⟩:=obs ht;refine ⟨r,F,t1,e,e1,fun v1 F1 H1 s1 r1=>⟨r,F1,t2,e.step s1,e2,fun v2 F2 H2 s2 r2=>?_⟩⟩;exact ⟨F2,t1,t2,t,s2.fh,r1.mono s2.ff,r2,ht,fun v F' H' s3 r3=>q v F' H' (s1.trans (s2.trans s3)) r3⟩
theorem zti {op:CmpOp} (ho:OpS X (compareOp op) h) (ha:Oke X c a f) (hb:Oke X c b g) (hm:behindInMarks op b=false):Okt X c (.Compare a [op] [b] pos) (fun r=>(f r).bind fun x=>(g r).bind fun y=>h x y):=by refine zhz (zst ho ha hb hm) fun O H Q q=>?_;obtain ⟨r,F,k,e,ht,q⟩:=q;obtain ⟨t1,e1,ht⟩:=obs ht;obtain ⟨t2,e2,ht⟩:=obs ht;refine ⟨r,F,t1,e,e1,fun v1 F1 H1 s1 r1=>⟨r,F1,t2,e.step s1,e2,fun v2 F2 H2 s2 r2=>?_⟩⟩;exact ⟨F2,t1,t2,_,s2.fh,r1.mono s2.ff,r2,ht,fun v F' H' s3 r3=>⟨k,r3,q F' H' (s1.trans (s2.trans s3))⟩⟩
end
theorem ze8:SZ=sizeLine:=ub5.symm
section
variable {X:Cx}
theorem yde:OpR X (binaryOp .Add) (fun x y H Q=>∃ l b xs zs,x=.ref l/\y=.ref b/\Ls X.K H l xs/\Ls X.K H b zs/\xs.length+zs.length<=sizeLine/\∀ p,H p=none->Q (.ref p) (upd H p (.lst (xs++zs)))):=by
 intro pj s O H x y v u Q I rx ry h;obtain ⟨l,b,xs,zs,rfl,rfl,hH,hB,hz,q⟩:=h;cases rx;cases ry;obtain ⟨z,qc,n,r,e⟩:=hH.ok I;obtain ⟨z2,its2,n2,r2,e2⟩:=hB.ok I;have hl:=r.length;have hl2:=r2.length;refine PySem.P.add_list e e2 ?_ (by rw [zzs,zzs];omega);have ea:qc.toArray++its2.toArray=(qc++its2).toArray:=by simp
 rw [ea];exact ⟨.ref _,_,I.lnew (t':=s.toks) (r.append r2) (by rw [zzy];omega),rfl,q _ I.fresh⟩
theorem ydw:OpR X (binaryOp .Add) (fun x y H Q=>∃ a b xs ys,x=.ref a/\y=.ref b/\SqT X.K H a xs/\SqT X.K H b ys/\xs.length+ys.length<=sizeLine /\
  (xs=[]->Q (.ref b) H)/\(xs≠[]->ys=[]->Q (.ref a) H)/\(xs≠[]->ys≠[]->∀ p,H p=none->Q (.ref p) (upd H p (.tup (xs++ys))))):=by
 intro pj s O H x y v u Q I rx ry h;obtain ⟨a,b,xs,ys,rfl,rfl,ha,hb,hz,q0,q1,q2⟩:=h;cases rx;cases ry;obtain ⟨qc,r,ht,_⟩:=I.tuple ha;obtain ⟨its2,r2,ht2,_⟩:=I.tuple hb;have hl:=r.length;have hl2:=r2.length;by_cases hx:xs=[]
 .subst hx;have hi:qc=[]:=by
   cases qc with
   | nil=>rfl
   | cons _ _=>simp at hl
  subst hi;obtain ⟨⟨cls,dd,data,sl⟩,ho,hc,n,hd⟩:=id ht;obtain ⟨⟨cls2,dd2,data2,sl2⟩,ho2,hc2,n2,hd2⟩:=id ht2;simp only at hc hd hc2 hd2;subst hc hd hc2 hd2;exact concat_meets ⟨_,ho,rfl⟩ ⟨_,ho2,rfl⟩ noFill_tuple_add seq_tuple_add PySem.F.slot_tuple_add PySem.F.entry_tuple_add (PySem.F.args_tuple_add_2 _ _)
   (tuple_addW0 a b _ _ n n2 dd dd2 sl sl2 (by simp)) ⟨ho,ho2,⟨.ref b,H,I.tok _,rfl,q0 rfl⟩⟩
 .refine HT.cat_tup ht ht2 (by intro z;subst z;exact hx (by cases xs with | nil=>rfl | cons _ _=>simp at hl)) (fun hw=>?_) (fun hw=>?_) (by omega)
  .have hy:ys=[]:=by subst hw;cases ys with | nil=>rfl | cons _ _=>simp at hl2
   exact ⟨.ref a,H,I,rfl,q1 hx hy⟩
  .have hy:ys≠[]:=by intro z;subst z;exact hw (by cases its2 with | nil=>rfl | cons _ _=>simp at hl2)
   exact ⟨.ref _,_,I.laid (t':=s.toks) (fun b o e=>zzf _ e) (zzw _) (show ObjOk X.prog X.w _ _ _ (.tup (xs++ys)) from ⟨by rw [zzy];omega,qc++its2,r.append r2,IsTup.new _ _⟩),rfl,q2 hx hy _ I.fresh⟩
theorem ztc:OpS X (binaryOp .Add) ybp:=by
 intro pj s O H x y v u Q I rx ry h;obtain ⟨F,t1,t2,t,fh,r1,r2,ht,q⟩:=h;cases t1 with
 | int i =>
  cases t2 with
  | int j =>cases r1;cases r2;cases ht;exact zv5 pj s O H _ _ v u Q I rx ry ⟨_,_,rfl,rfl,q _ F H (Step.refl fh) rfl⟩
  | _=>simp [ybp] at ht
 | lst i =>
  cases t2 with
  | lst j =>
   obtain ⟨l,xs,rfl,h1,h2⟩:=r1;obtain ⟨l',ys,rfl,h3,h4⟩:=r2;simp only [ybp] at ht;split at ht
   .rename_i hz;cases ht;refine yde pj s O H _ _ v u Q I rx ry ⟨_,_,_,_,rfl,rfl,Ls.same fh h1,Ls.same fh h3,by rw [h2.length,h4.length,<- ze8];exact hz,fun p hp=>?_⟩;have st:=(Step.refl fh).new (o:=.lst (xs++ys)) hp;exact q _ _ _ st ⟨p,_,rfl,Ls.of zah,(h2.app h4).mono st.ff⟩
   .cases ht
  | _=>simp [ybp] at ht
 | tup i =>
  cases t2 with
  | tup j =>
   obtain ⟨l,xs,rfl,h1,h2⟩:=r1;obtain ⟨l',ys,rfl,h3,h4⟩:=r2;simp only [ybp] at ht;split at ht
   .rename_i hz;cases ht;refine ydw pj s O H _ _ v u Q I rx ry ⟨_,_,_,_,rfl,rfl,zai fh h1,zai fh h3,by rw [h2.length,h4.length,<- ze8];exact hz,fun z=>?_,fun _ z=>?_,fun _ _ p hp=>?_⟩
    .subst z;refine q _ F H (Step.refl fh) ⟨l',ys,rfl,h3,?_⟩;have e:=h2.length;cases i with
     | nil=>exact h4
     | cons _ _=>simp at e
    .subst z;refine q _ F H (Step.refl fh) ⟨l,xs,rfl,h1,?_⟩;have e:=h4.length;cases j with
     | nil=>rw [zzu];exact h2
     | cons _ _=>simp at e
    .have st:=(Step.refl fh).new (o:=.tup (xs++ys)) hp;exact q _ _ _ st ⟨p,_,rfl,zah,(h2.app h4).mono st.ff⟩
   .cases ht
  | _=>simp [ybp] at ht
 | _=>cases t2<;>simp [ybp] at ht
theorem zs8:OpS X (binaryOp .Sub) yev:=by intro pj s O H x y v u Q I rx ry h;obtain ⟨F,t1,t2,t,fh,r1,r2,ht,q⟩:=h;cases t1<;>cases t2<;>simp only [yev] at ht<;>cases ht;cases r1;cases r2;exact zv3 pj s O H _ _ v u Q I rx ry ⟨_,_,rfl,rfl,q _ F H (Step.refl fh) rfl⟩
theorem Reps.rep {K:W.Frag} {F:Hp} {ts:List T} {vs:List V} (h:Reps K F ts vs):∀ k:Nat,Reps K F (List.replicate k ts).flatten (List.replicate k vs).flatten
 | 0=>rfl
 | k+1=>by rw [List.replicate_succ,List.replicate_succ,List.flatten_cons,List.flatten_cons];exact h.app (Reps.rep h k)
theorem zs9:OpS X (binaryOp .Mult) yd7:=by
 intro pj s O H x y v u Q I rx ry h;obtain ⟨F,t1,t2,t,fh,r1,r2,ht,q⟩:=h;cases t1 with
 | int i =>
  cases t2 with
  | int j =>
   cases r1;cases r2;simp only [yd7] at ht;split at ht
   .rename_i hz;cases ht;refine yfd pj s O H _ _ v u Q I rx ry ⟨_,_,rfl,rfl,?_,q _ F H (Step.refl fh) rfl⟩;rw [Bool.or_eq_true] at hz;have e64:(2:Int) ^ 64=18446744073709551616:=by decide
    rcases hz with hz | hz<;>simp only [yct,Bool.and_eq_true,decide_eq_true_eq] at hz
    .exact .inl (by rw [e64];exact hz)
    .exact .inr (by rw [e64];exact hz)
   .cases ht
  | _=>simp [yd7] at ht
 | _=>cases t2<;>simp [yd7] at ht
theorem zpr:OpS X (binaryOp .FloorDiv) yat:=by
 intro pj s O H x y v u Q I rx ry h;obtain ⟨F,t1,t2,t,fh,r1,r2,ht,q⟩:=h;cases t1<;>cases t2<;>simp only [yat] at ht<;>try cases ht
 split at ht
 .rename_i hz;cases ht;cases r1;cases r2;exact yeq pj s O H _ _ v u Q I rx ry ⟨_,_,rfl,rfl,hz,q _ F H (Step.refl fh) rfl⟩
 .cases ht
theorem zta:OpS X (binaryOp .Mod) ybh:=by
 intro pj s O H x y v u Q I rx ry h;obtain ⟨F,t1,t2,t,fh,r1,r2,ht,q⟩:=h;cases t1<;>cases t2<;>simp only [ybh] at ht<;>try cases ht
 split at ht
 .rename_i hz;cases ht;cases r1;cases r2;exact ye6 pj s O H _ _ v u Q I rx ry ⟨_,_,rfl,rfl,hz,q _ F H (Step.refl fh) rfl⟩
 .cases ht
end
end
end Ev
section
section
namespace L2
open PySem Spec PyProof.Rows
section
variable {xs:List (List Key × Addr × Value)} {b:Addr} {H':Hp} {Q:Value->Shared->Prop}
section
variable {κ:Type} [DecidableEq κ]
def ybi (qb:List (κ × V)) (k:κ):Option V:=(qb.find? fun kv=>decide (kv.1=k)).map (·.2)
def yb3 (qb:List (κ × V)) (k:κ) (v:V):List (κ × V) :=
 if (qb.any fun kv=>decide (kv.1=k))=true then qb.map (fun kv=>if kv.1=k then (kv.1,v) else kv) else qb++[(k,v)]
def ye1 (qb:List (κ × V)) (k:κ):List (κ × V):=qb.filter fun kv=>decide (kv.1≠k)
theorem zbf {p:κ × V} {r:List (κ × V)} {k:κ} (e:p.1=k):ybi (p::r) k=some p.2:=by simp [ybi,e]
theorem zbg {p:κ × V} {r:List (κ × V)} {k:κ} (e:¬ p.1=k):ybi (p::r) k=ybi r k:=by simp [ybi,e]
theorem zcc (k:κ):∀ qb:List (κ × V),(qb.any fun kv=>decide (kv.1=k))=(ybi qb k).isSome
 | []=>rfl
 | p::r=>by
  rw [ub7];by_cases e:p.1=k
  .simp only [zbf e,decide_eq_true e,Bool.true_or,Option.isSome_some]
  .rw [zbg e,zz7 e,Bool.false_or];exact zcc k r
theorem zgl (k j:κ) (y:V):∀ qb:List (κ × V),ybi qb k=none->ybi (qb++[(k,y)]) j=if j=k then some y else ybi qb j
 | [],_=>by
  by_cases e:k=j
  .rw [if_pos e.symm];exact zbf (p:=(k,y)) e
  .rw [if_neg (fun z=>e z.symm)];exact zbg (p:=(k,y)) e
 | p::r,hn=>by
  rw [List.cons_append];have hk:¬ p.1=k:=fun z=>by rw [zbf z] at hn;cases hn
  rw [zbg hk] at hn;have ih:=zgl k j y r hn;by_cases e:p.1=j
  .rw [zbf e,zbf e,if_neg (fun z=>hk (e.trans z))]
  .rw [zbg e,zbg e,ih]
theorem zce (qb:List (κ × V)) (k:κ) (v:V):(yb3 qb k v).length<=qb.length+1:=by
 unfold yb3;split
 .rw [zzo];omega
 .rw [zzy,zz4,List.length_nil];omega
theorem RelO.isSome_eq {o:Option V} {u:Option Value} (r:RelO o u):o.isSome=u.isSome:=by
 cases o with
 | none=>cases u with
  | none=>rfl
  | some _=>exact (show False from r).elim
 | some _=>cases u with
  | none=>exact (show False from r).elim
  | some _=>rfl
theorem RelO.getD {o:Option V} {u:Option Value} {d:V} {d':Value} (r:RelO o u) (rd:RelV d d'):RelV (o.getD d) (u.getD d'):=by
 cases o with
 | none=>cases u with
  | none=>exact rd
  | some _=>exact (show False from r).elim
 | some _=>cases u with
  | none=>exact (show False from r).elim
  | some _=>exact r
theorem KV.val {qb:List (κ × V)} {vs:List (κ × Value)} (r:KV qb vs) (k:κ):RelO (ybi qb k) (valueAt vs k):=by
 unfold KV at r
 induction r with
 | nil=>exact True.intro
 | @cons p q ps qs h t ih =>
  obtain ⟨h1,h2⟩:=h;by_cases e:p.1=k
  .have e':q.1=k:=h1.symm.trans e;have b:valueAt (q::qs) k=some q.2:=by simp [valueAt,e']
   rw [zbf e,b];exact h2
  .have e':¬ q.1=k:=fun z=>e (h1.trans z);have b:valueAt (q::qs) k=valueAt qs k:=by simp [valueAt,e']
   rw [zbg e,b];exact ih
theorem KV.any {qb:List (κ × V)} {vs:List (κ × Value)} (r:KV qb vs) (k:κ):(qb.any fun kv=>decide (kv.1=k))=vs.any fun kv=>decide (kv.1=k):=by
 unfold KV at r
 induction r with
 | nil=>rfl
 | cons h t ih=>rw [ub7,ub7,ih,h.1]
theorem KV.repl {qb:List (κ × V)} {vs:List (κ × Value)} (r:KV qb vs) (k:κ) {y:V} {u:Value} (ry:RelV y u) :
  KV (qb.map fun kv=>if kv.1=k then (kv.1,y) else kv) (vs.map fun kv=>if kv.1=k then (kv.1,u) else kv):=by
 unfold KV at r ⊢
 induction r with
 | nil=>exact .nil
 | @cons p q ps qs h t ih =>
  rw [zzi,zzi];refine .cons ?_ ih;obtain ⟨h1,h2⟩:=h;by_cases e:p.1=k
  .rw [if_pos e,if_pos (h1.symm.trans e)];exact ⟨h1,ry⟩
  .rw [if_neg e,if_neg (fun z=>e (h1.trans z))];exact ⟨h1,h2⟩
theorem KV.put {qb:List (κ × V)} {vs:List (κ × Value)} (r:KV qb vs) (k:κ) {y:V} {u:Value} (ry:RelV y u):KV (yb3 qb k y) (stored vs k u):=by
 unfold yb3 stored;rw [r.any k];by_cases e:(vs.any fun kv=>decide (kv.1=k))=true
 .rw [if_pos e,if_pos e];exact r.repl k ry
 .rw [if_neg e,if_neg e];exact Paired.snoc r ⟨rfl,ry⟩
theorem KV.length {qb:List (κ × V)} {vs:List (κ × Value)} (r:KV qb vs):qb.length=vs.length:=Paired.length r
end
theorem zkr {P:Program} {w:World} {k:Key} {u:Value} (r:RelV (kV k) u):(zak P w).is k u=true:=by
 rcases k with i | _ | x
 .obtain ⟨t,e⟩:=(show ∃ t,u=Value.int i t from r);subst e;exact zib P w i t
 .cases (show u=Value.none from r);rfl
 .obtain ⟨t,e⟩:=(show ∃ t,u=Value.str x t from r);subst e;exact zia P w x t
theorem zg5 {P:Program} {w:World}:∀ {ks:List Key} {us:List Value},Vals (ks.map kV) us->ItemsAre (zak P w) ks us
 | [],_,r=>by rw [List.map_nil] at r;cases r;exact .nil
 | k::ks,_,r=>by
  rw [zzi] at r;cases r with
  | cons h t=>exact .cons (zkr h) (zg5 t)
abbrev KT (H:Hp):List (List Key × V)->List (List Key × Addr × Value)->Prop:=Paired fun p q=>p.1=q.1/\H q.2.1=some (.tup (p.1.map kV))/\RelV p.2 q.2.2
theorem KT.val {H:Hp} {qb:List (List Key × V)} (r:KT H qb xs) (k:List Key):RelO (ybi qb k) ((atKey xs k).map (·.2)):=by
 induction r with
 | nil=>exact True.intro
 | @cons p q ps qs h t ih =>
  obtain ⟨h1,_,h2⟩:=h;by_cases e:p.1=k
  .have e':q.1=k:=h1.symm.trans e;have b:atKey (q::qs) k=some q.2:=by simp [atKey,e']
   rw [zbf e,b];exact h2
  .have e':¬ q.1=k:=fun z=>e (h1.trans z);have b:atKey (q::qs) k=atKey qs k:=by simp [atKey,e']
   rw [zbg e,b];exact ih
theorem KT.repl {H:Hp} {qb:List (List Key × V)} (r:KT H qb xs) (k:List Key) {y:V} {u:Value} (ry:RelV y u) :
  KT H (qb.map fun kv=>if kv.1=k then (kv.1,y) else kv) (xs.map (putAt k u)):=by
 induction r with
 | nil=>exact .nil
 | @cons p q ps qs h t ih =>
  rw [zzi,zzi];refine .cons ?_ ih;obtain ⟨h1,h2,h3⟩:=h;unfold putAt;by_cases e:p.1=k
  .rw [if_pos e,if_pos (h1.symm.trans e)];exact ⟨h1,h2,ry⟩
  .rw [if_neg e,if_neg (fun z=>e (h1.trans z))];exact ⟨h1,h2,h3⟩
theorem KT.put {H:Hp} {qb:List (List Key × V)} (r:KT H qb xs) (k:List Key) {y:V} {u:Value} (hb:H b=some (.tup (k.map kV))) (ry:RelV y u) :
  KT H (yb3 qb k y) (storedH xs k b u):=by
 have e:(qb.any fun kv=>decide (kv.1=k))=(atKey xs k).isSome:=by rw [zcc,(r.val k).isSome_eq,Option.isSome_map]
 unfold yb3 storedH;rw [e];by_cases q:(atKey xs k).isSome=true
 .rw [if_pos q,if_pos q];exact r.repl k ry
 .rw [if_neg q,if_neg q];exact Paired.snoc r ⟨rfl,hb,ry⟩
theorem KT.keeps {H:Hp} {qb:List (List Key × V)} (r:KT H qb xs) (ht:∀ b ys,H b=some (.tup ys)->H' b=some (.tup ys)):KT H' qb xs :=
 Paired.mapP r fun _ _ z=>⟨z.1,ht _ _ z.2.1,z.2.2⟩
section
variable {P:Program} {w:World} {H:Hp} {h:Heap} {a:Addr}
theorem zvb {u:HO} (ok:HOk P w H h) (e:Rd H a u):ObjOk P w H h a u:=e.ok ok
theorem zin {qb:List (Key × V)} (ok:HOk P w H h) (e:Rd H a (.dK qb)):qb.length<=sizeLine/\(a==sysModules)=false/\∃ vs,KV qb vs/\h.DictOf (zak P w) a vs :=
 show ObjOk P w H h a (.dK qb) from zvb ok e
theorem znp {qb:List (Key × V)} (ok:HOk P w H h) (e:H a=some (.dK qb)):qb.length<=sizeLine/\(a==sysModules)=false/\∃ vs,KV qb vs/\h.DictOf (zak P w) a vs:=zin ok (.inl e)
theorem zd3 {ks:List Key} (ok:HOk P w H h) (e:H a=some (.tup (ks.map kV))):(tupleKind (zak P w)).is h ks a:=by obtain ⟨_,qc,r,o,h1,h2,n,h3⟩:=(show ObjOk P w H h a (.tup (ks.map kV)) from ok a _ e);exact ⟨o,qc.toArray,n,h1,h2,h3,by simpa using zg5 r⟩
theorem zhc {qb:List (List Key × V)} (ok:HOk P w H h) (e:Rd H a (.dT qb)):qb.length<=sizeLine/\(a==sysModules)=false /\
  ∃ xs,KT H qb xs/\h.DictOfH (tupleKind (zak P w)) a xs:=by
 obtain ⟨z,y,xs,r,o,es,ep,h1,h2,h3,h4,h5⟩:=(show ObjOk P w H h a (.dT qb) from zvb ok e);refine ⟨z,y,xs,r,o,es,ep,h1,h2,h3,h4,fun x hx=>?_,h5⟩;have all:∀ {l:List (List Key × V)} {m:List (List Key × Addr × Value)},KT H l m->∀ x∈m,(tupleKind (zak P w)).is h x.1 x.2.1:=by
  intro l m q
  induction q with
  | nil=>intro x hx;exact nomatch hx
  | @cons p q ps qs hq t ih =>
   intro x hx;rcases omc hx with e | hx
   .subst e;exact zd3 ok (by rw [<- hq.1];exact hq.2.1)
   .exact ih x hx
 exact all r x hx
theorem zqk {qb:List (List Key × V)} (ok:HOk P w H h) (e:H a=some (.dT qb)):qb.length<=sizeLine/\(a==sysModules)=false /\
  ∃ xs,KT H qb xs/\h.DictOfH (tupleKind (zak P w)) a xs:=zhc ok (.inl e)
end
def DGet (H:Hp) (a:Addr) (y:V) (r:Option V):Prop :=
 (∃ qb k,Rd H a (.dK qb)/\y=kV k/\r=ybi qb k)\/∃ qb k b,Rd H a (.dT qb)/\y=.ref b/\H b=some (.tup (k.map kV))/\r=ybi qb k
def DPut (H:Hp) (a:Addr) (y v:V) (H':Hp):Prop :=
 (∃ qb k,H a=some (.dK qb)/\y=kV k/\qb.length<sizeLine/\H'=upd H a (.dK (yb3 qb k v))) \/
 ∃ qb k b,H a=some (.dT qb)/\y=.ref b/\H b=some (.tup (k.map kV))/\qb.length<sizeLine/\H'=upd H a (.dT (yb3 qb k v))
theorem DGet.t {H:Hp} {a:Addr} {qb:List (List Key × V)} {k:List Key} (e:H a=some (.dT qb)) (eb:H b=some (.tup (k.map kV))):DGet H a (.ref b) (ybi qb k):=.inr ⟨qb,k,b,.inl e,rfl,eb,rfl⟩
theorem DPut.k {H:Hp} {a:Addr} {qb:List (Key × V)} {k:Key} {v:V} (e:H a=some (.dK qb)) (hl:qb.length<sizeLine):DPut H a (kV k) v (upd H a (.dK (yb3 qb k v))):=.inl ⟨qb,k,e,rfl,hl,rfl⟩
theorem DPut.t {H:Hp} {a:Addr} {qb:List (List Key × V)} {k:List Key} {v:V} (e:H a=some (.dT qb)) (eb:H b=some (.tup (k.map kV))) (hl:qb.length<sizeLine) :
  DPut H a (.ref b) v (upd H a (.dT (yb3 qb k v))):=.inr ⟨qb,k,b,e,rfl,eb,hl,rfl⟩
section
variable {X:Cx} {pj:List (Addr × Obj)} {O:St} {H:Hp} {s:Shared} {a:Addr} {y v:V} {u r:Value} {o:Option V} {A:Around} {E:Value->Shared->Prop}
theorem Inv.big (I:Inv X pj O H s):sysModules<s.heap.objs.size:=by have h:mainGlobals<s.heap.objs.size:=(I.mod.glob.keeps I.bk).lt;exact Nat.lt_trans (by decide) h
theorem znv (hu:A.units+1<cLine) (I:Inv X pj O H s) (g:DGet H a y (some v)) (ry:RelV y u) (h:∀ w' s',Inv X pj O H s'->RelV v w'->Q w' s') :
  wpAny (model X.prog X.w) A (getItem (.ref a) u) Q E s:=by
 rcases g with ⟨qb,k,e,ey,l⟩ | ⟨qb,k,b,e,ey,eb,l⟩
 .subst ey;obtain ⟨z,hd,vs,rel,dd⟩:=zin I.hok e;obtain ⟨w',hw,rw'⟩:=RelO.some_of (v:=v) (o:=valueAt vs k) (by rw [l];exact rel.val k);exact wpAny_getItem_of (zkr ry) dd.mapOf hw (h w' _ (I.tok _) rw')
 .subst ey;cases (show u=Value.ref b from ry);obtain ⟨z,hd,xs,rel,dd⟩:=zhc I.hok e;obtain ⟨w',hw,rw'⟩:=RelO.some_of (v:=v) (o:=(atKey xs k).map (·.2)) (by rw [l];exact rel.val k);obtain ⟨p,hp,hp2⟩:=oms hw;refine wpAny_getItem_heap (tupleKind_room_in1 hu) (zd3 I.hok eb) dd hp ?_;rw [hp2];exact h w' _ (I.tok _) rw'
theorem d_in (hu:A.units+1<cLine) (I:Inv X pj O H s) (g:DGet H a y o) (ry:RelV y u) (h:∀ s',Inv X pj O H s'->Q (.bool o.isSome) s') :
  wpAny (model X.prog X.w) A (compareOp .In u (.ref a)) Q E s:=by
 rcases g with ⟨qb,k,e,ey,l⟩ | ⟨qb,k,b,e,ey,eb,l⟩
 .subst ey;obtain ⟨z,hd,vs,rel,dd⟩:=zin I.hok e;refine wpAny_in_of (zkr ry) hd dd.mapOf ?_;rw [<- (rel.val k).isSome_eq,<- l];exact h _ (I.tok _)
 .subst ey;cases (show u=Value.ref b from ry);obtain ⟨z,hd,xs,rel,dd⟩:=zhc I.hok e;refine wpAny_in_heap (tupleKind_room_in1 hu) (zd3 I.hok eb) hd dd ?_;have q:=(rel.val k).isSome_eq;rw [Option.isSome_map] at q;rw [<- q,<- l];exact h _ (I.tok _)
theorem zub (hu:A.units+1<cLine) (I:Inv X pj O H s) (g:DGet H a y o) (ry:RelV y u) (h:∀ s',Inv X pj O H s'->Q (.bool (!o.isSome)) s') :
  wpAny (model X.prog X.w) A (compareOp .NotIn u (.ref a)) Q E s:=by
 rcases g with ⟨qb,k,e,ey,l⟩ | ⟨qb,k,b,e,ey,eb,l⟩
 .subst ey;obtain ⟨z,hd,vs,rel,dd⟩:=zin I.hok e;refine wpAny_notIn_of (zkr ry) hd dd.mapOf ?_;rw [<- (rel.val k).isSome_eq,<- l];exact h _ (I.tok _)
 .subst ey;cases (show u=Value.ref b from ry);obtain ⟨z,hd,xs,rel,dd⟩:=zhc I.hok e;refine wpAny_notIn_heap (tupleKind_room_in1 hu) (zd3 I.hok eb) hd dd ?_;have q:=(rel.val k).isSome_eq;rw [Option.isSome_map] at q;rw [<- q,<- l];exact h _ (I.tok _)
theorem zdx {h':Heap} {t':Nat} {ob:HO} (I:Inv X pj O H s) (mu:Mut (H a)) (hs:Heap.SameBut a s.heap h') (he:∃ q,h'.get? a=some q) (new:ObjOk X.prog X.w (upd H a ob) h' a ob) :
  Inv X pj O (upd H a ob) { s with heap:=h',toks:=t' } :=
 I.write (x:=a) (e:=a) mu (.inl rfl) (fun b q hb z=>(hs.2 b hb).trans z) he new
theorem zxp {P:Program} {w:World} {h':Heap} {qb:List (Key × V)} {vs:List (Key × Value)} (z:qb.length<=sizeLine) (hd:(a==sysModules)=false) (rel:KV qb vs) (dd:h'.DictOf (zak P w) a vs) :
  ObjOk P w H' h' a (.dK qb):=⟨z,hd,vs,rel,dd⟩
theorem znu {Q:Unit->Shared->Prop} (hu:A.units+1<cLine) (I:Inv X pj O H s) (g:DPut H a y v H') (ry:RelV y u) (rv:RelV v r) (h:∀ s',Inv X pj O H' s'->Q () s') :
  wpAny (model X.prog X.w) A (setItem (.ref a) u r) Q E s:=by
 rcases g with ⟨qb,k,e,ey,l,eH⟩ | ⟨qb,k,b,e,ey,eb,l,eH⟩
 .subst ey eH;obtain ⟨z,hd,vs,rel,dd⟩:=znp I.hok e;have hz:vs.length<=sizeLine:=by rw [<- rel.length];exact z
  have hl:(yb3 qb k v).length<=sizeLine:=by have:=zce qb k v;omega
  refine wpAny_setItem_pairs (hsz:=hz) (zkr ry) dd fun h' dd' hs=>h _ ?_;have he:∃ q,h'.get? a=some q:=let ⟨q,_,_,hq,_⟩:=dd';⟨q,hq⟩
  exact zdx I (by rw [e];exact True.intro) hs he (zxp hl hd (rel.put k rv) dd')
 .subst ey eH;cases (show u=Value.ref b from ry);obtain ⟨z,hd,xs,rel,dd⟩:=zqk I.hok e;have hz:xs.length<=sizeLine:=by rw [<- Paired.length rel];exact z
  have hl:(yb3 qb k v).length<=sizeLine:=by have:=zce qb k v;omega
  refine wpAny_setItem_heap (hsz:=hz) (tupleKind_room_in1 hu) (zd3 I.hok eb) dd fun h' dd' hs=>h _ ?_;obtain ⟨q,es,ep,hq,h2,h3,h4,_,h5⟩:=dd';refine zdx I (by rw [e];exact True.intro) hs ⟨q,hq⟩ ⟨hl,hd,_,(rel.put k eb rv).keeps fun c ys ec=>?_,q,es,ep,hq,h2,h3,h4,h5⟩;rw [zad (zh7 ec e (fun z=>nomatch z))];exact ec
end
section
variable {X:Cx} {pj:List (Addr × Obj)} {O:St} {H:Hp} {s:Shared} {a:Addr} {qb:List (Key × V)} {k:Key} {u:Value} {A:Around} {E:Value->Shared->Prop}
end
theorem zio {X:Cx} {pj:List (Addr × Obj)} {O:St} {H:Hp} {s:Shared} {a:Addr} {y:V} {o:Option V} (I:Inv X pj O H s) (g:DGet H a y o):s.TypeIs (.ref a) "dict":=by
 rcases g with ⟨qb,k,e,_,_⟩ | ⟨qb,k,b,e,_,_,_⟩
 .obtain ⟨_,_,vs,_,dd⟩:=zin I.hok e;exact dd.typeIs
 .obtain ⟨_,_,xs,_,dd⟩:=zhc I.hok e;exact dd.typeIs
def yf3 (td ty tv:TE):TS:=fun D O H=>tv O H fun v H1=>td O H1 fun x H2=>ty O H2 fun y H3=>∃ a H4,x=.ref a/\DPut H3 a y v H4/\D.nx O H4
section
variable {X:Cx} {o i e value:Expr} {pos pos' tpos:Pos} {td ty tv:TE}
theorem zsv (hu:X.A.units+1<cLine) (ho:PE X o td) (hi:PE X i ty) (hv:PE X value tv) (hs:swapsWith value (some (.Subscript o i pos')) pos.line X.env=pure false) :
  PS X (.Assign [.Subscript o i pos'] value pos) (yf3 td ty tv):=by
 intro pj s O H D I h;refine wpAny_Assign_Subscript (thn (hv pj s O H _ I h) fun r s1 ⟨v,H1,I1,rv,q1⟩=>thn (ho pj s1 O H1 _ I1 q1) fun u s2 ⟨x,H2,I2,rx,q2⟩=>thn (hi pj s2 O H2 _ I2 q2) fun iv s3 ⟨y,H3,I3,ry,a,H4,ex,g,q3⟩=>?_) hs;subst ex;obtain rfl:u=Value.ref a:=rx;exact znu hu I3 g ry rv fun s4 I4=>⟨O,H4,I4,q3⟩
end
theorem zql {P:Program} {w:World} {H:Hp} (h:Heap) (hb:sysModules<h.objs.size):ObjOk P w H (h.push { cls:=.type "dict",data:=.dict #[] }) h.objs.size (.dK []) :=
 ⟨zAd _,uc3.mpr (Ne.symm (zz5 hb)),[],.nil,Heap.DictOf.new h⟩
def yfe:TE:=fun _ H Q=>∀ p,H p=none->Q (.ref p) (upd H p (.dK []))
section
variable {X:Cx} {pos:Pos}
theorem ydq:PE X (.Dict [] [] pos) yfe:=fun pj s O H Q I h =>wpAny_Dict_empty ⟨.ref s.heap.objs.size,_,I.laid (a:=s.heap.objs.size) (o:=.dK []) (t':=s.toks) (fun _ _ q=>zzf _ q) (zzw _) (zql s.heap I.big),rfl,h _ (I.hok.fresh (zzw _))⟩
end
structure M1 (X:Cx) (o:Expr) (m:Str) (apos:Pos) (e:Expr) (cpos:Pos):Prop where
 base:attributeBase o m X.env (eval o X.env)=eval o X.env
 few:((backTo cpos (starEach [e] X.env)).all (fun x=>!x.1)&&(backToKw cpos (keywordEach [] X.env)).all (fun x=>x.1.isSome)
  && decide (([e]:List Expr).length+([]:List Keyword).length+(if ([]:List Keyword).isEmpty then 0 else 1)<30))=true
 line:(apos.endLine==cpos.line)=true
 trees:backTo cpos (starEach [e] X.env)=[(false,eval e X.env)]
structure M2 (X:Cx) (o:Expr) (m:Str) (apos:Pos) (e f:Expr) (cpos:Pos):Prop where
 base:attributeBase o m X.env (eval o X.env)=eval o X.env
 few:((backTo cpos (starEach [e,f] X.env)).all (fun x=>!x.1)&&(backToKw cpos (keywordEach [] X.env)).all (fun x=>x.1.isSome)
  && decide (([e,f]:List Expr).length+([]:List Keyword).length+(if ([]:List Keyword).isEmpty then 0 else 1)<30))=true
 line:(apos.endLine==cpos.line)=true
 trees:backTo cpos (starEach [e,f] X.env)=[(false,eval e X.env),(false,eval f X.env)]
def IsD (H:Hp) (a:Addr):Prop:=(∃ qb,Rd H a (.dK qb))\/∃ qb,Rd H a (.dT qb)
theorem zrh {X:Cx} {pj:List (Addr × Obj)} {O:St} {H:Hp} {s:Shared} {a:Addr} (I:Inv X pj O H s) (d:IsD H a) :
  s.TypeIs (.ref a) "dict"/\(∀ b,Value.ref a=.ref b->∃ ob,s.heap.get? b=some ob/\ob.dict=none)/\(a==sysModules)=false:=by
 rcases d with ⟨qb,e⟩ | ⟨qb,e⟩
 .obtain ⟨_,hd,vs,_,dd⟩:=zin I.hok e;refine ⟨dd.typeIs,fun b q=>?_,hd⟩;cases q;obtain ⟨ob,_,_,h1,h2,_⟩:=dd;exact ⟨ob,h1,h2.2.1⟩
 .obtain ⟨_,hd,xs,_,dd⟩:=zhc I.hok e;refine ⟨dd.typeIs,fun b q=>?_,hd⟩;cases q;obtain ⟨ob,_,_,h1,h2,_⟩:=dd;exact ⟨ob,h1,h2.2.1⟩
section
variable {X:Cx} {pj:List (Addr × Obj)} {O:St} {H:Hp} {s:Shared} {a:Addr} {y d:V} {u r:Value} {o:Option V} {A:Around} {E:Value->Shared->Prop}
theorem zxs (hu:A.units+1<cLine) (I:Inv X pj O H s) (g:DGet H a y o) (ry:RelV y u) (h:∀ w' s',Inv X pj O H s'->RelV (o.getD .non) w'->Q w' s') :
  wpAny (model X.prog X.w) A (call (.builtin "dict.get") [.ref a,u]) Q E s:=by
 rcases g with ⟨qb,k,e,ey,l⟩ | ⟨qb,k,b,e,ey,eb,l⟩
 .subst ey;obtain ⟨z,hd,vs,rel,dd⟩:=zin I.hok e;refine call_meetsIn PySem.F.slot_dict_get dd.typeIs PySem.F.entry_dict_get (PySem.F.args_dict_get_2 _ _) (meets_dict_get (zak X.prog X.w) a (zkr ry) hd) ⟨_,dd.mapOf,h _ _ (I.tok _) ?_⟩;rw [l];exact (rel.val k).getD rfl
 .subst ey;cases (show u=Value.ref b from ry);obtain ⟨z,hd,xs,rel,dd⟩:=zhc I.hok e;refine call_meetsIn PySem.F.slot_dict_get dd.typeIs PySem.F.entry_dict_get (PySem.F.args_dict_get_2 _ _) (meetsH_dict_get (tupleKind (zak X.prog X.w)) a b hd) ⟨tupleKind_room_in1 hu,k,xs,zd3 I.hok eb,dd,h _ _ (I.tok _) ?_⟩;rw [l];exact (rel.val k).getD rfl
end
section
variable {X:Cx} {o e f:Expr} {apos cpos:Pos} {td ty tx:TE}
end
section
variable {X:Cx} {pj:List (Addr × Obj)} {O:St} {H:Hp} {s:Shared} {a:Addr} {qb:List (Key × V)} {A:Around} {E:Value->Shared->Prop}
end
section
variable {X:Cx} {pj:List (Addr × Obj)} {O:St} {H:Hp} {s:Shared} {a:Addr} {y:V} {u:Value} {A:Around} {E:Value->Shared->Prop}
end
end
section
section
variable {κ:Type} [DecidableEq κ]
theorem zom {qb:List (κ × V)} {k:κ} (h:ybi qb k=none):¬ k∈qb.map (·.1):=by intro m;obtain ⟨p,hp,e⟩:=omm m;have q:(qb.any fun kv=>decide (kv.1=k))=true:=List.any_eq_true.mpr ⟨p,hp,zz0 e⟩;rw [zcc,h] at q;exact absurd q (by simp)
end
end
end L2
end
end
namespace Ev
open PySem Spec PyProof.Rows L2
section
variable {t1 t2:T} {n:Nat} {a:Addr} {vs:List V} {ts us:List T} {v u:Value} {x y:V} {A:Around} {qc jts:List Value}
mutual
theorem zee:∀ t:T,dpP t t<20000->eqT t t=true
 | .non,_=>by rw [eqT]
 | .bl b,_=>by rw [eqT];simp
 | .int i,_=>by rw [eqT];simp
 | .str x,_=>by rw [eqT];simp
 | .tup a,h=>by rw [eqT];rw [dpP] at h;exact zex a (by omega)
 | .lst a,h=>by rw [eqT];rw [dpP] at h;exact zex a (by omega)
 | .dk _ _,h=>by rw [dpP] at h;omega
 | .dt _ _,h=>by rw [dpP] at h;omega
theorem zex:∀ ts:List T,ybe ts ts<20000->yb0 ts ts=true
 | [],_=>by rw [yb0]
 | t::ts,h=>by rw [ybe] at h;rw [yb0,zee t (by omega),zex ts (by omega)];rfl
end
theorem zjy:∀ {xs ys:List T} {j:Nat} {x y:T},xs[j]?=some x->ys[j]?=some y->dpP x y<=ybe xs ys
 | [],_,_,_,_,h,_=>by simp at h
 | _::_,[],_,_,_,_,h=>by simp at h
 | a::xs,b::ys,0,x,y,h1,h2=>by simp at h1 h2;subst h1 h2;rw [ybe];exact Nat.le_max_left _ _
 | a::xs,b::ys,j+1,x,y,h1,h2=>by rw [ybe];exact Nat.le_trans (zjy (j:=j) (by simpa using h1) (by simpa using h2)) (Nat.le_max_right _ _)
theorem zdj:∀ xs ys:List T,yb0 xs ys=((List.range (min xs.length ys.length)).all (fun j=>eqT (xs.getD j .non) (ys.getD j .non))&&xs.length==ys.length)
 | [],[]=>by rw [yb0];rfl
 | [],b::ys=>by simp [yb0]
 | a::xs,[]=>by simp [yb0]
 | a::xs,b::ys=>by
  rw [yb0,zdj xs ys,zz4,zz4,show min (xs.length+1) (ys.length+1)=min xs.length ys.length+1 by omega,List.range_succ_eq_map,List.all_cons,List.all_map];have e:(xs.length+1==ys.length+1)=(xs.length==ys.length):=by
   by_cases h:xs.length=ys.length
   .simp [h]
   .simp []
  rw [e,Bool.and_assoc];rfl
def isD:T->Bool
 | .dk _ _=>true
 | .dt _ _=>true
 | _=>false
theorem yfi (hd:dpP t1 t2<=n) (hn:n<20000):isD t1=false/\isD t2=false:=by cases t1<;>cases t2<;>first | exact ⟨rfl,rfl⟩ | (exfalso;simp [dpP] at hd;omega)
def yba:T->T->Bool
 | .tup _,.tup _=>true
 | .lst _,.lst _=>true
 | .dk _ _,_=>true
 | .dt _ _,_=>true
 | _,.dk _ _=>true
 | _,.dt _ _=>true
 | _,_=>false
section
variable {X:Cx} {pj:List (Addr × Obj)} {O:L2.St} {H F:Hp} {s:Shared}
theorem zeg (I:Inv X pj O H s) (h:(∃ ws,H a=some (.dK ws))\/∃ ws,H a=some (.dT ws)):∃ o,s.heap.get? a=some o/\o.cls=.type "dict":=by
 rcases h with ⟨ws,h⟩ | ⟨ws,h⟩
 .obtain ⟨_,_,vs,_,o,es,ep,h1,h2,_⟩:=znp I.hok h;exact ⟨o,h1,h2.1⟩
 .obtain ⟨_,_,xs,_,o,es,ep,h1,h2,_⟩:=zqk I.hok h;exact ⟨o,h1,h2.1⟩
theorem zjg (I:Inv X pj O H s) (h:(∃ ws,H a=some (.dK ws))\/∃ ws,H a=some (.dT ws)) (p:SqT X.K H a vs):False:=by obtain ⟨o,h1,h2⟩:=zeg I h;obtain ⟨qc,_,⟨o',e,c,_⟩,_⟩:=I.tuple p;rw [h1] at e;cases e;rw [h2] at c;exact absurd c (by decide +kernel)
theorem zjh (I:Inv X pj O H s) (h:(∃ ws,H a=some (.dK ws))\/∃ ws,H a=some (.dT ws)) (p:Ls X.K H a vs):False:=by obtain ⟨o,h1,h2⟩:=zeg I h;obtain ⟨qc,_,p',_⟩:=I.list p.sq;obtain ⟨o',e,c,_⟩:=p'.isList;rw [h1] at e;cases e;rw [h2] at c;exact absurd c (by decide +kernel)
theorem zbh (I:Inv X pj O H s) (fh:Same F H) {v:V} (r:Rep X.K F (.tup ts) v) (ru:RelV v u):∃ a vs qc,v=.ref a/\u=.ref a/\Tq X.K F a vs/\Reps X.K F ts vs/\Vals vs qc/\s.heap.IsTuple a qc.toArray:=by obtain ⟨a,vs,rfl,h1,h2⟩:=r;cases ru;obtain ⟨qc,rv,p,_⟩:=I.tuple (zai fh h1);exact ⟨a,vs,qc,rfl,rfl,h1,h2,rv,p⟩
theorem zcw (I:Inv X pj O H s) (fh:Same F H) {v:V} (r:Rep X.K F (.lst ts) v) (ru:RelV v u):∃ a vs qc,v=.ref a/\u=.ref a/\Ls X.K F a vs/\Reps X.K F ts vs/\Vals vs qc/\s.heap.IsList a qc.toArray:=by obtain ⟨a,vs,rfl,h1,h2⟩:=r;cases ru;obtain ⟨qc,rv,p,_⟩:=I.list (Ls.same fh h1).sq;exact ⟨a,vs,qc,rfl,rfl,h1,h2,rv,p.isList⟩
theorem zfp {xs ys:Array Value} (h1:s.heap.IsTuple a xs) (h2:s.heap.IsList a ys):False:=by obtain ⟨o,e,c,_⟩:=h1;obtain ⟨o',e',c',_⟩:=h2;rw [e] at e';cases e';rw [c] at c';exact absurd c' (by decide +kernel)
theorem zpa (h1:RelV x u) (h2:RelV y u):x=y:=by
 cases x with
 | non=>cases h1;cases y<;>first | rfl | (obtain ⟨_,e⟩:=h2;cases e;done) | (cases h2;done)
 | bl _=>cases h1;cases y<;>first | (obtain ⟨_,e⟩:=h2;cases e;done) | (cases h2;done) | (cases h2;rfl)
 | ref _=>cases h1;cases y<;>first | (obtain ⟨_,e⟩:=h2;cases e;done) | (cases h2;done) | (cases h2;rfl)
 | ty _=>cases h1;cases y<;>first | (obtain ⟨_,e⟩:=h2;cases e;done) | (cases h2;done) | (cases h2;rfl)
 | _=>obtain ⟨_,rfl⟩:=h1;cases y<;>first | (obtain ⟨_,e⟩:=h2;cases e;done) | (cases h2;done) | (obtain ⟨_,e⟩:=h2;cases e;rfl)
mutual
theorem zfu (I:Inv X pj O H s) (fh:Same F H):∀ {t1 t2:T} {v:V},Rep X.K F t1 v->Rep X.K F t2 v->t1=t2
 | .non,t2,v,r1,r2=>by cases r1;cases t2<;>first | rfl | (obtain ⟨_,_,e,_⟩:=r2;cases e) | cases r2
 | .bl b,t2,v,r1,r2=>by cases r1;cases t2<;>first | (cases r2;rfl) | (obtain ⟨_,_,e,_⟩:=r2;cases e) | cases r2
 | .int b,t2,v,r1,r2=>by cases r1;cases t2<;>first | (cases r2;rfl) | (obtain ⟨_,_,e,_⟩:=r2;cases e) | cases r2
 | .str b,t2,v,r1,r2=>by cases r1;cases t2<;>first | (cases r2;rfl) | (obtain ⟨_,_,e,_⟩:=r2;cases e) | cases r2
 | .tup ts,t2,v,r1,r2=>by
  obtain ⟨a,vs,rfl,h1,h2⟩:=r1;cases t2 with
  | tup us =>obtain ⟨b,ws,e,h3,h4⟩:=r2;cases e;have:=I.tuple_inj (zai fh h1) (zai fh h3);subst this;rw [zdd I fh h2 h4]
  | lst us =>obtain ⟨b,ws,e,h3,h4⟩:=r2;cases e;obtain ⟨qc,_,p,_⟩:=I.tuple (zai fh h1);obtain ⟨jts,_,p',_⟩:=I.list (Ls.same fh h3).sq;exact absurd (zfp (s:=s) p p'.isList) id
  | dk _ _ =>obtain ⟨b,ws,e,h3,h4⟩:=r2;cases e;exact (zjg I (.inl ⟨_,fh _ _ h3⟩) (zai fh h1)).elim
  | dt _ _ =>obtain ⟨b,ws,e,h3,h4⟩:=r2;cases e;exact (zjg I (.inr ⟨_,fh _ _ h3⟩) (zai fh h1)).elim
  | _=>cases r2
 | .lst ts,t2,v,r1,r2=>by
  obtain ⟨a,vs,rfl,h1,h2⟩:=r1;cases t2 with
  | lst us =>obtain ⟨b,ws,e,h3,h4⟩:=r2;cases e;have:=I.list_inj (Ls.same fh h1).sq (Ls.same fh h3).sq;subst this;rw [zdd I fh h2 h4]
  | tup us =>obtain ⟨b,ws,e,h3,h4⟩:=r2;cases e;obtain ⟨qc,_,p,_⟩:=I.tuple (zai fh h3);obtain ⟨jts,_,p',_⟩:=I.list (Ls.same fh h1).sq;exact absurd (zfp (s:=s) p p'.isList) id
  | dk _ _ =>obtain ⟨b,ws,e,h3,h4⟩:=r2;cases e;exact (zjh I (.inl ⟨_,fh _ _ h3⟩) (Ls.same fh h1)).elim
  | dt _ _ =>obtain ⟨b,ws,e,h3,h4⟩:=r2;cases e;exact (zjh I (.inr ⟨_,fh _ _ h3⟩) (Ls.same fh h1)).elim
  | _=>cases r2
 | .dk ks ts,t2,v,r1,r2=>by
  obtain ⟨a,ws,rfl,h1,h2,h2'⟩:=r1;cases t2 with
  | dk _ _ =>obtain ⟨b,zs,e,h3,h4,h4'⟩:=r2;cases e;rw [h1] at h3;cases h3;subst h2 h4;rw [zdd I fh h2' h4']
  | dt _ _ =>obtain ⟨b,zs,e,h3,_⟩:=r2;cases e;rw [h1] at h3;cases h3
  | tup _ =>obtain ⟨b,zs,e,h3,_⟩:=r2;cases e;exact (zjg I (.inl ⟨_,fh _ _ h1⟩) (zai fh h3)).elim
  | lst _ =>obtain ⟨b,zs,e,h3,_⟩:=r2;cases e;exact (zjh I (.inl ⟨_,fh _ _ h1⟩) (Ls.same fh h3)).elim
  | _=>cases r2
 | .dt ks ts,t2,v,r1,r2=>by
  obtain ⟨a,ws,rfl,h1,h2,h2'⟩:=r1;cases t2 with
  | dt _ _ =>obtain ⟨b,zs,e,h3,h4,h4'⟩:=r2;cases e;rw [h1] at h3;cases h3;subst h2 h4;rw [zdd I fh h2' h4']
  | dk _ _ =>obtain ⟨b,zs,e,h3,_⟩:=r2;cases e;rw [h1] at h3;cases h3
  | tup _ =>obtain ⟨b,zs,e,h3,_⟩:=r2;cases e;exact (zjg I (.inr ⟨_,fh _ _ h1⟩) (zai fh h3)).elim
  | lst _ =>obtain ⟨b,zs,e,h3,_⟩:=r2;cases e;exact (zjh I (.inr ⟨_,fh _ _ h1⟩) (Ls.same fh h3)).elim
  | _=>cases r2
theorem zdd (I:Inv X pj O H s) (fh:Same F H):∀ {ts us:List T} {vs:List V},Reps X.K F ts vs->Reps X.K F us vs->ts=us
 | [],us,vs,r1,r2=>by
  cases r1;cases us with
  | nil=>rfl
  | cons _ _=>obtain ⟨_,_,e,_⟩:=r2;cases e
 | t::ts,us,vs,r1,r2=>by
  obtain ⟨v,r,rfl,h1,h2⟩:=r1;cases us with
  | nil=>cases r2
  | cons u us =>obtain ⟨_,_,e,h3,h4⟩:=r2;cases e;rw [zfu I fh h1 h3,zdd I fh h2 h4]
end
theorem zeb (ih:∀ (t1 t2:T) (x y:V) (v u:Value),dpP t1 t2<=n->Rep X.K F t1 x->Rep X.K F t2 y->RelV x v->RelV y u->SeqAt.EqAt A s v u (eqT t1 t2)) {ws:List V} (hd:ybe ts us<=n)
  (r1:Reps X.K F ts vs) (r2:Reps X.K F us ws) (v1:Vals vs qc) (v2:Vals ws jts):∀ j (h1:j<qc.toArray.size) (h2:j<jts.toArray.size),SeqAt.EqAt A s qc.toArray[j] jts.toArray[j] (eqT (ts.getD j .non) (us.getD j .non)):=by
 intro j h1 h2;have l1:qc.length=ts.length:=by rw [<- v1.length,r1.length]
 have l2:jts.length=us.length:=by rw [<- v2.length,r2.length]
 have h1':j<ts.length:=by rw [zzs] at h1;omega
 have h2':j<us.length:=by rw [zzs] at h2;omega
 have e1:ts[j]?=some ts[j]:=zzm h1';have e2:us[j]?=some us[j]:=zzm h2';obtain ⟨x,hx,rx⟩:=r1.get e1;obtain ⟨y,hy,ry⟩:=r2.get e2;obtain ⟨v,hv,rv⟩:=v1.get hx;obtain ⟨u,hu,ru⟩:=v2.get hy;have g1:qc.toArray[j]=v:=by
  have:qc[j]?=some qc.toArray[j]:=by simp
  rw [hv] at this;exact (zz2 this).symm
 have g2:jts.toArray[j]=u:=by
  have:jts[j]?=some jts.toArray[j]:=by simp
  rw [hu] at this;exact (zz2 this).symm
 rw [g1,g2,zzr,zzr,e1,e2];exact ih _ _ x y v u (zz8 (zjy e1 e2) hd) rx ry rv ru
theorem ziz {ws:List V} (r1:Reps X.K F ts vs) (r2:Reps X.K F us ws) (v1:Vals vs qc) (v2:Vals ws jts):qc.toArray.size=ts.length/\jts.toArray.size=us.length:=by rw [zzs,zzs,<- v1.length,<- v2.length,r1.length,r2.length];exact ⟨rfl,rfl⟩
theorem zju (h:ts.length=us.length):yb0 ts us=(List.range ts.length).all fun j=>eqT (ts.getD j .non) (us.getD j .non):=by rw [zdj,h];simp
theorem znn (h:ts.length≠us.length):yb0 ts us=false:=by rw [zdj,show (ts.length==us.length)=false by simpa using h,Bool.and_false]
theorem kind {P:T->Value->Prop} (I:Inv X pj O H s) (fh:Same F H) {t:T} (r:Rep X.K F t x) (rx:RelV x v) (h0:P .non .none) (h1:∀ b,P (.bl b) (.bool b)) (h2:∀ i k,P (.int i) (.int i k)) (h3:∀ i k,P (.str i) (.str i k))
  (h4:∀ ts a qc,s.heap.IsTuple a qc->P (.tup ts) (.ref a)) (h5:∀ ts a qc,s.heap.IsList a qc->P (.lst ts) (.ref a)) (h6:isD t=true->P t v):P t v:=by
 cases t with
 | non=>cases r;cases rx;exact h0
 | bl b=>cases r;cases rx;exact h1 b
 | int i=>cases r;obtain ⟨k,rfl⟩:=rx;exact h2 i k
 | str i=>cases r;obtain ⟨k,rfl⟩:=rx;exact h3 i k
 | tup ts=>obtain ⟨a,_,qc,_,rfl,_,_,_,p⟩:=zbh I fh r rx;exact h4 ts a _ p
 | lst ts=>obtain ⟨a,_,qc,_,rfl,_,_,_,p⟩:=zcw I fh r rx;exact h5 ts a _ p
 | dk _ _=>exact h6 rfl
 | dt _ _=>exact h6 rfl
theorem yf9 (h:isD t2=true):yba t1 t2=true:=by cases t2<;>first | (cases h;done) | (cases t1<;>rfl)
theorem yfc (h:isD t1=true):yba t1 t2=true:=by cases t1<;>first | (cases h;done) | rfl
theorem mix {Q:Value->Value->Bool->Prop} {g:Bool->Bool}
  (mnn:Q .none .none (g true))
  (mnb:∀ (b:Bool),Q .none (.bool b) (g false))
  (mni:∀ (b:Int) (b':Tok),Q .none (.int b b') (g false))
  (mns:∀ (b:Str) (b':Tok),Q .none (.str b b') (g false))
  (mnt:∀ {b:Addr} {b':Array Value},s.heap.IsTuple b b'->A.units<cLine->Q .none (.ref b) (g false))
  (mnl:∀ {b:Addr} {b':Array Value},s.heap.IsList b b'->A.units<cLine->Q .none (.ref b) (g false))
  (mbn:∀ (a:Bool),Q (.bool a) .none (g false))
  (mbb:∀ (a:Bool) (b:Bool),Q (.bool a) (.bool b) (g (a==b)))
  (mbi:∀ (a:Bool) (b:Int) (b':Tok),Q (.bool a) (.int b b') (g ((if a then 1 else 0)==b)))
  (mbs:∀ (a:Bool) (b:Str) (b':Tok),Q (.bool a) (.str b b') (g false))
  (mbt:∀ {b:Addr} {b':Array Value} (a:Bool),s.heap.IsTuple b b'->A.units<cLine->Q (.bool a) (.ref b) (g false))
  (mbl:∀ {b:Addr} {b':Array Value} (a:Bool),s.heap.IsList b b'->A.units<cLine->Q (.bool a) (.ref b) (g false))
  (min:∀ (a:Int) (a':Tok),Q (.int a a') .none (g false))
  (mib:∀ (a:Int) (a':Tok) (b:Bool),Q (.int a a') (.bool b) (g (a==(if b then 1 else 0))))
  (mii:∀ (a:Int) (a':Tok) (b:Int) (b':Tok),Q (.int a a') (.int b b') (g (a==b)))
  (mis:∀ (a:Int) (a':Tok) (b:Str) (b':Tok),Q (.int a a') (.str b b') (g false))
  (mit:∀ {b:Addr} {b':Array Value} (a:Int) (a':Tok),s.heap.IsTuple b b'->A.units<cLine->Q (.int a a') (.ref b) (g false))
  (mil:∀ {b:Addr} {b':Array Value} (a:Int) (a':Tok),s.heap.IsList b b'->A.units<cLine->Q (.int a a') (.ref b) (g false))
  (msn:∀ (a:Str) (a':Tok),Q (.str a a') .none (g false))
  (msb:∀ (a:Str) (a':Tok) (b:Bool),Q (.str a a') (.bool b) (g false))
  (msi:∀ (a:Str) (a':Tok) (b:Int) (b':Tok),Q (.str a a') (.int b b') (g false))
  (mss:∀ (a:Str) (a':Tok) (b:Str) (b':Tok),Q (.str a a') (.str b b') (g (a==b)))
  (mst:∀ {b:Addr} {b':Array Value} (a:Str) (a':Tok),s.heap.IsTuple b b'->A.units<cLine->Q (.str a a') (.ref b) (g false))
  (msl:∀ {b:Addr} {b':Array Value} (a:Str) (a':Tok),s.heap.IsList b b'->A.units<cLine->Q (.str a a') (.ref b) (g false))
  (mtn:∀ {a:Addr} {a':Array Value},s.heap.IsTuple a a'->A.units<cLine->Q (.ref a) .none (g false))
  (mtb:∀ {a:Addr} {a':Array Value} (b:Bool),s.heap.IsTuple a a'->A.units<cLine->Q (.ref a) (.bool b) (g false))
  (mti:∀ {a:Addr} {a':Array Value} (b:Int) (b':Tok),s.heap.IsTuple a a'->A.units<cLine->Q (.ref a) (.int b b') (g false))
  (mts:∀ {a:Addr} {a':Array Value} (b:Str) (b':Tok),s.heap.IsTuple a a'->A.units<cLine->Q (.ref a) (.str b b') (g false))
  (mtl:∀ {a:Addr} {a':Array Value} {b:Addr} {b':Array Value},s.heap.IsTuple a a'->s.heap.IsList b b'->A.units<cLine->Q (.ref a) (.ref b) (g false))
  (mln:∀ {a:Addr} {a':Array Value},s.heap.IsList a a'->A.units<cLine->Q (.ref a) .none (g false))
  (mlb:∀ {a:Addr} {a':Array Value} (b:Bool),s.heap.IsList a a'->A.units<cLine->Q (.ref a) (.bool b) (g false))
  (mli:∀ {a:Addr} {a':Array Value} (b:Int) (b':Tok),s.heap.IsList a a'->A.units<cLine->Q (.ref a) (.int b b') (g false))
  (mls:∀ {a:Addr} {a':Array Value} (b:Str) (b':Tok),s.heap.IsList a a'->A.units<cLine->Q (.ref a) (.str b b') (g false))
  (mlt:∀ {a:Addr} {a':Array Value} {b:Addr} {b':Array Value},s.heap.IsList a a'->s.heap.IsTuple b b'->A.units<cLine->Q (.ref a) (.ref b) (g false))
  (I:Inv X pj O H s) (fh:Same F H) {t1 t2:T} {x y:V} {v u:Value} (hu:A.units<cLine) (hne:yba t1 t2≠true) (r1:Rep X.K F t1 x) (r2:Rep X.K F t2 y) (rx:RelV x v) (ry:RelV y u):Q v u (g (eqT t1 t2)):=by
 revert hne;have two:∀ {t v},(yba t .non≠true->Q v .none (g (eqT t .non)))->(∀ b,yba t (.bl b)≠true->Q v (.bool b) (g (eqT t (.bl b))))->(∀ i k,yba t (.int i)≠true->Q v (.int i k) (g (eqT t (.int i))))->(∀ i k,yba t (.str i)≠true->Q v (.str i k) (g (eqT t (.str i)))) ->
   (∀ ts a qc,s.heap.IsTuple a qc->yba t (.tup ts)≠true->Q v (.ref a) (g (eqT t (.tup ts))))->(∀ ts a qc,s.heap.IsList a qc->yba t (.lst ts)≠true->Q v (.ref a) (g (eqT t (.lst ts))))->yba t t2≠true->Q v u (g (eqT t t2)) :=
  fun {t v} h0 h1 h2 h3 h4 h5=>kind (P:=fun w u=>yba t w≠true->Q v u (g (eqT t w))) I fh r2 ry h0 h1 h2 h3 h4 h5 fun e z=>absurd (yf9 e) z
 refine kind (P:=fun t v=>yba t t2≠true->Q v u (g (eqT t t2))) I fh r1 rx ?_ ?_ ?_ ?_ ?_ ?_ fun e z=>absurd (yfc e) z
 .exact two (fun _=>mnn) (fun b' _=>mnb b') (fun i' k' _=>mni i' k') (fun i' k' _=>mns i' k') (fun _ _ _ p' _=>mnt p' hu) (fun _ _ _ p' _=>mnl p' hu)
 .intro b;exact two (fun _=>mbn b) (fun b' _=>mbb b b') (fun i' k' _=>mbi b i' k') (fun i' k' _=>mbs b i' k') (fun _ _ _ p' _=>mbt b p' hu) (fun _ _ _ p' _=>mbl b p' hu)
 .intro i k;exact two (fun _=>min i k) (fun b' _=>mib i k b') (fun i' k' _=>mii i k i' k') (fun i' k' _=>mis i k i' k') (fun _ _ _ p' _=>mit i k p' hu) (fun _ _ _ p' _=>mil i k p' hu)
 .intro i k;exact two (fun _=>msn i k) (fun b' _=>msb i k b') (fun i' k' _=>msi i k i' k') (fun i' k' _=>mss i k i' k') (fun _ _ _ p' _=>mst i k p' hu) (fun _ _ _ p' _=>msl i k p' hu)
 .intro _ _ _ p;exact two (fun _=>mtn p hu) (fun b' _=>mtb b' p hu) (fun i' k' _=>mti i' k' p hu) (fun i' k' _=>mts i' k' p hu) (fun _ _ _ _ z=>absurd rfl z) (fun _ _ _ p' _=>mtl p p' hu)
 .intro _ _ _ p;exact two (fun _=>mln p hu) (fun b' _=>mlb b' p hu) (fun i' k' _=>mli i' k' p hu) (fun i' k' _=>mls i' k' p hu) (fun _ _ _ p' _=>mlt p p' hu) (fun _ _ _ _ z=>absurd rfl z)
open SeqAt.EqAt in
theorem yed (I:Inv X pj O H s) (fh:Same F H) (hu:A.units<cLine) (hne:yba t1 t2≠true) (r1:Rep X.K F t1 x) (r2:Rep X.K F t2 y) (rx:RelV x v) (ry:RelV y u):SeqAt.EqAt A s v u (eqT t1 t2) :=
 mix (g:=id) (Q:=SeqAt.EqAt A s) (same .none) none_bool none_int none_str none_tuple none_list bool_none bool_bool bool_int bool_str bool_tuple bool_list int_none int_bool int_int int_str int_tuple int_list str_none str_bool str_int str_str str_tuple str_list tuple_none tuple_bool tuple_int tuple_str tuple_list list_none list_bool list_int list_str list_tuple I fh hu hne r1 r2 rx ry
open SeqAt.RcAt in
theorem zvc (I:Inv X pj O H s) (fh:Same F H) (hu:A.units<cLine) (hne:yba t1 t2≠true) (r1:Rep X.K F t1 x) (r2:Rep X.K F t2 y) (rx:RelV x v) (ry:RelV y u):SeqAt.RcAt A s v u (eqT t1 t2) :=
 mix (g:=id) (Q:=SeqAt.RcAt A s) none_none none_bool none_int none_str none_tuple none_list bool_none bool_bool bool_int bool_str bool_tuple bool_list int_none int_bool int_int int_str int_tuple int_list str_none str_bool str_int str_str str_tuple str_list tuple_none tuple_bool tuple_int tuple_str tuple_list list_none list_bool list_int list_str list_tuple I fh hu hne r1 r2 rx ry
open SeqAt.RcNeAt in
theorem zwn (I:Inv X pj O H s) (fh:Same F H) (hu:A.units<cLine) (hne:yba t1 t2≠true) (r1:Rep X.K F t1 x) (r2:Rep X.K F t2 y) (rx:RelV x v) (ry:RelV y u):SeqAt.RcNeAt A s v u (!eqT t1 t2) :=
 mix (g:=not) (Q:=SeqAt.RcNeAt A s) none_none none_bool none_int none_str none_tuple none_list bool_none bool_bool bool_int bool_str bool_tuple bool_list int_none int_bool int_int int_str int_tuple int_list str_none str_bool str_int str_str str_tuple str_list tuple_none tuple_bool tuple_int tuple_str tuple_list list_none list_bool list_int list_str list_tuple I fh hu hne r1 r2 rx ry
theorem zqi (I:Inv X pj O H s) (fh:Same F H):∀ (n:Nat) (A:Around) (t1 t2:T) (x y:V) (v u:Value),A.units+n<cLine->dpP t1 t2<=n->Rep X.K F t1 x->Rep X.K F t2 y->RelV x v->RelV y u->SeqAt.EqAt A s v u (eqT t1 t2):=by
 intro n
 induction n with
 | zero =>intro A t1 t2 x y v u hA hd r1 r2 rx ry;refine yed I fh hA ?_ r1 r2 rx ry;intro h;have nd:=yfi hd (by omega);cases t1<;>cases t2<;>first | (cases h;done) | (cases nd.1;done) | (cases nd.2;done) | (rw [dpP] at hd;omega)
 | succ n ih =>
  intro A t1 t2 x y v u hA hd r1 r2 rx ry;have hu:A.units<cLine:=by omega
  have ih':=fun (t1 t2:T) (x y:V) (v u:Value) h=>ih A.in1 t1 t2 x y v u (show A.units+1+n<cLine by omega) h;have nd:=yfi hd (by have:cLine=9900:=rfl;omega);by_cases hb:yba t1 t2=true
  .cases t1 with
   | tup ts =>
    cases t2 with
    | tup us =>
     rw [dpP] at hd;by_cases hs:v=u
     .subst hs;have e:x=y:=by obtain ⟨_,_,rfl,_⟩:=r1;obtain ⟨_,_,rfl,_⟩:=r2;cases rx;cases ry;rfl
      subst e;have e:=zfu I fh r1 r2;cases e;rw [zee _ (by rw [dpP];have:cLine=9900:=rfl;omega)];exact .same v
     .obtain ⟨l1,vs1,its1,rfl,rfl,_,q1,w1,p1⟩:=zbh I fh r1 rx;obtain ⟨l2,vs2,its2,rfl,rfl,_,q2,w2,p2⟩:=zbh I fh r2 ry;have h:=SeqAt.RcAt.tuples p1 p2 hu (zeb (fun t1 t2 x y v u h a b c d=>ih' t1 t2 x y v u h a b c d) (Nat.le_of_succ_le_succ hd) q1 q2 w1 w2);obtain ⟨z1,z2⟩:=ziz q1 q2 w1 w2;rw [z1,z2,<- zdj] at h;rw [eqT];exact .of_refs (fun e=>hs (by rw [e])) h
    | dk _ _=>cases nd.2
    | dt _ _=>cases nd.2
    | _=>cases hb
   | lst ts =>
    cases t2 with
    | lst us =>
     rw [dpP] at hd;by_cases hs:v=u
     .subst hs;have e:x=y:=by obtain ⟨_,_,rfl,_⟩:=r1;obtain ⟨_,_,rfl,_⟩:=r2;cases rx;cases ry;rfl
      subst e;have e:=zfu I fh r1 r2;cases e;rw [zee _ (by rw [dpP];have:cLine=9900:=rfl;omega)];exact .same v
     .obtain ⟨l1,vs1,its1,rfl,rfl,_,q1,w1,p1⟩:=zcw I fh r1 rx;obtain ⟨l2,vs2,its2,rfl,rfl,_,q2,w2,p2⟩:=zcw I fh r2 ry;obtain ⟨z1,z2⟩:=ziz q1 q2 w1 w2;rw [eqT];refine .of_refs (fun e=>hs (by rw [e])) ?_;by_cases hl:ts.length=us.length
      .have h:=SeqAt.RcAt.lists p1 p2 (by rw [z1,z2,hl]) hu (zeb (fun t1 t2 x y v u h a b c d=>ih' t1 t2 x y v u h a b c d) (Nat.le_of_succ_le_succ hd) q1 q2 w1 w2);rw [z1] at h;rw [zju hl];exact h
      .rw [znn hl];exact SeqAt.RcAt.lists_lengths p1 p2 (by rw [z1,z2];simpa using hl) hu
    | dk _ _=>cases nd.2
    | dt _ _=>cases nd.2
    | _=>cases hb
   | dk _ _=>cases nd.1
   | dt _ _=>cases nd.1
   | _=>cases t2<;>first | (cases hb;done) | (cases nd.2;done)
  .exact yed I fh hu hb r1 r2 rx ry
theorem zvd (I:Inv X pj O H s) (fh:Same F H) (hA:A.units+n<cLine) (hd:dpP t1 t2<=n) (r1:Rep X.K F t1 x) (r2:Rep X.K F t2 y) (rx:RelV x v) (ry:RelV y u):SeqAt.RcAt A s v u (eqT t1 t2)/\SeqAt.RcNeAt A s v u (!eqT t1 t2):=by
 have hu:A.units<cLine:=by omega
 have nd:=yfi hd (by have:cLine=9900:=rfl;omega);by_cases hb:yba t1 t2=true
 .cases n with
  | zero =>exfalso;have nd:=yfi hd (by omega);cases t1<;>cases t2<;>first | (cases hb;done) | (cases nd.1;done) | (cases nd.2;done) | (rw [dpP] at hd;omega)
  | succ n =>
   have ih':=fun (t1 t2:T) (x y:V) (v u:Value) h=>zqi I fh n A.in1 t1 t2 x y v u (show A.units+1+n<cLine by omega) h;cases t1 with
   | tup ts =>
    cases t2 with
    | tup us =>rw [dpP] at hd;obtain ⟨l1,vs1,its1,rfl,rfl,_,q1,w1,p1⟩:=zbh I fh r1 rx;obtain ⟨l2,vs2,its2,rfl,rfl,_,q2,w2,p2⟩:=zbh I fh r2 ry;have pa:=zeb (fun t1 t2 x y v u h a b c d=>ih' t1 t2 x y v u h a b c d) (Nat.le_of_succ_le_succ hd) q1 q2 w1 w2;have h:=SeqAt.RcAt.tuples p1 p2 hu pa;have g:=SeqAt.RcNeAt.tuples p1 p2 hu pa;obtain ⟨z1,z2⟩:=ziz q1 q2 w1 w2;rw [z1,z2,<- zdj] at h g;rw [eqT];exact ⟨h,g⟩
    | dk _ _=>cases nd.2
    | dt _ _=>cases nd.2
    | _=>cases hb
   | lst ts =>
    cases t2 with
    | lst us =>
     rw [dpP] at hd;obtain ⟨l1,vs1,its1,rfl,rfl,_,q1,w1,p1⟩:=zcw I fh r1 rx;obtain ⟨l2,vs2,its2,rfl,rfl,_,q2,w2,p2⟩:=zcw I fh r2 ry;obtain ⟨z1,z2⟩:=ziz q1 q2 w1 w2;rw [eqT];by_cases hl:ts.length=us.length
     .have pa:=zeb (fun t1 t2 x y v u h a b c d=>ih' t1 t2 x y v u h a b c d) (Nat.le_of_succ_le_succ hd) q1 q2 w1 w2;have h:=SeqAt.RcAt.lists p1 p2 (by rw [z1,z2,hl]) hu pa;have g:=SeqAt.RcNeAt.lists p1 p2 (by rw [z1,z2,hl]) hu pa;rw [z1] at h g;rw [zju hl];exact ⟨h,g⟩
     .rw [znn hl];exact ⟨SeqAt.RcAt.lists_lengths p1 p2 (by rw [z1,z2];simpa using hl) hu,SeqAt.RcNeAt.lists_lengths p1 p2 (by rw [z1,z2];simpa using hl) hu⟩
    | dk _ _=>cases nd.2
    | dt _ _=>cases nd.2
    | _=>cases hb
   | dk _ _=>cases nd.1
   | dt _ _=>cases nd.1
   | _=>cases t2<;>first | (cases hb;done) | (cases nd.2;done)
 .exact ⟨zvc I fh hu hb r1 r2 rx ry,zwn I fh hu hb r1 r2 rx ry⟩
end
end
section
variable {pj:List (Addr × Obj)} {O:L2.St} {H F:Hp} {s:Shared} {K:W.Frag} {t t1:T} {v:Value} {x:V}
section
variable {X:Cx}
theorem zhy {a:Addr} {xs:List V} (I:Inv X pj O H s) (h:Ls X.K H a xs):∃ qc:List Value,Vals xs qc/\s.heap.IsList a qc.toArray/\xs.length<=sizeLine:=by have q:SqL X.K H a xs:=h.sq;obtain ⟨qc,r,p,z⟩:=I.list q;exact ⟨qc,r,p.isList,z⟩
def vOf:T->V
 | .non=>.non
 | .bl b=>.bl b
 | .int i=>.int i
 | .str x=>.str x
 | _=>.non
theorem zi7 {v:V} (h:Rep K F t v) (f:flat t=true):v=vOf t:=by
 cases t with
 | tup _=>cases f
 | lst _=>cases f
 | dk _ _=>cases f
 | dt _ _=>cases f
 | _=>exact h
theorem znk (f:flat t=true):ycv (vOf t)=true:=by cases t<;>first | rfl | cases f
theorem zy9 {u:T} (f:flat t=true) (g:flat u=true):eqV (vOf t) (vOf u)=eqT t u:=by cases t<;>cases u<;>first | (exact absurd f Bool.false_ne_true) | (exact absurd g Bool.false_ne_true) | rfl | simp [vOf,eqV,eqT]
theorem zv1 (hu:X.A.units+100<cLine):OpS X (compareOp .Eq) eqC:=by
 intro pj s O H x y v u Q I rx ry h;obtain ⟨F,t1,t2,t,fh,r1,r2,ht,q⟩:=h;simp only [eqC] at ht;split at ht
 .rename_i hd;cases ht;exact (zvd I fh (n:=30) (by omega) hd r1 r2 rx ry).1 _ _ _ _ ⟨.bl _,H,I,rfl,q _ F H (Step.refl fh) rfl⟩
 .cases ht
theorem zvy (hu:X.A.units+100<cLine):OpS X (compareOp .NotEq) neC:=by
 intro pj s O H x y v u Q I rx ry h;obtain ⟨F,t1,t2,t,fh,r1,r2,ht,q⟩:=h;simp only [neC] at ht;split at ht
 .rename_i hd;cases ht;exact (zvd I fh (n:=30) (by omega) hd r1 r2 rx ry).2 _ _ _ _ ⟨.bl _,H,I,rfl,q _ F H (Step.refl fh) rfl⟩
 .cases ht
theorem zjp {v:V} {k:Kt} (r:Rep K F t v) (h:yes t=some k):v=kV k:=by cases t<;>first | (cases h;exact r) | cases h
theorem zbw {K:W.Frag} {F:Hp}:∀ {ts:List T} {vs:List V} {ks:List Kt},Reps K F ts vs->ybn ts=some ks->vs=ks.map kV
 | [],_,_,r,h=>by cases r;cases h;rfl
 | t::ts,_,_,r,h=>by obtain ⟨v,vr,rfl,r1,r2⟩:=r;obtain ⟨k,h1,h⟩:=obs h;obtain ⟨ks,h2,h⟩:=obs h;cases h;rw [zjp r1 h1,zbw r2 h2];rfl
theorem zvz (hu:X.A.units+100<cLine):OpS X (compareOp .Lt) ltC:=by
 intro pj s O H x y v u Q I rx ry h;obtain ⟨F,t1,t2,t,fh,r1,r2,ht,q⟩:=h;cases t1 with
 | int i =>
  cases t2 with
  | int j =>cases ht;cases r1;cases r2;exact zyr pj s O H _ _ v u Q I rx ry ⟨_,_,rfl,rfl,q _ F H (Step.refl fh) rfl⟩
  | _=>cases ht
 | str i =>
  cases t2 with
  | str j =>cases ht;cases r1;cases r2;exact zl8 pj s O H _ _ v u Q I rx ry ⟨_,_,rfl,rfl,q _ F H (Step.refl fh) rfl⟩
  | _=>cases ht
 | _=>cases ht
theorem zv0:OpS X (compareOp .Gt) (yay .gt):=by intro pj s O H x y v u Q I rx ry h;obtain ⟨F,t1,t2,t,fh,r1,r2,ht,q⟩:=h;cases t1<;>cases t2<;>simp only [yay] at ht<;>cases ht;cases r1;cases r2;exact zys pj s O H _ _ v u Q I rx ry ⟨_,_,rfl,rfl,q _ F H (Step.refl fh) rfl⟩
theorem zgu {K:W.Frag} {F:Hp}:∀ {ts:List T} {vs:List V},Reps K F ts vs->ts.all flat=true->vs=ts.map vOf
 | [],_,h,_=>h
 | t::ts,_,h,f=>by obtain ⟨v,r,rfl,h1,h2⟩:=h;rw [List.all_cons,zzn] at f;rw [zzi,zi7 h1 f.1,zgu h2 f.2]
theorem zoc {ts:List T} (g:ts.all flat=true):(ts.map vOf).all ycv=true:=by
 induction ts with
 | nil=>rfl
 | cons t ts ih =>rw [List.all_cons,zzn] at g;rw [zzi,List.all_cons,znk g.1,ih g.2];rfl
theorem zm2 (I:Inv X pj O H s) (fh:Same F H) {A:Around} (hA:A.units+30<cLine) (r1:Rep X.K F t1 x) (rx:RelV x v):∀ {ts:List T} {vs:List V} {us:List Value},dpI t1 ts=true->Reps X.K F ts vs->Vals vs us ->
  ∃ e:Value->Bool,(∀ w∈us,SeqAt.EqAt A s w v (e w))/\us.map e=ts.map fun z=>eqT z t1:=by
 classical
 intro ts vs us hd r rv;have one:∀ {ts:List T} {vs:List V} {us:List Value},dpI t1 ts=true->Reps X.K F ts vs->Vals vs us->∀ w∈us,∃ t∈ts,SeqAt.EqAt A s w v (eqT t t1)/\∃ y,Rep X.K F t y/\RelV y w:=by
  intro ts
  induction ts with
  | nil=>intro vs us _ r rv w hw;cases r;cases rv;cases hw
  | cons t ts ih =>
   intro vs us hd r rv w hw;obtain ⟨y,vr,rfl,r2,r3⟩:=r;cases rv with
   | cons a b =>
    unfold dpI at hd;rw [List.all_cons,zzn,zAu] at hd;rcases omc hw with rfl | hw
    .exact ⟨t,zzt,zqi I fh 30 A _ _ _ _ _ _ hA hd.1 r2 r1 a rx,_,r2,a⟩
    .obtain ⟨t',h1,h2⟩:=ih hd.2 r3 b w hw;exact ⟨t',zzq _ h1,h2⟩
 obtain ⟨e,he⟩:∃ e:Value->Bool,∀ w t y,Rep X.K F t y->RelV y w->e w=eqT t t1:=by refine ⟨fun w=>if h:∃ t,(∃ y,Rep X.K F t y/\RelV y w) then eqT (Classical.choose h) t1 else false,fun w t y h3 h4=>?_⟩;have h:∃ t,(∃ y,Rep X.K F t y/\RelV y w):=⟨t,y,h3,h4⟩;obtain ⟨y',h5,h6⟩:=Classical.choose_spec h;have e:y=y':=zpa h4 h6;subst e;simp only [dif_pos h];rw [<- zfu I fh h3 h5]
 refine ⟨e,fun w hw=>?_,?_⟩
 .obtain ⟨t,_,h2,y,h3,h4⟩:=one hd r rv w hw;rw [he w t y h3 h4];exact h2
 .clear one
  induction ts generalizing vs us with
  | nil=>cases r;cases rv;rfl
  | cons t ts ih =>
   obtain ⟨y,vr,rfl,r2,r3⟩:=r;cases rv with
   | cons a b =>unfold dpI at hd;rw [List.all_cons,zzn] at hd;rw [zzi,zzi,ih hd.2 r3 b,he _ t y r2 a]
theorem zjr (I:Inv X pj O H s) (fh:Same F H) {A:Around} (hA:A.units+30<cLine) (r1:Rep X.K F t1 x) (rx:RelV x v):∀ {ts:List T} {vs:List V} {us:List Value},dpI t1 ts=true->Reps X.K F ts vs->Vals vs us ->
  ∃ e:Value->Bool,(∀ w∈us,SeqAt.EqAt A s w v (e w))/\us.any e=ts.any fun z=>eqT z t1:=by
 intro ts vs us hd r rv;obtain ⟨e,e1,e2⟩:=zm2 I fh hA r1 rx hd r rv;refine ⟨e,e1,?_⟩;have:=zzz (fun l:List Bool=>l.any id) e2;simpa [List.any_map,Function.comp_def] using this
theorem zri (hu:X.A.units+100<cLine) {t2:T} {y:V} {u:Value} {b:Bool} (I:Inv X pj O H s) (fh:Same F H) (r1:Rep X.K F t1 x) (r2:Rep X.K F t2 y) (rx:RelV x v) (ry:RelV y u) (h:inC t1 t2=some b) (hnd:∀ ks us,t2≠.dt ks us) {Q:Bool->Shared->Prop} (q:Q b s) {Q2:Value->Shared->Prop} :
  ((∀ b,Q b s->Q2 (.bool b) s)->wpAny (model X.prog X.w) X.A (compareOp .In v u) Q2 X.xe s)/\((∀ b,Q b s->Q2 (.bool (!b)) s)->wpAny (model X.prog X.w) X.A (compareOp .NotIn v u) Q2 X.xe s):=by
 cases t2 with
 | tup ts =>
  simp only [inC] at h;split at h
  .rename_i hd;cases h;obtain ⟨a,vs,qc,rfl,rfl,_,q1,w1,p1⟩:=zbh I fh r2 ry;obtain ⟨e,e1,e2⟩:=zjr I fh (A:=X.A.in1) (show X.A.units+1+30<cLine by omega) r1 rx hd q1 w1;have e3:qc.toArray.any e=ts.any fun z=>eqT z t1:=by rw [<- e2];simp
   exact ⟨fun k=>SeqAt.in_tupleAt e p1 (fun w hw=>e1 w (by simpa using hw)) (by rw [e3];exact k _ q),fun k=>SeqAt.notIn_tupleAt e p1 (fun w hw=>e1 w (by simpa using hw)) (by rw [e3];exact k _ q)⟩
  .cases h
 | lst ts =>
  simp only [inC] at h;split at h
  .rename_i hd;cases h;obtain ⟨a,vs,qc,rfl,rfl,_,q1,w1,p1⟩:=zcw I fh r2 ry;obtain ⟨e,e1,e2⟩:=zjr I fh (A:=X.A.in1) (show X.A.units+1+30<cLine by omega) r1 rx hd q1 w1;have e3:qc.toArray.any e=ts.any fun z=>eqT z t1:=by rw [<- e2];simp
   exact ⟨fun k=>SeqAt.in_listAt e p1 (fun w hw=>e1 w (by simpa using hw)) (by rw [e3];exact k _ q),fun k=>SeqAt.notIn_listAt e p1 (fun w hw=>e1 w (by simpa using hw)) (by rw [e3];exact k _ q)⟩
  .cases h
 | dt ks us=>exact absurd rfl (hnd ks us)
 | _=>cases h
theorem zm3 {ks:List (List Kt)} {us:List T} {y:V} {u:Value} {b:Bool} (I:Inv X pj O H s) (fh:Same F H) (r1:Rep X.K F t1 x) (r2:Rep X.K F (.dt ks us) y) (rx:RelV x v) (ry:RelV y u) (h:inC t1 (.dt ks us)=some b):∃ a z o,u=.ref a/\DGet H a z o/\RelV z v/\o.isSome=b:=by
 cases t1 with
 | tup xs =>obtain ⟨k,hk,rfl⟩:=oms h;obtain ⟨a,ws,rfl,g1,g2,g3⟩:=r2;obtain ⟨c,vs,rfl,g4,g5⟩:=r1;cases rx;cases ry;subst g2;have eb:=zbw g5 hk;subst eb;exact ⟨a,.ref c,ybi ws k,rfl,DGet.t (fh _ _ g1) (fh _ _ g4),rfl,by rw [<- zcc,List.any_map];rfl⟩
 | _=>cases h
theorem ye5 (hu:X.A.units+100<cLine):OpS X (compareOp .In) (yay .isin):=by
 intro pj s O H x y v u Q I rx ry h;obtain ⟨F,t1,t2,t,fh,r1,r2,ht,q⟩:=h;simp only [yay] at ht;obtain ⟨b,hb,rfl⟩:=oms ht;by_cases hq:∃ ks us,t2=.dt ks us
 .obtain ⟨ks,us,rfl⟩:=hq;obtain ⟨a,z,o,rfl,g,rz,e⟩:=zm3 I fh r1 r2 rx ry hb;exact d_in (by omega) I g rz fun s' I'=>⟨.bl o.isSome,H,I',rfl,by rw [e];exact q _ F H (Step.refl fh) rfl⟩
 exact (zri hu I fh r1 r2 rx ry hb (fun ks us e=>hq ⟨ks,us,e⟩) (Q:=fun b _=>Q (.bl b) H) (q _ F H (Step.refl fh) rfl)).1 fun b k=>⟨.bl b,H,I,rfl,k⟩
theorem ydf (hu:X.A.units+100<cLine):OpS X (compareOp .NotIn) (yay .notin):=by
 intro pj s O H x y v u Q I rx ry h;obtain ⟨F,t1,t2,t,fh,r1,r2,ht,q⟩:=h;simp only [yay] at ht;obtain ⟨b,hb,rfl⟩:=oms ht;by_cases hq:∃ ks us,t2=.dt ks us
 .obtain ⟨ks,us,rfl⟩:=hq;obtain ⟨a,z,o,rfl,g,rz,e⟩:=zm3 I fh r1 r2 rx ry hb;exact zub (by omega) I g rz fun s' I'=>⟨.bl (!o.isSome),H,I',rfl,by rw [e];exact q _ F H (Step.refl fh) rfl⟩
 exact (zri hu I fh r1 r2 rx ry hb (fun ks us e=>hq ⟨ks,us,e⟩) (Q:=fun b _=>Q (.bl (!b)) H) (q _ F H (Step.refl fh) rfl)).2 fun b k=>⟨.bl (!b),H,I,rfl,k⟩
theorem ztb:OpS X (compareOp .Is) (yay .isN):=by
 intro pj s O H x y v u Q I rx ry h;obtain ⟨F,t1,t2,t,fh,r1,r2,ht,q⟩:=h;have e2:t2=.non:=by cases t2<;>first | rfl | (cases t1<;>simp [yay] at ht)
 subst e2;cases r2;have e:t=.bl (decide (x=.non)):=by
  cases t1 with
  | non=>cases r1;cases ht;simp
  | bl _=>cases r1;cases ht;simp
  | int _=>cases r1;cases ht;simp
  | str _=>cases r1;cases ht;simp
  | tup _=>obtain ⟨a,vs,rfl,_⟩:=r1;cases ht;simp
  | lst _=>obtain ⟨a,vs,rfl,_⟩:=r1;cases ht;simp
  | dk _ _=>obtain ⟨a,vs,rfl,_⟩:=r1;cases ht;simp
  | dt _ _=>obtain ⟨a,vs,rfl,_⟩:=r1;cases ht;simp
 subst e;exact zv4 pj s O H _ _ v u Q I rx ry ⟨rfl,q _ F H (Step.refl fh) rfl⟩
theorem zpp:OpS X (compareOp .IsNot) (yay .notN):=by
 intro pj s O H x y v u Q I rx ry h;obtain ⟨F,t1,t2,t,fh,r1,r2,ht,q⟩:=h;have e2:t2=.non:=by cases t2<;>first | rfl | (cases t1<;>simp [yay] at ht)
 subst e2;cases r2;have e:t=.bl (!decide (x=.non)):=by
  cases t1 with
  | non=>cases r1;cases ht;simp
  | bl _=>cases r1;cases ht;simp
  | int _=>cases r1;cases ht;simp
  | str _=>cases r1;cases ht;simp
  | tup _=>obtain ⟨a,vs,rfl,_⟩:=r1;cases ht;simp
  | lst _=>obtain ⟨a,vs,rfl,_⟩:=r1;cases ht;simp
  | dk _ _=>obtain ⟨a,vs,rfl,_⟩:=r1;cases ht;simp
  | dt _ _=>obtain ⟨a,vs,rfl,_⟩:=r1;cases ht;simp
 subst e;exact zte pj s O H _ _ v u Q I rx ry ⟨rfl,q _ F H (Step.refl fh) rfl⟩
theorem zpq:OpS X (compareOp .IsNot) (yay .notF):=by
 intro pj s O H x y v u Q I rx ry h;obtain ⟨F,t1,t2,t,fh,r1,r2,ht,q⟩:=h;have e2:t2=.bl false:=by
  cases t2 with
  | bl b=>cases b<;>first | rfl | (cases t1<;>simp [yay] at ht)
  | _=>cases t1<;>simp [yay] at ht
 subst e2;cases r2;cases ry;cases t1 with
 | bl b =>cases r1;cases rx;cases ht;refine isnot_bool ⟨.bl b,H,I,?_,q _ F H (Step.refl fh) rfl⟩;cases b<;>rfl
 | non =>cases r1;cases rx;cases ht;exact zzl (a:=Value.bool (Value.none != Value.bool false)) ⟨.bl true,H,I,rfl,q _ F H (Step.refl fh) rfl⟩
 | _=>simp [yay] at ht
theorem zq8 (hu:X.A.units+100<cLine) {op:CmpOp} {e:Expr} {o:Co} (h:yel op e=some o):OpS X (compareOp op) (yay o)/\behindInMarks op e=false:=by
 cases op with
 | Eq=>cases h;exact ⟨zv1 hu,yb1 _⟩
 | NotEq=>cases h;exact ⟨zvy hu,yb1 _⟩
 | Lt=>cases h;exact ⟨zvz hu,yb1 _⟩
 | LtE=>cases h
 | Gt=>cases h;exact ⟨zv0,yb1 _⟩
 | GtE=>cases h
 | Is =>
  simp only [yel] at h;split at h
  .cases h;exact ⟨ztb,yb1 _⟩
  .cases h
 | IsNot =>
  simp only [yel] at h;split at h
  .cases h;exact ⟨zpp,yb1 _⟩
  .split at h
   .cases h;exact ⟨zpq,yb1 _⟩
   .cases h
 | In =>
  simp only [yel] at h;split at h
  .cases h
  .rename_i hb;cases h;exact ⟨ye5 hu,by simpa using hb⟩
 | NotIn =>
  simp only [yel] at h;split at h
  .cases h
  .rename_i hb;cases h;exact ⟨ydf hu,by simpa using hb⟩
theorem zv2 {op:Operator} {o:Bo} (h:yft op=some o):OpS X (binaryOp op) (ya0 o):=by
 cases op<;>simp only [yft] at h<;>cases h
 .exact ztc
 .exact zs8
 .exact zs9
 .exact zta
 .exact zpr
end
end
section
variable {K:W.Frag} {f g:Env->Option T} {G:Glo} {k n:Nat} {rest es:List Expr}
section
variable {X:Cx} {c:Tc} {a b:Expr} {pos:Pos}
theorem zrj {F:Hp} {ts:List T} {vs:List V} {i:Int} {t:T} (r:Reps K F ts vs) (h:ybk ts i=some t):∃ v,atI vs i=some v/\Rep K F t v:=by unfold ybk at h;obtain ⟨j,h1,h2⟩:=obs h;obtain ⟨v,h3,h4⟩:=r.get h2;refine ⟨v,?_,h4⟩;unfold atI;rw [r.length];exact ue1.mpr ⟨j,h1,h3⟩
theorem zr1 {prog:Program} {w:World} {A:Around} {E:Value->Shared->Prop} {s:Shared} {value slice:Expr} {o i:Value} {T id:String} {Q:Value->Shared->Prop}
  (hl:typeLookup (.type T) "__getitem__"=pure (some (.builtin id))) (hs:subscripted slice false o i=operate [o,i] (getItem o i)) (hT:s.TypeIs o T) (h:wpAny (model prog w) A (getItem o i) Q E s) :
  wpAny (model prog w) A (subscriptTail value slice o i) Q E s:=by
 unfold subscriptTail;refine zzg ?_;rw [getitemInPython_of_ne hT.not_modules];refine zzg (wpAny_specialOf hT hl ?_);have fin:wpAny (model prog w) A (subscripted slice false o i) (fun r qz=>wpAny (model prog w) A (letTemporaryGo value o r >>= fun _=>pure r) Q E qz) E s:=by rw [hs];exact wpAny_operating (zAy h (fun r qz h₃=>zzg (wpAny_letTemporaryGo (zzl h₃))) fun _ _ x=>x)
 first
  | exact zzl (zzg fin)
  | exact zzg (zzl (zzg fin))
  | exact zzg fin
theorem zg1 {κ:Type} [DecidableEq κ] {K:W.Frag} {F:Hp}:∀ {ws:List (κ × V)} {ts:List T} {k:κ} {t:T},Reps K F ts (ws.map (·.2))->ybt (ws.map (·.1)) ts k=some t->∃ v,ybi ws k=some v/\Rep K F t v
 | [],_,_,_,_,h=>by simp [ybt] at h
 | p::ws,[],_,_,r,_=>by cases r
 | p::ws,u::ts,k,t,r,h=>by
  obtain ⟨v,vr,e,r1,r2⟩:=r;rw [zzi] at e;injection e with e1 e2;rw [zzi,ybt] at h;by_cases hk:p.1=k
  .rw [if_pos hk] at h;cases h;exact ⟨p.2,zbf hk,by rw [e1];exact r1⟩
  .rw [if_neg hk] at h;rw [zbg hk];exact zg1 (by rw [e2];exact r2) h
theorem ixs (hu:X.A.units+1<cLine):IxR X (fun x y H Q=>∃ F t1 t2 t,Same F H/\Rep X.K F t1 x/\Rep X.K F t2 y/\yai t1 t2=some t/\∀ v F' H',Step F H F' H'->Rep X.K F' t v->Q v H'):=by
 intro value slice pj s O H x y v u Q I rx ry h hs;obtain ⟨F,t1,t2,t,fh,r1,r2,ht,q⟩:=h;cases t1 with
 | tup ts =>
  cases t2 with
  | int i =>cases r2;obtain ⟨p,vs,rfl,h1,h2⟩:=r1;obtain ⟨w,h3,h4⟩:=zrj h2 ht;exact zxa value slice pj s O H _ _ v u Q I rx ry ⟨p,vs,i,w,rfl,rfl,zai fh h1,h3,q _ F H (Step.refl fh) h4⟩ hs
  | _=>cases ht
 | lst ts =>
  cases t2 with
  | int i =>cases r2;obtain ⟨p,vs,rfl,h1,h2⟩:=r1;obtain ⟨w,h3,h4⟩:=zrj h2 ht;exact zt0 value slice pj s O H _ _ v u Q I rx ry ⟨p,vs,i,w,rfl,rfl,(Ls.same fh h1).sq,h3,q _ F H (Step.refl fh) h4⟩ hs
  | _=>cases ht
 | dt ks us =>
  cases t2 with
  | tup xs =>
   obtain ⟨k,h1,h2⟩:=obs ht;obtain ⟨a,ws,rfl,g1,g2,g3⟩:=r1;obtain ⟨b,vs,rfl,g4,g5⟩:=r2;cases rx;cases ry;subst g2;obtain ⟨w,w1,w2⟩:=zg1 g3 h2;have eb:=zbw g5 h1;subst eb;have g:DGet H a (.ref b) (some w):=by rw [<- w1];exact DGet.t (fh _ _ g1) (fh _ _ g4)
   exact zr1 PySem.F.slot_dict_getitem.lookup hs (zio I g) (znv hu I g rfl fun w' s3 I3 rw'=>⟨w,H,I3,rw',q _ F H (Step.refl fh) w2⟩)
  | _=>cases ht
 | _=>cases t2<;>cases ht
theorem zwe (hu:X.A.units+1<cLine) (ha:Oke X c a f) (hb:Oke X c b g) (hs:zix b):Oke X c (.Subscript a b pos) (fun r=>(f r).bind fun x=>(g r).bind fun y=>yai x y):=by refine za0 (zyp (ixs hu) ha hb hs) fun O H Q q=>?_;obtain ⟨r,F,t,e,ht,q⟩:=q;obtain ⟨t1,e1,ht⟩:=obs ht;obtain ⟨t2,e2,ht⟩:=obs ht;refine ⟨r,F,t1,e,e1,fun v1 F1 H1 s1 r1=>⟨r,F1,t2,e.step s1,e2,fun v2 F2 H2 s2 r2=>?_⟩⟩;exact ⟨F2,t1,t2,t,s2.fh,r1.mono s2.ff,r2,ht,fun v F' H' s3 r3=>q v F' H' (s1.trans (s2.trans s3)) r3⟩
theorem zi6 {F:Hp} {ts:List T} {vs:List V} (r:Reps K F ts vs) (lo hi:Option Int):Reps K F (cut ts lo hi) (ydk vs lo hi):=by
 unfold cut ydk;have e:∀ (n d:Nat) (o:Option Int),HT.sIx n d o=ycw n d o:=fun n d o=>by cases o<;>rfl
 rw [e,e,r.length];exact (r.drop _).take _
theorem sls:SlR X (fun x lo hi H Q=>∃ F t1 t,Same F H/\Rep X.K F t1 x/\yc6 t1 lo hi=some t/\∀ v F' H',Step F H F' H'->Rep X.K F' t v->Q v H'):=by
 intro pj s O H x v vl vu lo hi sl Q I rx hs pl pu h;obtain ⟨F,t1,t,fh,r1,ht,q⟩:=h;cases t1 with
 | tup ts =>
  simp only [yc6] at ht;cases ht;obtain ⟨p,vs,rfl,h1,h2⟩:=r1;have e:∀ (n d:Nat) (o:Option Int),HT.sIx n d o=ycw n d o:=fun n d o=>by cases o<;>rfl
  by_cases hw:ycw ts.length 0 lo=0/\ycw ts.length ts.length hi=ts.length
  .refine zo6 pj s O H _ v vl vu lo hi sl Q I rx hs pl pu ⟨p,vs,rfl,zai fh h1,by rw [e,e,h2.length];exact hw,?_⟩;have ec:cut ts lo hi=ts:=by unfold cut;rw [hw.1,hw.2];simp
   exact q _ F H (Step.refl fh) ⟨p,vs,rfl,h1,by rw [ec];exact h2⟩
  .refine zuy pj s O H _ v vl vu lo hi sl Q I rx hs pl pu ⟨p,vs,rfl,zai fh h1,by rw [e,e,h2.length];exact hw,fun p' hp=>?_⟩;have st:=(Step.refl fh).new (o:=.tup (ydk vs lo hi)) hp;exact q _ _ _ st ⟨p',_,rfl,zah,(zi6 h2 lo hi).mono st.ff⟩
 | lst ts =>simp only [yc6] at ht;cases ht;obtain ⟨p,vs,rfl,h1,h2⟩:=r1;refine zsd pj s O H _ v vl vu lo hi sl Q I rx hs pl pu ⟨p,vs,rfl,(Ls.same fh h1).sq,fun p' hp=>?_⟩;have st:=(Step.refl fh).new (o:=.lst (ydk vs lo hi)) hp;exact q _ _ _ st ⟨p',_,rfl,Ls.of zah,(zi6 h2 lo hi).mono st.ff⟩
 | _=>simp [yc6] at ht
def spO (X:Cx) (c:Tc) (f:Env->Option (Option T)):TO:=fun O H Q=>∃ r F o,EnvE X c r F O H/\(f r).bind asI=some o/\∀ F' H',Step F H F' H'->Q o H'
theorem zlz {e:Option Expr} {t t':TO} (h:PO X e t) (m:∀ O H Q,t' O H Q->t O H Q):PO X e t':=fun pj s O H Q I q=>h pj s O H Q I (m O H Q q)
theorem zkl:PO X none (spO X c fun _=>some none):=by refine zlz zsx fun O H Q q=>?_;obtain ⟨r,F,o,e,ht,q⟩:=q;cases ht;exact q F H (Step.refl e.fh)
theorem zkk (h:Oke X c a f):PO X (some a) (spO X c fun r=>(f r).map some):=by
 refine zlz (zsw h) fun O H Q q=>?_;obtain ⟨r,F,o,e,ht,q⟩:=q;obtain ⟨o',e1,ht⟩:=obs ht;obtain ⟨t,e2,rfl⟩:=oms e1;refine ⟨r,F,t,e,e2,fun v F' H' s1 r1=>?_⟩;cases t with
 | int i=>cases ht;cases r1;exact ⟨i,rfl,q F' H' s1⟩
 | _=>cases ht
theorem zv9 {lo hi:Option Expr} {g h:Env->Option (Option T)} {p2:Pos} (ha:Oke X c a f) (hl:PO X lo (spO X c g)) (hh:PO X hi (spO X c h)) :
  Oke X c (.Subscript a (.Slice lo hi none p2) pos) (fun r=>(f r).bind fun x=>(g r).bind fun l=>(h r).bind fun u=>(asI l).bind fun l'=>(asI u).bind fun u'=>yc6 x l' u'):=by
 refine za0 (zpm sls ha hl hh) fun O H Q q=>?_;obtain ⟨r,F,t,e,ht,q⟩:=q;obtain ⟨t1,e1,ht⟩:=obs ht;obtain ⟨l,e2,ht⟩:=obs ht;obtain ⟨u,e3,ht⟩:=obs ht;obtain ⟨l',e4,ht⟩:=obs ht;obtain ⟨u',e5,ht⟩:=obs ht;refine ⟨r,F,t1,e,e1,fun v1 F1 H1 s1 r1=>⟨r,F1,l',e.step s1,ue1.mpr ⟨l,e2,e4⟩,fun F2 H2 s2=>⟨r,F2,u',e.step (s1.trans s2),ue1.mpr ⟨u,e3,e5⟩,fun F3 H3 s3=>?_⟩⟩⟩;exact ⟨F3,t1,t,s3.fh,r1.mono (s2.trans s3).ff,ht,fun v F' H' s4 r4=>q v F' H' (s1.trans (s2.trans (s3.trans s4))) r4⟩
theorem zwh {t:T} {v:V} (h:PE X a (tC v)) (r:∀ F,Rep X.K F t v):Oke X c a (fun _=>some t):=by refine za0 h fun O H Q q=>?_;obtain ⟨r',F,t',e,ht,q⟩:=q;cases ht;exact q v F H (Step.refl e.fh) (r F)
theorem zv7 (gd:Gd X c G k) {x:Str} {i:Nat} (hp:zac x=true) (hv:ybu c.sc x=true) (hi:yaj c.nm x=some i):Oke X c (.Name x pos) (fun r=>(r[i]?).join):=by
 have hpn:=hp;simp only [zac,Bool.and_eq_true,Bool.not_eq_true'] at hp;intro pj s O H Q I q;obtain ⟨r,F,t,e,ht,q⟩:=q;have ht:(r[i]?).join=some t:=ht;have ht':r[i]?=some (some t):=by
  cases h:r[i]? with
  | none=>rw [h] at ht;cases ht
  | some o=>rw [h] at ht;cases o with
   | none=>cases ht
   | some z=>cases ht;rfl
 obtain ⟨j,v,h1,h2,h3⟩:=e.get x i t hpn hi hv ht';exact zfg h1 (gd.vis x hv) hp.1.1.1 hp.1.1.2 pj s O H Q I ⟨v,h2,q v F H (Step.refl e.fh) h3⟩
theorem zwf (gd:Gd X c G k) {x:Str} (hp:zac x=true) (hg:glB c.sc x=true):Oke X c (.Name x pos) (fun _=>G.con x):=by simp only [zac,Bool.and_eq_true,Bool.not_eq_true'] at hp;intro pj s O H Q I q;obtain ⟨r,F,t,e,ht,q⟩:=q;obtain ⟨u,v,h1,h2,h3⟩:=gd.con x t ht;exact zs3 (gd.gl x hg) h1 h2 hp.1.1.1 pj s O H Q I (q v F H (Step.refl e.fh) (h3 F))
theorem zwa (ha:Oke X c a f):Oke X c (.UnaryOp .Not a pos) (fun r=>(f r).bind fun x=>match x with | .bl b=>some (.bl (!b)) | _=>none):=by
 refine za0 (zvt ha) fun O H Q q=>?_;obtain ⟨r,F,t,e,ht,q⟩:=q;obtain ⟨t1,e1,ht⟩:=obs ht;cases t1 with
 | bl b=>cases ht;exact ⟨r,F,_,e,e1,fun v F' H' s1 r1=>by cases r1;exact ⟨b,rfl,q _ F' H' s1 rfl⟩⟩
 | _=>cases ht
theorem zwb (ha:Oke X c a f):Oke X c (.UnaryOp .USub a pos) (fun r=>(f r).bind fun x=>match x with | .int i=>some (.int (-i)) | _=>none):=by
 refine za0 (zyn zup ha) fun O H Q q=>?_;obtain ⟨r,F,t,e,ht,q⟩:=q;obtain ⟨t1,e1,ht⟩:=obs ht;cases t1 with
 | int b=>cases ht;exact ⟨r,F,_,e,e1,fun v F' H' s1 r1=>by cases r1;exact ⟨b,rfl,q _ F' H' s1 rfl⟩⟩
 | _=>cases ht
theorem zwk (ha:Oke X c a f) (hb:Oke X c (.BoolOp .And (b::rest) pos) g):Oke X c (.BoolOp .And (a::b::rest) pos) (fun r=>(f r).bind fun x=>match x with | .bl true=>g r | .bl false=>some (.bl false) | _=>none):=by
 refine za0 (zvw ha hb) fun O H Q q=>?_;obtain ⟨r,F,t,e,ht,q⟩:=q;obtain ⟨t1,e1,ht⟩:=obs ht;cases t1 with
 | bl d =>
  refine ⟨r,F,_,e,e1,fun v F' H' s1 r1=>?_⟩;cases r1;cases d with
  | true=>exact ⟨true,rfl,yfp ⟨r,F',t,e.step s1,ht,fun v2 F2 H2 s2 r2=>q v2 F2 H2 (s1.trans s2) r2⟩⟩
  | false=>cases ht;exact ⟨false,rfl,yff (q _ F' H' s1 rfl)⟩
 | _=>cases ht
theorem zyv (ha:Oke X c a f) (hb:Oke X c (.BoolOp .Or (b::rest) pos) g):Oke X c (.BoolOp .Or (a::b::rest) pos) (fun r=>(f r).bind fun x=>match x with | .bl true=>some (.bl true) | .bl false=>g r | _=>none):=by
 refine za0 (zyo ha hb) fun O H Q q=>?_;obtain ⟨r,F,t,e,ht,q⟩:=q;obtain ⟨t1,e1,ht⟩:=obs ht;cases t1 with
 | bl d =>
  refine ⟨r,F,_,e,e1,fun v F' H' s1 r1=>?_⟩;cases r1;cases d with
  | true=>cases ht;exact ⟨true,rfl,yfp (q _ F' H' s1 rfl)⟩
  | false=>exact ⟨false,rfl,yff ⟨r,F',t,e.step s1,ht,fun v2 F2 H2 s2 r2=>q v2 F2 H2 (s1.trans s2) r2⟩⟩
 | _=>cases ht
abbrev Okw (X:Cx) (c:Tc) (e:Expr) (f:Env->Option T):Prop:=PW X e (spB X c f)
theorem zur (ha:Okt X c a f) (hb:Okw X c (.BoolOp .And (b::rest) pos) g):Okw X c (.BoolOp .And (a::b::rest) pos) (fun r=>(f r).bind fun x=>match x with | .bl true=>g r | .bl false=>some (.bl false) | _=>none):=by
 refine zlw (zvg ha hb) fun O H Q q=>?_;obtain ⟨r,F,k,e,ht,q⟩:=q;obtain ⟨t1,e1,ht⟩:=obs ht;cases t1 with
 | bl d =>
  refine ⟨r,F,d,e,e1,fun F' H' s1=>?_⟩;cases d with
  | true=>exact yfp ⟨r,F',k,e.step s1,ht,fun F2 H2 s2=>q F2 H2 (s1.trans s2)⟩
  | false=>cases ht;exact yff (q F' H' s1)
 | _=>cases ht
theorem zyb (ha:Okt X c a f) (hb:Okw X c (.BoolOp .Or (b::rest) pos) g):Okw X c (.BoolOp .Or (a::b::rest) pos) (fun r=>(f r).bind fun x=>match x with | .bl true=>some (.bl true) | .bl false=>g r | _=>none):=by
 refine zlw (zyl ha hb) fun O H Q q=>?_;obtain ⟨r,F,k,e,ht,q⟩:=q;obtain ⟨t1,e1,ht⟩:=obs ht;cases t1 with
 | bl d =>
  refine ⟨r,F,d,e,e1,fun F' H' s1=>?_⟩;cases d with
  | true=>cases ht;exact yfp (q F' H' s1)
  | false=>exact yff ⟨r,F',k,e.step s1,ht,fun F2 H2 s2=>q F2 H2 (s1.trans s2)⟩
 | _=>cases ht
theorem zyd (ha:Okt X c a f):Okt X c (.UnaryOp .Not a pos) (fun r=>(f r).bind fun x=>match x with | .bl b=>some (.bl (!b)) | _=>none):=by
 refine zhz (zvk ha) fun O H Q q=>?_;obtain ⟨r,F,k,e,ht,q⟩:=q;obtain ⟨t1,e1,ht⟩:=obs ht;cases t1 with
 | bl d =>refine ⟨r,F,d,e,e1,fun F' H' s1=>?_⟩;cases ht;exact q F' H' s1
 | _=>cases ht
theorem zry {F H:Hp} {t:T} {v:V} {b:Bool} (fh:Same F H) (r:Rep K F t v) (h:yc3 t=some b):yge K v H b:=by
 cases t with
 | non=>cases r;cases h;rfl
 | bl _=>cases r;cases h;rfl
 | int _=>cases r;cases h;rfl
 | str _=>cases h
 | tup ts =>obtain ⟨p,vs,rfl,h1,h2⟩:=r;cases h;refine .inr (.inl ⟨vs,zai fh h1,?_⟩);have e:=h2.length;cases vs<;>cases ts<;>first | rfl | simp at e
 | lst ts =>obtain ⟨p,vs,rfl,h1,h2⟩:=r;cases h;refine .inl ⟨vs,(Ls.same fh h1).sq,?_⟩;have e:=h2.length;cases vs<;>cases ts<;>first | rfl | simp at e
 | dk _ _=>cases h
 | dt _ _=>cases h
theorem zyc (ha:Oke X c a f) (he:∀ whole,isTrue a X.env whole=(do let v <- whole;standAt a.pos;holding [v] (truthy v))):Okt X c a (fun r=>(f r).bind fun x=>(yc3 x).map .bl):=by refine zhz (zpg ha he) fun O H Q q=>?_;obtain ⟨r,F,k,e,ht,q⟩:=q;obtain ⟨t1,e1,ht⟩:=obs ht;obtain ⟨b,e2,h2⟩:=oms ht;cases h2;exact ⟨r,F,t1,e,e1,fun v F' H' s1 r1=>⟨k,zry s1.fh r1 e2,q F' H' s1⟩⟩
theorem zh1 {t t':TA} (h:PA X es t) (m:∀ O H Q,t' O H Q->t O H Q):PA X es t':=fun p pj s O H Q I q=>h p pj s O H Q I (m O H Q q)
theorem zq9:PA X [] (spL X c fun _=>some []):=by refine zh1 zje fun O H Q q=>?_;obtain ⟨r,F,ts,e,ht,q⟩:=q;cases ht;exact q [] F H (Step.refl e.fh) rfl
theorem zh3 {g:Env->Option (List T)} (ha:Oke X c a f) (hr:PA X es (spL X c g)) (hs:starEach (a::es) X.env=(false,eval a X.env)::starEach es X.env):PA X (a::es) (spL X c fun r=>(f r).bind fun x=>(g r).bind fun xs=>some (x::xs)):=by refine zh1 (zer ha hr hs) fun O H Q q=>?_;obtain ⟨r,F,ts,e,ht,q⟩:=q;obtain ⟨t1,e1,ht⟩:=obs ht;obtain ⟨t2,e2,ht⟩:=obs ht;cases ht;exact ⟨r,F,t1,e,e1,fun v1 F1 H1 s1 r1=>⟨r,F1,t2,e.step s1,e2,fun vs F2 H2 s2 r2=>q _ F2 H2 (s1.trans s2) ⟨v1,vs,rfl,r1.mono s2.ff,r2⟩⟩⟩
theorem zv8 {g:Env->Option (List T)} (h:PA X es (spL X c g)) (hl:∀ r ts,g r=some ts->ts.length=n):Oke X c (.Tuple es k pos) (fun r=>if n<=1000 then (g r).map .tup else none):=by
 refine za0 (zvp h) fun O H Q q=>?_;obtain ⟨r,F,t,e,ht,q⟩:=q;split at ht
 .rename_i hn;obtain ⟨ts,e1,rfl⟩:=oms ht;refine ⟨r,F,ts,e,e1,fun vs F' H' s1 r1=>⟨by rw [r1.length,hl r ts e1];exact Nat.le_of_lt (zgs hn),fun p hp=>?_⟩⟩;have st:=s1.new (o:=.tup vs) hp;exact q _ _ _ st ⟨p,vs,rfl,zah,r1.mono (zbi (s1.fh.free hp))⟩
 .cases ht
def spN (X:Cx) (c:Tc) (f:Env->Option T):TE:=fun O H Q=>∃ r F ts,EnvE X c r F O H/\f r=some (.lst ts)/\∀ p vs F' H1,Step F H F' H1->H1 p=none->Reps X.K F' ts vs->Q (.ref p) (upd H1 p (.lst vs))
theorem zl9 {g:Env->Option (List T)} (h:PA X es (spL X c g)) (hl:∀ r ts,g r=some ts->ts.length=n):PE X (.List es pos) (spN X c (fun r=>if n<=1000 then (g r).map .lst else none)):=by
 refine za0 (zq7 h) fun O H Q q=>?_;obtain ⟨r,F,t,e,ht,q⟩:=q;split at ht
 .rename_i hn;obtain ⟨ts,e1,e2⟩:=oms ht;cases e2;exact ⟨r,F,t,e,e1,fun vs F' H' s1 r1=>⟨by rw [r1.length,hl r t e1];exact Nat.le_of_lt (zgs hn),fun p hp=>q p vs F' H' s1 hp r1⟩⟩
 .cases ht
theorem zwc {g:Env->Option (List T)} (h:PA X es (spL X c g)) (hl:∀ r ts,g r=some ts->ts.length=n):Oke X c (.List es pos) (fun r=>if n<=1000 then (g r).map .lst else none):=by
 refine za0 (zl9 h hl) fun O H Q q=>?_;obtain ⟨r,F,t,e,ht,q⟩:=q;have ht':=ht;split at ht
 .obtain ⟨ts,e1,rfl⟩:=oms ht;refine ⟨r,F,ts,e,ht',fun p vs F' H' s1 hp r1=>?_⟩;exact q _ _ _ (s1.new hp) ⟨p,vs,rfl,Ls.of zah,r1.mono (zbi (s1.fh.free hp))⟩
 .cases ht
theorem ztj (gd:Gd X c G k) {f:Str} {g:Env->Option (List T)} {p:Pos} (hg:glB c.sc f=true) (hp:zac f=true) (h:PA X (a::es) (spL X c g)) (he:starEach (a::es) X.env=(false,eval a X.env)::starEach es X.env)
  (hpl:(backTo pos (starEach es X.env)).any (·.1)=false):Oke X c (.Call (.Name f p) (a::es) [] pos) (fun r=>(g r).bind fun xs=>G.call f xs):=by
 simp only [zac,Bool.and_eq_true,Bool.not_eq_true'] at hp;intro pj s O H Q I q;obtain ⟨r,F,t,e,ht,q⟩:=q;obtain ⟨ts,e1,ht⟩:=obs ht;obtain ⟨ad,fd,ps,h1,h2,h3,h4⟩:=gd.call f ts t (by rw [ycz,hp.2.2.1,hp.2.2.2];rfl) ht;refine zs5 h1 gd.room (gd.gl f hg) h2 h3 h4 .nil yfq h hp.1.1.1 he hpl pj s O H Q I ?_;refine ⟨r,F,ts,e,e1,fun vs F' H' s1 r1=>?_⟩;show spT X.K (G.call f) (vs++[]) H' Q E0;rw [zzu];exact ⟨F',ts,t,s1.fh,e.tb.up s1,r1,ht,fun v F2 H2 s2 r2=>q v F2 H2 (s1.trans s2) r2⟩
end
end
end Ev
namespace L2
open PySem
section
variable {l:Addr} {items:Array Value} {Q:Value->Shared->Prop}
open AutoSeq1 (wpAny_loadPart')
section
variable {prog:Program} {w:World} {A:Around} {E:Value->Shared->Prop} {s:Shared}
theorem zdu {it:Addr} {i:Nat} {x:Value} (hit:s.heap.IsTupleIter it l i)
  (hl:s.heap.IsTuple l items) (hx:items[i]?=some x)
  (hQ:∀ h',h'.IsTupleIter it l (i+1)->Heap.SameBut it s.heap h'->Q x { s with heap:=h' }) :
  wpAny (model prog w) A (Builtin.SmallTypes.nextOf (.ref it)) Q E s:=by
 obtain ⟨o,ho,hc,hd⟩:=id hit;obtain ⟨ol,hol,_,nl,hdl⟩:=hl;unfold Builtin.SmallTypes.nextOf;refine zzg (zAl (name:=Str.ofString "__next__") hit.typeIs F.slot_tuple_iterator_next
  (zAc F.slot_tuple_iterator_next hit.typeIs F.entry_tuple_iterator_next ?_ (F.args_tuple_iterator_next_1 _)))
 show wpAny _ _ (field (.ref it) 0 >>= _) _ _ s;refine zzg (ub4 ho hd (x:=.ref l) rfl ?_);show wpAny _ _ (if (Value.ref l==Value.none)=true then _ else _) _ _ s;rw [if_neg (show ¬ ((Value.ref l==Value.none)=true) from zzx)];show wpAny _ _ (field (.ref it) 1 >>= _) _ _ s;refine zzg (ub4 ho hd (x:=.int i 0) rfl ?_);show wpAny _ _ (seqItems? (.ref l) >>= _) _ _ s;refine zzg (ud2 hol hdl ?_);simp only [Int.toNat_natCast,hx];refine wpAny_bind (wpAny_setField ho hd (by simp) (wpAny_pure ⟨x,rfl,wpAny_pure (hQ _ ?_ (ub3 ..))⟩));exact ⟨_,Heap.get?_update_self _ ho (Obj.isFreed_of_fields (ud7 hd _)),(Obj.cls_mapFields ..).trans hc,by rw [ud7 hd];simp [rawInt]⟩
theorem zd6 {it:Addr} {i:Nat} (hh:A.handled=none)
  (hit:s.heap.IsTupleIter it l i) (hl:s.heap.IsTuple l items) (hx:items[i]?=none)
  (hE:∀ h' e,Heap.ExtBut it s.heap h'->(∃ o,h'.get? e=some o/\o.cls=.type "StopIteration")->E (.ref e) { s with heap:=h' }) :
  wpAny (model prog w) A (Builtin.SmallTypes.nextOf (.ref it)) Q E s:=by
 obtain ⟨o,ho,hc,hd⟩:=id hit;obtain ⟨ol,hol,_,nl,hdl⟩:=hl;unfold Builtin.SmallTypes.nextOf;refine zzg (zAl (name:=Str.ofString "__next__") hit.typeIs F.slot_tuple_iterator_next
  (zAc F.slot_tuple_iterator_next hit.typeIs F.entry_tuple_iterator_next ?_ (F.args_tuple_iterator_next_1 _)))
 show wpAny _ _ (field (.ref it) 0 >>= _) _ _ s;refine zzg (ub4 ho hd (x:=.ref l) rfl ?_);show wpAny _ _ (if (Value.ref l==Value.none)=true then _ else _) _ _ s;rw [if_neg (show ¬ ((Value.ref l==Value.none)=true) from zzx)];show wpAny _ _ (field (.ref it) 1 >>= _) _ _ s;refine zzg (ub4 ho hd (x:=.int i 0) rfl ?_);show wpAny _ _ (seqItems? (.ref l) >>= _) _ _ s;refine zzg (ud2 hol hdl ?_);simp only [Int.toNat_natCast,hx]
 first
  | refine wpAny_bind (wpAny_rule (wpAny_bind (wpAny_setField ho hd (by simp) (wpAny_bind (wpAny_letGo ?_)))))
  | refine wpAny_bind (wpAny_rule (wpAny_bind (wpAny_setField ho hd (by simp) ?_)))
 show wpAny _ _ (newExc (.type "StopIteration") [] >>= _) _ _ _;refine zzg ?_;simp only [newExc,newTuple];refine zzg (zAi ?_ (by size_fits));refine wpAny_bind (m:=firstArgMember _ _) (wpAny_of_eq (a:=Value.none) (by first | rfl | (simp only [firstArgMember];rfl)) ?_);refine zAi ?_ (by size_fits);simp only [raiseNew];refine zzg (wpAny_handled ?_)
 first | rw [show A.in1.handled=none from hh] | rw [hh]
 refine zzg (zzl (wpAny_throw ?_));exact hE _ _ (((ub3 ..).extBut.push _).push _) ⟨_,zzp _ rfl,rfl⟩
end
theorem zc7 {prog:Program} {w:World} {A:Around} (hh:A.handled=none) (it l:Addr) (hne:l≠it) (items:Array Value) :
  Draws prog w A it [it,l] items.size (fun i v=>items[i]?=some v) (fun i h=>h.IsTupleIter it l i/\h.IsTuple l items) where
 live:=fun _ _ st=>let ⟨o,ho,_⟩:=st.1;⟨o,ho⟩
 frame:=fun _ _ _ st hk=>⟨let ⟨o,ho,r⟩:=st.1;⟨o,hk it (by simp) o ho,r⟩,let ⟨o,ho,r⟩:=st.2;⟨o,hk l (by simp) o ho,r⟩⟩
 item:=fun i s Q E hi st hQ=>by refine zdu st.1 st.2 (x:=items[i]) (by simp [hi]) fun h' hit' hs'=>?_;exact hQ _ h' s.toks (by simp [hi]) ⟨hit',let ⟨o,ho,r⟩:=st.2;⟨o,hs'.extBut l o hne ho,r⟩⟩ hs'
 done:=fun s Q E st hE=>zd6 hh st.1 st.2 (by simp) hE
theorem zet (l:Addr) (items:Array Value) (n:Nat) (dct:Option Addr) (sl:Array (Option Value)) :
  Meets (Builtin.«enumerate.__new__» ⟨[.type "enumerate",.ref l],[]⟩) (fun _ R s=>s.heap.get? l=some { cls:=.type "tuple",dict:=dct,data:=.seq items n,slots:=sl } /\
   R (.ok (.ret (.ref (s.heap.push { cls:=.type "tuple_iterator",data:=.fields #[.ref l,.int 0 0] }).objs.size)))
    { s with heap:=(s.heap.push { cls:=.type "tuple_iterator",data:=.fields #[.ref l,.int 0 0] }).push { cls:=.type "enumerate",data:=.fields #[.none,.bool false,.ref s.heap.objs.size,rawInt 0,.none,.none] } }) :=
 .of_wp fun prog w A R s h=>by
  obtain ⟨hp,g,d,tk,os⟩:=s;obtain ⟨hl,h⟩:=h;have hsub:=sub_enumerate;have hL:Heap.IsTuple (Shared.heap ⟨hp,g,d,tk,os⟩) l items:=⟨_,hl,rfl,n,rfl⟩
  wp_walk using wpAny_loadPart' hl
  refine wpAny_stack_any fun st=>zzl ?_;split
  .rename_i c _ _ _ _ _;cases (c==Value.type "enumerate")
   .wp_walk using wpAny_loadPart' hl,ub8 hL
    exact ⟨_,rfl,h⟩
   .wp_walk using wpAny_loadPart' hl,ub8 hL
    exact ⟨_,rfl,h⟩
  .wp_walk using wpAny_loadPart' hl,ub8 hL
   exact ⟨_,rfl,h⟩
section
variable {prog:Program} {w:World} {A:Around} {E:Value->Shared->Prop} {s:Shared}
theorem ze3 (hL:s.heap.IsTuple l items)
  (h:∀ h',IsEnum h' (s.heap.objs.size+1) s.heap.objs.size 0 .none->h'.IsTupleIter s.heap.objs.size l 0->h'.objs.size=s.heap.objs.size+2 ->
   (∀ b o,s.heap.get? b=some o->h'.get? b=some o)->Q (.ref (s.heap.objs.size+1)) { s with heap:=h' }) :
  wpAny (model prog w) A (call (.type "enumerate") [.ref l]) Q E s:=by
 obtain ⟨⟨c,dct,dt,sl⟩,hl,hc,n,hd⟩:=hL;replace hc:c=.type "tuple":=hc;replace hd:dt=.seq items n:=hd;subst hc hd;refine callType_new F.called_enumerate (by decide) (F.typeCall_enumerate_1 _) (F.newCall_enumerate_1 _) (fun obj=>F.args_object_init_2 obj _) F.entry_enumerate_new
  (zet l items n dct sl) ⟨hl,?_⟩
 have hz:(s.heap.push { cls:=.type "tuple_iterator",data:=.fields #[.ref l,.int 0 0] }).objs.size=s.heap.objs.size+1:=zz3 ..;show _/\_;rw [hz];have he:IsEnum ((s.heap.push { cls:=.type "tuple_iterator",data:=.fields #[.ref l,.int 0 0] }).push
   { cls:=.type "enumerate",data:=.fields #[.none,.bool false,.ref s.heap.objs.size,rawInt 0,.none,.none] }) (s.heap.objs.size+1) s.heap.objs.size 0 .none:=by
  have:=zzp (s.heap.push { cls:=.type "tuple_iterator",data:=.fields #[.ref l,.int 0 0] })
   (o:={ cls:=.type "enumerate",data:=.fields #[.none,.bool false,.ref s.heap.objs.size,rawInt 0,.none,.none] }) rfl
  rw [hz] at this;exact this
 refine ⟨⟨_,he,rfl⟩,h _ he ⟨_,zzf _ (zzp _ rfl),rfl,rfl⟩ (by rw [zz3,hz]) fun b o x=>zzf _ (zzf _ x)⟩
end
end
section
open PySem Spec PyProof.Rows
theorem zc1 {env:PySem.Env}:∀ (names:List (Str × NameKind)) (x:Str),
  (names.map fun (n,k)=>if (k==NameKind.free&&env.scope.kind==.function&&env.kindOf n==some .cell) then (n,NameKind.cell) else (n,k)).lookup x =
   (match names.lookup x with | some .free=>if (env.scope.kind==.function&&env.kindOf x==some .cell) then some .cell else some .free | o=>o)
 | [],_=>rfl
 | (n,k)::r,x=>by
  rw [zzi];cases hx:x==n with
  | false =>
   have e:∀ k',List.lookup x ((n,k')::(r.map fun (n,k)=>if (k==NameKind.free&&env.scope.kind==.function&&env.kindOf n==some .cell) then (n,NameKind.cell) else (n,k)))=List.lookup x (r.map fun (n,k)=>if (k==NameKind.free&&env.scope.kind==.function&&env.kindOf n==some .cell) then (n,NameKind.cell) else (n,k)):=fun k'=>by rw [zAj,hx]
   have e2:List.lookup x ((n,k)::r)=List.lookup x r:=by rw [zAj,hx]
   rw [e2,<- zc1 r x];show List.lookup x ((if (k==NameKind.free&&env.scope.kind==.function&&env.kindOf n==some .cell)=true then (n,NameKind.cell) else (n,k))::_)=_;by_cases hc:(k==NameKind.free&&env.scope.kind==.function&&env.kindOf n==some .cell)=true
   .rw [if_pos hc];exact e _
   .rw [if_neg hc];exact e _
  | true =>
   have en:x=n:=ue5.mp hx;subst en;have e2:List.lookup x ((x,k)::r)=some k:=by rw [zAj,ua9]
   rw [e2];have e:∀ k',List.lookup x ((x,k')::(r.map fun (n,k)=>if (k==NameKind.free&&env.scope.kind==.function&&env.kindOf n==some .cell) then (n,NameKind.cell) else (n,k)))=some k':=fun k'=>by rw [zAj,ua9]
   cases k<;>simp only [beq_self_eq_true,Bool.true_and,Bool.false_and,Bool.false_eq_true,if_false,show (NameKind.local==NameKind.free)=false from rfl,show (NameKind.cell==NameKind.free)=false from rfl,show (NameKind.globalExplicit==NameKind.free)=false from rfl,show (NameKind.globalImplicit==NameKind.free)=false from rfl]<;>first | exact e _ | (split<;>exact e _)
def ycb (sc:Scope) (N:List Str):List Str:=N.filter fun y=>sc.names.lookup y==some .free
def yb9 (sc:Scope):List Str->St->St
 | x::N,o::O=>if sc.names.lookup x==some .free then o::yb9 sc N O else yb9 sc N O
 | _,_=>[]
theorem zj6 (sc:Scope):∀ (N:List Str) (O:St),O.length=N.length->(yb9 sc N O).length=(ycb sc N).length
 | [],[],_=>rfl
 | [],_::_,h=>by simp at h
 | _::_,[],h=>by simp at h
 | x::N,o::O,h=>by
  unfold yb9 ycb;rw [ub0];have ih:=zj6 sc N O (by simpa using h);unfold ycb at ih;split
  .simp [ih]
  .exact ih
theorem zn2 (sc:Scope) {x:Str} (hx:sc.names.lookup x=some .free):∀ (N:List Str) (O:St),O.length=N.length->∀ {j:Nat} {v:V},N[j]?=some x->O[j]?=some (some v)->∃ (i:Nat),(ycb sc N)[i]?=some x/\(yb9 sc N O)[i]?=some (some v)
 | [],[],_,j,v,h1,h2=>by simp at h1
 | [],_::_,h,_,_,_,_=>by simp at h
 | _::_,[],h,_,_,_,_=>by simp at h
 | y::N,o::O,h,0,v,h1,h2=>by
  simp at h1 h2;subst h1 h2;refine ⟨0,?_,?_⟩
  .unfold ycb;rw [ub0,if_pos (by rw [hx];rfl)];rfl
  .unfold yb9;rw [if_pos (by rw [hx];rfl)];rfl
 | y::N,o::O,h,j+1,v,h1,h2=>by
  obtain ⟨i,h3,h4⟩:=zn2 sc hx N O (by simpa using h) (j:=j) (v:=v) (by simpa using h1) (by simpa using h2);unfold ycb at h3 ⊢;rw [ub0];unfold yb9;split
  .exact ⟨i+1,by simpa using h3,by simpa using h4⟩
  .exact ⟨i,h3,h4⟩
theorem zn1 (sc:Scope):∀ (N:List Str) (O:St) {i:Nat} {x:Str} {v:V},(ycb sc N)[i]?=some x->(yb9 sc N O)[i]?=some (some v)->O.length=N.length->sc.names.lookup x=some .free/\∃ (j:Nat),N[j]?=some x/\O[j]?=some (some v)
 | [],_,i,x,v,h1,_,_=>by unfold ycb at h1;simp at h1
 | _::_,[],_,_,_,_,_,h=>by simp at h
 | y::N,o::O,i,x,v,h1,h2,h=>by
  unfold ycb at h1;rw [ub0] at h1;unfold yb9 at h2;by_cases hy:(sc.names.lookup y==some .free)=true
  .rw [if_pos hy] at h1 h2;cases i with
   | zero =>simp at h1 h2;subst h1 h2;exact ⟨by simpa using hy,0,rfl,rfl⟩
   | succ i =>obtain ⟨h3,j,h4,h5⟩:=zn1 sc N O (i:=i) (by simpa [ycb] using h1) (by simpa using h2) (by simpa using h);exact ⟨h3,j+1,by simpa using h4,by simpa using h5⟩
  .rw [if_neg hy] at h1 h2;obtain ⟨h3,j,h4,h5⟩:=zn1 sc N O (i:=i) (by simpa [ycb] using h1) h2 (by simpa using h);exact ⟨h3,j+1,by simpa using h4,by simpa using h5⟩
def blk (X:Cx) (pj:List (Addr × Obj)) (scope:Scope) (xs:List Str) (fp:List Addr) (qz:Shared) (qy:Hp):Cx where
 prog:=X.prog
 w:=X.w
 K:=X.K
 mg:=X.mg
 base:=X.base
 A:=X.A
 N:=xs++ycb scope X.N
 s₀:=qz
 H₀:=qy
 env:={ scope:=relabel scope X.env,locals:=qz.heap.objs.size,globals:=X.env.globals,cells:=cellsFrom (qz.heap.objs.size+1) scope.names (za2 X.env scope.names []),qual:=X.env.qual,func:=none,code:=X.env.code,frame:=X.env.frame,builtins:=X.env.builtins }
 outer:=X.stack
 stack:=X.stack
 ex:=fp
 fn:=fun x=>scope.names.lookup x==some .cell
 calm:=X.calm
 pn:=X.pn++pj
 xe:=fun _ _=>False
structure CompSc (X:Cx) (scope:Scope) (xs:List Str):Prop where
 kind:scope.kind=.function
 nd:xs.Nodup
 own:∀ x∈xs,scope.names.lookup x=some .local\/scope.names.lookup x=some .cell
 free:∀ y∈scope.names,y.2=.free->scope.names.lookup y.1=some .free/\(X.env.kindOf y.1=some .cell\/X.env.kindOf y.1=some .free)
 loc:∀ y∈scope.names,y.2=.local->scope.names.lookup y.1=some .local
 cel:∀ y∈scope.names,y.2=.cell->scope.names.lookup y.1=some .cell
section
variable {X:Cx} {pj:List (Addr × Obj)} {scope:Scope} {xs:List Str} {fp:List Addr} {qz:Shared} {qy:Hp} {O:St}
theorem CompSc.has (S:CompSc X scope xs) (ok:X.Ok):∀ y∈scope.names,y.2=.free->∃ c,X.env.cells.lookup y.1=some c:=fun y hy hf=>ok.has y.1 (S.free y hy hf).2
theorem zcl (scope:Scope) (X:Cx) (pj:List (Addr × Obj)) (xs:List Str) (fp:List Addr) (qz:Shared) (qy:Hp) (x:Str):(blk X pj scope xs fp qz qy).env.scope.names.lookup x =
  (match scope.names.lookup x with | some .free=>if (X.env.scope.kind==.function&&X.env.kindOf x==some .cell) then some .cell else some .free | o=>o):=zc1 scope.names x
theorem zcy (S:CompSc X scope xs) (ok:X.Ok) {x:Str} {c:Addr} (h:(blk X pj scope xs fp qz qy).env.cells.lookup x=some c) :
  (qz.heap.objs.size+1<=c/\(x,c)∈cellsFrom (qz.heap.objs.size+1) scope.names []/\(x,NameKind.cell)∈scope.names)\/((cellsFrom (qz.heap.objs.size+1) scope.names []).lookup x=none/\X.env.cells.lookup x=some c):=by
 rcases yc7 h with h | ⟨h1,h2⟩
 .obtain ⟨h1,h2⟩:=zdp scope.names _ h;exact .inl ⟨h1,h,h2⟩
 .exact .inr ⟨h1,zeh scope.names [] (fun _ _ e=>by cases e) (S.has ok) x c h2⟩
theorem zb2 {l:List (Str × NameKind)} {x:Str} {k:NameKind} (h:l.lookup x=some k):(x,k)∈l:=PySem.mem_of_lookup h
theorem zrq (S:CompSc X scope xs) (I:Inv X pj O qy qz) (ff:∀ b∈fp,ycf X pj qy b) (fl:∀ b∈fp,b<qz.heap.objs.size):(blk X pj scope xs fp qz qy).Ok where
 mod:=I.ok.mod
 kind:=S.kind
 glob:=I.ok.glob
 blt:=I.ok.blt
 above:=zzw _
 inj:=fun x y c h1 h2=>by
  have up:∀ {z:Str} {c:Addr},X.env.cells.lookup z=some c->c<qz.heap.objs.size:=fun {z c} h=>by obtain ⟨v,q⟩:=I.cell z c h;exact q.lt
  rcases zcy S I.ok h1 with ⟨a1,a2,_⟩ | ⟨_,a2⟩<;>rcases zcy S I.ok h2 with ⟨b1,b2,_⟩ | ⟨_,b2⟩
  .have ok:=cellsFrom_ok scope.names (qz.heap.push { cls:=.type "dict",data:=.dict #[] }) (qz.heap.objs.size+1) [] ⟨fun _ _ hm=>(nomatch hm),List.Pairwise.nil⟩ (by rw [zz3];exact zzw _);rw [zz3] at ok;exact name_of_addr ok.apart a2 b2
  .exact absurd (zz1 (up b2) (Nat.le_of_succ_le a1)) (zAp _)
  .exact absurd (zz1 (up a2) (Nat.le_of_succ_le b1)) (zAp _)
  .exact I.ok.inj x y c a2 b2
 has:=fun x h=>by
  have h':(blk X pj scope xs fp qz qy).env.scope.names.lookup x=some .cell\/(blk X pj scope xs fp qz qy).env.scope.names.lookup x=some .free:=h;rw [zcl] at h';have key:(x,NameKind.cell)∈scope.names\/(x,NameKind.free)∈scope.names:=by
   cases e:scope.names.lookup x with
   | none=>rw [e] at h';rcases h' with h' | h'<;>cases h'
   | some k =>
    rw [e] at h';cases k with
    | cell=>exact .inl (zb2 e)
    | free=>exact .inr (zb2 e)
    | _=>rcases h' with h' | h'<;>cases h'
  refine Option.isSome_iff_exists.mp (zdq scope.names _ _ ?_);rcases key with k | k
  .exact .inl k
  .exact .inr (zei scope.names [] (.inl k))
 cab:=fun x c hf h=>by
  have hf':scope.names.lookup x=some .cell:=by simpa [blk] using hf
  have hs:=zdq (x:=x) scope.names (qz.heap.objs.size+1) [] (.inl (zb2 hf'));rcases zcy S I.ok h with ⟨a1,_⟩ | ⟨a1,_⟩
  .exact Nat.le_of_lt (zz1 (Nat.lt_succ_self _) a1)
  .rw [a1] at hs;cases hs
 hd:=I.ok.hd
 frames:=I.ok.frames
 stk:=.inl rfl
 exf:=fun b hb=>⟨zz5 (fl b hb),fun x c h=>by
  rcases zcy S I.ok h with ⟨a1,_⟩ | ⟨_,a2⟩
  .exact fun z=>by have h1:=fl b hb;rw [<- z] at h1;exact absurd (zz1 h1 (Nat.le_of_succ_le a1)) (zAp _)
  .exact (ff b hb).2.2.2.2.1 x c a2⟩
 bs:=I.bs
 bsz:=zz8 I.ok.bsz I.sz
 noex:=fun b o e hb=>by
  obtain ⟨_,_,_,h4,_⟩:=ff b hb;rcases h4 with h4 | h4
  .exact I.ok.noex b o e h4
  .exact absurd (zz1 (zzv (I.ok.bs b o e).1) h4) (zAp _)
 exfs:=fun b hb hf=>by
  rcases omc (I.stkSub b hf) with z | z
  .exact (ff b hb).2.1 z
  .exact (ff b hb).2.2.1 z
 funs:=I.stack
 frf:=I.stkFree
def ye2 (scope:Scope) (xs:List Str) (N:List Str) (O:St):St:=List.replicate xs.length none++yb9 scope N O
theorem zn3 (S:CompSc X scope xs) (I:Inv X pj O qy qz) (ff:∀ b∈fp,ycf X pj qy b) (fl:∀ b∈fp,b<qz.heap.objs.size) :
  Inv (blk X pj scope xs fp qz qy) [] (ye2 scope xs X.N O) qy { qz with heap:=pushCells (qz.heap.push { cls:=.type "dict",data:=.dict #[] }) scope.names }:=by
 have keep:∀ b o,qz.heap.get? b=some o->(pushCells (qz.heap.push { cls:=.type "dict",data:=.dict #[] }) scope.names).get? b=some o:=fun b o e=>pushCells_keeps _ _ b o (zzf _ e);have cok:=cellsFrom_ok scope.names (qz.heap.push { cls:=.type "dict",data:=.dict #[] }) (qz.heap.objs.size+1) [] ⟨fun _ _ hm=>(nomatch hm),List.Pairwise.nil⟩ (by rw [zz3];exact zzw _);rw [zz3] at cok;have hlen:O.length=X.N.length:=I.len;refine ⟨zrq S I ff fl,rfl,I.bare,Un.kept keep,⟨fun _=>none,(Heap.Ns.new qz.heap (.type "dict")).keeps (pushCells_keeps _ _),fun i x v e1 e2 e3=>?_⟩,fun x c h=>?_,I.fresh,fun x c h=>?_,fun p hp=>?_,I.hok.kept keep,?_⟩
 .have hi:xs.length<=i:=by refine Nat.le_of_not_lt fun hlt=>?_;unfold ye2 at e2;rw [uc5 (by simpa using hlt),List.getElem?_replicate] at e2;split at e2<;>cases e2
  have e1':(ycb scope X.N)[i-xs.length]?=some x:=by have e1:(xs++ycb scope X.N)[i]?=some x:=e1;rw [zAq hi] at e1;exact e1
  have e2':(yb9 scope X.N O)[i-xs.length]?=some (some v):=by unfold ye2 at e2;rw [uc4 (by simpa using hi)] at e2;simpa using e2
  obtain ⟨hf,j,h1,h2⟩:=zn1 scope X.N O e1' e2' hlen;have hm:=zb2 hf;have hk:=(S.free _ hm rfl).2;obtain ⟨m,hn,hl⟩:=I.loc;obtain ⟨u,r,l⟩:=hl j x v h1 h2 (hk.elim (fun z=>.inr (.inl z)) fun z=>.inr (.inr z));refine ⟨u,r,?_⟩;rcases l with ⟨k,_⟩ | ⟨k,c,hc,z⟩
  .rcases hk with hk | hk<;>rw [hk] at k<;>cases k
  .refine .inr ⟨?_,c,?_,?_⟩
   .show (blk X pj scope xs fp qz qy).env.scope.names.lookup x=_\/(blk X pj scope xs fp qz qy).env.scope.names.lookup x=_;rw [zcl,hf];dsimp only;split
    .exact .inl rfl
    .exact .inr rfl
   .show (cellsFrom (qz.heap.objs.size+1) scope.names (za2 X.env scope.names [])).lookup x=some c;have e0:(cellsFrom (qz.heap.objs.size+1) scope.names []).lookup x=none:=by
     cases q:(cellsFrom (qz.heap.objs.size+1) scope.names []).lookup x with
     | none=>rfl
     | some d =>have:=S.cel _ (zdp scope.names _ (PySem.mem_of_lookup q)).2 rfl;rw [hf] at this;cases this
    rw [zcb,List.lookup_append,e0,yd6 (S.has I.ok) hm];exact hc
   .obtain ⟨o,ho,hd⟩:=z;exact ⟨o,keep c o ho,hd⟩
 .rcases zcy S I.ok h with ⟨_,a2,_⟩ | ⟨_,a2⟩
  .exact ⟨_,(cok.empty x c a2).1⟩
  .obtain ⟨v,o,ho,hd⟩:=I.cell x c a2;exact ⟨v,o,keep c o ho,hd⟩
 .rcases zcy S I.ok h with ⟨a1,_⟩ | ⟨_,a2⟩
  .exact I.hok.fresh (by omega)
  .exact I.freeC x c a2
 .have hp':p∈X.pn++pj:=by have hp:p∈(X.pn++pj)++[]:=hp;rw [zzu] at hp;exact hp
  obtain ⟨e,n,ne,nf,d⟩:=I.pin p hp';refine ⟨keep p.1 p.2 e,n,zz5 (zzv e),fun z=>?_,d⟩;rcases omc (I.stkSub p.1 z) with q | q
  .exact ne q
  .exact nf q
 .unfold ye2;show _=(xs++ycb scope X.N).length;rw [zzy,zzy,List.length_replicate,zj6 scope X.N O hlen]
theorem zqm {elt iter tg:Expr} {ifs:List Expr} {pos:Pos} {J:It} {it:Addr} {tn:Nat->Heap->Prop} {H2:Hp} {s2:Shared} {E:Value->Shared->Prop} {g:Shared->Hp->TG} {tc:Shared->Hp->TT} {te:Shared->Hp->TE}
  (hc:X.calm=true) (S:CompSc X scope xs) (I2:Inv X pj O H2 s2) (T:Turn X.prog X.w X.K tg J fp it tn) (st2:tn 0 s2.heap) (f2:∀ b∈fp,ycf X pj H2 b)
  (hg:∀ qz qy,(blk X pj scope xs fp qz qy).Ok->PG (blk X pj scope xs fp qz qy) tg (g qz qy))
  (hi:∀ qz qy,(blk X pj scope xs fp qz qy).Ok->∀ (pn:List (Addr × Obj)) (s:Shared) (O:St) (H:Hp) (Q:Bool->Hp->Prop),Inv (blk X pj scope xs fp qz qy) pn O H s->tc qz qy O H Q ->
   wpAny (model X.prog X.w) X.A (forIn ifs true fun c r=>if r=true then do let ok <- isTrue c (blk X pj scope xs fp qz qy).env (eval c (blk X pj scope xs fp qz qy).env);pure (ForInStep.yield ok) else pure (ForInStep.yield r)) (TP (blk X pj scope xs fp qz qy) pn O Q) (fun _ _=>False) s)
  (he:∀ qz qy,(blk X pj scope xs fp qz qy).Ok->PE (blk X pj scope xs fp qz qy) elt (te qz qy))
  (W:Addr->Nat->Nat->St->Hp->Prop) (R:Addr->Hp->Prop)
  (start:∀ D,H2 D=none->∃ m,W D 0 m (ye2 scope xs X.N O) (upd H2 D (.lst [])))
  (turn:∀ qz qy D i m O' H',(blk X pj scope xs fp qz qy).Ok->W D i m O' H'->(J.stop i H'/\R D H')\/(J.go i H'/\∃ N:St->Hp->Prop,(∀ O'' H'',N O'' H''->∃ m',m'<m/\W D (i+1) m' O'' H'') /\
   ∀ x H5,J.yld i H' x H5->g qz qy x O' H5 fun O2 H6=>tc qz qy O2 H6 fun ok H7=>if ok=true then te qz qy O2 H7 fun y H8=>∃ ys,H8 D=some (.lst ys)/\ys.length<sizeLine/\N O2 (upd H8 D (.lst (ys++[y]))) else N O2 H7)) :
  wpAny (model X.prog X.w) X.A (newList []) (fun acc qz=>wpAny (model X.prog X.w) X.A (newFunctionEnv scope X.env.globals (za2 X.env scope.names []) [] X.env.qual none .none (some X.env)) (fun cenv s₄ =>
   codeAny (model X.prog X.w) X.A (.compStart (.ListComp elt [⟨tg,iter,ifs,0⟩] scope pos) 0 (.ref it) acc { cenv with scope:=relabel scope X.env })
    (fun r s'=>r=.ok .next/\∃ D H',acc=.ref D/\Inv X pj O H' s'/\ycf X pj H' cenv.locals/\(∃ m,s'.heap.Ns cenv.locals m)/\R D H') s₄) E qz) E s2:=by
 refine zAi ?_ (by size_fits);have I3:Inv X pj O (upd H2 s2.heap.objs.size (.lst [])) { s2 with heap:=s2.heap.push { cls:=.type "list",data:=.seq ([]:List Value).toArray } }:=I2.lnew (t':=s2.toks) (ys:=[]) (qc:=[]) .nil (zAd _);have hD:H2 s2.heap.objs.size=none:=I2.fresh;have fl2:∀ b∈fp,b<s2.heap.objs.size:=fun b hb=>by obtain ⟨o,e,_⟩:=T.obj 0 _ st2 b hb;exact zzv e
 have hsz:(s2.heap.push { cls:=.type "list",data:=.seq ([]:List Value).toArray }).objs.size=s2.heap.objs.size+1:=zz3 ..;have f3:∀ b∈fp,ycf X pj (upd H2 s2.heap.objs.size (.lst [])) b:=fun b hb=>⟨by rw [zad (zz5 (fl2 b hb))];exact (f2 b hb).1,(f2 b hb).2⟩;have fl3:∀ b∈fp,b<(s2.heap.push { cls:=.type "list",data:=.seq ([]:List Value).toArray }).objs.size:=fun b hb=>by rw [hsz];exact Nat.lt_succ_of_lt (fl2 b hb)
 refine zpv ?_;generalize hs3:({ s2 with heap:=s2.heap.push { cls:=.type "list",data:=.seq ([]:List Value).toArray } }:Shared)=s3 at I3 fl3 ⊢;have fl3:∀ b∈fp,b<s3.heap.objs.size:=by rw [<- hs3];exact fl3
 have st3:tn 0 s3.heap:=T.keep 0 _ _ st2 fun b _ o e=>by rw [<- hs3];exact zzf _ e
 generalize hH3:upd H2 s2.heap.objs.size (.lst [])=H3 at I3 f3;obtain ⟨m0,w0⟩:=start s2.heap.objs.size hD;rw [hH3] at w0;generalize hDD:s2.heap.objs.size=D at w0;have BOk:=zrq (fp:=fp) S I3 f3 fl3;have I4:=zn3 (fp:=fp) S I3 f3 fl3;have hg':=hg s3 H3 BOk;have hi':=hi s3 H3 BOk;have he':=he s3 H3 BOk;have st4:tn 0 (pushCells (s3.heap.push { cls:=.type "dict",data:=.dict #[] }) scope.names):=T.keep 0 _ _ st3 fun b _ o e=>pushCells_keeps _ _ b o (zzf _ e);have stat:∀ {H':Hp} {pn:List (Addr × Obj)},pn=[]->(∀ b∈fp,H' b=none)->∀ b∈fp,ycf (blk X pj scope xs fp s3 H3) pn H' b:=fun {H' pn} hp hn b hb=>by subst hp;refine ⟨hn b hb,(BOk.exf b hb).1,BOk.exfs b hb,.inl hb,(BOk.exf b hb).2,fun p hp=>?_⟩;have hp:p∈(X.pn++pj)++[]:=hp;rw [zzu] at hp;exact (f3 b hb).2.2.2.2.2 p hp
 have loop:codeAny (model X.prog X.w) X.A (.compLoop (.ListComp elt [⟨tg,iter,ifs,0⟩] scope pos) 0 (.ref it) (.ref D) (blk X pj scope xs fp s3 H3).env)
   (fun r s'=>r=.ok .next/\∃ D' H',Value.ref D=.ref D'/\Inv X pj O H' s'/\ycf X pj H' s3.heap.objs.size/\(∃ m,s'.heap.Ns s3.heap.objs.size m)/\R D' H') { s3 with heap:=pushCells (s3.heap.push { cls:=.type "dict",data:=.dict #[] }) scope.names }:=by
  refine codeAny_loop rfl (fun n s'=>∃ i O' H',Inv (blk X pj scope xs fp s3 H3) [] O' H' s'/\tn i s'.heap/\(∀ b∈fp,H' b=none)/\W D i n O' H') ?_ m0 ⟨0,_,_,I4,st4,fun b hb=>(f3 b hb).1,w0⟩;rintro n s5 ⟨i,O5,H5,I5,st5,fr5,w5⟩;show wpAny _ X.A ((compTurn (.ListComp elt [⟨tg,iter,ifs,0⟩] scope pos) 0 (.ref it) (.ref D) (blk X pj scope xs fp s3 H3).env).onRaise (fun x=>do noteFrame x (blk X pj scope xs fp s3 H3).env;theTreesLotGoes x)) _ _ s5;refine wpAny_noted ?_;rw [compTurn_list];refine zzg (wpAny_standAt (zzg ?_));rcases turn s3 H3 D i n O5 H5 BOk w5 with ⟨stop,q⟩ | ⟨go,N,hN,step⟩
  .refine thn (T.done (blk X pj scope xs fp s3 H3) rfl rfl rfl hc i [] s5 O5 H5 _ I5 (stat rfl fr5) st5 stop) fun r s6 ⟨hr,I6⟩=>?_;subst hr;refine zzl ⟨rfl,D,H5,rfl,?_,?_,?_,q⟩
   .exact I3.call' I6.os I6.base I6.hok I6.bare fun b hb=>⟨(f3 b hb).2.2.2.1,(f3 b hb).2.1,(f3 b hb).2.2.2.2.1,(f3 b hb).2.2.2.2.2⟩
   .exact I3.fpOk (zzw _) I6.free
   .obtain ⟨m,hn,_⟩:=I6.loc;exact ⟨m,hn⟩
  .refine thn (T.item (blk X pj scope xs fp s3 H3) rfl rfl rfl hc i [] s5 O5 H5 _ I5 (stat rfl fr5) st5 go) fun r s6 ⟨u,hr,h6⟩=>?_;subst hr;refine zzg (thn h6 fun _ s7 ⟨x,H7,I7,r7,y7,st7,fr7⟩=>?_);have I7':=I7.pinned (stat rfl fr7) (T.obj _ _ st7);have hl:∀ {α:Type} {t:Sem α} {Q:α->Shared->Prop} {E':Value->Shared->Prop} {s:Shared},wpAny (model X.prog X.w) X.A t Q (fun _ _=>False) s->wpAny (model X.prog X.w) X.A t Q E' s:=fun h=>zAy h (fun _ _ q=>q) fun _ _ z=>False.elim z;refine zzg (hl (thn (hg' _ s7 O5 H7 x u _ I7' r7 (step x H7 y7)) fun _ s8 ⟨O8,H8,I8,q8⟩=>?_));refine zzg (hl (thn (hi' _ s8 O8 H8 _ I8 q8) fun ok s9 ⟨H9,I9,q9⟩=>?_));have again:∀ {O7:St} {H7':Hp} {s7':Shared},Inv (blk X pj scope xs fp s3 H3) ([]++ycl fp s7.heap) O7 H7' s7'->N O7 H7'->∃ m,m<n/\∃ i O' H',Inv (blk X pj scope xs fp s3 H3) [] O' H' s7'/\tn i s7'.heap/\(∀ b∈fp,H' b=none)/\W D i m O' H':=fun {O7 H7' s7'} I8 n8=>by obtain ⟨m',hm,w8⟩:=hN O7 H7' n8;refine ⟨m',hm,i+1,O7,H7',I8.unpinned,T.keep _ _ _ st7 fun b hb o e=>(I8.pin (b,o) (zAn _ (zAn _ (zcx hb e)))).1,fun b hb=>?_,w8⟩;obtain ⟨o,e,d⟩:=T.obj _ _ st7 b hb;exact (I8.pin (b,o) (zAn _ (zAn _ (zcx hb e)))).2.1
   cases ok with
   | false =>rw [if_neg zzx] at q9;exact zzl ⟨rfl,again I9 q9⟩
   | true =>rw [if_pos rfl] at q9;refine zzg (zzg (hl (thn (he' _ s9 O8 H9 _ I9 q9) fun y s10 ⟨yv,H10,I10,r10,ys,e10,z10,q10⟩=>?_)));refine zzg (hl (thn (zes (X:=blk X pj scope xs fp s3 H3) _ s10 O8 H10 (.ref D) [yv] (.ref D) [y] (fun _ H'=>N O8 H') I10 rfl (.cons r10 .nil) ⟨D,ys,yv,rfl,rfl,e10,z10,q10⟩) fun _ s11 ⟨_,H11,I11,_,q11⟩=>?_));exact zzl (zzl ⟨rfl,again I11 q11⟩)
 exact codeAny_compStart_list loop (T.self X.A 0 _ _ _ st4 loop)
end
end
section
open PySem Spec PyProof.Rows
variable {K:W.Frag} {elts:List Expr} {kx:Nat} {pos:Pos}
section
variable {X:Cx} {pj:List (Addr × Obj)} {O:St} {H:Hp} {s:Shared} {h':Heap}
theorem Inv.turned2 {it e T:Addr} {xs:List V} {t':Nat} (I:Inv X pj O H s) (k:∀ b o,b≠e->b≠it->s.heap.get? b=some o->h'.get? b=some o) (fe:ycf X pj H e) (fi:ycf X pj H it)
  (hT:s.heap.objs.size<=T) (new:ObjOk X.prog X.w (upd H T (.tup xs)) h' T (.tup xs)):Inv X pj O (upd H T (.tup xs)) { s with heap:=h',toks:=t' }:=by
 have hn:H T=none:=I.hok.fresh hT;have nT:∀ {b:Addr} {o:Obj},s.heap.get? b=some o->b≠T:=fun {b o} q=>zz5 (zz1 (zzv q) hT);have nch:∀ {b:Addr},b∉[e,it]->b≠e/\b≠it:=fun {b} h=>⟨fun z=>h (by simp [z]),fun z=>h (by simp [z])⟩;have nfp:∀ {b:Addr} {u:HO},H b=some u->b≠e/\b≠it:=fun {b u} q=>⟨fun z=>(by rw [z,fe.1] at q;cases q),fun z=>(by rw [z,fi.1] at q;cases q)⟩;refine I.step (g':=s.gens) (d':=s.drawn) (ch:=[e,it]) (fun b hb=>?_) (fun b o _ _ hc q _=>k b o (nch hc).1 (nch hc).2 q) (fun b o _ _ hc q _=>⟨o.slots,k b o (nch hc).1 (nch hc).2 q⟩)
  (fun b o hc q z=>by rw [zad (nT q)];exact z) (fun b o hc q=>⟨o,k b o (nch hc).1 (nch hc).2 q⟩)
  (fun b ys q=>by rw [zad (zae q hn)];exact q) (fun b o u q=>by rw [zad (zae q hn)];exact q) (fun b ps q=>⟨#[],by rw [zad (zae q hn),q];simp⟩) (fun m hm=>?_) (fun b u q=>?_) I.bare
 .rcases omc hb with z | z
  .rw [z];exact ⟨fe.2.2.2.1,fe.2.1,fe.2.2.2.2.1,fe.2.2.2.2.2⟩
  .rw [omg z];exact ⟨fi.2.2.2.1,fi.2.1,fi.2.2.2.2.1,fi.2.2.2.2.2⟩
 .obtain ⟨o,es,ep,ho,r⟩:=hm;exact ⟨o,es,ep,k _ o (Ne.symm fe.2.1) (Ne.symm fi.2.1) ho,r⟩
 .by_cases hb:b=T
  .subst hb;rw [zah] at q;cases q;exact new
  .rw [zad hb] at q;refine (I.hok b u q).stay (fun c v hc z=>?_) (fun c z=>by rw [zad (zae z hn)];exact z) fun c ys z=>by rw [zad (zae z hn)];exact z
   rcases hc with rfl | hc
   .exact k c v (nfp q).1 (nfp q).2 z
   .exact k c v (nfp hc).1 (nfp hc).2 z
end
def Ite (sq:Hp->Addr->List V->Prop) (a:Addr):It :=
 ⟨fun i H=>∃ xs x,sq H a xs/\xs[i]?=some x,fun i H x H'=>∃ p v,H p=none/\x=.ref p/\H'=upd H p (.tup [.int (i:Int),v])/\∀ xs,sq H a xs->xs[i]?=some v,fun i H=>∃ xs,sq H a xs/\xs.length=i⟩
theorem zkf {P:Program} {w:World} (a it e:Addr) (hei:e≠it) :
  Turn P w K (.Tuple elts kx pos) (Ite (SqL K) a) [e,it] e (fun i h=>(∃ old,IsEnum h e it (i:Int) old)/\h.IsListIter it a i) where
 mem:=by simp
 obj:=fun i h st b hb=>by
  obtain ⟨⟨old,he⟩,o,ho,hc,hd⟩:=st;rcases omc hb with z | z
  .rw [z];exact ⟨_,he,fun v q=>by cases q⟩
  .rw [omg z];exact ⟨o,ho,fun v q=>by rw [hd] at q;cases q⟩
 keep:=fun i h h' st k=>by obtain ⟨⟨old,he⟩,o,ho,r⟩:=st;exact ⟨⟨old,k e (by simp) _ he⟩,o,k it (by simp) o ho,r⟩
 item:=by
  intro X hP hw hK hc i pj s O H E I hf st hg;subst hP hw hK;obtain ⟨xs,x,hq,hx⟩:=hg;obtain ⟨⟨old,he⟩,hit⟩:=st;obtain ⟨qc,rv,p,hz⟩:=I.list hq;obtain ⟨u,hu,ru⟩:=rv.get hx;have fe:=hf e (by simp);have fi:=hf it (by simp);obtain ⟨ol,hol,hcl,_⟩:=id p.isList;obtain ⟨oi,hoi,hci,_⟩:=id hit;have hai:a≠it:=fun z=>by rw [z,hoi] at hol;cases hol;rw [hci] at hcl;exact absurd hcl (by decide +kernel)
  have hae:e≠a:=fun z=>by have he':s.heap.get? e=_:=he;rw [z,hol] at he';cases he';exact absurd hcl (by show Value.type "enumerate"≠Value.type "list";decide +kernel)
  have D:=Draws.list (prog:=X.prog) (w:=X.w) (A:=X.A.in1) (show X.A.in1.handled=none from I.ok.hd hc) it a hai qc.toArray;have hlt:i<qc.toArray.size:=by have:=rv.length;have h2:=(ome hx).1;rw [zzs];omega
  refine wpAny_pyNext_enum_itemD D he ⟨hit,p.isList⟩ hlt hei (fun z=>(omc z).elim hei fun q=>hae (omg q)) fun x' h1 tk hPx ho st1 hT hsz hk=>?_;refine ⟨_,rfl,wpAny_letOwnedTupleGo_enum ho fun h2 he2 hs2=>?_⟩;have hx':x'=u:=by
   have hPx:qc.toArray[i]?=some x':=hPx;have:qc[i]?=some x':=by simpa using hPx
   rw [hu] at this;exact (zz2 this).symm
  subst hx';have hk2:∀ b o,b≠e->b≠it->s.heap.get? b=some o->h2.get? b=some o:=fun b o hbe hbi q=>(hs2.2 b hbe).trans (hk b o hbe hbi q);have hTe:s.heap.objs.size≠e:=Nat.ne_of_gt (zzv he);have I1:Inv X pj O (upd H s.heap.objs.size (.tup [.int (i:Int),x])) { s with heap:=h2,toks:=tk+1 }:=I.turned2 hk2 fe fi (zzw _)
   ⟨by show 2<=sizeLine;decide,[.int (i:Int) tk,x'],.cons ⟨_,rfl⟩ (.cons ru .nil),⟨_,(hs2.2 _ hTe).trans hT,rfl,_,rfl⟩⟩
  refine ⟨.ref s.heap.objs.size,_,I1,rfl,⟨_,x,I.fresh,rfl,rfl,fun ys hy=>by rw [I.list_inj hy hq];exact hx⟩,⟨⟨_,by simpa using he2⟩,?_⟩,fun b hb=>?_⟩
  .obtain ⟨o,ho',r⟩:=st1.1;exact ⟨o,(hs2.2 it (Ne.symm hei)).trans ho',r⟩
  .have hb0:=(hf b hb).1;have hbl:b<s.heap.objs.size:=by
    rcases omc hb with z | z
    .rw [z];exact zzv he
    .rw [omg z];exact zzv hoi
   rw [zad (zz5 hbl)];exact hb0
 done:=by
  intro X hP hw hK hc i pj s O H E I hf st hg;subst hP hw hK;obtain ⟨xs,hq,hx⟩:=hg;obtain ⟨⟨old,he⟩,hit⟩:=st;obtain ⟨qc,rv,p,hz⟩:=I.list hq;obtain ⟨ol,hol,hcl,_⟩:=id p.isList;obtain ⟨oi,hoi,hci,_⟩:=id hit;have hai:a≠it:=fun z=>by rw [z,hoi] at hol;cases hol;rw [hci] at hcl;exact absurd hcl (by decide +kernel)
  have D:=Draws.list (prog:=X.prog) (w:=X.w) (A:=X.A.in1) (show X.A.in1.handled=none from I.ok.hd hc) it a hai qc.toArray;have hl:qc.toArray.size=i:=by rw [zzs,<- rv.length];exact hx
  obtain ⟨f0,f1,f2,f3,f4,f5⟩:=hf it (by simp);refine wpAny_pyNext_enum_endD D he (by rw [hl];exact ⟨hit,p.isList⟩) fun h1 eb=>⟨rfl,I.turned (t':=s.toks) (fun b o hb q=>eb b o hb q) f0 f1 f3 f4 f5⟩
 self:=fun _ _ _ _ _ st h=>by obtain ⟨⟨old,he⟩,_⟩:=st;exact wpAny_pyIter_enum he h
theorem zke {P:Program} {w:World} (a it e:Addr) (hei:e≠it) :
  Turn P w K (.Tuple elts kx pos) (Ite (SqT K) a) [e,it] e (fun i h=>(∃ old,IsEnum h e it (i:Int) old)/\h.IsTupleIter it a i) where
 mem:=by simp
 obj:=fun i h st b hb=>by
  obtain ⟨⟨old,he⟩,o,ho,hc,hd⟩:=st;rcases omc hb with z | z
  .rw [z];exact ⟨_,he,fun v q=>by cases q⟩
  .rw [omg z];exact ⟨o,ho,fun v q=>by rw [hd] at q;cases q⟩
 keep:=fun i h h' st k=>by obtain ⟨⟨old,he⟩,o,ho,r⟩:=st;exact ⟨⟨old,k e (by simp) _ he⟩,o,k it (by simp) o ho,r⟩
 item:=by
  intro X hP hw hK hc i pj s O H E I hf st hg;subst hP hw hK;obtain ⟨xs,x,hq,hx⟩:=hg;obtain ⟨⟨old,he⟩,hit⟩:=st;obtain ⟨qc,rv,p,hz⟩:=I.tuple hq;obtain ⟨u,hu,ru⟩:=rv.get hx;have fe:=hf e (by simp);have fi:=hf it (by simp);obtain ⟨ol,hol,hcl,_⟩:=id p;obtain ⟨oi,hoi,hci,_⟩:=id hit;have hai:a≠it:=fun z=>by rw [z,hoi] at hol;cases hol;rw [hci] at hcl;exact absurd hcl (by decide +kernel)
  have hae:e≠a:=fun z=>by have he':s.heap.get? e=_:=he;rw [z,hol] at he';cases he';exact absurd hcl (by show Value.type "enumerate"≠Value.type "tuple";decide +kernel)
  have D:=zc7 (prog:=X.prog) (w:=X.w) (A:=X.A.in1) (show X.A.in1.handled=none from I.ok.hd hc) it a hai qc.toArray;have hlt:i<qc.toArray.size:=by have:=rv.length;have h2:=(ome hx).1;rw [zzs];omega
  refine wpAny_pyNext_enum_itemD D he ⟨hit,(show s.heap.IsTuple a qc.toArray from p)⟩ hlt hei (fun z=>(omc z).elim hei fun q=>hae (omg q)) fun x' h1 tk hPx ho st1 hT hsz hk=>?_;refine ⟨_,rfl,wpAny_letOwnedTupleGo_enum ho fun h2 he2 hs2=>?_⟩;have hx':x'=u:=by
   have hPx:qc.toArray[i]?=some x':=hPx;have:qc[i]?=some x':=by simpa using hPx
   rw [hu] at this;exact (zz2 this).symm
  subst hx';have hk2:∀ b o,b≠e->b≠it->s.heap.get? b=some o->h2.get? b=some o:=fun b o hbe hbi q=>(hs2.2 b hbe).trans (hk b o hbe hbi q);have hTe:s.heap.objs.size≠e:=Nat.ne_of_gt (zzv he);have I1:Inv X pj O (upd H s.heap.objs.size (.tup [.int (i:Int),x])) { s with heap:=h2,toks:=tk+1 }:=I.turned2 hk2 fe fi (zzw _)
   ⟨by show 2<=sizeLine;decide,[.int (i:Int) tk,x'],.cons ⟨_,rfl⟩ (.cons ru .nil),⟨_,(hs2.2 _ hTe).trans hT,rfl,_,rfl⟩⟩
  refine ⟨.ref s.heap.objs.size,_,I1,rfl,⟨_,x,I.fresh,rfl,rfl,fun ys hy=>by rw [I.tuple_inj hy hq];exact hx⟩,⟨⟨_,by simpa using he2⟩,?_⟩,fun b hb=>?_⟩
  .obtain ⟨o,ho',r⟩:=st1.1;exact ⟨o,(hs2.2 it (Ne.symm hei)).trans ho',r⟩
  .have hb0:=(hf b hb).1;have hbl:b<s.heap.objs.size:=by
    rcases omc hb with z | z
    .rw [z];exact zzv he
    .rw [omg z];exact zzv hoi
   rw [zad (zz5 hbl)];exact hb0
 done:=by
  intro X hP hw hK hc i pj s O H E I hf st hg;subst hP hw hK;obtain ⟨xs,hq,hx⟩:=hg;obtain ⟨⟨old,he⟩,hit⟩:=st;obtain ⟨qc,rv,p,hz⟩:=I.tuple hq;obtain ⟨ol,hol,hcl,_⟩:=id p;obtain ⟨oi,hoi,hci,_⟩:=id hit;have hai:a≠it:=fun z=>by rw [z,hoi] at hol;cases hol;rw [hci] at hcl;exact absurd hcl (by decide +kernel)
  have D:=zc7 (prog:=X.prog) (w:=X.w) (A:=X.A.in1) (show X.A.in1.handled=none from I.ok.hd hc) it a hai qc.toArray;have hl:qc.toArray.size=i:=by rw [zzs,<- rv.length];exact hx
  obtain ⟨f0,f1,f2,f3,f4,f5⟩:=hf it (by simp);refine wpAny_pyNext_enum_endD D he (by rw [hl];exact ⟨hit,(show s.heap.IsTuple a qc.toArray from p)⟩) fun h1 eb=>⟨rfl,I.turned (t':=s.toks) (fun b o hb q=>eb b o hb q) f0 f1 f3 f4 f5⟩
 self:=fun _ _ _ _ _ st h=>by obtain ⟨⟨old,he⟩,_⟩:=st;exact wpAny_pyIter_enum he h
section
variable {X:Cx} {tg:Expr}
theorem zvn {l:Expr} {tl:TE} (hl:PE X l tl):PI X tg l (fun O H R=>tl O H fun x H1=>∃ a,x=.ref a/\((∃ xs,SqL X.K H1 a xs/\R (Itl X.K a) H1)\/∃ xs,SqT X.K H1 a xs/\R (Itt X.K a) H1)):=by
 intro pj s O H R I h;refine thn (hl pj s O H _ I h) fun v s1 ⟨x,H1,I1,r1,q1⟩=>?_;obtain ⟨a,e,q1⟩:=q1;subst e;cases r1;rcases q1 with ⟨xs,hq,q⟩ | ⟨xs,hq,q⟩
 .obtain ⟨qc,rv,p,hz⟩:=I1.list hq;refine wpAny_pyIter_list p.isList ?_;refine ⟨s1.heap.objs.size,[s1.heap.objs.size],_,_,H1,rfl,I1.kept (t':=s1.toks) fun b o e=>zzf _ e,zk6 a _,⟨_,zzp _ rfl,rfl,rfl⟩,fun b hb=>?_,q⟩;have e:b=s1.heap.objs.size:=by simpa using hb
  subst e;exact I1.fpOk (zzw _) (I1.hok.fresh (zzw _))
 .obtain ⟨qc,rv,p,hz⟩:=I1.tuple hq;refine ub8 (show s1.heap.IsTuple a qc.toArray from p) ?_;refine ⟨s1.heap.objs.size,[s1.heap.objs.size],_,_,H1,rfl,I1.kept (t':=s1.toks) fun b o e=>zzf _ e,zkc a _,⟨_,zzp _ rfl,rfl,rfl⟩,fun b hb=>?_,q⟩;have e:b=s1.heap.objs.size:=by simpa using hb
  subst e;exact I1.fpOk (zzw _) (I1.hok.fresh (zzw _))
theorem zs0 {a:Expr} {ta:TA} {p p2:Pos} (hg:Gl X "enumerate") (hm:X.mg "enumerate"=none) (ha:PA X [a] ta) (hs:starEach [a] X.env=[(false,eval a X.env)]) :
  PI X (.Tuple elts kx p2) (.Call (.Name "enumerate" p) [a] [] pos) (fun O H R=>ta O H fun vs H1=>∃ a,vs=[.ref a]/\((∃ xs,SqL X.K H1 a xs/\R (Ite (SqL X.K) a) H1)\/∃ xs,SqT X.K H1 a xs/\R (Ite (SqT X.K) a) H1)):=by
 intro pj s O H R I h;refine Call_ (zfm I hg hm boot_enumerate (PyProof.Rows.callWith_type1 (thn (ha pos pj s O H _ I h) fun us s1 ⟨vs,H1,I1,r1,q1⟩=>?_) hs rfl));obtain ⟨l,e,q1⟩:=q1;subst e;obtain ⟨u,rfl,rx⟩:=yb6 r1;cases rx;have fin:∀ {h':Heap} {J:It} {tn:Nat->Heap->Prop},(∀ b o,s1.heap.get? b=some o->h'.get? b=some o)->h'.objs.size=s1.heap.objs.size+2 ->
   Turn X.prog X.w X.K (.Tuple elts kx p2) J [s1.heap.objs.size+1,s1.heap.objs.size] (s1.heap.objs.size+1) tn->tn 0 h'->R J H1->PIE X pj O (.Tuple elts kx p2) R (.ref (s1.heap.objs.size+1)) { s1 with heap:=h' }:=fun {h' J tn} hk hsz T st q=>by
  refine ⟨s1.heap.objs.size+1,[s1.heap.objs.size+1,s1.heap.objs.size],tn,J,H1,rfl,I1.kept (t':=s1.toks) hk,T,st,fun b hb=>?_,q⟩;rcases omc hb with z | z
  .rw [z];exact I1.fpOk (Nat.le_succ _) (I1.hok.fresh (Nat.le_succ _))
  .rw [omg z];exact I1.fpOk (zzw _) (I1.hok.fresh (zzw _))
 have hne:s1.heap.objs.size+1≠s1.heap.objs.size:=Nat.succ_ne_self _;rcases q1 with ⟨xs,hq,q⟩ | ⟨xs,hq,q⟩
 .obtain ⟨qc,rv,pl,hz⟩:=I1.list hq;refine call_enumerate_list pl.isList fun h' he hit hsz hk=>?_;exact wpAny_pyIter_enum (s:={ s1 with heap:=h' }) he (fin hk hsz (zkf l s1.heap.objs.size (s1.heap.objs.size+1) hne) ⟨⟨_,by simpa using he⟩,hit⟩ q)
 .obtain ⟨qc,rv,pl,hz⟩:=I1.tuple hq;refine ze3 (show s1.heap.IsTuple l qc.toArray from pl) fun h' he hit hsz hk=>?_;exact wpAny_pyIter_enum (s:={ s1 with heap:=h' }) he (fin hk hsz (zke l s1.heap.objs.size (s1.heap.objs.size+1) hne) ⟨⟨_,by simpa using he⟩,hit⟩ q)
end
end
end L2
namespace Ev
open PySem W Spec PyProof.Rows L2
section
section
variable {prog:Program} {w:World} {A:Around} {E:Value->Shared->Prop} {s:Shared}
theorem zlb {stored:List Value} {Q:Bool->Shared->Prop} (hst:∀ v∈stored,∃ k b,v=.ref b/\IsTupleKey (zak prog w) s.heap k b) (h:Q false s):wpAny (model prog w) A (tableMayTell .none stored) Q E s:=by
 unfold tableMayTell;by_cases he:stored.isEmpty=true
 .rw [if_pos he];exact zzl h
 .rw [if_neg he];rw [eqIsQuiet_byValue 8 (v:=.none) rfl];refine zzg (zzl ?_);simp only [Bool.not_true,Bool.false_eq_true,if_false];refine zzg ?_;refine wpAny_forIn_list _ (fun rest r s'=>s'=s/\r=(none,())/\∀ v∈rest,∃ k b,v=.ref b/\IsTupleKey (zak prog w) s.heap k b) _ ?_ ?_ _ _ ⟨rfl,rfl,hst⟩
  .rintro x rest r s' ⟨rfl,rfl,hr⟩;obtain ⟨k',b,rfl,hb⟩:=hr x zzt;refine zzg (wpAny_eqIsQuiet_tuple hb ?_);simp only [Bool.not_true,Bool.false_eq_true,if_false];exact zzl ⟨rfl,rfl,fun v hv=>hr v (zzq _ hv)⟩
  .rintro r s' ⟨rfl,rfl,_⟩;exact zzl h
theorem znl {d:Addr} {o:Obj} {es:Array DictEntry} {ep:Nat} {Q:Option Nat->Shared->Prop} (hu:A.units<cLine) (ho:s.heap.get? d=some o) (hd:o.data=.dict es ep)
  (hk:∀ e∈es,∃ k b,e.key=.ref b/\IsTupleKey (zak prog w) s.heap k b) (h:Q none s) (hs:Int):wpAny (model prog w) A (dictFind d .none hs) Q E s:=by
 unfold dictFind
 try with_reducible refine uc2 ?_
 refine zzg (uc8 ho hd ?_);dsimp only;have hst:∀ v∈(placesWithHash es.size (fun i=>es[i]?.map (·.hash)) hs).filterMap (fun i=>es[i]?.map (·.key)),∃ k b,v=.ref b/\IsTupleKey (zak prog w) s.heap k b:=by
  intro v hv;obtain ⟨i,_,hi⟩:=ud8.mp hv;cases hei:es[i]? with
  | none=>rw [hei] at hi;cases hi
  | some e =>
   rw [hei] at hi;obtain rfl:e.key=v:=by simpa using hi
   exact hk e (Array.mem_of_getElem? hei)
 by_cases hall:((Value.none::(placesWithHash es.size (fun i=>es[i]?.map (·.hash)) hs).filterMap (fun i=>es[i]?.map (·.key))).all carriedByValue)=true
 .rw [if_pos hall];have hnil:(placesWithHash es.size (fun i=>es[i]?.map (·.hash)) hs)=[]:=by
   cases hp:placesWithHash es.size (fun i=>es[i]?.map (·.hash)) hs with
   | nil=>rfl
   | cons i r =>
    exfalso;have hi:i∈placesWithHash es.size (fun i=>es[i]?.map (·.hash)) hs:=by rw [hp];exact .head _
    have hi2:=(ub9.mp (show i∈(List.range es.size).filter _ from hi)).2;cases hei:es[i]? with
    | none=>dsimp only at hi2;rw [hei] at hi2;simp at hi2
    | some e =>have hm:e.key∈(placesWithHash es.size (fun i=>es[i]?.map (·.hash)) hs).filterMap (fun i=>es[i]?.map (·.key)):=ud8.mpr ⟨i,hi,by rw [hei];rfl⟩;obtain ⟨k,b,e1,_⟩:=hst _ hm;have:=oml hall e.key (.tail _ hm);rw [e1] at this;cases this
  rw [hnil];unfold dictWalkPlain;exact zzg (zzl (zzl h))
 .rw [if_neg hall];have hone:¬ (((placesWithHash es.size (fun i=>es[i]?.map (·.hash)) hs).filterMap (fun i=>es[i]?.map (·.key)))==[Value.none])=true:=fun z=>by have z:=ua2 z;obtain ⟨k,b,e1,_⟩:=hst Value.none (by rw [z];exact .head _);cases e1
  rw [if_neg hone];refine zzg (zlb hst ?_);rw [if_neg (by simp)];refine zzg ?_;refine wpAny_forIn_list _ (fun rest b s'=>s'=s/\b=(none,none)) _ ?_ ?_ _ _ ⟨rfl,rfl⟩
  .rintro x rest b s' ⟨rfl,rfl⟩;cases hei:es[x]? with
   | none=>exact zzl ⟨rfl,rfl⟩
   | some e =>
    dsimp only;by_cases hh:(e.hash==hs)=true
    .rw [if_pos hh];obtain ⟨k,b,e1,hb⟩:=hk e (Array.mem_of_getElem? hei);obtain ⟨o',items,n',ho',hc',hd',_⟩:=id hb;refine zzg (wpAny_dictEpoch ho hd (zzg ?_));rw [e1];refine PySem.SeqAt.EqAt.tuple_none (items:=items) ⟨o',ho',hc',n',hd'⟩ hu prog w E _ (zzg (wpAny_dictEpoch ho hd ?_));show wpAny _ _ (if (ep != ep)=true then _ else _) _ E _;rw [if_neg (by simp)];simp only [Bool.false_eq_true,if_false];refine zzg (wpAny_rule ?_)
     first | rw [if_neg (by simp)] | skip
     first
      | exact zzl ⟨rfl,rfl⟩
      | exact zzg (zzl (zzl ⟨rfl,rfl⟩))
    .rw [if_neg hh];exact zzl ⟨rfl,rfl⟩
  .rintro b s' ⟨rfl,rfl⟩;exact zzl h
end
section
variable {X:Cx} {pj:List (Addr × Obj)} {O:L2.St} {H:Hp} {s:Shared} {a:Addr}
theorem zxr {A:Around} {E:Value->Shared->Prop} {qb:List (List Key × V)} {Q:Value->Shared->Prop} (hu:A.units+1<cLine) (I:L2.Inv X pj O H s) (e:Rd H a (.dT qb)) (h:∀ s',L2.Inv X pj O H s'->Q .none s') :
  wpAny (model X.prog X.w) A (call (.builtin "dict.get") [.ref a,.none]) Q E s:=by
 obtain ⟨z,hd,xs,rel,dd⟩:=zhc I.hok e;have hty:=dd.typeIs;obtain ⟨o,es,ep,e1,e2,e3,e4,e5,e6⟩:=dd;refine zAc PySem.F.slot_dict_get hty PySem.F.entry_dict_get ?_ (PySem.F.args_dict_get_2 _ _);show wpAny _ _ (dictGet a .none >>= _) _ _ s;refine zzg ?_;unfold dictGet;refine uc2 (zzg (zcn (zzg (znl (s:={ s with toks:=s.toks+1 }) (by show A.units+1<cLine;exact hu) e1 e3 (fun e he=>?_) ?_ _))))
 .have:e∈xs.map (entryOfKey (tupleKind (zak X.prog X.w))):=e4▸Array.mem_toList_iff.mpr he;obtain ⟨x,hx,rfl⟩:=omm this;exact ⟨x.1,x.2.1,rfl,e5 x hx⟩
 .refine zzl ?_;show wpAny _ _ (Builtin.Dict.missed a .none >>= _) _ _ _;exact zzg (wpAny_missed_other hd (zzl ⟨.none,rfl,h _ (I.tok _)⟩))
def ygi (H:Hp) (a:Addr) (y:V) (o:Option V):Prop:=DGet H a y o\/(y=.non/\o=none/\∃ qb,Rd H a (.dT qb))
def ye7 (td ty:TE):TE:=fun O H Q=>td O H fun x H1=>∃ a,x=.ref a/\IsD H1 a/\ty O H1 fun y H2=>∃ o,ygi H2 a y o/\Q (o.getD .non) H2
theorem zpn {o e:Expr} {apos cpos:Pos} {td ty:TE} (hu:X.A.units+1<cLine) (ho:PE X o td) (he:PE X e ty) (m:M1 X o "get" apos e cpos):PE X (.Call (.Attribute o "get" apos) [e] [] cpos) (ye7 td ty):=by
 intro pj s O H Q I h;refine wpAny_Call_method m.base m.few m.line PySem.F.plainAttrs_dict PySem.F.slot_dict_get PySem.F.type_dict_get (thn (ho pj s O H _ I h) fun u s1 ⟨x,H1,I1,rx,a,ex,d,q1⟩=>?_);subst ex;obtain rfl:u=Value.ref a:=rx;obtain ⟨t1,t2,_⟩:=zrh I1 d;refine ⟨t1,t2,?_⟩;rw [m.trees];refine Calls.callWith_builtin rfl (Calls.evalArgs_plain (Calls.spliced_cons (thn (he pj s1 O H1 _ I1 q1) fun iv s2 ⟨y,H2,I2,ry,ov,g,q2⟩=>Calls.spliced_nil ?_)));rcases g with g | ⟨ey,eo,qb,g⟩
 .exact zxs hu I2 g ry fun w' s3 I3 rw'=>⟨_,H2,I3,rw',q2⟩
 .subst ey eo;cases (show iv=Value.none from ry);exact zxr hu I2 g fun s3 I3=>⟨.non,H2,I3,rfl,q2⟩
end
end
section
open PySem PySem.W PyProof.Rows
variable {i j:Nat}
def ya5 {α:Type} (c:Nat->Nat->Bool):KasT α->α
 | .ret a=>a
 | .ask i j k=>ya5 c (k (c i j))
def kok {α:Type} (n:Nat) (c:Nat->Nat->Bool):KasT α->Bool
 | .ret _=>true
 | .ask i j k=>decide (i<n)&&decide (j<n)&&kok n c (k (c i j))
section
variable {n:Nat} {c:Nat->Nat->Bool}
theorem zb8 {α β:Type} {f:α->KasT β}:∀ t:KasT α,ya5 c (t.bind f)=ya5 c (f (ya5 c t))
 | .ret _=>rfl
 | .ask i j k=>zb8 (k (c i j))
theorem zcf {α β:Type} {f:α->KasT β}:∀ t:KasT α,kok n c t=true->kok n c (f (ya5 c t))=true->kok n c (t.bind f)=true
 | .ret _,_,h=>h
 | .ask i j k,h1,h2=>by rw [kok,zzn] at h1;show (decide (i<n)&&decide (j<n)&&kok n c ((k (c i j)).bind f))=true;rw [h1.1,zcf (k (c i j)) h1.2 h2];rfl
theorem zco {α:Type} {k:Bool->KasT α} (hi:i<n) (hj:j<n) (h:kok n c (k (c i j))=true):kok n c (.ask i j k)=true:=by rw [kok,zz0 hi,zz0 hj,h];rfl
def Pm (n:Nat) (p:Array Nat):Prop:=p.toList.Perm (List.range n)
def at' (p:Array Nat) (i:Nat):Nat:=p.getD i 0
variable {p:Array Nat}
theorem Pm.size (h:Pm n p):p.size=n:=by
 have:=List.Perm.length_eq h
 rwa [zz9,List.length_range] at this
theorem zhp (h:i<p.size):p[i]?=some (at' p i):=by unfold at';rw [Array.getD_eq_getD_getElem?,ub2 h];rfl
theorem zx4 {q:Array Nat} (h:q[i]?=p[j]?):at' q i=at' p j:=by unfold at';rw [Array.getD_eq_getD_getElem?,Array.getD_eq_getD_getElem?,h]
theorem Pm.lt (h:Pm n p) (hi:i<n):at' p i<n:=by have h1:=zhp (p:=p) (i:=i) (by rw [h.size];exact hi);rw [<- zAw] at h1;exact zAt.mp ((List.Perm.mem_iff h).mp (zAm h1))
theorem Pm.ne (h:Pm n p) (hi:i<n) (hj:j<n) (hne:i≠j):at' p i≠at' p j:=fun e=>by have nd:p.toList.Nodup:=(List.Perm.nodup_iff h).mpr List.nodup_range;have h1:=zhp (p:=p) (i:=i) (by rw [h.size];exact hi);have h2:=zhp (p:=p) (i:=j) (by rw [h.size];exact hj);rw [<- zAw] at h1 h2;rw [e,<- h2] at h1;exact hne ((List.getElem?_inj (by rw [zz9,h.size];exact hi) nd).mp h1)
structure Tot (n:Nat) (c:Nat->Nat->Bool):Prop where
 tot:∀ i j,i<n->j<n->i≠j->c j i=!c i j
 tr:∀ i j k,i<n->j<n->k<n->c i j=true->c j k=true->c i k=true
def Asc (c:Nat->Nat->Bool) (p:Array Nat) (k:Nat):Prop:=∀ i j,i<j->j<k->c (at' p i) (at' p j)=true
def Dsc (c:Nat->Nat->Bool) (p:Array Nat) (k:Nat):Prop:=∀ i j,i<j->j<k->c (at' p j) (at' p i)=true
theorem Asc.grow (T:Tot n c) (P:Pm n p) {k:Nat} (h1:1<=k) (hk:k<n) (h:Asc c p k) (e:c (at' p (k-1)) (at' p k)=true):Asc c p (k+1):=fun i j hij hj=>by
 by_cases hjk:j<k
 .exact h i j hij hjk
 .obtain rfl:j=k:=by omega
  by_cases hi:i=j-1
  .rw [hi];exact e
  .exact T.tr _ _ _ (P.lt (by omega)) (P.lt (by omega)) (P.lt hk) (h i (j-1) (by omega) (by omega)) e
theorem Dsc.grow (T:Tot n c) (P:Pm n p) {k:Nat} (h1:1<=k) (hk:k<n) (h:Dsc c p k) (e:c (at' p k) (at' p (k-1))=true):Dsc c p (k+1):=fun i j hij hj=>by
 by_cases hjk:j<k
 .exact h i j hij hjk
 .obtain rfl:j=k:=by omega
  by_cases hi:i=j-1
  .rw [hi];exact e
  .exact T.tr _ _ _ (P.lt hk) (P.lt (by omega)) (P.lt (by omega)) e (h i (j-1) (by omega) (by omega))
theorem ziw (T:Tot n c) (P:Pm n p):∀ (f k:Nat),1<=k->k+f<=n->Asc c p k->kok n c (kas_asc p f k)=true/\k<=ya5 c (kas_asc p f k)/\ya5 c (kas_asc p f k)<=k+f/\Asc c p (ya5 c (kas_asc p f k))/\(ya5 c (kas_asc p f k)<k+f->c (at' p (ya5 c (kas_asc p f k))) (at' p (ya5 c (kas_asc p f k)-1))=true)
 | 0,k,_,_,h=>⟨rfl,zzw _,zzw _,h,fun z=>absurd z (zAp _)⟩
 | f+1,k,h1,hk,h=>by
  have l1:=P.lt (i:=k) (by omega);have l2:=P.lt (i:=k-1) (by omega);cases e:c (at' p k) (at' p (k-1)) with
  | true =>
   have er:ya5 c (kas_asc p (f+1) k)=k:=by show ya5 c (if c (at' p k) (at' p (k-1))=true then _ else _)=k;rw [e];rfl
   rw [er];refine ⟨zco l1 l2 ?_,zzw _,by omega,h,fun _=>e⟩;show kok n c (if c (at' p k) (at' p (k-1))=true then _ else _)=true;rw [e];rfl
  | false =>
   have e':c (at' p (k-1)) (at' p k)=true:=by rw [T.tot _ _ l1 l2 (P.ne (by omega) (by omega) (by omega)),e];rfl
   obtain ⟨a1,a2,a3,a4,a5⟩:=ziw T P f (k+1) (by omega) (by omega) (h.grow T P h1 (by omega) e');have er:ya5 c (kas_asc p (f+1) k)=ya5 c (kas_asc p f (k+1)):=by show ya5 c (if c (at' p k) (at' p (k-1))=true then _ else _)=_;rw [e];rfl
   rw [er];refine ⟨zco l1 l2 ?_,by omega,by omega,a4,fun z=>a5 (by omega)⟩;show kok n c (if c (at' p k) (at' p (k-1))=true then _ else _)=true;rw [e];exact a1
theorem zj0 (T:Tot n c) (P:Pm n p):∀ (f k:Nat),1<=k->k+f<=n->Dsc c p k->kok n c (kas_desc f p k 0)=true/\∃ m,ya5 c (kas_desc f p k 0)=(p,m,0)/\k<=m/\m<=k+f/\Dsc c p m
 | 0,k,_,_,h=>⟨rfl,k,rfl,zzw _,zzw _,h⟩
 | f+1,k,h1,hk,h=>by
  have l1:=P.lt (i:=k) (by omega);have l2:=P.lt (i:=k-1) (by omega);cases e:c (at' p k) (at' p (k-1)) with
  | true =>
   obtain ⟨a1,m,a2,a3,a4,a5⟩:=zj0 T P f (k+1) (by omega) (by omega) (h.grow T P h1 (by omega) e);refine ⟨zco l1 l2 ?_,m,?_,by omega,by omega,a5⟩
   .show kok n c (if c (at' p k) (at' p (k-1))=true then _ else _)=true;rw [e];exact a1
   .show ya5 c (if c (at' p k) (at' p (k-1))=true then _ else _)=_;rw [e];exact a2
  | false =>
   have e':c (at' p (k-1)) (at' p k)=true:=by rw [T.tot _ _ l1 l2 (P.ne (by omega) (by omega) (by omega)),e];rfl
   refine ⟨zco l1 l2 ?_,k,?_,zzw _,by omega,h⟩
   .show kok n c (if c (at' p k) (at' p (k-1))=true then _ else _)=true;rw [e];refine zco l2 l1 ?_;show kok n c (if c (at' p (k-1)) (at' p k)=true then _ else _)=true;rw [e'];rfl
   .show ya5 c (if c (at' p k) (at' p (k-1))=true then _ else _)=_;rw [e];show ya5 c (if c (at' p (k-1)) (at' p k)=true then _ else _)=_;rw [e'];rfl
theorem zu9 (P:Pm n p) (m:Nat):Pm n (kas_rev p 0 m):=List.Perm.trans (Array.perm_iff_toList_perm.mp (mirror_perm p 0 m ((m-0)/2))) P
theorem zsm (P:Pm n p) {m:Nat} (hm:m<=n) (h:Dsc c p m):Asc c (kas_rev p 0 m) m:=fun i j hij hj=>by
 have hs:=P.size;have g:∀ i,i<m->at' (kas_rev p 0 m) i=at' p (m-1-i):=fun i hi=>zx4 (by unfold kas_rev;rw [getElem?_mirror_all (by omega),if_pos ⟨zAd _,hi⟩,show 0+m-1-i=m-1-i by omega]);rw [g i (by omega),g j hj];exact h _ _ (by omega) (by omega)
theorem zny (T:Tot n c) (P:Pm n p) (h2:2<=n):kok n c (kas_count n p)=true/\∃ m q,ya5 c (kas_count n p)=(m,q)/\1<=m/\m<=n/\Pm n q/\Asc c q m:=by
 obtain ⟨a1,a2,a3,a4,a5⟩:=ziw T P (n-1) 1 (zzw _) (by omega) (fun i j hij hj=>by omega);unfold kas_count;rw [zb8];generalize hm:ya5 c (kas_asc p (n-1) 1)=m at *;have main:kok n c (if (m==n)=true then .ret (m,p) else if m>1 then .ask (p.getD 0 0) (p.getD (m-1) 0) fun d=>if d=true then .ret (m,p) else kas_descPart m n (kas_rev p 0 m) else kas_descPart m n p)=true/\∃ m' q,ya5 c (if (m==n)=true then .ret (m,p) else if m>1 then .ask (p.getD 0 0) (p.getD (m-1) 0) fun d=>if d=true then .ret (m,p) else kas_descPart m n (kas_rev p 0 m) else kas_descPart m n p)=(m',q)/\1<=m'/\m'<=n/\Pm n q/\Asc c q m':=by
  by_cases he:m=n
  .rw [if_pos (by simpa using he)];exact ⟨rfl,m,p,rfl,a2,by omega,P,a4⟩
  .rw [if_neg (by simpa using he)];by_cases h1:m>1
   .rw [if_pos h1];have e:c (at' p 0) (at' p (m-1))=true:=a4 0 (m-1) (by omega) (by omega);refine ⟨zco (P.lt (i:=0) (by omega)) (P.lt (i:=m-1) (by omega)) ?_,m,p,?_,a2,by omega,P,a4⟩
    .show kok n c (if c (at' p 0) (at' p (m-1))=true then _ else _)=true;rw [e];rfl
    .show ya5 c (if c (at' p 0) (at' p (m-1))=true then _ else _)=_;rw [e];rfl
   .rw [if_neg h1];obtain rfl:m=1:=by omega
    have e:=a5 (by omega);obtain ⟨b1,k,b2,b3,b4,b5⟩:=zj0 T P (n-(1+1)) (1+1) (by omega) (by omega) (fun i j hij hj=>by
     obtain rfl:j=1:=by omega
     obtain rfl:i=0:=by omega
     exact e)
    have P':=zu9 P k;obtain ⟨d1,d2,d3,d4,_⟩:=ziw T P' (n-k) k (by omega) (by omega) (zsm P (by omega) b5);unfold kas_descPart;rw [zb8,b2];refine ⟨zcf _ b1 ?_,ya5 c (kas_asc (kas_rev p 0 k) (n-k) k),kas_rev p 0 k,?_,by omega,by omega,P',d4⟩
    .rw [b2];exact zcf _ d1 rfl
    .show ya5 c ((kas_asc (kas_rev p 0 k) (n-k) k).bind _)=_;rw [zb8];rfl
 exact ⟨zcf _ a1 (by rw [hm];exact main.1),main.2⟩
theorem zeq (T:Tot n c) (P:Pm n p) {k:Nat} (hk:k<n) (h:Asc c p k):∀ (f l r:Nat),l<=r->r<=k->r-l<=f->(∀ i,i<l->c (at' p i) (at' p k)=true)->(∀ i,r<=i->i<k->c (at' p k) (at' p i)=true) ->
  kok n c (kas_place p k f l r)=true/\ya5 c (kas_place p k f l r)<=k/\(∀ i,i<ya5 c (kas_place p k f l r)->c (at' p i) (at' p k)=true)/\∀ i,ya5 c (kas_place p k f l r)<=i->i<k->c (at' p k) (at' p i)=true
 | 0,l,r,h1,h2,h3,h4,h5=>⟨rfl,by show l<=k;omega,h4,fun i hi hik=>h5 i (by have:l<=i:=hi;omega) hik⟩
 | f+1,l,r,h1,h2,h3,h4,h5=>by
  by_cases hlr:l>=r
  .have er:kas_place p k (f+1) l r=.ret l:=by rw [kas_place,if_pos hlr]
   rw [er];exact ⟨rfl,by show l<=k;omega,h4,fun i hi hik=>h5 i (by have:l<=i:=hi;omega) hik⟩
  .have er:kas_place p k (f+1) l r=.ask (at' p k) (at' p ((l+r)/2)) fun d=>if d=true then kas_place p k f l ((l+r)/2) else kas_place p k f ((l+r)/2+1) r:=by rw [kas_place,if_neg hlr];rfl
   rw [er];have hm:(l+r)/2<k:=by omega
   have l1:=P.lt hk;have l2:=P.lt (i:=(l+r)/2) (by omega);have eo:∀ (b:Bool),c (at' p k) (at' p ((l+r)/2))=b->ya5 c (.ask (at' p k) (at' p ((l+r)/2)) fun d=>if d=true then kas_place p k f l ((l+r)/2) else kas_place p k f ((l+r)/2+1) r)=ya5 c (if b=true then kas_place p k f l ((l+r)/2) else kas_place p k f ((l+r)/2+1) r):=fun b e=>by rw [ya5,e]
   cases e:c (at' p k) (at' p ((l+r)/2)) with
   | true =>
    obtain ⟨a1,a2,a3,a4⟩:=zeq T P hk h f l ((l+r)/2) (by omega) (by omega) (by omega) h4 fun i hi hik=>by
     by_cases q:i=(l+r)/2
     .rw [q];exact e
     .exact T.tr _ _ _ l1 l2 (P.lt (by omega)) e (h _ _ (by omega) hik)
    rw [eo _ e,if_pos rfl];exact ⟨zco l1 l2 (by rw [e,if_pos rfl];exact a1),a2,a3,a4⟩
   | false =>
    have e':c (at' p ((l+r)/2)) (at' p k)=true:=by rw [T.tot _ _ l1 l2 (P.ne (by omega) (by omega) (by omega)),e];rfl
    obtain ⟨a1,a2,a3,a4⟩:=zeq T P hk h f ((l+r)/2+1) r (by omega) h2 (by omega) (fun i hi=>by
     by_cases q:i=(l+r)/2
     .rw [q];exact e'
     .exact T.tr _ _ _ (P.lt (by omega)) l2 l1 (h _ _ (by omega) hm) e') h5
    rw [eo _ e,if_neg (by simp)];exact ⟨zco l1 l2 (by rw [e,if_neg (by simp)];exact a1),a2,a3,a4⟩
theorem zn6 (T:Tot n c):∀ (f:Nat) (p:Array Nat) (k:Nat),Pm n p->1<=k->k+f=n->Asc c p k->kok n c (kas_bin f p k)=true/\Pm n (ya5 c (kas_bin f p k))/\Asc c (ya5 c (kas_bin f p k)) n
 | 0,p,k,P,_,hk,h=>⟨rfl,P,by have:k=n:=hk;rw [<- this];exact h⟩
 | f+1,p,k,P,h1,hk,h=>by
  obtain ⟨a1,a2,a3,a4⟩:=zeq T P (k:=k) (by omega) h k 0 k (zAd _) (zzw _) (by omega) (fun i hi=>by omega) fun i hi hik=>by omega
  have er:kas_bin (f+1) p k=(kas_place p k k 0 k).bind fun l=>kas_bin f (bubble p k (k-l)) (k+1):=rfl;rw [er,zb8];generalize hl:ya5 c (kas_place p k k 0 k)=l at *;have P':Pm n (bubble p k (k-l)):=List.Perm.trans (Array.perm_iff_toList_perm.mp (bubble_perm p k (k-l))) P;have hs:=P.size;have g:∀ i,i<k+1->at' (bubble p k (k-l)) i=at' p (if i<l then i else if i=l then k else i-1):=fun i hi=>zx4 (by
   rw [getElem?_bubble (by omega) (k-l) (by omega),show k-(k-l)=l by omega];by_cases q1:i=l
   .rw [if_pos q1,if_neg (by omega),if_pos q1]
   .rw [if_neg q1];by_cases q2:i<l
    .rw [if_neg (by omega),if_pos q2]
    .rw [if_pos (by omega),if_neg q2,if_neg q1])
  obtain ⟨b1,b2,b3⟩:=zn6 T f (bubble p k (k-l)) (k+1) P' (by omega) (by omega) fun i j hij hj=>by
   rw [g i (by omega),g j hj];by_cases q1:j<l
   .rw [if_pos q1,if_pos (by omega)];exact h i j hij (by omega)
   .rw [if_neg q1];by_cases q2:j=l
    .rw [if_pos q2,if_pos (by omega)];exact a3 i (by omega)
    .rw [if_neg q2];by_cases q3:i<l
     .rw [if_pos q3];exact h i (j-1) (by omega) (by omega)
     .rw [if_neg q3];by_cases q4:i=l
      .rw [if_pos q4];exact a4 (j-1) (by omega) (by omega)
      .rw [if_neg q4];exact h (i-1) (j-1) (by omega) (by omega)
  exact ⟨zcf _ a1 (by rw [hl];exact b1),b2,b3⟩
theorem zmw (h2:2<=n) (T:Tot n c):kok n c (kas_sort n)=true/\Pm n (ya5 c (kas_sort n))/\(ya5 c (kas_sort n)).toList.Pairwise fun x y=>c x y=true:=by
 have P0:Pm n (List.toArray (List.range n)):=List.Perm.refl _;obtain ⟨a1,m,q,a2,a3,a4,a5,a6⟩:=zny T P0 h2;have er:kas_sort n=(kas_count n (List.toArray (List.range n))).bind fun r=>if r.1<n then kas_bin (n-max r.1 1) r.2 (max r.1 1) else .ret r.2:=rfl
 have pw:∀ {q:Array Nat},Pm n q->Asc c q n->q.toList.Pairwise fun x y=>c x y=true:=fun {q} P h=>by rw [List.pairwise_iff_getElem];intro i j hi hj hij;rw [zz9,P.size] at hi hj;have e:=h i j hij hj;have g1:=zhp (p:=q) (i:=i) (by rw [P.size];exact hi);have g2:=zhp (p:=q) (i:=j) (by rw [P.size];exact hj);rw [ub2 (by rw [P.size];exact hi)] at g1;rw [ub2 (by rw [P.size];exact hj)] at g2;rw [Array.getElem_toList,Array.getElem_toList,zz2 g1,zz2 g2];exact e
 rw [er,zb8,a2];show kok n c _=true/\Pm n (ya5 c (if m<n then kas_bin (n-max m 1) q (max m 1) else .ret q))/\(ya5 c (if m<n then kas_bin (n-max m 1) q (max m 1) else .ret q)).toList.Pairwise _;by_cases hm:m<n
 .rw [if_pos hm,show max m 1=m by omega];obtain ⟨b1,b2,b3⟩:=zn6 T (n-m) q m a5 a3 (by omega) a6;exact ⟨zcf _ a1 (by rw [a2];show kok n c (if m<n then _ else _)=true;rw [if_pos hm,show max m 1=m by omega];exact b1),b2,pw b2 b3⟩
 .rw [if_neg hm];obtain rfl:m=n:=by omega
  exact ⟨zcf _ a1 (by rw [a2];show kok m c (if m<m then _ else _)=true;rw [if_neg hm];rfl),a5,pw a5 a6⟩
end
theorem zcp {α:Type} {cmp:Nat->Nat->(Bool->Shared->Prop)->Shared->Prop} {c:Nat->Nat->Bool} {I:Shared->Prop} {n:Nat} (h:∀ i j C s,i<n->j<n->I s->(∀ s',I s'->C (c i j) s')->cmp i j C s) {Q:α->Shared->Prop} :
  ∀ (t:KasT α) (s:Shared),kok n c t=true->I s->(∀ s',I s'->Q (ya5 c t) s')->t.kasWp cmp Q s
 | .ret _,s,_,hi,q=>q s hi
 | .ask i j k,s,hk,hi,q=>by rw [kok,zzn,zzn,zAu,zAu] at hk;exact h i j _ s hk.1.1 hk.1.2 hi fun s' hi'=>zcp h (k (c i j)) s' hk.2 hi' q
theorem zmv {n:Nat} (h2:2<=n) {c:Nat->Nat->Bool} (tot:∀ i j,i<j->j<n->c j i=!c i j) (tr:∀ i j k,i<n->j<n->k<n->c i j=true->c j k=true->c i k=true) :
  kok n c (kas_sort n)=true/\(ya5 c (kas_sort n)).toList.length=n/\(∀ i,i<n->i∈(ya5 c (kas_sort n)).toList)/\(∀ i∈(ya5 c (kas_sort n)).toList,i<n)/\(ya5 c (kas_sort n)).toList.Pairwise fun x y=>c x y=true:=by
 obtain ⟨a,b,d⟩:=zmw (c:=c) h2 ⟨fun i j hi hj hne=>by
  rcases Nat.lt_or_gt_of_ne hne with h | h
  .exact tot i j h hj
  .rw [tot j i h hi,Bool.not_not],tr⟩
 exact ⟨a,by rw [zz9];exact b.size,fun i hi=>(List.Perm.mem_iff b).mpr (zAt.mpr hi),fun i hi=>zAt.mp ((List.Perm.mem_iff b).mp hi),d⟩
end
section
section
variable {prog:Program} {w:World} {A:Around} {E:Value->Shared->Prop} {s:Shared} {b:Bool} {Q:Bool->Shared->Prop}
theorem ztf {x y:Key} {v u:Value} (rx:RelV (kV x) v) (ry:RelV (kV y) u) (hs:ycm x y=true) (c:Bool) (h:Q (kLt x y) s):wpAny (model prog w) A (oneLt' c v u) Q E s:=by
 match x,y,hs with
 | .inl i,.inl j,_ =>
  obtain ⟨t,rfl⟩:=rx;obtain ⟨t',rfl⟩:=ry;cases c with
  | true=>exact kat_lt_int h
  | false=>exact kat_one _ _ (PyProof.Rows.lt_int h)
 | .inr (some i),.inr (some j),_ =>
  obtain ⟨t,rfl⟩:=rx;obtain ⟨t',rfl⟩:=ry;cases c with
  | true=>exact oneLt_str h
  | false=>exact kat_one _ _ (PyProof.Rows.lt_str h)
theorem zxk {x y:Key} {v u:Value} (rx:RelV (kV x) v) (ry:RelV (kV y) u) (hs:ycm x y=true) (h:Q (decide (x=y)) s):wpAny (model prog w) A (eqBool v u) Q E s:=by
 match x,y,hs with
 | .inl i,.inl j,_ =>
  obtain ⟨t,rfl⟩:=rx;obtain ⟨t',rfl⟩:=ry;refine wpAny_eqBool_int ?_;have e:(i==j)=decide ((Sum.inl i:Key)=Sum.inl j):=by
   by_cases q:i=j
   .subst q;simp
   .simp [q]
  rw [e];exact h
 | .inr (some i),.inr (some j),_ =>
  obtain ⟨t,rfl⟩:=rx;obtain ⟨t',rfl⟩:=ry;refine wpAny_eqBool_str ?_;have e:decide (i=j)=decide ((Sum.inr (some i):Key)=Sum.inr (some j)):=by
   by_cases q:i=j
   .subst q;simp
   .simp [q]
  rw [e];exact h
theorem zjk:∀ (ks ls:List Key) (vs us:List Value) (i:Nat),Vals (ks.map kV) vs->Vals (ls.map kV) us->alike ks ls=true->Q (ya3 ks ls) s->KatLex prog w A b false Q (vs.zip us) i s
 | [],[],vs,us,i,hv,hu,_,h=>by cases hv;exact kat_nil h
 | x::ks,y::ls,vs,us,i,hv,hu,ha,h=>by
  rw [alike,zzn] at ha;cases hv with
  | cons rx hv =>
   cases hu with
   | cons ry hu =>
    rw [List.zip_cons_cons];refine kat_cons (zxk rx ry ha.1 ?_);rw [ya3] at h;by_cases e:x=y
    .rw [if_pos e] at h;rw [zz0 e];exact kat_yes (zjk ks ls _ _ (i+1) hv hu ha.2 h)
    .rw [if_neg e] at h;rw [zz7 e];exact kat_no (ztf rx ry ha.1 _ h)
 | [],_::_,_,_,_,_,_,ha,_=>by cases ha
 | _::_,[],_,_,_,_,_,ha,_=>by cases ha
end
end
section
open PySem L2
theorem zr2 {a b:Str} (h:a.cps.toList=b.cps.toList):a=b:=by obtain ⟨⟨a⟩⟩:=a;obtain ⟨⟨b⟩⟩:=b;cases (show a=b from h);rfl
theorem zmx (x:Key):kLt x x=false:=by
 rcases x with a | _ | a
 .exact zz7 (Int.lt_irrefl a)
 .rfl
 .exact zz7 (List.lt_irrefl _)
theorem zig {x y:Key} (hs:ycm x y=true) (hn:x≠y):kLt y x=!kLt x y:=by
 match x,y,hs with
 | .inl a,.inl b,_ =>
  have:a≠b:=fun e=>hn (by rw [e]);by_cases h:a<b
  .rw [show kLt (.inl b) (.inl a)=false from zz7 (by omega),show kLt (.inl a) (.inl b)=true from zz0 h];rfl
  .rw [show kLt (.inl b) (.inl a)=true from zz0 (by omega),show kLt (.inl a) (.inl b)=false from zz7 h];rfl
 | .inr (some a),.inr (some b),_ =>
  have hne:a.cps.toList≠b.cps.toList:=fun e=>hn (by rw [zr2 e]);by_cases h:a.cps.toList<b.cps.toList
  .rw [show kLt (.inr (some b)) (.inr (some a))=false from zz7 (List.lt_asymm h),show kLt (.inr (some a)) (.inr (some b))=true from zz0 h];rfl
  .have:b.cps.toList<a.cps.toList:=by
    rcases Nat.lt_trichotomy 0 0 with z | z | z
    .omega
    .exact Classical.byContradiction fun q=>hne (List.le_antisymm (List.not_lt.mp q) (List.not_lt.mp h))
    .omega
   rw [show kLt (.inr (some b)) (.inr (some a))=true from zz0 this,show kLt (.inr (some a)) (.inr (some b))=false from zz7 h];rfl
theorem zrf {x y z:Key} (h1:kLt x y=true) (h2:kLt y z=true):kLt x z=true:=by
 match x,y,z with
 | .inl a,.inl b,.inl c=>exact zz0 (Int.lt_trans (zAf h1) (zAf h2))
 | .inr (some a),.inr (some b),.inr (some c)=>exact zz0 (List.lt_trans (zAf h1) (zAf h2))
 | .inl _,.inr _,_=>cases h1
 | .inr none,.inl _,_=>cases h1
 | .inr (some _),.inl _,_=>cases h1
 | .inl _,.inl _,.inr _=>cases h2
 | .inr (some _),.inr (some _),.inl _=>cases h2
 | .inr none,.inr _,_=>cases h1
 | .inr (some _),.inr none,_=>cases h1
 | .inr (some _),.inr (some _),.inr none=>cases h2
theorem zbu:∀ ks:List Key,ya3 ks ks=false
 | []=>rfl
 | x::ks=>by rw [ya3,if_pos rfl];exact zbu ks
theorem zdh:∀ {ks ls:List Key},alike ks ls=true->ks≠ls->ya3 ls ks=!ya3 ks ls
 | [],[],_,h=>absurd rfl h
 | x::ks,y::ls,ha,h=>by
  rw [alike,zzn] at ha;rw [ya3,ya3];by_cases e:x=y
  .subst e;rw [if_pos rfl,if_pos rfl];exact zdh ha.2 fun q=>h (by rw [q])
  .rw [if_neg e,if_neg (Ne.symm e)];exact zig ha.1 e
 | [],_::_,ha,_=>by cases ha
 | _::_,[],ha,_=>by cases ha
theorem zic:∀ {a b c:List Key},alike a b=true->alike b c=true->ya3 a b=true->ya3 b c=true->ya3 a c=true
 | x::a,y::b,z::c,h1,h2,l1,l2=>by
  rw [alike,zzn] at h1 h2;rw [ya3] at l1 l2 ⊢;by_cases e1:x=y
  .subst e1;rw [if_pos rfl] at l1;by_cases e2:x=z
   .subst e2;rw [if_pos rfl] at l2 ⊢;exact zic h1.2 h2.2 l1 l2
   .rw [if_neg e2] at l2 ⊢;exact l2
  .rw [if_neg e1] at l1;by_cases e2:y=z
   .subst e2;rw [if_neg e1];exact l1
   .rw [if_neg e2] at l2;have l3:=zrf l1 l2;by_cases e3:x=z
    .subst e3;rw [zmx] at l3;cases l3
    .rw [if_neg e3];exact l3
 | [],_,_,_,_,l1,_=>by simp [ya3] at l1
 | _::_,[],_,_,_,l1,_=>by cases l1
 | _::_,_::_,[],_,_,_,l2=>by cases l2
end
section
theorem zie {prog:Program} {w:World} {A:Around} {s:Shared} {b:Bool} {vs:List Value} {kss:List (List Key)} {Q:Array Nat->Shared->Prop} (hl:vs.length=kss.length) (h2:2<=kss.length) (nd:kss.Nodup)
  (al:∀ x∈kss,∀ y∈kss,alike x y=true)
  (hp:∀ i,i<kss.length->∃ a o qc n,vs.getD i .none=.ref a/\s.heap.get? a=some o/\o.data=.seq qc n/\Vals ((kss.getD i []).map kV) qc.toList)
  (q:∀ p:Array Nat,p.toList.length=kss.length->(∀ i,i<kss.length->i∈p.toList)->(∀ i∈p.toList,i<kss.length)->(p.toList.Pairwise fun i j=>ya3 (kss.getD i []) (kss.getD j [])=true)->Q p s) :
  (kas_sort vs.length).kasWp (kas_ask prog w A (tuples' b) vs) Q s:=by
 rw [hl];have mem:∀ i,i<kss.length->kss.getD i []∈kss:=fun i hi=>by rw [zzr,zzm hi];exact ua5 hi
 have inj:∀ i j,i<kss.length->j<kss.length->kss.getD i []=kss.getD j []->i=j:=fun i j hi hj e=>by rw [zzr,zzr,zzm hi,zzm hj] at e;exact (List.getElem_inj nd).mp e
 have T:=zmv (c:=fun i j=>ya3 (kss.getD i []) (kss.getD j [])) h2 (fun i j hij hj=>zdh (al _ (mem i (by omega)) _ (mem j hj)) fun e=>by have:=inj i j (by omega) hj e;omega)
  fun i j k hi hj hk=>zic (al _ (mem i hi) _ (mem j hj)) (al _ (mem j hj) _ (mem k hk))
 refine zcp (n:=kss.length) (c:=fun i j=>ya3 (kss.getD i []) (kss.getD j [])) (I:=fun s'=>s'=s) (fun i j C s' hi hj hs hC=>?_) _ s T.1 rfl (fun s' hs=>by subst hs;exact q _ T.2.1 T.2.2.1 T.2.2.2.1 T.2.2.2.2);subst hs;obtain ⟨a,o,qc,n,e1,e2,e3,e4⟩:=hp i hi;obtain ⟨a',o',its',n',f1,f2,f3,f4⟩:=hp j hj;show wpAny (model prog w) A (keyLt' (tuples' b) (vs.getD i .none) (vs.getD j .none)) C (fun _ _=>False) s';rw [e1,f1];have hz:decide (qc.size<its'.size)=false:=by
  have l1:=e4.length;have l2:=f4.length;have l3:∀ {x y:List Key},alike x y=true->x.length=y.length:=fun {x}=>by
   induction x with
   | nil=>intro y h;cases y with | nil=>rfl | cons _ _=>cases h
   | cons p x ih=>intro y h;cases y with | nil=>cases h | cons r y=>rw [alike,Bool.and_eq_true] at h;simp [ih h.2]
  have:=l3 (al _ (mem i hi) _ (mem j hj));rw [zzo] at l1 l2;have s1:qc.toList.length=qc.size:=zz9;have s2:its'.toList.length=its'.size:=zz9;exact zz7 (by rw [<- s1,<- s2,<- l1,<- l2,this];exact zAp _)
 refine kat_lt e2 e3 f2 f3 ?_;rw [hz];exact zjk _ _ _ _ 0 e4 f4 (al _ (mem i hi) _ (mem j hj)) (hC s' rfl)
end
section
open PySem L2
variable {l:List (List Kt)}
theorem zfz {x k:List Kt}:∀ {l:List (List Kt)},x∈ydn k l↔x=k\/x∈l
 | []=>by simp [ydn]
 | y::r=>by
  rw [ydn];split
  .simp
  .rw [ua1,zfz (l:=r),ua1];constructor
   .rintro (h | h | h)
    .exact .inr (.inl h)
    .exact .inl h
    .exact .inr (.inr h)
   .rintro (h | h | h)
    .exact .inr (.inl h)
    .exact .inl h
    .exact .inr (.inr h)
theorem zbv {x:List Kt}:∀ {l:List (List Kt)},x∈yax l↔x∈l
 | []=>by simp [yax]
 | y::r=>by rw [yax,zfz,zbv (l:=r),ua1]
theorem zjl (k:List Kt):∀ l:List (List Kt),(ydn k l).length=l.length+1
 | []=>rfl
 | y::r=>by
  rw [ydn];split
  .rfl
  .rw [zz4,zjl k r,zz4]
theorem zdi:∀ l:List (List Kt),(yax l).length=l.length
 | []=>rfl
 | y::r=>by rw [yax,zjl,zdi r,zz4]
theorem zlx {k:List Kt}:∀ {l:List (List Kt)},(∀ x∈l,alike k x=true/\alike x k=true/\k≠x)->(∀ x∈l,∀ y∈l,alike x y=true)->(l.Pairwise fun x y=>ya3 x y=true)->(ydn k l).Pairwise fun x y=>ya3 x y=true
 | [],_,_,_=>by simp [ydn]
 | x::r,ha,hb,hp=>by
  rw [ydn];obtain ⟨h1,h2⟩:=ud5.mp hp;split
  .rename_i hk;refine ud5.mpr ⟨fun y hy=>?_,hp⟩;rcases omc hy with rfl | hy
   .exact hk
   .exact zic (ha x (.head _)).1 (hb x (.head _) y (.tail _ hy)) hk (h1 y hy)
  .rename_i hk;refine ud5.mpr ⟨fun y hy=>?_,zlx (fun z hz=>ha z (.tail _ hz)) (fun z hz u hu=>hb z (.tail _ hz) u (.tail _ hu)) h2⟩;rcases zfz.mp hy with rfl | hy
   .have:=zdh (ha x (.head _)).1 (ha x (.head _)).2.2;rw [this];cases h:ya3 y x with
    | true=>exact absurd h hk
    | false=>rfl
   .exact h1 y hy
theorem zfv:∀ {l:List (List Kt)},l.Nodup->(∀ x∈l,∀ y∈l,alike x y=true)->(yax l).Pairwise fun x y=>ya3 x y=true
 | [],_,_=>by simp [yax]
 | k::r,nd,ha=>by rw [yax];obtain ⟨h1,h2⟩:=ua7.mp nd;refine zlx (fun x hx=>?_) (fun x hx y hy=>ha x (.tail _ (zbv.mp hx)) y (.tail _ (zbv.mp hy))) (zfv h2 fun x hx y hy=>ha x (.tail _ hx) y (.tail _ hy));have hx:=zbv.mp hx;exact ⟨ha k (.head _) x (.tail _ hx),ha x (.tail _ hx) k (.head _),fun e=>h1 (by rw [e];exact hx)⟩
theorem zlv:∀ {l m:List (List Kt)},(∀ x,x∈l↔x∈m)->(∀ x∈l,∀ y∈l,alike x y=true)->(l.Pairwise fun x y=>ya3 x y=true)->(m.Pairwise fun x y=>ya3 x y=true)->l=m
 | [],[],_,_,_,_=>rfl
 | [],y::m,h,_,_,_=>absurd ((h y).mpr (.head _)) (by simp)
 | x::l,[],h,_,_,_=>absurd ((h x).mp (.head _)) (by simp)
 | x::l,y::m,h,ha,p1,p2=>by
  obtain ⟨a1,a2⟩:=ud5.mp p1;obtain ⟨b1,b2⟩:=ud5.mp p2;have e:x=y:=by refine Classical.byContradiction fun hne=>?_;have hx:x∈m:=(omc ((h x).mp (.head _))).resolve_left hne;have hy:y∈l:=(omc ((h y).mpr (.head _))).resolve_left (Ne.symm hne);have:=zdh (ha x (.head _) y (.tail _ hy)) hne;rw [a1 y hy,b1 x hx] at this;cases this
  subst e;have ne1:∀ z∈l,z≠x:=fun z hz e=>by subst e;have:=a1 z hz;rw [zbu] at this;cases this
  have ne2:∀ z∈m,z≠x:=fun z hz e=>by subst e;have:=b1 z hz;rw [zbu] at this;cases this
  rw [zlv (l:=l) (m:=m) (fun z=>⟨fun hz=>(omc ((h z).mp (.tail _ hz))).resolve_left (ne1 z hz),fun hz=>(omc ((h z).mpr (.tail _ hz))).resolve_left (ne2 z hz)⟩) (fun z hz u hu=>ha z (.tail _ hz) u (.tail _ hu)) a2 b2]
theorem zfd {r:List (List Kt)} (h:ydc l=some r):l.length<=60/\l.Nodup/\(∀ x∈l,x≠[]/\∀ y∈l,alike x y=true)/\r=yax l:=by
 unfold ydc at h;split at h
 .rename_i hc;obtain ⟨c1,c2,c3⟩:=hc;cases h;refine ⟨c1,c2,fun x hx=>?_,rfl⟩;have:=oml c3 x hx;rw [zzn] at this;refine ⟨fun e=>?_,fun y hy=>oml this.2 y hy⟩;rw [e] at this;exact absurd this.1 (by simp)
 .cases h
theorem yez (nd:l.Nodup) (al:∀ x∈l,∀ y∈l,alike x y=true) {p:List Nat} (h1:∀ i,i<l.length->i∈p) (h2:∀ i∈p,i<l.length) (h3:p.Pairwise fun i j=>ya3 (l.getD i []) (l.getD j [])=true) :
  yax l=p.map fun i=>l.getD i []:=by
 have mem:∀ i,i<l.length->l.getD i []∈l:=fun i hi=>by rw [zzr,zzm hi];exact ua5 hi
 refine zlv (fun x=>?_) (fun x hx y hy=>al x (zbv.mp hx) y (zbv.mp hy)) (zfv nd al) (List.pairwise_map.mpr h3);rw [zbv,ua0];constructor
 .intro hx;obtain ⟨i,hi,rfl⟩:=List.getElem_of_mem hx;exact ⟨i,h1 i hi,by rw [zzr,zzm hi];rfl⟩
 .rintro ⟨i,hi,rfl⟩;exact mem i (h2 i hi)
end
section
variable {Q:Option Value->Shared->Prop}
def RawD (g:Heap) (d:Addr) (en:Array DictEntry) (ep:Nat):Prop:=∃ o,g.get? d=some o/\o.ExactDict/\o.data=.dict en ep
section
variable {prog:Program} {w:World} {A:Around} {E:Value->Shared->Prop} {s:Shared} {d j:Addr} {en:Array DictEntry} {ep i:Nat}
theorem RawD.ty (r:RawD s.heap d en ep):s.TypeIs (.ref d) "dict":=let ⟨o,a,b,_⟩:=r;⟨o,a,b.1⟩
theorem RawD.to {g g':Heap} (r:RawD g d en ep) (k:∀ o,g.get? d=some o->g'.get? d=some o):RawD g' d en ep:=let ⟨o,a,b⟩:=r;⟨o,k o a,b⟩
theorem zpc {Q:Value->Shared->Prop} (hm:(d==sysModules)=false) (r:RawD s.heap d en ep)
  (q:Q (.ref s.heap.objs.size) { s with heap:=s.heap.push { cls:=.type "dict_keyiterator",data:=.fields #[.ref d,.int 0 0,.int en.size 0,.int ep 0] } }):wpAny (model prog w) A (pyIter (.ref d)) Q E s:=by
 obtain ⟨o,a,b,c⟩:=id r;refine wpAny_pyIter_slot r.ty PySem.F.slot_dict_iter (zAc PySem.F.slot_dict_iter r.ty PySem.F.entry_dict_iter ?_ (PySem.F.args_dict_iter_1 _));unfold Builtin.«dict.__iter__»;refine zzg ?_;unfold Builtin.Dict.dictSlotNone;refine zzg (wpAny_notOrdered_dict r.ty ?_);show wpAny _ _ (pure (Value.ref d)) _ _ s;refine zzl (show wpAny _ _ (Builtin.Dict.showsAll d >>= _) _ _ s from ?_);unfold Builtin.Dict.showsAll;rw [if_neg (by rw [hm];exact zzx)];refine zzg (zzl (zzg (uc8 a c (zzg (wpAny_dictEpoch a c ?_)))));refine zzg (zAi (zzl ⟨_,rfl, "dict_keyiterator",_,⟨_,zzp _ rfl,rfl⟩,PySem.F.slot_dict_keyiterator_next.lookup,?_⟩));simpa [rawInt] using q
theorem zpb (t:s.heap.IsKeyIter j d i en.size ep) (r:RawD s.heap d en ep) (hi:i<en.size)
  (q:∀ g,g.IsKeyIter j d (i+1) en.size ep->Heap.SameBut j s.heap g->Q (some en[i].key) { s with heap:=g }):wpAny (model prog w) A (pyNext (.ref j)) Q E s:=by
 obtain ⟨o,a,b,c⟩:=id t;obtain ⟨od,ad,bd,cd⟩:=id r;unfold pyNext;refine zzg (wpAny_attempt (zAl (name:=Str.ofString "__next__") t.typeIs PySem.F.slot_dict_keyiterator_next (zAc PySem.F.slot_dict_keyiterator_next t.typeIs PySem.F.entry_dict_keyiterator_next ?_ (PySem.F.args_dict_keyiterator_next_1 _))));refine zzg (zzl (zzg (zzg ?_)))
 first | refine zzg (ud1 t.typeIs (zzl (zzg (ud3 a c ?_)))) | refine zzg (wpAny_typeNameOf_keyiter t.typeIs (zzl (zzg (ud3 a c ?_))))
 simp only [show Builtin.Dict_items.ownsTuple "dict_keyiterator"=false by decide,zAg,if_false];refine (show wpAny _ _ (if (Value.ref d==Value.none)=true then _ else _) _ _ s from ?_);rw [if_neg (show ¬ ((Value.ref d==Value.none)=true) from zzx)];refine zzg (zzl (zzg (uc8 ad cd ?_)));rw [if_neg (by simp)];refine zzg (zzl (zzg (wpAny_dictEpoch ad cd ?_)));rw [if_neg (by simp)];refine zzl ?_;simp only [show ¬ ((i:Int)<0) from by omega,if_false,Int.toNat_natCast,Array.getElem?_eq_getElem hi];refine zzg ?_
 first | refine zzg (ud1 t.typeIs (zzl (zzg (wpAny_isOneOf_keyiter t.typeIs ?_)))) | refine zzg (wpAny_typeNameOf_keyiter t.typeIs (zzl (zzg (wpAny_isOneOf_keyiter t.typeIs ?_))))
 refine (show wpAny _ _ (setField (.ref j) 1 (rawInt ((i:Int)+1)) >>= _) _ _ s from wpAny_bind (wpAny_setField a c (by simp) ?_));have t':(s.heap.update j (Obj.mapFields (·.setIfInBounds 1 (rawInt ((i:Int)+1))))).IsKeyIter j d (i+1) en.size ep :=
  ⟨_,Heap.get?_update_self _ a (Obj.isFreed_of_fields (ud7 c _)),(Obj.cls_mapFields ..).trans b,by rw [ud7 c];simp [rawInt]⟩
 refine zzg (uc2 (zzg (wpAny_isOneOf_keyiter (s:={ s with heap:=s.heap.update j (Obj.mapFields (·.setIfInBounds 1 (rawInt ((i:Int)+1)))) }) t'.typeIs ?_)));show wpAny _ _ (pure en[i].key) _ _ _;exact zzl (zzl ⟨_,rfl,zzl (q _ t' (ub3 ..))⟩)
theorem zsn (hh:A.handled=none) (t:s.heap.IsKeyIter j d en.size en.size ep) (r:RawD s.heap d en ep) (q:∀ g,Heap.ExtBut j s.heap g->Q none { s with heap:=g }):wpAny (model prog w) A (pyNext (.ref j)) Q E s:=by
 obtain ⟨o,a,b,c⟩:=id t;obtain ⟨od,ad,bd,cd⟩:=id r;unfold pyNext;refine zzg (wpAny_attempt (zAl (name:=Str.ofString "__next__") t.typeIs PySem.F.slot_dict_keyiterator_next (zAc PySem.F.slot_dict_keyiterator_next t.typeIs PySem.F.entry_dict_keyiterator_next ?_ (PySem.F.args_dict_keyiterator_next_1 _))));refine zzg (zzl (zzg (zzg ?_)))
 first | refine zzg (ud1 t.typeIs (zzl (zzg (ud3 a c ?_)))) | refine zzg (wpAny_typeNameOf_keyiter t.typeIs (zzl (zzg (ud3 a c ?_))))
 simp only [show Builtin.Dict_items.ownsTuple "dict_keyiterator"=false by decide,zAg,if_false];refine (show wpAny _ _ (if (Value.ref d==Value.none)=true then _ else _) _ _ s from ?_);rw [if_neg (show ¬ ((Value.ref d==Value.none)=true) from zzx)];refine zzg (zzl (zzg (uc8 ad cd ?_)));rw [if_neg (by simp)];refine zzg (zzl (zzg (wpAny_dictEpoch ad cd ?_)));rw [if_neg (by simp)];refine zzl ?_;simp only [show ¬ ((en.size:Int)<0) from by omega,if_false,Int.toNat_natCast,Array.getElem?_eq_none (Nat.le_refl en.size)];refine zzg ?_
 first | refine zzg (ud1 t.typeIs (zzl ?_)) | refine zzg (wpAny_typeNameOf_keyiter t.typeIs (zzl ?_))
 refine (show wpAny _ _ (setField (.ref j) 0 .none >>= _) _ _ s from wpAny_bind (wpAny_setField a c (by simp) ?_));refine (show wpAny _ _ (newExc (.type "StopIteration") [] >>= _) _ _ _ from zzg ?_);simp only [newExc,newTuple];refine zzg (zAi ?_ (by size_fits));refine wpAny_bind (m:=firstArgMember _ _) (wpAny_of_eq (a:=Value.none) (by first | rfl | (simp only [firstArgMember];rfl)) (wpAny_newObj_type ?_ (by size_fits)));simp only [raiseNew];refine zzg (wpAny_handled ?_);rw [show A.in1.handled=none from hh];refine zzg (zzl (wpAny_throw ?_));exact zzg (wpAny_isInstance (T:="StopIteration") (b:=true) ⟨_,zzp _ rfl,rfl⟩ isSubtype_stop (zzl (q _ (((ub3 ..).extBut.push _).push _))))
theorem zlq (hh:A.handled=none) (j d:Addr) (hne:d≠j) (en:Array DictEntry) (ep:Nat) :
  Walks prog w A j [j,d] [j] en.size (fun i v=>∃ e,en[i]?=some e/\v=e.key) (fun i h=>h.IsKeyIter j d i en.size ep/\RawD h d en ep) where
 sub:=fun b hb=>by simp at hb;simp [hb]
 frame:=fun _ _ _ st hk=>⟨st.1.at fun o e=>hk j (by simp) o e,st.2.to fun o e=>hk d (by simp) o e⟩
 item:=fun i s Q E hi st hQ=>zpb st.1 st.2 hi fun g t' hs=>hQ _ g s.toks ⟨en[i],by simp [hi],rfl⟩ ⟨t',st.2.to fun o e=>hs.extBut d o hne e⟩ fun b o hb e=>hs.extBut b o (fun h=>hb (by simp [h])) e
 done:=fun s Q E st hQ=>zsn hh st.1 st.2 fun g he=>hQ g s.toks fun b o hb e=>he b o (fun h=>hb (by simp [h])) e
 self:=fun _ _ _ _ st hQ=>wpAny_pyIter_keyiter st.1 hQ
theorem zlr (lo:(d==sysModules)=false):KdlSrc prog w "dict" d d en.size (fun i v=>∃ e,en[i]?=some e/\v=e.key) (fun h=>RawD h d en ep) where
 type:=fun _ r=>r.ty
 there:=fun _ r=>⟨let ⟨_,a,_⟩:=r;zzv a,let ⟨_,a,_⟩:=r;zzv a⟩
 keep:=fun _ _ r hk=>r.to fun o e=>hk d (.inl rfl) o e
 notList:=by decide
 notTuple:=by decide
 hint:=fun _ _ _ _ r hq=>kdl_hint_dict r.ty hq
 iter:=fun _ s hh r=>⟨_,_,(fun _ _ hq=>zpc lo r hq),zlq hh _ d (zz5 (let ⟨_,a,_⟩:=r;zzv a)) en ep,⟨⟨_,zzp _ rfl,rfl,rfl⟩,r.to fun o e=>zzf _ e⟩⟩
end
end
section
variable {g:Heap} {vs:List Value} {a:Addr}
def KTup (g:Heap) (v:Value) (k:List Key):Prop:=∃ a o qc n,v=.ref a/\g.get? a=some o/\o.cls=.type "tuple"/\o.data=.seq qc n/\Vals (k.map kV) qc.toList
theorem KTup.to {g':Heap} {v:Value} {k:List Key} (h:KTup g v k) (q:∀ a o,v=.ref a->g.get? a=some o->g'.get? a=some o):KTup g' v k :=
 let ⟨a,o,qc,n,e,h1,h2⟩:=h;⟨a,o,qc,n,e,q a o e h1,h2⟩
abbrev KTups (g:Heap):List Value->List (List Key)->Prop:=Paired (KTup g)
theorem KTups.get {g:Heap}:∀ {vs:List Value} {ks:List (List Key)},KTups g vs ks->∀ i,i<ks.length->KTup g (vs.getD i .none) (ks.getD i [])
 | _,_,.nil,i,h=>by simp at h
 | _,_,.cons r t,0,_=>by simpa using r
 | _,_,.cons r t,i+1,h=>by simpa using KTups.get t i (by simpa using h)
theorem KTups.to {g g':Heap}:∀ {vs:List Value} {ks:List (List Key)},KTups g vs ks->(∀ a o,g.get? a=some o->Value.ref a∈vs->g'.get? a=some o)->KTups g' vs ks
 | _,_,.nil,_=>.nil
 | _,_,.cons r t,q=>.cons (r.to fun a o e h=>q a o h (by rw [e];exact .head _)) (KTups.to t fun a o h m=>q a o h (.tail _ m))
theorem KTups.len {ks:List (List Key)} (h:KTups g vs ks):vs.length=ks.length:=Paired.length h
theorem zhr:∀ vs:List Value,(vs.zip vs).map (·.2)=vs
 | []=>rfl
 | v::vs=>by rw [List.zip_cons_cons,zzi,zhr vs]
theorem ze4 {α:Type} (d:α) (l:List α):l=(List.range l.length).map fun i=>l.getD i d:=by
 apply List.ext_getElem?;intro i;rw [zAb];by_cases hi:i<l.length
 .rw [List.getElem?_range hi,zzm hi];simp [List.getD_eq_getElem?_getD,hi]
 .rw [ue0 (by simpa using hi),ue0 (by simpa using hi)];rfl
def tyK:Key->Value
 | .inl _=>.type "int"
 | .inr (some _)=>.type "str"
 | .inr none=>.type "NoneType"
theorem zrv (k:Key):(tyK k==tyK k)=true:=by
 rcases k with _ | _ | _
 .show (Value.type "int"==Value.type "int")=true;decide
 .show (Value.type "NoneType"==Value.type "NoneType")=true;decide
 .show (Value.type "str"==Value.type "str")=true;decide
theorem zoo {a b:Key} (h:ycm a b=true):tyK a=tyK b:=by rcases a with a | _ | a<;>rcases b with b | _ | b<;>first | rfl | cases h
section
variable {prog:Program} {w:World} {A:Around} {E:Value->Shared->Prop} {s:Shared}
theorem zml {M:Model} {k:Key} {v:Value} (r:RelV (kV k) v):Looks M g (typeOf v) (tyK k):=by
 rcases k with i | _ | x
 .obtain ⟨t,rfl⟩:=r;exact .now
 .cases r;exact .now
 .obtain ⟨t,rfl⟩:=r;exact .now
theorem yd9 {g:Heap} {k0:Key}:∀ {vs:List Value} {ks:List (List Key)},KTups g vs ks->(∀ k∈ks,∃ a r,k=a::r/\ycm k0 a=true)->∃ fs,KatTups g vs fs/\fs.length=ks.length/\∀ v∈fs,∃ a,RelV (kV a) v/\tyK a=tyK k0
 | _,_,.nil,_=>⟨[],KatTups.nil,rfl,fun _ h=>nomatch h⟩
 | _,k::ks,.cons r t,h=>by
  obtain ⟨a,o,qc,n,e,h1,h2,h3,h4⟩:=r;obtain ⟨b,q,rfl,hb⟩:=h k (.head _);obtain ⟨fs,f1,f2,f3⟩:=yd9 t fun k hk=>h k (.tail _ hk);rw [zzi] at h4;cases hi:qc.toList with
  | nil=>rw [hi] at h4;cases h4
  | cons u us =>
   rw [hi] at h4;cases h4 with
   | cons r0 _ =>
    subst e;refine ⟨u::fs,KatTups.cons h1 h2 h3 ?_ f1,by simp [f2],fun v hv=>?_⟩
    .have:qc.toList[0]?=some u:=by rw [hi];rfl
     rwa [zAw] at this
    .rcases omc hv with rfl | hv
     .exact ⟨b,r0,(zoo hb).symm⟩
     .exact f3 v hv
theorem ze9 {n:Nat} {kss:List (List Key)} {P:PySem.Fin->Shared->Prop} (ho:s.heap.get? a=some (seqObj "list" vs.toArray n)) (hk:KTups s.heap vs kss) (ha':Value.ref a∉vs) (h5:kss.length<=60) (nd:kss.Nodup) (al:∀ x∈kss,x≠[]/\∀ y∈kss,alike x y=true)
  (h:∀ (out:List Value) (p:List Nat),(∀ i∈p,i<kss.length)->out=p.map (fun i=>vs.getD i .none)->yax kss=p.map (fun i=>kss.getD i [])->P (.done (.ret .none)) { s with heap:=sortedHeap s.heap a vs out.toArray }) :
  wpAny (model prog w) A (Builtin.«list.sort» ⟨[.ref a],[]⟩) P E s:=by
 rw [list_sort_plain];have hl:=hk.len;have ha:a<s.heap.objs.size:=zzv ho;have hz:vs.toArray.size<=sizeLine:=by rw [zzs,ub5];omega
 refine zzg (listItems_at ho rfl (zzg (listUpdate_at ho rfl ?_ hz (zAd _))));obtain ⟨e1,ho1⟩:∃ e1,(s.heap.update a (Obj.mapSeq fun _=>#[])).get? a=some (seqObj "list" #[] e1):=⟨_,get?_update_seq ho (fun _=>#[])⟩;refine zzg (seqEpoch_at ho1 rfl (zzg (wpAny_newTuple ?_ (by show vs.length<=_;rw [ub5];omega))));refine zzg (wpAny_newList (uc2 ?_) (zAd _));have ho6:(((s.heap.update a (Obj.mapSeq fun _=>#[])).push (seqObj "tuple" vs.toArray 0)).push (seqObj "list" #[] 0)).get? a=some (seqObj "list" #[] e1):=zzf _ (zzf _ ho1);have kp:∀ b o,b≠a->s.heap.get? b=some o->(((s.heap.update a (Obj.mapSeq fun _=>#[])).push (seqObj "tuple" vs.toArray 0)).push (seqObj "list" #[] 0)).get? b=some o:=fun b o hb e =>zzf _ (zzf _ (by rw [uc9 _ _ _ _ hb];exact e));have hk':KTups (((s.heap.update a (Obj.mapSeq fun _=>#[])).push (seqObj "tuple" vs.toArray 0)).push (seqObj "list" #[] 0)) vs kss:=hk.to fun b o e m=>kp b o (fun z=>ha' (by rw [<- z];exact m)) e;show wpAny (model prog w) A _ P E { s with heap:=((s.heap.update a (Obj.mapSeq fun _=>#[])).push (seqObj "tuple" vs.toArray 0)).push (seqObj "list" #[] 0) };dsimp only;by_cases h2:vs.toArray.size<2
 .rw [if_pos h2,if_pos h2];refine zzg (zzl ?_);rw [StateT.run_pure];refine zzg (zzl ?_);dsimp only;refine zzg (seqEpoch_at ho6 rfl ?_);have eo:(arrOf (SortSt.mk' general' (vs.toArray.zip vs.toArray) #[] 7 none)).map (·.2)=vs.toArray:=by show (vs.toArray.zip vs.toArray).map (·.2)=vs.toArray;apply Array.toList_inj.mp;rw [Array.toList_map,Array.toList_zip];exact zhr vs
  rw [eo];refine zzg (listUpdate_at ho6 rfl ?_ (zAd _) (by show vs.toArray.size<=_;omega));simp only [bne_self_eq_false,Bool.false_eq_true,if_false];have hv2:vs.length<2:=by simpa using h2
  have er:vs=(List.range kss.length).map fun i=>vs.getD i .none:=by rw [<- hl];exact ze4 _ vs
  have es:yax kss=(List.range kss.length).map fun i=>kss.getD i []:=by
   match kss,hl with
   | [],_=>rfl
   | [k],_=>rfl
   | _::_::_,q=>rw [q] at hv2;simp at hv2;omega
  have:=h vs (List.range kss.length) (fun i hi=>by simpa using hi) er es;exact zzl this
 .rw [if_neg h2,if_neg h2];have hn2:2<=kss.length:=by rw [zzs] at h2;omega
  obtain ⟨k0,hk0⟩:∃ k0:Key,∀ k∈kss,∃ b r,k=b::r/\ycm k0 b=true:=by
   cases hks:kss with
   | nil=>rw [hks] at hn2;simp at hn2
   | cons x r =>
    have hx:x∈kss:=by rw [hks];exact .head _
    cases x with
    | nil=>exact absurd rfl (al _ hx).1
    | cons k0 x =>
     refine ⟨k0,fun k hk=>?_⟩;have q:=(al _ hx).2 k (by rw [hks];exact hk);cases k with
     | nil=>cases q
     | cons b r =>rw [alike,zzn] at q;exact ⟨b,r,rfl,q.1⟩
  obtain ⟨fs,f1,f2,f3⟩:=yd9 hk' hk0;refine zzg (kat_kind (T:=tyK k0) f1 (by rw [f2];omega) (fun v hv=>by obtain ⟨b,r,e⟩:=f3 v hv;rw [<- e];exact zml r) (zrv k0) ?_);have ask:=zie (prog:=prog) (w:=w) (A:=A) (s:={ s with heap:=((s.heap.update a (Obj.mapSeq fun _=>#[])).push (seqObj "tuple" vs.toArray 0)).push (seqObj "list" #[] 0) }) (b:=tyK k0 != Value.type "tuple") (vs:=vs) (kss:=kss)
   (Q:=fun p s'=>s'={ s with heap:=((s.heap.update a (Obj.mapSeq fun _=>#[])).push (seqObj "tuple" vs.toArray 0)).push (seqObj "list" #[] 0) }/\(∀ i∈p.toList,i<kss.length)/\yax kss=p.toList.map fun i=>kss.getD i []) hl hn2 nd (fun x hx y hy=>(al x hx).2 y hy)
   (fun i hi=>by obtain ⟨b,o,qc,m,e,g1,g2,g3,g4⟩:=hk'.get i hi;exact ⟨b,o,qc,m,e,g1,g3,g4⟩)
   (fun p p1 p2 p3 p4=>⟨rfl,p3,yez nd (fun x hx y hy=>(al x hx).2 y hy) p2 p3 p4⟩)
  refine zzg (zAy (kat_run (Q:=fun st' s'=>∃ p:Array Nat,p.size=vs.length/\arrOf st'=p.map (kas_item (vs.toArray.zip vs.toArray))/\failedOf st'=none/\s'={ s with heap:=((s.heap.update a (Obj.mapSeq fun _=>#[])).push (seqObj "tuple" vs.toArray 0)).push (seqObj "list" #[] 0) }/\(∀ i∈p.toList,i<kss.length)/\yax kss=p.toList.map fun i=>kss.getD i [])
   rfl (by omega) (by omega) (fun p' st' s' a1 a2 a3 a4=>⟨p',a1,a2,a3,a4⟩) ask) ?_ fun _ _ e=>e)
  rintro ⟨⟨⟩,st'⟩ s' ⟨p,hp,har,hf,rfl,p1,p2⟩;dsimp only;have hout:=kat_snds rfl har;refine zzg (seqEpoch_at ho6 rfl ?_);rw [hout];refine zzg (listUpdate_at ho6 rfl ?_ (zAd _) (by show (List.toArray _).size<=_;rw [zzs,zzo,zz9,hp,ub5];omega));rw [hf];simp only [bne_self_eq_false,Bool.false_eq_true,if_false];exact zzl (h _ p.toList p1 rfl p2)
theorem zgp {n:Nat} (ho:g.get? a=some (seqObj "list" vs.toArray n)) (out:Array Value):∃ c,(sortedHeap g a vs out).get? a=some (seqObj "list" out c):=by obtain ⟨e1,ho1⟩:∃ e1,(g.update a (Obj.mapSeq fun _=>#[])).get? a=some (seqObj "list" #[] e1):=⟨_,get?_update_seq ho (fun _=>#[])⟩;have ho6:(((g.update a (Obj.mapSeq fun _=>#[])).push (seqObj "tuple" vs.toArray 0)).push (seqObj "list" #[] 0)).get? a=some (seqObj "list" #[] e1):=zzf _ (zzf _ ho1);exact ⟨_,get?_update_seq ho6 fun _=>out⟩
theorem zem {out:Array Value} {b:Addr} {o:Obj} (hb:b≠a) (e:g.get? b=some o):(sortedHeap g a vs out).get? b=some o:=by unfold sortedHeap;rw [uc9 _ _ _ _ hb];exact zzf _ (zzf _ (by rw [uc9 _ _ _ _ hb];exact e))
theorem zq3 {g:Heap}:∀ {vs:List Value} {ks:List (List Key)},KTups g vs ks->∀ b,Value.ref b∈vs->b<g.objs.size
 | _,_,.nil,_,h=>nomatch h
 | _,_,.cons r t,b,h=>by
  rcases omc h with e | h
  .obtain ⟨a,o,_,_,rfl,h1,_⟩:=r;cases e;exact zzv h1
  .exact zq3 t b h
theorem zel {r:Value} {Q:Value->Shared->Prop} (h:wpAny (model prog w) A.in1 (collect r) (fun vs s1=>∃ kss,KTups s1.heap vs kss/\kss.length<=60/\kss.Nodup/\(∀ x∈kss,x≠[]/\∀ y∈kss,alike x y=true) /\
   ∀ (out:List Value) (p:List Nat) (c:Nat) (g:Heap),(∀ i∈p,i<kss.length)->out=p.map (fun i=>vs.getD i .none)->yax kss=p.map (fun i=>kss.getD i [])->(∀ b o,s1.heap.get? b=some o->g.get? b=some o) ->
    g.get? s1.heap.objs.size=some { cls:=.type "list",data:=.seq out.toArray c }->Q (.ref s1.heap.objs.size) { s1 with heap:=g }) E s):wpAny (model prog w) A (call (.builtin "sorted") [r]) Q E s:=by
 refine Calls.call_function_entry kind_sorted plain_sorted entry_sorted (args_sorted1 _) ?_;unfold Builtin.«sorted»;refine zzg (m:=checkCount "sorted" 1 1 _) (zzl ?_);refine zzg (zAy h (fun vs s1 x=>?_) fun _ _ e=>e);obtain ⟨kss,hk,h5,nd,al,q⟩:=x;have hl:=hk.len;refine zzg (wpAny_newList ?_ (by rw [ub5];omega));have hoL:(s1.heap.push (seqObj "list" vs.toArray 0)).get? s1.heap.objs.size=some (seqObj "list" vs.toArray 0):=zzp _ rfl;refine zzg (uc2 (zAc slot_list_sort ⟨_,hoL,rfl⟩ entry_list_sort ?_ (args_list_sort _)));refine ze9 (s:={ s1 with heap:=s1.heap.push (seqObj "list" vs.toArray 0) }) hoL (hk.to fun b o e _=>zzf _ e) (fun m=>zAp _ (zq3 hk _ m)) h5 nd al fun out p p1 p2 p3=>⟨_,rfl,?_⟩;obtain ⟨c,hc⟩:=zgp hoL out.toArray;exact zzl ⟨_,rfl,q out p c _ p1 p2 p3 (fun b o e=>zem (zz5 (zzv e)) (zzf _ e)) hc⟩
end
end
section
open PySem PyProof.Rows L2
structure CmpAt (prog:Program) (w:World) (A:Around) (s:Shared) (v u:Value) (e b:Bool):Prop where
 eq:SeqAt.EqAt A s v u e
 lt:e=false->∀ (E:Value->Shared->Prop) (Q:Value->Shared->Prop),Q (.bool b) s->wpAny (model prog w) A (richCompare .Lt v u) Q E s
def ycu:List (Bool × Bool)->Bool->Bool
 | [],d=>d
 | p::r,d=>if p.1=true then ycu r d else p.2
inductive CmpL (prog:Program) (w:World) (A:Around) (s:Shared):List Value->List Value->List (Bool × Bool)->Prop
 | nilL {us}:CmpL prog w A s [] us []
 | nilR {vs}:CmpL prog w A s vs [] []
 | cons {v u vs us e b r}:CmpAt prog w A s v u e b->(e=true->CmpL prog w A s vs us r)->CmpL prog w A s (v::vs) (u::us) ((e,b)::r)
section
open PySem.SeqAt
open PySem.AutoSeq1 (wpAny_loadPart')
open PySem.MeetsSeq PySem.MeetsSeq2 PySem.MeetsSeq3
theorem zgm (prog0:Program) (w0:World) (l b:Addr) (items items2:Array Value) (n n2:Nat) (dd dd2:Option Addr) (sl sl2:Array (Option Value)) (L:List (Bool × Bool)) :
  Meets (Builtin.«tuple.__lt__» ⟨[.ref l,.ref b],[]⟩)
   (fun A R s=>s.heap.get? l=some { cls:=.type "tuple",dict:=dd,data:=.seq items n,slots:=sl }/\s.heap.get? b=some { cls:=.type "tuple",dict:=dd2,data:=.seq items2 n2,slots:=sl2 } /\
    (∀ prog w,CmpL prog w A.in1 s items.toList items2.toList L)/\R (.ok (.ret (.bool (ycu L (decide (items.size<items2.size)))))) s) :=
 .of_wp fun prog w A R s h=>by
  obtain ⟨hp,g,d,tk,os⟩:=s;obtain ⟨hl,hb,hc,h⟩:=h;have hc:=hc prog w;have f2:=AutoSeq1.sub_tuple_tuple
  wp_walk using wpAny_loadPart' hl,wpAny_loadPart' hb,wpAny_forIn_list _ (fun rest b s'=>b.1=none/\s'=⟨hp,g,d,tk,os⟩/\∃ (vs ws:List Value) (L':List (Bool × Bool)),rest=vs.zip ws /\
   CmpL prog w A.in1 ⟨hp,g,d,tk,os⟩ vs ws L'/\R (.ok (.ret (.bool (ycu L' (decide (items.size<items2.size)))))) ⟨hp,g,d,tk,os⟩) _
  case turn =>
   rintro ⟨y,x⟩ rest b s' ⟨hb',rfl,vs,ws,L',hz,hcl,hR⟩;cases hcl with
   | nilL=>cases hz
   | nilR=>rw [List.zip_nil_right] at hz;cases hz
   | @cons v u vs us e b2 r hcm hcr =>
    rw [List.zip_cons_cons] at hz;injection hz with hyx hrest;injection hyx with hy hx;subst hy hx;refine zzg (hcm.eq prog w _ _ ?_);cases e with
    | true =>
     rw [ycu,if_pos rfl] at hR
     wp_walk
     exact ⟨rfl,rfl,_,_,_,hrest,hcr rfl,hR⟩
    | false =>
     rw [ycu,if_neg (by simp)] at hR;have hri:=fun E Q h=>hcm.lt rfl E Q h
     wp_walk using hri
     exact ⟨_,rfl,by simpa using hR⟩
  case fin =>
   rintro ⟨b1,b2⟩ s' ⟨hb',rfl,vs,ws,L',hz,hcl,hR⟩;simp only at hb';subst hb';have hv:ycu L' (decide (items.size<items2.size))=decide (items.size<items2.size):=by
    cases hcl with
    | nilL=>rfl
    | nilR=>rfl
    | cons _ _=>cases hz
   rw [hv] at hR
   wp_walk
   exact ⟨_,rfl,by simpa [Builtin.Tuple.tupleCompareSizes] using hR⟩
  case h =>exact ⟨rfl,rfl,items.toList,items2.toList,L,rfl,hc,h⟩
end
section
variable {prog:Program} {w:World} {A:Around} {s:Shared}
theorem ztr {E:Value->Shared->Prop} {l b:Addr} {items items2:Array Value} {L:List (Bool × Bool)} {Q:Value->Shared->Prop} (hl:IsTup s.heap l items) (hb:IsTup s.heap b items2) (hc:∀ prog w,CmpL prog w A.in1 s items.toList items2.toList L)
  (hu:A.units<cLine) (h:Q (.bool (ycu L (decide (items.size<items2.size)))) s):wpAny (model prog w) A (compareOp .Lt (.ref l) (.ref b)) Q E s:=by
 obtain ⟨⟨cls,dd,data,sl⟩,ho,hc1,n,hd⟩:=id hl;obtain ⟨⟨cls2,dd2,data2,sl2⟩,ho2,hc2,n2,hd2⟩:=id hb;simp only at hc1 hd hc2 hd2;subst hc1 hd hc2 hd2;refine richCompare_meets_room (op:=.Lt) ⟨_,ho,rfl⟩ ⟨_,ho2,rfl⟩ PySem.F.slot_tuple_lt PySem.F.entry_tuple_lt (PySem.F.args_tuple_lt_2 _ _) (zgm prog w l b items items2 n n2 dd dd2 sl sl2 L)
  ⟨ho,ho2,?_,show Value.bool (ycu L (decide (items.size<items2.size)))≠Value.notImplemented/\Q (.bool (ycu L (decide (items.size<items2.size)))) s from ⟨(fun x=>nomatch x),h⟩⟩ hu
 exact hc
end
section
variable {X:Cx} {pj:List (Addr × Obj)} {O:L2.St} {H F:Hp} {s:Shared}
theorem zug {A:Around} {n:Nat} (ih:∀ (t1 t2:T) (x y:V) (v u:Value),dpP t1 t2<=n->Rep X.K F t1 x->Rep X.K F t2 y->RelV x v->RelV y u->SeqAt.EqAt A s v u (eqT t1 t2))
  (il:∀ (t1 t2:T) (x y:V) (v u:Value) (b:Bool),dpP t1 t2<=n->ltD t1 t2=some b->Rep X.K F t1 x->Rep X.K F t2 y->RelV x v->RelV y u->∀ prog w (E Q:Value->Shared->Prop),Q (.bool b) s->wpAny (model prog w) A (richCompare .Lt v u) Q E s) :
  ∀ (ts us:List T) (vs ws:List V) (is js:List Value) (b:Bool),ybe ts us<=n->ybl ts us=some b->Reps X.K F ts vs->Reps X.K F us ws->Vals vs is->Vals ws js->∃ L,(∀ prog w,CmpL prog w A s is js L)/\ycu L (decide (is.length<js.length))=b:=by
 intro ts
 induction ts with
 | nil =>
  intro us vs ws is js b hd hl r1 r2 v1 v2;cases r1;cases v1;refine ⟨[],fun _ _=>.nilL,?_⟩;cases hl;have e:js.length=us.length:=by rw [<- v2.length,r2.length]
  cases us with
  | nil=>rw [ycu,e];rfl
  | cons _ _=>rw [ycu,e];simp
 | cons t ts ih' =>
  intro us vs ws is js b hd hl r1 r2 v1 v2;obtain ⟨x,vr,rfl,q1,r1⟩:=r1;cases v1 with
  | cons a1 v1 =>
   cases us with
   | nil =>cases r2;cases v2;cases hl;exact ⟨[],fun _ _=>.nilR,by rw [ycu];simp⟩
   | cons u us =>
    obtain ⟨y,wr,rfl,q2,r2⟩:=r2;cases v2 with
    | cons a2 v2 =>
     have hm:max (dpP t u) (ybe ts us)<=n:=by rw [ybe] at hd;exact hd
     have h1:=zz8 (Nat.le_max_left _ _) hm;have he:=ih t u x y _ _ h1 q1 q2 a1 a2;have hl':(if eqT t u=true then ybl ts us else ltD t u)=some b:=by rw [ybl] at hl;exact hl
     cases e:eqT t u with
     | true =>rw [e] at he;rw [e,if_pos rfl] at hl';obtain ⟨L,c1,c2⟩:=ih' us _ _ _ _ b (zz8 (Nat.le_max_right _ _) hm) hl' r1 r2 v1 v2;refine ⟨(true,false)::L,fun prog w=>.cons ⟨he,fun z=>by cases z⟩ fun _=>c1 prog w,?_⟩;rw [ycu,if_pos rfl,<- c2];congr 1;simp
     | false =>rw [e] at he;rw [e,if_neg (by simp)] at hl';exact ⟨[(false,b)],fun prog w=>.cons ⟨he,fun _ E Q q=>il t u x y _ _ b h1 hl' q1 q2 a1 a2 prog w E Q q⟩ (fun z=>by cases z),by rw [ycu,if_neg (by simp)]⟩
theorem zwx (I:Inv X pj O H s) (fh:Same F H):∀ (n:Nat) (A:Around) (t1 t2:T) (x y:V) (v u:Value) (b:Bool),A.units+n<cLine->dpP t1 t2<=n->ltD t1 t2=some b->Rep X.K F t1 x->Rep X.K F t2 y->RelV x v->RelV y u->∀ prog w (E Q:Value->Shared->Prop),Q (.bool b) s->wpAny (model prog w) A (richCompare .Lt v u) Q E s:=by
 have flat:∀ (A:Around) (t1 t2:T) (x y:V) (v u:Value) (b:Bool),(∀ a c,t1=.tup a->t2=.tup c->False)->ltD t1 t2=some b->Rep X.K F t1 x->Rep X.K F t2 y->RelV x v->RelV y u->∀ prog w (E Q:Value->Shared->Prop),Q (.bool b) s->wpAny (model prog w) A (richCompare .Lt v u) Q E s:=by
  intro A t1 t2 x y v u b hne hl r1 r2 rx ry prog w E Q q;cases t1 with
  | int a =>
   cases t2 with
   | int c =>cases r1;cases r2;obtain ⟨t,rfl⟩:=rx;obtain ⟨t',rfl⟩:=ry;cases (show some (decide (a<c))=some b from hl);exact (PyProof.Rows.lt_int q:wpAny (model prog w) A (compareOp .Lt (.int a t) (.int c t')) Q E s)
   | _=>exact absurd (show none=some b from hl) (by simp)
  | str a =>
   cases t2 with
   | str c =>cases r1;cases r2;obtain ⟨t,rfl⟩:=rx;obtain ⟨t',rfl⟩:=ry;cases (show some (decide (a.cps.toList<c.cps.toList))=some b from hl);exact (PySem.P.lt_str q:wpAny (model prog w) A (compareOp .Lt (.str a t) (.str c t')) Q E s)
   | _=>exact absurd (show none=some b from hl) (by simp)
  | tup a =>
   cases t2 with
   | tup c=>exact (hne a c rfl rfl).elim
   | _=>exact absurd (show none=some b from hl) (by simp)
  | _=>exact absurd (show none=some b from hl) (by simp)
 intro n
 induction n with
 | zero =>intro A t1 t2 x y v u b hA hd hl r1 r2 rx ry;refine flat A t1 t2 x y v u b (fun a c e1 e2=>?_) hl r1 r2 rx ry;subst e1 e2;rw [dpP] at hd;omega
 | succ n ih =>
  intro A t1 t2 x y v u b hA hd hl r1 r2 rx ry;by_cases hq:∃ a c,t1=.tup a/\t2=.tup c
  .obtain ⟨a,c,rfl,rfl⟩:=hq;rw [dpP] at hd;obtain ⟨l1,vs1,its1,rfl,rfl,_,q1,w1,p1⟩:=zbh I fh r1 rx;obtain ⟨l2,vs2,its2,rfl,rfl,_,q2,w2,p2⟩:=zbh I fh r2 ry;obtain ⟨L,c1,c2⟩:=zug (A:=A.in1) (n:=n) (fun t1 t2 x y v u h a b c d=>zqi I fh n A.in1 t1 t2 x y v u (show A.units+1+n<cLine by omega) h a b c d)
    (fun t1 t2 x y v u b h1 h2 h3 h4 h5 h6=>ih A.in1 t1 t2 x y v u b (show A.units+1+n<cLine by omega) h1 h2 h3 h4 h5 h6) a c vs1 vs2 its1 its2 b (by omega) (show ybl a c=some b from hl) q1 q2 w1 w2
   intro prog w E Q q;have h:=ztr (prog:=prog) (w:=w) (A:=A) (E:=E) (Q:=Q) (L:=L) p1 p2 (by simpa using c1) (by omega) (by
    have e1:its1.toArray.size=its1.length:=by simp
    have e2:its2.toArray.size=its2.length:=by simp
    rw [e1,e2,c2];exact q)
   exact h
  .exact flat A t1 t2 x y v u b (fun a c e1 e2=>hq ⟨a,c,e1,e2⟩) hl r1 r2 rx ry
end
end
section
variable {Q:Bool->Shared->Prop} {n:Nat}
section
variable {X:Cx} {pj:List (Addr × Obj)} {O:L2.St} {H F:Hp} {s:Shared}
def flS:T->T->Bool
 | .int _,.int _=>true
 | .str _,.str _=>true
 | _,_=>false
theorem zyt {prog:Program} {w:World} {A:Around} {t1 t2:T} {x y:V} {v u:Value} {b:Bool} (hf:flS t1 t2=true) (hl:ltD t1 t2=some b) (r1:Rep X.K F t1 x) (r2:Rep X.K F t2 y) (rx:RelV x v) (ry:RelV y u) (h:Q b s):wpAny (model prog w) A (oneLt' true v u) Q (fun _ _=>False) s:=by
 cases t1 with
 | int i =>
  cases t2 with
  | int j =>cases r1;cases r2;obtain ⟨t,rfl⟩:=rx;obtain ⟨t',rfl⟩:=ry;cases (show some (decide (i<j))=some b from hl);exact kat_lt_int h
  | _=>cases hf
 | str i =>
  cases t2 with
  | str j =>cases r1;cases r2;obtain ⟨t,rfl⟩:=rx;obtain ⟨t',rfl⟩:=ry;cases (show some (decide (i.cps.toList<j.cps.toList))=some b from hl);exact oneLt_str h
  | _=>cases hf
 | _=>cases hf
theorem zwy {prog:Program} {w:World} (I:Inv X pj O H s) (fh:Same F H) {A:Around} (hA:A.units+n<cLine) {sh:Bool} :
  ∀ (ts us:List T) (vs ws:List V) (is js:List Value) (i:Nat) (b fin:Bool),ybe ts us<=n->ybl ts us=some b->(sh=true->i=0->∀ x y r q,ts=x::r->us=y::q->flS x y=true)->fin=decide (is.length<js.length)->Reps X.K F ts vs->Reps X.K F us ws->Vals vs is->Vals ws js->Q b s->KatLex prog w A sh fin Q (is.zip js) i s:=by
 intro ts
 induction ts with
 | nil =>
  intro us vs ws is js i b fin hd hl hs hfin r1 r2 v1 v2 q;cases r1;cases v1;rw [List.zip_nil_left];refine kat_nil ?_;cases hl;have e:js.length=us.length:=by rw [<- v2.length,r2.length]
  rw [hfin,e];cases us with
  | nil=>exact q
  | cons _ _=>simpa using q
 | cons t ts ih =>
  intro us vs ws is js i b fin hd hl hs hfin r1 r2 v1 v2 q;obtain ⟨x,vr,rfl,q1,r1⟩:=r1;cases v1 with
  | cons a1 v1 =>
   cases us with
   | nil =>cases r2;cases v2;cases hl;rw [List.zip_nil_right];refine kat_nil ?_;rw [hfin];simpa using q
   | cons u us =>
    obtain ⟨y,wr,rfl,q2,r2⟩:=r2;cases v2 with
    | cons a2 v2 =>
     have hm:max (dpP t u) (ybe ts us)<=n:=by rw [ybe] at hd;exact hd
     have h1:=zz8 (Nat.le_max_left _ _) hm;have he:=zqi I fh n A t u x y _ _ hA h1 q1 q2 a1 a2;have hl':(if eqT t u=true then ybl ts us else ltD t u)=some b:=by rw [ybl] at hl;exact hl
     rw [List.zip_cons_cons];refine kat_cons (he prog w _ _ ?_);cases e:eqT t u with
     | true =>rw [e,if_pos rfl] at hl';exact kat_yes (ih us _ _ _ _ (i+1) b fin (Nat.le_trans (Nat.le_max_right _ _) hm) hl' (fun _ z=>by omega) (by rw [hfin];simp) r1 r2 v1 v2 q)
     | false =>
      rw [e,if_neg (by simp)] at hl';refine kat_no ?_;cases hq:(sh&&i==0) with
      | true =>rw [zzn] at hq;exact zyt (hs hq.1 (by simpa using hq.2) t u ts us rfl rfl) hl' q1 q2 a1 a2 q
      | false=>exact kat_one _ _ (zwx I fh n A t u x y _ _ b hA h1 hl' q1 q2 a1 a2 prog w _ _ q)
end
section
variable {prog:Program} {w:World} {A:Around} {E:Value->Shared->Prop} {s:Shared}
def yfy (prog:Program) (w:World) (A:Around) (vs:List Value) (c:Nat->Nat->Bool) (s:Shared):Prop :=
 ∃ (sh:Bool) (fs:List Value) (Tv:Value),KatTups s.heap vs fs/\0<fs.length/\(∀ v∈fs,Looks (model prog w) s.heap (typeOf v) Tv)/\(Tv==Tv)=true/\(Tv != Value.type "tuple")=sh /\
  ∀ Q:Array Nat->Shared->Prop,(∀ p:Array Nat,Pm vs.length p->(p.toList.Pairwise fun i j=>c i j=true)->Q p s)->(kas_sort vs.length).kasWp (kas_ask prog w A (tuples' sh) vs) Q s
theorem zvf {R:Nat->Nat->Prop} (h:n<2):(List.range n).Pairwise R:=by
 match n,h with
 | 0,_=>exact .nil
 | 1,_=>exact List.pairwise_singleton _ _
theorem zf0 {a:Addr} {vs:List Value} {c:Nat->Nat->Bool} {P:PySem.Fin->Shared->Prop} (ho:s.heap.get? a=some (seqObj "list" vs.toArray n)) (h60:vs.length<=60)
  (hk:2<=vs.length->∀ g:Heap,(∀ b o,b≠a->s.heap.get? b=some o->g.get? b=some o)->yfy prog w A vs c { s with heap:=g })
  (h:∀ p:List Nat,p.Perm (List.range vs.length)->(p.Pairwise fun i j=>c i j=true)->P (.done (.ret .none)) { s with heap:=sortedHeap s.heap a vs (p.map fun i=>vs.getD i .none).toArray }) :
  wpAny (model prog w) A (Builtin.«list.sort» ⟨[.ref a],[]⟩) P E s:=by
 rw [list_sort_plain];have ha:a<s.heap.objs.size:=zzv ho;have hz:vs.toArray.size<=sizeLine:=by rw [zzs,ub5];omega
 refine zzg (listItems_at ho rfl (zzg (listUpdate_at ho rfl ?_ hz (zAd _))));obtain ⟨e1,ho1⟩:∃ e1,(s.heap.update a (Obj.mapSeq fun _=>#[])).get? a=some (seqObj "list" #[] e1):=⟨_,get?_update_seq ho (fun _=>#[])⟩;refine zzg (seqEpoch_at ho1 rfl (zzg (wpAny_newTuple ?_ (by show vs.length<=_;rw [ub5];omega))));refine zzg (wpAny_newList (uc2 ?_) (zAd _));have ho6:(((s.heap.update a (Obj.mapSeq fun _=>#[])).push (seqObj "tuple" vs.toArray 0)).push (seqObj "list" #[] 0)).get? a=some (seqObj "list" #[] e1):=zzf _ (zzf _ ho1);have kp:∀ b o,b≠a->s.heap.get? b=some o->(((s.heap.update a (Obj.mapSeq fun _=>#[])).push (seqObj "tuple" vs.toArray 0)).push (seqObj "list" #[] 0)).get? b=some o:=fun b o hb e =>zzf _ (zzf _ (by rw [uc9 _ _ _ _ hb];exact e));show wpAny (model prog w) A _ P E { s with heap:=((s.heap.update a (Obj.mapSeq fun _=>#[])).push (seqObj "tuple" vs.toArray 0)).push (seqObj "list" #[] 0) };dsimp only;by_cases h2:vs.toArray.size<2
 .rw [if_pos h2,if_pos h2];refine zzg (zzl ?_);rw [StateT.run_pure];refine zzg (zzl ?_);dsimp only;refine zzg (seqEpoch_at ho6 rfl ?_);have eo:(arrOf (SortSt.mk' general' (vs.toArray.zip vs.toArray) #[] 7 none)).map (·.2)=vs.toArray:=by show (vs.toArray.zip vs.toArray).map (·.2)=vs.toArray;apply Array.toList_inj.mp;rw [Array.toList_map,Array.toList_zip];exact zhr vs
  rw [eo];refine zzg (listUpdate_at ho6 rfl ?_ (zAd _) (by show vs.toArray.size<=_;omega));simp only [bne_self_eq_false,Bool.false_eq_true,if_false];have hv2:vs.length<2:=by simpa using h2
  have:=h (List.range vs.length) (List.Perm.refl _) (zvf hv2);rw [<- ze4] at this;exact zzl this
 .rw [if_neg h2,if_neg h2];have hn2:2<=vs.length:=by rw [zzs] at h2;omega
  obtain ⟨sh,fs,Tv,f1,f2,f3,f4,f5,ask⟩:=hk hn2 _ kp;refine zzg (kat_kind (T:=Tv) f1 f2 f3 f4 ?_);rw [f5];have ask:=ask (fun p s'=>s'={ s with heap:=((s.heap.update a (Obj.mapSeq fun _=>#[])).push (seqObj "tuple" vs.toArray 0)).push (seqObj "list" #[] 0) }/\Pm vs.length p/\p.toList.Pairwise fun i j=>c i j=true) fun p p1 p2=>⟨rfl,p1,p2⟩;refine zzg (zAy (kat_run (Q:=fun st' s'=>∃ p:Array Nat,p.size=vs.length/\arrOf st'=p.map (kas_item (vs.toArray.zip vs.toArray))/\failedOf st'=none/\s'={ s with heap:=((s.heap.update a (Obj.mapSeq fun _=>#[])).push (seqObj "tuple" vs.toArray 0)).push (seqObj "list" #[] 0) }/\Pm vs.length p/\p.toList.Pairwise fun i j=>c i j=true)
   rfl (by omega) (by omega) (fun p' st' s' a1 a2 a3 a4=>⟨p',a1,a2,a3,a4⟩) ask) ?_ fun _ _ e=>e)
  rintro ⟨⟨⟩,st'⟩ s' ⟨p,hp,har,hf,rfl,p1,p2⟩;dsimp only;have hout:=kat_snds rfl har;refine zzg (seqEpoch_at ho6 rfl ?_);rw [hout];refine zzg (listUpdate_at ho6 rfl ?_ (zAd _) (by show (List.toArray _).size<=_;rw [zzs,zzo,zz9,hp,ub5];omega));rw [hf];simp only [bne_self_eq_false,Bool.false_eq_true,if_false];exact zzl (h p.toList p1 p2)
theorem zkg {r:Value} {Q:Value->Shared->Prop} (h:wpAny (model prog w) A.in1 (collect r) (fun vs s1=>vs.length<=60/\∃ c:Nat->Nat->Bool,
   (2<=vs.length->∀ (A':Around) (g:Heap),A'.units<=A.units+5->(∀ b o,s1.heap.get? b=some o->g.get? b=some o)->yfy prog w A' vs c { s1 with heap:=g }) /\
   ∀ (p:List Nat) (k:Nat) (g:Heap),p.Perm (List.range vs.length)->(p.Pairwise fun i j=>c i j=true)->(∀ b o,s1.heap.get? b=some o->g.get? b=some o) ->
    g.get? s1.heap.objs.size=some { cls:=.type "list",data:=.seq (p.map fun i=>vs.getD i .none).toArray k }->Q (.ref s1.heap.objs.size) { s1 with heap:=g }) E s):wpAny (model prog w) A (call (.builtin "sorted") [r]) Q E s:=by
 refine Calls.call_function_entry kind_sorted plain_sorted entry_sorted (args_sorted1 _) ?_;unfold Builtin.«sorted»;refine zzg (m:=checkCount "sorted" 1 1 _) (zzl ?_);refine zzg (zAy h (fun vs s1 x=>?_) fun _ _ e=>e);obtain ⟨h60,c,hk,q⟩:=x;refine zzg (wpAny_newList ?_ (by rw [ub5];omega));have hoL:(s1.heap.push (seqObj "list" vs.toArray 0)).get? s1.heap.objs.size=some (seqObj "list" vs.toArray 0):=zzp _ rfl;refine zzg (uc2 (zAc slot_list_sort ⟨_,hoL,rfl⟩ entry_list_sort ?_ (args_list_sort _)));refine zf0 (c:=c) (s:={ s1 with heap:=s1.heap.push (seqObj "list" vs.toArray 0) }) hoL h60 (fun h2 g hg=>hk h2 _ g ?_ fun b o e=>hg b o (zz5 (zzv e)) (zzf _ e)) fun p p1 p2=>⟨_,rfl,?_⟩
 .show _<=A.units+5
  first | exact Nat.le_add_right _ _ | (show A.units+1<=A.units+5;omega) | (show A.units+2<=A.units+5;omega) | (show A.units+3<=A.units+5;omega)
 .obtain ⟨k,hc⟩:=zgp hoL (p.map fun i=>vs.getD i .none).toArray;exact zzl ⟨_,rfl,q p k _ p1 p2 (fun b o e=>zem (zz5 (zzv e)) (zzf _ e)) hc⟩
end
end
section
variable {l:List T}
theorem zxy {x y:T}:cD x y=true↔ltD x y=some true:=by unfold cD;exact ue5
def kdT:Nat->Value
 | 0=>.type "int"
 | 1=>.type "str"
 | _=>.type "tuple"
noncomputable def kdV (a:T):Option Value:=(kdN a).map kdT
theorem OkN.kdv (h:OkN l):∃ Tv,∀ x∈l,∃ a r,x=.tup (a::r)/\kdV a=some Tv :=
 let ⟨n,hk⟩:=h.kd;⟨kdT n,fun x hx=>let ⟨a,r,e,k⟩:=hk x hx;⟨a,r,e,by unfold kdV;rw [k];rfl⟩⟩
theorem zew (x:T):∀ l:List T,(yet x l).Perm (x::l)
 | []=>.refl _
 | y::r=>by
  rw [yet];split
  .exact .refl _
  .exact ((zew x r).cons y).trans (.swap x y r)
theorem zam:∀ l:List T,(yas l).Perm l
 | []=>.refl _
 | x::r=>(zew x (yas r)).trans ((zam r).cons x)
theorem zm0 {x:T}:∀ {l:List T},(l.Pairwise fun a b=>cD a b=true)->(∀ y∈l,cD y x=!cD x y)->(∀ y∈l,∀ z∈l,cD x y=true->cD y z=true->cD x z=true)->(yet x l).Pairwise fun a b=>cD a b=true
 | [],_,_,_=>List.pairwise_singleton _ _
 | y::r,h,ht,hr=>by
  rw [ud5] at h;rw [yet];split
  .rename_i hc;refine ud5.mpr ⟨fun z hz=>?_,ud5.mpr h⟩;rcases omc hz with rfl | hz
   .exact hc
   .exact hr y (.head _) z (.tail _ hz) hc (h.1 z hz)
  .rename_i hc;refine ud5.mpr ⟨fun z hz=>?_,zm0 h.2 (fun z hz=>ht z (.tail _ hz)) fun z hz z' hz'=>hr z (.tail _ hz) z' (.tail _ hz')⟩;rcases omc ((zew x r).mem_iff.mp hz) with rfl | hz
   .rw [ht y (.head _)];simpa using hc
   .exact h.1 z hz
theorem zc6:∀ {l:List T},(l.Pairwise fun x y=>cD y x=!cD x y)->(∀ x∈l,∀ y∈l,∀ z∈l,cD x y=true->cD y z=true->cD x z=true)->(yas l).Pairwise fun a b=>cD a b=true
 | [],_,_=>.nil
 | x::r,h,ht=>by rw [ud5] at h;have m:∀ {y},y∈yas r->y∈r:=fun {y} hy=>(zam r).mem_iff.mp hy;exact zm0 (zc6 h.2 fun a ha b hb c hc=>ht a (.tail _ ha) b (.tail _ hb) c (.tail _ hc)) (fun y hy=>h.1 y (m hy)) fun y hy z hz=>ht x (.head _) y (.tail _ (m hy)) z (.tail _ (m hz))
theorem zi8 {R:T->T->Prop}:∀ {l m:List T},l.Pairwise R->m.Pairwise R->(∀ x∈l,∀ y∈l,R x y->R y x->False)->l.Perm m->l=m
 | [],m,_,_,_,p=>(List.Perm.nil_eq p)
 | x::l,m,h1,h2,ha,p=>by
  cases m with
  | nil=>exact absurd p.symm (by simp)
  | cons y m =>
   rw [ud5] at h1 h2;have e:x=y:=by
    have hx:=p.mem_iff.mp (zzt (a:=x) (l:=l));have hy:=p.mem_iff.mpr (zzt (a:=y) (l:=m));rcases omc hx with e | hx
    .exact e
    .rcases omc hy with e | hy
     .exact e.symm
     .exact (ha x (.head _) y (.tail _ hy) (h1.1 y hy) (h2.1 x hx)).elim
   subst e;rw [zi8 h1.2 h2.2 (fun a b c d=>ha a (.tail _ b) c (.tail _ d)) (List.Perm.cons_inv p)]
theorem zkh {t:T} (h:yb5 l=some t):OkN l/\t=.lst (yas l):=by
 unfold yb5 at h;split at h
 .rename_i hk;exact ⟨hk,(zz2 h).symm⟩
 .cases h
theorem OkN.at (h:OkN l) {i j:Nat} (hi:i<l.length) (hj:j<l.length) (hne:i≠j):cD (l.getD j .non) (l.getD i .non)=!cD (l.getD i .non) (l.getD j .non):=by
 have g:∀ {i},(hi:i<l.length)->l.getD i .non=l[i]:=fun {i} hi=>by rw [zzr,zzm hi];rfl
 have pw:=List.pairwise_iff_getElem.mp h.tot;rw [g hi,g hj];rcases Nat.lt_or_gt_of_ne hne with q | q
 .exact pw i j hi hj q
 .rw [pw j i hj hi q,Bool.not_not]
theorem OkN.asym (h:OkN l) {i j:Nat} (hi:i<l.length) (hj:j<l.length) (h1:cD (l.getD i .non) (l.getD j .non)=true) (hne:i≠j):cD (l.getD j .non) (l.getD i .non)=false:=by rw [h.at hi hj hne,h1];rfl
theorem zpj (h:OkN l) {p:List Nat} (hp:p.Perm (List.range l.length)) (pw:p.Pairwise fun i j=>cD (l.getD i .non) (l.getD j .non)=true):yas l=p.map fun i=>l.getD i .non:=by
 have e:l=(List.range l.length).map fun i=>l.getD i .non:=ze4 _ l;have pm:(p.map fun i=>l.getD i .non).Perm l:=by have:=hp.map fun i=>l.getD i .non;rw [<- e] at this;exact this
 refine zi8 (zc6 h.tot h.tr) (List.pairwise_map.mpr pw) (fun x hx y hy h1 h2=>?_) ((zam l).trans pm.symm);obtain ⟨i,hi,rfl⟩:=List.getElem_of_mem ((zam l).mem_iff.mp hx);obtain ⟨j,hj,rfl⟩:=List.getElem_of_mem ((zam l).mem_iff.mp hy);have g:∀ {i},(hi:i<l.length)->l.getD i .non=l[i]:=fun {i} hi=>by rw [zzr,zzm hi];rfl
 by_cases q:i=j
 .subst q;have hb:=zc6 h.tot h.tr;have:=List.pairwise_iff_getElem.mp hb;exact absurd h1 (by
   have irr:cD l[i] l[i]≠true:=fun z=>by
    have t2:ltD l[i] l[i]=some true:=zxy.mp z;exact absurd t2 (by
     obtain ⟨Tv,hk⟩:=h.kdv;obtain ⟨a,r,ea,_⟩:=hk _ (ua5 hi);rw [ea];have dp:=h.dp _ (ua5 hi) _ (ua5 hi);rw [ea] at dp;have refl:∀ xs:List T,ybe xs xs<20000->ybl xs xs=some false:=fun xs=>by
      induction xs with
      | nil=>intro _;rfl
      | cons x xs ih =>intro hd;rw [ybe] at hd;rw [ybl];show (if eqT x x=true then ybl xs xs else ltD x x)=some false;rw [zee x (by omega),if_pos rfl];exact ih (by omega)
     show ybl (a::r) (a::r)≠some true;rw [refl _ (by rw [dpP] at dp;omega)];simp)
   exact irr)
 .have:=h.asym hi hj (by rw [g hi,g hj];exact h1) q;rw [g hi,g hj] at this;rw [this] at h2;cases h2
end
section
variable {Tv:Value} {qc:List Value}
section
variable {X:Cx} {pj:List (Addr × Obj)} {O:L2.St} {H F:Hp} {s:Shared}
theorem zty {a:T} (h:kdV a=some Tv):(Tv==Tv)=true:=by
 cases a<;>cases h
 .show (Value.type "int"==Value.type "int")=true;decide
 .show (Value.type "str"==Value.type "str")=true;decide
 .show (Value.type "tuple"==Value.type "tuple")=true;decide
theorem zp6 {M:Model} (I:Inv X pj O H s) (fh:Same F H) {a:T} (h:kdV a=some Tv) {x:V} {u:Value} (r:Rep X.K F a x) (ru:RelV x u):Looks M s.heap (typeOf u) Tv:=by
 cases a with
 | int i=>cases h;cases r;obtain ⟨t,rfl⟩:=ru;exact .now
 | str i=>cases h;cases r;obtain ⟨t,rfl⟩:=ru;exact .now
 | tup xs =>cases h;obtain ⟨p,ws,jts,rfl,rfl,_,_,_,o,h1,h2,_⟩:=zbh I fh r ru;show Looks M s.heap (typeOf (Value.ref p)) (Value.type "tuple");rw [<- h2];exact (Looks.ld h1).andThen .now
 | _=>cases h
theorem zw8 {M:Model} (I:Inv X pj O H s) (fh:Same F H):∀ {xs:List T} {vs:List V} {qc:List Value},(∀ x∈xs,∃ a r,x=.tup (a::r)/\kdV a=some Tv)->Reps X.K F xs vs->Vals vs qc ->
  ∃ fs,KatTups s.heap qc fs/\fs.length=xs.length/\∀ v∈fs,Looks M s.heap (typeOf v) Tv:=by
 intro xs
 induction xs with
 | nil =>intro vs qc _ r rv;cases r;cases rv;exact ⟨[],KatTups.nil,rfl,fun _ h=>nomatch h⟩
 | cons x xs ih =>
  intro vs qc hx r rv;obtain ⟨v,vr,rfl,r1,r2⟩:=r;cases rv with
  | cons a1 rv =>
   obtain ⟨fs,f1,f2,f3⟩:=ih (fun y hy=>hx y (.tail _ hy)) r2 rv;obtain ⟨a,q,rfl,hk⟩:=hx x (.head _);obtain ⟨p,ws,jts,rfl,rfl,_,g1,g2,o,h1,h2,n,h3⟩:=zbh I fh r1 a1;obtain ⟨w0,wr,rfl,k1,k2⟩:=g1;cases g2 with
   | cons b1 b2 =>
    refine ⟨_::fs,KatTups.cons h1 h2 h3 (by simp;rfl) f1,by simp [f2],fun v hv=>?_⟩;rcases omc hv with rfl | hv
    .exact zp6 I fh hk k1 b1
    .exact f3 v hv
theorem at_N (I:Inv X pj O H s) (fh:Same F H) {xs:List T} {vs:List V} (r:Reps X.K F xs vs) (rv:Vals vs qc) {i:Nat} (hi:i<xs.length) {ys:List T} (hx:xs.getD i .non=.tup ys) :
  ∃ p o ws n jts,qc.getD i .none=.ref p/\s.heap.get? p=some o/\o.data=.seq jts n/\Reps X.K F ys ws/\Vals ws jts.toList:=by
 have e1:xs[i]?=some (.tup ys):=by rw [zzr,zzm hi] at hx;rw [zzm hi];exact zzz some hx
 obtain ⟨v,hv,r1⟩:=r.get e1;obtain ⟨u,hu,ru⟩:=rv.get hv;obtain ⟨p,ws,jts,rfl,rfl,_,g1,g2,o,h1,_,n,h3⟩:=zbh I fh r1 ru;exact ⟨p,o,ws,n,jts.toArray,by rw [List.getD_eq_getElem?_getD,hu];rfl,h1,h3,g1,by simpa using g2⟩
theorem zx5 (I:Inv X pj O H s) (fh:Same F H) {A:Around} (hA:A.units+20<cLine) {xs:List T} {vs:List V} (ok:OkN xs) (r:Reps X.K F xs vs) (rv:Vals vs qc) (h2:2<=qc.length) :
  yfy X.prog X.w A qc (fun i j=>cD (xs.getD i .non) (xs.getD j .non)) s:=by
 have hl:qc.length=xs.length:=by rw [<- rv.length,r.length]
 obtain ⟨Tv,hk⟩:=ok.kdv;obtain ⟨fs,f1,f2,f3⟩:=zw8 (M:=model X.prog X.w) I fh hk r rv;have mem:∀ {i},i<xs.length->xs.getD i .non∈xs:=fun {i} hi=>by rw [zzr,zzm hi];exact ua5 hi
 obtain ⟨a0,_,_,k0⟩:=hk _ (mem (i:=0) (by omega));refine ⟨Tv != Value.type "tuple",fs,Tv,f1,by omega,f3,zty k0,rfl,fun Q q=>?_⟩;have T:=zmw (n:=qc.length) (c:=fun i j=>cD (xs.getD i .non) (xs.getD j .non)) h2 ⟨fun i j hi hj hne=>ok.at (by omega) (by omega) hne,fun i j k hi hj hk'=>ok.tr _ (mem (by omega)) _ (mem (by omega)) _ (mem (by omega))⟩;refine zcp (n:=qc.length) (c:=fun i j=>cD (xs.getD i .non) (xs.getD j .non)) (I:=fun s'=>s'=s) (fun i j C s' hi hj hs hC=>?_) _ s T.1 rfl (fun s' hs=>by subst hs;exact q _ T.2.1 T.2.2);subst hs;have hi':i<xs.length:=by omega
 have hj':j<xs.length:=by omega
 obtain ⟨a,ra,ea,ka⟩:=hk _ (mem hi');obtain ⟨b,rb,eb,kb⟩:=hk _ (mem hj');obtain ⟨p,o,ws,n,jts,e1,e2,e3,e4,e5⟩:=at_N I fh r rv hi' ea;obtain ⟨p',o',ws',n',jts',g1,g2,g3,g4,g5⟩:=at_N I fh r rv hj' eb;obtain ⟨bb,hb⟩:=ok.lt _ (mem hi') _ (mem hj');have dp:=ok.dp _ (mem hi') _ (mem hj');have ec:cD (xs.getD i .non) (xs.getD j .non)=bb:=by unfold cD;rw [hb];cases bb<;>rfl
 have hC:=hC s' rfl;simp only [ec] at hC;rw [ea,eb] at hb dp;show wpAny (model X.prog X.w) A (keyLt' (tuples' (Tv != Value.type "tuple")) (qc.getD i .none) (qc.getD j .none)) C (fun _ _=>False) s';rw [e1,g1];refine kat_lt e2 e3 g2 g3 ?_;refine zwy I fh hA (a::ra) (b::rb) _ _ _ _ 0 bb _ (by rw [dpP] at dp;omega) (show ybl (a::ra) (b::rb)=some bb from hb) (fun hs _ x y rx ry ex ey=>?_) (by simp) e4 g4 e5 g5 hC;cases ex;cases ey;cases a with
 | int _=>cases ka;cases b<;>first | rfl | (cases kb;done) | (exact absurd (zz2 kb) (by intro z;injection z with z;exact absurd z (by decide)))
 | str _=>cases ka;cases b<;>first | rfl | (cases kb;done) | (exact absurd (zz2 kb) (by intro z;injection z with z;exact absurd z (by decide)))
 | tup _=>cases ka;exact absurd hs (by decide)
 | _=>cases ka
theorem zlp {K:W.Frag} {F:Hp} {xs:List T} {vs:List V} (r:Reps K F xs vs):∀ {p:List Nat},(∀ i∈p,i<xs.length)->Reps K F (p.map fun i=>xs.getD i .non) (p.map fun i=>vs.getD i .non)
 | [],_=>rfl
 | i::p,h=>by have hi:=h i (.head _);obtain ⟨v,hv,r1⟩:=r.get (zzm hi);refine ⟨vs.getD i .non,_,rfl,?_,zlp r fun j hj=>h j (.tail _ hj)⟩;show Rep K F (xs.getD i .non) (vs.getD i .non);rw [zzr,zzr,hv,zzm hi];exact r1
theorem zk4 {vs:List V} {qc:List Value} (r:Vals vs qc):∀ {p:List Nat},(∀ i∈p,i<vs.length)->Vals (p.map fun i=>vs.getD i .non) (p.map fun i=>qc.getD i .none)
 | [],_=>.nil
 | i::p,h=>by have hi:=h i (.head _);obtain ⟨u,hu,ru⟩:=r.get (zzm hi);refine .cons ?_ (zk4 r fun j hj=>h j (.tail _ hj));show RelV (vs.getD i .non) (qc.getD i .none);rw [zzr,zzr,hu,zzm hi];exact ru
theorem zhi (hu:X.A.units+100<cLine):yb7 X (.builtin "sorted") (fun zs H Q=>∃ F xs t x,zs=[x]/\Same F H/\Rep X.K F (.lst xs) x/\yb5 xs=some t/\∀ v F' H',Step F H F' H'->Rep X.K F' t v->Q v H'):=by
 intro pj s O H zs us Q I r h;obtain ⟨F,xs,t,x,rfl,fh,r1,ht,q⟩:=h;obtain ⟨u,rfl,ru⟩:=yb6 r;obtain ⟨ok,rfl⟩:=zkh ht;obtain ⟨l,vs,rfl,g1,g2⟩:=r1;cases ru;obtain ⟨qc,rv,pl,hz⟩:=I.list (Ls.same fh g1).sq;have hl:qc.length=xs.length:=by rw [<- rv.length,g2.length]
 have hv:vs.length=xs.length:=g2.length;have hkp:∀ b o,s.heap.get? b=some o->((s.heap.push (seqObj "list" #[] 0)).update s.heap.objs.size (Obj.mapSeq (·++qc.toArray))).get? b=some o:=fun b o e=>by rw [uc9 _ _ _ _ (zz5 (zzv e))];exact zzf _ e
 have I1:L2.Inv X pj O H { s with heap:=(s.heap.push (seqObj "list" #[] 0)).update s.heap.objs.size (Obj.mapSeq (·++qc.toArray)),toks:=s.toks }:=I.kept hkp;refine zkg (collect_list pl.isList ⟨by rw [hl];exact ok.len,fun i j=>cD (xs.getD i .non) (xs.getD j .non),fun h2 A' g hA' hk=>?_,fun p k g p1 p2 hk hD=>?_⟩ (by rw [<- rv.length];exact hz))
 .have I2:L2.Inv X pj O H { s with heap:=g,toks:=s.toks }:=I1.kept hk;exact zx5 I2 fh (by omega) ok g2 rv h2
 .generalize hS:({ s with heap:=(s.heap.push (seqObj "list" #[] 0)).update s.heap.objs.size (Obj.mapSeq (·++qc.toArray)) }:Shared)=s1 at *;have hn:H s1.heap.objs.size=none:=I1.hok.fresh (zzw _);have pl':∀ i∈p,i<xs.length:=fun i hi=>by have:=zAt.mp (p1.mem_iff.mp hi);omega
  have rv':=zk4 rv (p:=p) fun i hi=>by rw [hv];exact pl' i hi
  have hp:p.length<=60:=by rw [p1.length_eq,List.length_range,hl];exact ok.len
  have I3:=I1.laid (a:=s1.heap.objs.size) (o:=.lst (p.map fun i=>vs.getD i .non)) (t':=s1.toks) hk (zzw _) ⟨by rw [zzo,ub5];omega,_,k,rv',hD⟩;have st:=(Step.refl fh).new (o:=.lst (p.map fun i=>vs.getD i .non)) hn;refine ⟨.ref s1.heap.objs.size,_,I3,rfl,q _ _ _ st ⟨_,_,rfl,Ls.of zah,?_⟩⟩;rw [zpj ok (by rw [<- hl];exact p1) p2];exact (zlp g2 pl').mono st.ff
end
end
section
variable {as:List Addr}
theorem zva {K:W.Frag} {F:Hp} (k:Kt):Rep K F (kT k) (kV k):=by rcases k with _ | _ | _<;>rfl
theorem zlo {K:W.Frag} {F:Hp}:∀ ks:List Kt,Reps K F (ks.map kT) (ks.map kV)
 | []=>rfl
 | k::ks=>⟨_,_,rfl,zva k,zlo ks⟩
theorem zep {K:W.Frag} {F:Hp} {as:List Addr} {kss:List (List Kt)} (hF:∀ i,i<kss.length->F (as.getD i 0)=some (.tup ((kss.getD i []).map kV))):∀ {p:List Nat},(∀ i∈p,i<kss.length) ->
  Reps K F ((p.map fun i=>kss.getD i []).map tkT) (p.map fun i=>V.ref (as.getD i 0))
 | [],_=>rfl
 | i::p,h=>⟨_,_,rfl,⟨_,_,rfl,hF i (h i (.head _)),zlo _⟩,zep hF fun j hj=>h j (.tail _ hj)⟩
section
variable {X:Cx} {pj:List (Addr × Obj)} {O:L2.St} {F1 H1:Hp} {s1:Shared} {Q:VK}
theorem zdw (I1:L2.Inv X pj O H1 s1) (fh:Same F1 H1) {kss:List (List Kt)} (hl:as.length=kss.length) (hF:∀ i,i<kss.length->F1 (as.getD i 0)=some (.tup ((kss.getD i []).map kV))) {p:List Nat} {out:List Value} {c:Nat} {g:Heap}
  (p1:∀ i∈p,i<kss.length) (p2:out=p.map (fun i=>(as.map Value.ref).getD i .none)) (p3:yax kss=p.map (fun i=>kss.getD i [])) (h5:kss.length<=60) (kp:∀ b o,s1.heap.get? b=some o->g.get? b=some o)
  (hD:g.get? s1.heap.objs.size=some { cls:=.type "list",data:=.seq out.toArray c }) (q:∀ v F' H',Step F1 H1 F' H'->Rep X.K F' (.lst ((yax kss).map tkT)) v->Q v H'):EP X pj O Q (.ref s1.heap.objs.size) { s1 with heap:=g }:=by
 have hn:H1 s1.heap.objs.size=none:=I1.hok.fresh (zzw _);have hp:p.length=kss.length:=by rw [<- zdi kss,p3,zzo]
 have rv:Vals (p.map fun i=>V.ref (as.getD i 0)) out:=by
  subst p2;clear p3 hD hp
  induction p with
  | nil=>exact .nil
  | cons i p ih =>
   refine .cons ?_ (ih fun j hj=>p1 j (.tail _ hj));have hi:i<as.length:=by rw [hl];exact p1 i (.head _)
   show (as.map Value.ref).getD i .none=Value.ref (as.getD i 0);simp [hi]
 have I2:=I1.laid (a:=s1.heap.objs.size) (o:=.lst (p.map fun i=>V.ref (as.getD i 0))) (t':=s1.toks) kp (zzw _) ⟨by rw [zzo,hp,ub5];omega,out,c,rv,hD⟩;have st:=(Step.refl fh).new (o:=.lst (p.map fun i=>V.ref (as.getD i 0))) hn;refine ⟨.ref s1.heap.objs.size,_,I2,rfl,q _ _ _ st ⟨_,_,rfl,Ls.of zah,?_⟩⟩;rw [p3];exact zep (fun i hi=>st.ff _ _ (hF i hi)) p1
theorem zg4 {H:Hp}:∀ {ws:List (List Key × V)} {zs:List (List Key × Addr × Value)},KT H ws zs->∀ i,i<ws.length->H ((zs.map (·.2.1)).getD i 0)=some (.tup (((ws.map (·.1)).getD i []).map kV))
 | _,_,.nil,i,h=>by simp at h
 | _,_,.cons r t,0,_=>by simpa using r.2.1
 | _,_,.cons r t,i+1,h=>by simpa using zg4 t i (by simpa using h)
theorem zf1 {P:Program} {w:World} {H:Hp} {g:Heap} (ok:∀ a xs,H a=some (.tup xs)->∃ qc:List Value,Vals xs qc/\IsTup g a qc.toArray):∀ {as:List Addr} {kss:List (List Kt)},as.length=kss.length->(∀ i,i<kss.length->H (as.getD i 0)=some (.tup ((kss.getD i []).map kV)))->KTups g (as.map Value.ref) kss
 | [],[],_,_=>.nil
 | a::as,k::ks,hl,h=>by refine .cons ?_ (zf1 (P:=P) (w:=w) ok (by simpa using hl) fun i hi=>by simpa using h (i+1) (by simpa using hi));obtain ⟨qc,rv,o,h1,h2,n,h3⟩:=ok a (k.map kV) (by simpa using h 0 (by simp));exact ⟨a,o,qc.toArray,n,rfl,h1,h2,h3,by simpa using rv⟩
theorem zlh {F H:Hp} (fh:Same F H) (h:∀ a∈as,∃ xs,H a=some (.tup xs)):∃ F1,Step F H F1 H/\∀ a∈as,F1 a=H a:=by
 refine ⟨fun b=>if b∈as then H b else F b,⟨SameT.refl H,fun b o e=>?_,fun b o e=>?_,fun b z=>?_⟩,fun a ha=>by simp [ha]⟩
 .by_cases hb:b∈as
  .simp [hb,fh b o e]
  .simp [hb,e]
 .by_cases hb:b∈as
  .simpa [hb] using e
  .simp [hb] at e;exact fh b o e
 .by_cases hb:b∈as
  .exact .inr (.inr (h b hb))
  .simp [hb] at z;exact .inl z
theorem zng {i:Nat} (h:i<as.length):as.getD i 0∈as:=by rw [zzr,zzm h];exact ua5 h
theorem zk7 {X:Cx} {pj:List (Addr × Obj)} {O:L2.St} {H:Hp} {s:Shared} (I:L2.Inv X pj O H s) {g:Heap} (k:∀ b o,s.heap.get? b=some o->g.get? b=some o):∀ a xs,H a=some (.tup xs)->∃ qc:List Value,Vals xs qc/\IsTup g a qc.toArray:=fun a xs h=>by obtain ⟨_,qc,r,o,h1,h2⟩:=(show ObjOk X.prog X.w H s.heap a (.tup xs) from I.hok a _ h);exact ⟨qc,r,o,k a o h1,h2⟩
theorem zla {K:W.Frag} {F:Hp}:∀ {ts:List T} {vs:List V} {kss:List (List Kt)},Reps K F ts vs->ydm ts=some kss->∃ as:List Addr,vs=as.map V.ref/\as.length=kss.length/\∀ i,i<kss.length->F (as.getD i 0)=some (.tup ((kss.getD i []).map kV))
 | [],_,_,r,h=>by cases r;cases h;exact ⟨[],rfl,rfl,fun i hi=>by simp at hi⟩
 | t::ts,_,_,r,h=>by
  obtain ⟨v,vr,rfl,r1,r2⟩:=r;obtain ⟨k,h1,h⟩:=obs h;obtain ⟨ks,h2,h⟩:=obs h;cases h;obtain ⟨as,rfl,e1,e2⟩:=zla r2 h2;cases t with
  | tup xs =>
   obtain ⟨a,ws,rfl,g1,g2⟩:=r1;have:=zbw g2 h1;subst this;refine ⟨a::as,rfl,by simp [e1],fun i hi=>?_⟩;cases i with
   | zero=>simpa using g1
   | succ i=>simpa using e2 i (by simpa using hi)
  | _=>cases h1
theorem zgj:∀ {as:List Addr} {us:List Value},Vals (as.map V.ref) us->us=as.map Value.ref
 | [],_,r=>by cases r;rfl
 | a::as,_,r=>by
  cases r with
  | cons h t=>cases h;rw [zgj t];rfl
theorem ziu (hu:X.A.units+100<cLine) (hcalm:X.calm=true):yb7 X (.builtin "sorted") (fun xs H Q=>∃ F t1 t x,xs=[x]/\Same F H/\Rep X.K F t1 x/\ya6 .sorted t1=some t/\∀ v F' H',Step F H F' H'->Rep X.K F' t v->Q v H'):=by
 intro pj s O H xs us Q I r h;obtain ⟨F,t1,t,x,rfl,fh,r1,ht,q⟩:=h;obtain ⟨u,rfl,ru⟩:=yb6 r;have hh:X.A.handled=none:=I.ok.hd hcalm;cases t1 with
 | dt ks ts =>
  obtain ⟨a,ws,rfl,g1,g2,g3⟩:=r1;cases ru;simp only [ya6,yb4] at ht;obtain ⟨l,hl,rfl⟩:=oms ht;obtain ⟨h5,nd,al,rfl⟩:=zfd hl;obtain ⟨z,lo,zs,rel,o,es,ep,e1,e2,e3,e4,e5,e6⟩:=zqk I.hok (fh _ _ g1);subst g2;have hlz:ws.length=zs.length:=Paired.length rel;have hle:es.size=zs.length:=by rw [<- zz9,e4,zzo]
  have hln:(zs.map (·.2.1)).length=(ws.map (·.1)).length:=by simp [hlz]
  have hA:∀ i,i<(ws.map (·.1)).length->H ((zs.map (·.2.1)).getD i 0)=some (.tup (((ws.map (·.1)).getD i []).map kV)):=fun i hi=>zg4 rel i (by simpa using hi);refine zel (kdu_collect (A:=X.A.in1) (zlr (en:=es) (ep:=ep) lo) hh ⟨o,e1,e2,e3⟩ (by rw [hle,<- hlz];exact z) fun h' tk acc hk hacc=>?_);have ea:acc.toList=(zs.map (·.2.1)).map Value.ref:=by
   apply List.ext_getElem?;intro i;by_cases hi:i<zs.length
   .have hi':i<acc.size:=by rw [hacc.1,hle];exact hi
    obtain ⟨e,he,hv⟩:=hacc.2 i acc[i] (by simp [hi']);rw [zAw,ub2 hi',hv,zAe,zAb,zzm hi];rw [<- zAw,e4,zAb,zzm hi] at he;cases he;rfl
   .rw [ue0 (by rw [Array.length_toList,hacc.1,hle];omega),ue0 (by simp;omega)]
  refine ⟨ws.map (·.1),?_,h5,nd,al,fun out p c g p1 p2 p3 kp hD=>?_⟩
  .rw [ea];exact zf1 (P:=X.prog) (w:=X.w) (zk7 I hk) hln hA
  .have I1:L2.Inv X pj O H { s with heap:=h',toks:=tk }:=I.kept hk;obtain ⟨F1,st,hF⟩:=zlh fh (as:=zs.map (·.2.1)) fun b hb=>by obtain ⟨i,hi,rfl⟩:=List.getElem_of_mem hb;have:=hA i (by rw [<- hln];exact hi);rw [zzr,zzm hi] at this;exact ⟨_,this⟩
   rw [ea] at p2;exact zdw (s1:={ s with heap:=h',toks:=tk }) I1 st.fh hln (fun i hi=>by rw [hF _ (zng (by rw [hln];exact hi))];exact hA i hi) p1 p2 p3 h5 kp hD fun v F' H' st' r'=>q v F' H' (st.trans st') r'
 | dk ks ts =>
  cases ks with
  | cons _ _=>cases ht
  | nil =>
   cases ht;obtain ⟨a,ws,rfl,g1,g2,g3⟩:=r1;cases ru;have hws:ws=[]:=by cases ws with | nil=>rfl | cons _ _=>simp at g2
   subst hws;obtain ⟨z,lo,vs,rel,o,es,ep,e1,e2,e3,_,e4,_⟩:=znp I.hok (fh _ _ g1);cases rel;have hle:es.size=0:=by have:=e4.length;rw [zz9] at this;simpa using this
   refine zel (kdu_collect (A:=X.A.in1) (zlr (en:=es) (ep:=ep) lo) hh ⟨o,e1,e2,e3⟩ (by rw [hle];exact zAd _) fun h' tk acc hk hacc=>?_);have ea:acc.toList=([]:List Addr).map Value.ref:=by have:=hacc.1;rw [hle] at this;exact List.length_eq_zero_iff.mp (by rw [zz9];exact this)
   refine ⟨[],by rw [ea];exact .nil,by simp,ud4,fun x hx=>(nomatch hx),fun out p c g p1 p2 p3 kp hD=>?_⟩;have I1:L2.Inv X pj O H { s with heap:=h',toks:=tk }:=I.kept hk;rw [ea] at p2;exact zdw (s1:={ s with heap:=h',toks:=tk }) (as:=[]) (kss:=[]) I1 fh rfl (fun i hi=>absurd hi (Nat.not_lt_zero _)) p1 p2 p3 (by simp) kp hD q
 | lst ts =>
  have ht:(match (ydm ts).bind yb4 with
   | some r=>some r
   | none=>yb5 ts)=some t:=ht
  split at ht
  rotate_left
  .exact zhi hu pj s O H _ _ Q I r ⟨F,ts,t,x,rfl,fh,r1,ht,q⟩
  rename_i r0 hr0;cases ht;have ht:=hr0;obtain ⟨l,vs,rfl,g1,g2⟩:=r1;cases ru;obtain ⟨kss,hk,ht⟩:=obs ht;simp only [yb4] at ht;obtain ⟨l',hl,rfl⟩:=oms ht;obtain ⟨h5,nd,al,rfl⟩:=zfd hl;obtain ⟨as,rfl,hln,hA⟩:=zla g2 hk;obtain ⟨qc,rv,pl,hz⟩:=I.list (Ls.same fh g1).sq;have:=zgj rv;subst this;have hkp:∀ b o,s.heap.get? b=some o->((s.heap.push (seqObj "list" #[] 0)).update s.heap.objs.size (Obj.mapSeq (·++(as.map Value.ref).toArray))).get? b=some o:=fun b o e=>by rw [uc9 _ _ _ _ (zz5 (zzv e))];exact zzf _ e
  refine zel (collect_list pl.isList ⟨kss,zf1 (P:=X.prog) (w:=X.w) (zk7 I hkp) hln (fun i hi=>fh _ _ (hA i hi)),h5,nd,al,fun out p c g p1 p2 p3 kp hD=>?_⟩ (by rw [zzo,hln,ub5];omega));have I1:L2.Inv X pj O H { s with heap:=(s.heap.push (seqObj "list" #[] 0)).update s.heap.objs.size (Obj.mapSeq (·++(as.map Value.ref).toArray)),toks:=s.toks }:=I.kept hkp;exact zdw I1 fh hln hA p1 p2 p3 h5 kp hD q
 | _=>cases ht
end
end
section
open PySem Spec PyProof.Rows L2
variable {P:List Nat}
def ygj:List Nat->List (List Nat)
 | []=>[[]]
 | a::l=>ygj l++(ygj l).map (a::·)
def allP:List (List Nat):=(ygj (List.range 8)).filter fun l=>decide (l.length<=4)
def yej (P:List Nat) (j:Nat):SetTable.Slot:=if P.toArray[SetTable.below P.toArray j]?==some j then .live (SetTable.below P.toArray j) else .empty
def yby:List Nat->Nat->Option Nat
 | [],_=>none
 | a::l,j=>if a=j then some 0 else (yby l j).map (·+1)
theorem zo5:(allP.all fun P=>(List.range 8).all fun j=>decide (yej P j=(match yby P j with | some i=>.live i | none=>.empty)))=true:=by decide +kernel
theorem zqf:(allP.all fun P=>(List.range 8).any fun j=>!P.contains j)=true:=by decide +kernel
theorem zwp:(allP.all fun P=>decide P.Nodup)=true:=by decide +kernel
theorem zsb (h:P∈allP) {j:Nat} (hj:j<8):yej P j=(match yby P j with | some i=>.live i | none=>.empty) :=
 zAf (oml (oml zo5 P h) j (zAt.mpr hj))
theorem zt4 (h:P∈allP):∃ j,j<8/\j∉P:=by obtain ⟨j,h1,h2⟩:=List.any_eq_true.mp (oml zqf P h);exact ⟨j,List.mem_range.mp h1,by simpa using h2⟩
def pix (h:Int):Nat->Nat × Nat
 | 0=>(SetTable.bits h%8,SetTable.bits h)
 | n+1=>(((pix h n).1*5+1+(pix h n).2/32)%8,(pix h n).2/32)
abbrev ix (h:Int) (n:Nat):Nat:=(pix h n).1
theorem zy3 (h:Int):∀ n,ix h n<8
 | 0=>Nat.mod_lt _ (by decide)
 | n+1=>Nat.mod_lt _ (by decide)
theorem zq5 (h:Int):∀ n,(pix h n).2=SetTable.bits h/32 ^ n
 | 0=>by show SetTable.bits h=_;simp
 | n+1=>by show (pix h n).2/32=_;rw [zq5 h n,Nat.div_div_eq_div_mul,Nat.pow_succ]
theorem zss (h:Int) (n:Nat):(pix h (13+n)).2=0:=by
 rw [zq5];have hb:SetTable.bits h<2 ^ 64:=by unfold SetTable.bits;have h1:=uc7 h (show (2 ^ 64:Int)≠0 by decide);have h2:=uc0 h (show (0:Int)<2 ^ 64 by decide);omega
 refine Nat.div_eq_of_lt (zz1 hb ?_);rw [Nat.pow_add];exact zz8 (show 2 ^ 64<=32 ^ 13 by decide) (Nat.le_mul_of_pos_right _ (Nat.pow_pos (by decide)))
def cyc (i:Nat):Nat->Nat
 | 0=>i
 | m+1=>(cyc i m*5+1)%8
theorem zud:((List.range 8).all fun i=>(List.range 8).all fun s=>(List.range 8).any fun m=>decide (cyc i m=s))=true:=by decide +kernel
theorem zrg (h:Int):∀ m,ix h (13+m)=cyc (ix h 13) m
 | 0=>rfl
 | m+1=>by show ((pix h (13+m)).1*5+1+(pix h (13+m)).2/32)%8=_;rw [zss,Nat.zero_div,Nat.add_zero,cyc,<- zrg h m]
theorem yew (h:Int) {s:Nat} (hs:s<8):∃ k,k<=20/\ix h k=s:=by have:=oml (oml zud (ix h 13) (zAt.mpr (zy3 h 13))) s (zAt.mpr hs);obtain ⟨m,h1,h2⟩:=List.any_eq_true.mp this;have h1:=zAt.mp h1;exact ⟨13+m,by omega,by rw [zrg];exact zAf h2⟩
theorem ygh {p:Nat->Prop} [DecidablePred p]:∀ (n:Nat),p n->∃ k,k<=n/\p k/\∀ m,m<k->¬ p m
 | 0,h=>⟨0,zzw _,h,fun m hm=>absurd hm (Nat.not_lt_zero _)⟩
 | n+1,h=>by
  by_cases e:∃ m,m<=n/\p m
  .obtain ⟨m,hm,hp⟩:=e;have go:∀ m,m<=n->p m->∃ k,k<=n/\p k/\∀ j,j<k->¬ p j:=by
    intro m
    induction m using Nat.strongRecOn with
    | ind m ih =>
     intro hm hp;by_cases f:∃ j,j<m/\p j
     .obtain ⟨j,hj,hpj⟩:=f;exact ih j hj (by omega) hpj
     .exact ⟨m,hm,hp,fun j hj hpj=>f ⟨j,hj,hpj⟩⟩
   obtain ⟨k,h1,h2,h3⟩:=go m hm hp;exact ⟨k,by omega,h2,h3⟩
  .exact ⟨n+1,zzw _,h,fun m hm hp=>e ⟨m,by omega,hp⟩⟩
theorem zkt (h:P∈allP) (hs:Int):∃ K,K<=20/\ix hs K∉P/\∀ m,m<K->ix hs m∈P:=by obtain ⟨j,hj,hn⟩:=zt4 h;obtain ⟨k,hk,e⟩:=yew hs hj;obtain ⟨K,h1,h2,h3⟩:=ygh (p:=fun m=>ix hs m∉P) k (by rw [e];exact hn);exact ⟨K,by omega,h2,fun m hm=>Classical.byContradiction fun z=>h3 m hm z⟩
structure TOk (t:SetTable) (P:List Nat):Prop where
 mask:t.mask=7
 dum:t.dummies=#[]
 pl:t.place=P.toArray
 all:P∈allP
theorem TOk.slot {t:SetTable} {P:List Nat} (h:TOk t P) {j:Nat} (hj:j<8):t.slot j=(match yby P j with | some i=>.live i | none=>.empty):=by
 rw [<- zsb h.all hj];unfold SetTable.slot yej;rw [h.pl,h.dum];simp only;split
 .rfl
 .rfl
end
section
open PySem Spec PyProof.Rows L2
variable {P:List Nat}
section
variable {prog:Program} {w:World} {A:Around} {E:Value->Shared->Prop} {s:Shared}
abbrev tkd (prog:Program) (w:World):=tupleKind (zak prog w)
abbrev hK (prog:Program) (w:World) (k:List Key):Int:=(tkd prog w).hash k
def yfx (prog:Program) (w:World) (L:List (List Key × Addr)):List (Int × Value):=L.map fun e=>(hK prog w e.1,Value.ref e.2)
structure SetT (prog:Program) (w:World) (g:Heap) (S:Addr) (L:List (List Key × Addr)) (ep:Nat) (t:SetTable) (P:List Nat):Prop where
 ob:g.get? S=some { cls:=.type "set",dict:=none,data:=.set (yfx prog w L).toArray ep t }
 ok:TOk t P
 len:P.length=L.length
 led:t.led=false->w.params.followText "set-order"=true
 nd:(L.map (·.1)).Nodup
 ks:∀ e∈L,IsTupleKey (zak prog w) g e.1 e.2
 rch:∀ q∈L.zip P,∃ n,n<=20/\q.2=ix (hK prog w q.1.1) n/\∀ m,m<n->ix (hK prog w q.1.1) m∈P
theorem zx7 (h:P∈allP):P.length<=4:=by unfold allP at h;exact zAf (ub9.mp h).2
theorem SetT.fits {g:Heap} {S:Addr} {L:List (List Key × Addr)} {ep:Nat} {t:SetTable} {P:List Nat} (h:SetT prog w g S L ep t P):t.fits (yfx prog w L).toArray.size=true:=by have h1:=zx7 h.ok.all;unfold SetTable.fits SetTable.fill;rw [h.ok.pl,h.ok.dum,h.ok.mask];simp [yfx,h.len];have:=h.len;omega
def Stop (prog:Program) (w:World) (L:List (List Key × Addr)) (P:List Nat) (k:List Key) (N:Nat):Prop :=
 (ix (hK prog w k) N∉P/\k∉L.map (·.1))\/∃ i e,yby P (ix (hK prog w k) N)=some i/\L[i]?=some e/\e.1=k
theorem zgh:∀ {P:List Nat} {i j:Nat},P.Nodup->P[i]?=some j->yby P j=some i
 | [],i,j,_,h=>by simp at h
 | a::l,0,j,_,h=>by simp at h;subst h;rw [yby,if_pos rfl]
 | a::l,i+1,j,hn,h=>by
  obtain ⟨h1,h2⟩:=ua7.mp hn;have h':l[i]?=some j:=by simpa using h
  have:a≠j:=fun e=>h1 (by rw [e];exact zAm h');rw [yby,if_neg this,zgh h2 h'];rfl
theorem zyy (h:P∈allP):P.Nodup:=zAf (oml zwp P h)
theorem SetT.stop {g:Heap} {S:Addr} {L:List (List Key × Addr)} {ep:Nat} {t:SetTable} (h:SetT prog w g S L ep t P) (k:List Key):∃ N,N<=20/\Stop prog w L P k N/\∀ m,m<N->ix (hK prog w k) m∈P:=by
 by_cases hk:k∈L.map (·.1)
 .obtain ⟨e,he,rfl⟩:=omm hk;obtain ⟨i,hi⟩:=List.getElem?_of_mem he;obtain ⟨hl,_⟩:=ome hi;have hj:P[i]?=some (P[i]'(by rw [h.len];exact hl)):=zzm _;obtain ⟨n,h1,h2,h3⟩:=h.rch (e,P[i]'(by rw [h.len];exact hl)) (zAm (i:=i) (by rw [List.getElem?_zip_eq_some];exact ⟨hi,hj⟩));exact ⟨n,h1,.inr ⟨i,e,zgh (zyy h.ok.all) (by rw [hj];exact zzz some h2),hi,rfl⟩,h3⟩
 .obtain ⟨K,h1,h2,h3⟩:=zkt h.ok.all (hK prog w k);exact ⟨K,h1,.inl ⟨h2,hk⟩,h3⟩
end
end
section
open PySem Spec PyProof.Rows L2
section
variable {prog:Program} {w:World} {A:Around} {E:Value->Shared->Prop} {s:Shared}
theorem zos {g g':Heap} {k:List Key} {a:Addr} (h:IsTupleKey (zak prog w) g k a) (q:∀ o,g.get? a=some o->g'.get? a=some o):IsTupleKey (zak prog w) g' k a :=
 let ⟨o,qc,n,h1,h2⟩:=h;⟨o,qc,n,q o h1,h2⟩
theorem zrc {g:Heap} {S a:Addr} {L:List (List Key × Addr)} {ep:Nat} {t:SetTable} {P:List Nat} {k:List Key} (h:SetT prog w g S L ep t P) (hk:IsTupleKey (zak prog w) g k a):a≠S:=by rintro rfl;obtain ⟨o,qc,n,h1,h2,h3,_⟩:=hk;cases h1.symm.trans h.ob;cases h3
end
end
end Ev
namespace L2
open PySem Spec PyProof.Rows
section
instance (priority:=high) keyBEq:BEq Key:=⟨fun a b=>decide (a=b)⟩
instance keyLaw:LawfulBEq Key where
 eq_of_beq:=fun h=>zAf h
 rfl:=zz0 rfl
section
variable {prog:Program} {w:World} {A:Around} {R:Result->Shared->Prop} {I:Addr} {fp wr:List Addr} {G:Array GenState->Array GenState->Prop} {P:Nat->Value->Prop} {St:Nat->Shared->Prop}
end
end
section
section
variable {prog:Program} {w:World} {A:Around} {E:Value->Shared->Prop} {s:Shared}
abbrev setO (b:Bool):Obj:={ cls:=.type "set",dict:=none,data:=.set #[] 0 (.fresh 0 0 b) }
end
end
end L2
namespace Ev
open PySem Spec PyProof.Rows L2
section
section
variable {prog:Program} {w:World} {A:Around} {R:Result->Shared->Prop} {I:Addr} {fp wr:List Addr} {G:Array GenState->Array GenState->Prop} {P:Nat->Value->Prop} {St:Nat->Shared->Prop}
end
section
variable {prog:Program} {w:World} {A:Around} {E:Value->Shared->Prop} {s:Shared}
end
end
section
open PySem W Spec PyProof.Rows L2
variable {xs:List (List Key × Addr × Value)}
theorem zhb:entryFor table "dict.update.loop"=some Builtin.«dict.update.loop»:=entryFor_of_tree (by kernel_rfl)
theorem zde:plainId "dict.update.loop"=true:=by decide +kernel
section
variable {prog:Program} {w:World} {A:Around} {R:Result->Shared->Prop} {I:Addr} {fp wr:List Addr} {G:Array GenState->Array GenState->Prop} {P:Nat->Value->Prop} {St:Nat->Shared->Prop}
def ycg (ky:Nat->List Key) (ka:Nat->Addr) (us:Nat->Value):Nat->List (List Key × Addr × Value)
 | 0=>[]
 | i+1=>storedH (ycg ky ka us i) (ky i) (ka i) (us i)
theorem zhu {k:List Key} {a:Addr} {v:Value}:(storedH xs k a v).length<=xs.length+1:=by unfold storedH;split<;>simp
theorem zgv {ky:Nat->List Key} {ka:Nat->Addr} {us:Nat->Value}:∀ i,(ycg ky ka us i).length<=i
 | 0=>zzw _
 | i+1=>zz8 zhu (zAx (zgv i))
theorem zdf {ky:Nat->List Key} {ka:Nat->Addr} {us:Nat->Value}:∀ i {x},x∈ycg ky ka us i->∃ j,j<i/\x.1=ky j/\x.2.1=ka j
 | 0,_,h=>nomatch h
 | i+1,x,h=>by
  rw [ycg] at h;unfold storedH at h;split at h
  .obtain ⟨y,hy,e⟩:=omm h;obtain ⟨j,hj,e1,e2⟩:=zdf i hy;refine ⟨j,by omega,?_⟩;unfold putAt at e;split at e<;>(subst e;exact ⟨e1,e2⟩)
  .rcases oma h with h | h
   .obtain ⟨j,hj,e⟩:=zdf i h;exact ⟨j,by omega,e⟩
   .rw [omg h];exact ⟨i,by omega,rfl,rfl⟩
theorem zuc {g g':Heap} {D:Addr} (h:g.DictOfH (tkd prog w) D xs) (hD:∀ o,g.get? D=some o->g'.get? D=some o) (hk:∀ x∈xs,∀ o,g.get? x.2.1=some o->g'.get? x.2.1=some o):g'.DictOfH (tkd prog w) D xs:=by obtain ⟨o,es,ep,ho,hc,hd,he,his,hn⟩:=h;exact ⟨o,es,ep,hD o ho,hc,hd,he,fun x hx=>zos (his x hx) fun o e=>hk x hx o e,hn⟩
theorem znr {n:Nat} {pr ka:Nat->Addr} {ky:Nat->List Key} {us:Nat->Value} (W:WalksS prog w A.in1 I fp wr G n P St) (D:Addr) (hf:D∉fp) (hv:∀ i,i<n->∀ v,P i v->v=.ref (pr i)) (hnw:∀ i,i<n->pr i∉wr/\ka i∉wr) (hnD:∀ i,i<n->pr i≠D/\ka i≠D) (hn:n<=1000) (hu:A.in1.units+1<cLine) :
  ∀ (k i:Nat) (s:Shared),n-i=k->i<=n->St i s->(∀ j,j<n->IsTup s.heap (pr j) #[.ref (ka j),us j]/\IsTupleKey (zak prog w) s.heap (ky j) (ka j))->s.heap.DictOfH (tkd prog w) D (ycg ky ka us i) ->
   (∀ s',Moved (D::wr) G s s'->s'.heap.DictOfH (tkd prog w) D (ycg ky ka us n)->R (.ok (.ret .none)) s')->codeAny (model prog w) A (.builtin "dict.update.loop" ⟨[.ref D,.ref I,rawInt i,.none],[]⟩) R s:=by
 have hw:D∉wr:=fun z=>hf (W.sub _ z);have hsu:∀ c∈wr,c∈D::wr:=fun c hc=>zzq _ hc;intro k
 induction k with
 | zero =>
  intro i s e1 e2 st ht hd r;have e3:i=n:=by omega
  subst e3;refine codeAny_builtin zhb (show wpAny _ _ _ _ _ _ from ?_);rw [Around.under_plainId zde _];show wpAny _ A.in1 (pyNext (.ref I) >>= _) _ _ s;refine zzg (W.done s _ _ st fun s1 mv=>?_);show wpAny _ A.in1 (Builtin.Dict.addKeywords D [] >>= fun _=>ret Value.none) _ _ s1;refine zzg (show wpAny _ _ (pure ()) _ _ _ from zzl (zzl (r s1 (mv.mono hsu) ?_)));exact zuc hd (fun o e=>mv.heap D o hw e) fun x hx=>by obtain ⟨j,hj,_,e⟩:=zdf _ hx;rw [e];exact fun o q=>mv.heap _ o (hnw j hj).2 q
 | succ k ih =>
  intro i s e1 e2 st ht hd r;have lt:i<n:=by omega
  refine codeAny_builtin zhb (show wpAny _ _ _ _ _ _ from ?_);rw [Around.under_plainId zde _];show wpAny _ A.in1 (pyNext (.ref I) >>= _) _ _ s;refine zzg (W.item i s _ _ lt st fun v s1 hP st1 mv=>?_);obtain rfl:=hv i lt v hP;dsimp only;obtain ⟨⟨o,h1,h2,m,h3⟩,hk⟩:=ht i lt;have g1:s1.heap.get? (pr i)=some o:=mv.heap _ o (hnw i lt).1 h1;refine zzg (uc2 (zzg (wpAny_tryCatch ?_)));unfold Builtin.Dict.pairItems;refine zzg (Looks.here (show Looks _ s1.heap (typeOf (.ref (pr i))) o.cls from (Looks.ld g1).andThen .now) ?_);rw [h2,if_pos (by decide)];refine zzg (Looks.here (show Looks _ s1.heap (seqItems? (.ref (pr i))) (some #[.ref (ka i),us i]) from (Looks.ld g1).andThen (by rw [h3];exact .now)) (zzl ?_));show wpAny _ _ (holding [.ref (ka i),us i] (dictSet D (.ref (ka i)) (us i))) _ _ s1;have hk1:∀ j,j<n->IsTupleKey (zak prog w) s1.heap (ky j) (ka j):=fun j hj=>zos (ht j hj).2 fun o e=>mv.heap _ o (hnw j hj).2 e;have hd1:s1.heap.DictOfH (tkd prog w) D (ycg ky ka us i):=zuc hd (fun o e=>mv.heap D o hw e) fun x hx=>by obtain ⟨j,hj,_,e⟩:=zdf _ hx;rw [e];exact fun o q=>mv.heap _ o (hnw j (by omega)).2 q
  refine uc2 (wpAny_dictSet_heap (hsz:=by have:=zgv (ky:=ky) (ka:=ka) (us:=us) i;rw [ub5];omega) (tupleKind_room_in1 (by have:A.units+1+1<cLine:=hu;omega)) (hk1 i lt) hd1 fun h' dd' hs=>?_);refine zzl ⟨plainId_quiet zde _,ih (i+1) _ (by omega) lt ?_ (fun j hj=>⟨?_,?_⟩) dd' fun s2 mv2 d2=>r s2 ?_ d2⟩
  .exact W.frame _ s1 _ _ st1 (Nat.le_add_right _ _) fun c hc o e=>by show h'.get? c=some o;rw [hs.2 c fun z:c=D=>hf (by rw [<- z];exact hc)];exact e
  .obtain ⟨o',q1,q2,q3⟩:=(ht j hj).1;exact ⟨o',by show h'.get? (pr j)=some o';rw [hs.2 _ (hnD j hj).1];exact mv.heap _ o' (hnw j hj).1 q1,q2,q3⟩
  .exact zos (hk1 j hj) fun o e=>by show h'.get? (ka j)=some o;rw [hs.2 _ (hnD j hj).2];exact e
  .refine Moved.trans W.gtrans ((mv.mono hsu).then_heap (Nat.le_add_right _ _) fun c o hc e=>?_) mv2;rw [hs.2 c fun z:c=D=>hc (by rw [z];exact zzt)];exact e
end
end
section
open PySem W Spec PyProof.Rows L2
theorem zg2:typeLookup (.type "list") "keys"=pure none:=by rw [typeLookup_type,builtinLookup_eq_fast];kernel_rfl
theorem zeu:typeLookup (.type "list") "__getattr__"=pure none:=by rw [typeLookup_type,builtinLookup_eq_fast];kernel_rfl
section
variable {prog:Program} {w:World} {A:Around} {E:Value->Shared->Prop} {a:Addr} {xs:Array Value} {n:Nat} {sl:Array (Option Value)}
theorem zmr {s:Shared} {Q:Option Value->Shared->Prop} (hx:s.heap.get? a=some { cls:=.type "list",dict:=none,data:=.seq xs n,slots:=sl }) (hA:A.handled=none)
  (h:∀ h' tk,(∀ b o,s.heap.get? b=some o->h'.get? b=some o)->Q none { s with heap:=h',toks:=tk }):wpAny (model prog w) A (getAttr? (.ref a) "keys") Q E s:=by
 obtain ⟨hp,g,d,tk,os⟩:=s;have hT:∀ t,(⟨hp,g,d,t,os⟩:Shared).TypeIs (.ref a) "list":=fun t=>⟨_,hx,rfl⟩;have f1:=sub_AttributeError;have f3:=F.slot_list_getattribute.lookup;have f4:=F.slot_list_getattribute.bind (.ref a);have f5:=zeu;unfold getAttr? getAttrBy? getAttrBy
 repeat (any_goals (first | assumption | exact hT _ | wp_step))
 refine codeAny_call_builtin F.slot_list_getattribute.plain F.entry_list_ga (F.slot_list_getattribute.check _ _ _ _ _ _ _ _ (hT _) (F.args_list_getattribute_2 _ _) ?_);have f6:=zg2;have hT':=hT (tk+1);unfold Builtin.«object.__getattribute__»
 repeat (any_goals (first | assumption | exact hT _ | wp_step))
 refine wpAny_raiseAttrError (by first | exact hA | simp [hA]) (fun h' tk' e hx'=>?_) (attrMsg_fits (by decide +kernel) (by rw [ub5];decide +kernel));obtain ⟨t',u',he⟩:=hx'.there;show wpAny _ _ (getattributeRaised _ _ _ _ _ _ _) _ _ _;unfold getattributeRaised
 repeat (any_goals (first | assumption | wp_step))
 exact h h' tk' hx'.keeps
end
end
section
open PySem W Spec PyProof.Rows L2
section
variable {prog:Program} {w:World} {A:Around} {E:Value->Shared->Prop} {sl:Array (Option Value)}
theorem zxt (h:Heap):(h.push { cls:=.type "dict",data:=.dict #[] }).DictOfH (tkd prog w) h.objs.size [] :=
 ⟨_,#[],0,zzp _ rfl,⟨rfl,rfl,rfl⟩,rfl,rfl,fun x hx=>(nomatch hx),ud4⟩
theorem zku {s:Shared} {l:Addr} {qc:Array Value} {m N:Nat} {pr ka:Nat->Addr} {ky:Nat->List Key} {us:Nat->Value} {Q:Value->Shared->Prop} (hh:A.handled=none) (hl:s.heap.get? l=some { cls:=.type "list",dict:=none,data:=.seq qc m,slots:=sl }) (hn:qc.size=N) (hN:N<=1000) (hu:A.units+10<cLine)
  (hp:∀ i,i<N->qc[i]?=some (.ref (pr i))) (ht:∀ i,i<N->IsTup s.heap (pr i) #[.ref (ka i),us i]/\IsTupleKey (zak prog w) s.heap (ky i) (ka i))
  (h:∀ g tk,(∀ b o,s.heap.get? b=some o->g.get? b=some o)->g.DictOfH (tkd prog w) s.heap.objs.size (ycg ky ka us N)->Q (.ref s.heap.objs.size) { s with heap:=g,toks:=tk }) :
  wpAny (model prog w) A (call (.type "dict") [.ref l]) Q E s:=by
 refine callType_codes (Q₁:=fun obj s₁=>obj=.ref s.heap.objs.size/\s₁={ s with heap:=s.heap.push { cls:=.type "dict",data:=.dict #[] } }) F.kt_called_dict (F.kt_typeCall_dict_1 _) F.entry_dict_init (kt_code_dict_new _ ⟨rfl,rfl⟩) ?_;rintro obj s₁ ⟨rfl,rfl⟩;have hnew:(s.heap.push { cls:=.type "dict",data:=.dict #[] }).DictOfH (tkd prog w) s.heap.objs.size []:=zxt s.heap;have hty:({ s with heap:=s.heap.push { cls:=.type "dict",data:=.dict #[] } }:Shared).TypeIs (.ref s.heap.objs.size) "dict":=⟨_,zzp _ rfl,rfl⟩;have hl1:(s.heap.push { cls:=.type "dict",data:=.dict #[] }).get? l=some { cls:=.type "list",dict:=none,data:=.seq qc m,slots:=sl }:=zzf _ hl;refine ⟨hty,F.args_dict_init_2 _ _,?_⟩;unfold Builtin.«dict.__init__»;refine zzg ?_;unfold Builtin.Dict.selfAndRest;refine zzg (wpAny_notOrdered_dict hty ?_);show wpAny _ _ (pure (s.heap.objs.size,[Value.ref l])) _ _ _;refine zzl ?_;show wpAny _ _ (Builtin.Dict.updateFrom "dict.__init__" s.heap.objs.size (.ref l) [] .none) _ _ _;unfold Builtin.Dict.updateFrom;refine zzg (wpAny_typeOf (show Shared.TypeIs _ (.ref l) "list" from ⟨_,hl1,rfl⟩) ?_);rw [if_pos (by decide)];refine wpAny_bind (zmr hl1 (by simp [hh]) fun h' tk' kp=>?_);rw [if_pos (show (none:Option Value).isNone=true from rfl)];refine zzg (wpAny_rule ?_);have hl2:h'.get? l=some { cls:=.type "list",dict:=none,data:=.seq qc m,slots:=sl }:=kp _ _ hl1;have hl3:h'.IsList l qc:=⟨_,hl2,rfl,m,rfl⟩;have kp':∀ b o,s.heap.get? b=some o->h'.get? b=some o:=fun b o e=>kp _ _ (zzf _ e);refine zzg (wpAny_pyIter_list hl3 (zzl ⟨plainId_quiet zde _,?_⟩));have ll:l<h'.objs.size:=zzv hl2;have hD0:h'.get? s.heap.objs.size=some { cls:=.type "dict",data:=.dict #[] }:=kp _ _ (zzp _ rfl);have lD:s.heap.objs.size<h'.objs.size:=zzv hD0;have ll0:l<s.heap.objs.size:=zzv hl;have W:=(Walks.list (prog:=prog) (w:=w) (A:=A.in1.in1) (by simp [hh]) h'.objs.size l (Nat.ne_of_lt ll) qc).toS;rw [hn] at W;have lp:∀ i,i<N->pr i<s.heap.objs.size:=fun i hi=>let ⟨o,e,_⟩:=(ht i hi).1;zzv e
 have lk:∀ i,i<N->ka i<s.heap.objs.size:=fun i hi=>let ⟨o,_,_,e,_⟩:=(ht i hi).2;zzv e
 refine znr (pr:=pr) (ka:=ka) (ky:=ky) (us:=us) W s.heap.objs.size ?_ (fun i hi v hP=>?_) (fun i hi=>?_) (fun i hi=>⟨zz5 (lp i hi),zz5 (lk i hi)⟩) hN (by show A.units+1+1+1<cLine;omega) (N-0) 0 _ rfl (zAd _) ?_ (fun j hj=>?_) ?_ fun s' mv dd=>?_
 .simp only [List.mem_cons,List.not_mem_nil,or_false,not_or];exact ⟨zz5 lD,Nat.ne_of_gt ll0⟩
 .exact zz2 (hP.symm.trans (hp i hi))
 .simp only [List.mem_cons,List.not_mem_nil,or_false];exact ⟨zz5 (Nat.lt_trans (lp i hi) lD),zz5 (Nat.lt_trans (lk i hi) lD)⟩
 .exact ⟨⟨_,zzp _ rfl,rfl,rfl⟩,⟨_,zzf _ hl2,rfl,m,rfl⟩⟩
 .obtain ⟨o,q1,q2,q3⟩:=(ht j hj).1;exact ⟨⟨o,zzf _ (kp' _ _ q1),q2,q3⟩,zos (ht j hj).2 fun o e=>zzf _ (kp' _ _ e)⟩
 .exact zuc hnew (fun o e=>zzf _ (kp _ _ e)) fun x hx=>nomatch hx
 .obtain ⟨g3,gs3,d3,tk3,os3⟩:=s';have eg:gs3=s.gens:=mv.gens;have ed:d3=s.drawn:=mv.drawn;have eo:os3=s.os:=mv.os;subst eg;subst ed;subst eo;refine ⟨rfl,h g3 tk3 (fun b o e=>mv.heap b o ?_ (zzf _ (kp' _ _ e))) dd⟩;have hb:=zzv e;simp only [List.mem_cons,List.not_mem_nil,or_false,not_or];exact ⟨zz5 hb,zz5 (Nat.lt_trans hb lD)⟩
end
end
section
abbrev PRep {κ:Type} (K:W.Frag) (F:Hp):List (κ × T)->List (κ × V)->Prop:=Paired fun p q=>q.1=p.1/\Rep K F p.2 q.2
section
variable {κ:Type} [DecidableEq κ] {K:W.Frag} {F:Hp}
theorem PRep.of:∀ {qb:List (κ × T)} {ws:List (κ × V)},ws.map (·.1)=qb.map (·.1)->Reps K F (qb.map (·.2)) (ws.map (·.2))->PRep K F qb ws
 | [],[],_,_=>.nil
 | [],_::_,h,_=>by simp at h
 | _::_,[],h,_=>by simp at h
 | p::qb,q::ws,h,r=>by rw [zzi,zzi] at h;injection h with h1 h2;obtain ⟨v,vr,e,r1,r2⟩:=r;rw [zzi] at e;injection e with e1 e2;exact .cons ⟨h1,by rw [e1];exact r1⟩ (PRep.of h2 (by rw [e2];exact r2))
theorem PRep.keys {qb:List (κ × T)} {ws:List (κ × V)} (r:PRep K F qb ws):ws.map (·.1)=qb.map (·.1):=by
 induction r with
 | nil=>rfl
 | cons h t ih=>rw [zzi,zzi,ih,h.1]
theorem PRep.vals {qb:List (κ × T)} {ws:List (κ × V)} (r:PRep K F qb ws):Reps K F (qb.map (·.2)) (ws.map (·.2)):=by
 induction r with
 | nil=>rfl
 | cons h t ih=>exact ⟨_,_,rfl,h.2,ih⟩
theorem PRep.any {qb:List (κ × T)} {ws:List (κ × V)} (r:PRep K F qb ws) (k:κ):(ws.any fun kv=>decide (kv.1=k))=qb.any fun kv=>decide (kv.1=k):=by
 induction r with
 | nil=>rfl
 | cons h t ih=>rw [ub7,ub7,ih,h.1]
theorem PRep.put {qb:List (κ × T)} {ws:List (κ × V)} (r:PRep K F qb ws) (k:κ) {y:T} {v:V} (ry:Rep K F y v):PRep K F (ybq qb k y) (yb3 ws k v):=by
 unfold ybq yb3;rw [r.any k];by_cases e:(qb.any fun kv=>decide (kv.1=k))=true
 .rw [if_pos e,if_pos e];clear e
  induction r with
  | nil=>exact .nil
  | @cons p q ps qs h t ih =>
   rw [zzi,zzi];refine .cons ?_ ih;by_cases e:p.1=k
   .rw [if_pos e,if_pos (h.1.trans e)];exact ⟨h.1,ry⟩
   .rw [if_neg e,if_neg (fun z=>e (h.1.symm.trans z))];exact h
 .rw [if_neg e,if_neg e];exact Paired.snoc r ⟨rfl,ry⟩
theorem PRep.drop {qb:List (κ × T)} {ws:List (κ × V)} (r:PRep K F qb ws) (k:κ):PRep K F (yfa qb k) (ye1 ws k):=by
 unfold yfa ye1
 induction r with
 | nil=>exact .nil
 | @cons p q ps qs h t ih =>
  rw [ub0,ub0,h.1];by_cases e:p.1=k
  .rw [if_neg (by simp [e]),if_neg (by simp [e])];exact ih
  .rw [if_pos (by simp [e]),if_pos (by simp [e])];exact .cons h ih
theorem PRep.val {qb:List (κ × T)} {ws:List (κ × V)} (r:PRep K F qb ws) (k:κ):(yfo qb k=none/\ybi ws k=none)\/∃ t v,yfo qb k=some t/\ybi ws k=some v/\Rep K F t v:=by
 induction r with
 | nil=>exact .inl ⟨rfl,rfl⟩
 | @cons p q ps qs h t ih =>
  rw [yfo];by_cases e:p.1=k
  .rw [if_pos e,zbf (h.1.trans e)];exact .inr ⟨_,_,rfl,rfl,h.2⟩
  .rw [if_neg e,zbg (fun z=>e (h.1.symm.trans z))];exact ih
end
end
section
open PySem W Spec PyProof.Rows L2
theorem zfi:∀ {xs:List T} {l:List (List Kt × T)},ybx xs=some l->xs.length=l.length/\∀ i (h:i<l.length),∃ x,xs[i]?=some x/\yds x=some l[i]
 | [],l,h=>by cases h;exact ⟨rfl,fun i hi=>absurd hi (Nat.not_lt_zero _)⟩
 | x::r,l,h=>by
  obtain ⟨p,h1,h⟩:=obs h;obtain ⟨ps,h2,h⟩:=obs h;cases h;obtain ⟨e,g⟩:=zfi h2;refine ⟨by simp [e],fun i hi=>?_⟩;cases i with
  | zero=>exact ⟨x,rfl,h1⟩
  | succ i=>exact g i (by simpa using hi)
section
variable {X:Cx}
theorem zs7 {pj:List (Addr × Obj)} {O:L2.St} {H F:Hp} {s:Shared} (I:Inv X pj O H s) (fh:Same F H) {x:T} {p:List Kt × T} {v:V} {u:Value} (h:yds x=some p) (r:Rep X.K F x v) (ru:RelV v u) :
  ∃ (q c:Addr) (y:V) (z:Value),u=.ref q/\IsTup s.heap q #[.ref c,z]/\H c=some (.tup (p.1.map kV))/\F c=some (.tup (p.1.map kV))/\Rep X.K F p.2 y/\RelV y z:=by
 unfold yds at h;split at h
 .rename_i ks w;obtain ⟨k,hk,rfl⟩:=oms h;obtain ⟨q,vs,qc,rfl,rfl,g1,g2,g3,g4⟩:=zbh I fh r ru;obtain ⟨v1,r1,rfl,k1,v2,r2,rfl,k2,rfl⟩:=g2;cases g3 with
  | cons a1 g3 =>
   cases g3 with
   | cons a2 g3 =>cases g3;obtain ⟨c,ws,rfl,m1,m2⟩:=k1;have:=zbw m2 hk;subst this;cases a1;exact ⟨q,c,v2,_,rfl,g4,fh _ _ m1,m1,k2,a2⟩
 .cases h
theorem yda (hcalm:X.calm=true) (hu:X.A.units+100<cLine):yb7 X (.type "dict") (fun zs H Q=>∃ F xs l x,zs=[x]/\Same F H/\Rep X.K F (.lst xs) x/\ybx xs=some l/\l.length<=1000/\∀ v F' H',Step F H F' H'->Rep X.K F' (.dt ((ybr l).map (·.1)) ((ybr l).map (·.2))) v->Q v H'):=by
 intro pj s O H zs us Q I r h;obtain ⟨F,xs,l,x,rfl,fh,r1,hp,h1000,q⟩:=h;obtain ⟨u,rfl,ru⟩:=yb6 r;obtain ⟨a,vs,rfl,g1,g2⟩:=r1;cases ru;obtain ⟨z,qc,n,rv,ho⟩:=(Ls.same fh g1).ok I;obtain ⟨e1,hg⟩:=zfi hp;have hl:qc.length=l.length:=by rw [<- rv.length,g2.length,e1]
 have ex:∀ i,∃ f:Addr × Addr × V × Value,i<l.length->qc[i]?=some (.ref f.1)/\IsTup s.heap f.1 #[.ref f.2.1,f.2.2.2]/\H f.2.1=some (.tup ((l.getD i ([],.non)).1.map kV))/\Rep X.K F (l.getD i ([],.non)).2 f.2.2.1/\RelV f.2.2.1 f.2.2.2:=fun i=>by
  by_cases hi:i<l.length
  .obtain ⟨x,hx,hpx⟩:=hg i hi;obtain ⟨v,hv,rv1⟩:=g2.get hx;obtain ⟨u,hu',ru⟩:=rv.get hv;obtain ⟨q,c,y,z,rfl,t1,t2,_,t3,t4⟩:=zs7 I fh hpx rv1 ru;have el:l.getD i ([],.non)=l[i]:=by rw [zzr,zzm hi];rfl
   exact ⟨(q,c,y,z),fun _=>⟨hu',t1,by rw [el];exact t2,by rw [el];exact t3,t4⟩⟩
  .exact ⟨(0,0,.non,.none),fun z=>absurd z hi⟩
 obtain ⟨f,hf⟩:=Classical.axiomOfChoice ex;refine zku (pr:=fun i=>(f i).1) (ka:=fun i=>(f i).2.1) (ky:=fun i=>(l.getD i ([],.non)).1) (us:=fun i=>(f i).2.2.2) (N:=l.length) (I.ok.hd hcalm) ho (by simpa using hl) h1000 (by omega) (fun i hi=>by simpa using (hf i hi).1) (fun i hi=>⟨(hf i hi).2.1,zd3 I.hok (hf i hi).2.2.1⟩) fun g tk kp dd=>?_;have main:∀ i,i<=l.length->∃ ws:List (List Key × V),KT H ws (ycg (fun i=>(l.getD i ([],.non)).1) (fun i=>(f i).2.1) (fun i=>(f i).2.2.2) i)/\PRep X.K F (ybr (l.take i)) ws/\ws.length<=i:=by
  intro i
  induction i with
  | zero=>exact fun _=>⟨[],.nil,.nil,zzw _⟩
  | succ i ih =>
   intro hi;obtain ⟨ws,k1,k2,k3⟩:=ih (by omega);obtain ⟨t1,t2,t3,t4,t5⟩:=hf i (by omega);refine ⟨yb3 ws (l.getD i ([],.non)).1 (f i).2.2.1,k1.put _ t3 t5,?_,?_⟩
   .have e:l.take (i+1)=l.take i++[l.getD i ([],.non)]:=by rw [List.take_succ,zzm (show i<l.length by omega),zzr,zzm (show i<l.length by omega)];rfl
    have e2:ybr (l.take (i+1))=ybq (ybr (l.take i)) (l.getD i ([],.non)).1 (l.getD i ([],.non)).2:=by unfold ybr;rw [e,List.foldl_append];rfl
    rw [e2];exact k2.put _ t4
   .have:=zce ws (l.getD i ([],.non)).1 (f i).2.2.1;omega
 obtain ⟨ws,k1,k2,k3⟩:=main l.length (zzw _);rw [List.take_length] at k2;have hn:H s.heap.objs.size=none:=I.hok.fresh (zzw _);have hsys:(s.heap.objs.size==sysModules)=false:=by have:=I.big;simpa using Nat.ne_of_gt this
 obtain ⟨o,es,ep,d1,d2,d3,d4,d5,d6⟩:=dd;have I1:=I.laid (a:=s.heap.objs.size) (o:=.dT ws) (t':=tk) kp (zzw _) ⟨by rw [ub5];omega,hsys,_,k1.keeps fun c ys ec=>by rw [zad (zae ec hn)];exact ec,o,es,ep,d1,d2,d3,d4,d6⟩;have st:=(Step.refl fh).new (o:=.dT ws) hn;exact ⟨.ref s.heap.objs.size,_,I1,rfl,q _ _ _ st ⟨_,ws,rfl,zah,k2.keys,k2.vals.mono st.ff⟩⟩
end
end
section
variable {f:Env->Option T} {G:Glo} {k:Nat} {x:Str} {g:T->Option T}
section
variable {X:Cx} {c:Tc} {a b:Expr} {pos p:Pos}
def BlS (X:Cx) (f:Value) (g:T->Option T):Prop :=
 yb7 X f (fun xs H Q=>∃ F t1 t x,xs=[x]/\Same F H/\Rep X.K F t1 x/\g t1=some t/\∀ v F' H',Step F H F' H'->Rep X.K F' t v->Q v H')
theorem zx1:BlS X (.builtin "len") (ya6 .len):=by
 intro pj s O H xs us Q I r h;obtain ⟨F,t1,t,x,rfl,fh,r1,ht,q⟩:=h;cases t1 with
 | tup ts =>obtain ⟨l,vs,rfl,h1,h2⟩:=r1;cases ht;exact zd4 pj s O H _ us Q I r ⟨l,vs,rfl,.inr (zai fh h1),q _ F H (Step.refl fh) (by rw [h2.length];rfl)⟩
 | lst ts =>obtain ⟨l,vs,rfl,h1,h2⟩:=r1;cases ht;exact zd4 pj s O H _ us Q I r ⟨l,vs,rfl,.inl (Ls.same fh h1).sq,q _ F H (Step.refl fh) (by rw [h2.length];rfl)⟩
 | _=>cases ht
theorem zx2:BlS X (.type "int") (ya6 .toInt):=by
 intro pj s O H xs us Q I r h;obtain ⟨F,t1,t,x,rfl,fh,r1,ht,q⟩:=h;cases t1 with
 | int i=>cases r1;cases ht;exact zhj pj s O H _ us Q I r (.inl ⟨i,rfl,q _ F H (Step.refl fh) rfl⟩)
 | bl k=>cases r1;cases ht;exact zhj pj s O H _ us Q I r (.inr ⟨k,rfl,q _ F H (Step.refl fh) rfl⟩)
 | _=>cases ht
theorem zqw:BlS X (.type "tuple") (ya6 .toTuple):=by
 intro pj s O H xs us Q I r h;obtain ⟨F,t1,t,x,rfl,fh,r1,ht,q⟩:=h;cases t1 with
 | tup ts =>obtain ⟨l,vs,rfl,h1,h2⟩:=r1;cases ht;exact zdr pj s O H _ us Q I r ⟨l,vs,rfl,.inr ⟨zai fh h1,q _ F H (Step.refl fh) ⟨l,vs,rfl,h1,h2⟩⟩⟩
 | lst ts =>obtain ⟨l,vs,rfl,h1,h2⟩:=r1;cases ht;refine zdr pj s O H _ us Q I r ⟨l,vs,rfl,.inl ⟨(Ls.same fh h1).sq,fun l' hl=>?_⟩⟩;have st:=(Step.refl fh).new (o:=.tup vs) hl;exact q _ _ _ st ⟨l',vs,rfl,zah,h2.mono st.ff⟩
 | _=>cases ht
theorem zhk {K:W.Frag} {F:Hp}:∀ {ts:List T} {vs:List V} {bs:List Bool},Reps K F ts vs->zdz ts=some bs->vs=bs.map V.bl
 | [],_,_,h,e=>by cases h;cases e;rfl
 | t::ts,_,_,h,e=>by
  obtain ⟨v,w,rfl,h1,h2⟩:=h;obtain ⟨b,e1,e⟩:=obs e;obtain ⟨bs,e2,e⟩:=obs e;cases e;rw [zhk h2 e2];cases t with
  | bl i=>cases e1;cases h1;rfl
  | _=>cases e1
theorem zfc:∀ {bs:List Bool} {us:List Value},Vals (bs.map V.bl) us->us=bs.map Value.bool
 | [],_,h=>by cases h;rfl
 | b::bs,_,h=>by
  rw [zzi] at h;cases h with
  | cons h1 h2 =>cases h1;rw [zfc h2];rfl
theorem zx3 (hcalm:X.calm=true):BlS X (.builtin "any") (ya6 .any):=by
 intro pj s O H xs us Q I r h;obtain ⟨F,t1,t,x,rfl,fh,r1,ht,q⟩:=h;cases t1 with
 | lst ts =>
  obtain ⟨l,vs,rfl,h1,h2⟩:=r1;obtain ⟨u,rfl,ru⟩:=yb6 r;cases ru;simp only [ya6] at ht;obtain ⟨bs,hbs,rfl⟩:=oms ht;have hvs:=zhk h2 hbs;subst hvs;obtain ⟨qc,rv,hl,hz⟩:=zhy I (Ls.same fh h1);have ei:=zfc rv;subst ei;have hlt:l<s.heap.objs.size:=by obtain ⟨_,e,_⟩:=hl;exact zzv e
  refine call_any_walk (wpAny_pyIter_list hl ?_);refine ⟨s.heap.objs.size,[s.heap.objs.size,l],[s.heap.objs.size],(bs.map Value.bool).toArray.size,_,_,fun i=>(bs[i]?).getD true,rfl,Walks.list (A:=X.A.in1) (I.ok.hd hcalm) _ l (zz5 hlt) (bs.map Value.bool).toArray,
   ⟨⟨_,zzp _ rfl,rfl,rfl⟩,hl.push _⟩,fun i v s' Q' E' hP hQ=>?_,fun h' tk hk=>?_⟩
  .have hP':(bs.map Value.bool)[i]?=some v:=by simpa using hP
   rw [zAb] at hP';obtain ⟨b,hb,rfl⟩:=oms hP';replace hQ:Q' ((bs[i]?).getD true) s':=hQ;rw [hb] at hQ;exact wpAny_truthy_bool hQ
  .have e:((List.range (bs.map Value.bool).toArray.size).any fun i=>(bs[i]?).getD true)=bs.any id:=by
    rw [zzs,zzo];have:∀ (l:List Bool),((List.range l.length).any fun i=>(l[i]?).getD true)=l.any id:=by
     intro l
     induction l with
     | nil=>rfl
     | cons a l ih =>rw [zz4,List.range_succ_eq_map,ub7,List.any_map,ub7,<- ih];rfl
    exact this bs
   rw [e];exact ⟨.bl _,H,I.kept fun b o eo=>hk b o (fun hm=>by rw [omg hm] at eo;exact zAp _ (zzv eo)) (zzf _ eo),rfl,q _ F H (Step.refl fh) rfl⟩
 | _=>cases ht
theorem zn5 (hu:X.A.units+100<cLine) (hcalm:X.calm=true):BlS X (.builtin "sorted") (ya6 .sorted):=ziu hu hcalm
theorem zcd (ha:Oke X c a f) (hs:starEach [a] X.env=[(false,eval a X.env)]):PA X [a] (spL X c fun r=>(f r).bind fun x=>some [x]):=by refine zh1 (zh3 ha zq9 hs) fun O H Q q=>?_;obtain ⟨r,F,ts,e,ht,q⟩:=q;exact ⟨r,F,ts,e,ht,q⟩
theorem zh6 (gd:Gd X c G k) {id:String} (hc:BlS X (.builtin id) g) (hb:x∈bnames) (hg:glB c.sc x=true) (hv:bootBuiltins x=some (.builtin id)) (hn:x≠"__name__") (hdb:(x==("__debug__":Str))=false)
  (ha:Oke X c a f) (hs:starEach [a] X.env=[(false,eval a X.env)]):Oke X c (.Call (.Name x p) [a] [] pos) (fun r=>(f r).bind fun x=>g x):=by
 refine za0 (zjd hc (gd.gl x hg) (gd.nob x hb) hv (zcd ha hs) hn hdb hs rfl) fun O H Q q=>?_;obtain ⟨r,F,t,e,ht,q⟩:=q;obtain ⟨t1,e1,ht⟩:=obs ht;refine ⟨r,F,[t1],e,ue1.mpr ⟨t1,e1,rfl⟩,fun vs F' H' s1 r1=>?_⟩;obtain ⟨v,w,rfl,h1,h2⟩:=r1;cases h2;exact ⟨F',t1,t,v,rfl,s1.fh,h1,ht,fun v' F2 H2 s2 r2=>q v' F2 H2 (s1.trans s2) r2⟩
theorem zh5 (gd:Gd X c G k) {ty:String} (hc:BlS X (.type ty) g) (hb:x∈bnames) (hg:glB c.sc x=true) (hv:bootBuiltins x=some (.type ty)) (hn:x≠"__name__") (hdb:(x==("__debug__":Str))=false)
  (ha:Oke X c a f) (hs:starEach [a] X.env=[(false,eval a X.env)]):Oke X c (.Call (.Name x p) [a] [] pos) (fun r=>(f r).bind fun x=>g x):=by
 refine za0 (zl5 hc (gd.gl x hg) (gd.nob x hb) hv (zcd ha hs) hn hdb hs rfl) fun O H Q q=>?_;obtain ⟨r,F,t,e,ht,q⟩:=q;obtain ⟨t1,e1,ht⟩:=obs ht;refine ⟨r,F,[t1],e,ue1.mpr ⟨t1,e1,rfl⟩,fun vs F' H' s1 r1=>?_⟩;obtain ⟨v,w,rfl,h1,h2⟩:=r1;cases h2;exact ⟨F',t1,t,v,rfl,s1.fh,h1,ht,fun v' F2 H2 s2 r2=>q v' F2 H2 (s1.trans s2) r2⟩
theorem zul (hcalm:X.calm=true) (hu:X.A.units+100<cLine):BlS X (.type "dict") (ya6 .dict):=by
 intro pj s O H xs us Q I r h;obtain ⟨F,t1,t,x,rfl,fh,r1,ht,q⟩:=h;cases t1 with
 | lst ts =>
  obtain ⟨l,hl,ht⟩:=obs (show ((ybx ts).bind fun l=>if l.length<=1000 then some (T.dt ((ybr l).map (·.1)) ((ybr l).map (·.2))) else none)=some t from ht);split at ht
  .rename_i hz;cases ht;exact yda hcalm hu pj s O H _ _ Q I r ⟨F,ts,l,x,rfl,fh,r1,hl,hz,q⟩
  .cases ht
 | _=>cases ht
theorem zwj (gd:Gd X c G k) {kb:Bn} (hk:yeh x=some kb) (hg:glB c.sc x=true) (ha:Oke X c a f) (hs:starEach [a] X.env=[(false,eval a X.env)]) :
  Oke X c (.Call (.Name x p) [a] [] pos) (fun r=>(f r).bind fun x=>ya6 kb x):=by
 unfold yeh at hk;split at hk
 .rename_i e;have e:=ua2 e;subst e;cases hk;exact zh6 gd zx1 (by decide +kernel) hg PySem.boot_len (by decide) (by decide) ha hs
 .split at hk
  .rename_i e;have e:=ua2 e;subst e;cases hk;exact zh5 gd zx2 (by decide +kernel) hg PyProof.Rows.boot_int (by decide) (by decide) ha hs
  .split at hk
   .rename_i e;have e:=ua2 e;subst e;cases hk;exact zh5 gd zqw (by decide +kernel) hg PyProof.Rows.boot_tuple (by decide) (by decide) ha hs
   .split at hk
    .rename_i e;have e:=ua2 e;subst e;cases hk;exact zh6 gd (zx3 gd.calm) (by decide +kernel) hg PyProof.Rows.boot_any (by decide) (by decide) ha hs
    .split at hk
     .rename_i e;have e:=ua2 e;subst e;cases hk;exact zh6 gd (zn5 (by have:=gd.room.un;omega) gd.calm) (by decide +kernel) hg (show bootBuiltins "sorted"=some (.builtin "sorted") by decide +kernel) (by decide) (by decide) ha hs
     .cases hk
theorem zyx (gd:Gd X c G k) {kb:Bn} (hk:yfl x=some kb) (hg:glB c.sc x=true) (ha:Oke X c a f) (hs:starEach [a] X.env=[(false,eval a X.env)]) :
  Oke X c (.Call (.Name x p) [a] [] pos) (fun r=>(f r).bind fun x=>ya6 kb x):=by
 unfold yfl at hk;split at hk
 .rename_i e;have e:=ua2 e;subst e;cases hk;exact zh5 gd (zul gd.calm (by have:=gd.room.un;omega)) (by decide +kernel) hg PyProof.Rows.boot_dict (by decide) (by decide) ha hs
 .exact zwj gd hk hg ha hs
def tyS:Ty->String
 | .tbool=>"bool"
theorem zqv:yb7 X (.builtin "isinstance") (fun xs H Q=>∃ F t1 x k,xs=[x,.ty (tyS k)]/\Same F H/\Rep X.K F t1 x/\Q (.bl (yer t1 k)) H):=by
 intro pj s O H xs us Q I r h;obtain ⟨F,t1,x,k,rfl,fh,r1,q⟩:=h;obtain ⟨u,w',rfl,rx,ry⟩:=ye0 r;cases ry;have fT:∀ b,b=yer t1 k->EP X pj O Q (.bool b) s:=fun b e=>by subst e;exact ⟨.bl _,H,I,rfl,q⟩
 have fF:∀ b,b=yer t1 k->EP X pj O Q (.bool b) { s with toks:=s.toks+1 }:=fun b e=>by subst e;exact ⟨.bl _,H,I.tok _,rfl,q⟩
 cases t1 with
 | non =>cases r1;cases rx;cases k;exact IsiPair.NoneType_bool (fF _ rfl)
 | bl b =>cases r1;cases rx;cases k;exact IsiPair.bool_bool (fT _ rfl)
 | int b =>cases r1;obtain ⟨t,rfl⟩:=rx;cases k;exact IsiPair.int_bool (fF _ rfl)
 | str b =>cases r1;obtain ⟨t,rfl⟩:=rx;cases k;exact IsiPair.str_bool (fF _ rfl)
 | tup ts =>obtain ⟨l,vs,rfl,h1,h2⟩:=r1;cases rx;obtain ⟨qc,_,⟨o,ho,hc,_⟩,_⟩:=I.tuple (zai fh h1);cases k;exact IsiPair.tuple_bool ho hc (fF _ rfl)
 | lst ts =>obtain ⟨l,vs,rfl,h1,h2⟩:=r1;cases rx;obtain ⟨qc,_,⟨o,ho,hc,_⟩,_⟩:=zhy I (Ls.same fh h1);cases k;exact IsiPair.list_bool ho hc (fF _ rfl)
 | dk ks ts =>obtain ⟨l,vs,rfl,h1,h2⟩:=r1;cases rx;obtain ⟨o,ho,hc⟩:=zeg I (.inl ⟨_,fh _ _ h1⟩);cases k;exact IsiPair.dict_bool ho hc (fF _ rfl)
 | dt ks ts =>obtain ⟨l,vs,rfl,h1,h2⟩:=r1;cases rx;obtain ⟨o,ho,hc⟩:=zeg I (.inr ⟨_,fh _ _ h1⟩);cases k;exact IsiPair.dict_bool ho hc (fF _ rfl)
theorem zrw {k:Ty} (h:ye3 x=some k):bootBuiltins x=some (.type (tyS k))/\x∈bnames/\x≠"__name__"/\(x==("__debug__":Str))=false:=by
 unfold ye3 at h;split at h
 .rename_i e;have e:=ua2 e;subst e;cases h;exact ⟨PyProof.Rows.boot_bool,by decide +kernel,by decide,by decide⟩
 .cases h
theorem zwd (gd:Gd X c G k) {ty:Str} {kt:Ty} {p2:Pos} (hk:ye3 ty=some kt) (hg:glB c.sc "isinstance"=true) (hgt:glB c.sc ty=true) (ha:Oke X c a f)
  (hs:starEach [a,.Name ty p2] X.env=(false,eval a X.env)::starEach [.Name ty p2] X.env):Oke X c (.Call (.Name "isinstance" p) [a,.Name ty p2] [] pos) (fun r=>(f r).bind fun x=>some (.bl (yer x kt))):=by
 obtain ⟨h1,h2,h3,h4⟩:=zrw hk;have hb:PE X (.Name ty p2) (tC (.ty (tyS kt))):=zs6 (gd.gl ty hgt) (gd.nob ty h2) h1 rfl h3 h4;refine za0 (zjd zqv (gd.gl _ hg) (gd.nob _ (by decide +kernel)) boot_isinstance (zer ha (zer hb zje rfl) hs) (by decide) (by decide) hs rfl) fun O H Q q=>?_;obtain ⟨r,F,t,e,ht,q⟩:=q;obtain ⟨t1,e1,ht⟩:=obs ht;cases ht;refine ⟨r,F,t1,e,e1,fun v F' H' s1 r1=>?_⟩;exact ⟨F',t1,v,kt,rfl,s1.fh,r1,q _ F' H' s1 rfl⟩
theorem zjc:∀ {ts:List T} {x:T} {i:Nat},zc5 x ts=some i->∃ t,ts[i]?=some t/\eqT t x=true/\∀ (j:Nat) u,j<i->ts[j]?=some u->eqT u x=false
 | [],_,_,h=>by cases h
 | y::ts,x,i,h=>by
  simp only [zc5] at h;split at h
  .rename_i e;cases h;exact ⟨y,rfl,e,fun j u hj=>absurd hj (Nat.not_lt_zero _)⟩
  .rename_i e;obtain ⟨k,e1,rfl⟩:=oms h;obtain ⟨t,h1,h2,h3⟩:=zjc e1;refine ⟨t,by simpa using h1,h2,fun j u hj hu=>?_⟩;cases j with
   | zero =>simp only [xgz,Option.some.injEq] at hu;subst hu;simpa using e
   | succ j=>exact h3 j u (by omega) (by simpa using hu)
theorem zpw:MtR X "list.index" (fun x xs H Q=>∃ F t1 t2 t y,xs=[y]/\Same F H/\Rep X.K F t1 x/\Rep X.K F t2 y/\yd8 .index t1 t2=some t/\∀ v F' H',Step F H F' H'->Rep X.K F' t v->Q v H'):=by
 intro pj s O H x xs v us Q I rx rs h;obtain ⟨F,t1,t2,t,y,rfl,fh,r1,r2,ht,q⟩:=h;obtain ⟨u,rfl,ru⟩:=yb6 rs;cases t1 with
 | lst ts =>
  simp only [yd8] at ht;split at ht
  .rename_i hf;rw [zzn] at hf;obtain ⟨f2,f1⟩:=hf;obtain ⟨i,hi,rfl⟩:=oms ht;obtain ⟨l,vs,rfl,h1,h2⟩:=r1;cases rx;have ey:=zi7 r2 f2;subst ey;have ev:=zgu h2 f1;subst ev;obtain ⟨t0,a1,a2,a3⟩:=zjc hi;obtain ⟨z,qc,n,r,ho⟩:=(Ls.same fh h1).ok I;have hlt:i<ts.length:=(ome a1).1;have hlen:qc.length=ts.length:=by rw [<- r.length,zzo]
   have hz:ts.length<=sizeLine:=by have:=(zhy I (Ls.same fh h1)).choose_spec.2.2;simpa using this
   have get:∀ (m:Nat) (hm:m<qc.toArray.size),∃ tm,ts[m]?=some tm/\eqU (vOf t2) qc.toArray[m]=eqT tm t2:=fun m hm=>by
    have hm':m<ts.length:=by rw [<- hlen];simpa using hm
    have hmv:m<(ts.map vOf).length:=by simpa using hm'
    obtain ⟨w,e3,w1⟩:=r.get (zzm hmv);have e5:qc.toArray[m]=w:=by obtain ⟨_,z⟩:=ome e3;simpa using z
    refine ⟨ts[m],zzm hm',?_⟩;have fm:flat ts[m]=true:=oml f1 _ (ua5 _);rw [e5,zrm (y:=vOf ts[m]) (by simpa using w1) (znk fm),zy9 fm f2]
   have hj:i<qc.toArray.size:=by rw [zzs,hlen];exact hlt
   refine call_meets PySem.F.slot_list_index ⟨_,ho,rfl⟩ PySem.F.entry_list_index (PySem.F.args_list_index_2 _ _) (PySem.SeqAt.list_indexAt l qc.toArray n _ _ u (eqU (vOf t2)) i hj (by unfold sizeLine at hz;omega) ?_ ?_) ⟨ho,?_,?_⟩
   .obtain ⟨tm,g1,g2⟩:=get i hj;rw [g2];rw [a1] at g1;cases g1;exact a2
   .intro m hm hmi;obtain ⟨tm,g1,g2⟩:=get m hm;rw [g2];exact a3 m tm hmi g1
   .intro y hy;exact zjj ru (znk f2) r (zoc f1) y (by simpa using hy)
   .exact ⟨.int _,H,I.tok _,⟨_,rfl⟩,q _ F H (Step.refl fh) rfl⟩
  .cases ht
 | _=>cases t2<;>cases ht
theorem zpt {g:Env->Option T} {apos cpos:Pos} {o:Expr} (ho:Oke X c o f) (ha:Oke X c a g) (hbase:attributeBase o "index" X.env (eval o X.env)=eval o X.env) (hs:starEach [a] X.env=[(false,eval a X.env)]) (hl:(apos.endLine==cpos.line)=true) :
  Oke X c (.Call (.Attribute o "index" apos) [a] [] cpos) (fun r=>(f r).bind fun x=>(g r).bind fun y=>yd8 .index x y):=by
 refine za0 (zl6 F.plainAttrs_list F.slot_list_index F.type_list_index zpw ho (zcd ha hs) hbase (by rw [hs];rfl) hl hs rfl) fun O H Q q=>?_;obtain ⟨r,F,t,e,ht,q⟩:=q;obtain ⟨t1,e1,ht⟩:=obs ht;obtain ⟨t2,e2,ht⟩:=obs ht;refine ⟨r,F,t1,e,e1,fun v F' H' s1 r1=>⟨?_,r,F',[t2],e.step s1,ue1.mpr ⟨t2,e2,rfl⟩,fun vs F2 H2 s2 r2=>?_⟩⟩
 .cases t1 with
  | lst z=>obtain ⟨l,vs,rfl,h1,h2⟩:=r1;exact .inl ⟨rfl,_,(Ls.same s1.fh h1).sq⟩
  | _=>cases t2<;>cases ht
 .obtain ⟨w,z,rfl,h1,h2⟩:=r2;cases h2;exact ⟨F2,t1,t2,t,w,rfl,s2.fh,r1.mono s2.ff,h1,ht,fun v' F3 H3 s3 r3=>q v' F3 H3 (s1.trans (s2.trans s3)) r3⟩
theorem zp2 {K:W.Frag} {F:Hp} {k:List Kt} {ws:List (List Key × V)} {ts:List T} (r:Reps K F ts (ws.map (·.2))):Rep K F ((ybt (ws.map (·.1)) ts k).getD .non) ((ybi ws k).getD .non):=by
 induction ws generalizing ts with
 | nil=>cases ts<;>rfl
 | cons p ws ih =>
  cases ts with
  | nil=>cases r
  | cons u ts =>
   obtain ⟨v,vr,e,r1,r2⟩:=r;rw [zzi] at e;injection e with e1 e2;rw [zzi,ybt];by_cases hk:p.1=k
   .rw [if_pos hk,zbf hk,e1];exact r1
   .rw [if_neg hk,zbg hk];exact ih (by rw [e2];exact r2)
theorem zwg {g:Env->Option T} {apos cpos:Pos} {o:Expr} (hu:X.A.units+1<cLine) (ho:Oke X c o f) (ha:Oke X c a g) (m:M1 X o "get" apos a cpos) :
  Oke X c (.Call (.Attribute o "get" apos) [a] [] cpos) (fun r=>(f r).bind fun x=>(g r).bind fun y=>yfk x y):=by
 refine za0 (zpn hu ho ha m) fun O H Q q=>?_;obtain ⟨r,F,t,e,ht,q⟩:=q;obtain ⟨t1,e1,ht⟩:=obs ht;obtain ⟨t2,e2,ht⟩:=obs ht;refine ⟨r,F,t1,e,e1,fun v1 F1 H1 s1 r1=>?_⟩;cases t1 with
 | dt ks ts =>
  obtain ⟨a,ws,rfl,g1,g2,g3⟩:=r1;subst g2;refine ⟨a,rfl,.inr ⟨ws,.inl (s1.fh _ _ g1)⟩,r,F1,t2,e.step s1,e2,fun v2 F2 H2 s2 r2=>?_⟩;have ga:H2 a=some (.dT ws):=s2.fh _ _ (s2.ff _ _ g1);cases t2 with
  | non =>cases ht;cases r2;exact ⟨none,.inr ⟨rfl,rfl,ws,.inl ga⟩,q _ F2 H2 (s1.trans s2) rfl⟩
  | tup xs =>obtain ⟨k,hk,rfl⟩:=oms (show ((ybn xs).map fun q=>(ybt (ws.map (·.1)) ts q).getD .non)=some t from ht);obtain ⟨b,vs,rfl,g4,g5⟩:=r2;have eb:=zbw g5 hk;subst eb;exact ⟨ybi ws k,.inl (DGet.t ga (s2.fh _ _ g4)),q _ F2 H2 (s1.trans s2) (zp2 (g3.mono s2.ff))⟩
  | _=>cases ht
 | _=>cases ht
end
end
end Ev
namespace L2
open PySem Spec PyProof.Rows
section
variable {Q:Value->Shared->Prop} {l1 l2:Addr} {xs ys:Array Value}
structure ZAp (z TI TO j1 j2:Addr) (f1 f2:List Addr):Prop where
 nz:TI≠z/\TO≠z/\j1≠z/\j2≠z
 nT:TI≠TO/\TI≠j1/\TI≠j2
 nO:TO≠j1/\TO≠j2
 nj:j1≠j2
 fz:z∉f1/\z∉f2
 fO:TO∉f1/\TO∉f2
 fj:j2∉f1/\j1∉f2
section
variable {prog:Program} {w:World} {A:Around} {E:Value->Shared->Prop} {s:Shared}
variable {z TI TO j1 j2:Addr} {f1 f2:List Addr} {n1 n2 k:Nat} {P1 P2:Nat->Value->Prop} {S1 S2:Nat->Heap->Prop} {a b:Value}
theorem zky (D1:Draws prog w A j1 f1 n1 P1 S1) (D2:Draws prog w A j2 f2 n2 P2 S2) (ap:ZAp z TI TO j1 j2 f1 f2)
  (hz:IsZip s.heap z TI TO .none) (hI:IsPair s.heap TI (.ref j1) (.ref j2)) (hO:IsPair s.heap TO a b) (t1:S1 k s.heap) (t2:S2 k s.heap) (l1:k<n1) (l2:k<n2)
  (hQ:∀ x y g tk,P1 k x->P2 k y->IsZip g z TI TO (rawInt s.heap.objs.size)->IsPair g TO x y->S1 (k+1) g->S2 (k+1) g->IsPair g s.heap.objs.size x y->g.objs.size=s.heap.objs.size+1 ->
   (∀ c o,c≠z->c≠TO->c≠j1->c≠j2->s.heap.get? c=some o->g.get? c=some o)->Q (.ref s.heap.objs.size) { s with heap:=g,toks:=tk }) :
  wpAny (model prog w) A (Builtin.«zip.__next__» ⟨[.ref z],[]⟩) (fun e s'=>∃ v,e=.done (.ret v)/\Q v s') E s:=by
 show wpAny _ _ (field (.ref z) 2 >>= _) _ _ s;refine zzg (ub4 (x:=.bool false) hz rfl rfl ?_);show wpAny _ _ (field (.ref z) 3 >>= _) _ _ s;refine zzg (ub4 (x:=.ref TI) hz rfl rfl (zzg (ud2 hI rfl ?_)));show wpAny _ _ (Builtin.SmallTypes.ownedTupleIsFree (.ref z) >>= _) _ _ s;refine zzg (show wpAny _ _ (Builtin.SmallTypes.ownedTupleIsFree (.ref z)) _ _ s from ?_);unfold Builtin.SmallTypes.ownedTupleIsFree;refine zzg (ub4 (x:=.none) hz rfl rfl (zzl ?_));simp only [if_true];refine zzg (wpAny_rule (zzg (ub4 (x:=.ref TO) hz rfl rfl ?_)));refine wpAny_bind (ud6 hz (by simp) fun g1 hz1 e1=>?_);replace hz1:IsZip g1 z TI TO .ellipsis:=hz1;refine zzg (show wpAny _ _ _ _ _ _ from ?_);simp only [List.zipIdx_nil,List.zipIdx_cons,List.forIn_nil,List.forIn_cons];refine zzg (zzg (wpAny_onRaise ?_));show wpAny _ _ (Builtin.SmallTypes.nextOf (.ref j1) >>= _) _ _ { s with heap:=g1 };have q1:S1 k g1:=D1.frame _ _ _ t1 fun c hc o e=>e1.extBut _ _ (fun y=>ap.fz.1 (y▸hc)) e;refine zzg (D1.item k _ _ _ l1 q1 fun x g2 tk2 hx u1 e2=>zzl ?_);have hO2:IsPair g2 TO a b:=e2.extBut _ _ ap.nO.1 (e1.extBut _ _ ap.nz.2.1 hO);refine zzg (ud2 hO2 rfl (zzg (wpAny_updateSeq_pair hO2 fun g3 hO3 e3=>?_)));replace hO3:IsPair g3 TO x b:=hO3;refine zzg (wpAny_letGo (zzl (zzg (zzg (wpAny_onRaise ?_)))));show wpAny _ _ (Builtin.SmallTypes.nextOf (.ref j2) >>= _) _ _ { s with heap:=g3,toks:=tk2 };have q2:S2 k g3:=D2.frame _ _ _ t2 fun c hc o e=>e3.extBut _ _ (fun y=>ap.fO.2 (y▸hc)) (e2.extBut _ _ (fun y=>ap.fj.2 (y▸hc)) (e1.extBut _ _ (fun y=>ap.fz.2 (y▸hc)) e));refine zzg (D2.item k _ _ _ l2 q2 fun y g4 tk4 hy u2 e4=>zzl ?_);have hO4:IsPair g4 TO x b:=e4.extBut _ _ ap.nO.2 hO3;refine zzg (ud2 hO4 rfl (zzg (wpAny_updateSeq_pair hO4 fun g5 hO5 e5=>?_)));replace hO5:IsPair g5 TO x y:=hO5;refine zzg (wpAny_letGo (zzl (zzl (zzg (ud2 hO5 rfl (zzg (wpAny_newTuple ?_)))))));have sz:g5.objs.size=s.heap.objs.size:=by rw [e5.1,e4.1,e3.1,e2.1,e1.1]
 have hz5:IsZip g5 z TI TO .ellipsis:=e5.extBut _ _ (Ne.symm ap.nz.2.1) (e4.extBut _ _ (Ne.symm ap.nz.2.2.2) (e3.extBut _ _ (Ne.symm ap.nz.2.1) (e2.extBut _ _ (Ne.symm ap.nz.2.2.1) hz1)));have k5:∀ c o,c≠z->c≠TO->c≠j1->c≠j2->s.heap.get? c=some o->g5.get? c=some o:=fun c o c1 c2 c3 c4 e=>e5.extBut _ _ c2 (e4.extBut _ _ c4 (e3.extBut _ _ c2 (e2.extBut _ _ c3 (e1.extBut _ _ c1 e))));have v1:S1 (k+1) g5:=D1.frame _ _ _ u1 fun c hc o e=>e5.extBut _ _ (fun y=>ap.fO.1 (y▸hc)) (e4.extBut _ _ (fun y=>ap.fj.1 (y▸hc)) (e3.extBut _ _ (fun y=>ap.fO.1 (y▸hc)) e));have v2:S2 (k+1) g5:=D2.frame _ _ _ u2 fun c hc o e=>e5.extBut _ _ (fun y=>ap.fO.2 (y▸hc)) e;have ltz:z<g5.objs.size:=zzv hz5;show wpAny _ _ (Builtin.SmallTypes.ownedTupleHandOut (.ref z) (.ref g5.objs.size) >>= _) _ _ _;refine zzg (show wpAny _ _ (Builtin.SmallTypes.ownedTupleHandOut (.ref z) (.ref g5.objs.size)) _ _ _ from ?_);unfold Builtin.SmallTypes.ownedTupleHandOut;have hz6:IsZip (g5.push { cls:=.type "tuple",data:=.seq #[x,y] }) z TI TO .ellipsis:=zzf _ hz5;refine wpAny_bind (ud6 hz6 (by simp) fun g7 hz7 e7=>?_);replace hz7:IsZip g7 z TI TO (rawInt g5.objs.size):=hz7;refine ud6 hz7 (by simp) fun g8 hz8 e8=>?_;replace hz8:IsZip g8 z TI TO (rawInt g5.objs.size):=hz8;have up:∀ c o,c≠z->g5.get? c=some o->g8.get? c=some o:=fun c o c1 e=>e8.extBut _ _ c1 (e7.extBut _ _ c1 (zzf _ e));have hT8:IsPair g8 g5.objs.size x y:=e8.extBut _ _ (Nat.ne_of_gt ltz) (e7.extBut _ _ (Nat.ne_of_gt ltz) (zzp _ rfl));have sz8:g8.objs.size=g5.objs.size+1:=by rw [e8.1,e7.1,zz3]
 rw [sz] at hz8 hT8 sz8;refine zzl ⟨_,rfl,?_⟩;show Q (.ref g5.objs.size) { s with heap:=g8,toks:=tk4 };rw [sz];exact hQ x y g8 tk4 hx hy hz8 (up _ _ ap.nz.2.1 hO5) (D1.frame _ _ _ v1 fun c hc o e=>up c o (fun y=>ap.fz.1 (y▸hc)) e) (D2.frame _ _ _ v2 fun c hc o e=>up c o (fun y=>ap.fz.2 (y▸hc)) e) hT8 sz8
  fun c o c1 c2 c3 c4 e=>up c o c1 (k5 c o c1 c2 c3 c4 e)
theorem zog {Q:Fin->Shared->Prop} (D1:Draws prog w A j1 f1 n1 P1 S1) (D2:Draws prog w A j2 f2 n2 P2 S2) (ap:ZAp z TI TO j1 j2 f1 f2)
  (hz:IsZip s.heap z TI TO .none) (hI:IsPair s.heap TI (.ref j1) (.ref j2)) (hO:IsPair s.heap TO a b) (t1:S1 k s.heap) (t2:S2 k s.heap) (hk:k=n1\/k<n1/\k=n2)
  (hE:∀ g e tk,(∀ c o,c≠z->c≠TO->c≠j1->c≠j2->s.heap.get? c=some o->g.get? c=some o)->(∃ o,g.get? e=some o/\o.cls=.type "StopIteration")->E (.ref e) { s with heap:=g,toks:=tk }) :
  wpAny (model prog w) A (Builtin.«zip.__next__» ⟨[.ref z],[]⟩) Q E s:=by
 show wpAny _ _ (field (.ref z) 2 >>= _) _ _ s;refine zzg (ub4 (x:=.bool false) hz rfl rfl ?_);show wpAny _ _ (field (.ref z) 3 >>= _) _ _ s;refine zzg (ub4 (x:=.ref TI) hz rfl rfl (zzg (ud2 hI rfl ?_)));show wpAny _ _ (Builtin.SmallTypes.ownedTupleIsFree (.ref z) >>= _) _ _ s;refine zzg (show wpAny _ _ (Builtin.SmallTypes.ownedTupleIsFree (.ref z)) _ _ s from ?_);unfold Builtin.SmallTypes.ownedTupleIsFree;refine zzg (ub4 (x:=.none) hz rfl rfl (zzl ?_));simp only [if_true];refine zzg (wpAny_rule (zzg (ub4 (x:=.ref TO) hz rfl rfl ?_)));refine wpAny_bind (ud6 hz (by simp) fun g1 hz1 e1=>?_);replace hz1:IsZip g1 z TI TO .ellipsis:=hz1;refine zzg (show wpAny _ _ _ _ _ _ from ?_);simp only [List.zipIdx_nil,List.zipIdx_cons,List.forIn_nil,List.forIn_cons];refine zzg (zzg (wpAny_onRaise ?_));show wpAny _ _ (Builtin.SmallTypes.nextOf (.ref j1) >>= _) _ _ { s with heap:=g1 };have q1:S1 k g1:=D1.frame _ _ _ t1 fun c hc o e=>e1.extBut _ _ (fun y=>ap.fz.1 (y▸hc)) e;rcases hk with rfl | ⟨hlt,rfl⟩
 .refine zzg (D1.done _ _ _ q1 fun g2 e e2 he=>?_);obtain ⟨oe,hoe,hce⟩:=he;have hz2:IsZip g2 z TI TO .ellipsis:=e2 _ _ (Ne.symm ap.nz.2.2.1) hz1;have ez:e≠z:=fun y=>by subst y;rw [hz2] at hoe;cases hoe;simp at hce
  exact ud6 hz2 (by simp) fun g3 _ e3=>hE g3 e s.toks (fun c o c1 _ c3 _ y=>e3.extBut _ _ c1 (e2 _ _ c3 (e1.extBut _ _ c1 y))) ⟨oe,e3.extBut _ _ ez hoe,hce⟩
 .refine zzg (D1.item _ _ _ _ hlt q1 fun x g2 tk2 hx u1 e2=>zzl ?_);have hO2:IsPair g2 TO a b:=e2.extBut _ _ ap.nO.1 (e1.extBut _ _ ap.nz.2.1 hO);refine zzg (ud2 hO2 rfl (zzg (wpAny_updateSeq_pair hO2 fun g3 hO3 e3=>?_)));refine zzg (wpAny_letGo (zzl (zzg (zzg (wpAny_onRaise ?_)))));show wpAny _ _ (Builtin.SmallTypes.nextOf (.ref j2) >>= _) _ _ { s with heap:=g3,toks:=tk2 };have q2:S2 k g3:=D2.frame _ _ _ t2 fun c hc o e=>e3.extBut _ _ (fun y=>ap.fO.2 (y▸hc)) (e2.extBut _ _ (fun y=>ap.fj.2 (y▸hc)) (e1.extBut _ _ (fun y=>ap.fz.2 (y▸hc)) e));refine zzg (D2.done _ _ _ q2 fun g4 e e4 he=>?_);obtain ⟨oe,hoe,hce⟩:=he;have hz4:IsZip g4 z TI TO .ellipsis:=e4 _ _ (Ne.symm ap.nz.2.2.2) (e3.extBut _ _ (Ne.symm ap.nz.2.1) (e2.extBut _ _ (Ne.symm ap.nz.2.2.1) hz1));have ez:e≠z:=fun y=>by subst y;rw [hz4] at hoe;cases hoe;simp at hce
  exact ud6 hz4 (by simp) fun g5 _ e5=>hE g5 e tk2 (fun c o c1 c2 c3 c4 y=>e5.extBut _ _ c1 (e4 _ _ c4 (e3.extBut _ _ c2 (e2.extBut _ _ c3 (e1.extBut _ _ c1 y))))) ⟨oe,e5.extBut _ _ ez hoe,hce⟩
theorem zkm {Q:Option Value->Shared->Prop} (D1:Draws prog w A.in1 j1 f1 n1 P1 S1) (D2:Draws prog w A.in1 j2 f2 n2 P2 S2) (ap:ZAp z TI TO j1 j2 f1 f2)
  (hz:IsZip s.heap z TI TO .none) (hI:IsPair s.heap TI (.ref j1) (.ref j2)) (hO:IsPair s.heap TO a b) (t1:S1 k s.heap) (t2:S2 k s.heap) (l1:k<n1) (l2:k<n2)
  (hQ:∀ x y g tk,P1 k x->P2 k y->IsZip g z TI TO (rawInt s.heap.objs.size)->IsPair g TO x y->S1 (k+1) g->S2 (k+1) g->IsPair g s.heap.objs.size x y->g.objs.size=s.heap.objs.size+1 ->
   (∀ c o,c≠z->c≠TO->c≠j1->c≠j2->s.heap.get? c=some o->g.get? c=some o)->Q (some (.ref s.heap.objs.size)) { s with heap:=g,toks:=tk }):wpAny (model prog w) A (pyNext (.ref z)) Q E s:=by
 have ty:s.TypeIs (.ref z) "zip":=⟨_,hz,rfl⟩;unfold pyNext;exact zzg (wpAny_attempt (zAl (name:=Str.ofString "__next__") ty F.slot_zip_next (zAc F.slot_zip_next ty F.entry_zip_next
  (zky D1 D2 ap hz hI hO t1 t2 l1 l2 fun x y g tk b1 b2 b3 b4 b5 b6 b7 b8 b9=>zzl (hQ x y g tk b1 b2 b3 b4 b5 b6 b7 b8 b9)) (F.args_zip_next_1 _))))
theorem zmc {Q:Option Value->Shared->Prop} (D1:Draws prog w A.in1 j1 f1 n1 P1 S1) (D2:Draws prog w A.in1 j2 f2 n2 P2 S2) (ap:ZAp z TI TO j1 j2 f1 f2)
  (hz:IsZip s.heap z TI TO .none) (hI:IsPair s.heap TI (.ref j1) (.ref j2)) (hO:IsPair s.heap TO a b) (t1:S1 k s.heap) (t2:S2 k s.heap) (hk:k=n1\/k<n1/\k=n2)
  (hQ:∀ g tk,(∀ c o,c≠z->c≠TO->c≠j1->c≠j2->s.heap.get? c=some o->g.get? c=some o)->Q none { s with heap:=g,toks:=tk }):wpAny (model prog w) A (pyNext (.ref z)) Q E s:=by
 have ty:s.TypeIs (.ref z) "zip":=⟨_,hz,rfl⟩;unfold pyNext;refine zzg (wpAny_attempt (zAl (name:=Str.ofString "__next__") ty F.slot_zip_next (zAc F.slot_zip_next ty F.entry_zip_next
  (zog D1 D2 ap hz hI hO t1 t2 hk fun g e tk hc he=>?_) (F.args_zip_next_1 _))))
 obtain ⟨o,ho,hc2⟩:=he;exact zzg (wpAny_isInstance (b:=true) (T:="StopIteration") ⟨o,ho,hc2⟩ isSubtype_stop (zzl (hQ _ _ hc)))
end
abbrev yd0 (h:Heap) (l1:Addr):Heap:=h.push { cls:=.type "tuple_iterator",data:=.fields #[.ref l1,.int 0 0] }
abbrev yd1 (h:Heap) (l1 l2:Addr):Heap:=(yd0 h l1).push { cls:=.type "list_iterator",data:=.fields #[.ref l2,.int 0 0] }
abbrev ydt (h:Heap) (l1 l2:Addr):Heap:=(yd1 h l1 l2).push { cls:=.type "tuple",data:=.seq #[.ref h.objs.size,.ref (yd0 h l1).objs.size] }
abbrev ydx (h:Heap) (l1 l2:Addr):Heap:=(ydt h l1 l2).push { cls:=.type "tuple",data:=.seq #[.none,.none] }
abbrev ycr (h:Heap) (l1 l2:Addr):Heap:=(ydx h l1 l2).push { cls:=.type "zip",data:=.fields #[.none,.bool false,.bool false,.ref (yd1 h l1 l2).objs.size,.ref (ydt h l1 l2).objs.size] }
theorem zmg (l1 l2:Addr) (xs ys:Array Value):Meets (Builtin.«zip.__new__» ⟨[.type "zip",.ref l1,.ref l2],[]⟩) (fun _ R s=>s.heap.IsTuple l1 xs/\s.heap.IsList l2 ys /\
   R (.ok (.ret (.ref (ydx s.heap l1 l2).objs.size))) { s with heap:=ycr s.heap l1 l2 }) :=
 .of_wp fun prog w A R s q=>by
  obtain ⟨hp,gs,dr,tk,os⟩:=s;obtain ⟨q1,q2,q⟩:=q;have hsub:=sub_zip;have y1:Heap.IsTuple (Shared.heap ⟨hp,gs,dr,tk,os⟩) l1 xs:=q1;have y2:Heap.IsList (Shared.heap ⟨hp.push { cls:=.type "tuple_iterator",data:=.fields #[.ref l1,.int 0 0] },gs,dr,tk,os⟩) l2 ys:=Heap.IsList.push q2 _
  wp_walk using ub8 y1,wpAny_pyIter_list y2
  exact ⟨_,rfl,q⟩
theorem zqu {prog:Program} {w:World} {A:Around} {E:Value->Shared->Prop} {s:Shared} (q1:s.heap.IsTuple l1 xs) (q2:s.heap.IsList l2 ys)
  (q:∀ g,IsZip g (s.heap.objs.size+4) (s.heap.objs.size+2) (s.heap.objs.size+3) .none->IsPair g (s.heap.objs.size+2) (.ref s.heap.objs.size) (.ref (s.heap.objs.size+1))->IsPair g (s.heap.objs.size+3) .none .none ->
   g.IsTupleIter s.heap.objs.size l1 0->g.IsListIter (s.heap.objs.size+1) l2 0->g.objs.size=s.heap.objs.size+5->(∀ c o,s.heap.get? c=some o->g.get? c=some o)->Q (.ref (s.heap.objs.size+4)) { s with heap:=g }) :
  wpAny (model prog w) A (call (.type "zip") [.ref l1,.ref l2]) Q E s:=by
 refine callType_new F.called_zip (by decide) (F.typeCall_zip_2 _ _) (F.newCall_zip_2 _ _) (fun ob=>F.args_object_init_3 ob _ _) F.entry_zip_new (zmg l1 l2 xs ys) ⟨q1,q2,?_⟩;have a1:(yd0 s.heap l1).objs.size=s.heap.objs.size+1:=zz3 ..;have a2:(yd1 s.heap l1 l2).objs.size=s.heap.objs.size+2:=by rw [zz3,a1]
 have a3:(ydt s.heap l1 l2).objs.size=s.heap.objs.size+3:=by rw [zz3,a2]
 have a4:(ydx s.heap l1 l2).objs.size=s.heap.objs.size+4:=by rw [zz3,a3]
 have a5:(ycr s.heap l1 l2).objs.size=s.heap.objs.size+5:=by rw [zz3,a4]
 have b5:(ycr s.heap l1 l2).get? (ydx s.heap l1 l2).objs.size=some _:=zzp _ rfl;have b4:(ycr s.heap l1 l2).get? (ydt s.heap l1 l2).objs.size=some _:=zzf _ (zzp _ rfl);have b3:(ycr s.heap l1 l2).get? (yd1 s.heap l1 l2).objs.size=some _:=zzf _ (zzf _ (zzp _ rfl));have b2:(ycr s.heap l1 l2).get? (yd0 s.heap l1).objs.size=some _:=zzf _ (zzf _ (zzf _ (zzp _ rfl)));have b1:(ycr s.heap l1 l2).get? s.heap.objs.size=some _:=zzf _ (zzf _ (zzf _ (zzf _ (zzp _ rfl))));show _/\_;rw [a2,a3,a4] at b5;rw [a1,a2] at b3;rw [a3] at b4;rw [a1] at b2;rw [a4];exact ⟨⟨_,b5,rfl⟩,q _ b5 b3 b4 ⟨_,b1,rfl,rfl⟩ ⟨_,b2,rfl,rfl⟩ a5 fun c o y=>zzf _ (zzf _ (zzf _ (zzf _ (zzf _ y))))⟩
abbrev ydu (h:Heap) (l1:Addr):Heap:=h.push { cls:=.type "tuple_iterator",data:=.fields #[.ref l1,.int 0 0] }
abbrev yd3 (h:Heap) (l1 l2:Addr):Heap:=(ydu h l1).push { cls:=.type "tuple_iterator",data:=.fields #[.ref l2,.int 0 0] }
abbrev ydv (h:Heap) (l1 l2:Addr):Heap:=(yd3 h l1 l2).push { cls:=.type "tuple",data:=.seq #[.ref h.objs.size,.ref (ydu h l1).objs.size] }
abbrev ydr (h:Heap) (l1 l2:Addr):Heap:=(ydv h l1 l2).push { cls:=.type "tuple",data:=.seq #[.none,.none] }
abbrev ycs (h:Heap) (l1 l2:Addr):Heap:=(ydr h l1 l2).push { cls:=.type "zip",data:=.fields #[.none,.bool false,.bool false,.ref (yd3 h l1 l2).objs.size,.ref (ydv h l1 l2).objs.size] }
theorem zmf (l1 l2:Addr) (xs ys:Array Value):Meets (Builtin.«zip.__new__» ⟨[.type "zip",.ref l1,.ref l2],[]⟩) (fun _ R s=>s.heap.IsTuple l1 xs/\s.heap.IsTuple l2 ys /\
   R (.ok (.ret (.ref (ydr s.heap l1 l2).objs.size))) { s with heap:=ycs s.heap l1 l2 }) :=
 .of_wp fun prog w A R s q=>by
  obtain ⟨hp,gs,dr,tk,os⟩:=s;obtain ⟨q1,q2,q⟩:=q;have hsub:=sub_zip;have y1:Heap.IsTuple (Shared.heap ⟨hp,gs,dr,tk,os⟩) l1 xs:=q1;have y2:Heap.IsTuple (Shared.heap ⟨hp.push { cls:=.type "tuple_iterator",data:=.fields #[.ref l1,.int 0 0] },gs,dr,tk,os⟩) l2 ys:=let ⟨o,ho,r⟩:=q2;⟨o,zzf _ ho,r⟩
  wp_walk using ub8 y1,ub8 y2
  exact ⟨_,rfl,q⟩
theorem zqt {prog:Program} {w:World} {A:Around} {E:Value->Shared->Prop} {s:Shared} (q1:s.heap.IsTuple l1 xs) (q2:s.heap.IsTuple l2 ys)
  (q:∀ g,IsZip g (s.heap.objs.size+4) (s.heap.objs.size+2) (s.heap.objs.size+3) .none->IsPair g (s.heap.objs.size+2) (.ref s.heap.objs.size) (.ref (s.heap.objs.size+1))->IsPair g (s.heap.objs.size+3) .none .none ->
   g.IsTupleIter s.heap.objs.size l1 0->g.IsTupleIter (s.heap.objs.size+1) l2 0->g.objs.size=s.heap.objs.size+5->(∀ c o,s.heap.get? c=some o->g.get? c=some o)->Q (.ref (s.heap.objs.size+4)) { s with heap:=g }) :
  wpAny (model prog w) A (call (.type "zip") [.ref l1,.ref l2]) Q E s:=by
 refine callType_new F.called_zip (by decide) (F.typeCall_zip_2 _ _) (F.newCall_zip_2 _ _) (fun ob=>F.args_object_init_3 ob _ _) F.entry_zip_new (zmf l1 l2 xs ys) ⟨q1,q2,?_⟩;have a1:(ydu s.heap l1).objs.size=s.heap.objs.size+1:=zz3 ..;have a2:(yd3 s.heap l1 l2).objs.size=s.heap.objs.size+2:=by rw [zz3,a1]
 have a3:(ydv s.heap l1 l2).objs.size=s.heap.objs.size+3:=by rw [zz3,a2]
 have a4:(ydr s.heap l1 l2).objs.size=s.heap.objs.size+4:=by rw [zz3,a3]
 have a5:(ycs s.heap l1 l2).objs.size=s.heap.objs.size+5:=by rw [zz3,a4]
 have b5:(ycs s.heap l1 l2).get? (ydr s.heap l1 l2).objs.size=some _:=zzp _ rfl;have b4:(ycs s.heap l1 l2).get? (ydv s.heap l1 l2).objs.size=some _:=zzf _ (zzp _ rfl);have b3:(ycs s.heap l1 l2).get? (yd3 s.heap l1 l2).objs.size=some _:=zzf _ (zzf _ (zzp _ rfl));have b2:(ycs s.heap l1 l2).get? (ydu s.heap l1).objs.size=some _:=zzf _ (zzf _ (zzf _ (zzp _ rfl)));have b1:(ycs s.heap l1 l2).get? s.heap.objs.size=some _:=zzf _ (zzf _ (zzf _ (zzf _ (zzp _ rfl))));show _/\_;rw [a2,a3,a4] at b5;rw [a1,a2] at b3;rw [a3] at b4;rw [a1] at b2;rw [a4];exact ⟨⟨_,b5,rfl⟩,q _ b5 b3 b4 ⟨_,b1,rfl,rfl⟩ ⟨_,b2,rfl,rfl⟩ a5 fun c o y=>zzf _ (zzf _ (zzf _ (zzf _ (zzf _ y))))⟩
end
section
variable {ch:List Addr} {xs:List V} {t:Bool} {elts:List Expr}
section
variable {X:Cx} {pj:List (Addr × Obj)} {O:St} {H:Hp} {s:Shared} {h':Heap}
theorem Inv.turnedC {t':Nat} (I:Inv X pj O H s) (k:∀ b o,b∉ch->s.heap.get? b=some o->h'.get? b=some o) (f:∀ b∈ch,ycf X pj H b):Inv X pj O H { s with heap:=h',toks:=t' }:=by
 have nfp:∀ {b:Addr} {u:HO},H b=some u->b∉ch:=fun {b u} q z=>by rw [(f b z).1] at q;cases q
 refine I.step (g':=s.gens) (d':=s.drawn) (ch:=ch) (fun b hb=>⟨(f b hb).2.2.2.1,(f b hb).2.1,(f b hb).2.2.2.2.1,(f b hb).2.2.2.2.2⟩) (fun b o _ _ hc q _=>k b o hc q) (fun b o _ _ hc q _=>⟨o.slots,k b o hc q⟩)
  (fun b o hc q z=>z) (fun b o hc q=>⟨o,k b o hc q⟩) (fun b ys q=>q) (fun b o u q=>q) (fun b ps q=>⟨#[],by rw [q];simp⟩) (fun m hm=>?_) (fun b u q=>?_) I.bare
 .obtain ⟨o,es,ep,ho,r⟩:=hm;exact ⟨o,es,ep,k _ o (fun z=>(f _ z).2.1 rfl) ho,r⟩
 .refine (I.hok b u q).stay (fun c v hc z=>?_) (fun c z=>z) fun c ys z=>z;rcases hc with rfl | hc
  .exact k c v (nfp q) z
  .exact k c v (nfp hc) z
theorem Inv.turnedN {T:Addr} {t':Nat} (I:Inv X pj O H s) (k:∀ b o,b∉ch->s.heap.get? b=some o->h'.get? b=some o) (f:∀ b∈ch,ycf X pj H b)
  (hT:s.heap.objs.size<=T) (new:ObjOk X.prog X.w (upd H T (.tup xs)) h' T (.tup xs)):Inv X pj O (upd H T (.tup xs)) { s with heap:=h',toks:=t' }:=by
 have hn:H T=none:=I.hok.fresh hT;have nT:∀ {b:Addr} {o:Obj},s.heap.get? b=some o->b≠T:=fun {b o} q=>zz5 (zz1 (zzv q) hT);have nfp:∀ {b:Addr} {u:HO},H b=some u->b∉ch:=fun {b u} q z=>by rw [(f b z).1] at q;cases q
 refine I.step (g':=s.gens) (d':=s.drawn) (ch:=ch) (fun b hb=>⟨(f b hb).2.2.2.1,(f b hb).2.1,(f b hb).2.2.2.2.1,(f b hb).2.2.2.2.2⟩) (fun b o _ _ hc q _=>k b o hc q) (fun b o _ _ hc q _=>⟨o.slots,k b o hc q⟩)
  (fun b o hc q z=>by rw [zad (nT q)];exact z) (fun b o hc q=>⟨o,k b o hc q⟩)
  (fun b ys q=>by rw [zad (zae q hn)];exact q) (fun b o u q=>by rw [zad (zae q hn)];exact q) (fun b ps q=>⟨#[],by rw [zad (zae q hn),q];simp⟩) (fun m hm=>?_) (fun b u q=>?_) I.bare
 .obtain ⟨o,es,ep,ho,r⟩:=hm;exact ⟨o,es,ep,k _ o (fun z=>(f _ z).2.1 rfl) ho,r⟩
 .by_cases hb:b=T
  .subst hb;rw [zah] at q;cases q;exact new
  .rw [zad hb] at q;refine (I.hok b u q).stay (fun c v hc z=>?_) (fun c z=>by rw [zad (zae z hn)];exact z) fun c ys z=>by rw [zad (zae z hn)];exact z
   rcases hc with rfl | hc
   .exact k c v (nfp q) z
   .exact k c v (nfp hc) z
end
def SqB (t:Bool) (K:W.Frag) (H:Hp) (a:Addr) (xs:List V):Prop:=if t then SqT K H a xs else SqL K H a xs
def ItB (t:Bool) (h:Heap) (j l:Addr) (i:Nat):Prop:=if t then h.IsTupleIter j l i else h.IsListIter j l i
def IsB (t:Bool) (h:Heap) (l:Addr) (qc:Array Value):Prop:=if t then h.IsTuple l qc else h.IsList l qc
theorem ItB.at {h h':Heap} {j l:Addr} {i:Nat} (x:ItB t h j l i) (k:∀ o,h.get? j=some o->h'.get? j=some o):ItB t h' j l i:=by
 cases t with
 | true=>obtain ⟨o,e,r⟩:=(show h.IsTupleIter j l i from x);exact (show h'.IsTupleIter j l i from ⟨o,k o e,r⟩)
 | false=>obtain ⟨o,e,r⟩:=(show h.IsListIter j l i from x);exact (show h'.IsListIter j l i from ⟨o,k o e,r⟩)
theorem ItB.obj {h:Heap} {j l:Addr} {i:Nat} (x:ItB t h j l i):∃ o,h.get? j=some o/\∀ v,o.data≠.cell v:=by
 cases t with
 | true=>obtain ⟨o,e,_,d⟩:=(show h.IsTupleIter j l i from x);exact ⟨o,e,fun v q=>by rw [d] at q;cases q⟩
 | false=>obtain ⟨o,e,_,d⟩:=(show h.IsListIter j l i from x);exact ⟨o,e,fun v q=>by rw [d] at q;cases q⟩
theorem Inv.sqB {X:Cx} {pj:List (Addr × Obj)} {O:St} {H:Hp} {s:Shared} {a:Addr} (I:Inv X pj O H s) (q:SqB t X.K H a xs):∃ qc:List Value,Vals xs qc/\IsB t s.heap a qc.toArray/\a<s.heap.objs.size:=by
 cases t with
 | true =>obtain ⟨qc,rv,p,_⟩:=I.tuple (show SqT X.K H a xs from q);obtain ⟨o,e,_⟩:=id p;exact ⟨qc,rv,p,zzv e⟩
 | false =>obtain ⟨qc,rv,p,_⟩:=I.list (show SqL X.K H a xs from q);obtain ⟨o,e,_⟩:=id p.isList;exact ⟨qc,rv,p.isList,zzv e⟩
theorem Inv.sqB_inj {X:Cx} {pj:List (Addr × Obj)} {O:St} {H:Hp} {s:Shared} {a:Addr} {ys:List V} (I:Inv X pj O H s) (q:SqB t X.K H a xs) (q':SqB t X.K H a ys):xs=ys:=by
 cases t with
 | true=>exact I.tuple_inj (show SqT X.K H a xs from q) q'
 | false=>exact I.list_inj (show SqL X.K H a xs from q) q'
theorem yc5 {prog:Program} {w:World} {A:Around} (t:Bool) (hh:A.handled=none) (j l:Addr) (hne:l≠j) (qc:Array Value):Draws prog w A j [j,l] qc.size (fun i v=>qc[i]?=some v) (fun i h=>ItB t h j l i/\IsB t h l qc):=by
 cases t with
 | true=>exact zc7 hh j l hne qc
 | false=>exact Draws.list hh j l hne qc
def Itz (K:W.Frag) (t1 t2:Bool) (l1 l2:Addr):It :=
 ⟨fun i H=>∃ xs ys x y,SqB t1 K H l1 xs/\SqB t2 K H l2 ys/\xs[i]?=some x/\ys[i]?=some y,
  fun i H v H'=>∃ p x y,H p=none/\v=.ref p/\H'=upd H p (.tup [x,y])/\(∀ xs,SqB t1 K H l1 xs->xs[i]?=some x)/\∀ ys,SqB t2 K H l2 ys->ys[i]?=some y,
  fun i H=>∃ xs ys,SqB t1 K H l1 xs/\SqB t2 K H l2 ys/\(i=xs.length\/i<xs.length/\i=ys.length)⟩
theorem ane {a b:Nat} (h:a<b\/b<a):(show Addr from a)≠(show Addr from b):=fun e=>by have e:a=b:=e;omega
theorem anm {z a b:Nat} (h1:z<a\/a<z) (h2:z<b\/b<z):(show Addr from z)∉[(show Addr from a),(show Addr from b)]:=fun e=>by
 rcases omc e with e | e
 .exact ane h1 e
 .exact ane h2 (omg e)
theorem zap {N l1 l2:Nat} (h1:l1<N) (h2:l2<N):ZAp (N+4) (N+2) (N+3) N (N+1) [N,l1] [N+1,l2] :=
 ⟨⟨ane (by omega),ane (by omega),ane (by omega),ane (by omega)⟩,⟨ane (by omega),ane (by omega),ane (by omega)⟩,⟨ane (by omega),ane (by omega)⟩,ane (by omega),⟨anm (by omega) (by omega),anm (by omega) (by omega)⟩,⟨anm (by omega) (by omega),anm (by omega) (by omega)⟩,⟨anm (by omega) (by omega),anm (by omega) (by omega)⟩⟩
theorem zoq {P:Program} {w:World} {K:W.Frag} {kx:Nat} {pos:Pos} (t1 t2:Bool) (l1 l2 N:Nat) (h1:l1<N) (h2:l2<N) :
  Turn P w K (.Tuple elts kx pos) (Itz K t1 t2 l1 l2) [N+4,N+2,N+3,N,N+1] (N+4)
   (fun i h=>IsZip h (N+4) (N+2) (N+3) .none/\IsPair h (N+2) (.ref N) (.ref (N+1))/\(∃ a b,IsPair h (N+3) a b)/\ItB t1 h N l1 i/\ItB t2 h (N+1) l2 i) where
 mem:=by simp
 obj:=fun i h st b hb=>by
  obtain ⟨s1,s2,⟨a,c,s3⟩,s4,s5⟩:=st;simp only [List.mem_cons,List.not_mem_nil,or_false] at hb;rcases hb with rfl | rfl | rfl | rfl | rfl
  .exact ⟨_,s1,fun v q=>by cases q⟩
  .exact ⟨_,s2,fun v q=>by cases q⟩
  .exact ⟨_,s3,fun v q=>by cases q⟩
  .exact s4.obj
  .exact s5.obj
 keep:=fun i h h' st k=>by obtain ⟨s1,s2,⟨a,c,s3⟩,s4,s5⟩:=st;exact ⟨k _ (by simp) _ s1,k _ (by simp) _ s2,⟨a,c,k _ (by simp) _ s3⟩,s4.at fun o e=>k _ (by simp) o e,s5.at fun o e=>k _ (by simp) o e⟩
 item:=by
  intro X hP hw hK hc i pj s O H E I hf st hg;subst hP hw hK;obtain ⟨xs,ys,x,y,q1,q2,hx,hy⟩:=hg;obtain ⟨s1,s2,⟨a,c,s3⟩,s4,s5⟩:=st;obtain ⟨qc,rv,p,_⟩:=I.sqB q1;obtain ⟨jts,rw',p',_⟩:=I.sqB q2;obtain ⟨u,hu,ru⟩:=rv.get hx;obtain ⟨u',hu',ru'⟩:=rw'.get hy;have hd:X.A.in1.handled=none:=I.ok.hd hc;have D1:=yc5 (prog:=X.prog) (w:=X.w) (A:=X.A.in1) t1 hd N l1 (ane (.inl h1)) qc.toArray;have D2:=yc5 (prog:=X.prog) (w:=X.w) (A:=X.A.in1) t2 hd (N+1) l2 (ane (by omega)) jts.toArray;have lt1:i<qc.toArray.size:=by have:=(ome hu).1;rw [zzs];exact this
  have lt2:i<jts.toArray.size:=by have:=(ome hu').1;rw [zzs];exact this
  have zlt:N+4<s.heap.objs.size:=zzv s1;refine zkm D1 D2 (zap h1 h2) s1 s2 s3 ⟨s4,p⟩ ⟨s5,p'⟩ lt1 lt2 fun v v' g tk hv hv' b3 b4 b5 b6 b7 b8 b9=>⟨_,rfl,wpAny_letOwnedTupleGo_zip b3 fun g2 z2 e2=>?_⟩;have ev:v=u:=by
   have z:qc[i]?=some v:=by simpa using hv
   rw [hu] at z;exact (zz2 z).symm
  have ev':v'=u':=by
   have z:jts[i]?=some v':=by simpa using hv'
   rw [hu'] at z;exact (zz2 z).symm
  subst ev ev';have up:∀ b o,b≠N+4->g.get? b=some o->g2.get? b=some o:=fun b o hb e=>(e2.2 b hb).trans e;have hk2:∀ b o,b∉[N+4,N+2,N+3,N,N+1]->s.heap.get? b=some o->g2.get? b=some o:=fun b o hb e=>by simp only [List.mem_cons,List.not_mem_nil,or_false,not_or] at hb;exact up b o hb.1 (b9 b o hb.1 hb.2.2.1 hb.2.2.2.1 hb.2.2.2.2 e)
  have nT:s.heap.objs.size≠N+4:=Nat.ne_of_gt zlt;have I1:Inv X pj O (upd H s.heap.objs.size (.tup [x,y])) { s with heap:=g2,toks:=tk }:=I.turnedN hk2 hf (zzw _)
   ⟨by show 2<=sizeLine;decide,[v,v'],.cons ru (.cons ru' .nil),⟨_,up _ _ nT b7,rfl,_,rfl⟩⟩
  refine ⟨.ref s.heap.objs.size,_,I1,rfl,⟨_,x,y,I.fresh,rfl,rfl,fun zs hz=>by rw [I.sqB_inj hz q1];exact hx,fun zs hz=>by rw [I.sqB_inj hz q2];exact hy⟩,⟨z2,?_,⟨_,_,up _ _ (ane (a:=N+3) (b:=N+4) (by omega)) b4⟩,?_,?_⟩,fun b hb=>?_⟩
  .exact up _ _ (ane (a:=N+2) (b:=N+4) (by omega)) (b9 _ _ (ane (a:=N+2) (b:=N+4) (by omega)) (ane (a:=N+2) (b:=N+3) (by omega)) (ane (a:=N+2) (b:=N) (by omega)) (ane (a:=N+2) (b:=N+1) (by omega)) s2)
  .exact b5.1.at fun o e=>up _ o (ane (a:=N) (b:=N+4) (by omega)) e
  .exact b6.1.at fun o e=>up _ o (ane (a:=N+1) (b:=N+4) (by omega)) e
  .have hbl:b<s.heap.objs.size:=by have zl:N+4<s.heap.objs.size:=zlt;simp only [List.mem_cons,List.not_mem_nil,or_false] at hb;rcases hb with e | e | e | e | e<;>(rw [e];show (_:Nat)<_;omega)
   rw [zad (zz5 hbl)];exact (hf b hb).1
 done:=by intro X hP hw hK hc i pj s O H E I hf st hg;subst hP hw hK;obtain ⟨xs,ys,q1,q2,hx⟩:=hg;obtain ⟨s1,s2,⟨a,c,s3⟩,s4,s5⟩:=st;obtain ⟨qc,rv,p,_⟩:=I.sqB q1;obtain ⟨jts,rw',p',_⟩:=I.sqB q2;have hd:X.A.in1.handled=none:=I.ok.hd hc;have D1:=yc5 (prog:=X.prog) (w:=X.w) (A:=X.A.in1) t1 hd N l1 (ane (.inl h1)) qc.toArray;have D2:=yc5 (prog:=X.prog) (w:=X.w) (A:=X.A.in1) t2 hd (N+1) l2 (ane (by omega)) jts.toArray;refine zmc D1 D2 (zap h1 h2) s1 s2 s3 ⟨s4,p⟩ ⟨s5,p'⟩ (k:=i) (by rw [zzs,zzs,<- rv.length,<- rw'.length];exact hx) fun g tk hk=>⟨rfl,I.turnedC (fun b o hb e=>?_) hf⟩;simp only [List.mem_cons,List.not_mem_nil,or_false,not_or] at hb;exact hk b o hb.1 hb.2.2.1 hb.2.2.2.1 hb.2.2.2.2 e
 self:=fun _ _ _ _ _ st q=>wpAny_pyIter_zip st.1 q
section
variable {X:Cx}
theorem zvm {a b:Expr} {ta:TA} {p pos p2:Pos} {kx:Nat} (hg:Gl X "zip") (hm:X.mg "zip"=none) (ha:PA X [a,b] ta) (hs:starEach [a,b] X.env=[(false,eval a X.env),(false,eval b X.env)]) (hs2:starEach [b] X.env=[(false,eval b X.env)]) :
  PI X (.Tuple elts kx p2) (.Call (.Name "zip" p) [a,b] [] pos) (fun O H R=>ta O H fun vs H1=>∃ l1 l2 t2 xs ys,vs=[.ref l1,.ref l2]/\SqB true X.K H1 l1 xs/\SqB t2 X.K H1 l2 ys/\R (Itz X.K true t2 l1 l2) H1):=by
 intro pj s O H R I h;refine Call_ (zfm I hg hm (show bootBuiltins "zip"=some (.type "zip") by decide +kernel) (PyProof.Rows.callWith_type1 (thn (ha pos pj s O H _ I h) fun us s1 ⟨vs,H1,I1,r1,q1⟩=>?_) (by rw [hs,hs2]) (by rw [hs2];rfl)));obtain ⟨l1,l2,t2,xs,ys,e,q1,q2,q⟩:=q1;subst e;obtain ⟨u,u',rfl,rx,ry⟩:=ye0 r1;cases rx;cases ry;obtain ⟨qc,rv,b1,lt1⟩:=I1.sqB q1;obtain ⟨jts,rw',b2,lt2⟩:=I1.sqB q2;have fin:∀ {g:Heap},IsZip g (s1.heap.objs.size+4) (s1.heap.objs.size+2) (s1.heap.objs.size+3) .none->IsPair g (s1.heap.objs.size+2) (.ref s1.heap.objs.size) (.ref (s1.heap.objs.size+1))->IsPair g (s1.heap.objs.size+3) .none .none ->
   ItB true g s1.heap.objs.size l1 0->ItB t2 g (s1.heap.objs.size+1) l2 0->(∀ c o,s1.heap.get? c=some o->g.get? c=some o)->wpAny (model X.prog X.w) X.A (pyIter (.ref (s1.heap.objs.size+4))) (PIE X pj O (.Tuple elts kx p2) R) X.xe { s1 with heap:=g }:=fun {g} y1 y2 y3 y4 y5 k=>by
  refine wpAny_pyIter_zip (s:={ s1 with heap:=g }) y1 ⟨_,_,_,_,H1,rfl,I1.kept (t':=s1.toks) k,zoq true t2 l1 l2 s1.heap.objs.size lt1 lt2,⟨y1,y2,⟨_,_,y3⟩,y4,y5⟩,fun b hb=>?_,q⟩;have le:s1.heap.objs.size<=b:=by simp only [List.mem_cons,List.not_mem_nil,or_false] at hb;rcases hb with e | e | e | e | e<;>(rw [e];show (_:Nat)<=_;omega)
  exact I1.fpOk le (I1.hok.fresh le)
 cases t2
 .exact zqu b1 b2 fun g y1 y2 y3 y4 y5 _ k=>fin y1 y2 y3 y4 y5 k
 .exact zqt b1 b2 fun g y1 y2 y3 y4 y5 _ k=>fin y1 y2 y3 y4 y5 k
end
end
end L2
namespace Ev
open PySem Spec PyProof.Rows L2
section
variable {tg:Expr} {K:W.Frag} {F':Hp} {l:Addr} {vs:List V} {ts:List T} {f:Env->Option T} {G:Glo} {k:Nat} {elts:List Expr}
section
variable {X:Cx} {c:Tc} {a b:Expr} {pos p:Pos}
structure Walk (K:W.Frag) (J:It) (ts:List T) (F':Hp):Prop where
 go:∀ (i:Nat) (H:Hp),i<ts.length->Same F' H->J.go i H
 yld:∀ (i:Nat) (H:Hp) (x:V) (H5 F:Hp) (t:T),ts[i]?=some t->Same F' F->Same F H->J.yld i H x H5->∃ F5,Step F H F5 H5/\Rep K F5 t x
 stop:∀ (H:Hp),Same F' H->J.stop ts.length H
def spI (X:Cx) (c:Tc) (f:Env->Option (List T)):TI:=fun O H R=>∃ r F ts,EnvE X c r F O H/\f r=some ts/\∀ J F' H',Step F H F' H'->Walk X.K J ts F'->R J H'
theorem zfx {it:Expr} {t t':TI} (h:PI X tg it t) (m:∀ O H R,t' O H R->t O H R):PI X tg it t':=fun pj s O H R I q=>h pj s O H R I (m O H R q)
theorem zk3 (h1:Ls K F' l vs) (h2:Reps K F' ts vs):Walk K (Itl K l) ts F' where
 go:=fun i H hi sm=>by obtain ⟨v,hv,_⟩:=h2.get (zzm hi);exact ⟨vs,v,(Ls.same sm h1).sq,hv⟩
 yld:=fun i H x H5 F t ht sF fh y=>by obtain ⟨rfl,y⟩:=y;obtain ⟨v,hv,hr⟩:=h2.get ht;have e:=y vs ((Ls.same fh (Ls.same sF h1)).sq);rw [hv] at e;cases e;exact ⟨F,Step.refl fh,hr.mono sF⟩
 stop:=fun H sm=>⟨vs,(Ls.same sm h1).sq,by rw [h2.length];exact zzw _⟩
theorem zoy {F:Hp} {a:Addr} {xs:List V} (e:Same F F') (h:SqT K F a xs):SqT K F' a xs:=by
 rcases h with h | h
 .exact .inl (zll e h)
 .exact .inr h
theorem zok (h1:Tq K F' l vs) (h2:Reps K F' ts vs):Walk K (Itt K l) ts F' where
 go:=fun i H hi sm=>by obtain ⟨v,hv,_⟩:=h2.get (zzm hi);exact ⟨vs,v,zai sm h1,hv⟩
 yld:=fun i H x H5 F t ht sF fh y=>by obtain ⟨rfl,y⟩:=y;obtain ⟨v,hv,hr⟩:=h2.get ht;have e:=y vs (zai (sF.trans fh) h1);rw [hv] at e;cases e;exact ⟨F,Step.refl fh,hr.mono sF⟩
 stop:=fun H sm=>⟨vs,zai sm h1,by rw [h2.length];exact zzw _⟩
theorem zls {n i:Nat} {t:T} (h:(ybm n)[i]?=some t):i<n/\t=.int (i:Int):=by unfold ybm at h;rw [zAb] at h;obtain ⟨j,hj,e⟩:=oms h;have:=ome hj;obtain ⟨h1,h2⟩:=this;rw [List.getElem_range] at h2;subst h2;exact ⟨by simpa using h1,e.symm⟩
theorem zkb (n:Nat):Walk K (Itr 0 n) (ybm n) F' where
 go:=fun i H hi _=>by
  have:i<n:=by simpa [ybm] using hi
  exact this
 yld:=fun i H x H5 F t ht _ fh y=>by obtain ⟨rfl,rfl⟩:=y;obtain ⟨_,rfl⟩:=zls ht;exact ⟨F,Step.refl fh,by show V.int (0+(i:Int))=V.int (i:Int);rw [Int.zero_add]⟩
 stop:=fun H _=>by show n<=(ybm n).length;simp [ybm]
theorem zjv:∀ {ts:List T} {i j:Nat} {t:T},(ya8 ts j)[i]?=some t->∃ u,ts[i]?=some u/\t=.tup [.int ((j+i:Nat):Int),u]
 | [],_,_,_,h=>by simp [ya8] at h
 | u::ts,0,j,t,h=>by simp [ya8] at h;exact ⟨u,rfl,by rw [<- h];simp⟩
 | u::ts,i+1,j,t,h=>by simp only [ya8,xgs] at h;obtain ⟨w,h1,h2⟩:=zjv (ts:=ts) (i:=i) (j:=j+1) h;exact ⟨w,by simpa using h1,by rw [h2,show j+1+i=j+(i+1) by omega]⟩
theorem zf6:∀ (ts:List T) (j:Nat),(ya8 ts j).length=ts.length
 | [],_=>rfl
 | _::ts,j=>by simp [ya8,zf6 ts (j+1)]
theorem zgi {sq:Hp->Addr->List V->Prop} (mono:∀ {F G:Hp} {xs:List V},Same F G->sq F l xs->sq G l xs) (h1:sq F' l vs) (h2:Reps K F' ts vs):Walk K (Ite sq l) (ya8 ts 0) F' where
 go:=fun i H hi sm=>by rw [zf6] at hi;obtain ⟨v,hv,_⟩:=h2.get (zzm hi);exact ⟨vs,v,mono sm h1,hv⟩
 yld:=fun i H x H5 F t ht sF fh y=>by obtain ⟨p,v,hp,rfl,rfl,y⟩:=y;obtain ⟨u,hu,rfl⟩:=zjv ht;obtain ⟨w,hw,hr⟩:=h2.get hu;have e:=y vs (mono fh (mono sF h1));rw [hw] at e;cases e;have st:=(Step.refl fh).new (o:=.tup [.int (i:Int),v]) hp;refine ⟨_,st,p,_,rfl,zah,.int (i:Int),[v],rfl,?_,v,[],rfl,(hr.mono sF).mono st.ff,rfl⟩;show V.int (i:Int)=V.int ((0+i:Nat):Int);rw [Nat.zero_add]
 stop:=fun H sm=>⟨vs,mono sm h1,by rw [zf6,h2.length]⟩
theorem ztg (ha:Oke X c a f):PI X tg a (spI X c fun r=>(f r).bind fun x=>items .plain [x]):=by
 refine zfx (zvn ha) fun O H R q=>?_;obtain ⟨r,F,ts,e,ht,q⟩:=q;obtain ⟨t,e1,ht⟩:=obs ht;refine ⟨r,F,t,e,e1,fun v F' H' s1 r1=>?_⟩;cases t with
 | tup us =>cases ht;obtain ⟨l,vs,rfl,h1,h2⟩:=r1;exact ⟨l,rfl,.inr ⟨vs,zai s1.fh h1,q _ F' H' s1 (zok h1 h2)⟩⟩
 | lst us =>cases ht;obtain ⟨l,vs,rfl,h1,h2⟩:=r1;exact ⟨l,rfl,.inl ⟨vs,(Ls.same s1.fh h1).sq,q _ F' H' s1 (zk3 h1 h2)⟩⟩
 | _=>cases ht
theorem zps (gd:Gd X c G k) (hg:glB c.sc "range"=true) (ha:Oke X c a f) (hs:starEach [a] X.env=[(false,eval a X.env)]) :
  PI X tg (.Call (.Name "range" p) [a] [] pos) (spI X c fun r=>(f r).bind fun x=>items .range [x]):=by
 refine zfx (zl3 (gd.gl _ hg) (gd.nob _ (by decide +kernel)) (zcd ha hs) hs) fun O H R q=>?_;obtain ⟨r,F,ts,e,ht,q⟩:=q;obtain ⟨t,e1,ht⟩:=obs ht;refine ⟨r,F,[t],e,ue1.mpr ⟨t,e1,rfl⟩,fun vs F' H' s1 r1=>?_⟩;obtain ⟨v,w,rfl,h1,h2⟩:=r1;cases h2;cases t with
 | int n =>
  cases h1;simp only [items] at ht;split at ht
  .rename_i hz;cases ht;have e62:(2:Int) ^ 62=4611686018427387904:=by decide
   exact ⟨n,rfl,by rw [e62];exact hz.1,by rw [e62];exact hz.2,q _ F' H' s1 (zkb _)⟩
  .cases ht
 | _=>cases ht
theorem zth (gd:Gd X c G k) {kx:Nat} {p2:Pos} (hg:glB c.sc "enumerate"=true) (ha:Oke X c a f) (hs:starEach [a] X.env=[(false,eval a X.env)]) :
  PI X (.Tuple elts kx p2) (.Call (.Name "enumerate" p) [a] [] pos) (spI X c fun r=>(f r).bind fun x=>items .enum [x]):=by
 refine zfx (zs0 (gd.gl _ hg) (gd.nob _ (by decide +kernel)) (zcd ha hs) hs) fun O H R q=>?_;obtain ⟨r,F,ts,e,ht,q⟩:=q;obtain ⟨t,e1,ht⟩:=obs ht;refine ⟨r,F,[t],e,ue1.mpr ⟨t,e1,rfl⟩,fun vs F' H' s1 r1=>?_⟩;obtain ⟨v,w,rfl,h1,h2⟩:=r1;cases h2;cases t with
 | tup us =>cases ht;obtain ⟨l,vs,rfl,h1,h2⟩:=h1;exact ⟨l,rfl,.inr ⟨vs,zai s1.fh h1,q _ F' H' s1 (zgi (sq:=SqT X.K) (fun e h=>zoy e h) (SqT.of h1) h2)⟩⟩
 | lst us =>cases ht;obtain ⟨l,vs,rfl,h1,h2⟩:=h1;exact ⟨l,rfl,.inl ⟨vs,(Ls.same s1.fh h1).sq,q _ F' H' s1 (zgi (sq:=SqL X.K) (fun e h=>e.seq h) h1.sq h2)⟩⟩
 | _=>cases ht
theorem zhs:∀ (xs ys:List T),(yck xs ys).length=min xs.length ys.length
 | [],_=>by simp [yck]
 | _::_,[]=>by simp [yck]
 | x::xs,y::ys=>by simp only [yck,List.length_cons,zhs xs ys];omega
theorem zq0:∀ {xs ys:List T} {i:Nat} {t:T},(yck xs ys)[i]?=some t->∃ x y,xs[i]?=some x/\ys[i]?=some y/\t=.tup [x,y]
 | [],_,_,_,h=>by simp [yck] at h
 | _::_,[],_,_,h=>by simp [yck] at h
 | x::xs,y::ys,0,t,h=>by simp [yck] at h;exact ⟨x,y,rfl,rfl,h.symm⟩
 | x::xs,y::ys,i+1,t,h=>by simp only [yck,xgs] at h;obtain ⟨u,v,h1,h2,h3⟩:=zq0 h;exact ⟨u,v,by simpa using h1,by simpa using h2,h3⟩
theorem zuu {F:Hp} {t:T} {v:V} (h:yfb t=some ts) (r:Rep K F t v):∃ b l vs,v=.ref l/\Reps K F ts vs/\∀ H,Same F H->SqB b K H l vs:=by
 cases t with
 | tup us=>cases h;obtain ⟨l,vs,rfl,h1,h2⟩:=r;exact ⟨true,l,vs,rfl,h2,fun H sm=>zai sm h1⟩
 | lst us=>cases h;obtain ⟨l,vs,rfl,h1,h2⟩:=r;exact ⟨false,l,vs,rfl,h2,fun H sm=>(Ls.same sm h1).sq⟩
 | _=>cases h
theorem zoj {b1 b2:Bool} {l1 l2:Addr} {ws:List V} {xs ys:List T} (q1:∀ H,Same F' H->SqB b1 K H l1 vs) (q2:∀ H,Same F' H->SqB b2 K H l2 ws) (h1:Reps K F' xs vs) (h2:Reps K F' ys ws):Walk K (Itz K b1 b2 l1 l2) (yck xs ys) F' where
 go:=fun i H hi sm=>by rw [zhs] at hi;obtain ⟨v,hv,_⟩:=h1.get (zzm (show i<xs.length by omega));obtain ⟨u,hu,_⟩:=h2.get (zzm (show i<ys.length by omega));exact ⟨vs,ws,v,u,q1 H sm,q2 H sm,hv,hu⟩
 yld:=fun i H x H5 F t ht sF fh y=>by obtain ⟨p,v,u,hp,rfl,rfl,y1,y2⟩:=y;obtain ⟨a,b,ha,hb,rfl⟩:=zq0 ht;obtain ⟨va,hva,ra⟩:=h1.get ha;obtain ⟨vb,hvb,rb⟩:=h2.get hb;have e1:=y1 vs (q1 H (sF.trans fh));have e2:=y2 ws (q2 H (sF.trans fh));rw [hva] at e1;rw [hvb] at e2;cases e1;cases e2;have st:=(Step.refl fh).new (o:=.tup [v,u]) hp;exact ⟨_,st,p,_,rfl,zah,v,[u],rfl,(ra.mono sF).mono st.ff,u,[],rfl,(rb.mono sF).mono st.ff,rfl⟩
 stop:=fun H sm=>⟨vs,ws,q1 H sm,q2 H sm,by rw [zhs,h1.length,h2.length];omega⟩
theorem zv6 (gd:Gd X c G k) {b:Expr} {kx:Nat} {p2:Pos} {g:Env->Option T} (hg:glB c.sc "zip"=true) (ha:Oke X c a f) (hb:Oke X c b g) (hs:starEach [a,b] X.env=[(false,eval a X.env),(false,eval b X.env)]) (hs2:starEach [b] X.env=[(false,eval b X.env)]) :
  PI X (.Tuple elts kx p2) (.Call (.Name "zip" p) [a,b] [] pos) (spI X c fun r=>(f r).bind fun x=>(g r).bind fun y=>items .zip [x,y]):=by
 refine zfx (zvm (gd.gl _ hg) (gd.nob _ (by decide +kernel)) (zh3 ha (zcd hb hs2) (by rw [hs,hs2])) hs hs2) fun O H R q=>?_;obtain ⟨r,F,ts,e,ht,q⟩:=q;obtain ⟨t1,e1,ht⟩:=obs ht;obtain ⟨t2,e2,ht⟩:=obs ht;refine ⟨r,F,[t1,t2],e,ue1.mpr ⟨t1,e1,ue1.mpr ⟨[t2],ue1.mpr ⟨t2,e2,rfl⟩,rfl⟩⟩,fun vs F' H' s1 r1=>?_⟩;obtain ⟨v,w1,rfl,r1,w,w2,rfl,r2,r3⟩:=r1;cases r3;cases t1 with
 | tup xs =>obtain ⟨ys,y1,ht⟩:=obs ht;cases ht;obtain ⟨l1,vs1,rfl,a2,a1⟩:=r1;have a2:∀ H,Same F' H->SqB true X.K H l1 vs1:=fun H sm=>zai sm a2;obtain ⟨b2,l2,vs2,rfl,a3,a4⟩:=zuu y1 r2;exact ⟨l1,l2,b2,vs1,vs2,rfl,a2 H' s1.fh,a4 H' s1.fh,q _ F' H' s1 (zoj a2 a4 a1 a3)⟩
 | _=>cases ht
def yem:List Nat->List V->L2.St->L2.St
 | i::is,v::vs,O=>yem is vs (O.set i (some v))
 | _,_,O=>O
def gL:List Nat->TGs
 | []=>gNil
 | i::is=>ye9 (yeo i) (gL is)
theorem zxh:∀ {is:List Nat} {vs:List V} {O:L2.St} {H:Hp} {Q:L2.St->Hp->Prop},vs.length=is.length->Q (yem is vs O) H->gL is vs O H Q
 | [],[],_,_,_,_,q=>⟨rfl,q⟩
 | [],_::_,_,_,_,h,_=>by simp at h
 | _::_,[],_,_,_,h,_=>by simp at h
 | i::is,v::vs,O,H,Q,h,q=>⟨v,vs,rfl,zxh (is:=is) (by simpa using h) q⟩
structure At (X:Cx) (x:Str) (i:Nat):Prop where
 ix:X.N[i]?=some x
 loc:Loc X.env.scope x
 fn:X.fn x=true\/X.env.scope.names.lookup x=some .local
inductive Ats (X:Cx):List Str->List Nat->Prop
 | nil:Ats X [] []
 | cons {x:Str} {i:Nat} {xs:List Str} {is:List Nat}:At X x i->Ats X xs is->Ats X (x::xs) (i::is)
theorem zji (hN:X.N.Nodup):∀ {es:List Expr} {xs:List Str} {is:List Nat},(es.mapM fun e=>match e with | .Name x _=>some x | _=>none)=some xs->Ats X xs is ->
  PGs X es (gL is)/\(assignEach es X.env).length=xs.length/\(assignEach es X.env).findIdx? (·.1)=none
 | [],xs,is,h,ha=>by
  have e:xs=[]:=by simpa using h.symm
  subst e;cases ha;exact ⟨zs1,rfl,rfl⟩
 | e::es,xs,is,h,ha=>by
  rw [List.mapM_cons] at h;obtain ⟨x,h1,h⟩:=obs h;obtain ⟨xs',h2,h⟩:=obs h;cases h;cases ha with
  | cons a1 a2 =>
   obtain ⟨q1,q2,q3⟩:=zji hN (es:=es) h2 a2;cases e with
   | Name y pos =>
    cases h1;refine ⟨zpl (zl4 hN a1.ix a1.loc a1.fn) q1 rfl,?_,?_⟩
    .show (assignEach es X.env).length+1=xs'.length+1;rw [q2]
    .show List.findIdx? (·.1) ((false,_)::assignEach es X.env)=none;rw [List.findIdx?_cons];simp [q3]
   | _=>cases h1
def gT (K:W.Frag) (one:Bool) (is:List Nat):TG:=fun v O H Q =>
 match one,is with
 | true,[i]=>Q (O.set i (some v)) H
 | true,_=>False
 | false,is=>∃ a vs,v=.ref a/\SqT K H a vs/\vs.length=is.length/\Q (yem is vs O) H
theorem ziv:∀ {xs:List Str} {is:List Nat},Ats X xs is->xs.length=is.length
 | _,_,.nil=>rfl
 | _,_,.cons _ h=>by simp [ziv h]
theorem zrz (hN:X.N.Nodup) (hc:X.calm=true) {xs:List Str} {is:List Nat} (h:zbz tg=some xs) (ha:Ats X xs is):PG X tg (gT X.K (!yao tg) is):=by
 cases tg with
 | Name x pos =>
  cases h;cases ha with
  | cons a1 a2 =>cases a2;exact zl4 hN a1.ix a1.loc a1.fn
 | Tuple es k pos =>obtain ⟨q1,q2,q3⟩:=zji hN h ha;intro pj s O H v u Q I r hw;obtain ⟨a,vs,rfl,h1,h2,q⟩:=hw;exact zvo hc q1 (q2.trans (ziv ha)) q3 pj s O H _ u Q I r ⟨a,vs,rfl,h1,h2,zxh h2 q⟩
 | _=>cases h
end
section
variable {M:Program} {W:World} {A:Around} {E:Value->Shared->Prop}
end
section
variable {X:Cx}
end
end
section
theorem za5:∀ {l:List Str} {x:Str} {i:Nat},yaj l x=some i->l[i]?=some x
 | [],_,_,h=>by cases h
 | y::r,x,i,h=>by
  unfold yaj at h;split at h
  .rename_i e;cases h;rw [ua2 e];rfl
  .obtain ⟨j,hj,rfl⟩:=oms h;simpa using za5 hj
theorem zfk:∀ {l r:List Str} {x:Str} {i:Nat},yaj (l++r) x=some i->(yaj l x=some i/\i<l.length)\/(x∉l/\l.length<=i/\yaj r x=some (i-l.length))
 | [],r,x,i,h=>.inr ⟨by simp,Nat.zero_le _,by simpa using h⟩
 | y::l,r,x,i,h=>by
  rw [List.cons_append,yaj] at h;split at h
  .rename_i e;cases h;left;rw [yaj,if_pos e];exact ⟨rfl,by simp⟩
  .rename_i e;obtain ⟨j,hj,rfl⟩:=oms h;rcases zfk hj with ⟨h1,h2⟩ | ⟨h1,h2,h3⟩
   .left;rw [yaj,if_neg e,h1];exact ⟨rfl,by simpa using h2⟩
   .right;refine ⟨fun z=>?_,by simpa using h2,?_⟩
    .rcases omc z with q | q
     .exact e (by rw [q];exact ua9 _)
     .exact h1 q
    .rw [h3,zz4,show j+1-(l.length+1)=j-l.length by omega]
theorem zgw:∀ {xs:List Str},ycc xs=true->xs.Nodup
 | [],_=>ud4
 | x::r,h=>by simp only [ycc,Bool.and_eq_true,Bool.not_eq_true'] at h;refine ua7.mpr ⟨fun z=>?_,zgw h.2⟩;have:=h.1;rw [List.contains_iff_mem.mpr z] at this;cases this
structure CsB (out sc:Scope) (xs:List Str):Prop where
 kind:sc.kind=.function
 nd:xs.Nodup
 own:∀ x∈xs,zac x=true/\(sc.names.lookup x=some .local\/sc.names.lookup x=some .cell)
 free:∀ y∈sc.names,y.2=.free->sc.names.lookup y.1=some .free/\(out.names.lookup y.1=some .cell\/out.names.lookup y.1=some .free)
 loc:∀ y∈sc.names,y.2=.local->sc.names.lookup y.1=some .local/\(y.1∈xs\/y.1=".0")
 cel:∀ y∈sc.names,y.2=.cell->sc.names.lookup y.1=some .cell/\y.1∈xs
theorem zxv {out sc:Scope} {xs:List Str} (h:zct out sc xs=true):CsB out sc xs:=by
 simp only [zct,Bool.and_eq_true] at h;obtain ⟨⟨⟨h1,h2⟩,h3⟩,h4⟩:=h;have all:=oml h4;refine ⟨by simpa using h1,zgw h2,fun x hx=>?_,fun y hy e=>?_,fun y hy e=>?_,fun y hy e=>?_⟩
 .have:=oml h3 x hx;simp only [Bool.and_eq_true,Bool.or_eq_true,beq_iff_eq] at this;exact this
 .have:=all y hy;rw [e] at this;simp only [Bool.and_eq_true,Bool.or_eq_true,beq_iff_eq] at this;exact this
 .have:=all y hy;rw [e] at this;simp only [Bool.and_eq_true,Bool.or_eq_true,beq_iff_eq] at this;exact ⟨this.1,this.2.imp (fun z=>List.contains_iff_mem.mp z) id⟩
 .have:=all y hy;rw [e] at this;simp only [Bool.and_eq_true,beq_iff_eq] at this;exact ⟨this.1,List.contains_iff_mem.mp this.2⟩
section
variable {X:Cx} {c:Tc} {G:Glo} {k:Nat} {scope:Scope} {xs:List Str} {pj:List (Addr × Obj)} {fp:List Addr} {qz:Shared} {qy:Hp}
theorem CsB.sc (S:CsB c.sc scope xs) (gd:Gd X c G k):CompSc X scope xs :=
 ⟨S.kind,S.nd,fun x hx=>(S.own x hx).2,fun y hy e=>⟨(S.free y hy e).1,gd.cap y.1 (S.free y hy e).2⟩,fun y hy e=>(S.loc y hy e).1,fun y hy e=>(S.cel y hy e).1⟩
theorem zui {N:List Str} (h:N.Nodup):(ycb scope N).Nodup:=h.sublist List.filter_sublist
theorem zxz (S:CsB c.sc scope xs) (gd:Gd X c G k):(xs++ycb scope X.N).Nodup:=by
 refine List.nodup_append.mpr ⟨S.nd,zui gd.nd,fun x hx y hy e=>?_⟩;subst e;have h1:=(S.own x hx).2;have h2:scope.names.lookup x=some .free:=by have:=(ub9.mp hy).2;simpa using this
 rw [h2] at h1;rcases h1 with z | z<;>cases z
theorem zx0 (S:CsB c.sc scope xs) (gd:Gd X c G k):Gd (blk X pj scope xs fp qz qy) ⟨scope,xs++c.nm⟩ G k where
 room:=gd.room
 calm:=gd.calm
 nob:=gd.nob
 call:=gd.call
 con:=gd.con
 vis:=fun x h=>by
  show (blk X pj scope xs fp qz qy).env.scope.names.lookup x=_\/(blk X pj scope xs fp qz qy).env.scope.names.lookup x=_\/(blk X pj scope xs fp qz qy).env.scope.names.lookup x=_;rw [zcl];have h:ybu scope x=true:=h;unfold ybu at h;cases e:scope.names.lookup x with
  | none=>rw [e] at h;cases h
  | some q =>
   rw [e] at h;cases q with
   | «local»=>exact .inl rfl
   | cell=>exact .inr (.inl rfl)
   | free =>
    dsimp only;split
    .exact .inr (.inl rfl)
    .exact .inr (.inr rfl)
   | _=>cases h
 gl:=fun x h=>by
  show (blk X pj scope xs fp qz qy).env.scope.names.lookup x=_;rw [zcl];have h:scope.names.lookup x=some .globalImplicit:=by simpa [glB] using h
  rw [h]
 cap:=fun x h=>by
  show (blk X pj scope xs fp qz qy).env.scope.names.lookup x=_\/(blk X pj scope xs fp qz qy).env.scope.names.lookup x=_;rw [zcl];have h:scope.names.lookup x=some .cell\/scope.names.lookup x=some .free:=h;rcases h with h | h<;>rw [h]
  .exact .inl rfl
  .dsimp only;split
   .exact .inl rfl
   .exact .inr rfl
 nd:=zxz S gd
theorem zn4 (S:CsB c.sc scope xs):∀ (l:List Str) (n:Nat),(∀ (j:Nat) (x:Str),l[j]?=some x->xs[n+j]?=some x)->Ats (blk X pj scope xs fp qz qy) l (List.range' n l.length)
 | [],_,_=>.nil
 | x::l,n,h=>by
  have h0:xs[n]?=some x:=by simpa using h 0 x rfl
  have hx:x∈xs:=zAm h0;have own:=(S.own x hx).2;have hn:n<xs.length:=(ome h0).1;rw [zz4,List.range'_succ];refine .cons ⟨?_,?_,?_⟩ (zn4 S l (n+1) fun j y e=>by have:=h (j+1) y (by simpa using e);rwa [show n+(j+1)=n+1+j by omega] at this)
  .show (xs++ycb scope X.N)[n]?=some x;rw [zAo hn];exact h0
  .show (blk X pj scope xs fp qz qy).env.scope.names.lookup x=_\/(blk X pj scope xs fp qz qy).env.scope.names.lookup x=_;rw [zcl];rcases own with e | e<;>rw [e]
   .exact .inl rfl
   .exact .inr rfl
  .rcases own with e | e
   .right;rw [zcl,e]
   .left;show (scope.names.lookup x==some .cell)=true;rw [e];rfl
theorem zuk (S:CsB c.sc scope xs) {r:Env} {F:Hp} {O:L2.St} {H Hc:Hp} (e:EnvE X c r F O H) (hl:O.length=X.N.length) {ts:List T} {vs:List V} (ht:ts.length=xs.length) (rv:Reps X.K F ts vs) (fh:Same F Hc) (tb:Tbk X.K F Hc) :
  EnvE (blk X pj scope xs fp qz qy) ⟨scope,xs++c.nm⟩ (ts.map some++r) F (vs.map some++yb9 scope X.N O) Hc where
 fh:=fh
 tb:=tb
 get:=fun x i t hpn hi hv hr=>by
  have hvl:vs.length=xs.length:=by rw [rv.length,ht]
  have hv:ybu scope x=true:=hv;rcases zfk (show yaj (xs++c.nm) x=some i from hi) with ⟨h1,h2⟩ | ⟨h1,h2,h3⟩
  .have hi':i<ts.length:=by omega
   rw [uc5 (by simpa using hi'),List.getElem?_map] at hr;obtain ⟨t',ht',e'⟩:=oms hr;cases e';obtain ⟨v,hv1,hv2⟩:=rv.get ht';refine ⟨i,v,?_,?_,hv2⟩
   .show (xs++ycb scope X.N)[i]?=some x;rw [zAo h2];exact za5 h1
   .rw [uc5 (by simp;omega),List.getElem?_map,hv1];rfl
  .rw [uc4 (by simp;omega)] at hr;have hr':r[i-xs.length]?=some (some t):=by simpa [ht] using hr
   have hfree:scope.names.lookup x=some .free:=by
    unfold ybu at hv;cases q:scope.names.lookup x with
    | none=>rw [q] at hv;cases hv
    | some kd =>
     rw [q] at hv;cases kd with
     | free=>rfl
     | «local» =>
      have:=(S.loc _ (zb2 q) rfl).2;rcases this with z | z
      .exact absurd z h1
      .rw [show x=".0" from z] at hpn;exact absurd hpn (by decide +kernel)
     | cell=>exact absurd (S.cel _ (zb2 q) rfl).2 h1
     | _=>cases hv
   have hout:ybu c.sc x=true:=by rcases (S.free _ (zb2 hfree) rfl).2 with z | z<;>simp [ybu,z]
   obtain ⟨j,v,g1,g2,g3⟩:=e.get x (i-xs.length) t hpn h3 hout hr';obtain ⟨m,m1,m2⟩:=zn2 scope hfree X.N O hl g1 g2;refine ⟨xs.length+m,v,?_,?_,g3⟩
   .show (xs++ycb scope X.N)[xs.length+m]?=some x;rw [zAq (by omega)];simpa using m1
   .rw [uc4 (by simp;omega)];simpa [hvl] using m2
end
end
section
theorem zff:∀ (vs:List V) (front pre rest:L2.St),pre.length=vs.length->yem (List.range' front.length vs.length) vs (front++pre++rest)=front++vs.map some++rest
 | [],front,pre,rest,h=>by
  cases pre with
  | nil=>simp [yem]
  | cons _ _=>simp at h
 | v::vs,front,pre,rest,h=>by
  cases pre with
  | nil=>simp at h
  | cons p pre =>
   rw [zz4,List.range'_succ,yem];have e:(front++(p::pre)++rest).set front.length (some v)=(front++[some v])++pre++rest:=by rw [zAk,List.set_append,if_neg (zAp _)];simp
   have e2:(front++[some v]).length=front.length+1:=by simp
   rw [e,<- e2,zff vs (front++[some v]) pre rest (by simpa using h)];simp
def spC (X:Cx) (c:Tc) (fc:Env->Option Bool):TT:=fun O H Q=>∃ r F b,EnvE X c r F O H/\fc r=some b/\∀ F' H',Step F H F' H'->Q b H'
noncomputable def elM (n:Nat) (r:Env) (fc:Env->Option Bool) (fe:Env->Option T):T->Option (Option T):=fun x=>(bnd n x r).bind fun r'=>(fc r').bind fun b=>if b=true then (fe r').map some else some none
section
variable {X:Cx} {c:Tc} {G:Glo} {k:Nat} {scope:Scope} {xs:List Str}
theorem zhg {elt iter tg:Expr} {ifs:List Expr} {pos:Pos} {fe:Env->Option T} {fc:Env->Option Bool} (gd:Gd X c G k) (S:CsB c.sc scope xs) (htg:zbz tg=some xs) (h2n:yao tg=true->2<=xs.length)
  (he:∀ pj fp qz qy,Gd (blk X pj scope xs fp qz qy) ⟨scope,xs++c.nm⟩ G k->Oke (blk X pj scope xs fp qz qy) ⟨scope,xs++c.nm⟩ elt fe)
  (hi:∀ pj fp qz qy,Gd (blk X pj scope xs fp qz qy) ⟨scope,xs++c.nm⟩ G k->∀ (pn:List (Addr × Obj)) (s:Shared) (O:L2.St) (H:Hp) (Q:Bool->Hp->Prop),L2.Inv (blk X pj scope xs fp qz qy) pn O H s->spC (blk X pj scope xs fp qz qy) ⟨scope,xs++c.nm⟩ fc O H Q ->
   wpAny (model X.prog X.w) X.A (forIn ifs true fun c r=>if r=true then do let ok <- isTrue c (blk X pj scope xs fp qz qy).env (eval c (blk X pj scope xs fp qz qy).env);pure (ForInStep.yield ok) else pure (ForInStep.yield r)) (TP (blk X pj scope xs fp qz qy) pn O Q) (fun _ _=>False) s)
  {pj:List (Addr × Obj)} {fp:List Addr} {O:L2.St} {H2 F2:Hp} {s2:Shared} {J:It} {it:Addr} {tn:Nat->Heap->Prop} {E:Value->Shared->Prop} {ts total:List T} {r:Env}
  (I2:L2.Inv X pj O H2 s2) (Tn:Turn X.prog X.w X.K tg J fp it tn) (st2:tn 0 s2.heap) (f2:∀ b∈fp,ycf X pj H2 b) (wk:Walk X.K J ts F2) (e2:EnvE X c r F2 O H2) (hts:ts.length<=SZ) (hcm:ya4 (elM xs.length r fc fe) ts=some total) :
  wpAny (model X.prog X.w) X.A (newList []) (fun acc qz=>wpAny (model X.prog X.w) X.A (newFunctionEnv scope X.env.globals (za2 X.env scope.names []) [] X.env.qual none .none (some X.env)) (fun cenv s₄ =>
   codeAny (model X.prog X.w) X.A (.compStart (.ListComp elt [⟨tg,iter,ifs,0⟩] scope pos) 0 (.ref it) acc { cenv with scope:=relabel scope X.env })
    (fun r s'=>r=.ok .next/\∃ D H',acc=.ref D/\L2.Inv X pj O H' s'/\ycf X pj H' cenv.locals/\(∃ m,s'.heap.Ns cenv.locals m) /\
     ∃ F vs,Step F2 H2 F H'/\F D=none/\H2 D=none/\H' D=some (.lst vs)/\Reps X.K F total vs) s₄) E qz) E s2:=by
 have hl:O.length=X.N.length:=I2.len;have gb:∀ qz qy,Gd (blk X pj scope xs fp qz qy) ⟨scope,xs++c.nm⟩ G k:=fun qz qy=>zx0 S gd;have hat:∀ qz qy,Ats (blk X pj scope xs fp qz qy) xs (List.range' 0 xs.length):=fun qz qy=>zn4 S xs 0 fun j x e=>by rw [Nat.zero_add];exact e
 refine zqm (g:=fun _ _=>gT X.K (!yao tg) (List.range' 0 xs.length)) (tc:=fun qz qy=>spC (blk X pj scope xs fp qz qy) ⟨scope,xs++c.nm⟩ fc) (te:=fun qz qy=>spE (blk X pj scope xs fp qz qy) ⟨scope,xs++c.nm⟩ fe)
  gd.calm (S.sc gd) I2 Tn st2 f2 (fun qz qy _=>zrz (X:=blk X pj scope xs fp qz qy) (gb qz qy).nd gd.calm htg (hat qz qy)) (fun qz qy _=>hi pj fp qz qy (gb qz qy)) (fun qz qy _=>he pj fp qz qy (gb qz qy))
  (fun D i m O' H'=>i<=ts.length/\m=ts.length-i/\(∃ pre:L2.St,O'=pre++yb9 scope X.N O/\pre.length=xs.length)/\∃ F vs rs rest,Step F2 H2 F H'/\F D=none/\H2 D=none/\H' D=some (.lst vs)/\Reps X.K F rs vs/\vs.length<=i/\ya4 (elM xs.length r fc fe) (ts.drop i)=some rest/\rs++rest=total)
  (fun D H'=>∃ F vs,Step F2 H2 F H'/\F D=none/\H2 D=none/\H' D=some (.lst vs)/\Reps X.K F total vs) ?_ ?_
 .intro D hD;exact ⟨ts.length,Nat.zero_le _,rfl,⟨_,rfl,by simp⟩,F2,[],[],total,(Step.refl e2.fh).newH hD,e2.fh.free hD,hD,zah,rfl,Nat.le_refl _,hcm,rfl⟩
 .rintro qz qy D i m O' H' BOk ⟨hi1,rfl,⟨pre,rfl,hpre⟩,F,vs,rs,rest,st,hF,hH2,hH',hrs,hvl,hcr,htot⟩;have sm:Same F2 H':=st.ff.trans st.fh;by_cases hlt:i<ts.length
  .right;have hti:ts[i]?=some ts[i]:=zzm hlt;generalize hT:ts[i]=t at hti;rw [List.drop_eq_getElem_cons hlt,hT,ya4] at hcr;obtain ⟨o,ho,hcr⟩:=obs hcr;obtain ⟨rest',hr',hcr⟩:=obs hcr;obtain ⟨r',hb,ho⟩:=obs (show (bnd xs.length t r).bind _=some o from ho);obtain ⟨bb,hfc,ho⟩:=obs ho;refine ⟨wk.go i H' hlt sm,fun O'' H''=>i+1<=ts.length/\(∃ pre:L2.St,O''=pre++yb9 scope X.N O/\pre.length=xs.length)/\∃ F vs rs rest,Step F2 H2 F H''/\F D=none/\H2 D=none/\H'' D=some (.lst vs)/\Reps X.K F rs vs/\vs.length<=i+1/\ya4 (elM xs.length r fc fe) (ts.drop (i+1))=some rest/\rs++rest=total,?_,?_⟩
   .rintro O'' H'' ⟨a1,a2,a3⟩;exact ⟨ts.length-(i+1),by omega,a1,rfl,a2,a3⟩
   .intro x H5 y;obtain ⟨F5,st5,r5⟩:=wk.yld i H' x H5 F t hti st.ff st.fh y;have cont:∀ (us:List T) (ws:List V),us.length=xs.length->Reps X.K F5 us ws->r'=us.map some++r->(spC (blk X pj scope xs fp qz qy) ⟨scope,xs++c.nm⟩ fc) (ws.map some++yb9 scope X.N O) H5 fun ok H7=>if ok=true then (spE (blk X pj scope xs fp qz qy) ⟨scope,xs++c.nm⟩ fe) (ws.map some++yb9 scope X.N O) H7 fun y H8=>∃ ys,H8 D=some (.lst ys)/\ys.length<sizeLine /\
      (i+1<=ts.length/\(∃ pre:L2.St,ws.map some++yb9 scope X.N O=pre++yb9 scope X.N O/\pre.length=xs.length)/\∃ F vs rs rest,Step F2 H2 F (upd H8 D (.lst (ys++[y])))/\F D=none/\H2 D=none/\upd H8 D (.lst (ys++[y])) D=some (.lst vs)/\Reps X.K F rs vs/\vs.length<=i+1/\ya4 (elM xs.length r fc fe) (ts.drop (i+1))=some rest/\rs++rest=total)
      else (i+1<=ts.length/\(∃ pre:L2.St,ws.map some++yb9 scope X.N O=pre++yb9 scope X.N O/\pre.length=xs.length)/\∃ F vs rs rest,Step F2 H2 F H7/\F D=none/\H2 D=none/\H7 D=some (.lst vs)/\Reps X.K F rs vs/\vs.length<=i+1/\ya4 (elM xs.length r fc fe) (ts.drop (i+1))=some rest/\rs++rest=total):=by
     intro us ws hul hrw hrr;have hwl:(ws.map some:L2.St).length=xs.length:=by rw [zzo,hrw.length,hul]
     have e5:=zuk (pj:=pj) (fp:=fp) (qz:=qz) (qy:=qy) S (e2.step (st.trans st5)) hl hul hrw st5.fh (e2.tb.up (st.trans st5));rw [<- hrr] at e5;refine ⟨r',F5,bb,e5,hfc,fun F7 H7 s7=>?_⟩;have st7:=st5.trans s7;have hD7:H7 D=some (.lst vs):=st7.hh.st D _ hH' rfl;have nD:∀ {F8 H8:Hp},Step F H' F8 H8->F8 D=none:=fun {F8 H8} s8=>by
      cases q:F8 D with
      | none=>rfl
      | some o =>
       rcases s8.nw D (by rw [q];simp) with z | z | ⟨_,z⟩
       .exact absurd hF z
       .rw [hH'] at z;cases z
       .rw [hH'] at z;cases z
     cases bb with
     | false =>dsimp only at ho ⊢;rw [if_neg zzx] at ho ⊢;cases ho;cases hcr;exact ⟨hlt,⟨_,rfl,hwl⟩,F7,vs,rs,_,st.trans st7,nD st7,hH2,hD7,hrs.mono st7.ff,by omega,hr',htot⟩
     | true =>
      dsimp only at ho ⊢;rw [if_pos rfl] at ho ⊢;obtain ⟨yt,hye,rfl⟩:=oms ho;cases hcr;refine ⟨r',F7,yt,e5.step s7,hye,fun v F8 H8 s8 r8=>?_⟩;have st8:=st7.trans s8;have S8:=st.trans st8;have hF8:=nD st8;refine ⟨vs,st8.hh.st D _ hH' rfl,?_,hlt,⟨_,rfl,hwl⟩,F8,vs++[v],rs++[yt],_,⟨S8.hh.upd hH2 (st8.hh.st D _ hH' rfl) rfl (fun _ _ z=>nomatch z),S8.ff,fun b o q=>?_,S8.nw⟩,hF8,hH2,zah,(hrs.mono st8.ff).app ⟨v,[],rfl,r8,rfl⟩,by simp;omega,hr',by rw [List.append_assoc];exact htot⟩
      .rw [<- ze8];omega
      .rw [zad (zae q hF8)];exact S8.fh b o q
    cases htup:yao tg with
    | false =>
     have hx1:∃ z,xs=[z]:=by
      cases tg with
      | Name z p=>cases htg;exact ⟨z,rfl⟩
      | Tuple _ _ _=>cases htup
      | _=>cases htg
     obtain ⟨z,rfl⟩:=hx1;have hb':some (some t::r)=some r':=hb;cases hb';obtain ⟨p0,rfl⟩:∃ p0,pre=[p0]:=by
      cases pre with
      | nil=>simp at hpre
      | cons p0 q=>cases q with
       | nil=>exact ⟨p0,rfl⟩
       | cons _ _=>simp at hpre
     exact cont [t] [x] rfl ⟨x,[],rfl,r5,rfl⟩ rfl
    | true =>
     have hn2:=h2n htup;unfold bnd at hb;rw [if_neg (by omega)] at hb;cases t with
     | tup us =>
      simp only at hb;split at hb
      .rename_i hul;cases hb;obtain ⟨a,ws,rfl,q1,q2⟩:=r5;refine ⟨a,ws,rfl,zai st5.fh q1,by rw [List.length_range',q2.length,hul],?_⟩;have es:=zff ws [] pre (yb9 scope X.N O) (by rw [hpre,q2.length,hul]);rw [q2.length,hul] at es;simp only [List.length_nil,List.nil_append] at es;rw [es];exact cont us ws hul q2 rfl
      .cases hb
     | _=>cases hb
  .left;have hie:i=ts.length:=by omega
   subst hie;rw [List.drop_length] at hcr;cases hcr;rw [zzu] at htot;subst htot;exact ⟨wk.stop H' sm,F,vs,st,hF,hH2,hH',hrs⟩
end
end
section
section
variable {X:Cx} {c:Tc} {G:Glo} {k:Nat} {scope:Scope} {xs:List Str}
theorem zi2 {F H F2 H2 F3 H':Hp} {D:Addr} {vs:List V} (a:Step F H F2 H2) (b:Step F2 H2 F3 H') (h1:F3 D=none) (h2:H2 D=none) (h3:H' D=some (.lst vs)):Step F H (upd F3 D (.lst vs)) H' :=
 have S:=a.trans b
 ⟨S.hh,S.ff.trans (zbi h1),fun x o q=>by
  by_cases hx:x=D
  .subst hx;rw [zah] at q;cases q;exact h3
  .rw [zad hx] at q;exact S.fh x o q,fun x z=>by
  by_cases hx:x=D
  .subst hx;exact .inr (.inl (a.hh.free h2))
  .rw [zad hx] at z;exact S.nw x z⟩
noncomputable def yce (xs:List Str) (fi:Env->Option (List T)) (fc:Env->Option Bool) (fe:Env->Option T):Env->Option T :=
 fun r=>((fi r).bind fun qc=>if qc.length<=SZ then some qc else none).bind fun qc=>(ya4 (elM xs.length r fc fe) qc).map .lst
variable {elt iter tg:Expr} {ifs:List Expr} {pos:Pos} {fe:Env->Option T} {fc:Env->Option Bool} {fi:Env->Option (List T)}
theorem zhh {r:Env} {t:T} (h:yce xs fi fc fe r=some t):∃ qc total,fi r=some qc/\qc.length<=SZ/\ya4 (elM xs.length r fc fe) qc=some total/\t=.lst total:=by
 unfold yce at h;obtain ⟨qc,h1,h⟩:=obs h;obtain ⟨its',h2,h1⟩:=obs h1;split at h1
 .rename_i hz;cases h1;obtain ⟨total,h3,rfl⟩:=oms h;exact ⟨qc,total,h2,hz,h3,rfl⟩
 .cases h1
theorem zh4 (gd:Gd X c G k) (S:CsB c.sc scope xs) (htg:zbz tg=some xs) (h2n:yao tg=true->2<=xs.length)
  (he:∀ pj fp qz qy,Gd (blk X pj scope xs fp qz qy) ⟨scope,xs++c.nm⟩ G k->Oke (blk X pj scope xs fp qz qy) ⟨scope,xs++c.nm⟩ elt fe)
  (hi:∀ pj fp qz qy,Gd (blk X pj scope xs fp qz qy) ⟨scope,xs++c.nm⟩ G k->∀ (pn:List (Addr × Obj)) (s:Shared) (O:L2.St) (H:Hp) (Q:Bool->Hp->Prop),L2.Inv (blk X pj scope xs fp qz qy) pn O H s->spC (blk X pj scope xs fp qz qy) ⟨scope,xs++c.nm⟩ fc O H Q ->
   wpAny (model X.prog X.w) X.A (forIn ifs true fun c r=>if r=true then do let ok <- isTrue c (blk X pj scope xs fp qz qy).env (eval c (blk X pj scope xs fp qz qy).env);pure (ForInStep.yield ok) else pure (ForInStep.yield r)) (TP (blk X pj scope xs fp qz qy) pn O Q) (fun _ _=>False) s)
  (hit:PI X tg iter (spI X c fi)) (hfs:∀ x,foldedSetIterable iter X.env x=pure x):Oke X c (.ListComp elt [⟨tg,iter,ifs,0⟩] scope pos) (yce xs fi fc fe):=by
 intro pj s O H Q I q;obtain ⟨r,F,t,e,ht,q⟩:=q;obtain ⟨qc,total,hf,hz,hcm,rfl⟩:=zhh ht;rw [eval_ListComp];refine wpAny_comprehension_free (use:=none) rfl hfs (zdo ((S.sc gd).has I.ok)) S.kind (fun y hy e=>(S.loc y hy e).1)
  (thn (hit pj s O H (fun J H'=>∃ F',Step F H F' H'/\Walk X.K J qc F') I ⟨r,F,qc,e,hf,fun J F' H' s1 wk=>⟨F',s1,wk⟩⟩) fun v s1 h1=>thn h1 fun itv s2 h2=>?_)
 obtain ⟨it,fp,tn,J,H2,rfl,I2,T,st2,f2,F2,s12,wk⟩:=h2;refine thn (zhg (E:=X.xe) gd S htg h2n he hi I2 T st2 f2 wk (e.step s12) hz hcm) fun acc s3 h3=>thn h3 fun cenv s4 h4=>codeAny_mono h4 fun res s' hres=>?_;obtain ⟨rfl,D,H',rfl,I',fC,⟨m,hm⟩,F3,vs,st3,d1,d2,d3,d4⟩:=hres;refine ⟨m,hm,fun h' hsb=>⟨.ref D,H',I'.turned (t':=s'.toks) (fun b o hb q=>(hsb.2 b hb).trans q) fC.1 fC.2.1 fC.2.2.2.1 fC.2.2.2.2.1 fC.2.2.2.2.2,rfl,?_⟩⟩;have S3:=zi2 s12 st3 d1 d2 d3;exact q _ _ _ S3 ⟨D,vs,rfl,Ls.of zah,d4.mono (zbi d1)⟩
def yeg (X:Cx) (c:Tc) (i:Nat) (f:Env->Option T):TS:=fun D O H=>∃ r F t,EnvE X c r F O H/\f r=some t/\∀ v F' H',Step F H F' H'->Rep X.K F' t v->D.nx (O.set i (some v)) H'
theorem zfj (gd:Gd X c G k) (S:CsB c.sc scope xs) (htg:zbz tg=some xs) (h2n:yao tg=true->2<=xs.length)
  (he:∀ pj fp qz qy,Gd (blk X pj scope xs fp qz qy) ⟨scope,xs++c.nm⟩ G k->Oke (blk X pj scope xs fp qz qy) ⟨scope,xs++c.nm⟩ elt fe)
  (hi:∀ pj fp qz qy,Gd (blk X pj scope xs fp qz qy) ⟨scope,xs++c.nm⟩ G k->∀ (pn:List (Addr × Obj)) (s:Shared) (O:L2.St) (H:Hp) (Q:Bool->Hp->Prop),L2.Inv (blk X pj scope xs fp qz qy) pn O H s->spC (blk X pj scope xs fp qz qy) ⟨scope,xs++c.nm⟩ fc O H Q ->
   wpAny (model X.prog X.w) X.A (forIn ifs true fun c r=>if r=true then do let ok <- isTrue c (blk X pj scope xs fp qz qy).env (eval c (blk X pj scope xs fp qz qy).env);pure (ForInStep.yield ok) else pure (ForInStep.yield r)) (TP (blk X pj scope xs fp qz qy) pn O Q) (fun _ _=>False) s)
  (hit:PI X tg iter (spI X c fi)) (hfs:∀ x,foldedSetIterable iter X.env x=pure x) {y:Str} {py spos:Pos} {i:Nat} (hy:At X y i):PS X (.Assign [.Name y py] (.ListComp elt [⟨tg,iter,ifs,0⟩] scope pos) spos) (yeg X c i (yce xs fi fc fe)):=by
 obtain ⟨b,hb⟩:∃ b:Bool,swapsWith (.ListComp elt [⟨tg,iter,ifs,0⟩] scope pos) (some (.Name y py)) spos.line X.env=pure b:=⟨_,rfl⟩;cases b with
 | false =>refine zc4 (zja gd.nd hy.ix hy.loc (zh4 gd S htg h2n he hi hit hfs) hb hy.fn) fun D O H q=>?_;exact q
 | true =>
  intro pj s O H Dn I q;obtain ⟨r,F,t,e,ht,q⟩:=q;obtain ⟨qc,total,hf,hz,hcm,rfl⟩:=zhh ht;rw [exec_Assign_Name_used _ _ _ _ hb];refine zzg (wpAny_standAt (zzg ?_));show wpAny _ X.A (do let _ <- comprehension (.ListComp elt [⟨tg,iter,ifs,0⟩] scope pos) scope X.env _ (newList []) false (eval iter X.env) (some (assign (.Name y py) X.env))) _ _ s;refine zzg (zAy (wpAny_comprehension_free (use:=some (assign (.Name y py) X.env)) (Q:=fun _ s'=>SP X pj Dn .next s') rfl hfs (zdo ((S.sc gd).has I.ok)) S.kind (fun y hy e=>(S.loc y hy e).1)
   (thn (hit pj s O H (fun J H'=>∃ F',Step F H F' H'/\Walk X.K J qc F') I ⟨r,F,qc,e,hf,fun J F' H' s1 wk=>⟨F',s1,wk⟩⟩) fun v s1 h1=>thn h1 fun itv s2 h2=>?_)) (fun _ s' hq=>zzl (zzl hq)) fun _ _ e=>e)
  obtain ⟨it,fp,tn,J,H2,rfl,I2,T,st2,f2,F2,s12,wk⟩:=h2;refine thn (zhg (E:=X.xe) gd S htg h2n he hi I2 T st2 f2 wk (e.step s12) hz hcm) fun acc s3 h3=>thn h3 fun cenv s4 h4=>codeAny_mono h4 fun res s' hres=>?_;obtain ⟨rfl,D,H',rfl,I',fC,⟨m,hm⟩,F3,vs,st3,d1,d2,d3,d4⟩:=hres;show wpAny _ X.A (assign (.Name y py) X.env (.ref D)) _ _ s';refine wpAny_assign_Name (zgo I' gd.nd hy.ix hy.loc (v:=.ref D) (u:=.ref D) rfl (fun s'' I'' hsb=>?_) hy.fn);obtain ⟨a,hsb,ha⟩:=hsb;have hCa:cenv.locals≠a:=by
   rcases ha with z | z
   .rw [z];exact fC.2.1
   .exact Ne.symm (fC.2.2.2.2.1 y a z)
  refine ⟨m,hm.sameBut hsb hCa,fun h' hsb2=>⟨_,H',I''.turned (t':=s''.toks) (fun b o hb q=>(hsb2.2 b hb).trans q) fC.1 fC.2.1 fC.2.2.2.1 fC.2.2.2.2.1 fC.2.2.2.2.2,?_⟩⟩;have S3:=zi2 s12 st3 d1 d2 d3;exact q _ _ _ S3 ⟨D,vs,rfl,Ls.of zah,d4.mono (zbi d1)⟩
end
end
section
variable {e:Expr} {e':E}
theorem zc3 {n:Nat} {c:Tc} (h:trV n c e=some e') (es:List Expr) (env:PySem.Env):starEach (e::es) env=(false,eval e env)::starEach es env:=by
 cases n with
 | zero=>cases h
 | succ n=>cases e<;>first | rfl | (cases h)
theorem zbt {n:Nat} {c:Tc} (h:trV n c e=some e') (env:PySem.Env):starEach [e] env=[(false,eval e env)]:=zc3 h [] env
theorem zi3 {n:Nat} {c:Tc} (pos:Pos) (env:PySem.Env):∀ {es:List Expr} {xs:List E},yc9 (trV n c) es=some xs->(backTo pos (starEach es env)).any (·.1)=false
 | [],_,_=>rfl
 | e::es,xs,h=>by obtain ⟨x,h1,h⟩:=obs h;obtain ⟨ys,h2,_⟩:=obs h;rw [zc3 h1];have ih:=zi3 pos env h2;unfold backTo at ih ⊢;rw [zzi,ub7,ih];rfl
theorem zpi {b:Expr} (h:yco b=false):zix b:=by cases b<;>first | (intro o i;rfl) | (cases h)
theorem zn7 {n:Nat} {c:Tc} {o:Expr} (h:trV n c o=some e') (m:Str) (env:PySem.Env) (w:Sem Value):attributeBase o m env w=w:=by
 cases n with
 | zero=>cases h
 | succ n =>
  cases o with
  | Call f args kws pos =>
   cases f with
   | Name id p =>
    cases args with
    | nil=>cases kws<;>(cases h;done)
    | cons _ _=>rfl
   | _=>rfl
  | _=>rfl
theorem zec {G:Glo}:∀ {xs:List E} {r:Env} {ts:List T},yad G xs r=some ts->ts.length=xs.length
 | [],_,_,h=>by rw [yad] at h;cases h;rfl
 | x::xs,r,ts,h=>by rw [yad] at h;obtain ⟨t,_,h⟩:=obs h;obtain ⟨us,h2,h⟩:=obs h;cases h;simp [zec h2]
def isBO:Expr->Bool
 | .BoolOp ..=>true
 | _=>false
structure Snd (G:Glo) (k n:Nat):Prop where
 v:∀ {X:Cx} {c:Tc} {e:Expr} {e':E},Gd X c G k->trV n c e=some e'->Oke X c e (evE G e')
 t:∀ {X:Cx} {c:Tc} {e:Expr} {e':E},Gd X c G k->trT n c e=some e'->Okt X c e (evE G e')/\(isBO e=true->Okw X c e (evE G e'))
 i:∀ {X:Cx} {c:Tc} {tg e:Expr} {ki:Ik × List E},Gd X c G k->trI n c e=some ki->(ki.1.pair=true->yao tg=true)->PI X tg e (spI X c fun r=>(yad G ki.2 r).bind fun xs=>items ki.1 xs)
section
variable {G:Glo} {k n:Nat} {X:Cx} {c:Tc}
theorem Snd.l (S:Snd G k n) (gd:Gd X c G k):∀ {es:List Expr} {xs:List E},yc9 (trV n c) es=some xs->PA X es (spL X c (yad G xs))
 | [],xs,h=>by
  cases h;have e:yad G []=fun _=>some []:=by funext r;rw [yad]
  rw [e];exact zq9
 | a::es,xs,h=>by
  obtain ⟨x,h1,h⟩:=obs h;obtain ⟨ys,h2,h⟩:=obs h;cases h;have e:yad G (x::ys)=fun r=>(evE G x r).bind fun t=>(yad G ys r).bind fun ts=>some (t::ts):=by funext r;rw [yad]
  rw [e];exact zh3 (S.v gd h1) (Snd.l S gd h2) (zc3 h1 es X.env)
theorem Snd.o (S:Snd G k n) (gd:Gd X c G k) {e:Option Expr} {x:Option E} (h:yf0 (trV n c) e=some x):PO X e (spO X c (evO G x)):=by
 cases e with
 | none =>
  cases h;have e:evO G none=fun _=>some none:=by funext r;rw [evO]
  rw [e];exact zkl
 | some a =>
  obtain ⟨y,h1,rfl⟩:=oms h;have e:evO G (some y)=fun r=>(evE G y r).map some:=by funext r;rw [evO]
  rw [e];exact zkk (S.v gd h1)
theorem Gd.hu (gd:Gd X c G k):X.A.units+100<cLine:=by have:=gd.room.un;omega
theorem zyf (S:Snd G k n) (gd:Gd X c G k) (h:trT (n+1) c e=some e'):Okt X c e (evE G e')/\(isBO e=true->Okw X c e (evE G e')):=by
 have tru:∀ {a:Expr} {x:E},(∀ whole,isTrue a X.env whole=(do let v <- whole;standAt a.pos;holding [v] (truthy v)))->trV n c a=some x->Okt X c a (evE G (.tru x)):=fun {a x} he h1=>by
  have e:evE G (.tru x)=fun r=>(evE G x r).bind fun t=>(yc3 t).map .bl:=by funext r;rw [evE]
  rw [e];exact zyc (S.v gd h1) he
 cases e with
 | BoolOp op vs pos =>
  have key:Okw X c (.BoolOp op vs pos) (evE G e'):=by
   cases vs with
   | nil=>cases op<;>(cases h;done)
   | cons a r =>
    cases r with
    | nil =>
     cases op with
     | And=>exact zso (S.t gd h).1
     | Or=>exact zve (S.t gd h).1
    | cons b r =>
     cases op with
     | And =>
      obtain ⟨x,h1,h⟩:=obs h;obtain ⟨y,h2,h⟩:=obs h;cases h;have e:evE G (.land x y)=fun r=>(evE G x r).bind fun t=>match t with | .bl true=>evE G y r | .bl false=>some (.bl false) | _=>none:=by funext r;rw [evE];try rfl
      rw [e];exact zur (S.t gd h1).1 ((S.t gd h2).2 rfl)
     | Or =>
      obtain ⟨x,h1,h⟩:=obs h;obtain ⟨y,h2,h⟩:=obs h;cases h;have e:evE G (.lor x y)=fun r=>(evE G x r).bind fun t=>match t with | .bl true=>some (.bl true) | .bl false=>evE G y r | _=>none:=by funext r;rw [evE];try rfl
      rw [e];exact zyb (S.t gd h1).1 ((S.t gd h2).2 rfl)
  exact ⟨key.pt,fun _=>key⟩
 | UnaryOp op a pos =>
  refine ⟨?_,fun z=>by cases z⟩;cases op with
  | Not =>
   obtain ⟨x,h1,h⟩:=obs h;cases h;have e:evE G (.lnot x)=fun r=>(evE G x r).bind fun t=>match t with | .bl b=>some (.bl (!b)) | _=>none:=by funext r;rw [evE];try rfl
   rw [e];exact zyd (S.t gd h1).1
  | _=>(cases h;done)
 | Compare a ops bs pos =>
  refine ⟨?_,fun z=>by cases z⟩
  match ops,bs,h with
  | [op],[b],h =>
   obtain ⟨o,h0,h⟩:=obs h;obtain ⟨x,h1,h⟩:=obs h;obtain ⟨y,h2,h⟩:=obs h;cases h;obtain ⟨q1,q2⟩:=zq8 (X:=X) gd.hu h0;have e:evE G (.cmp o x y)=fun r=>(evE G x r).bind fun s=>(evE G y r).bind fun t=>yay o s t:=by funext r;rw [evE]
   rw [e];exact zti q1 (S.v gd h1) (S.v gd h2) q2
  | [op,op'],[b,d],h=>(cases h;done)
  | [],_,h=>(cases h;done)
  | [_],[],h=>(cases h;done)
  | [_],_::_::_,h=>(cases h;done)
  | [_,_],[],h=>(cases h;done)
  | [_,_],[_],h=>(cases h;done)
  | [_,_],_::_::_::_,h=>(cases h;done)
  | _::_::_::_,_,h=>(cases h;done)
 | Name x pos =>refine ⟨?_,fun z=>by cases z⟩;obtain ⟨y,h1,h⟩:=obs h;cases h;exact tru (fun _=>rfl) h1
 | Call f es ks pos =>refine ⟨?_,fun z=>by cases z⟩;obtain ⟨y,h1,h⟩:=obs h;cases h;exact tru (fun _=>rfl) h1
 | Subscript a b pos =>refine ⟨?_,fun z=>by cases z⟩;obtain ⟨y,h1,h⟩:=obs h;cases h;exact tru (fun _=>rfl) h1
 | _=>(cases h;done)
theorem zyg (S:Snd G k n) {tg:Expr} {ki:Ik × List E} (gd:Gd X c G k) (h:trI (n+1) c e=some ki) (ht:ki.1.pair=true->yao tg=true):PI X tg e (spI X c fun r=>(yad G ki.2 r).bind fun xs=>items ki.1 xs):=by
 have one:∀ (x:E) (kk:Ik),(fun r=>(yad G [x] r).bind fun xs=>items kk xs)=fun r=>(evE G x r).bind fun t=>items kk [t]:=fun x kk=>by funext r;rw [yad,yad];cases evE G x r<;>rfl
 have plain:∀ {a:Expr},((trV n c a).bind fun x=>some (Ik.plain,[x]))=some ki->PI X tg a (spI X c fun r=>(yad G ki.2 r).bind fun xs=>items ki.1 xs):=fun {a} h=>by obtain ⟨x,h1,h⟩:=obs h;cases h;rw [one];exact ztg (S.v gd h1)
 have call:∀ {f:Str} {p pos:Pos} {a:Expr},trI (n+1) c (.Call (.Name f p) [a] [] pos)=some ki->PI X tg (.Call (.Name f p) [a] [] pos) (spI X c fun r=>(yad G ki.2 r).bind fun xs=>items ki.1 xs):=fun {f p pos a} h=>by
  unfold trI at h;split at h
  .rename_i hr;rw [zzn] at hr;have hf:=ua2 hr.1;subst hf;obtain ⟨x,h1,h⟩:=obs h;cases h;rw [one];exact zps gd hr.2 (S.v gd h1) (zbt h1 X.env)
  .split at h
   .rename_i hr;rw [zzn] at hr;have hf:=ua2 hr.1;subst hf;obtain ⟨x,h1,h⟩:=obs h;cases h;have htt:=ht rfl;cases tg with
    | Tuple es kx p2 =>rw [one];exact zth gd hr.2 (S.v gd h1) (zbt h1 X.env)
    | _=>cases htt
   .exact plain h
 cases e with
 | Call f args kws pos =>
  cases f with
  | Name id p =>
   match args,kws,h with
   | [a],[],h=>exact call h
   | [],kws,h=>exact plain h
   | [_],_::_,h=>exact plain h
   | [a,b],[],h =>
    replace h:(if id==("zip":Str)&&glB c.sc id then (trV n c a).bind fun x=>(trV n c b).bind fun y=>some (Ik.zip,[x,y]) else (trV n c (.Call (.Name id p) [a,b] [] pos)).bind fun x=>some (Ik.plain,[x]))=some ki:=h;split at h
    .rename_i hr;rw [zzn] at hr;obtain ⟨x,h1,g1⟩:=obs h;obtain ⟨y,h2,g2⟩:=obs g1;cases g2;have hf:=ua2 hr.1;subst hf;have htt:=ht rfl;cases tg with
     | Tuple es kx p2 =>
      have two:(fun r=>(yad G [x,y] r).bind fun xs=>items Ik.zip xs)=fun r=>(evE G x r).bind fun s=>(evE G y r).bind fun t=>items Ik.zip [s,t]:=by funext r;rw [yad,yad,yad];cases evE G x r<;>cases evE G y r<;>rfl
      show PI X _ _ (spI X c fun r=>(yad G [x,y] r).bind fun xs=>items Ik.zip xs);rw [two];exact zv6 gd hr.2 (S.v gd h1) (S.v gd h2) (by rw [zc3 h1,zbt h2]) (zbt h2 X.env)
     | _=>cases htt
    .exact plain h
   | [_,_],_::_,h=>exact plain h
   | _::_::_::_,kws,h=>exact plain h
  | _=>exact plain h
 | _=>exact plain h
end
end
section
variable {m:Nat} {fe:Env->Option T} {scope:Scope} {pos:Pos}
section
variable {G:Glo} {k n:Nat} {X:Cx} {c:Tc}
theorem zg8 {e:Expr} {ki:Ik × List E} (h:trI m c e=some ki) (env:PySem.Env):∀ x,foldedSetIterable e env x=pure x:=by
 intro x;cases e with
 | Set es k p =>
  exfalso;cases m with
  | zero=>cases h
  | succ m =>
   have h:((trV m c (.Set es k p)).bind fun x=>some (Ik.plain,[x]))=some ki:=h;cases m with
   | zero=>cases h
   | succ m=>cases h
 | _=>rfl
structure CompParts (G:Glo) (n:Nat) (c:Tc) (elt tg iter:Expr) (ifs:List Expr) (scope:Scope) (e':E) (xs:List Str) (fi:Env->Option (List T)) (fc:Env->Option Bool) (fe:Env->Option T):Prop where
 htg:zbz tg=some xs
 cs:CsB c.sc scope xs
 h2:yao tg=true->2<=xs.length
 ev:evE G e'=yce xs fi fc fe
theorem zue {r:Env}:(fun x=>(bnd m x r).bind fun r'=>((some none:Option (Option T))).bind fun c=>match c with
    | none=>(fe r').map some
    | some (.bl true)=>(fe r').map some
    | some (.bl false)=>some none
    | some _=>none)=elM m r (fun _=>some true) fe:=by
 funext x;unfold elM;cases bnd m x r<;>rfl
theorem zqn {r:Env} {f1:Env->Option T}:(fun x=>(bnd m x r).bind fun r'=>((f1 r').map some).bind fun c=>match c with
    | none=>(fe r').map some
    | some (.bl true)=>(fe r').map some
    | some (.bl false)=>some none
    | some _=>none)=elM m r (fun r'=>(f1 r').bind fun t=>match t with | .bl b=>some b | _=>none) fe:=by
 funext x;unfold elM;cases bnd m x r with
 | none=>rfl
 | some r' =>
  simp only [xbs];cases f1 r' with
  | none=>rfl
  | some t=>cases t<;>first | rfl | (rename_i b;cases b<;>rfl)
theorem zj1 {n:Nat} {c:Tc} {elt:Expr} {gens:List Comprehension} {e':E} (h:trV (n+1) c (.ListComp elt gens scope pos)=some e') :
  ∃ tg iter ifs,gens=[⟨tg,iter,ifs,0⟩]/\∃ xs ki,zbz tg=some xs/\trI n c iter=some ki/\(zct c.sc scope xs&&(!ki.1.pair||yao tg)&&(!yao tg||decide (2<=xs.length)))=true /\
   (match ifs with
   | []=>(trV n ⟨scope,xs++c.nm⟩ elt).bind fun x=>some (.comp x xs.length ki.1 ki.2 none)
   | [t]=>(trV n ⟨scope,xs++c.nm⟩ elt).bind fun x=>(trT n ⟨scope,xs++c.nm⟩ t).bind fun y=>some (.comp x xs.length ki.1 ki.2 (some y))
   | _=>none)=some e':=by
 match gens,h with
 | [⟨tg,iter,ifs,.ofNat 0⟩],h =>
  obtain ⟨xs,h0,h⟩:=obs (show ((zbz tg).bind fun xs=>(trI n c iter).bind fun ki=>if zct c.sc scope xs&&(!ki.1.pair||yao tg)&&(!yao tg||decide (2<=xs.length)) then
   (match ifs with
   | []=>(trV n ⟨scope,xs++c.nm⟩ elt).bind fun x=>some (.comp x xs.length ki.1 ki.2 none)
   | [t]=>(trV n ⟨scope,xs++c.nm⟩ elt).bind fun x=>(trT n ⟨scope,xs++c.nm⟩ t).bind fun y=>some (.comp x xs.length ki.1 ki.2 (some y))
   | _=>none) else none)=some e' from h)
  obtain ⟨ki,h1,h⟩:=obs h;split at h
  .rename_i hc;exact ⟨tg,iter,ifs,rfl,xs,ki,h0,h1,hc,h⟩
  .cases h
 | [⟨tg,iter,ifs,.ofNat (a+1)⟩],h=>cases h
 | [⟨tg,iter,ifs,.negSucc a⟩],h=>cases h
 | [],h=>cases h
 | g1::g2::gs,h =>obtain ⟨t1,i1,f1,a1⟩:=g1;rcases a1 with (_ | _) | _<;>cases h
theorem zi4 (S:Snd G k n) (gd:Gd X c G k) {elt:Expr} {gens:List Comprehension} {e':E} (h:trV (n+1) c (.ListComp elt gens scope pos)=some e') :
  Oke X c (.ListComp elt gens scope pos) (evE G e')/\∀ {y:Str} {py spos:Pos} {i:Nat},At X y i->PS X (.Assign [.Name y py] (.ListComp elt gens scope pos) spos) (yeg X c i (evE G e')):=by
 obtain ⟨tg,iter,ifs,rfl,xs,ki,h0,h1,hcs,hr⟩:=zj1 h;simp only [Bool.and_eq_true,Bool.or_eq_true,Bool.not_eq_true',decide_eq_true_eq] at hcs;have CS:=zxv hcs.1.1;have h2n:yao tg=true->2<=xs.length:=fun z=>hcs.2.elim (fun q=>by rw [q] at z;cases z) id;have hen:ki.1.pair=true->yao tg=true:=fun z=>hcs.1.2.elim (fun q=>by rw [q] at z;cases z) id;have hit:=S.i (tg:=tg) gd h1 hen;have hfs:=zg8 h1 X.env
 match ifs,hr with
 | [],hr =>
  obtain ⟨x,h3,hr⟩:=obs hr;cases hr;have he:∀ pj fp qz qy,Gd (blk X pj scope xs fp qz qy) ⟨scope,xs++c.nm⟩ G k->Oke (blk X pj scope xs fp qz qy) ⟨scope,xs++c.nm⟩ elt (evE G x):=fun pj fp qz qy g=>S.v g h3;have hi:∀ pj fp qz qy,Gd (blk X pj scope xs fp qz qy) ⟨scope,xs++c.nm⟩ G k->∀ (pn:List (Addr × Obj)) (s:Shared) (O:L2.St) (H:Hp) (Q:Bool->Hp->Prop),L2.Inv (blk X pj scope xs fp qz qy) pn O H s->spC (blk X pj scope xs fp qz qy) ⟨scope,xs++c.nm⟩ (fun _=>some true) O H Q ->
   wpAny (model X.prog X.w) X.A (forIn ([]:List Expr) true fun c r=>if r=true then do let ok <- isTrue c (blk X pj scope xs fp qz qy).env (eval c (blk X pj scope xs fp qz qy).env);pure (ForInStep.yield ok) else pure (ForInStep.yield r)) (TP (blk X pj scope xs fp qz qy) pn O Q) (fun _ _=>False) s:=fun pj fp qz qy g pn s O H Q I q=>by
   obtain ⟨r,F,b,e,hb,q⟩:=q;cases hb;exact wpAny_tests_nil ⟨H,I,q F H (Step.refl e.fh)⟩
  have e:evE G (.comp x xs.length ki.1 ki.2 none)=yce xs (fun r=>(yad G ki.2 r).bind fun xs=>items ki.1 xs) (fun _=>some true) (evE G x):=by
   funext r;rw [evE];unfold yce yak;rw [<- zue];dsimp only;cases yad G ki.2 r with
   | none=>rfl
   | some ys=>simp only [xbs,evO]
  rw [e];exact ⟨zh4 gd CS h0 h2n he hi hit hfs,fun {y py spos i} hy=>zfj gd CS h0 h2n he hi hit hfs hy⟩
 | [t],hr =>
  obtain ⟨x,h3,hr⟩:=obs hr;obtain ⟨y1,h4,hr⟩:=obs hr;cases hr;have he:∀ pj fp qz qy,Gd (blk X pj scope xs fp qz qy) ⟨scope,xs++c.nm⟩ G k->Oke (blk X pj scope xs fp qz qy) ⟨scope,xs++c.nm⟩ elt (evE G x):=fun pj fp qz qy g=>S.v g h3;have hi:∀ pj fp qz qy,Gd (blk X pj scope xs fp qz qy) ⟨scope,xs++c.nm⟩ G k->∀ (pn:List (Addr × Obj)) (s:Shared) (O:L2.St) (H:Hp) (Q:Bool->Hp->Prop),L2.Inv (blk X pj scope xs fp qz qy) pn O H s->spC (blk X pj scope xs fp qz qy) ⟨scope,xs++c.nm⟩ (fun r'=>(evE G y1 r').bind fun t=>match t with | .bl b=>some b | _=>none) O H Q ->
   wpAny (model X.prog X.w) X.A (forIn [t] true fun c r=>if r=true then do let ok <- isTrue c (blk X pj scope xs fp qz qy).env (eval c (blk X pj scope xs fp qz qy).env);pure (ForInStep.yield ok) else pure (ForInStep.yield r)) (TP (blk X pj scope xs fp qz qy) pn O Q) (fun _ _=>False) s:=fun pj fp qz qy g pn s O H Q I q=>by
   obtain ⟨r,F,b,e,hb,q⟩:=q;obtain ⟨tt,ht,hb⟩:=obs hb;cases tt with
   | bl b' =>cases hb;exact wpAny_tests_one ((S.t g h4).1 pn s O H Q I ⟨r,F,b,e,ht,q⟩)
   | _=>cases hb
  have e:evE G (.comp x xs.length ki.1 ki.2 (some y1))=yce xs (fun r=>(yad G ki.2 r).bind fun xs=>items ki.1 xs) (fun r'=>(evE G y1 r').bind fun t=>match t with | .bl b=>some b | _=>none) (evE G x):=by
   funext r;rw [evE];unfold yce yak;rw [<- zqn];dsimp only;cases yad G ki.2 r with
   | none=>rfl
   | some ys=>simp only [xbs,evO];try rfl
  rw [e];exact ⟨zh4 gd CS h0 h2n he hi hit hfs,fun {y py spos i} hy=>zfj gd CS h0 h2n he hi hit hfs hy⟩
 | _::_::_,hr=>cases hr
theorem zfr (S:Snd G k n) (gd:Gd X c G k) {f:Str} {a:Expr} {es:List Expr} {p:Pos} {xs:List E} (hg:glB c.sc f=true) (hp:zac f=true) (h:yc9 (trV n c) (a::es)=some xs):Oke X c (.Call (.Name f p) (a::es) [] pos) (evE G (.call f xs)):=by
 have e:evE G (.call f xs)=fun r=>(yad G xs r).bind fun ys=>G.call f ys:=by funext r;rw [evE]
 rw [e];obtain ⟨x,h1,h'⟩:=obs h;obtain ⟨ys,h2,_⟩:=obs h';exact ztj gd hg hp (S.l gd h) (zc3 h1 es X.env) (zi3 pos X.env h2)
theorem zuv (S:Snd G k n) {e:Expr} {e':E} (gd:Gd X c G k) (h:trV (n+1) c e=some e'):Oke X c e (evE G e'):=by
 have cst:∀ {t:T} {v:V} {a:Expr},PE X a (tC v)->(∀ F,Rep X.K F t v)->Oke X c a (evE G (.cst t)):=fun {t v a} h1 h2=>by
  have e:evE G (.cst t)=fun _=>some t:=by funext r;rw [evE]
  rw [e];exact zwh h1 h2
 cases e with
 | Constant cs q pos =>
  cases cs with
  | none=>cases (show some (E.cst .non)=some e' from h);exact cst zvu fun _=>rfl
  | bool b=>cases (show some (E.cst (.bl b))=some e' from h);exact cst zyq fun _=>rfl
  | int i=>cases (show some (E.cst (.int i))=some e' from h);exact cst zvv fun _=>rfl
  | str x=>cases (show some (E.cst (.str x))=some e' from h);exact cst zvq fun _=>rfl
  | _=>(cases h;done)
 | Name x pos =>
  replace h:(if zac x then (if ybu c.sc x then (yaj c.nm x).map E.var else if glB c.sc x&&!bnames.contains x then some (.glb x) else none) else none)=some e':=h;split at h
  .rename_i hp;split at h
   .rename_i hv;obtain ⟨i,hi,rfl⟩:=oms h;have e:evE G (.var i)=fun r=>(r[i]?).join:=by funext r;rw [evE]
    rw [e];exact zv7 gd hp hv hi
   .split at h
    .rename_i hg;cases h;rw [zzn] at hg;have e:evE G (.glb x)=fun _=>G.con x:=by funext r;rw [evE]
     rw [e];exact zwf gd hp hg.1
    .cases h
  .cases h
 | BinOp a op b pos =>
  obtain ⟨o,h0,h⟩:=obs h;obtain ⟨x,h1,h⟩:=obs h;obtain ⟨y,h2,h⟩:=obs h;cases h;have e:evE G (.bin o x y)=fun r=>(evE G x r).bind fun s=>(evE G y r).bind fun t=>ya0 o s t:=by funext r;rw [evE]
  rw [e];exact zyw (zv2 h0) (S.v gd h1) (S.v gd h2)
 | UnaryOp op a pos =>
  cases op with
  | Not =>
   obtain ⟨x,h1,h⟩:=obs h;cases h;have e:evE G (.lnot x)=fun r=>(evE G x r).bind fun t=>match t with | .bl b=>some (.bl (!b)) | _=>none:=by funext r;rw [evE];try rfl
   rw [e];exact zwa (S.v gd h1)
  | USub =>
   obtain ⟨x,h1,h⟩:=obs h;cases h;have e:evE G (.neg x)=fun r=>(evE G x r).bind fun t=>match t with | .int b=>some (.int (-b)) | _=>none:=by funext r;rw [evE];try rfl
   rw [e];exact zwb (S.v gd h1)
  | _=>(cases h;done)
 | BoolOp op vs pos =>
  cases vs with
  | nil=>cases op<;>(cases h;done)
  | cons a r =>
   cases r with
   | nil=>exact zvs (S.v gd h)
   | cons b r =>
    cases op with
    | And =>
     obtain ⟨x,h1,h⟩:=obs h;obtain ⟨y,h2,h⟩:=obs h;cases h;have e:evE G (.land x y)=fun r=>(evE G x r).bind fun t=>match t with | .bl true=>evE G y r | .bl false=>some (.bl false) | _=>none:=by funext r;rw [evE];try rfl
     rw [e];exact zwk (S.v gd h1) (S.v gd h2)
    | Or =>
     obtain ⟨x,h1,h⟩:=obs h;obtain ⟨y,h2,h⟩:=obs h;cases h;have e:evE G (.lor x y)=fun r=>(evE G x r).bind fun t=>match t with | .bl true=>some (.bl true) | .bl false=>evE G y r | _=>none:=by funext r;rw [evE];try rfl
     rw [e];exact zyv (S.v gd h1) (S.v gd h2)
 | Compare a ops bs pos =>
  match ops,bs,h with
  | [op],[b],h =>
   obtain ⟨o,h0,h⟩:=obs h;obtain ⟨x,h1,h⟩:=obs h;obtain ⟨y,h2,h⟩:=obs h;cases h;obtain ⟨q1,q2⟩:=zq8 (X:=X) gd.hu h0;have e:evE G (.cmp o x y)=fun r=>(evE G x r).bind fun s=>(evE G y r).bind fun t=>yay o s t:=by funext r;rw [evE]
   rw [e];exact zwi q1 (S.v gd h1) (S.v gd h2) q2
  | [op,op'],[b,d],h=>(cases h;done)
  | [],_,h=>(cases h;done)
  | [_],[],h=>(cases h;done)
  | [_],_::_::_,h=>(cases h;done)
  | [_,_],[],h=>(cases h;done)
  | [_,_],[_],h=>(cases h;done)
  | [_,_],_::_::_::_,h=>(cases h;done)
  | _::_::_::_,_,h=>(cases h;done)
 | Tuple es q pos =>
  obtain ⟨xs,h1,h⟩:=obs h;cases h;have e:evE G (.tup xs)=fun r=>if xs.length<=1000 then (yad G xs r).map .tup else none:=by funext r;rw [evE]
  rw [e];exact zv8 (S.l gd h1) fun r ts q=>zec q
 | List es pos =>
  obtain ⟨xs,h1,h⟩:=obs h;cases h;have e:evE G (.lst xs)=fun r=>if xs.length<=1000 then (yad G xs r).map .lst else none:=by funext r;rw [evE]
  rw [e];exact zwc (S.l gd h1) fun r ts q=>zec q
 | Subscript a b pos =>
  have idx:yco b=false->((trV n c a).bind fun x=>(trV n c b).bind fun y=>some (E.idx x y))=some e'->Oke X c (.Subscript a b pos) (evE G e'):=fun hs h=>by
   obtain ⟨x,h1,h⟩:=obs h;obtain ⟨y,h2,h⟩:=obs h;cases h;have e:evE G (.idx x y)=fun r=>(evE G x r).bind fun s=>(evE G y r).bind fun t=>yai s t:=by funext r;rw [evE]
   rw [e];exact zwe (by have:=gd.hu;omega) (S.v gd h1) (S.v gd h2) (zpi hs)
  cases b with
  | Slice lo hi st p2 =>
   cases st with
   | some st =>replace h:(none:Option E)=some e':=h;cases h
   | none =>
    obtain ⟨x,h1,h⟩:=obs h;obtain ⟨l,h2,h⟩:=obs h;obtain ⟨u,h3,h⟩:=obs h;cases h;have e:evE G (.sli x l u)=fun r=>(evE G x r).bind fun s=>(evO G l r).bind fun l1=>(evO G u r).bind fun u1=>(asI l1).bind fun l2=>(asI u1).bind fun u2=>yc6 s l2 u2:=by funext r;rw [evE]
    rw [e];exact zv9 (S.v gd h1) (S.o gd h2) (S.o gd h3)
  | Tuple _ _ _=>cases h
  | Starred _ _=>cases h
  | _=>exact idx rfl h
 | Call f args kws pos =>
  cases f with
  | Name f p =>
   match args,kws,h with
   | [],kws,h=>(cases h;done)
   | [a],[],h =>
    replace h:(if glB c.sc f&&zac f then (match yfl f with
  | some k=>(trV n c a).bind fun x=>some (.blt k x)
  | none=>if bnames.contains f then none else (trV n c a).bind fun x=>some (.call f [x])) else none)=some e':=h
    split at h
    .rename_i hg;rw [zzn] at hg;split at h
     .rename_i kb hk;obtain ⟨x,h1,h⟩:=obs h;cases h;have e:evE G (.blt kb x)=fun r=>(evE G x r).bind fun t=>ya6 kb t:=by funext r;rw [evE]
      rw [e];exact zyx gd hk hg.1 (S.v gd h1) (zbt h1 X.env)
     .split at h
      .cases h
      .obtain ⟨x,h1,h⟩:=obs h;cases h;exact zfr S gd hg.1 hg.2 (by show (trV n c a).bind _=_;rw [h1];rfl)
    .cases h
   | [a,b],[],h =>
    replace h:(if f==("isinstance":Str) then
   (match b with
   | .Name ty _=>if glB c.sc f&&glB c.sc ty then (ye3 ty).bind fun k=>(trV n c a).bind fun x=>some (.isi x k) else none
   | _=>none)
  else if glB c.sc f&&zac f&&!bnames.contains f then (yc9 (trV n c) [a,b]).bind fun xs=>some (.call f xs) else none)=some e':=h
    split at h
    .rename_i hf;have hf:=ua2 hf;subst hf;cases b with
     | Name ty p2 =>
      simp only at h;split at h
      .rename_i hg;rw [zzn] at hg;obtain ⟨kt,hk,h⟩:=obs h;obtain ⟨x,h1,h⟩:=obs h;cases h;have e:evE G (.isi x kt)=fun r=>(evE G x r).bind fun t=>some (.bl (yer t kt)):=by funext r;rw [evE]
       rw [e];exact zwd gd hk hg.1 hg.2 (S.v gd h1) (zc3 h1 _ X.env)
      .cases h
     | _=>cases h
    .split at h
     .rename_i hg;simp only [Bool.and_eq_true] at hg;obtain ⟨xs,h1,h⟩:=obs h;cases h;exact zfr S gd hg.1.1 hg.1.2 h1
     .cases h
   | a::b::d::es,[],h =>
    replace h:(if glB c.sc f&&zac f&&!bnames.contains f then (yc9 (trV n c) (a::b::d::es)).bind fun xs=>some (.call f xs) else none)=some e':=h;split at h
    .rename_i hg;simp only [Bool.and_eq_true] at hg;obtain ⟨xs,h1,h⟩:=obs h;cases h;exact zfr S gd hg.1.1 hg.1.2 h1
    .cases h
   | _::bs,_::_,h=>rcases bs with _ | ⟨_,_ | ⟨_,_⟩⟩<;>cases h
  | Attribute o m apos =>
   match args,kws,h with
   | [a],[],h =>
    replace h:(if apos.endLine==pos.line then (trV n c o).bind fun x=>(trV n c a).bind fun y=>(if m==("get":Str) then some (.dg1 x y) else (ygc m).bind fun k=>some (.mth k x y)) else none)=some e':=h;split at h
    .rename_i hl;obtain ⟨x,h1,h⟩:=obs h;obtain ⟨y,h2,h⟩:=obs h;split at h
     .rename_i hm;cases h;have hm:=ua2 hm;subst hm;have e:evE G (.dg1 x y)=fun r=>(evE G x r).bind fun s=>(evE G y r).bind fun t=>yfk s t:=by funext r;rw [evE]
      have hst:=zbt h2 X.env;rw [e];exact zwg (by have:=gd.hu;omega) (S.v gd h1) (S.v gd h2) ⟨zn7 h1 _ _ _,by rw [hst];rfl,hl,by rw [hst];rfl⟩
     .obtain ⟨km,hm,h⟩:=obs h;cases h;unfold ygc at hm;split at hm
      .rename_i hj;have hj:=ua2 hj;subst hj;cases hm;have e:evE G (.mth .index x y)=fun r=>(evE G x r).bind fun s=>(evE G y r).bind fun t=>yd8 .index s t:=by funext r;rw [evE]
       rw [e];exact zpt (S.v gd h1) (S.v gd h2) (zn7 h1 _ _ _) (zbt h2 X.env) hl
      .cases hm
    .cases h
   | [],_,h=>(cases h;done)
   | [_],_::_,h=>(cases h;done)
   | [a,b],[],h=>(cases h;done)
   | [_,_],_::_,h=>cases h
   | _::_::_::_,_,h=>cases h
  | _=>(cases h;done)
 | ListComp elt gens scope pos=>exact (zi4 S gd h).1
 | _=>(cases h;done)
end
theorem zb6 (G:Glo) (k:Nat):∀ n,Snd G k n
 | 0=>⟨fun _ h=>(by cases h),fun _ h=>(by cases h),fun _ h=>(by cases h)⟩
 | n+1 =>
  have S:=zb6 G k n
  ⟨fun gd h=>zuv S gd h,fun gd h=>zyf S gd h,fun gd h ht=>zyg S gd h ht⟩
end
section
variable {s:Sl} {o:HO}
def Sl.isOwn:Sl->Bool
 | .own _=>true
 | .dk _=>true
 | .dt _=>true
 | _=>false
def Own (K:W.Frag) (F:Hp):Sl->HO->Prop
 | .own ts,o=>∃ vs,o=.lst vs/\Reps K F ts vs
 | .dk qb,o=>∃ ws:List (Key × V),o=.dK ws/\ws.map (·.1)=qb.map (·.1)/\Reps K F (qb.map (·.2)) (ws.map (·.2))
 | .dt qb,o=>∃ ws:List (List Key × V),o=.dT ws/\ws.map (·.1)=qb.map (·.1)/\Reps K F (qb.map (·.2)) (ws.map (·.2))
 | _,_=>False
theorem Own.mono {K:W.Frag} {F F':Hp} {s:Sl} {o:HO} (e:Same F F') (h:Own K F s o):Own K F' s o:=by
 cases s with
 | own ts=>obtain ⟨vs,h1,h2⟩:=h;exact ⟨vs,h1,h2.mono e⟩
 | dk qb=>obtain ⟨ws,h1,h2,h3⟩:=h;exact ⟨ws,h1,h2,h3.mono e⟩
 | dt qb=>obtain ⟨ws,h1,h2,h3⟩:=h;exact ⟨ws,h1,h2,h3.mono e⟩
 | _=>exact h
theorem Own.noTup {K:W.Frag} {F:Hp} {xs:List V} (h:Own K F s o):o≠.tup xs:=by
 cases s with
 | own ts=>obtain ⟨vs,rfl,_⟩:=h;exact fun z=>nomatch z
 | dk qb=>obtain ⟨ws,rfl,_⟩:=h;exact fun z=>nomatch z
 | dt qb=>obtain ⟨ws,rfl,_⟩:=h;exact fun z=>nomatch z
 | _=>exact h.elim
theorem Own.noTbl {K:W.Frag} {F:Hp} (h:Own K F s o):ydg o=false:=by
 cases s with
 | own ts=>obtain ⟨vs,rfl,_⟩:=h;rfl
 | dk qb=>obtain ⟨ws,rfl,_⟩:=h;rfl
 | dt qb=>obtain ⟨ws,rfl,_⟩:=h;rfl
 | _=>exact h.elim
theorem Own.noFrz {K:W.Frag} {F:Hp} (h:Own K F s o):∀ p u,o≠.frz p u:=by
 cases s with
 | own ts=>obtain ⟨vs,rfl,_⟩:=h;exact fun _ _ z=>nomatch z
 | dk qb=>obtain ⟨ws,rfl,_⟩:=h;exact fun _ _ z=>nomatch z
 | dt qb=>obtain ⟨ws,rfl,_⟩:=h;exact fun _ _ z=>nomatch z
 | _=>exact h.elim
theorem Own.frz {K:W.Frag} {F:Hp} {s:Sl} {o:HO} {a:Addr} (h:Own K F s o) (ha:F a=some o):∃ t,s.frz=.val t/\Rep K F t (.ref a):=by
 cases s with
 | own ts=>obtain ⟨vs,rfl,h2⟩:=h;exact ⟨_,rfl,a,vs,rfl,Ls.of ha,h2⟩
 | dk qb=>obtain ⟨ws,rfl,h2,h3⟩:=h;exact ⟨_,rfl,a,ws,rfl,ha,h2,h3⟩
 | dt qb=>obtain ⟨ws,rfl,h2,h3⟩:=h;exact ⟨_,rfl,a,ws,rfl,ha,h2,h3⟩
 | _=>exact h.elim
theorem Own.noDl {K:W.Frag} {F:Hp} (h:Own K F s o):s.isDl=false:=by
 cases s with
 | dl qb=>exact h.elim
 | _=>rfl
abbrev DRep (K:W.Frag) (F H:Hp):List (List Kt × List T)->List (List Key × V)->Prop:=Paired fun p q=>q.1=p.1/\∃ b vs,q.2=.ref b/\H b=some (.lst vs)/\Reps K F p.2 vs
abbrev ych (a:Addr) (ws:List (List Key × V)):List V:=V.ref a::ws.map (·.2)
theorem DRep.mem {K:W.Frag} {F H:Hp} {qb:List (List Kt × List T)} {ws:List (List Key × V)} (r:DRep K F H qb ws) {v:V} (hv:v∈ws.map (·.2)):∃ b vs,v=.ref b/\H b=some (.lst vs):=by
 induction r with
 | nil=>cases hv
 | cons h t ih =>
  rcases omc hv with e | hv
  .obtain ⟨_,b,vs,h1,h2,_⟩:=h;exact ⟨b,vs,e.trans h1,h2⟩
  .exact ih hv
theorem DRep.up {K:W.Frag} {F H F' H':Hp} (hs:Same F F') {qb:List (List Kt × List T)} {ws:List (List Key × V)} (r:DRep K F H qb ws):(∀ b,V.ref b∈ws.map (·.2)->H' b=H b)->DRep K F' H' qb ws:=by
 induction r with
 | nil=>exact fun _=>.nil
 | cons h t ih=>intro k;obtain ⟨h0,b,vs,h1,h2,h3⟩:=h;exact .cons ⟨h0,b,vs,h1,(k b (by rw [<- h1];exact zzt)).trans h2,h3.mono hs⟩ (ih fun b hb=>k b (zzq _ hb))
structure DlAt (K:W.Frag) (F H H0:Hp) (U:List Sl) (O:L2.St) (i:Nat) (qb:List (List Kt × List T)) (a:Addr) (ws:List (List Key × V)):Prop where
 ix:O[i]?=some (some (.ref a))
 obj:H a=some (.dT ws)
 rep:DRep K F H qb ws
 nd:(ych a ws).Nodup
 kn:(ws.map (·.1)).Nodup
 fr:∀ b,V.ref b∈ych a ws->F b=none/\H0 b=none/\∀ (j:Nat) (s:Sl),U[j]?=some s->s.isOwn=true->O[j]?≠some (some (.ref b))
 one:∀ (j:Nat) (s:Sl),U[j]?=some s->s.isDl=true->j=i
section
variable {K:W.Frag} {F H H0 F' H':Hp} {U U':List Sl} {O O':L2.St} {i:Nat} {qb:List (List Kt × List T)} {a:Addr} {ws:List (List Key × V)}
theorem DlAt.some' (d:DlAt K F H H0 U O i qb a ws) {b:Addr} (hb:V.ref b∈ych a ws):∃ o,H b=some o/\ydg o=false/\(∀ xs,o≠.tup xs)/\∀ p u,o≠.frz p u:=by
 rcases omc hb with e | hb
 .cases e;exact ⟨_,d.obj,rfl,(fun _ z=>nomatch z),fun _ _ z=>nomatch z⟩
 .obtain ⟨b',vs,e,h⟩:=d.rep.mem hb;cases e;exact ⟨_,h,rfl,(fun _ z=>nomatch z),fun _ _ z=>nomatch z⟩
theorem DlAt.up (d:DlAt K F H H0 U O i qb a ws) (h1:O'[i]?=O[i]?) (hs:Same F F') (hh:∀ b,V.ref b∈ych a ws->H' b=H b) (hf:∀ b,V.ref b∈ych a ws->F' b=none)
  (ho:∀ b,V.ref b∈ych a ws->∀ (j:Nat) (s:Sl),U'[j]?=some s->s.isOwn=true->O'[j]?≠some (some (.ref b))) (ho':∀ (j:Nat) (s:Sl),U'[j]?=some s->s.isDl=true->j=i):DlAt K F' H' H0 U' O' i qb a ws :=
 ⟨h1.trans d.ix,(hh a zzt).trans d.obj,d.rep.up hs fun b hb=>hh b (zzq _ hb),d.nd,d.kn,fun b hb=>⟨hf b hb,(d.fr b hb).2.1,ho b hb⟩,ho'⟩
end
structure EnvS (X:Cx) (F0 H0:Hp) (U:List Sl) (O:L2.St) (F H:Hp):Prop where
 st:Step F0 H0 F H
 t0:Tbk X.K F0 H0
 len:U.length=O.length
 val:∀ (i:Nat) (t:T),U[i]?=some (.val t)->∃ v,O[i]?=some (some v)/\Rep X.K F t v
 ownG:∀ (i:Nat) (s:Sl),U[i]?=some s->s.isOwn=true->∃ a o,O[i]?=some (some (.ref a))/\H a=some o/\F a=none/\H0 a=none/\Own X.K F s o
 disG:∀ (i j:Nat) (s u:Sl) (a:Addr),i≠j->U[i]?=some s->U[j]?=some u->s.isOwn=true->u.isOwn=true->O[i]?=some (some (.ref a))->O[j]?≠some (some (.ref a))
 dl:∀ (i:Nat) (qb:List (List Kt × List T)),U[i]?=some (.dl qb)->∃ a ws,DlAt X.K F H H0 U O i qb a ws
section
variable {X:Cx} {c:Tc} {F0 H0:Hp} {U:List Sl} {O:L2.St} {F H F' H':Hp}
theorem EnvS.own (e:EnvS X F0 H0 U O F H) (i:Nat) (ts:List T) (h:U[i]?=some (.own ts)):∃ a vs,O[i]?=some (some (.ref a))/\H a=some (.lst vs)/\F a=none/\H0 a=none/\Reps X.K F ts vs:=by obtain ⟨a,o,h1,h2,h3,h4,vs,rfl,h5⟩:=e.ownG i _ h rfl;exact ⟨a,vs,h1,h2,h3,h4,h5⟩
theorem EnvS.env (e:EnvS X F0 H0 U O F H) (hN:X.N=c.nm):EnvE X c (ygl U) F O H :=
 ⟨e.st.fh,e.t0.up e.st,fun x i t _ hi _ hr=>by
  unfold ygl at hr;rw [zAb] at hr;obtain ⟨s,hs,hg⟩:=oms hr;cases s with
  | val u =>cases hg;obtain ⟨v,h1,h2⟩:=e.val i t hs;exact ⟨i,v,by rw [hN];exact za5 hi,h1,h2⟩
  | _=>cases hg⟩
theorem Step.off {F H F' H':Hp} {a:Addr} (s:Step F H F' H') (h3:F a=none) (h2:H a=some o) (ht:∀ xs,o≠.tup xs):F' a=none:=by
 cases q:F' a with
 | none=>rfl
 | some o' =>
  rcases s.nw a (by rw [q];simp) with z | z | ⟨xs,z⟩
  .exact absurd h3 z
  .rw [h2] at z;cases z
  .rw [h2] at z;exact absurd (zz2 z) (ht xs)
theorem EnvS.step (e:EnvS X F0 H0 U O F H) (s:Step F H F' H'):EnvS X F0 H0 U O F' H':=by
 refine ⟨e.st.trans s,e.t0,e.len,fun i t h=>let ⟨v,h1,h2⟩:=e.val i t h;⟨v,h1,h2.mono s.ff⟩,fun i sl h ho=>?_,e.disG,fun i qb h=>?_⟩
 .obtain ⟨a,o,h1,h2,h3,h4,h5⟩:=e.ownG i sl h ho;exact ⟨a,o,h1,s.hh.st a _ h2 h5.noTbl,s.off h3 h2 fun xs=>h5.noTup,h4,h5.mono s.ff⟩
 .obtain ⟨a,ws,d⟩:=e.dl i qb h;refine ⟨a,ws,d.up rfl s.ff (fun b hb=>?_) (fun b hb=>?_) (fun b hb=>(d.fr b hb).2.2) d.one⟩
  .obtain ⟨o,h1,h2,_⟩:=d.some' hb;rw [s.hh.st b o h1 h2,h1]
  .obtain ⟨o,h1,h2,h3,_⟩:=d.some' hb;exact s.off (d.fr b hb).1 h1 h3
theorem znc (U:List Sl) (i j:Nat):(U.modify i Sl.frz)[j]?=if i=j then (U[j]?).map Sl.frz else U[j]?:=by
 rw [List.getElem?_modify];by_cases h:i=j
 .simp only [h,if_true];cases U[j]?<;>rfl
 .simp only [h,if_false];cases U[j]?<;>rfl
theorem EnvS.frz1 (e:EnvS X F0 H0 U O F H) (i:Nat):∃ F',EnvS X F0 H0 (U.modify i Sl.frz) O F' H/\Same F F':=by
 by_cases ho:∃ s,U[i]?=some s/\s.isOwn=true
 .obtain ⟨sl,ho,hw⟩:=ho;obtain ⟨a,ob,h1,h2,h3,h4,h5⟩:=e.ownG i sl ho hw;have hs:Same F (upd F a ob):=zbi h3;obtain ⟨t0,ef,r0⟩:=(h5.mono hs).frz (a:=a) zah;have get:∀ (j:Nat) (s:Sl),(U.modify i Sl.frz)[j]?=some s->(j=i/\s=.val t0)\/(j≠i/\U[j]?=some s):=fun j s h=>by
   rw [znc] at h;by_cases hj:i=j
   .subst hj;rw [if_pos rfl,ho] at h;rw [<- ef];exact .inl ⟨rfl,(zz2 h).symm⟩
   .rw [if_neg hj] at h;exact .inr ⟨Ne.symm hj,h⟩
  refine ⟨upd F a ob,⟨⟨e.st.hh,e.st.ff.trans hs,fun b o q=>?_,fun b z=>?_⟩,e.t0,by rw [List.length_modify];exact e.len,fun j t h=>?_,fun j u h hu=>?_,fun j l u w b hjl hj hl hu hw'=>?_,fun j qb h=>?_⟩,hs⟩
  .by_cases hb:b=a
   .subst hb;rw [zah] at q;cases q;exact h2
   .rw [zad hb] at q;exact e.st.fh b o q
  .by_cases hb:b=a
   .subst hb;exact .inr (.inl h4)
   .rw [zad hb] at z;exact e.st.nw b z
  .rcases get j _ h with ⟨rfl,q⟩ | ⟨_,q⟩
   .cases q;exact ⟨.ref a,h1,r0⟩
   .obtain ⟨v,q1,q2⟩:=e.val j t q;exact ⟨v,q1,q2.mono hs⟩
  .rcases get j _ h with ⟨rfl,q⟩ | ⟨hj,q⟩
   .subst q;cases hu
   .obtain ⟨b,o,q1,q2,q3,q4,q5⟩:=e.ownG j u q hu;have hne:b≠a:=fun z=>by subst z;exact e.disG i j sl u b (Ne.symm hj) ho q hw hu h1 q1
    exact ⟨b,o,q1,q2,by rw [zad hne];exact q3,q4,q5.mono hs⟩
  .rcases get j _ hj with ⟨_,q⟩ | ⟨_,q⟩
   .subst q;cases hu
   .rcases get l _ hl with ⟨_,q'⟩ | ⟨_,q'⟩
    .subst q';cases hw'
    .exact e.disG j l u w b hjl q q' hu hw'
  .rcases get j _ h with ⟨_,q⟩ | ⟨hj,q⟩
   .cases q
   .obtain ⟨a',ws,d⟩:=e.dl j qb q;have hne:∀ b,V.ref b∈ych a' ws->b≠a:=fun b hb z=>by subst z;exact (d.fr b hb).2.2 i sl ho hw h1
    refine ⟨a',ws,d.up rfl hs (fun b hb=>rfl) (fun b hb=>by rw [zad (hne b hb)];exact (d.fr b hb).1) (fun b hb l u hl hu=>?_) fun l u hl hu=>?_⟩
    .rcases get l _ hl with ⟨_,q'⟩ | ⟨_,q'⟩
     .subst q';cases hu
     .exact (d.fr b hb).2.2 l u q' hu
    .rcases get l _ hl with ⟨_,q'⟩ | ⟨_,q'⟩
     .subst q';cases hu
     .exact d.one l u q' hu
 .refine ⟨F,?_,Same.refl F⟩;have:U.modify i Sl.frz=U:=by
   apply List.ext_getElem?;intro j;rw [znc];by_cases hj:i=j
   .subst hj;rw [if_pos rfl];cases q:U[i]? with
    | none=>rfl
    | some s =>
     cases s with
     | own ts=>exact absurd ⟨_,q,rfl⟩ ho
     | dk ts=>exact absurd ⟨_,q,rfl⟩ ho
     | dt ts=>exact absurd ⟨_,q,rfl⟩ ho
     | _=>rfl
   .rw [if_neg hj]
  rw [this];exact e
theorem EnvS.frz:∀ (is:List Nat) {U:List Sl} {F:Hp},EnvS X F0 H0 U O F H->∃ F',EnvS X F0 H0 (yae is U) O F' H/\Same F F'
 | [],_,F,e=>⟨F,e,Same.refl F⟩
 | i::is,U,F,e=>by obtain ⟨F1,e1,s1⟩:=e.frz1 i;obtain ⟨F2,e2,s2⟩:=EnvS.frz is e1;exact ⟨F2,e2,s1.trans s2⟩
theorem yag {α:Type} {l:List α} {i j:Nat} {x y:α} (h:(l.set i x)[j]?=some y):(j=i/\y=x)\/(j≠i/\l[j]?=some y):=by
 rw [List.getElem?_set] at h;split at h
 .rename_i hj;split at h
  .cases h;exact .inl ⟨hj.symm,rfl⟩
  .cases h
 .rename_i hj;exact .inr ⟨Ne.symm hj,h⟩
theorem EnvS.setV1 (e:EnvS X F0 H0 U O F H) (i:Nat) {t:T} {v:V} (r:Rep X.K F t v):EnvS X F0 H0 (U.set i (.val t)) (O.set i (some v)) F H:=by
 refine ⟨e.st,e.t0,by rw [ub1,ub1];exact e.len,fun j u h=>?_,fun j u h hu=>?_,fun j l u w b hjl hj hl hu hw=>?_,fun j qb h=>?_⟩
 .rcases yag h with ⟨rfl,q⟩ | ⟨hj,q⟩
  .cases q;refine ⟨v,?_,r⟩;have hlt:j<(U.set j (.val t)).length:=(ome h).1;rw [ub1,e.len] at hlt;rw [ua4 hlt]
  .obtain ⟨w,q1,q2⟩:=e.val j u q;exact ⟨w,by rw [zAa (Ne.symm hj)];exact q1,q2⟩
 .rcases yag h with ⟨rfl,q⟩ | ⟨hj,q⟩
  .subst q;cases hu
  .obtain ⟨a,o,q1,q2⟩:=e.ownG j u q hu;exact ⟨a,o,by rw [zAa (Ne.symm hj)];exact q1,q2⟩
 .rcases yag hj with ⟨_,q⟩ | ⟨hji,q⟩
  .subst q;cases hu
  .rcases yag hl with ⟨_,q'⟩ | ⟨hli,q'⟩
   .subst q';cases hw
   .rw [zAa (Ne.symm hji),zAa (Ne.symm hli)];exact e.disG j l u w b hjl q q' hu hw
 .rcases yag h with ⟨_,q⟩ | ⟨hj,q⟩
  .cases q
  .obtain ⟨a',ws,d⟩:=e.dl j qb q;refine ⟨a',ws,d.up (zAa (Ne.symm hj)) (Same.refl F) (fun b hb=>rfl) (fun b hb=>(d.fr b hb).1) (fun b hb l u hl hu=>?_) fun l u hl hu=>?_⟩
   .rcases yag hl with ⟨_,q'⟩ | ⟨hli,q'⟩
    .subst q';cases hu
    .rw [zAa (Ne.symm hli)];exact (d.fr b hb).2.2 l u q' hu
   .rcases yag hl with ⟨_,q'⟩ | ⟨hli,q'⟩
    .subst q';cases hu
    .exact d.one l u q' hu
theorem EnvS.setG (e:EnvS X F0 H0 U O F H) (i:Nat) {p:Addr} (hp:H p=none) (r:Own X.K F s o):EnvS X F0 H0 (U.set i s) (O.set i (some (.ref p))) F (upd H p o):=by
 have hs:Same H (upd H p o):=zbi hp;have nop:∀ {j:Nat} {u:Sl} {a:Addr},U[j]?=some u->u.isOwn=true->O[j]?=some (some (.ref a))->a≠p:=fun {j u a} q hu q1=>by obtain ⟨a',o',g1,g2,_⟩:=e.ownG j u q hu;rw [q1] at g1;cases g1;exact zae g2 hp
 refine ⟨e.st.newH hp,e.t0,by rw [ub1,ub1];exact e.len,fun j u h=>?_,fun j u h hu=>?_,fun j l u w b hjl hj hl hu hw=>?_,fun j qb h=>?_⟩
 .rcases yag h with ⟨_,q⟩ | ⟨hj,q⟩
  .subst q;exact r.elim
  .obtain ⟨w,q1,q2⟩:=e.val j u q;exact ⟨w,by rw [zAa (Ne.symm hj)];exact q1,q2⟩
 .rcases yag h with ⟨rfl,q⟩ | ⟨hj,q⟩
  .subst q;have hlt:j<(U.set j u).length:=(ome h).1;rw [ub1,e.len] at hlt;exact ⟨p,o,by rw [ua4 hlt],zah,e.st.fh.free hp,e.st.hh.free hp,r⟩
  .obtain ⟨a,o',q1,q2,q3⟩:=e.ownG j u q hu;exact ⟨a,o',by rw [zAa (Ne.symm hj)];exact q1,hs a _ q2,q3⟩
 .intro hb hb';rcases yag hj with ⟨rfl,q⟩ | ⟨hji,q⟩
  .rcases yag hl with ⟨rfl,q'⟩ | ⟨hli,q'⟩
   .exact hjl rfl
   .rw [zAa (Ne.symm hli)] at hb';have hlt:j<O.length:=by have:=(ome hj).1;rw [ub1,e.len] at this;exact this
    rw [ua4 hlt] at hb;cases hb;exact nop q' hw hb' rfl
  .rw [zAa (Ne.symm hji)] at hb;rcases yag hl with ⟨rfl,q'⟩ | ⟨hli,q'⟩
   .have hlt:l<O.length:=by have:=(ome hl).1;rw [ub1,e.len] at this;exact this
    rw [ua4 hlt] at hb';cases hb';exact nop q hu hb rfl
   .rw [zAa (Ne.symm hli)] at hb';exact e.disG j l u w b hjl q q' hu hw hb hb'
 .rcases yag h with ⟨_,q⟩ | ⟨hj,q⟩
  .subst q;exact r.elim
  .obtain ⟨a',ws,d⟩:=e.dl j qb q;have hne:∀ b,V.ref b∈ych a' ws->b≠p:=fun b hb=>let ⟨o,h1,_⟩:=d.some' hb;zae h1 hp
   refine ⟨a',ws,d.up (zAa (Ne.symm hj)) (Same.refl F) (fun b hb=>by rw [zad (hne b hb)]) (fun b hb=>(d.fr b hb).1) (fun b hb l u hl hu z=>?_) fun l u hl hu=>?_⟩
   .rcases yag hl with ⟨rfl,q'⟩ | ⟨hli,q'⟩
    .have hlt:l<O.length:=by have:=(ome hl).1;rw [ub1,e.len] at this;exact this
     rw [ua4 hlt] at z;cases z;exact hne _ hb rfl
    .rw [zAa (Ne.symm hli)] at z;exact (d.fr b hb).2.2 l u q' hu z
   .rcases yag hl with ⟨_,q'⟩ | ⟨hli,q'⟩
    .subst q';rw [r.noDl] at hu;cases hu
    .exact d.one l u q' hu
theorem EnvS.setO (e:EnvS X F0 H0 U O F H) (i:Nat) {ts:List T} {p:Addr} {vs:List V} (hp:H p=none) (r:Reps X.K F ts vs):EnvS X F0 H0 (U.set i (.own ts)) (O.set i (some (.ref p))) F (upd H p (.lst vs)):=e.setG i hp ⟨vs,rfl,r⟩
theorem EnvS.growG (e:EnvS X F0 H0 U O F H) {i:Nat} {s':Sl} {a:Addr} (ho:U[i]?=some s) (hs:s.isOwn=true) (ha:O[i]?=some (some (.ref a))) (h3:F a=none) (h4:H0 a=none) (r:Own X.K F s' o):EnvS X F0 H0 (U.set i s') O F (upd H a o):=by
 refine ⟨⟨(by obtain ⟨a2,o2,g1,g2,_,_,g5⟩:=e.ownG i s ho hs;rw [ha] at g1;cases g1;exact e.st.hh.upd h4 g2 g5.noTbl g5.noFrz),e.st.ff,fun b u q=>by rw [zad (zae q h3)];exact e.st.fh b u q,e.st.nw⟩,e.t0,by rw [ub1];exact e.len,fun j u h=>?_,fun j w h hw=>?_,fun j l w z b hjl hj hl hw hz=>?_,fun j qb h=>?_⟩
 .rcases yag h with ⟨_,q⟩ | ⟨hj,q⟩
  .subst q;exact r.elim
  .exact e.val j u q
 .rcases yag h with ⟨rfl,q⟩ | ⟨hj,q⟩
  .subst q;exact ⟨a,o,ha,zah,h3,h4,r⟩
  .obtain ⟨b,z,q1,q2,q3,q4,q5⟩:=e.ownG j w q hw;have hne:b≠a:=fun z=>by subst z;exact e.disG i j s w b (Ne.symm hj) ho q hs hw ha q1
   exact ⟨b,z,q1,by rw [zad hne];exact q2,q3,q4,q5⟩
 .rcases yag hj with ⟨rfl,q⟩ | ⟨hji,q⟩
  .rcases yag hl with ⟨rfl,q'⟩ | ⟨hli,q'⟩
   .exact absurd rfl hjl
   .exact e.disG j l s z b hjl ho q' hs hz
  .rcases yag hl with ⟨rfl,q'⟩ | ⟨hli,q'⟩
   .exact e.disG j l w s b hjl q ho hw hs
   .exact e.disG j l w z b hjl q q' hw hz
 .rcases yag h with ⟨_,q⟩ | ⟨hj,q⟩
  .subst q;exact r.elim
  .obtain ⟨a',ws,d⟩:=e.dl j qb q;refine ⟨a',ws,d.up rfl (Same.refl F) (fun b hb=>zad fun z=>by subst z;exact (d.fr b hb).2.2 i s ho hs ha) (fun b hb=>(d.fr b hb).1) (fun b hb l u hl hu=>?_) fun l u hl hu=>?_⟩
   .rcases yag hl with ⟨rfl,q'⟩ | ⟨hli,q'⟩
    .exact (d.fr b hb).2.2 l s ho hs
    .exact (d.fr b hb).2.2 l u q' hu
   .rcases yag hl with ⟨_,q'⟩ | ⟨hli,q'⟩
    .subst q';rw [r.noDl] at hu;cases hu
    .exact d.one l u q' hu
theorem EnvS.grow (e:EnvS X F0 H0 U O F H) {i:Nat} {ts us:List T} {a:Addr} {vs:List V} (ho:U[i]?=some (.own ts)) (ha:O[i]?=some (some (.ref a))) (h3:F a=none) (h4:H0 a=none) (r:Reps X.K F us vs):EnvS X F0 H0 (U.set i (.own us)) O F (upd H a (.lst vs)):=e.growG ho rfl ha h3 h4 ⟨vs,rfl,r⟩
theorem EnvS.setAll (hN:X.N=c.nm):∀ {is:List Nat} {us:List T} {vs:List V} {U U':List Sl} {O:L2.St},EnvS X F0 H0 U O F H->Reps X.K F us vs->setAll is us U=some U'->EnvS X F0 H0 U' (yem is vs O) F H/\vs.length=is.length
 | [],[],_,U,U',O,e,r,h=>by cases r;cases h;exact ⟨e,rfl⟩
 | [],_::_,_,_,_,_,_,_,h=>by cases h
 | _::_,[],_,_,_,_,_,_,h=>by cases h
 | i::is,u::us,vs,U,U',O,e,r,h=>by obtain ⟨v,ws,rfl,r1,r2⟩:=r;obtain ⟨q1,q2⟩:=EnvS.setAll hN (is:=is) (e.setV1 i r1) r2 h;exact ⟨q1,by simp [q2]⟩
end
def wantO (X:Cx) (F0 H0 F:Hp) (D:Ends):Out->Prop
 | .nx U'=>∀ O' F' H',EnvS X F0 H0 U' O' F' H'->Same F F'->D.nx O' H'
 | .rt t=>∀ v F' H',Step F0 H0 F' H'->Rep X.K F' t v->D.rt v H'
def spS (X:Cx) (F0 H0:Hp) (f:List Sl->Option Out):TS:=fun D O H=>∃ U F o,EnvS X F0 H0 U O F H/\f U=some o/\wantO X F0 H0 F D o
theorem wantO.up {X:Cx} {F0 H0 F F':Hp} {D:Ends} {o:Out} (s:Same F F') (h:wantO X F0 H0 F D o):wantO X F0 H0 F' D o:=by
 cases o with
 | nx U=>exact fun O' G' H' e s'=>h O' G' H' e (s.trans s')
 | rt t=>exact h
end
section
structure Fx (X:Cx) (c:Tc):Prop where
 hN:X.N=c.nm
 loc:∀ x,(c.sc.names.lookup x=some .local\/c.sc.names.lookup x=some .cell)->Loc X.env.scope x
 fn:∀ x,X.fn x=true
 xe:X.xe=fun _ _=>False
section
variable {X:Cx} {c:Tc} {G:Glo} {k n:Nat} {F0 H0:Hp}
theorem Fx.at (fx:Fx X c) {x:Str} {i:Nat} (hl:c.sc.names.lookup x=some .local\/c.sc.names.lookup x=some .cell) (hi:yaj c.nm x=some i):At X x i:=⟨by rw [fx.hN];exact za5 hi,fx.loc x hl,.inl (fx.fn x)⟩
theorem Fx.ats (fx:Fx X c):∀ {xs:List Str} {is:List Nat},(xs.all fun x=>zac x&&(c.sc.names.lookup x==some .local||c.sc.names.lookup x==some .cell))=true->yc9 (yaj c.nm) xs=some is->Ats X xs is
 | [],_,_,h=>by cases h;exact .nil
 | x::xs,is,hl,h=>by rw [List.all_cons,zzn] at hl;obtain ⟨i,h1,h⟩:=obs h;obtain ⟨js,h2,h⟩:=obs h;cases h;have q:=hl.1;simp only [Bool.and_eq_true,Bool.or_eq_true,beq_iff_eq] at q;exact .cons (fx.at q.2 h1) (fx.ats hl.2 h2)
theorem zht {e:Expr} {e':E} (h:trV n c e=some e') (hl:∀ a b s p,e≠.ListComp a b s p) (t:Option Expr) (l:Nat) (env:PySem.Env):swapsWith e t l env=pure false:=by
 cases n with
 | zero=>cases h
 | succ n =>
  cases e with
  | ListComp a b s p=>exact absurd rfl (hl a b s p)
  | SetComp _ _ _ _=>cases h
  | DictComp _ _ _ _ _=>cases h
  | _=>rfl
theorem zko:MtM X "list.extend" (fun x vs H Q=>∃ l b xs zs,x=.ref l/\vs=[.ref b]/\H l=some (.lst xs)/\Ls X.K H b zs/\xs.length+zs.length<=sizeLine/\Q .non (upd H l (.lst (xs++zs)))):=by
 intro pj s O H x vs v us Q I rx rv h;obtain ⟨l,b,xs,zs,rfl,rfl,hH,hB,hz,q⟩:=h;cases rx;obtain ⟨u,rfl,ru⟩:=rv.one;cases ru;obtain ⟨z,qc,n,r,hl,e⟩:=I.lstM hH;obtain ⟨z2,its2,n2,r2,e2⟩:=hB.ok I;have hl2:=r2.length;have hsz:qc.toArray.size+its2.toArray.size<=sizeLine:=by rw [zzs,zzs];omega
 have hlong:¬ (!qc.toArray.isEmpty&&Builtin.List.listTooLong (qc.toArray.size+its2.toArray.size))=true:=by rw [zpu hsz,Bool.and_false];exact zzx
 refine call_meets F.slot_list_extend ⟨_,e,rfl⟩ F.entry_list_extend (F.args_list_extend_2 _ _)
  (AutoSeq1.list_extend_list_list_0 l qc.toArray n b its2.toArray n2 hlong (by rw [zzs];omega) (by omega)) ⟨e,e2,?_⟩
 refine ⟨.non,_,I.lset (its':=qc++its2) hH e (by simp) (r.append r2) ?_,rfl,q⟩;rw [zzy];omega
theorem ztk {a b:Expr} {pos:Pos} {f g:Env->Option T} (ha:Oke X c a f) (hb:Oke X c b g):PE X (.BinOp a .Add b pos) (spN X c (fun r=>(f r).bind fun x=>(g r).bind fun y=>ybp x y)):=by
 refine za0 (zvr yde ha hb) fun O H Q q=>?_;obtain ⟨r,F,ts,e,ht,q⟩:=q;obtain ⟨t1,e1,ht⟩:=obs ht;obtain ⟨t2,e2,ht⟩:=obs ht;refine ⟨r,F,t1,e,e1,fun v1 F1 H1 s1 r1=>⟨r,F1,t2,e.step s1,e2,fun v2 F2 H2 s2 r2=>?_⟩⟩;have key:∃ us ws,t1=.lst us/\t2=.lst ws/\us.length+ws.length<=SZ/\ts=us++ws:=by
  cases t1 with
  | lst us =>
   cases t2 with
   | lst ws =>
    simp only [ybp] at ht;split at ht
    .rename_i hz;cases ht;exact ⟨_,_,rfl,rfl,hz,rfl⟩
    .cases ht
   | _=>simp [ybp] at ht
  | _=>cases t2<;>simp only [ybp] at ht<;>(try split at ht)<;>cases ht
 obtain ⟨us,ws,rfl,rfl,hz,rfl⟩:=key;obtain ⟨l,vs,rfl,g1,g2⟩:=r1;obtain ⟨l',vs',rfl,g3,g4⟩:=r2;refine ⟨l,l',vs,vs',rfl,rfl,Ls.same (s2.ff.trans s2.fh) g1,Ls.same s2.fh g3,by rw [g2.length,g4.length,<- ze8];exact hz,fun p hp=>?_⟩;exact q p _ F2 H2 (s1.trans s2) hp ((g2.mono s2.ff).app g4)
theorem zd9 {y:E} {t:T} (h:fresh y=false\/∀ ts,t≠.lst ts):yap y t=.val t:=by
 unfold yap;rcases h with h | h
 .rw [h]
 .cases fresh y with
  | false=>rfl
  | true=>cases t with
   | lst ts=>exact absurd rfl (h ts)
   | _=>rfl
theorem zo4 {y:E} {ts:List T} (h:fresh y=true):yap y (.lst ts)=.own ts:=by unfold yap;rw [h]
theorem zr8 (gd:Gd X c G k) (fx:Fx X c) {x:Str} {e:Expr} {y:E} {py pos:Pos} {i:Nat} (hl:c.sc.names.lookup x=some .local\/c.sc.names.lookup x=some .cell) (hi:yaj c.nm x=some i) (h:trV (n+1) c e=some y) (hfl:fresh y=true->yfh e=true) :
  PS X (.Assign [.Name x py] e pos) (spS X F0 H0 (evS G (.asg i y))):=by
 have S:=zb6 G k n;have at_:=fx.at hl hi;intro pj s O H D I q;obtain ⟨U,F,o,en,hf,hw⟩:=q;rw [evS] at hf;obtain ⟨F1,e1,s1⟩:=en.frz (yah y);obtain ⟨t,ht,hf⟩:=obs hf;cases hf;have val:yap y t=.val t->yeg X c i (evE G y) D O H:=fun hs=>⟨_,F1,t,e1.env fx.hN,ht,fun v F' H' st r=>hw _ F' H' (by rw [hs];exact (e1.step st).setV1 i r) (s1.trans st.ff)⟩;have valN:yap y t=.val t->(∀ a b s p,e≠.ListComp a b s p)->wpAny (model X.prog X.w) X.A (exec (.Assign [.Name x py] e pos) X.env) (SP X pj D) X.xe s:=fun hs hne =>
  zja gd.nd at_.ix at_.loc (zuv S gd h) (zht h hne _ _ _) at_.fn pj s O H D I (by obtain ⟨r,F2,t2,a1,a2,a3⟩:=val hs;exact ⟨r,F2,t2,a1,a2,a3⟩)
 have own:∀ {ts:List T},t=.lst ts->fresh y=true->(∀ a b s p,e≠.ListComp a b s p)->PE X e (spN X c (evE G y))->wpAny (model X.prog X.w) X.A (exec (.Assign [.Name x py] e pos) X.env) (SP X pj D) X.xe s:=fun {ts} et hfr hne hp=>by subst et;refine zja gd.nd at_.ix at_.loc hp (zht h hne _ _ _) at_.fn pj s O H D I ⟨_,F1,ts,e1.env fx.hN,ht,fun p vs F' H1 st hp r=>hw _ F' _ ?_ (s1.trans st.ff)⟩;rw [zo4 hfr];exact (e1.step st).setO i hp r
 cases e with
 | ListComp a b sc p =>
  have hy:fresh y=false:=by
   obtain ⟨tg,iter,ifs,rfl,xs,ki,h0,h1,hcs,hr⟩:=zj1 h
   match ifs,hr with
   | [],hr =>obtain ⟨z,h2,hr⟩:=obs hr;cases hr;rfl
   | [t],hr =>obtain ⟨z,h2,hr⟩:=obs hr;obtain ⟨w,h3,hr⟩:=obs hr;cases hr;rfl
   | _::_::_,hr=>cases hr
  exact (zi4 S gd h).2 at_ pj s O H D I (val (zd9 (.inl hy)))
 | List es p =>
  have h':=h;obtain ⟨zs,h1,h'⟩:=obs h';cases h';have ee:evE G (.lst zs)=fun r=>if zs.length<=1000 then (yad G zs r).map .lst else none:=by funext r;rw [evE]
  have hlst:∃ ts,t=.lst ts:=by
   rw [ee] at ht;dsimp only at ht;split at ht
   .obtain ⟨ts,_,rfl⟩:=oms ht;exact ⟨ts,rfl⟩
   .cases ht
  obtain ⟨ts,rfl⟩:=hlst;exact own rfl rfl (fun _ _ _ _ z=>by cases z) (by rw [ee];exact zl9 (S.l gd h1) fun r ts q=>zec q)
 | BinOp a op b p =>
  have h':=h;obtain ⟨o,h0,h'⟩:=obs h';obtain ⟨x1,h1,h'⟩:=obs h';obtain ⟨y1,h2,h'⟩:=obs h';cases h';by_cases hadd:op=.Add
  .subst hadd;cases h0;by_cases hlst:∃ ts,t=.lst ts
   .obtain ⟨ts,rfl⟩:=hlst;have ee:evE G (.bin .add x1 y1)=fun r=>(evE G x1 r).bind fun s=>(evE G y1 r).bind fun t=>ybp s t:=by funext r;rw [evE];try rfl
    exact own rfl rfl (fun _ _ _ _ z=>by cases z) (by rw [ee];exact ztk (S.v gd h1) (S.v gd h2))
   .exact valN (zd9 (.inr fun ts z=>hlst ⟨ts,z⟩)) (fun _ _ _ _ z=>by cases z)
  .refine valN (zd9 (.inl ?_)) (fun _ _ _ _ z=>by cases z);cases op<;>first | exact absurd rfl hadd | (cases h0;done) | (cases h0;rfl)
 | _ =>
  refine valN (zd9 (.inl ?_)) (fun _ _ _ _ z=>by cases z);cases hfr:fresh y with
  | false=>rfl
  | true=>cases hfl hfr
end
end
section
variable {x:Str} {a:Expr} {y:E} {cpos pos:Pos} {xs:List Str} {is:List Nat}
section
variable {X:Cx} {c:Tc} {G:Glo} {k n:Nat} {F0 H0:Hp}
theorem zbe (h:zac x=true):(x==("__debug__":Str))=false/\(x==("__classdict__":Str))=false:=by unfold zac at h;simp only [Bool.and_eq_true,Bool.not_eq_true'] at h;exact ⟨h.1.1.1,h.1.1.2⟩
theorem zr9 (gd:Gd X c G k) (fx:Fx X c) {px apos:Pos} {i:Nat} (hv:ybu c.sc x=true) (hp:zac x=true) (hi:yaj c.nm x=some i) (h:trV n c a=some y) (hl:(apos.endLine==cpos.line)=true) :
  PS X (.Expr (.Call (.Attribute (.Name x px) "append" apos) [a] [] cpos) pos) (spS X F0 H0 (evS G (.app i y))):=by
 have S:=zb6 G k n;have hN:X.N[i]?=some x:=by rw [fx.hN];exact za5 hi
 have hs:=zbt h X.env;refine zc4 (zfw (zl6 F.plainAttrs_list F.slot_list_append F.type_list_append zes (zfg hN (gd.vis x hv) (zbe hp).1 (zbe hp).2) (zcd (S.v gd h) hs) rfl (by rw [hs];rfl) hl hs rfl) rfl) fun D O H q=>?_;obtain ⟨U,F,o,en,hf,hw⟩:=q;rw [evS] at hf;obtain ⟨F1,e1,s1⟩:=en.frz (yah y);obtain ⟨t,ht,hf⟩:=obs hf;split at hf
 .rename_i ts ho;split at hf
  .rename_i hz;cases hf;obtain ⟨b,vs,q1,q2,q3,q4,q5⟩:=e1.own i ts ho;refine ⟨.ref b,q1,.inl ⟨rfl,_,SqL.of q2⟩,_,F1,[t],e1.env fx.hN,ue1.mpr ⟨t,ht,rfl⟩,fun ws F' H' st r=>?_⟩;obtain ⟨v,r',rfl,r1,r2⟩:=r;cases r2;have e2:=e1.step st;obtain ⟨b',vs',p1,p2,p3,p4,p5⟩:=e2.own i ts ho;rw [q1] at p1;cases p1;refine ⟨b,vs',v,rfl,rfl,p2,by rw [p5.length,<- ze8];exact hz,?_⟩;exact hw O F' _ (e2.grow ho q1 p3 p4 (p5.app (.cons r1 rfl))) (s1.trans st.ff)
  .cases hf
 .cases hf
theorem zr6 (gd:Gd X c G k) (fx:Fx X c) {px apos:Pos} {i:Nat} (hv:ybu c.sc x=true) (hp:zac x=true) (hi:yaj c.nm x=some i) (h:trV n c a=some y) (hl:(apos.endLine==cpos.line)=true) :
  PS X (.Expr (.Call (.Attribute (.Name x px) "extend" apos) [a] [] cpos) pos) (spS X F0 H0 (evS G (.ext i y))):=by
 have S:=zb6 G k n;have hN:X.N[i]?=some x:=by rw [fx.hN];exact za5 hi
 have hs:=zbt h X.env;refine zc4 (zfw (zl6 F.plainAttrs_list F.slot_list_extend F.type_list_extend zko (zfg hN (gd.vis x hv) (zbe hp).1 (zbe hp).2) (zcd (S.v gd h) hs) rfl (by rw [hs];rfl) hl hs rfl) rfl) fun D O H q=>?_;obtain ⟨U,F,o,en,hf,hw⟩:=q;rw [evS] at hf;obtain ⟨F1,e1,s1⟩:=en.frz (yah y);obtain ⟨t,ht,hf⟩:=obs hf;split at hf
 .rename_i us ts ho;split at hf
  .rename_i hz;cases hf;obtain ⟨b,vs,q1,q2,q3,q4,q5⟩:=e1.own i ts ho;refine ⟨.ref b,q1,.inl ⟨rfl,_,SqL.of q2⟩,_,F1,[.lst us],e1.env fx.hN,ue1.mpr ⟨_,ht,rfl⟩,fun ws F' H' st r=>?_⟩;obtain ⟨v,r',rfl,r1,r2⟩:=r;cases r2;obtain ⟨l,zs,rfl,g1,g2⟩:=r1;have e2:=e1.step st;obtain ⟨b',vs',p1,p2,p3,p4,p5⟩:=e2.own i ts ho;rw [q1] at p1;cases p1;refine ⟨b,l,vs',zs,rfl,rfl,p2,Ls.same st.fh g1,by rw [p5.length,g2.length,<- ze8];exact hz,?_⟩;exact hw O F' _ (e2.grow ho q1 p3 p4 (p5.app g2)) (s1.trans st.ff)
  .cases hf
 .cases hf
theorem zoz {a b:Option Expr}:PS X (.Raise a b pos) (spS X F0 H0 (evS G .fail)):=fun pj s O H D I q=>by obtain ⟨U,F,o,en,hf,hw⟩:=q;rw [evS] at hf;cases hf
theorem zr7 (gd:Gd X c G k) (fx:Fx X c) {f:Str} {p:Pos} {es:List Expr} {ks:List Keyword} (h:trV n c (.Call (.Name f p) es ks cpos)=some y):PS X (.Expr (.Call (.Name f p) es ks cpos) pos) (spS X F0 H0 (evS G (.exp y))):=by have S:=zb6 G k n;refine zc4 (zfw (S.v gd h) rfl) fun D O H q=>?_;obtain ⟨U,F,o,en,hf,hw⟩:=q;rw [evS] at hf;obtain ⟨F1,e1,s1⟩:=en.frz (yah y);obtain ⟨t,ht,hf⟩:=obs hf;cases hf;exact ⟨_,F1,t,e1.env fx.hN,ht,fun v F' H' st r=>hw O F' H' (e1.step st) (s1.trans st.ff)⟩
theorem zr3 (gd:Gd X c G k) (fx:Fx X c) (h:trV n c a=some y):PS X (.Return (some a) pos) (spS X F0 H0 (evS G (.ret y))):=by have S:=zb6 G k n;refine zc4 (zvl (S.v gd h)) fun D O H q=>?_;obtain ⟨U,F,o,en,hf,hw⟩:=q;rw [evS] at hf;obtain ⟨F1,e1,s1⟩:=en.frz (yah y);obtain ⟨t,ht,rfl⟩:=oms hf;exact ⟨_,F1,t,e1.env fx.hN,ht,fun v F' H' st r=>hw v F' H' (e1.st.trans st) r⟩
theorem zuw (gd:Gd X c G k) (fx:Fx X c) {t:Expr} {a b:List Stmt} {z:E} {x y:List S} (h:trT n c t=some z) (ha:PSs X a (spS X F0 H0 (yab G x))) (hb:PSs X b (spS X F0 H0 (yab G y))):PS X (.If t a b pos) (spS X F0 H0 (evS G (.ite z x y))):=by
 have S:=zb6 G k n;refine zc4 (zym (S.t gd h).1 ha hb) fun D O H q=>?_;obtain ⟨U,F,o,en,hf,hw⟩:=q;rw [evS] at hf;obtain ⟨F1,e1,s1⟩:=en.frz (yah z);obtain ⟨t,ht,hf⟩:=obs hf;cases t with
 | bl d =>
  refine ⟨_,F1,d,e1.env fx.hN,ht,fun F' H' st=>?_⟩;cases d with
  | true=>exact ⟨_,F',o,e1.step st,hf,hw.up (s1.trans st.ff)⟩
  | false=>exact ⟨_,F',o,e1.step st,hf,hw.up (s1.trans st.ff)⟩
 | _=>cases hf
theorem zjs (fx:Fx X c) {tg:Expr} {b:List S} (h1:zbz tg=some xs) (h2n:yao tg=true->2<=xs.length) (hat:Ats X xs is) {J:It} {qc:List T} {U2:List Sl} {O:L2.St} {F2 H2:Hp} {D:Ends} {o:Out}
  (e2:EnvS X F0 H0 U2 O F2 H2) (wk:Walk X.K J qc F2) (hf:yav (fun x U=>(ya1 is x U).bind fun U'=>yab G b U') qc U2=some o) (hw:wantO X F0 H0 F2 D o) :
  ∃ W:Nat->Nat->L2.St->Hp->Prop,(∃ m,W 0 m O H2)/\∀ i m O H,W i m O H ->
 (J.stop i H/\D.nx O H)\/(J.go i H/\∃ N:L2.St->Hp->Prop,(∀ O' H',N O' H'->∃ m',m'<m/\W (i+1) m' O' H')/\∀ x H',J.yld i H x H'->gT X.K (!yao tg) is x O H' fun O2 H2=>spS X F0 H0 (yab G b) { D with nx:=N,ct:=N,bk:=D.nx } O2 H2):=by
 refine ⟨fun i m O' H'=>i<=qc.length/\m=qc.length-i/\∃ U' F',EnvS X F0 H0 U' O' F' H'/\Same F2 F'/\yav (fun x U=>(ya1 is x U).bind fun U'=>yab G b U') (qc.drop i) U'=some o,⟨qc.length,zAd _,rfl,_,F2,e2,Same.refl F2,hf⟩,?_⟩;rintro i m O' H' ⟨hle,rfl,U',F',e',s',hlo⟩;have sm:Same F2 H':=s'.trans e'.st.fh;have wup:wantO X F0 H0 F' D o:=hw.up s';by_cases hlt:i<qc.length
 .refine .inr ⟨wk.go i H' hlt sm,?_⟩;rw [List.drop_eq_getElem_cons hlt,yav] at hlo;obtain ⟨o1,ho1,hlo⟩:=obs hlo;obtain ⟨U1,hb1,ho1⟩:=obs ho1;refine ⟨fun O'' H''=>∃ U'' F'',EnvS X F0 H0 U'' O'' F'' H''/\Same F2 F''/\yav (fun x U=>(ya1 is x U).bind fun U'=>yab G b U') (qc.drop (i+1)) U''=some o,fun O'' H'' hN=>⟨qc.length-(i+1),by omega,hlt,rfl,hN⟩,fun x H5 hy=>?_⟩;obtain ⟨F5,st5,r5⟩:=wk.yld i H' x H5 F' qc[i] (by simp [hlt]) s' e'.st.fh hy;have e5:=e'.step st5;have fin:∀ O6,EnvS X F0 H0 U1 O6 F5 H5->spS X F0 H0 (yab G b) { D with nx:=fun O'' H''=>∃ U'' F'',EnvS X F0 H0 U'' O'' F'' H''/\Same F2 F''/\yav (fun x U=>(ya1 is x U).bind fun U'=>yab G b U') (qc.drop (i+1)) U''=some o,ct:=fun O'' H''=>∃ U'' F'',EnvS X F0 H0 U'' O'' F'' H''/\Same F2 F''/\yav (fun x U=>(ya1 is x U).bind fun U'=>yab G b U') (qc.drop (i+1)) U''=some o,bk:=D.nx } O6 H5:=fun O6 e6=>by
   refine ⟨U1,F5,o1,e6,ho1,?_⟩;cases o1 with
   | nx U2=>exact fun O7 F7 H7 e7 s7=>⟨U2,F7,e7,s'.trans (st5.ff.trans s7),hlo⟩
   | rt t =>cases hlo;exact wup
  have hlen:=ziv hat;cases htup:yao tg with
  | false =>
   have one:∃ i0,is=[i0]:=by
    cases tg with
    | Name y p =>
     cases h1
     match is,hlen with
     | [i0],_=>exact ⟨i0,rfl⟩
    | Tuple _ _ _=>cases htup
    | _=>cases h1
   obtain ⟨i0,rfl⟩:=one;cases hb1;exact fin _ (e5.setV1 i0 r5)
  | true =>
   have h2n:=h2n htup;have hb2:∃ ts,qc[i]=.tup ts/\setAll is ts U'=some U1:=by
    match is,hlen,hb1 with
    | [],hl,_=>rw [hl] at h2n;simp at h2n
    | [_],hl,_=>rw [hl] at h2n;simp at h2n
    | i0::i1::ir,_,hb1 =>
     cases hq:qc[i] with
     | tup ts=>rw [hq] at hb1;exact ⟨ts,rfl,hb1⟩
     | _=>rw [hq] at hb1;cases hb1
   obtain ⟨ts,et,hb2⟩:=hb2;rw [et] at r5;obtain ⟨a,vs,rfl,q1,q2⟩:=r5;obtain ⟨e6,hl6⟩:=e5.setAll fx.hN q2 hb2;exact ⟨a,vs,rfl,zai st5.fh q1,hl6,fin _ e6⟩
 .have e:i=qc.length:=by omega
  subst e;rw [List.drop_length,yav] at hlo;cases hlo;exact .inl ⟨wk.stop H' sm,wup O' F' H' e' (Same.refl F')⟩
theorem zr5 (gd:Gd X c G k) (fx:Fx X c) {tg iter:Expr} {body:List Stmt} {ki:Ik × List E} {b:List S} (h1:zbz tg=some xs) (h2:yc9 (yaj c.nm) xs=some is) (h3:trI n c iter=some ki)
  (ht:ki.1.pair=true->yao tg=true) (h2n:yao tg=true->2<=xs.length) (hat:Ats X xs is) (hb:PSs X body (spS X F0 H0 (yab G b))):PS X (.For tg iter body [] pos) (spS X F0 H0 (evS G (.loop is ki.1 ki.2 b))):=by
 have S:=zb6 G k n;refine zc4 (zq6 (by rw [fx.xe];exact PassesOwn.never) gd.calm (S.i gd h3 ht) (zrz gd.nd gd.calm h1 hat) hb (zg8 h3 X.env)) fun D O H q=>?_;obtain ⟨U,F,o,en,hf,hw⟩:=q;rw [evS] at hf;obtain ⟨F1,e1,s1⟩:=en.frz (yaq ki.2);obtain ⟨us,hu,hf⟩:=obs hf;obtain ⟨qc,hi,hf⟩:=obs hf;refine ⟨_,F1,qc,e1.env fx.hN,ue1.mpr ⟨us,hu,hi⟩,fun J F2 H2 st wk=>?_⟩;have e2:=e1.step st;exact zjs fx h1 h2n hat e2 wk hf (hw.up (s1.trans st.ff))
end
end
section
variable {i:Nat} {x:Str} {pos:Pos}
theorem zfq {U:List Sl} {s s':Sl} (h:U[i]?=some s) (e:s.get=s'.get):ygl (U.set i s')=ygl U:=by
 unfold ygl;rw [List.map_set];apply List.ext_getElem?;intro j;rw [List.getElem?_set];by_cases hj:i=j
 .subst hj;rw [if_pos rfl,zzo];have hlt:=(ome h).1;rw [if_pos hlt,zAb,h,<- e];rfl
 .rw [if_neg hj]
section
variable {X:Cx} {c:Tc} {G:Glo} {k n:Nat} {F0 H0:Hp}
theorem zo1 (gd:Gd X c G k) (fx:Fx X c) {py dp:Pos} (hl:c.sc.names.lookup x=some .local\/c.sc.names.lookup x=some .cell) (hi:yaj c.nm x=some i) :
  PS X (.Assign [.Name x py] (.Dict [] [] dp) pos) (spS X F0 H0 (evS G (.dnew i))):=by
 have at_:=fx.at hl hi;intro pj s O H D I q;obtain ⟨U,F,o,en,hf,hw⟩:=q;rw [evS] at hf;cases hf;exact zja gd.nd at_.ix at_.loc ydq rfl at_.fn pj s O H D I fun p hp=>hw _ F _ (en.setG i hp ⟨[],rfl,rfl,rfl⟩) (Same.refl F)
theorem zpe {ke ve:Expr} {px tp:Pos} {fk:Env->Option T} (gd:Gd X c G k) (fx:Fx X c) (hv:ybu c.sc x=true) (hp:zac x=true) (hi:yaj c.nm x=some i) (hk:Oke X c ke fk) {tv:TE} (hve:PE X ve tv) (hs:swapsWith ve (some (.Subscript (.Name x px) ke tp)) pos.line X.env=pure false)
  {pj:List (Addr × Obj)} {s:Shared} {O:L2.St} {H:Hp} {D:Ends} (I:L2.Inv X pj O H s) {U:List Sl} {F:Hp} (e1:EnvS X F0 H0 U O F H) {kt y:T} {s':Sl} (ht:fk (ygl U)=some kt) (hput:yeb U[i]? kt y=some s')
  (hval:∀ (U':List Sl) (H':Hp) (Q:VK),EnvS X F0 H0 U' O F H'->ygl U'=ygl U->(U'[i]?=U[i]?\/∃ q,tkO kt=some q/\U[i]?=some (.dk [])/\U'[i]?=some (.dt []))->(∀ v F2 H2,Step F H' F2 H2->Rep X.K F2 y v->Q v H2)->tv O H' Q)
  (hw:∀ O' F' H',EnvS X F0 H0 (U.set i s') O' F' H'->Same F F'->D.nx O' H'):wpAny (model X.prog X.w) X.A (exec (.Assign [.Subscript (.Name x px) ke tp] ve pos) X.env) (SP X pj D) X.xe s:=by
 have hu:X.A.units+1<cLine:=by have:=gd.hu;omega
 have hN:X.N[i]?=some x:=by rw [fx.hN];exact za5 hi
 have P:=zsv (pos:=pos) hu (zfg (pos:=px) hN (gd.vis x hv) (zbe hp).1 (zbe hp).2) hk hve hs;have dtc:∀ (U1:List Sl) (H1:Hp) (qb:List (List Kt × T)) (q:List Kt),L2.Inv X pj O H1 s->EnvS X F0 H0 U1 O F H1->ygl U1=ygl U->U1[i]?=some (.dt qb)->(U1[i]?=U[i]?\/∃ q,tkO kt=some q/\U[i]?=some (.dk [])/\U1[i]?=some (.dt []))->tkO kt=some q->qb.length<SZ->U1.set i (.dt (ybq qb q y))=U.set i s' ->
   wpAny (model X.prog X.w) X.A (exec (.Assign [.Subscript (.Name x px) ke tp] ve pos) X.env) (SP X pj D) X.xe s:=fun U1 H1 qb q I1 e2 hvw ho hor hq hz hset=>by
  refine P pj s O H1 D I1 (hval U1 H1 _ e2 hvw hor fun v F2 H2 st2 rv=>?_);have e3:=e2.step st2;obtain ⟨b,ob,q1,q2,q3,q4,q5⟩:=e3.ownG i _ ho rfl;refine ⟨.ref b,q1,_,F2,kt,e3.env fx.hN,by rw [hvw];exact ht,fun u F3 H3 st3 rk=>?_⟩;have e4:=e3.step st3;obtain ⟨b',ob',p1,p2,p3,p4,ws,rfl,w1,w2⟩:=e4.ownG i _ ho rfl;rw [q1] at p1;cases p1;cases kt with
  | tup xs =>
   obtain ⟨kb,vs,rfl,g1,g2⟩:=rk;have ek:=zbw g2 hq;subst ek;have rel:=PRep.of w1 w2;have hl:ws.length=qb.length:=by have:=congrArg List.length w1;simpa using this
   refine ⟨b,_,rfl,DPut.t p2 (st3.fh _ _ g1) (by rw [hl,<- ze8];exact hz),?_⟩;have rel2:=rel.put q (rv.mono st3.ff);have:=e4.growG (s':=.dt (ybq qb q y)) (o:=.dT (yb3 ws q v)) ho rfl q1 p3 p4 ⟨_,rfl,rel2.keys,rel2.vals⟩;rw [hset] at this;exact hw _ _ _ this (st2.ff.trans st3.ff)
  | _=>cases hq
 cases hsl:U[i]? with
 | none=>rw [hsl] at hput;cases hput
 | some sl =>
  rw [hsl] at hput;cases sl with
  | dk qb =>
   cases hkk:yes kt with
   | some q =>
    simp only [yeb,hkk] at hput;split at hput
    .rename_i hz;cases hput;refine P pj s O H D I (hval U H _ e1 rfl (.inl rfl) fun v F2 H2 st2 rv=>?_);have e3:=e1.step st2;obtain ⟨b,ob,q1,q2,q3,q4,q5⟩:=e3.ownG i _ hsl rfl;refine ⟨.ref b,q1,_,F2,kt,e3.env fx.hN,ht,fun u F3 H3 st3 rk=>?_⟩;have e4:=e3.step st3;obtain ⟨b',ob',p1,p2,p3,p4,ws,rfl,w1,w2⟩:=e4.ownG i _ hsl rfl;rw [q1] at p1;cases p1;have ek:=zjp rk hkk;subst ek;have rel:=PRep.of w1 w2;have hl:ws.length=qb.length:=by have:=congrArg List.length w1;simpa using this
     refine ⟨b,_,rfl,DPut.k p2 (by rw [hl,<- ze8];exact hz),?_⟩;have rel2:=rel.put q (rv.mono st3.ff);exact hw _ _ _ (e4.growG (s':=.dk (ybq qb q y)) (o:=.dK (yb3 ws q v)) hsl rfl q1 p3 p4 ⟨_,rfl,rel2.keys,rel2.vals⟩) (st2.ff.trans st3.ff)
    .cases hput
   | none =>
    cases qb with
    | cons _ _=>simp only [yeb,hkk] at hput;cases hput
    | nil =>
     simp only [yeb,hkk] at hput;obtain ⟨q,hq,rfl⟩:=oms hput;obtain ⟨b,ob,q1,q2,q3,q4,ws,rfl,w1,w2⟩:=e1.ownG i _ hsl rfl;have hws:ws=[]:=by cases ws with | nil=>rfl | cons _ _=>simp at w1
     subst hws;have I1:L2.Inv X pj O (upd H b (.dT [])) s:=by
      obtain ⟨z,hd,vs,rel,ob,es,ep,h1,h2,h3,_,h4,_⟩:=znp I.hok q2;cases rel;refine zdx (t':=s.toks) (h':=s.heap) I (by rw [q2];exact True.intro) (Heap.SameBut.refl _ _) ⟨ob,h1⟩ ⟨zAd _,hd,[],.nil,ob,es,ep,h1,h2,h3,?_,ud4⟩;have:=h4.length;cases hes:es.toList with
      | nil=>rfl
      | cons _ _=>rw [hes] at this;simp at this
     have e2:=e1.growG (s':=.dt []) (o:=.dT []) hsl rfl q1 q3 q4 ⟨[],rfl,rfl,rfl⟩;have hlt:=(ome hsl).1;have hg:(U.set i (.dt []))[i]?=some (Sl.dt []):=by rw [ua4 hlt]
     exact dtc _ _ [] q I1 e2 (zfq hsl rfl) hg (.inr ⟨q,hq,hsl,hg⟩) hq (by decide) (by rw [List.set_set];rfl)
  | dt qb =>
   simp only [yeb] at hput;obtain ⟨q,hq,hput⟩:=obs hput;split at hput
   .rename_i hz;cases hput;exact dtc U H qb q I e1 rfl hsl (.inl rfl) hq hz rfl
   .cases hput
  | _=>cases hput
theorem zo0 (gd:Gd X c G k) (fx:Fx X c) {ke ve:Expr} {y z:E} {px tp:Pos} (hv:ybu c.sc x=true) (hp:zac x=true) (hi:yaj c.nm x=some i) (h1:trV n c ke=some y) (h2:trV n c ve=some z) (hc:zik ve=false) :
  PS X (.Assign [.Subscript (.Name x px) ke tp] ve pos) (spS X F0 H0 (evS G (.dput i y z))):=by
 have S:=zb6 G k n;intro pj s O H D I q;obtain ⟨U,F,o,en,hf,hw⟩:=q;rw [evS] at hf;obtain ⟨F1,e1,s1⟩:=en.frz (yah z++yah y);obtain ⟨vt,g1,hf⟩:=obs hf;obtain ⟨kt,g2,hf⟩:=obs hf;obtain ⟨s',g3,rfl⟩:=oms hf;refine zpe gd fx hv hp hi (S.v gd h1) (S.v gd h2) (zht h2 (fun a b s p z=>by subst z;cases hc) _ _ _) I e1 g2 g3 (fun U' H' Q e2 hvw _ hQ=>?_) fun O' F' H' e' s'=>hw O' F' H' e' (s1.trans s');exact ⟨_,F1,vt,e2.env fx.hN,by rw [hvw];exact g1,hQ⟩
end
end
section
open PySem W Spec PyProof.Rows L2
variable {Q:Value->Shared->Prop} {qb:List (List Key × V)}
section
variable {prog:Program} {w:World} {K:Type} [DecidableEq K] {knd:HeapKind prog w K} {A:Around} {E:Value->Shared->Prop} {s:Shared}
theorem zsh {d a:Addr} {xs:List (K × Addr × Value)} {k:K} {v:Value} (hu:knd.room A) (hkey:knd.is s.heap k a) (hm:s.heap.DictOfH knd d xs) (hsz:xs.length<=sizeLine)
  (h1:∀ p,atKey xs k=some p->Q p.2 { s with toks:=s.toks+knd.draws k })
  (h2:atKey xs k=none->∀ h',h'.DictOfH knd d (storedH xs k a v)->Heap.SameBut d s.heap h'->Q v { s with heap:=h',toks:=s.toks+knd.draws k }) :
  wpAny (model prog w) A (dictSetDefault d (.ref a) v) Q E s:=by
 obtain ⟨o,es,ep,ho,hc,hd,he,his,hn⟩:=hm;unfold dictSetDefault;refine uc2 (zzg (knd.pyHash hu hkey ?_));refine zzg (wpAny_dictFind_heap (s:={ s with toks:=s.toks+knd.draws k }) hu hkey ho hd he his hn ?_ ?_)
 .intro hno;have hnot:k∉xs.map (·.1):=not_mem_keys_of_get hno;refine zzg (wpAny_rule (zzg (wpAny_updateDictKeys (hz:=by have e:=size_of_entries he;omega) (s:={ s with toks:=s.toks+knd.draws k }) ho hd (zzl (h2 (atKey_none_of_get hno) _ ⟨_,_,ep+1,Heap.get?_update_self _ ho (Obj.isFreed_of_dict (Obj.data_mapDictKeys hd _)),
   hc.mapDictKeys _,Obj.data_mapDictKeys hd _,?_,?_,?_⟩ (ub3 ..))))))
  .rw [storedH_new (atKey_none_of_get hno)];simp [he,entryOfKey]
  .rw [storedH_new (atKey_none_of_get hno)];intro x hx;rcases oma hx with hx | hx
   .exact knd.keeps (his x hx) ho hd (ub3 ..)
   .rw [ue3] at hx;subst hx;exact knd.keeps hkey ho hd (ub3 ..)
  .rw [storedH_new (atKey_none_of_get hno),zz6,List.nodup_append];refine ⟨hn,by simp,fun x hx y hy=>?_⟩;rw [zzi,List.map_nil,ue3] at hy;subst hy;exact fun e=>hnot (e▸hx)
 .intro j p hj;refine zzg (uc8 (s:={ s with toks:=s.toks+knd.draws k }) ho hd ?_);rw [entry_at he j,hj];exact zzg (wpAny_rule (zzl (h1 p (atKey_of_get hn hj))))
end
section
variable {X:Cx}
theorem zme (hu:X.A.units+1<cLine):MtR X "dict.setdefault" (fun x xs H Q=>∃ a b qb k d,x=.ref a/\xs=[.ref b,d]/\H a=some (.dT qb)/\H b=some (.tup (k.map kV))/\qb.length<sizeLine /\
  (∀ v,ybi qb k=some v->Q v H)/\(ybi qb k=none->Q d (upd H a (.dT (yb3 qb k d))))):=by
 intro pj s O H x xs v us Q I rx rs h;obtain ⟨a,b,qb,k,d,rfl,rfl,ha,hb,hl,q1,q2⟩:=h;cases rx;obtain ⟨u,w,rfl,r1,r2⟩:=rs.two;cases r1;obtain ⟨z,hd,xs,rel,dd⟩:=zqk I.hok ha;have hz:xs.length<=sizeLine:=by rw [<- Paired.length rel];exact z
 have hl':(yb3 qb k d).length<=sizeLine:=by have:=zce qb k d;omega
 have hty:s.TypeIs (.ref a) "dict":=dd.typeIs;refine zAc PySem.F.slot_dict_setdefault hty PySem.F.entry_dict_setdefault ?_ (PySem.F.args_dict_setdefault_3 _ _ _);unfold Builtin.«dict.setdefault»;refine zzg ?_;unfold Builtin.Dict.keyAndDefault;refine zzg (wpAny_notOrdered_dict hty ?_);show wpAny _ _ (pure (a,Value.ref b,some w)) _ _ s;refine zzl ?_;show wpAny _ _ (if (a==sysModules)=true then _ else (dictSetDefault a (.ref b) w >>= _)) _ _ s;rw [if_neg (by rw [hd];exact zzx)];have rv:=rel.val k;refine zzg (zsh (tupleKind_room_in1 hu) (zd3 I.hok hb) dd hz (fun p hp=>zzl ⟨_,rfl,?_⟩) fun hn h' dd' hs=>zzl ⟨_,rfl,?_⟩)
 .rw [hp] at rv;cases hv:ybi qb k with
  | none=>rw [hv] at rv;exact rv.elim
  | some v=>rw [hv] at rv;exact ⟨v,H,I.tok _,rv,q1 v hv⟩
 .rw [hn] at rv;cases hv:ybi qb k with
  | some v=>rw [hv] at rv;exact rv.elim
  | none =>obtain ⟨q,es,ep,hq,h2,h3,h4,_,h5⟩:=dd';refine ⟨d,upd H a (.dT (yb3 qb k d)),zdx I (by rw [ha];exact True.intro) hs ⟨q,hq⟩ (show ObjOk X.prog X.w _ h' a (.dT (yb3 qb k d)) from ⟨hl',hd,_,(rel.put k hb r2).keeps fun c ys ec=>?_,q,es,ep,hq,h2,h3,h4,h5⟩),r2,q2 hv⟩;rw [zad (zh7 ec ha (fun z=>nomatch z))];exact ec
end
section
variable {prog:Program} {w:World} {A:Around} {E:Value->Shared->Prop} {s:Shared} {d j v:Addr} {en:Array DictEntry} {ep i:Nat}
theorem zsk (hv:s.heap.IsValuesView v d) (r:RawD s.heap d en ep)
  (q:Q (.ref s.heap.objs.size) { s with heap:=s.heap.push { cls:=.type "dict_valueiterator",data:=.fields #[.ref d,.int 0 0,.int en.size 0,.int ep 0] } }):wpAny (model prog w) A (pyIter (.ref v)) Q E s:=by
 obtain ⟨ov,hov,hcv,hdv⟩:=id hv;obtain ⟨o,a,b,c⟩:=id r;refine wpAny_pyIter_slot hv.typeIs PySem.F.slot_dict_values_iter (zAc PySem.F.slot_dict_values_iter hv.typeIs PySem.F.entry_dict_values_iter ?_ (PySem.F.args_dict_values_iter_1 _));unfold Builtin.«dict_values.__iter__»;refine zzg (zzl (zzg ?_));unfold Builtin.Dict_items.dictOf;refine zzg (ub4 hov hdv (x:=.ref d) rfl (zzl (zzg ?_)));unfold Builtin.Dict_items.newIterator;refine zzg (uc8 a c (zzg (wpAny_dictEpoch a c ?_)));simp only [show Builtin.Dict_items.ownsTuple "dict_valueiterator"=false by decide,zAg,if_false];refine zAi (zzl ⟨_,rfl, "dict_valueiterator",_,⟨_,zzp _ rfl,rfl⟩,PySem.F.slot_dict_valueiterator_next.lookup,?_⟩);simpa [rawInt] using q
theorem zsj {Q:Option Value->Shared->Prop} (t:s.heap.IsValIter j d i en.size ep) (r:RawD s.heap d en ep) (hi:i<en.size)
  (q:∀ g,g.IsValIter j d (i+1) en.size ep->Heap.SameBut j s.heap g->Q (some en[i].val) { s with heap:=g }):wpAny (model prog w) A (pyNext (.ref j)) Q E s:=by
 obtain ⟨o,a,b,c⟩:=id t;obtain ⟨od,ad,bd,cd⟩:=id r;unfold pyNext;refine zzg (wpAny_attempt (zAl (name:=Str.ofString "__next__") t.typeIs PySem.F.slot_dict_valueiterator_next (zAc PySem.F.slot_dict_valueiterator_next t.typeIs PySem.F.entry_dict_valueiterator_next ?_ (PySem.F.args_dict_valueiterator_next_1 _))));refine zzg (zzl (zzg (zzg ?_)))
 first | refine zzg (ud0 t.typeIs (zzl (zzg (ud3 a c ?_)))) | refine zzg (wpAny_typeNameOf_valiter t.typeIs (zzl (zzg (ud3 a c ?_))))
 simp only [show Builtin.Dict_items.ownsTuple "dict_valueiterator"=false by decide,zAg,if_false];refine (show wpAny _ _ (if (Value.ref d==Value.none)=true then _ else _) _ _ s from ?_);rw [if_neg (show ¬ ((Value.ref d==Value.none)=true) from zzx)];refine zzg (zzl (zzg (uc8 ad cd ?_)));rw [if_neg (by simp)];refine zzg (zzl (zzg (wpAny_dictEpoch ad cd ?_)));rw [if_neg (by simp)];refine zzl ?_;simp only [show ¬ ((i:Int)<0) from by omega,if_false,Int.toNat_natCast,Array.getElem?_eq_getElem hi];refine zzg ?_
 first | refine zzg (ud0 t.typeIs (zzl (zzg (wpAny_isOneOf_valiter t.typeIs ?_)))) | refine zzg (wpAny_typeNameOf_valiter t.typeIs (zzl (zzg (wpAny_isOneOf_valiter t.typeIs ?_))))
 refine (show wpAny _ _ (setField (.ref j) 1 (rawInt ((i:Int)+1)) >>= _) _ _ s from wpAny_bind (wpAny_setField a c (by simp) ?_));have t':(s.heap.update j (Obj.mapFields (·.setIfInBounds 1 (rawInt ((i:Int)+1))))).IsValIter j d (i+1) en.size ep :=
  ⟨_,Heap.get?_update_self _ a (Obj.isFreed_of_fields (ud7 c _)),(Obj.cls_mapFields ..).trans b,by rw [ud7 c];simp [rawInt]⟩
 refine zzg (uc2 (zzg (wpAny_isOneOf_valiter (s:={ s with heap:=s.heap.update j (Obj.mapFields (·.setIfInBounds 1 (rawInt ((i:Int)+1)))) }) t'.typeIs (zzg (wpAny_isOneOf_valiter (s:={ s with heap:=s.heap.update j (Obj.mapFields (·.setIfInBounds 1 (rawInt ((i:Int)+1)))) }) t'.typeIs ?_)))));show wpAny _ _ (pure en[i].val) _ _ _;exact zzl (zzl ⟨_,rfl,zzl (q _ t' (ub3 ..))⟩)
theorem zu3 {Q:Option Value->Shared->Prop} (hh:A.handled=none) (t:s.heap.IsValIter j d en.size en.size ep) (r:RawD s.heap d en ep) (q:∀ g,Heap.ExtBut j s.heap g->Q none { s with heap:=g }):wpAny (model prog w) A (pyNext (.ref j)) Q E s:=by
 obtain ⟨o,a,b,c⟩:=id t;obtain ⟨od,ad,bd,cd⟩:=id r;unfold pyNext;refine zzg (wpAny_attempt (zAl (name:=Str.ofString "__next__") t.typeIs PySem.F.slot_dict_valueiterator_next (zAc PySem.F.slot_dict_valueiterator_next t.typeIs PySem.F.entry_dict_valueiterator_next ?_ (PySem.F.args_dict_valueiterator_next_1 _))));refine zzg (zzl (zzg (zzg ?_)))
 first | refine zzg (ud0 t.typeIs (zzl (zzg (ud3 a c ?_)))) | refine zzg (wpAny_typeNameOf_valiter t.typeIs (zzl (zzg (ud3 a c ?_))))
 simp only [show Builtin.Dict_items.ownsTuple "dict_valueiterator"=false by decide,zAg,if_false];refine (show wpAny _ _ (if (Value.ref d==Value.none)=true then _ else _) _ _ s from ?_);rw [if_neg (show ¬ ((Value.ref d==Value.none)=true) from zzx)];refine zzg (zzl (zzg (uc8 ad cd ?_)));rw [if_neg (by simp)];refine zzg (zzl (zzg (wpAny_dictEpoch ad cd ?_)));rw [if_neg (by simp)];refine zzl ?_;simp only [show ¬ ((en.size:Int)<0) from by omega,if_false,Int.toNat_natCast,Array.getElem?_eq_none (Nat.le_refl en.size)];refine zzg ?_
 first | refine zzg (ud0 t.typeIs (zzl ?_)) | refine zzg (wpAny_typeNameOf_valiter t.typeIs (zzl ?_))
 refine (show wpAny _ _ (setField (.ref j) 0 .none >>= _) _ _ s from wpAny_bind (wpAny_setField a c (by simp) ?_));refine (show wpAny _ _ (newExc (.type "StopIteration") [] >>= _) _ _ _ from zzg ?_);simp only [newExc,newTuple];refine zzg (zAi ?_ (by size_fits));refine wpAny_bind (m:=firstArgMember _ _) (wpAny_of_eq (a:=Value.none) (by first | rfl | (simp only [firstArgMember];rfl)) (wpAny_newObj_type ?_ (by size_fits)));simp only [raiseNew];refine zzg (wpAny_handled ?_);rw [show A.in1.handled=none from hh];refine zzg (zzl (wpAny_throw ?_));exact zzg (wpAny_isInstance (T:="StopIteration") (b:=true) ⟨_,zzp _ rfl,rfl⟩ isSubtype_stop (zzl (q _ (((ub3 ..).extBut.push _).push _))))
end
def Itv (ws:List (List Key × V)) (a:Addr) (ob:Obj):It :=
 ⟨fun i H=>H a=some (.frz ob (.dT ws))/\i<ws.length,fun i H x H'=>H'=H/\(ws.map (·.2))[i]?=some x,fun i H=>H a=some (.frz ob (.dT ws))/\i=ws.length⟩
section
variable {P:Program} {w:World} {K:W.Frag} {H:Hp} {h:Heap} {a:Addr} {X:Cx} {tg:Expr}
theorem zy0 {xs:List (List Key × Addr × Value)} (r:KT H qb xs):∀ (i:Nat) (x:V),(qb.map (·.2))[i]?=some x->∃ q,xs[i]?=some q/\RelV x q.2.2:=by
 induction r with
 | nil=>intro i x hx;cases i<;>cases hx
 | @cons p q ps qs h t ih =>
  intro i x hx;cases i with
  | zero=>cases hx;exact ⟨_,rfl,h.2.2⟩
  | succ i=>exact ih i x hx
theorem zrn {ob:Obj} {en:Array DictEntry} {ep:Nat} (ok:ObjOk P w H h a (.dT qb)) (e:h.get? a=some ob) (hd:ob.data=.dict en ep):RawD h a en ep/\en.size=qb.length/\∀ (i:Nat) (x:V),(qb.map (·.2))[i]?=some x->∃ e',en[i]?=some e'/\RelV x e'.val:=by obtain ⟨z,_,xs,rel,o,es,ep',ho,hc,hdt,he,_⟩:=ok;rw [e] at ho;cases ho;rw [hd] at hdt;cases hdt;refine ⟨⟨ob,e,hc,hd⟩,by rw [size_of_entries he,Paired.length rel],fun i x hx=>?_⟩;rw [entry_at he i];obtain ⟨q,h1,h2⟩:=zy0 rel i x hx;exact ⟨_,by rw [h1];rfl,h2⟩
theorem zk5 {ws:List (List Key × V)} {ob:Obj} {en:Array DictEntry} {ep:Nat} (a it:Addr) (hd:ob.data=.dict en ep):Turn P w K tg (Itv ws a ob) [it] it (fun i h=>h.IsValIter it a i en.size ep) where
 mem:=by simp
 obj:=fun i h st b hb=>by
  have e:b=it:=by simpa using hb
  subst e;obtain ⟨o,e,c,d⟩:=st;exact ⟨o,e,fun v z=>by rw [d] at z;cases z⟩
 keep:=fun i h h' st k=>let ⟨o,e,r⟩:=st;⟨o,k it (by simp) o e,r⟩
 item:=by
  intro X hP hw hK hc i pj s O H E I hf st hg;subst hP hw hK;obtain ⟨hH,hi⟩:=hg;obtain ⟨e,ok⟩:=(show ObjOk X.prog X.w H s.heap a (.frz ob (.dT ws)) from I.hok a _ hH);obtain ⟨rwd,hz,hen⟩:=zrn ok e hd;obtain ⟨f0,f1,f2,f3,f4,f5⟩:=hf it (by simp);have hx:(ws.map (·.2))[i]?=some ((ws.map (·.2))[i]'(by simpa using hi)):=List.getElem?_eq_getElem _;obtain ⟨e',h1,h2⟩:=hen i _ hx;have hlt:i<en.size:=by omega
  refine zsj st rwd hlt fun h' st' sb=>?_;rw [ub2 hlt] at h1;cases h1;have I1:Inv X pj O H { s with heap:=h' }:=I.turned (t':=s.toks) (fun b o hb e=>(sb.2 b hb).trans e) f0 f1 f3 f4 f5;obtain ⟨o,e,c,d⟩:=id st';exact ⟨_,rfl,zqc (s:={ s with heap:=h' }) e c d (by decide) ⟨_,H,I1,h2,⟨rfl,hx⟩,st',fun b hb=>(hf b hb).1⟩⟩
 done:=by intro X hP hw hK hc i pj s O H E I hf st hg;subst hP hw hK;obtain ⟨hH,hi⟩:=hg;obtain ⟨e,ok⟩:=(show ObjOk X.prog X.w H s.heap a (.frz ob (.dT ws)) from I.hok a _ hH);obtain ⟨rwd,hz,hen⟩:=zrn ok e hd;obtain ⟨f0,f1,f2,f3,f4,f5⟩:=hf it (by simp);rw [hi,<- hz] at st;exact zu3 (I.ok.hd hc) st rwd fun h' eb=>⟨rfl,I.turned (t':=s.toks) (fun b o hb e=>eb b o hb e) f0 f1 f3 f4 f5⟩
 self:=fun _ _ _ _ _ st h=>wpAny_pyIter_valiter st h
theorem zsz {o:Expr} {apos cpos:Pos} {td:TE} (ho:PE X o td) (hbase:attributeBase o "values" X.env (eval o X.env)=eval o X.env) (hl:(apos.endLine==cpos.line)=true) :
  PI X tg (.Call (.Attribute o "values" apos) [] [] cpos) (fun O H R=>td O H fun x H1=>∃ a ws,x=.ref a/\H1 a=some (.dT ws)/\∀ ob,R (Itv ws a ob) (upd H1 a (.frz ob (.dT ws)))):=by
 intro pj s O H R I h;refine wpAny_Call_method hbase rfl hl PySem.F.plainAttrs_dict PySem.F.slot_dict_values PySem.F.type_dict_values (thn (ho pj s O H _ I h) fun u s1 ⟨x,H1,I1,rx,a,ws,ex,d,q1⟩=>?_);subst ex;obtain rfl:u=Value.ref a:=rx;obtain ⟨t1,t2,_⟩:=zrh I1 (.inr ⟨ws,.inl d⟩);refine ⟨t1,t2,?_⟩;refine Calls.callWith_builtin rfl (PyProof.Rows.evalArgs_empty ?_);have ok:=(show ObjOk X.prog X.w H1 s1.heap a (.dT ws) from I1.hok a _ d);obtain ⟨z,hd,xs,rel,ob,es,ep,hob,hc,hdt,he,hn⟩:=id ok;refine zAc PySem.F.slot_dict_values t1 PySem.F.entry_dict_values ?_ (PySem.F.args_dict_values_1 _);unfold Builtin.«dict.values»;refine zzg ?_;unfold Builtin.Dict.noArgs;refine zzg (wpAny_notOrdered_dict t1 ?_);show wpAny _ _ (pure a) _ _ s1;refine zzl ?_;show wpAny _ _ (Builtin.Dict.showsAll a >>= _) _ _ s1;unfold Builtin.Dict.showsAll;rw [if_neg (by rw [hd];exact zzx)];refine zzg (zzl (zzg (zAi (zzl ⟨_,rfl,?_⟩))));have hob1:(s1.heap.push { cls:=.type "dict_values",data:=.fields #[.ref a] }).get? a=some ob:=zzf _ hob;refine zsk (en:=es) (ep:=ep) ⟨_,zzp _ rfl,rfl,rfl⟩ ⟨ob,hob1,hc,hdt⟩ ?_;have I2:Inv X pj O (upd H1 a (.frz ob (.dT ws))) s1:=by
  refine zdx (t':=s1.toks) (h':=s1.heap) I1 (by rw [d];exact True.intro) (Heap.SameBut.refl _ _) ⟨ob,hob⟩ (show ObjOk X.prog X.w _ _ _ (.frz ob (.dT ws)) from ⟨hob,ok.stay (fun _ _ _ e=>e) (fun b e=>?_) fun b ys e=>?_⟩)
  .rw [zad (zh7 e d (fun z=>nomatch z))];exact e
  .rw [zad (zh7 e d (fun z=>nomatch z))];exact e
 have I3:=(I2.kept (t':=s1.toks) (h':=s1.heap.push { cls:=.type "dict_values",data:=.fields #[.ref a] }) fun b o e=>zzf _ e);refine ⟨_,[_],_,_,_,rfl,I3.kept (t':=s1.toks) fun b o e=>zzf _ e,zk5 a _ hdt,⟨_,zzp _ rfl,rfl,rfl⟩,fun b hb=>?_,q1 ob⟩;rw [omg hb];exact I3.fpOk (zzw _) (I3.hok.fresh (zzw _))
end
end
section
variable {p1 pos:Pos} {x:Str}
section
variable {K:W.Frag} {F H:Hp} {q:List Kt} {b:Addr} {y:T} {v:V} {vs:List V}
theorem DRep.at:∀ {qb:List (List Kt × List T)} {ws:List (List Key × V)} {i:Nat} {p:List Kt × List T},DRep K F H qb ws->qb[i]?=some p->∃ w b vs,ws[i]?=some w/\w.2=.ref b/\H b=some (.lst vs)/\Reps K F p.2 vs
 | _,_,i,_,.nil,h=>by cases i<;>cases h
 | _,_,0,_,.cons r t,h=>by cases h;obtain ⟨_,b,vs,h1,h2,h3⟩:=r;exact ⟨_,b,vs,rfl,h1,h2,h3⟩
 | _,_,i+1,_,.cons r t,h=>DRep.at (i:=i) t h
theorem DRep.any {qb:List (List Kt × List T)} {ws:List (List Key × V)} (r:DRep K F H qb ws) (k:List Kt):(ws.any fun kv=>decide (kv.1=k))=qb.any fun kv=>decide (kv.1=k):=by
 induction r with
 | nil=>rfl
 | cons h t ih=>rw [ub7,ub7,ih,h.1]
theorem DRep.val {qb:List (List Kt × List T)} {ws:List (List Key × V)} (r:DRep K F H qb ws) (h:ybi ws q=some v):v∈ws.map (·.2)/\∃ p b vs,p∈qb/\v=.ref b/\H b=some (.lst vs)/\Reps K F p.2 vs:=by
 induction r with
 | nil=>cases h
 | @cons p w ps ws' r t ih =>
  by_cases e:w.1=q
  .rw [zbf e] at h;cases h;obtain ⟨_,b,vs,h1,h2,h3⟩:=r;exact ⟨zzt,p,b,vs,zzt,h1,h2,h3⟩
  .rw [zbg e] at h;obtain ⟨h1,p',b,vs,h2,h3⟩:=ih h;exact ⟨zzq _ h1,p',b,vs,zzq _ h2,h3⟩
theorem DRep.skip {qb:List (List Kt × List T)} {ws:List (List Key × V)} (r:DRep K F H qb ws):q∉ws.map (·.1)->V.ref b∉ws.map (·.2)->DRep K F (upd H b (.lst vs)) (apP qb q y) ws:=by
 induction r with
 | nil=>exact fun _ _=>.nil
 | @cons p w _ _ r t ih=>intro h1 h2;obtain ⟨e,b',vs',g1,g2,g3⟩:=r;rw [zzi,ua1,not_or] at h1 h2;unfold apP;rw [zzi,if_neg fun z=>h1.1 (z.symm.trans e.symm)];refine .cons ⟨e,b',vs',g1,?_,g3⟩ (ih h1.2 h2.2);rw [zad fun z=>h2.1 (by rw [g1,z])];exact g2
theorem DRep.app {qb:List (List Kt × List T)} {ws:List (List Key × V)} (r:DRep K F H qb ws) (n1:(ws.map (·.1)).Nodup) (n2:(ws.map (·.2)).Nodup) (h:ybi ws q=some (.ref b)) (hb:H b=some (.lst vs)) (ry:Rep K F y v):DRep K F (upd H b (.lst (vs++[v]))) (apP qb q y) ws:=by
 induction r with
 | nil=>cases h
 | @cons p w _ _ r t ih=>
  obtain ⟨e,b',vs',g1,g2,g3⟩:=r;rw [zzi,ua7] at n1 n2;by_cases ew:w.1=q
  .rw [zbf ew] at h;have hw:=zz2 h;rw [g1] at hw;cases hw;rw [hb] at g2;cases g2;unfold apP;rw [zzi,if_pos (e.symm.trans ew)];refine .cons ⟨e,b,_,g1,zah,g3.app (.cons ry rfl)⟩ (DRep.skip t (by rw [<- ew];exact n1.1) (by rw [<- g1];exact n2.1))
  .rw [zbg ew] at h;have hm:=(DRep.val t h).1;unfold apP;rw [zzi,if_neg fun z=>ew (e.trans z)];refine .cons ⟨e,b',vs',g1,?_,g3⟩ (ih n1.2 n2.2 h);rw [zad fun z=>n2.1 (by rw [g1,z];exact hm)];exact g2
end
section
variable {X:Cx} {c:Tc} {F0 H0:Hp} {U:List Sl} {O:L2.St} {F H H':Hp} {i:Nat} {qb kvs':List (List Kt × List T)} {a:Addr} {ws ws':List (List Key × V)}
theorem EnvS.dlSet (e:EnvS X F0 H0 U O F H) (hone:∀ (j:Nat) (s:Sl),U[j]?=some s->s.isDl=true->j=i) (hst:SameT H0 H') (hF:Same F H')
  (hown:∀ (j:Nat) (s:Sl) (b:Addr),j≠i->U[j]?=some s->s.isOwn=true->O[j]?=some (some (.ref b))->H' b=H b) (d':DlAt X.K F H' H0 (U.set i (.dl kvs')) O i kvs' a ws'):EnvS X F0 H0 (U.set i (.dl kvs')) O F H':=by
 refine ⟨⟨hst,e.st.ff,hF,e.st.nw⟩,e.t0,by rw [ub1];exact e.len,fun j u h=>?_,fun j u h hu=>?_,fun j l u w b hjl hj hl hu hw=>?_,fun j kk h=>?_⟩
 .rcases yag h with ⟨_,q⟩ | ⟨hj,q⟩
  .cases q
  .exact e.val j u q
 .rcases yag h with ⟨_,q⟩ | ⟨hj,q⟩
  .subst q;cases hu
  .obtain ⟨b,o,q1,q2,q3⟩:=e.ownG j u q hu;exact ⟨b,o,q1,(hown j u b hj q hu q1).trans q2,q3⟩
 .rcases yag hj with ⟨_,q⟩ | ⟨_,q⟩
  .subst q;cases hu
  .rcases yag hl with ⟨_,q'⟩ | ⟨_,q'⟩
   .subst q';cases hw
   .exact e.disG j l u w b hjl q q' hu hw
 .rcases yag h with ⟨rfl,q⟩ | ⟨hj,q⟩
  .cases q;exact ⟨a,ws',d'⟩
  .exact absurd (hone j _ q rfl) hj
theorem zh2 (hone:∀ (j:Nat) (s:Sl),U[j]?=some s->s.isDl=true->j=i):∀ (j:Nat) (s:Sl),(U.set i (.dl kvs'))[j]?=some s->s.isDl=true->j=i:=fun j s h hs=>by
 rcases yag h with ⟨q,_⟩ | ⟨_,q⟩
 .exact q
 .exact hone j s q hs
theorem EnvS.toDl (e:EnvS X F0 H0 U O F H) (h:U[i]?=some (.dt [])) (hone:∀ (j:Nat) (s:Sl),U[j]?=some s->s.isDl=true->j=i):EnvS X F0 H0 (U.set i (.dl [])) O F H:=by
 obtain ⟨b,o,q1,q2,q3,q4,ws,rfl,w1,w2⟩:=e.ownG i _ h rfl;have hws:ws=[]:=by cases ws with | nil=>rfl | cons _ _=>simp at w1
 subst hws;refine e.dlSet (a:=b) (ws':=[]) hone e.st.hh e.st.fh (fun _ _ _ _ _ _ _=>rfl) ⟨q1,q2,.nil,by simp [ych],ud4,fun c hc=>?_,zh2 hone⟩;rw [ych,List.map_nil,ue3] at hc;cases hc;refine ⟨q3,q4,fun j s hj hs z=>?_⟩;rcases yag hj with ⟨_,q⟩ | ⟨hji,q⟩
 .subst q;cases hs
 .exact e.disG j i s _ b hji q h hs rfl z q1
theorem zpf {ws:List (List Key × V)} {k:List Key} {v:V} (h:ybi ws k=none):yb3 ws k v=ws++[(k,v)]:=by unfold yb3;rw [if_neg (by rw [zcc,h];exact zzx)]
theorem EnvS.dlNew (e:EnvS X F0 H0 U O F H) (h:U[i]?=some (.dl qb)) (d:DlAt X.K F H H0 U O i qb a ws) {q:List Kt} {p:Addr} (hp:H p=none) (hv:ybi ws q=none) :
  EnvS X F0 H0 (U.set i (.dl (qb++[(q,[])]))) O F (upd (upd H p (.lst [])) a (.dT (ws++[(q,.ref p)])))/\DlAt X.K F (upd (upd H p (.lst [])) a (.dT (ws++[(q,.ref p)]))) H0 (U.set i (.dl (qb++[(q,[])]))) O i (qb++[(q,[])]) a (ws++[(q,.ref p)]):=by
 have hap:a≠p:=zae d.obj hp;have hfa:=d.fr a zzt;have hbp:∀ b,V.ref b∈ych a ws->b≠p:=fun b hb=>let ⟨o,h1,_⟩:=d.some' hb;zae h1 hp
 have hba:∀ b,V.ref b∈ws.map (·.2)->b≠a:=fun b hb z=>by subst z;exact (ua7.mp d.nd).1 hb
 have hown:∀ (j:Nat) (s:Sl) (b:Addr),U[j]?=some s->s.isOwn=true->O[j]?=some (some (.ref b))->b≠p/\b≠a:=fun j s b hj hs hb=>by obtain ⟨b',o,g1,g2,_⟩:=e.ownG j s hj hs;rw [hb] at g1;cases g1;exact ⟨zae g2 hp,fun z=>by subst z;exact hfa.2.2 j s hj hs hb⟩
 have d':DlAt X.K F (upd (upd H p (.lst [])) a (.dT (ws++[(q,.ref p)]))) H0 (U.set i (.dl (qb++[(q,[])]))) O i (qb++[(q,[])]) a (ws++[(q,.ref p)]):=by
  have fe:ych a (ws++[(q,.ref p)])=ych a ws++[V.ref p]:=by simp [ych]
  refine ⟨d.ix,zah,Paired.snoc (d.rep.up (Same.refl F) fun b hb=>by rw [zad (hba b hb),zad (hbp b (zzq _ hb))]) ⟨rfl,p,[],rfl,by rw [zad (Ne.symm hap),zah],rfl⟩,?_,?_,fun b hb=>?_,zh2 d.one⟩
  .rw [fe,List.nodup_append];refine ⟨d.nd,by simp,fun u hu w hw=>?_⟩;rw [omg hw];intro z;subst z;exact hbp p hu rfl
  .rw [zz6,List.nodup_append];refine ⟨d.kn,by simp,fun u hu w hw=>?_⟩;rw [zzi,List.map_nil,ue3] at hw;rw [hw];intro z;subst z;exact zom hv hu
  .rw [fe] at hb;have own':∀ {b:Addr},(∀ (j:Nat) (s:Sl),U[j]?=some s->s.isOwn=true->O[j]?≠some (some (.ref b)))->∀ (j:Nat) (s:Sl),(U.set i (.dl (qb++[(q,[])])))[j]?=some s->s.isOwn=true->O[j]?≠some (some (.ref b)):=fun hh j s hj hs=>by
    rcases yag hj with ⟨_,z⟩ | ⟨_,z⟩
    .subst z;cases hs
    .exact hh j s z hs
   rcases oma hb with hb | hb
   .obtain ⟨g1,g2,g3⟩:=d.fr b hb;exact ⟨g1,g2,own' g3⟩
   .rw [ue3] at hb;cases hb;exact ⟨e.st.fh.free hp,e.st.hh.free hp,own' fun j s hj hs z=>(hown j s p hj hs z).1 rfl⟩
 refine ⟨e.dlSet d.one ((e.st.hh.trans (ydz (zbi hp))).upd hfa.2.1 (o1:=.dT ws) (by rw [zad hap];exact d.obj) rfl fun _ _ z=>nomatch z) (fun b u z=>?_) (fun j s b _ hj hs hb=>?_) d',d'⟩
 .rw [zad (zae z hfa.1),zad (zae (e.st.fh b u z) hp)];exact e.st.fh b u z
 .obtain ⟨g1,g2⟩:=hown j s b hj hs hb;rw [zad g2,zad g1]
theorem EnvS.dlApp (e:EnvS X F0 H0 U O F H) (h:U[i]?=some (.dl qb)) (d:DlAt X.K F H H0 U O i qb a ws) {q:List Kt} {b:Addr} {vs:List V} {y:T} {v:V} (hv:ybi ws q=some (.ref b)) (hb:H b=some (.lst vs)) (r:Rep X.K F y v) :
  EnvS X F0 H0 (U.set i (.dl (apP qb q y))) O F (upd H b (.lst (vs++[v]))):=by
 have hbw:=(d.rep.val hv).1;have hbf:V.ref b∈ych a ws:=zzq _ hbw;obtain ⟨g1,g2,g3⟩:=d.fr b hbf;have hab:a≠b:=zh7 d.obj hb fun z=>nomatch z;refine e.dlSet (a:=a) (ws':=ws) d.one (e.st.hh.upd g2 hb rfl fun _ _ z=>nomatch z) (fun c u z=>by rw [zad (zae z g1)];exact e.st.fh c u z) (fun j s c _ hj hs hc=>zad fun z=>by subst z;exact g3 j s hj hs hc)
  ⟨d.ix,by rw [zad hab];exact d.obj,d.rep.app d.kn (ua7.mp d.nd).2 hv hb r,d.nd,d.kn,fun c hc=>⟨(d.fr c hc).1,(d.fr c hc).2.1,fun j s hj hs=>?_⟩,zh2 d.one⟩
 rcases yag hj with ⟨_,z⟩ | ⟨_,z⟩
 .subst z;cases hs
 .exact (d.fr c hc).2.2 j s z hs
end
section
variable {X:Cx} {c:Tc} {G:Glo} {k n:Nat} {F0 H0:Hp}
theorem zhe {ke ve:Expr} {ap1 cp1 ap2 cp2 lp:Pos} {i:Nat} {fk fv:Env->Option T} (gd:Gd X c G k) (fx:Fx X c) (hv:ybu c.sc x=true) (hp:zac x=true) (hi:yaj c.nm x=some i) (hk:Oke X c ke fk) (hve:Oke X c ve fv)
  (hs1:starEach [ke,.List [] lp] X.env=(false,eval ke X.env)::starEach [.List [] lp] X.env) (hs2:starEach [ve] X.env=[(false,eval ve X.env)]) (hl1:(ap1.endLine==cp1.line)=true) (hl2:(ap2.endLine==cp2.line)=true)
  {pj:List (Addr × Obj)} {s:Shared} {O:L2.St} {H:Hp} {D:Ends} (I:L2.Inv X pj O H s) {U:List Sl} {F:Hp} (e1:EnvS X F0 H0 U O F H) {qb:List (List Kt × List T)} (hsl:U[i]?=some (.dl qb)) (hz:qb.length<SZ) {kt y:T} {q:List Kt} (h1:fk (ygl U)=some kt) (hq:tkO kt=some q) (h2:fv (ygl U)=some y)
  (hz2:((sdP qb q).all fun p=>decide (p.2.length<SZ))=true)
  (hw:∀ O' F' H',EnvS X F0 H0 (U.set i (.dl (apP (sdP qb q) q y))) O' F' H'->Same F F'->D.nx O' H') :
  wpAny (model X.prog X.w) X.A (exec (.Expr (.Call (.Attribute (.Call (.Attribute (.Name x p1) "setdefault" ap1) [ke,.List [] lp] [] cp1) "append" ap2) [ve] [] cp2) pos) X.env) (SP X pj D) X.xe s:=by
 have hu:X.A.units+1<cLine:=by have:=gd.hu;omega
 have hN:X.N[i]?=some x:=by rw [fx.hN];exact za5 hi
 have hA:=zer hk (zer (zq7 (pos:=lp) (zje (X:=X))) zje) hs1;have hG:=zl6 (cpos:=cp1) (apos:=ap1) PySem.F.plainAttrs_dict PySem.F.slot_dict_setdefault PySem.F.type_dict_setdefault (zme hu) (zfg (pos:=p1) hN (gd.vis x hv) (zbe hp).1 (zbe hp).2) hA rfl (by rw [hs1];rfl) hl1 hs1 rfl;have P:=zfw (pos:=pos) (zl6 (cpos:=cp2) (apos:=ap2) PySem.F.plainAttrs_list PySem.F.slot_list_append PySem.F.type_list_append zes hG (zcd hve hs2) rfl (by rw [hs2];rfl) hl2 hs2 rfl) rfl;refine P pj s O H D I ?_;obtain ⟨a,ws,d⟩:=e1.dl i qb hsl;refine ⟨.ref a,d.ix,.inr (.inr (.inl ⟨rfl,.inr ⟨ws,d.obj⟩⟩)),ygl U,F,kt,e1.env fx.hN,h1,fun kv F2 H2 st2 rk=>⟨zAd _,fun p hpn=>?_⟩⟩;have e2:=e1.step st2;obtain ⟨a2,ws2,d2⟩:=e2.dl i qb hsl;have ea:a2=a:=by have:=d2.ix;rw [d.ix] at this;cases this;rfl
 subst ea;have last:∀ (U3:List Sl) (kvs3:List (List Kt × List T)) (ws3:List (List Key × V)) (H3:Hp) (b:V),EnvS X F0 H0 U3 O F2 H3->U3[i]?=some (.dl kvs3)->kvs3=sdP qb q->ygl U3=ygl U->DlAt X.K F2 H3 H0 U3 O i kvs3 a2 ws3->ybi ws3 q=some b->U3.set i (.dl (apP kvs3 q y))=U.set i (.dl (apP (sdP qb q) q y)) ->
   tyV X.K "list" b H3/\spL X c (fun r=>(fv r).bind fun x=>some [x]) O H3 fun xs H4=>zlu b xs H4 fun _ H'=>D.nx O H':=fun U3 kvs3 ws3 H3 b e3 hs3 ek hvw d3 hb hset=>by
  obtain ⟨hm,p',b',vs,hmem,rfl,hl,hr⟩:=d3.rep.val hb;refine ⟨.inl ⟨rfl,_,SqL.of hl⟩,ygl U3,F2,[y],e3.env fx.hN,by rw [hvw];exact ue1.mpr ⟨y,h2,rfl⟩,fun us F4 H4 st4 r4=>?_⟩;obtain ⟨v,r',rfl,r1,r2⟩:=r4;cases r2;have e4:=e3.step st4;obtain ⟨a4,ws4,d4⟩:=e4.dl i kvs3 hs3;have ea:a4=a2:=by have:=d4.ix;rw [d3.ix] at this;cases this;rfl
  subst ea;have ew:ws4=ws3:=by have:=d4.obj;rw [st4.hh.st _ _ d3.obj rfl] at this;cases this;rfl
  subst ew;have hl4:H4 b'=some (.lst vs):=st4.hh.st _ _ hl rfl;have hlen:vs.length<sizeLine:=by rw [hr.length,<- ze8];subst ek;exact zAf (oml hz2 p' hmem)
  refine ⟨b',vs,v,rfl,rfl,hl4,hlen,hw O F4 _ ?_ (st2.ff.trans st4.ff)⟩;rw [<- hset];exact e4.dlApp hs3 d4 hb hl4 r1
 cases kt with
 | tup xs =>
  obtain ⟨kb,us,rfl,g1,g2⟩:=rk;have ek:=zbw g2 hq;subst ek;have hkb:upd H2 p (.lst []) kb=some (.tup (q.map kV)):=by rw [zad (zae (st2.fh _ _ g1) hpn)];exact st2.fh _ _ g1
  have hda:upd H2 p (.lst []) a2=some (.dT ws2):=by rw [zad (zae d2.obj hpn)];exact d2.obj
  have hlen:ws2.length<sizeLine:=by rw [<- Paired.length d2.rep,<- ze8];exact hz
  refine ⟨a2,kb,ws2,q,.ref p,rfl,rfl,hda,hkb,hlen,fun v hv=>?_,fun hn=>?_⟩
  .have e3:=e2.step ((Step.refl e2.st.fh).newH (o:=.lst []) hpn);obtain ⟨a3,ws3,d3⟩:=e3.dl i qb hsl;have ea:a3=a2:=by have:=d3.ix;rw [d2.ix] at this;cases this;rfl
   subst ea;have ew:ws3=ws2:=by have:=d3.obj;rw [hda] at this;cases this;rfl
   subst ew;have hany:(qb.any fun p=>decide (p.1=q))=true:=by rw [<- d2.rep.any,zcc,hv];rfl
   have es:qb=sdP qb q:=by unfold sdP;rw [if_pos hany]
   exact last U qb ws3 _ v e3 hsl es rfl d3 hv (by rw [<- es])
  .have hany:¬ (qb.any fun p=>decide (p.1=q))=true:=by rw [<- d2.rep.any,zcc,hn];exact zzx
   have es:qb++[(q,[])]=sdP qb q:=by unfold sdP;rw [if_neg hany]
   rw [zpf hn];obtain ⟨e3,d3⟩:=e2.dlNew hsl d2 hpn hn;have hlt:=(ome hsl).1;exact last _ _ _ _ _ e3 (ua4 hlt) es (zfq hsl rfl) d3 (by rw [zgl _ _ _ _ hn,if_pos rfl]) (by rw [List.set_set,es])
 | _=>cases hq
theorem zxq {pj:List (Addr × Obj)} {s:Shared} {O:L2.St} {H F:Hp} {U:List Sl} {i:Nat} {qb:List (Kt × T)} (I:L2.Inv X pj O H s) (e1:EnvS X F0 H0 U O F H) (hsl:U[i]?=some (.dk qb)) (hc:(qb.isEmpty&&!U.any Sl.isDl)=true) :
  ∃ H',L2.Inv X pj O H' s/\EnvS X F0 H0 (U.set i (.dl [])) O F H':=by
 rw [zzn] at hc;cases qb with
 | cons _ _=>cases hc.1
 | nil =>
  obtain ⟨b,ob,q1,q2,q3,q4,ws,rfl,w1,w2⟩:=e1.ownG i _ hsl rfl;have hws:ws=[]:=by cases ws with | nil=>rfl | cons _ _=>simp at w1
  subst hws;have I1:L2.Inv X pj O (upd H b (.dT [])) s:=by
   obtain ⟨z,hd,vs,rel,ob,es,ep,h1,h2,h3,_,h4,_⟩:=znp I.hok q2;cases rel;refine zdx (t':=s.toks) (h':=s.heap) I (by rw [q2];exact True.intro) (Heap.SameBut.refl _ _) ⟨ob,h1⟩ ⟨zAd _,hd,[],.nil,ob,es,ep,h1,h2,h3,?_,ud4⟩;have:=h4.length;cases hes:es.toList with
   | nil=>rfl
   | cons _ _=>rw [hes] at this;simp at this
  have e2:=e1.growG (s':=.dt []) (o:=.dT []) hsl rfl q1 q3 q4 ⟨[],rfl,rfl,rfl⟩;have hlt:=(ome hsl).1;have hone:∀ (j:Nat) (s:Sl),(U.set i (.dt []))[j]?=some s->s.isDl=true->j=i:=fun j s hj hs=>by
   rcases yag hj with ⟨q,_⟩ | ⟨_,q⟩
   .exact q
   .have h:=hc.2;rw [Bool.not_eq_true',List.any_eq_false] at h;exact absurd hs (h s (zAm q))
  have e3:=e2.toDl (ua4 hlt) hone;rw [List.set_set] at e3;exact ⟨_,I1,e3⟩
theorem zo2 (gd:Gd X c G k) (fx:Fx X c) {ke ve:Expr} {y z:E} {ap1 cp1 ap2 cp2 lp:Pos} {i:Nat} (hv:ybu c.sc x=true) (hp:zac x=true) (hi:yaj c.nm x=some i) (h1:trV n c ke=some y) (h2:trV n c ve=some z) (hl1:(ap1.endLine==cp1.line)=true) (hl2:(ap2.endLine==cp2.line)=true) :
  PS X (.Expr (.Call (.Attribute (.Call (.Attribute (.Name x p1) "setdefault" ap1) [ke,.List [] lp] [] cp1) "append" ap2) [ve] [] cp2) pos) (spS X F0 H0 (evS G (.dapp i y z))):=by
 have S:=zb6 G k n;intro pj s O H D I q;obtain ⟨U,F,o,en,hf,hw⟩:=q;rw [evS] at hf;obtain ⟨F1,e1,s1⟩:=en.frz (yah y++yah z);obtain ⟨kt,g1,hf⟩:=obs hf;obtain ⟨q,hq,hf⟩:=obs hf;obtain ⟨kvs3,hsd,hf⟩:=obs hf;obtain ⟨vt,g2,hf⟩:=obs hf;split at hf
 .rename_i hz2;cases hf;have hs1:=zc3 h1 [.List [] lp] X.env;have hs2:=zbt h2 X.env;unfold sdS at hsd;split at hsd
  .rename_i qb hsl;split at hsd
   .rename_i hc;cases hsd;obtain ⟨H1,I1,e3⟩:=zxq I e1 hsl hc;have hlt:=(ome hsl).1;have hvw:ygl ((yae (yah y++yah z) U).set i (.dl []))=ygl (yae (yah y++yah z) U):=zfq hsl rfl;refine zhe (qb:=[]) gd fx hv hp hi (S.v gd h1) (S.v gd h2) hs1 hs2 hl1 hl2 I1 e3 (ua4 hlt) (by decide) (by rw [hvw];exact g1) hq (by rw [hvw];exact g2) hz2 fun O' F' H' e' s'=>?_;rw [List.set_set] at e';exact hw O' F' H' e' (s1.trans s')
   .cases hsd
  .rename_i qb hsl;split at hsd
   .rename_i hz;cases hsd;exact zhe gd fx hv hp hi (S.v gd h1) (S.v gd h2) hs1 hs2 hl1 hl2 I e1 hsl hz g1 hq g2 hz2 fun O' F' H' e' s'=>hw O' F' H' e' (s1.trans s')
   .cases hsd
  .cases hsd
 .cases hf
open Classical in
theorem zlf (gd:Gd X c G k) (fx:Fx X c) {tg:Expr} {body:List Stmt} {xs:List Str} {is:List Nat} {b:List S} {i:Nat} {apos cpos:Pos} (h1:zbz tg=some xs) (htp:yao tg=false) (hat:Ats X xs is) (hv:ybu c.sc x=true) (hp:zac x=true) (hi:yaj c.nm x=some i) (hl:(apos.endLine==cpos.line)=true)
  (hb:PSs X body (spS X F0 H0 (yab G b))):PS X (.For tg (.Call (.Attribute (.Name x p1) "values" apos) [] [] cpos) body [] pos) (spS X F0 H0 (evS G (.vloop is i b))):=by
 have hN:X.N[i]?=some x:=by rw [fx.hN];exact za5 hi
 have P:=zq6 (pos:=pos) (by rw [fx.xe];exact PassesOwn.never) gd.calm (zsz (tg:=tg) (apos:=apos) (cpos:=cpos) (zfg (pos:=p1) hN (gd.vis x hv) (zbe hp).1 (zbe hp).2) rfl hl) (zrz gd.nd gd.calm h1 hat) hb (fun _=>rfl);intro pj s O H D I q;obtain ⟨U,F,o,en,hf,hw⟩:=q;have core:∀ (H:Hp) (U:List Sl) (qb:List (List Kt × List T)),L2.Inv X pj O H s->EnvS X F0 H0 U O F H->U[i]?=some (.dl qb)->yav (fun x U=>(ya1 is x U).bind fun U'=>yab G b U') (qb.map fun p=>T.lst p.2) (U.set i .no)=some o ->
   wpAny (model X.prog X.w) X.A (exec (.For tg (.Call (.Attribute (.Name x p1) "values" apos) [] [] cpos) body [] pos) X.env) (SP X pj D) X.xe s:=fun H U qb I en hsl hf=>by
  refine P pj s O H D I ?_;obtain ⟨a,ws,d⟩:=en.dl i qb hsl;refine ⟨.ref a,d.ix,a,ws,rfl,d.obj,fun ob=>?_⟩;have hfa:=d.fr a zzt;have hva:V.ref a∉ws.map (·.2):=(ua7.mp d.nd).1
  let F2:Hp:=fun c=>if c=a then some (.frz ob (.dT ws)) else if V.ref c∈ws.map (·.2) then H c else F c
  have fa:F2 a=some (.frz ob (.dT ws)):=if_pos rfl;have fv:∀ c,V.ref c∈ws.map (·.2)->F2 c=H c:=fun c hc=>by show (if c=a then _ else if V.ref c∈ws.map (·.2) then _ else _)=_;rw [if_neg (fun z=>by subst z;exact hva hc),if_pos hc]
  have fo:∀ c,V.ref c∉ych a ws->F2 c=F c:=fun c hc=>by show (if c=a then _ else if V.ref c∈ws.map (·.2) then _ else _)=_;rw [if_neg (fun z=>hc (by rw [z];exact zzt)),if_neg fun z=>hc (zzq _ z)]
  have sF:Same F F2:=fun c u h=>by rw [fo c fun z=>by rw [(d.fr c z).1] at h;cases h];exact h
  have cas:∀ c,c=a\/V.ref c∈ws.map (·.2)\/V.ref c∉ych a ws:=fun c=>by
   by_cases h1:c=a
   .exact .inl h1
   .by_cases h2:V.ref c∈ws.map (·.2)
    .exact .inr (.inl h2)
    .refine .inr (.inr fun z=>?_);rcases omc z with z | z
     .cases z;exact h1 rfl
     .exact h2 z
  have e2:EnvS X F0 H0 (U.set i .no) O F2 (upd H a (.frz ob (.dT ws))):=by
   refine ⟨⟨en.st.hh.upd hfa.2.1 d.obj rfl (fun _ _ z=>nomatch z),en.st.ff.trans sF,fun c u h=>?_,fun c h=>?_⟩,en.t0,by rw [ub1];exact en.len,fun j u h=>?_,fun j u h hu=>?_,fun j l u w b hjl hj hl hu hw=>?_,fun j kk h=>?_⟩
   .rcases cas c with z | z | z
    .subst z;rw [fa] at h;cases h;exact zah
    .rw [fv c z] at h;rw [zad fun y=>by subst y;exact hva z];exact h
    .rw [fo c z] at h;rw [zad fun y=>by subst y;exact z zzt];exact en.st.fh c u h
   .rcases cas c with z | z | z
    .subst z;exact .inr (.inl hfa.2.1)
    .exact .inr (.inl (d.fr c (zzq _ z)).2.1)
    .rw [fo c z] at h;exact en.st.nw c h
   .rcases yag h with ⟨_,q⟩ | ⟨hj,q⟩
    .cases q
    .obtain ⟨w,q1,q2⟩:=en.val j u q;exact ⟨w,q1,q2.mono sF⟩
   .rcases yag h with ⟨_,q⟩ | ⟨hj,q⟩
    .subst q;cases hu
    .obtain ⟨b,o,q1,q2,q3,q4,q5⟩:=en.ownG j u q hu;have hn:V.ref b∉ych a ws:=fun z=>(d.fr b z).2.2 j u q hu q1;exact ⟨b,o,q1,by rw [zad fun y=>by subst y;exact hn zzt];exact q2,by rw [fo b hn];exact q3,q4,q5.mono sF⟩
   .rcases yag hj with ⟨_,q⟩ | ⟨_,q⟩
    .subst q;cases hu
    .rcases yag hl with ⟨_,q'⟩ | ⟨_,q'⟩
     .subst q';cases hw
     .exact en.disG j l u w b hjl q q' hu hw
   .rcases yag h with ⟨_,q⟩ | ⟨hj,q⟩
    .cases q
    .exact absurd (d.one j _ q rfl) hj
  have hlen:ws.length=qb.length:=(Paired.length d.rep).symm;have wk:Walk X.K (Itv ws a ob) (qb.map fun p=>T.lst p.2) F2:={
   go:=fun j H' hj sm=>⟨sm _ _ fa,by rw [hlen];simpa using hj⟩
   yld:=fun j H' v H5 F' t ht sF' fh y=>by obtain ⟨rfl,y⟩:=y;refine ⟨F',Step.refl fh,?_⟩;rw [zAb] at ht;obtain ⟨p,hp,rfl⟩:=oms ht;obtain ⟨w,c,vs,h1,h2,h3,h4⟩:=d.rep.at hp;rw [zAb,h1] at y;cases y;have hm:V.ref c∈ws.map (·.2):=ua0.mpr ⟨w,zAm h1,h2⟩;exact ⟨c,vs,h2,Ls.of (sF' _ _ ((fv c hm).trans h3)),(h4.mono sF).mono sF'⟩
   stop:=fun H' sm=>⟨sm _ _ fa,by rw [hlen];simp⟩ }
  exact zjs fx h1 (fun z=>by rw [htp] at z;cases z) hat e2 wk hf (hw.up sF)
 rw [evS] at hf;split at hf
 .rename_i qb hsl;exact core H U qb I en hsl hf
 .rename_i qb hsl;split at hf
  .rename_i hc;cases hf;obtain ⟨H1,I1,e3⟩:=zxq I en hsl hc;refine core H1 _ [] I1 e3 (ua4 (ome hsl).1) ?_;rw [List.set_set];rfl
  .cases hf
 .cases hf
end
end
section
variable {e:Expr}
section
variable {X:Cx} {c:Tc} {G:Glo} {k:Nat} {F0 H0:Hp}
theorem zr4:PSs X [] (spS X F0 H0 (yab G [])):=by refine zi9 zsu fun D O H q=>?_;obtain ⟨U,F,o,en,hf,hw⟩:=q;rw [yab] at hf;cases hf;exact hw _ F H en (Same.refl F)
theorem zo3 {st:Stmt} {rest:List Stmt} {s:S} {ss:List S} (h1:PS X st (spS X F0 H0 (evS G s))) (h2:PSs X rest (spS X F0 H0 (yab G ss))):PSs X (st::rest) (spS X F0 H0 (yab G (s::ss))):=by
 refine zi9 (zph h1 h2) fun D O H q=>?_;obtain ⟨U,F,o,en,hf,hw⟩:=q;rw [yab] at hf;obtain ⟨o1,ho1,hf⟩:=obs hf;refine ⟨U,F,o1,en,ho1,?_⟩;cases o1 with
 | nx U'=>exact fun O' F' H' e s'=>⟨U',F',o,e,hf,hw.up s'⟩
 | rt t=>cases hf;exact hw
theorem zns (h:zf5 e=true):∃ p,e=.Dict [] [] p:=by
 cases e with
 | Dict ks vs p =>
  match ks,vs,h with
  | [],[],_=>exact ⟨p,rfl⟩
  | _::_,_,h=>cases h
  | [],_::_,h=>cases h
 | _=>cases h
theorem zgz {x:Str × Str × Pos × Pos × List Expr × Pos} (h:yek e=some x):e=.Call (.Attribute (.Name x.1 x.2.2.1) x.2.1 x.2.2.2.1) x.2.2.2.2.1 [] x.2.2.2.2.2:=by
 cases e with
 | Call f es ks cpos =>
  cases f with
  | Attribute o m apos =>
   cases o with
   | Name y p =>
    cases ks with
    | nil=>cases h;rfl
    | cons _ _=>cases h
   | _=>cases h
  | _=>cases h
 | _=>cases h
theorem zt6 (h:emL e=true):∃ p,e=.List [] p:=by
 cases e with
 | List l p =>
  cases l with
  | nil=>exact ⟨p,rfl⟩
  | cons _ _=>cases h
 | _=>cases h
theorem zsi {o k':Expr} {y:Str} (h:sdC o=some (y,k')):∃ p1 apos cpos lp,o=.Call (.Attribute (.Name y p1) "setdefault" apos) [k',.List [] lp] [] cpos/\(apos.endLine==cpos.line)=true:=by
 obtain ⟨⟨z,m,p,apos,es,cpos⟩,h1,h⟩:=obs h;have e:=zgz h1;subst e;rcases es with _ | ⟨k,_ | ⟨l,_ | ⟨_,_⟩⟩⟩
 .cases h
 .cases h
 .replace h:(if emL l&&(m==("setdefault":Str)&&apos.endLine==cpos.line) then some (z,k) else none)=some (y,k'):=h;split at h
  .rename_i hc;rw [zzn,zzn] at hc;cases h;obtain ⟨lp,rfl⟩:=zt6 hc.1;have e:=ua2 hc.2.1;subst e;exact ⟨_,_,_,lp,rfl,hc.2.2⟩
  .cases h
 .cases h
theorem zon {y:Str} (h:valC e=some y):∃ p1 apos cpos,e=.Call (.Attribute (.Name y p1) "values" apos) [] [] cpos/\(apos.endLine==cpos.line)=true:=by
 obtain ⟨⟨z,m,p,apos,es,cpos⟩,h1,h⟩:=obs h;have e:=zgz h1;subst e;rcases es with _ | ⟨_,_⟩
 .replace h:(if m==("values":Str)&&apos.endLine==cpos.line then some z else none)=some y:=h;split at h
  .rename_i hc;rw [zzn] at hc;cases h;have e:=ua2 hc.1;subst e;exact ⟨_,_,_,rfl,hc.2⟩
  .cases h
 .cases h
theorem zgq (gd:Gd X c G k) (fx:Fx X c):∀ n,(∀ st s,trS n c st=some s->PS X st (spS X F0 H0 (evS G s)))/\(∀ sts ss,ydl n c sts=some ss->PSs X sts (spS X F0 H0 (yab G ss)))
 | 0=>⟨fun _ _ h=>(by (cases h;done)),fun _ _ h=>(by (cases h;done))⟩
 | n+1=>by
  obtain ⟨i1,i2⟩:=zgq gd fx n;refine ⟨fun st s h=>?_,fun sts ss h=>?_⟩
  .cases st with
   | Assign tgs e pos =>
    match tgs,h with
    | [],h=>(cases h;done)
    | t::_::_,h =>
     cases t with
     | Subscript o _ _=>cases o<;>(cases h;done)
     | _=>(cases h;done)
    | [t],h =>
     cases t with
     | Name x px =>
      replace h:(if zac x&&(c.sc.names.lookup x==some .local||c.sc.names.lookup x==some .cell) then (yaj c.nm x).bind fun i=>if zf5 e then some (S.dnew i) else ((trV n c e).bind fun y=>if fresh y&&!yfh e then none else some (S.asg i y)) else none)=some s:=h;split at h
      .rename_i hc;simp only [Bool.and_eq_true,Bool.or_eq_true,beq_iff_eq] at hc;obtain ⟨i,h1,g1⟩:=obs h;clear h;by_cases hd:zf5 e=true
       .rw [if_pos hd] at g1;cases g1;obtain ⟨dp,rfl⟩:=zns hd;exact zo1 gd fx hc.2 h1
       .rw [if_neg hd] at g1;obtain ⟨y,h2,g2⟩:=obs g1;clear g1;by_cases hfl:(fresh y&&!yfh e)=true
        .rw [if_pos hfl] at g2;cases g2
        .rw [if_neg hfl] at g2;cases g2;cases n with
         | zero=>cases h2
         | succ m =>
          exact zr8 gd fx hc.2 h1 h2 fun hfr=>by rw [hfr,Bool.true_and] at hfl;simpa using hfl
      .cases h
     | Subscript o ke tp =>
      cases o with
      | Name x px =>
       replace h:(if ybu c.sc x&&zac x&&!yco ke then (yaj c.nm x).bind fun i=>(trV n c ke).bind fun y=>(if zik e then none else (trV n c e).bind fun z=>some (S.dput i y z)) else none)=some s:=h;split at h
       .rename_i hc;simp only [Bool.and_eq_true] at hc;obtain ⟨i,h1,g1⟩:=obs h;obtain ⟨y,h2,g2⟩:=obs g1;clear g1 h;split at g2
        .cases g2
        .rename_i hcomp;obtain ⟨z,h3,g3⟩:=obs g2;cases g3;exact zo0 gd fx hc.1.1 hc.1.2 h1 h2 h3 (by simpa using hcomp)
       .cases h
      | _=>(cases h;done)
     | _=>(cases h;done)
   | Expr e pos =>
    cases e with
    | Constant cst kk p =>
     cases cst with
     | str x=>(cases h;done)
     | _=>(cases h;done)
    | Call f es ks cpos =>
     cases f with
     | Attribute o m apos =>
      match es,ks,h with
      | [a],[],h =>
       have key:(∀ x p,o≠.Name x p)->PS X (.Expr (.Call (.Attribute o m apos) [a] [] cpos) pos) (spS X F0 H0 (evS G s)):=fun hn=>by
        replace h:(if apos.endLine==cpos.line&&m==("append":Str) then (sdC o).bind fun p=>if ybu c.sc p.1&&zac p.1 then (yaj c.nm p.1).bind fun i=>(trV n c p.2).bind fun x=>(trV n c a).bind fun y=>some (S.dapp i x y) else none else none)=some s:=by
         cases o with
         | Name x p=>exact absurd rfl (hn x p)
         | _=>exact h
        split at h
        .rename_i hc;rw [zzn] at hc;obtain ⟨⟨y,ke⟩,h1,h⟩:=obs h;split at h
         .rename_i hv;rw [zzn] at hv;obtain ⟨i,h2,h⟩:=obs h;obtain ⟨z,h3,h⟩:=obs h;obtain ⟨w,h4,h⟩:=obs h;cases h;obtain ⟨p1,ap,cp,lp,rfl,hl⟩:=zsi h1;have hm:=ua2 hc.2;subst hm;exact zo2 gd fx hv.1 hv.2 h2 h3 h4 hl hc.1
         .cases h
        .cases h
       cases o with
       | Name x px =>
         replace h:(if apos.endLine==cpos.line&&ybu c.sc x&&zac x then (yaj c.nm x).bind fun i=>(trV n c a).bind fun y=>(if m==("append":Str) then some (S.app i y) else if m==("extend":Str) then some (S.ext i y) else none) else none)=some s:=h;split at h
         .rename_i hc;simp only [Bool.and_eq_true] at hc;obtain ⟨i,h1,g1⟩:=obs h;obtain ⟨y,h2,g2⟩:=obs g1;clear g1 h;by_cases hm:(m==("append":Str))=true
          .rw [if_pos hm] at g2;have hm:=ua2 hm;subst hm;cases g2;exact zr9 gd fx hc.1.2 hc.2 h1 h2 hc.1.1
          .rw [if_neg hm] at g2;by_cases hm:(m==("extend":Str))=true
           .rw [if_pos hm] at g2;have hm:=ua2 hm;subst hm;cases g2;exact zr6 gd fx hc.1.2 hc.2 h1 h2 hc.1.1
           .rw [if_neg hm] at g2;cases g2
         .cases h
       | _=>exact key fun _ _ z=>by cases z
      | [],_,h=>cases o<;>(cases h;done)
      | [_],_::_,h=>cases o<;>(cases h;done)
      | _::_::_,_,h=>cases o<;>(cases h;done)
     | Name f p =>obtain ⟨y,h2,g⟩:=obs h;cases g;exact zr7 gd fx h2
     | _=>(cases h;done)
    | _=>(cases h;done)
   | Raise a b pos =>cases (show some S.fail=some s from h);exact zoz
   | Return e pos =>
    cases e with
    | none=>(cases h;done)
    | some e =>obtain ⟨y,h2,g⟩:=obs h;cases g;exact zr3 gd fx h2
   | If t a b pos =>obtain ⟨z,h1,g⟩:=obs h;obtain ⟨x,h2,g⟩:=obs g;obtain ⟨y,h3,g⟩:=obs g;cases g;exact zuw gd fx h1 (i2 _ _ h2) (i2 _ _ h3)
   | For tg iter body els pos =>
    cases els with
    | cons _ _=>(cases h;done)
    | nil =>
     obtain ⟨xs,h1,g⟩:=obs h;obtain ⟨is,h2,g⟩:=obs g;split at g
     .rename_i y hval;obtain ⟨i,h3,g⟩:=obs g;obtain ⟨b,h4,g⟩:=obs g;split at g
      .rename_i hc;simp only [Bool.and_eq_true] at hc;obtain ⟨⟨⟨c1,c2⟩,c3⟩,c4⟩:=hc;cases g;obtain ⟨p1,ap,cp,rfl,hl⟩:=zon hval;exact zlf gd fx h1 (by simpa using c1) (fx.ats c4 h2) c2.1 c2.2 h3 hl (i2 _ _ h4)
      .cases g
     .obtain ⟨ki,h3,g⟩:=obs g;obtain ⟨b,h4,g⟩:=obs g;split at g
      .rename_i hc;simp only [Bool.and_eq_true] at hc;obtain ⟨⟨⟨c1,c2⟩,c3⟩,c4⟩:=hc;cases g;refine zr5 gd fx h1 h2 h3 (fun e=>?_) (fun e=>?_) (fx.ats c4 h2) (i2 _ _ h4)
       .rw [e] at c1;simpa using c1
       .rw [e] at c2;simpa using c2
      .cases g
   | _=>(cases h;done)
  .cases sts with
   | nil=>cases (show some ([]:List S)=some ss from h);exact zr4
   | cons st rest =>obtain ⟨x,h1,h⟩:=obs h;obtain ⟨xs,h2,h⟩:=obs h;cases h;exact zo3 (i1 _ _ h1) (i2 _ _ h2)
end
section
variable {P:Program} {w:World} {K:W.Frag} {mg:Str->Option Value} {base:Heap} {R:Pr}
structure FnD (K:W.Frag) (mg:Str->Option Value) (f:Str) (D:Fd) (st:Stmt) (a:Addr) (fd:FuncData) (ps:List Str):Prop where
 qu:∃ x qual,Fun K x qual st a fd
 sc:FnScope (zbd (zab st)) ps (zab st)
 np:ps.length=D.np
 ns:(zbd (zab st)).length=D.ns
 tr:ydl 60 ⟨zab st,zbd (zab st)⟩ (zbq st)=some D.body
 mg:mg f=some (.ref a)
 kp:W.keepIn K (.ref a)=true
 bi:Binds K fd ps []
theorem zox {X:Cx} {D:Fd} {N:List Str} {ts:List T} {vs:List V} {F H:Hp} (hN:N.length=D.ns) (fh:Same F H) (tb:Tbk X.K F H) (r:Reps X.K F ts vs):EnvS X F H (yal D ts) (L2.start N vs) F H:=by
 have hl:=r.length;have none:∀ i s,(yal D ts)[i]?=some s->¬ i<ts.length->s=.no:=fun i s h hi=>by
  unfold yal at h;rw [uc4 (by simpa using hi)] at h;rw [List.getElem?_replicate] at h;split at h
  .cases h;rfl
  .cases h
 have some':∀ i s,(yal D ts)[i]?=some s->i<ts.length->∃ t,ts[i]?=some t/\s=.val t:=fun i s h hi=>by unfold yal at h;rw [uc5 (by simpa using hi),List.getElem?_map] at h;obtain ⟨t,h1,h2⟩:=oms h;exact ⟨t,h1,h2.symm⟩
 have noown:∀ i (u:Sl),(yal D ts)[i]?=some u->u.isOwn=true->False:=fun i u h hu=>by
  by_cases hi:i<ts.length
  .obtain ⟨t,_,e⟩:=some' i _ h hi;subst e;cases hu
  .have:=none i _ h hi;subst this;cases hu
 refine ⟨Step.refl fh,tb,?_,fun i t h=>?_,fun i u h hu=>(noown i u h hu).elim,fun i j u _ a _ h _ hu=>(noown i u h hu).elim,fun i kk h=>?_⟩
 .unfold yal L2.start;simp only [List.length_append,List.length_map,List.length_replicate];rw [hl,hN]
 .by_cases hi:i<ts.length
  .obtain ⟨u,h1,e⟩:=some' i _ h hi;cases e;obtain ⟨v,h2,h3⟩:=r.get h1;refine ⟨v,?_,h3⟩;unfold L2.start;rw [zAo (by rw [zzo,hl];exact hi),zAb,h2];rfl
  .cases none i _ h hi
 .by_cases hi:i<ts.length
  .obtain ⟨t,_,e⟩:=some' i _ h hi;cases e
  .cases none i _ h hi
def Kn (P:Program) (w:World) (K:W.Frag) (mg:Str->Option Value) (base:Heap) (R:Pr) (n:Nat) (f:Str):Prop :=
 ∃ (a:Addr) (fd:FuncData) (ps:List Str),FnOk P w K mg base CX0 n a fd ps (spT K (run R n f))/\mg f=some (.ref a)/\W.keepIn K (.ref a)=true/\Binds K fd ps []
abbrev yd2 (P:Program) (w:World) (K:W.Frag) (mg:Str->Option Value) (base:Heap) (R:Pr) (n:Nat):Prop:=∀ m,m<=n->∀ f D,ycz f=true->R.fn f=some D->Kn P w K mg base R m f
theorem zni {a:Addr} {fd:FuncData} {ps:List Str} {f:Str}:FnOk P w K mg base CX0 0 a fd ps (spT K (run R 0 f)):=by
 have no:∀ vs H Q E,¬ spT K (run R 0 f) vs H Q E:=fun vs H Q E h=>by obtain ⟨F,ts,t,_,_,_,h,_⟩:=h;cases h
 exact ⟨fun vs H Q E h=>absurd h (no vs H Q E),fun A outer s H args us vs Q E _ _ _ _ h=>absurd h (no vs H Q E)⟩
theorem zy7 {n:Nat} (ih:yd2 P w K mg base R n) (nob:∀ x∈bnames,mg x=none) (con:∀ x t,R.con x=some t->∃ u v,mg x=some u/\RelV v u/\∀ F,Rep K F t v)
  {st:Stmt} {ps:List Str} (sc:FnScope (zbd (zab st)) ps (zab st)) {qual:Str} {a:Addr} {cdv:Value} {A:Around} {outer:List PySem.Env} {s:Shared} {H:Hp} {E:XK} (hr:Room n (A.deeper (envOfC qual (zab st) s.heap.objs.size a cdv))) :
  Gd (yec CX0 P w K mg base (zbd (zab st)) qual (zab st) a cdv A outer s H E).nox ⟨zab st,zbd (zab st)⟩ (glo R (run R n)) n:={
   room:=hr
   calm:=rfl
   nob:=nob
   call:=fun g ts t hp hg=>by
    have hD:∃ D',R.fn g=some D':=by
     cases n with
     | zero=>cases hg
     | succ m =>have hg:run R (m+1) g ts=some t:=hg;rw [run] at hg;obtain ⟨D',h1,_⟩:=obs hg;exact ⟨D',h1⟩
    obtain ⟨D',hD⟩:=hD;exact ih n (zzw n) g D' hp hD
   con:=con
   vis:=fun x h=>by
    show (zab st).names.lookup x=_\/(zab st).names.lookup x=_\/(zab st).names.lookup x=_;have h:ybu (zab st) x=true:=h;unfold ybu at h;cases e:(zab st).names.lookup x with
    | none=>rw [e] at h;cases h
    | some q =>
     rw [e] at h;cases q with
     | «local»=>exact .inl rfl
     | cell=>exact .inr (.inl rfl)
     | free=>exact .inr (.inr rfl)
     | _=>cases h
   gl:=fun x h=>by show (zab st).names.lookup x=_;simpa [glB] using h
   cap:=fun x h=>h
   nd:=sc.nd }
theorem zrk {n:Nat} (ih:yd2 P w K mg base R n) (nob:∀ x∈bnames,mg x=none) (con:∀ x t,R.con x=some t->∃ u v,mg x=some u/\RelV v u/\∀ F,Rep K F t v)
  {f:Str} {D:Fd} {st:Stmt} {a:Addr} {fd:FuncData} {ps:List Str} (hf:R.fn f=some D) (d:FnD K mg f D st a fd ps):FnOk P w K mg base CX0 (n+1) a fd ps (spT K (run R (n+1) f)):=by
  obtain ⟨x,qual,FU⟩:=d.qu;have inv:∀ {ts:List T} {t:T},run R (n+1) f ts=some t->ts.length=D.np/\zaa (yab (glo R (run R n)) D.body (yal D ts))=some t:=fun {ts t} h=>by
   rw [run,hf] at h;simp only [xbs] at h;split at h
   .rename_i e;exact ⟨e,h⟩
   .cases h
  refine FU.ok d.sc (fun vs H Q E h=>?_) (fun cdv A outer s H vs Q E hr h=>?_)
  .obtain ⟨F,ts,t,fh,tb,r,h,_⟩:=h;rw [r.length,(inv h).1,d.np]
  obtain ⟨F,ts,t,fh,tb,r,h,q⟩:=h;obtain ⟨hl,he⟩:=inv h;have gd:=zy7 (outer:=outer) (H:=H) (E:=E) ih nob con d.sc hr;have fx:Fx (yec CX0 P w K mg base (zbd (zab st)) qual (zab st) a cdv A outer s H E).nox ⟨zab st,zbd (zab st)⟩:=⟨rfl,fun x h=>h,fun _=>rfl,rfl⟩;refine ⟨_,(zgq (F0:=F) (H0:=H) gd fx 60).2 _ _ d.tr,?_⟩;cases ho:yab (glo R (run R n)) D.body (yal D ts) with
  | none=>rw [ho] at he;cases he
  | some o =>
   refine ⟨yal D ts,F,o,zox d.ns fh tb r,ho,?_⟩;rw [ho] at he;cases o with
   | nx U=>cases he;exact fun O' F' H' e _=>q .non F' H' e.st rfl
   | rt t=>cases he;exact fun v F' H' s r=>q v F' H' s r
theorem zrl (L:∀ f D,ycz f=true->R.fn f=some D->(∃ st a fd ps,FnD K mg f D st a fd ps) \/
   ∃ (a:Addr) (fd:FuncData) (ps:List Str),mg f=some (.ref a)/\W.keepIn K (.ref a)=true/\Binds K fd ps []/\∀ n,yd2 P w K mg base R n->FnOk P w K mg base CX0 (n+1) a fd ps (spT K (run R (n+1) f)))
  (nob:∀ x∈bnames,mg x=none) (con:∀ x t,R.con x=some t->∃ u v,mg x=some u/\RelV v u/\∀ F,Rep K F t v):∀ n,yd2 P w K mg base R n
 | 0=>fun m hm f D hp hf=>by
  obtain rfl:m=0:=by omega
  rcases L f D hp hf with ⟨st,a,fd,ps,d⟩ | ⟨a,fd,ps,h1,h2,h3,_⟩
  .exact ⟨a,fd,ps,zni,d.mg,d.kp,d.bi⟩
  .exact ⟨a,fd,ps,zni,h1,h2,h3⟩
 | n+1=>fun m hm f D hp hf=>by
  have ih:=zrl L nob con n;by_cases hmn:m<=n
  .exact ih m hmn f D hp hf
  .obtain rfl:m=n+1:=by omega
   rcases L f D hp hf with ⟨st,a,fd,ps,d⟩ | ⟨a,fd,ps,h1,h2,h3,h4⟩
   .exact ⟨a,fd,ps,zrk ih nob con hf d,d.mg,d.kp,d.bi⟩
   .exact ⟨a,fd,ps,h4 n ih,h1,h2,h3⟩
end
end
section
theorem zmp {P:Program} {w:World} {K:W.Frag} {mg mb:Str->Option Value} {CX:CXT} {k:Nat} {fa a:Addr} {fd:FuncData} {x:Str} {sp:Sp} {s₁:Shared} {vs:List Value} {ns:List Int}
  (KX:K.In s₁.heap) (hns:s₁.heap.Ns mainGlobals mg) (hb:s₁.heap.Ns builtinsNs mb) (hbb:∀ x:Str,x≠"__name__"->mb x=bootBuiltins x) (hlim:s₁.heap.NoLimit) (hg:s₁.gens=#[])
  (ha:s₁.heap.get? a=some { cls:=.type "list",data:=.seq vs.toArray }) (hi:IntsAre vs ns) (hl:ns.length<=sizeLine) (hr:Room k callerA)
  (F:∀ base:Heap,K.In base->base.Ns mainGlobals mg->FnOk P w K mg base CX k fa fd [x] sp) (hbind:∀ (s:Shared) (u:Value),BindsTo s fd ⟨[u],[]⟩ [(x,u)])
  (hsp:∀ H:Hp,Only H->Ls K H a (ns.map V.int)->sp [.ref a] H (fun v _=>v=.bl true) fun _ _ _=>False)
  (hCX:∀ H e s',CX [] H s₁ (fun _ _ _=>False) e s'->False) :
  codeAny (model P w) callerA (.call (.ref fa) ⟨[.ref a],[]⟩) (fun r s'=>r=.ok (.ret (.bool true))/\OldK s₁.heap s'.heap/\s'.os=s₁.os/\AllBare s'.gens) s₁:=by
 have rv:=zgk hi;have lenV:=hi.length;have core:∀ H:Hp,Only H->Ls K H a (ns.map V.int)->HOk P w H s₁.heap->(∀ b,H b≠none->b=a)->(H a≠none->K.lookup a=none) ->
   codeAny (model P w) callerA (.call (.ref fa) ⟨[.ref a],[]⟩) (fun r s'=>r=.ok (.ret (.bool true))/\OldK s₁.heap s'.heap/\s'.os=s₁.os/\AllBare s'.gens) s₁:=by
  intro H hO hS hok hA hK;have base_of:∀ {b:Addr} {o:Obj},s₁.heap.get? b=some o->H b=none->(yd4 s₁.heap H).get? b=some o:=fun e n=>zp8 e n;have noA:∀ {b:Addr} {o:Obj} {es:Array DictEntry} {ep:Nat},s₁.heap.get? b=some o->o.data=.dict es ep->H b=none:=fun {b o es ep} e d=>by
   cases q:H b with
   | none=>rfl
   | some u =>have e':b=a:=hA b (by rw [q];simp);subst e';rw [ha] at e;cases e;have d':Data.seq vs.toArray _=Data.dict es ep:=d;cases d'
  have nsK:∀ {b:Addr} {m:Str->Option Value},s₁.heap.Ns b m->(yd4 s₁.heap H).Ns b m:=fun {b m} ⟨o,es,ep,e,d,r⟩=>⟨o,es,ep,base_of e (noA e d),d,r⟩;have hKb:K.In (yd4 s₁.heap H):=fun b o e=>base_of (KX b o e) (by
   cases q:H b with
   | none=>rfl
   | some u =>have e':b=a:=hA b (by rw [q];simp);subst e';rw [hK (by rw [q];simp)] at e;cases e)
  have hM:Mod K mg (yd4 s₁.heap H):=⟨hKb,nsK hns,⟨mb,nsK hb,hbb⟩,let ⟨mc,h1,h2⟩:=hlim;⟨mc,nsK h1,h2⟩⟩;have e0:Env0 P w K mg (yd4 s₁.heap H) callerA [] s₁ H:=⟨rfl,hM,fun b o e=>ztl e,Nat.le_of_eq (zm7 _ _),trivial,fun b hb=>absurd (show b∈([]:List Addr) from hb) (by simp),hok,.of_eq hg⟩;refine codeAny_mono ((F _ hKb (nsK hns)).run callerA [] s₁ H ⟨[.ref a],[]⟩ [.ref a] [.ref a] _ _ hr e0 (hbind s₁ (.ref a)) (.cons rfl .nil) (hsp H hO hS)) fun r s' h=>?_;cases r with
  | error e=>exact (hCX H e s' h).elim
  | ok fl =>
   cases fl with
   | next=>exact False.elim h
   | brk=>exact False.elim h
   | cont=>exact False.elim h
   | ret u =>
    obtain ⟨v,H',os,bare,un,hok',r',q⟩:=h;have q':v=.bl true:=q;subst q';obtain rfl:u=Value.bool true:=r';refine ⟨rfl,OldK.of_keep fun b o e=>?_,os,bare⟩;cases q:H b with
    | none=>exact un.keep b o e q (by intro z;exact absurd (show b∈([]:List Addr) from z) (by simp)) (by simp)
    | some u =>
     rcases hO b with z | ⟨ob,xs,z⟩
     .rw [q] at z;cases z
     .have z2:=un.frzs b ob _ z;obtain ⟨e1,_⟩:=hok b _ z;obtain ⟨e2,_⟩:=hok' b _ z2;rw [e] at e1;cases e1;exact e2
 cases hk:K.lookup a with
 | some o =>have e:=KX a o hk;rw [ha] at e;cases e;refine core (fun _=>none) (fun _=>.inl rfl) (.inr ⟨vs.toArray,_,hk,by rw [ua3,lenV];exact hl,by simpa using rv⟩) (fun b u z=>by have z':(none:Option HO)=some u:=z;cases z') (fun b z=>absurd rfl z) fun z=>absurd rfl z
 | none =>
  refine core (fun b=>if b=a then some (.frz { cls:=.type "list",data:=.seq vs.toArray } (.lst (ns.map V.int))) else none) (fun b=>?_) (.inl (.inr ⟨{ cls:=.type "list",data:=.seq vs.toArray },if_pos rfl⟩)) (fun b u z=>?_) (fun b z=>?_) fun _=>hk
  .by_cases hb:b=a
   .exact .inr ⟨_,_,if_pos hb⟩
   .exact .inl (if_neg hb)
  .by_cases hb:b=a
   .have z':=(if_pos hb).symm.trans z;cases z';subst hb;exact ⟨ha,by rw [zzo];exact hl,vs,_,rv,ha⟩
   .have z':=(if_neg hb).symm.trans z;cases z'
  .by_cases hb:b=a
   .exact hb
   .exact absurd (if_neg hb) z
end
section
variable {h:Heap} {x:Str} {st:Stmt} {fs:List (Str × Stmt)} {bs:List Str} {cs:List (Str × T)} {mg:Str->Option Value}
def ycq (h:Heap) (ns:Addr) (x:Str):Option (Option Value):=match h.get? ns with
 | some ⟨_,_,.dict es _,_⟩=>(match es.toList.find? (·.key.isStr x) with
   | some e=>some (some e.val)
   | none=>if es.toList.any (·.refKey) then none else some none)
 | _=>none
structure FnV where
 name:Str
 qual:Str
 params:Arguments
 body:FuncBody
 scope:Scope
 globals:Addr
 closure:List (Str × Addr)
 defaults:Value
 builtins:Addr
def fnV (f:FuncData):FnV:=⟨f.name,f.qualname,f.params,f.body,f.scope,f.globals,f.closure,f.defaults,f.builtins⟩
def yd5 (x:Str) (st:Stmt):FnV:=fnV (W.fnOf x x (zch st) (zbq st) (zab st) .none .none .none .none none .none .none)
def zhv (h:Heap) (cd:Value) (q:Str):Bool:=match cd with
 | .ref c=>(match h.get? c with
   | some ⟨_,_,.fields vs,_⟩=>(match vs.toList with | _::.str n _::_=>n==q | _=>false)
   | _=>false)
 | _=>false
def ydp (h:Heap) (x:Str):Option (FnV × Bool):=match ycq h mainGlobals x with
 | some (some (.ref a))=>(match h.get? a with
   | some ⟨_,_,.func f,_⟩=>some (fnV f,zhv h f.code x)
   | _=>none)
 | _=>none
def seeT (h:Heap):Nat->Value->Option T
 | _,.none=>some .non
 | _,.bool b=>some (.bl b)
 | _,.int i _=>some (.int i)
 | _,.str x _=>some (.str x)
 | _,_=>none
def yfg (h:Heap) (x:Str):Option T:=match ycq h mainGlobals x with
 | some (some v)=>seeT h 4 v
 | _=>none
def ybd (fs bs cs:List Str) (h:Heap):List (Option (FnV × Bool)) × List (Option (Option Value)) × List (Option T):=(fs.map (ydp h),bs.map (ycq h mainGlobals),cs.map (yfg h))
def ybc (fs:List (Str × Stmt)) (bs:List Str) (cs:List (Str × T)):List (Option (FnV × Bool)) × List (Option (Option Value)) × List (Option T):=(fs.map fun p=>some (yd5 p.1 p.2,true),bs.map fun _=>some none,cs.map fun p=>some p.2)
def zlj (fs:List (Str × Stmt)) (bs:List Str) (cs:List (Str × T)):PySem.W.Hook :=
 ⟨_,fun s=>ybd (fs.map (·.1)) bs (cs.map (·.1)) s.heap,fun _=>ybc fs bs cs,fun _ h=>∃ h0:Heap,(∀ b o,h0.get? b=some o->h.get? b=some o)/\ybd (fs.map (·.1)) bs (cs.map (·.1)) h0=ybc fs bs cs,
  fun _ s e=>⟨s.heap,fun _ _ e=>e,e⟩,fun _ _ _ ⟨h0,a,b⟩ k=>⟨h0,fun c o e=>k c o (a c o e),b⟩⟩
def KH (h:Heap):W.Frag:=(List.range h.objs.size).filterMap fun a=>(h.get? a).map fun o=>(a,o)
theorem zxg {a:Addr} {o:Obj} (e:h.get? a=some o):a<h.objs.size:=by
 by_cases hl:a<h.objs.size
 .exact hl
 .have:h.objs[a]?=none:=Array.getElem?_eq_none (Nat.le_of_not_lt hl);unfold Heap.get? at e;rw [this] at e;cases e
theorem zmn {f:Addr->Option Obj} {a:Addr}:∀ l:List Addr,((l.filterMap fun b=>(f b).map fun o=>(b,o)).lookup a)=if a∈l then f a else none
 | []=>rfl
 | b::l=>by
  have ih:=zmn (f:=f) (a:=a) l;rw [zAh];by_cases hab:a=b
  .subst hab;cases hf:f a with
   | none=>simp only [Option.map_none];rw [ih,hf];simp
   | some o=>simp only [xms];rw [List.lookup_cons];simp
  .cases hf:f b with
   | none=>simp only [Option.map_none];rw [ih];simp [hab]
   | some o =>simp only [xms];rw [List.lookup_cons,show (a==b)=false by simpa using hab,ih];simp [hab]
theorem zf2 (h:Heap) (a:Addr):(KH h).lookup a=h.get? a:=by
 unfold KH;rw [zmn];split
 .rfl
 .rename_i hn;cases e:h.get? a with
  | none=>rfl
  | some o=>exact absurd (zAt.mpr (zxg e)) hn
theorem zy1 {h':Heap} (k:∀ b o,h.get? b=some o->h'.get? b=some o):(KH h).In h':=fun a o e=>k a o (by rw [<- zf2];exact e)
theorem zp5 {ns:Addr}:W.nsIn (KH h) ns x=ycq h ns x:=by unfold W.nsIn ycq;rw [zf2];rfl
theorem ztw {cd:Value} {q:Str}:W.codeIn (KH h) cd q=zhv h cd q:=by
 unfold W.codeIn zhv;cases cd with
 | ref c=>simp only [zf2];rfl
 | _=>rfl
theorem zli (e:ydp h x=some (yd5 x st,true)):∃ f fd,W.nsIn (KH h) mainGlobals x=some (some (.ref f))/\Fun (KH h) x x st f fd:=by
 unfold ydp at e;split at e
 .rename_i a ha;split at e
  .rename_i oc od f sl ho;have e:=zz2 e;have e1:=zzz Prod.fst e;have e2:=zzz Prod.snd e;dsimp only at e1 e2;obtain ⟨n,q,p,b,sc,g,cl,df,kd,doc,pm,an,cd,ct,bi⟩:=f;unfold yd5 fnV at e1;dsimp only [W.fnOf] at e1;obtain ⟨rfl,rfl,rfl,rfl,rfl,rfl,rfl,rfl,rfl⟩:=FnV.mk.inj e1;have hl:(KH h).lookup a=some ⟨oc,od,.func (W.fnOf q q (zch st) (zbq st) (zab st) .none kd doc pm an cd ct),sl⟩:=by rw [zf2];exact ho
   refine ⟨a,_,by rw [zp5];exact ha,zxi hl (by rw [ztw];exact e2) ?_⟩;simp only [W.keepIn,hl]
  .cases e
 .cases e
theorem zq2 (e:ybd (fs.map (·.1)) bs (cs.map (·.1)) h=ybc fs bs cs) {p:Str × Stmt} (hp:p∈fs):ydp h p.1=some (yd5 p.1 p.2,true):=by have e1:=zzz Prod.fst e;unfold ybd ybc at e1;dsimp only at e1;rw [zAe] at e1;exact List.map_inj_left.mp e1 p hp
theorem zu1 (e:ybd (fs.map (·.1)) bs (cs.map (·.1)) h=ybc fs bs cs) (hx:x∈bs):ycq h mainGlobals x=some none:=by have e1:=zzz (fun p=>p.2.1) e;unfold ybd ybc at e1;dsimp only at e1;exact List.map_inj_left.mp e1 x hx
theorem zyh (e:ybd (fs.map (·.1)) bs (cs.map (·.1)) h=ybc fs bs cs) {p:Str × T} (hp:p∈cs):yfg h p.1=some p.2:=by have e1:=zzz (fun p=>p.2.2) e;unfold ybd ybc at e1;dsimp only at e1;rw [zAe] at e1;exact List.map_inj_left.mp e1 p hp
theorem zsf:∀ (n:Nat) (v:Value) (t:T),seeT h n v=some t->∃ x,RelV x v/\∀ F,Rep (KH h) F t x
 | n,.none,t,e=>by cases n<;>(cases e;exact ⟨.non,rfl,fun _=>rfl⟩)
 | n,.bool b,t,e=>by cases n<;>(cases e;exact ⟨.bl b,rfl,fun _=>rfl⟩)
 | n,.int i k,t,e=>by cases n<;>(cases e;exact ⟨.int i,⟨k,rfl⟩,fun _=>rfl⟩)
 | n,.str x k,t,e=>by cases n<;>(cases e;exact ⟨.str x,⟨k,rfl⟩,fun _=>rfl⟩)
 | n,.ref a,t,e=>by cases n<;>cases e
 | n,.float ..,t,e=>by cases n<;>cases e
 | n,.ellipsis,t,e=>by cases n<;>cases e
 | n,.notImplemented,t,e=>by cases n<;>cases e
 | n,.bytes ..,t,e=>by cases n<;>cases e
 | n,.type ..,t,e=>by cases n<;>cases e
 | n,.builtin ..,t,e=>by cases n<;>cases e
theorem zsg {h0:Heap} {t:T} (KX:(KH h0).In h) (G:h.Ns mainGlobals mg) (e:yfg h0 x=some t):∃ u v,mg x=some u/\RelV v u/\∀ F,Rep (KH h0) F t v:=by
 unfold yfg at e;split at e
 .rename_i v hv;obtain ⟨y,a,b⟩:=zsf _ _ _ e;exact ⟨v,y,W.mg_of KX G (by rw [zp5];exact hv),a,b⟩
 .cases e
structure St (x:Str) (D:Fd) (st:Stmt) (ps:List Str):Prop where
 sc:FnScope (zbd (zab st)) ps (zab st)
 np:ps.length=D.np
 ns:(zbd (zab st)).length=D.ns
 tr:ydl 60 ⟨zab st,zbd (zab st)⟩ (zbq st)=some D.body
 bi:∀ (kV doc pm:Value) (an:Option Addr) (cdv ct:Value) (us:List Value),us.length=ps.length->bindArgs (W.fnOf x x (zch st) (zbq st) (zab st) .none kV doc pm an cdv ct) ⟨us,[]⟩=pure (ps.zip us)
abbrev Tab:=List (Str × Fd × Stmt × List Str)
def Tab.fns (t:Tab):List (Str × Fd):=t.map fun p=>(p.1,p.2.1)
def Tab.sts (t:Tab):List (Str × Stmt):=t.map fun p=>(p.1,p.2.2.1)
def Tab.pr (t:Tab) (cs:List (Str × T)):Pr:=⟨fun f=>t.fns.lookup f,fun x=>cs.lookup x⟩
theorem zfy {α:Type}:∀ {l:List (Str × α)} {f:Str} {D:α},l.lookup f=some D->(f,D)∈l
 | [],_,_,h=>by cases h
 | (g,E)::l,f,D,h=>by
  rw [zAj] at h;split at h
  .rename_i e;cases h;rw [ua2 e];exact zzt
  .exact zzq _ (zfy h)
theorem zwl {F H:Hp} (e:ycq h mainGlobals "_law_spoilt"=some none):Tbk (KH h) F H:=fun p q=>by unfold yey at q;rw [zp5,e] at q;cases q
theorem zol {l:PySem.W.OpenLaw} {n k:Nat} {q:Program} {loose:List Str} {XP:(Str->Option Value)->Heap->Prop} {d:DefRec} {R:Pr}
  (hn:l.most=some n) (hn2:n<=sizeLine) (hdf:d.params.defaults=[]) (hr:Room k callerA)
  (F:∀ (w:World) (mg:Str->Option Value) (fa:Addr) (h0 h:Heap),(KH h0).In h->ybd (fs.map (·.1)) bs (cs.map (·.1)) h0=ybc fs bs cs->h.Ns mainGlobals mg->mg d.name=some (.ref fa) ->
   ∃ fd:FuncData,(∀ (s:Shared) (u:Value),BindsTo s fd ⟨[u],[]⟩ [(x,u)])/\∀ base:Heap,(KH h0).In base->base.Ns mainGlobals mg->FnOk l.prog w (KH h0) mg base CX0 k fa fd [x] (spT (KH h0) (run R k "law")))
  (hsp:("_law_spoilt":Str)∈bs) (law:∀ ns:List Int,ns.length<=n->run R k "law" [.lst (ns.map .int)]=some (.bl true)) :
  PySem.W.WalkO q loose XP (zlj fs bs cs).says l.row.toRowW d [] (fun f vs=>PySem.call f vs):=by
 refine Att.attach_call hn hdf fun w s₀ s₁ mg mb fa o pm cd doc a vs ns G Y ho hd hcd hmg hobj hints hlen hg=>?_;obtain ⟨h0,k0,e0⟩:=Y;have KX:=zy1 k0;obtain ⟨fd,hb,hF⟩:=F w mg fa h0 _ KX e0 G.T.g hmg;exact zmp KX G.T.g G.T.b G.T.builtins G.T.nolimit hg hobj hints (zz8 hlen hn2) hr hF hb (fun H hO hS=>by
  have ri:∀ ns:List Int,Reps (KH h0) H (ns.map .int) (ns.map V.int):=fun ns=>by
   induction ns with
   | nil=>exact rfl
   | cons i r ih=>exact ⟨_,_,rfl,rfl,ih⟩
  exact ⟨H,[.lst (ns.map .int)],.bl true,Same.refl H,zwl (zu1 e0 hsp),⟨_,_,rfl,⟨a,_,rfl,hS,ri ns⟩,rfl⟩,law ns hlen,fun v F' H' _ r=>r⟩) fun H e s' z=>z
theorem zum {P:Program} {w:World} {fa:Addr} {h0:Heap} {tab:Tab} {D:Fd} {k:Nat} (hst:∀ p∈tab,St p.1 p.2.1 p.2.2.1 p.2.2.2) (KX:(KH h0).In h)
  (e0:ybd (tab.sts.map (·.1)) ("_law_spoilt"::bnames) (cs.map (·.1)) h0=ybc tab.sts ("_law_spoilt"::bnames) cs) (G:h.Ns mainGlobals mg) (hfa:mg "law"=some (.ref fa)) (hl:(("law":Str),D,st,[x])∈tab) (hD:tab.fns.lookup ("law":Str)=some D) :
  ∃ fd:FuncData,(∀ (s:Shared) (u:Value),BindsTo s fd ⟨[u],[]⟩ [(x,u)])/\∀ base:Heap,(KH h0).In base->base.Ns mainGlobals mg->FnOk P w (KH h0) mg base CX0 (k+1) fa fd [x] (spT (KH h0) (run (tab.pr cs) (k+1) "law")):=by
 have nob:∀ x∈bnames,mg x=none:=fun x hx=>PySem.W.mg_none_of KX G (by rw [zp5];exact zu1 e0 (zzq _ hx));have C:∀ x t,(tab.pr cs).con x=some t->∃ u v,mg x=some u/\RelV v u/\∀ F,Rep (KH h0) F t v:=fun x t h=>zsg KX G (zyh (p:=(x,t)) e0 (zfy h));have one:∀ p∈tab,∃ a fd,FnD (KH h0) mg p.1 p.2.1 p.2.2.1 a fd p.2.2.2:=fun p hp=>by obtain ⟨f,fd,h1,F⟩:=zli (zq2 (p:=(p.1,p.2.2.1)) e0 (ua0.mpr ⟨p,hp,rfl⟩));have S:=hst p hp;exact ⟨f,fd,⟨_,_,F⟩,S.sc,S.np,S.ns,S.tr,W.mg_of KX G h1,F.kp,F.binds S.bi⟩
 have L:∀ f D,(tab.pr cs).fn f=some D->∃ st a fd ps,FnD (KH h0) mg f D st a fd ps:=fun f D hf=>by obtain ⟨p,hp,e⟩:=omm (zfy (show tab.fns.lookup f=some D from hf));cases e;obtain ⟨a,fd,M⟩:=one p hp;exact ⟨_,_,_,_,M⟩
 obtain ⟨f,fd,h1,F⟩:=zli (zq2 (p:=(("law":Str),st)) e0 (ua0.mpr ⟨(("law":Str),D,st,[x]),hl,rfl⟩));have hm:=W.mg_of KX G h1;rw [hfa] at hm;cases hm;have S:=hst _ hl;have M:FnD (KH h0) mg "law" D st fa fd [x]:=⟨⟨_,_,F⟩,S.sc,S.np,S.ns,S.tr,hfa,F.kp,F.binds S.bi⟩;refine ⟨fd,fun s u=>?_,fun base _ _=>zrk (zrl (fun f D _ hf=>.inl (L f D hf)) nob C k) nob C hD M⟩;obtain ⟨oc,od,kV,doc,pm,an,cdv,ct,osl,rfl,_,_⟩:=F.ex;exact .of_eq (S.bi kV doc pm an cdv ct [u] rfl)
theorem ziy:∀ (ps:List Str) (us:List Value),us.length=ps.length->∀ n∈ps,((ps.zip us).lookup n).isNone=false
 | p::ps,u::us,hl,n,hn=>by
  rw [List.zip_cons_cons,zAj];cases e:n==p with
  | true=>rfl
  | false=>exact ziy ps us (by simpa using hl) n ((omc hn).resolve_left fun z=>by subst z;simp at e)
theorem zqz:∀ (ps:List Str) (us:List Value),us.length=ps.length->ps.Nodup->ps.filterMap (fun n=>((ps.zip us).lookup n).map (n,·))=ps.zip us
 | [],us,_,_=>by cases us<;>rfl
 | p::ps,u::us,hl,hn=>by
  rw [ua7] at hn;rw [List.zip_cons_cons,zAh,zAj,ua9];simp only [xms];congr 1;refine Eq.trans (zjt fun n h=>?_) (zqz ps us (by simpa using hl) hn.2);rw [zAj];cases e:n==p with
  | true=>rw [ua2 e] at h;exact absurd h hn.1
  | false=>rfl
theorem zkw {fd:FuncData} {as:List Arg} {us:List Value} (h:fd.params=⟨[],as,none,[],[],none,[]⟩) (hd:fd.defaults=.none) (hn:(as.map (·.arg)).Nodup) (hl:us.length=(as.map (·.arg)).length):bindArgs fd ⟨us,[]⟩=pure ((as.map (·.arg)).zip us):=by
 have e1:((as.map (·.arg)).filter fun n=>(((as.map (·.arg)).zip us).lookup n).isNone)=[]:=List.filter_eq_nil_iff.mpr fun n hn=>by rw [ziy _ us hl n hn];simp
 have e2:=zqz _ us hl hn;have e3:seqItems? Value.none=(pure none:Sem _):=rfl;unfold bindArgs;rw [h,hd];dsimp only;generalize as.map (·.arg)=ps at hn hl e1 e2 ⊢;simp only [xmn,List.nil_append,List.append_nil,List.forIn_nil,pure_bind,e3,Option.getD_none,List.length_nil,hl,gt_iff_lt,Nat.lt_irrefl,decide_false,Bool.false_and,Bool.false_eq_true,if_false,Nat.zero_sub,List.drop_zero,Nat.sub_zero,List.take_length,e1,List.isEmpty_nil,Bool.not_true,List.drop_length,List.zip_nil_left,e2]
 done
noncomputable def yf8 (D:Fd) (st:Stmt) (ps:List Str):Bool :=
 (zab st).kind==.function&&!(zab st).isCoroutine&&!(zab st).isGenerator&&decide ((zbd (zab st)).Nodup)&&decide ((zbd (zab st)).take ps.length=ps) &&
 (ps.all fun x=>(zab st).names.lookup x==some .local||(zab st).names.lookup x==some .cell)&&((zab st).names.all fun y=>!(y.2==.free)) &&
 decide (ps.length=D.np)&&decide ((zbd (zab st)).length=D.ns) &&
 (match zch st with | ⟨[],as,none,[],[],none,[]⟩=>decide (as.map (·.arg)=ps) | _=>false)
theorem zye {D:Fd} {ps:List Str} (h:yf8 D st ps=true) (tr:ydl 60 ⟨zab st,zbd (zab st)⟩ (zbq st)=some D.body):St x D st ps:=by
 unfold yf8 at h;simp only [Bool.and_eq_true,Bool.not_eq_true',decide_eq_true_eq,beq_iff_eq] at h;obtain ⟨⟨⟨⟨⟨⟨⟨⟨⟨h1,h2⟩,h3⟩,h4⟩,h5⟩,h6⟩,h7⟩,h8⟩,h9⟩,h10⟩:=h;have hnd:ps.Nodup:=by rw [<- h5];exact h4.sublist (List.take_sublist _ _)
 refine ⟨⟨h1,h2,h3,h4,h5,fun y hy=>by simpa using oml h6 y hy,fun y hy=>by simpa using oml h7 y hy⟩,h8,h9,tr,fun kV doc pm an cdv ct us hl=>?_⟩;split at h10
 .rename_i as ha;rw [zAu] at h10;subst h10;exact zkw ha rfl hnd hl
 .cases h10
end
end Ev
namespace Ev.K04
open PySem
section
variable {P:Pr}
noncomputable def zan:Fd:=⟨3,4,[.asg 3 (.comp (.idx (.var 0) (.cst (.int 0))) 1 .plain [.idx (.var 0) (.cst (.int 1))] none),
  .ret (.blt .toTuple (.comp (.idx (.var 2) (.mth .index (.var 4) (.var 0))) 1 .plain [.var 2] none))]⟩
noncomputable def zbm:Fd:=⟨3,4,[.asg 3 (.idx (.var 1) (.cst (.int 0))),
  .ite (.cmp .eq (.var 3) (.cst (.str "not"))) [.ret (.call "opposite" [.call "holds" [.var 0,.idx (.var 1) (.cst (.int 1)),.var 2]])] [],
  .ite (.lor (.cmp .eq (.var 3) (.cst (.str "and"))) (.cmp .eq (.var 3) (.cst (.str "or")))) [.ret (.call "joined" [.cmp .eq (.var 3) (.cst (.str "or")),.comp (.call "holds" [.var 1,.var 0,.var 3]) 1 .plain [.sli (.var 1) (some (.cst (.int 1))) none] none])] [],
  .ite (.cmp .eq (.var 3) (.cst (.str "empty"))) [.ret (.cmp .eq (.call "worths_of" [.var 0,.var 2,.sli (.var 1) (some (.cst (.int 1))) none]) (.tup [.cst .non]))] [],
  .ite (.cmp .eq (.var 3) (.cst (.str "is"))) [.ret (.call "compared" [.var 3,.bin .add (.call "worths_of" [.var 0,.var 2,.sli (.var 1) (some (.cst (.int 1))) (some (.cst (.int 2)))]) (.sli (.var 1) (some (.cst (.int 2))) none)])] [],
  .ret (.call "compared" [.var 3,.call "worths_of" [.var 0,.var 2,.sli (.var 1) (some (.cst (.int 1))) none]])]⟩
noncomputable def zbr:Fd:=⟨1,1,[.ite (.cmp .isN (.var 0) (.cst .non)) [.ret (.cst .non)] [],
  .ret (.lnot (.var 0))]⟩
noncomputable def ze7:List S:=[.ite (.cmp .isin (.var 0) (.var 1)) [.ret (.var 0)] [],
  .ite (.cmp .isin (.cst .non) (.var 1)) [.ret (.cst .non)] [],
  .ret (.lnot (.var 0))]
noncomputable def zdn:Fd:=⟨2,2,ze7⟩
noncomputable def zay:Fd:=⟨2,2,[.ite (.cmp .isin (.cst .non) (.var 1)) [.ret (.cst .non)] [],
  .ite (.cmp .eq (.var 0) (.cst (.str "is"))) [.ret (.cmp .eq (.idx (.var 1) (.cst (.int 0))) (.idx (.var 1) (.cst (.int 1))))] [],
  .ret (.cmp .lt (.idx (.var 1) (.cst (.int 0))) (.idx (.var 1) (.cst (.int 1))))]⟩
noncomputable def za7:Fd:=⟨2,2,[.ite (.cmp .lt (.var 1) (.blt .len (.var 0))) [.ret (.idx (.var 0) (.var 1))] [],
  .ret (.cst (.int 0))]⟩
noncomputable def zcj:Fd:=⟨2,3,[.asg 2 (.bin .mod (.bin .mul (.bin .add (.bin .add (.call "_law_cell_at" [.var 0,.var 1]) (.bin .mul (.cst (.int 7919)) (.var 1))) (.cst (.int 1))) (.cst (.int 48271))) (.cst (.int 2147483647))),
  .ret (.bin .mod (.bin .add (.bin .add (.bin .mul (.var 2) (.var 2)) (.bin .mul (.cst (.int 7)) (.var 2))) (.var 1)) (.cst (.int 2147483629)))]⟩
noncomputable def zaq:Fd:=⟨2,3,[.asg 2 (.bin .mod (.bin .mul (.bin .add (.bin .add (.var 0) (.bin .mul (.cst (.int 104729)) (.var 1))) (.cst (.int 17))) (.cst (.int 69621))) (.cst (.int 2147483647))),
  .ret (.bin .mod (.bin .add (.bin .add (.bin .mul (.var 2) (.var 2)) (.bin .mul (.cst (.int 3)) (.var 2))) (.var 1)) (.cst (.int 2147483629)))]⟩
noncomputable def zbl:Fd:=⟨1,1,[.ret (.comp (.idx (.var 0) (.cst (.int 0))) 1 .plain [.idx (.var 0) (.cst (.int 1))] none)]⟩
noncomputable def zcv:List S:=[.ret (.idx (.comp (.var 0) 1 .plain [.var 0] (some (.cmp .eq (.idx (.var 0) (.cst (.int 0))) (.var 2)))) (.cst (.int 0)))]
noncomputable def zc8:Fd:=⟨2,2,zcv⟩
noncomputable def zca:Fd:=⟨2,2,[.ret (.blt .toTuple (.comp (.idx (.var 2) (.mth .index (.call "_law_names" [.var 1]) (.var 0))) 1 .plain [.idx (.var 0) (.cst (.int 2))] none))]⟩
noncomputable def zby:Fd:=⟨3,4,[.asg 3 (.blt .toTuple (.comp (.idx (.var 2) (.mth .index (.call "_law_names" [.var 1]) (.var 0))) 1 .plain [.var 2] none)),
  .ret (.idx (.lst [.var 3,.cst .non]) (.blt .toInt (.cmp .isin (.cst .non) (.var 3))))]⟩
noncomputable def zau:Fd:=⟨3,9,[.asg 3 (.idx (.var 0) (.cst (.int 1))),
  .asg 4 (.idx (.var 3) (.bin .mod (.bin .fdiv (.var 1) (.cst (.int 8))) (.blt .len (.var 3)))),
  .asg 5 (.bin .mod (.var 1) (.cst (.int 8))),
  .ite (.land (.cmp .gt (.var 2) (.cst (.int 1))) (.cmp .gt (.var 5) (.cst (.int 4)))) [.asg 6 (.comp (.call "_law_test" [.var 1,.bin .fdiv (.call "_law_drawn" [.var 2,.var 0]) (.cst (.int 4)),.bin .sub (.var 3) (.cst (.int 1))]) 1 .plain [.tup [.cst (.int 1),.cst (.int 2)]] none),
  .ret (.idx (.lst [.tup [.cst (.str "not"),.idx (.var 6) (.cst (.int 0))],.tup [.cst (.str "and"),.idx (.var 6) (.cst (.int 0)),.idx (.var 6) (.cst (.int 1))],.tup [.cst (.str "or"),.idx (.var 6) (.cst (.int 0)),.idx (.var 6) (.cst (.int 1))]]) (.bin .sub (.var 5) (.cst (.int 5))))] [],
  .ite (.cmp .eq (.var 5) (.cst (.int 0))) [.ret (.tup [.cst (.str "empty"),.idx (.var 4) (.cst (.int 0))])] [],
  .asg 7 (.comp (.idx (.var 0) (.cst (.int 0))) 1 .plain [.var 3] (some (.cmp .eq (.idx (.var 0) (.cst (.int 1))) (.idx (.var 5) (.cst (.int 1)))))),
  .ite (.cmp .eq (.var 5) (.cst (.int 1))) [.ret (.tup [.cst (.str "below"),.idx (.var 4) (.cst (.int 0)),.idx (.var 7) (.bin .mod (.bin .fdiv (.var 1) (.cst (.int 64))) (.blt .len (.var 7)))])] [],
  .asg 8 (.idx (.lst [.tup [.cst (.int 0),.cst (.int 1),.cst (.int 2),.cst (.int 3),.neg (.cst (.int 5)),.cst (.int 999)],.tup [.cst (.str ""),.cst (.str "a"),.cst (.str "b"),.cst (.str "ab"),.cst (.str "x9"),.cst (.str "zzzzzz")]]) (.blt .toInt (.cmp .eq (.idx (.var 4) (.cst (.int 1))) (.cst (.str "text"))))),
  .ret (.tup [.cst (.str "is"),.idx (.var 4) (.cst (.int 0)),.idx (.var 8) (.bin .mod (.bin .fdiv (.var 1) (.cst (.int 64))) (.cst (.int 6)))])]⟩
noncomputable def yc4:List S:=[.asg 6 (.bin .fdiv (.call "_law_drawn" [.var 1,.bin .add (.cst (.int 10)) (.var 4)]) (.cst (.int 4))),
  .ite (.cmp .gt (.bin .mod (.var 6) (.cst (.int 4))) (.cst (.int 0))) [.app 3 (.tup [.var 5,.idx (.var 2) (.bin .mod (.bin .fdiv (.var 6) (.cst (.int 4))) (.cst (.int 6))),.cmp .gt (.bin .mod (.bin .fdiv (.var 6) (.cst (.int 32))) (.cst (.int 3))) (.cst (.int 0))])] []]
noncomputable def za8:Fd:=⟨2,10,[.asg 2 (.tup [.cst (.str "whole"),.cst (.str "whole"),.cst (.str "text"),.cst (.str "whole"),.cst (.str "text"),.cst (.str "whole")]),
  .asg 3 (.lst [.tup [.cst (.str "id"),.idx (.var 2) (.bin .mod (.var 1) (.cst (.int 6))),.cst (.bl false)]]),
  .loop [4,5] .enum [.tup [.cst (.str "n"),.cst (.str "t"),.cst (.str "u")]] yc4,
  .asg 7 (.comp (.idx (.var 0) (.cst (.int 0))) 1 .plain [.var 3] (some (.lnot (.tru (.idx (.var 0) (.cst (.int 2))))))),
  .asg 8 (.tup [.cst (.str "id")]),
  .ite (.land (.cmp .eq (.bin .mod (.bin .fdiv (.var 1) (.cst (.int 8))) (.cst (.int 4))) (.cst (.int 0))) (.cmp .gt (.blt .len (.var 7)) (.cst (.int 1)))) [.asg 8 (.idx (.lst [.tup [.cst (.str "id"),.idx (.var 7) (.cst (.int 1))],.tup [.idx (.var 7) (.cst (.int 1)),.cst (.str "id")]]) (.bin .mod (.bin .fdiv (.var 1) (.cst (.int 32))) (.cst (.int 2))))] [],
  .asg 9 (.bin .mod (.bin .fdiv (.var 1) (.cst (.int 64))) (.blt .len (.var 3))),
  .ret (.tup [.var 0,.blt .toTuple (.bin .add (.sli (.var 3) (some (.var 9)) none) (.sli (.var 3) none (some (.var 9)))),.var 8,.tup []])]⟩
noncomputable def za4:Fd:=⟨2,6,[.asg 2 (.lst [.tup []]),
  .loop [3] .plain [.var 1] [.asg 4 (.lst []),
  .loop [5] .plain [.var 2] [.asg 4 (.bin .add (.var 4) (.comp (.bin .add (.var 6) (.tup [.idx (.var 0) (.cst (.int 0))])) 1 .plain [.idx (.var 0) (.cst (.int 1))] (some (.land (.cmp .eq (.idx (.var 0) (.cst (.int 1))) (.var 4)) (.cmp .notin (.idx (.var 0) (.cst (.int 0))) (.var 6))))))],
  .asg 2 (.var 4)],
  .ret (.var 2)]⟩
noncomputable def zax:Fd:=⟨3,11,[.asg 3 (.idx (.var 0) (.bin .mod (.bin .fdiv (.var 2) (.cst (.int 8))) (.blt .len (.var 0)))),
  .asg 4 (.comp (.idx (.comp (.idx (.var 0) (.cst (.int 1))) 1 .plain [.idx (.var 4) (.cst (.int 1))] (some (.cmp .eq (.idx (.var 0) (.cst (.int 0))) (.var 1)))) (.cst (.int 0))) 1 .plain [.idx (.var 3) (.cst (.int 2))] none),
  .asg 5 (.call "_law_pairs" [.var 1,.var 4]),
  .ite (.land (.cmp .lt (.bin .mod (.var 2) (.cst (.int 8))) (.cst (.int 5))) (.cmp .ne (.var 5) (.lst []))) [.asg 6 (.idx (.var 5) (.bin .mod (.bin .fdiv (.var 2) (.cst (.int 64))) (.blt .len (.var 5)))),
  .asg 7 (.idx (.tup [.cst (.str "along"),.cst (.str "stop"),.cst (.str "late"),.cst (.str "gap"),.cst (.str "along"),.cst (.str "gap")]) (.bin .mod (.bin .fdiv (.var 2) (.cst (.int 1024))) (.cst (.int 6)))),
  .asg 8 (.comp (.var 0) 1 .plain [.idx (.var 1) (.cst (.int 1))] (some (.land (.cmp .isin (.idx (.var 0) (.cst (.int 0))) (.var 7)) (.lnot (.tru (.idx (.var 0) (.cst (.int 2)))))))),
  .ite (.land (.cmp .ne (.var 8) (.lst [])) (.cmp .eq (.var 7) (.cst (.str "gap")))) [.asg 7 (.cst (.str "late"))] [],
  .ret (.tup [.cst (.str "refers"),.var 6,.idx (.var 3) (.cst (.int 0)),.var 7])] [],
  .asg 9 (.comp (.idx (.var 0) (.cst (.int 0))) 1 .plain [.idx (.var 1) (.cst (.int 1))] none),
  .ite (.cmp .eq (.bin .mod (.var 2) (.cst (.int 8))) (.cst (.int 5))) [.asg 10 (.bin .mod (.bin .fdiv (.var 2) (.cst (.int 64))) (.blt .len (.var 9))),
  .ret (.tup [.cst (.str "unlike"),.sli (.bin .add (.sli (.var 9) (some (.var 10)) none) (.sli (.var 9) none (some (.var 10)))) none (some (.bin .add (.cst (.int 1)) (.bin .mod (.bin .fdiv (.var 2) (.cst (.int 1024))) (.cst (.int 2)))))])] [],
  .ret (.tup [.cst (.str "check"),.call "_law_test" [.var 1,.bin .fdiv (.var 2) (.cst (.int 64)),.bin .add (.cst (.int 1)) (.bin .mod (.bin .fdiv (.var 2) (.cst (.int 1024))) (.cst (.int 3)))]])]⟩
noncomputable def zb5:Fd:=⟨1,11,[.asg 1 (.lst [.cst (.str "item"),.cst (.str "user"),.cst (.str "box"),.cst (.str "log")]),
  .asg 2 (.bin .mod (.var 0) (.cst (.int 4))),
  .asg 1 (.sli (.bin .add (.sli (.var 1) (some (.var 2)) none) (.sli (.var 1) none (some (.var 2)))) none (some (.idx (.tup [.cst (.int 2),.cst (.int 1),.cst (.int 3),.cst (.int 4),.cst (.int 2),.cst (.int 3)]) (.bin .mod (.bin .fdiv (.var 0) (.cst (.int 4))) (.cst (.int 6)))))),
  .asg 4 (.comp (.call "_law_bare" [.var 1,.bin .fdiv (.call "_law_drawn" [.var 2,.var 0]) (.cst (.int 4))]) 2 .enum [.var 1] none),
  .asg 5 (.tup []),
  .loop [3,6] .enum [.var 4] [.asg 7 (.bin .fdiv (.call "_law_drawn" [.var 0,.bin .add (.cst (.int 20)) (.var 3)]) (.cst (.int 4))),
  .asg 8 (.lst []),
  .loop [9] .range [.idx (.tup [.cst (.int 1),.cst (.int 2),.cst (.int 0),.cst (.int 1),.cst (.int 3)]) (.bin .mod (.var 7) (.cst (.int 5)))] [.app 8 (.call "_law_rule" [.var 4,.var 6,.bin .fdiv (.call "_law_drawn" [.var 7,.var 9]) (.cst (.int 4))])],
  .asg 10 (.blt .toTuple (.comp (.bin .add (.tup [.idx (.var 0) (.cst (.int 0)),.blt .toTuple (.idx (.var 0) (.cst (.int 1)))]) (.sli (.var 0) (some (.cst (.int 2))) none)) 1 .plain [.var 8] none)),
  .asg 5 (.bin .add (.var 5) (.tup [.bin .add (.sli (.var 6) none (some (.cst (.int 3)))) (.tup [.var 10])]))],
  .ret (.var 5)]⟩
noncomputable def zao:Fd:=⟨2,2,[.ite (.land (.tru (.idx (.var 0) (.cst (.int 2)))) (.cmp .eq (.bin .mod (.var 1) (.cst (.int 4))) (.cst (.int 0)))) [.ret (.cst .non)] [],
  .ite (.cmp .eq (.idx (.var 0) (.cst (.int 1))) (.cst (.str "text"))) [.ret (.idx (.lst [.cst (.str "a"),.cst (.str "b"),.cst (.str ""),.cst (.str "ab"),.cst (.str "a"),.cst (.str "x9")]) (.bin .mod (.bin .fdiv (.var 1) (.cst (.int 4))) (.cst (.int 6))))] [],
  .ret (.idx (.lst [.cst (.int 0),.cst (.int 1),.cst (.int 2),.cst (.int 3),.cst (.int 1),.cst (.int 2),.cst (.int 4),.neg (.cst (.int 5))]) (.bin .mod (.bin .fdiv (.var 1) (.cst (.int 4))) (.cst (.int 8))))]⟩
noncomputable def zd1:List S:=[.ret (.blt .toTuple (.comp (.call "_law_worth" [.var 1,.bin .fdiv (.call "_law_drawn" [.var 3,.var 0]) (.cst (.int 4))]) 2 .enum [.idx (.var 0) (.cst (.int 1))] none))]
noncomputable def zdm:Fd:=⟨2,2,zd1⟩
theorem zaf {n:Nat} {f:Str} {D:Fd} {ts:List T} (h:P.fn f=some D) (hl:ts.length=D.np):run P (n+1) f ts=zaa (yab (glo P (run P n)) D.body (yal D ts)):=by rw [run,h];simp [hl]
noncomputable def yam (a k:Int):Int:=((a+104729*k+17)*69621%2147483647*((a+104729*k+17)*69621%2147483647)+3*((a+104729*k+17)*69621%2147483647)+k)%2147483629
noncomputable def ybw (a k:Int):Int:=((a+7919*k+1)*48271%2147483647*((a+7919*k+1)*48271%2147483647)+7*((a+7919*k+1)*48271%2147483647)+k)%2147483629
theorem zen {a:Int} (h0:0<=a) (h1:a<2147483647):yct a=true:=by unfold yct;rw [zz0 (by omega),zz0 (by omega)];rfl
theorem zgr (a:Int):yct (a%2147483647)=true:=zen (uc7 _ (by decide)) (uc0 _ (by decide))
theorem zbx (h:P.fn "_law_drawn"=some zaq) (n:Nat) (a k:Int):run P (n+1) "_law_drawn" [.int a,.int k]=some (.int (yam a k)):=by rw [zaf h rfl];simp [zaq,yab,evS,evE,yal,ygl,yae,yah,Sl.get,Sl.frz,ya0,ybp,yd7,ybh,yap,fresh,zaa,glo,SZ,zgr,zen,yam]
noncomputable def ybz (ns:List Int) (k:Nat):Int:=ns.getD k 0
theorem zbj {xs:List T} {k:Nat} {t:T} (h:xs[k]?=some t):ybk xs (k:Int)=some t:=by have hk:k<xs.length:=(ome h).1;unfold ybk ixI;rw [if_pos (by omega),if_pos (by omega)];simpa using h
theorem zqs (h:P.fn "_law_cell_at"=some za7) (n:Nat) (ns:List Int) (k:Nat):run P (n+1) "_law_cell_at" [.lst (ns.map .int),.int (k:Int)]=some (.int (ybz ns k)):=by
 rw [zaf h rfl];by_cases hk:k<ns.length
 .have e:ybk (ns.map T.int) (k:Int)=some (.int (ybz ns k)):=zbj (by simp [ybz,hk]);have hd:decide ((k:Int)<(ns.length:Int))=true:=zz0 (by omega);simp [za7,yab,evS,evE,yal,ygl,yae,yah,Sl.get,Sl.frz,zaa,yay,yai,ya6,glo,ltC,hk,e]
 .have e:ybz ns k=0:=by simp [ybz,List.getD_eq_getElem?_getD,List.getElem?_eq_none (Nat.le_of_not_lt hk)]
  simp [za7,yab,evS,evE,yal,ygl,yae,yah,Sl.get,Sl.frz,zaa,yay,yai,ya6,glo,ltC,hk,e]
theorem zgy (hc:P.fn "_law_cell_at"=some za7) (h:P.fn "_law_mixed"=some zcj) (n:Nat) (ns:List Int) (k:Nat):run P (n+2) "_law_mixed" [.lst (ns.map .int),.int (k:Int)]=some (.int (ybw (ybz ns k) k)):=by rw [zaf h rfl];have e:=zqs hc n ns k;simp [zcj,yab,evS,evE,yad,yal,ygl,yae,yah,yaq,Sl.get,Sl.frz,ya0,ybp,yd7,ybh,yap,fresh,zaa,glo,SZ,zgr,zen,ybw,e]
structure Col where
 n:Str
 k:Str
 g:Bool
noncomputable def Col.t (c:Col):T:=.tup [.str c.n,.str c.k,.bl c.g]
noncomputable def kinds6:List Str:=["whole", "whole", "text", "whole", "text", "whole"]
noncomputable def yau (i:Int):Str:=kinds6.getD (i%6).toNat "whole"
theorem zqd {xs:List T} {m:Nat} (hm:xs.length=m) (h0:0<m) (i:Int):ybk xs (i%(m:Int))=some (xs.getD (i%(m:Int)).toNat .non):=by have h1:0<=i%(m:Int):=uc7 _ (by omega);have h2:i%(m:Int)<(m:Int):=uc0 _ (by omega);unfold ybk ixI;rw [if_pos h1,if_pos (by omega)];simp only [xbs,List.getD_eq_getElem?_getD];rw [zzm (by omega)];rfl
theorem zfo (i:Int):ybk [.str "whole",.str "whole",.str "text",.str "whole",.str "text",.str "whole"] (i%6)=some (.str (yau i)):=by
 have h1:0<=i%6:=uc7 _ (by decide);have h2:i%6<6:=uc0 _ (by decide);have e:=zqd (xs:=[.str "whole",.str "whole",.str "text",.str "whole",.str "text",.str "whole"]) (m:=6) rfl (by decide) i;have e':((6:Nat):Int)=6:=rfl;rw [e'] at e;rw [e,yau,kinds6];have:(i%6).toNat=0\/(i%6).toNat=1\/(i%6).toNat=2\/(i%6).toNat=3\/(i%6).toNat=4\/(i%6).toNat=5:=by omega
 rcases this with z | z | z | z | z | z<;>rw [z]<;>rfl
noncomputable def ybo (k j:Int) (nm:Str):List Col:=if 0<yam k (10+j)/4%4 then [⟨nm,yau (yam k (10+j)/4/4),decide (0<yam k (10+j)/4/32%3)⟩] else []
noncomputable def yaa (k:Int):List Col:=[⟨"id",yau k,false⟩]++(ybo k 0 "n"++(ybo k 1 "t"++ybo k 2 "u"))
end
section
variable {G:Glo} {ss:List S} {U:List Sl} {t:T}
theorem zat {s:S} {U':List Sl} (h:evS G s U=some (.nx U')):yab G (s::ss) U=yab G ss U':=by rw [yab,h];rfl
theorem zeo {s:S} (h:evS G s U=some (.rt t)):yab G (s::ss) U=some (.rt t):=by rw [yab,h];rfl
theorem zas {i:Nat} {e:E} {U':List Sl} (h0:yae (yah e) U=U) (h1:evE G e (ygl U)=some t) (h2:U.set i (yap e t)=U'):yab G (.asg i e::ss) U=yab G ss U':=zat (by rw [evS,h0,h1,<- h2];rfl)
theorem zaz {e:E} (h0:yae (yah e) U=U) (h1:evE G e (ygl U)=some t):yab G (.ret e::ss) U=some (.rt t):=zeo (by rw [evS,h0,h1];rfl)
theorem zbc {c:E} {a:List S} (h0:yae (yah c) U=U) (h1:evE G c (ygl U)=some (.bl false)):yab G (.ite c a []::ss) U=yab G ss U:=zat (by rw [evS,h0,h1];rfl)
theorem zcq {c:E} {a b:List S} (h0:yae (yah c) U=U) (h1:evE G c (ygl U)=some (.bl true)) (h2:yab G a U=some (.rt t)):yab G (.ite c a b::ss) U=some (.rt t):=zeo (by rw [evS,h0,h1];exact h2)
theorem zav {α:Type} {enc:α->T} {f:T->Option (Option T)} (g:α->Option T):∀ {l:List α},(∀ a∈l,f (enc a)=some (g a))->ya4 f (l.map enc)=some (l.filterMap g)
 | [],_=>rfl
 | a::l,h=>by rw [zzi,ya4,h a zzt,zav g fun b hb=>h b (zzq _ hb),zAh];cases g a<;>rfl
noncomputable def za3 (cs:List Col):List Str:=cs.filterMap fun c=>if c.g then none else some c.n
noncomputable def yb2 (k:Int) (cs:List Col):List Str:=if k/8%4=0/\1<(za3 cs).length then (if k/32%2=0 then ["id",(za3 cs).getD 1 "id"] else [(za3 cs).getD 1 "id", "id"]) else ["id"]
noncomputable def ycd {α:Type} (cs:List α) (b:Nat):List α:=cs.drop b++cs.take b
theorem zcu (k j:Int) (nm:Str):(ybo k j nm).length<=1:=by unfold ybo;split<;>simp
theorem zd5 (k:Int):1<=(yaa k).length/\(yaa k).length<=4:=by have h1:=zcu k 0 "n";have h2:=zcu k 1 "t";have h3:=zcu k 2 "u";unfold yaa;simp only [List.length_append,List.length_cons,List.length_nil];omega
theorem zga (xs:List T) (b:Nat) (h:b<=xs.length):cut xs (some (b:Int)) none=xs.drop b:=by
 unfold cut ycw;have e:min ((b:Int)).toNat xs.length=b:=by omega
 simp only [show ¬ ((b:Int)<0) by omega,if_false,e];rw [List.take_of_length_le];simp
theorem znx (xs:List T) (b:Nat) (h:b<=xs.length):cut xs none (some (b:Int))=xs.take b:=by
 unfold cut ycw;have e:min ((b:Int)).toNat xs.length=b:=by omega
 simp only [show ¬ ((b:Int)<0) by omega,if_false,e];simp
noncomputable def ybj (nm:Str) (cs:List Col) (key:List Str) (rules:List T):T:=.tup [.str nm,.tup (cs.map Col.t),.tup (key.map .str),.tup rules]
abbrev kd6:T:=.tup [.str "whole",.str "whole",.str "text",.str "whole",.str "text",.str "whole"]
theorem zn9 {nm:T} {k j:Int} {x:Str} {cs:List Col} {s4 s5 s6:Sl} (e:G.call "_law_drawn" [.int k,.int (10+j)]=some (.int (yam k (10+j)))) (hl:cs.length<=10) :
  ((ya1 [4,5] (.tup [.int j,.str x]) [.val nm,.val (.int k),.val kd6,.own (cs.map Col.t),s4,s5,s6,.no,.no,.no]).bind fun U'=>yab G yc4 U') =
   some (.nx [.val nm,.val (.int k),.val kd6,.own ((cs++ybo k j x).map Col.t),.val (.int j),.val (.str x),.val (.int (yam k (10+j)/4)),.no,.no,.no]):=by
 show yab G yc4 [.val nm,.val (.int k),.val kd6,.own (cs.map Col.t),.val (.int j),.val (.str x),s6,.no,.no,.no]=_;generalize hq:yam k (10+j)=q at e;refine (zas (t:=.int (q/4)) (U':=[.val nm,.val (.int k),.val kd6,.own (cs.map Col.t),.val (.int j),.val (.str x),.val (.int (q/4)),.no,.no,.no]) rfl (by simp [evE,yad,ygl,Sl.get,ya0,ybp,yat,e]) rfl).trans ?_;unfold ybo;rw [hq];have hc:evE G (.cmp .gt (.bin .mod (.var 6) (.cst (.int 4))) (.cst (.int 0))) (ygl [.val nm,.val (.int k),.val kd6,.own (cs.map Col.t),.val (.int j),.val (.str x),.val (.int (q/4)),.no,.no,.no])=some (.bl (decide (0<q/4%4))):=rfl;by_cases h:0<q/4%4
 .rw [if_pos h];have hz:(cs.map Col.t).length<16777216:=by rw [zzo];omega
  have e3:evE G (.tup [.var 5,.idx (.var 2) (.bin .mod (.bin .fdiv (.var 6) (.cst (.int 4))) (.cst (.int 6))),.cmp .gt (.bin .mod (.bin .fdiv (.var 6) (.cst (.int 32))) (.cst (.int 3))) (.cst (.int 0))]) (ygl [.val nm,.val (.int k),.val kd6,.own (cs.map Col.t),.val (.int j),.val (.str x),.val (.int (q/4)),.no,.no,.no])=some (Col.t ⟨x,yau (q/4/4),decide (0<q/4/32%3)⟩):=by simp [evE,yad,ygl,Sl.get,ya0,ybh,yat,yai,zfo,yay,Col.t]
  have e4:yab G [.app 3 (.tup [.var 5,.idx (.var 2) (.bin .mod (.bin .fdiv (.var 6) (.cst (.int 4))) (.cst (.int 6))),.cmp .gt (.bin .mod (.bin .fdiv (.var 6) (.cst (.int 32))) (.cst (.int 3))) (.cst (.int 0))])] [.val nm,.val (.int k),.val kd6,.own (cs.map Col.t),.val (.int j),.val (.str x),.val (.int (q/4)),.no,.no,.no]=some (.nx [.val nm,.val (.int k),.val kd6,.own ((cs++[(⟨x,yau (q/4/4),decide (0<q/4/32%3)⟩:Col)]).map Col.t),.val (.int j),.val (.str x),.val (.int (q/4)),.no,.no,.no]):=by refine (zat (U':=[.val nm,.val (.int k),.val kd6,.own ((cs++[(⟨x,yau (q/4/4),decide (0<q/4/32%3)⟩:Col)]).map Col.t),.val (.int j),.val (.str x),.val (.int (q/4)),.no,.no,.no]) ?_).trans rfl;rw [evS];refine Eq.trans (zzz (fun o=>Option.bind o _) e3) ?_;show (if (cs.map Col.t).length<SZ then _ else none)=_;rw [if_pos hz,zz6];rfl
  exact (zat (U':=[.val nm,.val (.int k),.val kd6,.own ((cs++[(⟨x,yau (q/4/4),decide (0<q/4/32%3)⟩:Col)]).map Col.t),.val (.int j),.val (.str x),.val (.int (q/4)),.no,.no,.no]) (by rw [evS];refine Eq.trans (zzz (fun o=>Option.bind o _) (hc.trans (by rw [zz0 h]))) ?_;exact e4)).trans rfl
 .rw [if_neg h,zzu];exact (zbc rfl (hc.trans (by rw [zz7 h]))).trans rfl
theorem zoa {P:Pr} (hd:P.fn "_law_drawn"=some zaq) (n:Nat) (nm:T) (k:Int) :
  ∃ a b c,yav (fun x U=>(ya1 [4,5] x U).bind fun U'=>yab (glo P (run P (n+1))) yc4 U')
   [.tup [.int 0,.str "n"],.tup [.int 1,.str "t"],.tup [.int 2,.str "u"]]
   [.val nm,.val (.int k),.val kd6,.own [Col.t ⟨"id",yau k,false⟩],.no,.no,.no,.no,.no,.no] =
   some (.nx [.val nm,.val (.int k),.val kd6,.own ((yaa k).map Col.t),.val a,.val b,.val c,.no,.no,.no]):=by
 have c0:=zcu k 0 "n";have c1:=zcu k 1 "t";have st:=fun (j:Int) (x:Str) (cs:List Col) (s4 s5 s6:Sl) (hl:cs.length<=10)=>zn9 (G:=glo P (run P (n+1))) (nm:=nm) (k:=k) (j:=j) (x:=x) (cs:=cs) (s4:=s4) (s5:=s5) (s6:=s6) (zbx hd n k (10+j)) hl;refine ⟨.int 2,.str "u",.int (yam k (10+2)/4),?_⟩;rw [yav,show [Col.t ⟨"id",yau k,false⟩]=([⟨"id",yau k,false⟩]:List Col).map Col.t from rfl,st 0 "n" _ _ _ _ (by simp)];dsimp only [xbs];rw [yav,st 1 "t" _ _ _ _ (by simp;omega)];dsimp only [xbs];rw [yav,st 2 "u" _ _ _ _ (by simp;omega)];dsimp only [xbs];rw [yav,yaa,zAk,zAk]
end
section
theorem zl1 (cs:List Col):(cs.filterMap fun c=>if c.g then none else some (T.str c.n))=(za3 cs).map T.str:=by
 unfold za3
 induction cs with
 | nil=>rfl
 | cons c cs ih=>simp only [List.filterMap_cons];cases c.g<;>simp [ih]
theorem yaw (a:T) (r:List T):ybk (a::r) 0=some a:=by simp [ybk,ixI]
theorem yar (a b:T) (r:List T):ybk (a::b::r) 1=some b:=by have:=zbj (xs:=a::b::r) (k:=1) (t:=b) rfl;exact this
theorem ybf (a b c:T) (r:List T):ybk (a::b::c::r) 2=some c:=by have:=zbj (xs:=a::b::c::r) (k:=2) (t:=c) rfl;exact this
theorem yf2 (a b c d:T) (r:List T):ybk (a::b::c::d::r) 3=some d:=by have:=zbj (xs:=a::b::c::d::r) (k:=3) (t:=d) rfl;exact this
theorem zrx (i:Int):i%2=0\/i%2=1:=by omega
theorem zx6 {G:Glo} {i:Nat} {e:E} {ss:List S} {U U0 U':List Sl} {t:T} (h0:yae (yah e) U=U0) (h1:evE G e (ygl U0)=some t) (h2:U0.set i (yap e t)=U'):yab G (.asg i e::ss) U=yab G ss U':=zat (by rw [evS,h0,h1,<- h2];rfl)
noncomputable def bareT2:List S:=za8.body.drop 3
section
variable {G:Glo} {nm CL KT PL:T} {k:Int} {s4 s5 s6:Sl} {l p:Nat}
theorem zn8 {by_:Nat} {cs:List T} {id1:Str} {key:List Str} (hcs:CL=.lst cs) (hl:0<cs.length) (hz:cs.length<=1000) (hb:k/64%(cs.length:Int)=(by_:Int)) (hbl:by_<=cs.length)
  (lp:ya6 .len PL=some (.int (p:Int))) (ip:1<p->yai PL (.int 1)=some (.str id1)) (hk:key=if k/8%4=0/\1<p then (if k/32%2=0 then ([("id":Str),id1]:List Str) else ([id1, "id"]:List Str)) else (["id"]:List Str)) :
  yab G (bareT2.drop 1) [.val nm,.val (.int k),.val KT,.val CL,s4,s5,s6,.val PL,.no,.no]=some (.rt (.tup [nm,.tup (cs.drop by_++cs.take by_),.tup (key.map .str),.tup []])):=by
 refine (zas (t:=.tup [.str "id"]) (U':=[.val nm,.val (.int k),.val KT,.val CL,s4,s5,s6,.val PL,.val (.tup [.str "id"]),.no]) rfl (by simp [evE,yad]) rfl).trans ?_;have hc:evE G (.land (.cmp .eq (.bin .mod (.bin .fdiv (.var 1) (.cst (.int 8))) (.cst (.int 4))) (.cst (.int 0))) (.cmp .gt (.blt .len (.var 7)) (.cst (.int 1)))) (ygl [.val nm,.val (.int k),.val KT,.val CL,s4,s5,s6,.val PL,.val (.tup [.str "id"]),.no])=some (.bl (decide (k/8%4=0/\1<p))):=by
  have e1:evE G (.cmp .eq (.bin .mod (.bin .fdiv (.var 1) (.cst (.int 8))) (.cst (.int 4))) (.cst (.int 0))) (ygl [.val nm,.val (.int k),.val KT,.val CL,s4,s5,s6,.val PL,.val (.tup [.str "id"]),.no])=some (.bl (k/8%4==0)):=rfl;rw [evE,e1];by_cases h1:k/8%4=0
  .rw [show (k/8%4==0)=true by simpa using h1];simp [evE,ygl,Sl.get,lp,yay,h1];omega
  .rw [show (k/8%4==0)=false by simpa using h1];simp [h1]
 have mid:yab G (bareT2.drop 2) [.val nm,.val (.int k),.val KT,.val CL,s4,s5,s6,.val PL,.val (.tup [.str "id"]),.no]=yab G (bareT2.drop 3) [.val nm,.val (.int k),.val KT,.val CL,s4,s5,s6,.val PL,.val (.tup (key.map .str)),.no]:=by
  by_cases h:k/8%4=0/\1<p
  .rw [if_pos h] at hk;have i1:=ip h.2;have e8:evE G (.idx (.lst [.tup [.cst (.str "id"),.idx (.var 7) (.cst (.int 1))],.tup [.idx (.var 7) (.cst (.int 1)),.cst (.str "id")]]) (.bin .mod (.bin .fdiv (.var 1) (.cst (.int 32))) (.cst (.int 2)))) (ygl [.val nm,.val (.int k),.val KT,.val CL,s4,s5,s6,.val PL,.val (.tup [.str "id"]),.no])=ybk [.tup [.str "id",.str id1],.tup [.str id1,.str "id"]] (k/32%2):=by have il:∀ l i,yai (.lst l) (.int i)=ybk l i:=fun _ _=>rfl;simp [evE,yad,ygl,Sl.get,i1,ya0,ybh,yat,il]
   refine zat ?_;rw [evS];refine Eq.trans (zzz (fun o=>Option.bind o _) (hc.trans (by rw [zz0 h]))) ?_;refine (zas (t:=.tup (key.map .str)) rfl (e8.trans ?_) rfl).trans rfl;rw [hk];rcases zrx (k/32) with z | z
   .rw [z,if_pos rfl];exact yaw _ _
   .rw [z,if_neg (by decide)];exact yar _ _ _
  .rw [if_neg h] at hk;subst hk;exact zbc rfl (hc.trans (by rw [zz7 h]))
 refine (show yab G (bareT2.drop 2) _=_ from mid).trans ?_;subst hcs;refine (zas (t:=.int (by_:Int)) (U':=[.val nm,.val (.int k),.val KT,.val (.lst cs),s4,s5,s6,.val PL,.val (.tup (key.map .str)),.val (.int (by_:Int))]) rfl (by have lc:ya6 .len (.lst cs)=some (.int (cs.length:Int)):=rfl;simp [evE,ygl,Sl.get,lc,ya0,ybh,yat,hl,hb]) rfl).trans (zaz rfl ?_);have hz1:cs.length-by_+min by_ cs.length<=16777216:=by omega
 simp [evE,yad,evO,ygl,Sl.get,asI,yc6,zga _ _ hbl,znx _ _ hbl,ya0,ybp,SZ,hz1,ya6]
end
theorem zqx {P:Pr} (hd:P.fn "_law_drawn"=some zaq) (hb:P.fn "_law_bare"=some za8) (n:Nat) (nm:Str) (k:Int) :
  run P (n+2) "_law_bare" [.str nm,.int k]=some (ybj nm (ycd (yaa k) (k/64%((yaa k).length:Int)).toNat) (yb2 k (yaa k)) []):=by
 rw [zaf hb rfl];obtain ⟨a,b,c,el⟩:=zoa hd n (.str nm) k;show zaa (yab (glo P (run P (n+1))) za8.body [.val (.str nm),.val (.int k),.no,.no,.no,.no,.no,.no,.no,.no])=_;generalize glo P (run P (n+1))=G at *;have hlen:=zd5 k;have hm0:0<=k/64%((yaa k).length:Int):=uc7 _ (by omega);have hm1:k/64%((yaa k).length:Int)<((yaa k).length:Int):=uc0 _ (by omega);generalize hby:(k/64%((yaa k).length:Int)).toNat=by_ at *;have hbi:k/64%((yaa k).length:Int)=(by_:Int):=by omega
 generalize hC:yaa k=cs at *;have hbl:by_<=cs.length:=by rw [hbi] at hm1;omega
 have p1:yab G za8.body [.val (.str nm),.val (.int k),.no,.no,.no,.no,.no,.no,.no,.no]=yab G (za8.body.drop 2) [.val (.str nm),.val (.int k),.val kd6,.own [Col.t ⟨"id",yau k,false⟩],.no,.no,.no,.no,.no,.no] :=
  (zas (t:=kd6) (U':=[.val (.str nm),.val (.int k),.val kd6,.no,.no,.no,.no,.no,.no,.no]) rfl (by simp [evE,yad,kd6]) rfl).trans (zas (t:=.lst [Col.t ⟨"id",yau k,false⟩]) rfl (by simp [evE,yad,ygl,Sl.get,kd6,ya0,ybh,yai,zfo,Col.t]) rfl)
 have p2:yab G (za8.body.drop 2) [.val (.str nm),.val (.int k),.val kd6,.own [Col.t ⟨"id",yau k,false⟩],.no,.no,.no,.no,.no,.no]=yab G bareT2 [.val (.str nm),.val (.int k),.val kd6,.own (cs.map Col.t),.val a,.val b,.val c,.no,.no,.no]:=zat (by rw [evS];simp only [yaq,yah,List.append_nil,yae,yad,evE,List.length_cons,List.length_nil];simp only [Nat.reduceAdd,Nat.reduceLeDiff,if_true,xms,xbs,items,ya8];exact el);have e7:evE G (.comp (.idx (.var 0) (.cst (.int 0))) 1 .plain [.var 3] (some (.lnot (.tru (.idx (.var 0) (.cst (.int 2))))))) (ygl [.val (.str nm),.val (.int k),.val kd6,.val (.lst (cs.map Col.t)),.val a,.val b,.val c,.no,.no,.no])=some (.lst ((za3 cs).map .str)):=by
  have hz':cs.length<=16777216:=by omega
  simp [evE,yad,evO,ygl,Sl.get,items,yak,bnd,SZ,hz'];rw [zav (enc:=Col.t) (fun c=>if c.g then none else some (T.str c.n)) (fun c _=>by cases hg:c.g<;>simp [Col.t,hg,yai,yaw,ybf,yc3]),zl1]
 have p3:yab G bareT2 [.val (.str nm),.val (.int k),.val kd6,.own (cs.map Col.t),.val a,.val b,.val c,.no,.no,.no]=yab G (bareT2.drop 1) [.val (.str nm),.val (.int k),.val kd6,.val (.lst (cs.map Col.t)),.val a,.val b,.val c,.val (.lst ((za3 cs).map .str)),.no,.no]:=zx6 rfl e7 rfl;rw [p1,p2,p3];have hk:=zn8 (G:=G) (nm:=.str nm) (KT:=kd6) (CL:=.lst (cs.map Col.t)) (cs:=cs.map Col.t) (PL:=.lst ((za3 cs).map .str)) (k:=k) (s4:=.val a) (s5:=.val b) (s6:=.val c) (p:=(za3 cs).length) (by_:=by_) (id1:=(za3 cs).getD 1 "id") (key:=yb2 k cs) rfl (by rw [List.length_map];omega) (by rw [List.length_map];omega) (by rw [List.length_map];exact hbi) (by rw [List.length_map];exact hbl) (by simp [ya6]) (fun h2=>zbj (xs:=(za3 cs).map T.str) (k:=1) (by rw [List.getElem?_map,List.getElem?_eq_getElem h2,List.getD_eq_getElem?_getD,List.getElem?_eq_getElem h2];rfl)) rfl;rw [hk,ybj,ycd,zz6,List.map_drop,List.map_take];rfl
end
section
variable {cs:List Col}
theorem zfl {α:Type} {enc:α->T} {f:T->List Sl->Option Out} (I:List α->List Sl->Prop):∀ (l done:List α) (U:List Sl),I done U ->
  (∀ l1 a l2,l=l1++a::l2->∀ U,I (done++l1) U->∃ U',f (enc a) U=some (.nx U')/\I (done++l1++[a]) U')->∃ U',yav f (l.map enc) U=some (.nx U')/\I (done++l) U'
 | [],done,U,h,_=>⟨U,rfl,by rw [zzu];exact h⟩
 | a::l,done,U,h,hs=>by
  obtain ⟨U1,e1,h1⟩:=hs [] a l rfl U (by rw [zzu];exact h);rw [zzu] at h1;obtain ⟨U2,e2,h2⟩:=zfl I l (done++[a]) U1 h1 fun l1 b l2 e U hd=>by have:=hs (a::l1) b l2 (by rw [e];rfl) U (by simpa using hd);simpa using this
  refine ⟨U2,?_,by rw [zAk] at h2;exact h2⟩;rw [zzi,yav,e1];exact e2
theorem zal {α:Type} {enc:α->T} {f:T->List Sl->Option Out} (I:List α->List Sl->Prop) (l:List α) (U:List Sl) (h:I [] U)
  (hs:∀ l1 a l2,l=l1++a::l2->∀ U,I l1 U->∃ U',f (enc a) U=some (.nx U')/\I (l1++[a]) U'):∃ U',yav f (l.map enc) U=some (.nx U')/\I l U':=by
 have:=zfl I l [] U h fun l1 a l2 e U hd=>by have:=hs l1 a l2 e U (by simpa using hd);simpa using this
 simpa using this
theorem zbo {α:Type} {enc:α->T} {cs:List α} (h:cs≠[]) (i:Int):∃ c∈cs,ybk (cs.map enc) (i%(cs.length:Int))=some (enc c):=by
 have hl:0<cs.length:=by cases cs with | nil=>exact absurd rfl h | cons _ _=>simp
 have h1:0<=i%(cs.length:Int):=uc7 _ (by omega);have h2:i%(cs.length:Int)<(cs.length:Int):=uc0 _ (by omega);obtain ⟨j,hj⟩:∃ j:Nat,i%(cs.length:Int)=(j:Int):=⟨(i%(cs.length:Int)).toNat,by omega⟩;rw [hj] at h2 ⊢;have hj':j<cs.length:=by omega
 refine ⟨cs[j],ua5 _,zbj ?_⟩;rw [zAb,zzm hj'];rfl
inductive Tst where
 | emp (c:Str) | bel (a b:Str) | isI (c:Str) (i:Int) | isS (c x:Str) | neg (t:Tst) | cnj (a b:Tst) | dsj (a b:Tst)
noncomputable def Tst.t:Tst->T
 | .emp c=>.tup [.str "empty",.str c]
 | .bel a b=>.tup [.str "below",.str a,.str b]
 | .isI c i=>.tup [.str "is",.str c,.int i]
 | .isS c x=>.tup [.str "is",.str c,.str x]
 | .neg t=>.tup [.str "not",t.t]
 | .cnj a b=>.tup [.str "and",a.t,b.t]
 | .dsj a b=>.tup [.str "or",a.t,b.t]
noncomputable def ycn:List Int:=[0,1,2,3,-5,999]
noncomputable def Tst.ok:Nat->Tst->Prop
 | d,.emp c=>1<=d/\c.length<=6
 | d,.bel a b=>1<=d/\a.length<=6/\b.length<=6
 | d,.isI c i=>1<=d/\c.length<=6 /\ -1000<i/\i<1000/\i∈ycn
 | d,.isS c x=>1<=d/\c.length<=6/\x.length<=6/\ybv x=true
 | d+1,.neg t=>t.ok d
 | d+1,.cnj a b=>a.ok d/\b.ok d
 | d+1,.dsj a b=>a.ok d/\b.ok d
 | 0,_=>False
noncomputable def Tst.fit:Nat->Tst->Prop
 | d,.emp _=>1<=d/\True
 | d,.bel _ _=>1<=d/\True
 | d,.isI _ _=>1<=d/\True
 | d,.isS _ _=>1<=d/\True
 | d+1,.neg t=>t.fit d
 | d+1,.cnj a b=>a.fit d/\b.fit d
 | d+1,.dsj a b=>a.fit d/\b.fit d
 | 0,_=>False
theorem Tst.ok.fit:∀ {d:Nat} {t:Tst},t.ok d->t.fit d
 | d+1,.emp _,h=>⟨zAx (zAd d),trivial⟩
 | 0,.emp _,h=>absurd h.1 (by omega)
 | d+1,.bel _ _,h=>⟨zAx (zAd d),trivial⟩
 | 0,.bel _ _,h=>absurd h.1 (by omega)
 | d+1,.isI _ _,h=>⟨zAx (zAd d),trivial⟩
 | 0,.isI _ _,h=>absurd h.1 (by omega)
 | d+1,.isS _ _,h=>⟨zAx (zAd d),trivial⟩
 | 0,.isS _ _,h=>absurd h.1 (by omega)
 | d+1,.neg t,h=>Tst.ok.fit (t:=t) h
 | d+1,.cnj a b,h=>⟨Tst.ok.fit h.1,Tst.ok.fit h.2⟩
 | d+1,.dsj a b,h=>⟨Tst.ok.fit h.1,Tst.ok.fit h.2⟩
 | 0,.neg _,h=>nomatch h
 | 0,.cnj _ _,h=>nomatch h
 | 0,.dsj _ _,h=>nomatch h
noncomputable def Tst.inn (cs:List Col):Tst->Prop
 | .emp c=>∃ o∈cs,o.n=c
 | .bel a b=>∃ o∈cs,∃ p∈cs,o.n=a/\p.n=b/\o.k=p.k
 | .isI c _=>∃ o∈cs,o.n=c/\(o.k==("text":Str))=false
 | .isS c _=>∃ o∈cs,o.n=c/\(o.k==("text":Str))=true
 | .neg t=>t.inn cs
 | .cnj a b=>a.inn cs/\b.inn cs
 | .dsj a b=>a.inn cs/\b.inn cs
noncomputable def Sh (x:Str):Prop:=x.length<=6/\ybv x=true
noncomputable def yca (cs:List Col):Prop:=cs≠[]/\cs.length<=4/\∀ c∈cs,Sh c.n/\c.k.length<=6
noncomputable def ycj:List Str:=["", "a", "b", "ab", "x9", "zzzzzz"]
theorem zka:∀ x∈ycj,ybv x=true:=by decide +kernel
theorem zj9:∀ x∈ycj,x.length<=6:=by decide +kernel
theorem zfb:∀ i∈ycn,-1000<i/\i<1000:=by decide
theorem zim (k:Int):∃ i∈ycn,ybk [.int 0,.int 1,.int 2,.int 3,.int (-5),.int 999] (k%6)=some (.int i):=by obtain ⟨c,hc,e⟩:=zbo (enc:=T.int) (cs:=ycn) (by simp [ycn]) k;exact ⟨c,hc,e⟩
theorem zil (k:Int):∃ x∈ycj,ybk [.str "",.str "a",.str "b",.str "ab",.str "x9",.str "zzzzzz"] (k%6)=some (.str x):=by obtain ⟨c,hc,e⟩:=zbo (enc:=T.str) (cs:=ycj) (by simp [ycj]) k;exact ⟨c,hc,e⟩
noncomputable def alike (cs:List Col) (c:Col):List Str:=cs.filterMap fun o=>if o.k==c.k then some o.n else none
theorem zoe (cs:List Col) (c:Col):(cs.filterMap fun o=>if o.k==c.k then some (T.str o.n) else none)=(alike cs c).map T.str:=by
 unfold alike
 induction cs with
 | nil=>rfl
 | cons o cs ih=>simp only [List.filterMap_cons];split<;>simp_all
theorem zod {c:Col} {x:Str} (h:x∈alike cs c):∃ o∈cs,o.n=x/\o.k=c.k:=by
 unfold alike at h;obtain ⟨o,ho,e⟩:=ud8.mp h;split at e
 .rename_i hk;cases e;exact ⟨o,ho,rfl,ua2 hk⟩
 .cases e
theorem zj8 {c:Col} (h:c∈cs):alike cs c≠[]:=by intro e;have:c.n∈alike cs c:=ud8.mpr ⟨c,h,by simp⟩;rw [e] at this;cases this
end
section
variable {G:Glo} {k:Int} {s0 s3 s6 s7 s8:Sl} {cs:List Col}
noncomputable def ybs (nm:T) (cs:List Col) (key rules:T):T:=.tup [nm,.tup (cs.map Col.t),key,rules]
noncomputable def teB:List S:=zau.body.drop 3
noncomputable def teC:List S:=zau.body.drop 4
theorem zow {j:Int} {s1 s2 s4:Sl}:evE G (.cmp .eq (.var 5) (.cst (.int j))) (ygl [s0,s1,s2,s3,s4,.val (.int k),s6,s7,s8])=some (.bl (k==j)):=rfl
theorem zov {c:Col} {s1 s2 s5:Sl}:evE G (.idx (.var 4) (.cst (.int 0))) (ygl [s0,s1,s2,s3,.val c.t,s5,s6,s7,s8])=some (.str c.n):=by simp [evE,ygl,Sl.get,Col.t,yai,yaw]
theorem zgn (hc:yca cs) {c:Col} (hm:c∈cs) (TB:T) (k d:Int) :
  ∃ t:Tst,yab G teC [.val TB,.val (.int k),.val (.int d),.val (.tup (cs.map Col.t)),.val c.t,.val (.int (k%8)),.no,.no,.no]=some (.rt t.t)/\(∀ n,t.ok (n+1))/\t.inn cs:=by
 have hl:cs.length<=16777216:=by have:=hc.2.1;omega
 have hcm:=hc.2.2 c hm;by_cases h0:k%8=0
 .exact ⟨.emp c.n,zcq rfl (zow.trans (by rw [h0];rfl)) (zaz rfl (by rw [evE,yad,yad,zov];rfl)),fun n=>⟨by omega,hcm.1.1⟩,c,hm,rfl⟩
 .have e7:evE G (.comp (.idx (.var 0) (.cst (.int 0))) 1 .plain [.var 3] (some (.cmp .eq (.idx (.var 0) (.cst (.int 1))) (.idx (.var 5) (.cst (.int 1)))))) (ygl [.val TB,.val (.int k),.val (.int d),.val (.tup (cs.map Col.t)),.val c.t,.val (.int (k%8)),.no,.no,.no])=some (.lst ((alike cs c).map .str)):=by
   simp [evE,yad,evO,ygl,Sl.get,yay,yai,items,yak,bnd,SZ,hl];rw [zav (enc:=Col.t) (fun o=>if o.k==c.k then some (T.str o.n) else none) (fun o _=>by cases hk:(o.k==c.k)<;>simp [Col.t,yaw,yar,eqC,dpP,eqT,hk]),zoe]
  have pre:yab G teC [.val TB,.val (.int k),.val (.int d),.val (.tup (cs.map Col.t)),.val c.t,.val (.int (k%8)),.no,.no,.no]=yab G (teC.drop 2) [.val TB,.val (.int k),.val (.int d),.val (.tup (cs.map Col.t)),.val c.t,.val (.int (k%8)),.no,.val (.lst ((alike cs c).map .str)),.no] :=
   (zbc rfl (zow.trans (by rw [show (k%8==0)=false by simpa using h0]))).trans (zas rfl e7 rfl)
  rw [pre];generalize T.tup (cs.map Col.t)=CT;by_cases h1:k%8=1
  .obtain ⟨x,hx,e⟩:=zbo (enc:=T.str) (zj8 hm) (k/64);have hp:0<(alike cs c).length:=by
    have:=zj8 hm;cases q:alike cs c with
    | nil=>exact absurd q this
    | cons _ _=>simp
   obtain ⟨o,ho,rfl,hk⟩:=zod hx;refine ⟨.bel c.n o.n,zcq rfl (zow.trans (by rw [h1];rfl)) (zaz rfl ?_),fun n=>⟨by omega,hcm.1.1,(hc.2.2 o ho).1.1⟩,c,hm,o,ho,rfl,rfl,hk.symm⟩;have e':evE G (.idx (.var 7) (.bin .mod (.bin .fdiv (.var 1) (.cst (.int 64))) (.blt .len (.var 7)))) (ygl [.val TB,.val (.int k),.val (.int d),.val CT,.val c.t,.val (.int (k%8)),.no,.val (.lst ((alike cs c).map .str)),.no])=some (.str o.n):=by simp [evE,ygl,Sl.get,ya6,ya0,ybh,yat,hp,yai,e]
   rw [evE,yad,yad,yad,zov,e'];rfl
  .have pre2:yab G (teC.drop 2) [.val TB,.val (.int k),.val (.int d),.val CT,.val c.t,.val (.int (k%8)),.no,.val (.lst ((alike cs c).map .str)),.no]=yab G (teC.drop 3) [.val TB,.val (.int k),.val (.int d),.val CT,.val c.t,.val (.int (k%8)),.no,.val (.lst ((alike cs c).map .str)),.no]:=zbc rfl (zow.trans (by rw [show (k%8==1)=false by simpa using h1]));rw [pre2];generalize T.lst ((alike cs c).map T.str)=AL;obtain ⟨i,hi,ei⟩:=zim (k/64);obtain ⟨x,hx,ex⟩:=zil (k/64);cases ht:(c.k==("text":Str)) with
   | true =>refine ⟨.isS c.n x,(zas (t:=.tup [.str "",.str "a",.str "b",.str "ab",.str "x9",.str "zzzzzz"]) (U':=[.val TB,.val (.int k),.val (.int d),.val CT,.val c.t,.val (.int (k%8)),.no,.val AL,.val (.tup [.str "",.str "a",.str "b",.str "ab",.str "x9",.str "zzzzzz"])]) rfl (by simp [evE,yad,ygl,Sl.get,Col.t,yai,yar,yay,eqC,dpP,eqT,ht,ya6]) rfl).trans (zaz rfl ?_),fun n=>⟨by omega,hcm.1.1,zj9 x hx,zka x hx⟩,c,hm,rfl,ht⟩;rw [evE,yad,yad,yad,zov];simp [evE,yad,ygl,Sl.get,ya0,ybh,yat,yai,ex,Tst.t]
   | false =>refine ⟨.isI c.n i,(zas (t:=.tup [.int 0,.int 1,.int 2,.int 3,.int (-5),.int 999]) (U':=[.val TB,.val (.int k),.val (.int d),.val CT,.val c.t,.val (.int (k%8)),.no,.val AL,.val (.tup [.int 0,.int 1,.int 2,.int 3,.int (-5),.int 999])]) rfl (by simp [evE,yad,ygl,Sl.get,Col.t,yai,yaw,yar,yay,eqC,dpP,eqT,ht,ya6]) rfl).trans (zaz rfl ?_),fun n=>⟨by omega,hcm.1.1,(zfb i hi).1,(zfb i hi).2,hi⟩,c,hm,rfl,ht⟩;rw [evE,yad,yad,yad,zov];simp [evE,yad,ygl,Sl.get,ya0,ybh,yat,yai,ei,Tst.t]
theorem zi0 {TB CT ct:T} {D:Int} {l:Nat} (i1:yai TB (.int 1)=some CT) (l1:ya6 .len CT=some (.int (l:Int))) (hp:0<l) (i2:yai CT (.int (k/8%(l:Int)))=some ct) :
  yab G zau.body [.val TB,.val (.int k),.val (.int D),.no,.no,.no,.no,.no,.no]=yab G teB [.val TB,.val (.int k),.val (.int D),.val CT,.val ct,.val (.int (k%8)),.no,.no,.no] :=
 (zas (t:=CT) (U':=[.val TB,.val (.int k),.val (.int D),.val CT,.no,.no,.no,.no,.no]) rfl (by simp [evE,ygl,Sl.get,i1]) rfl).trans ((zas (t:=ct) (U':=[.val TB,.val (.int k),.val (.int D),.val CT,.val ct,.no,.no,.no,.no]) rfl (by simp [evE,ygl,Sl.get,l1,ya0,ybh,yat,hp,i2]) rfl).trans (zas (t:=.int (k%8)) rfl (by simp [evE,ygl,Sl.get,ya0,ybh]) rfl))
theorem zlc {D:Int} {s4:Sl}:evE G (.land (.cmp .gt (.var 2) (.cst (.int 1))) (.cmp .gt (.var 5) (.cst (.int 4)))) (ygl [s0,.val (.int k),.val (.int D),s3,s4,.val (.int (k%8)),s6,s7,s8])=some (.bl (decide (1<D)&&decide (4<k%8))):=by cases h1:decide (1<D)<;>simp [evE,ygl,Sl.get,yay,h1]
theorem zou {P:Pr} (hd:P.fn "_law_drawn"=some zaq) (ht:P.fn "_law_test"=some zau) (hc:yca cs) (nm key rules:T) :
  ∀ (d:Nat) (n:Nat) (k:Int),∃ t:Tst,run P (n+d+2) "_law_test" [ybs nm cs key rules,.int k,.int ((d+1:Nat):Int)]=some t.t/\t.ok (d+1)/\t.inn cs:=by
 have i1:yai (ybs nm cs key rules) (.int 1)=some (.tup (cs.map Col.t)):=by simp [ybs,yai,yar]
 have l1:ya6 .len (.tup (cs.map Col.t))=some (.int (cs.length:Int)):=by simp [ya6]
 have hp:0<cs.length:=by cases cs with | nil=>exact absurd rfl hc.1 | cons _ _=>simp
 have i2:∀ k:Int,∃ c∈cs,yai (.tup (cs.map Col.t)) (.int (k/8%(cs.length:Int)))=some c.t:=fun k=>by obtain ⟨c,hm,ec⟩:=zbo (enc:=Col.t) hc.1 (k/8);exact ⟨c,hm,ec⟩
 intro d
 induction d with
 | zero =>intro n k;rw [zaf ht rfl];show ∃ t:Tst,zaa (yab (glo P (run P (n+1))) zau.body [.val (ybs nm cs key rules),.val (.int k),.val (.int 1),.no,.no,.no,.no,.no,.no])=_/\_;obtain ⟨c,hm,ec⟩:=i2 k;obtain ⟨t,e,h,hin⟩:=zgn (G:=glo P (run P (n+1))) hc hm (ybs nm cs key rules) k 1;refine ⟨t,?_,h 0,hin⟩;rw [zi0 i1 l1 hp ec];exact zzz zaa ((zbc rfl (zlc.trans rfl)).trans e)
 | succ d ih =>
  intro n k;rw [show n+(d+1)+2=(n+d+2)+1 by omega,zaf ht rfl];obtain ⟨c,hm,ec⟩:=i2 k;have e1:(glo P (run P (n+d+2))).call "_law_drawn" [.int k,.int 1]=_:=zbx hd (n+d+1) k 1;have e2:(glo P (run P (n+d+2))).call "_law_drawn" [.int k,.int 2]=_:=zbx hd (n+d+1) k 2;obtain ⟨t1,r1,o1,n1⟩:=ih n (yam k 1/4);obtain ⟨t2,r2,o2,n2⟩:=ih n (yam k 2/4);have hd1:((d+1+1:Nat):Int)-1=((d+1:Nat):Int):=by omega
  rw [<- hd1] at r1 r2;clear hd1 ih;generalize hD:((d+1+1:Nat):Int)=D at *;have hD1:decide (1<D)=true:=zz0 (by omega);have r1:(glo P (run P (n+d+2))).call "_law_test" [ybs nm cs key rules,.int (yam k 1/4),.int (D-1)]=some t1.t:=r1;have r2:(glo P (run P (n+d+2))).call "_law_test" [ybs nm cs key rules,.int (yam k 2/4),.int (D-1)]=some t2.t:=r2;show ∃ t:Tst,zaa (yab (glo P (run P (n+d+2))) zau.body [.val (ybs nm cs key rules),.val (.int k),.val (.int D),.no,.no,.no,.no,.no,.no])=_/\_;rw [zi0 i1 l1 hp ec];obtain ⟨t,e,h,hin⟩:=zgn (G:=glo P (run P (n+d+2))) hc hm (ybs nm cs key rules) k D;generalize glo P (run P (n+d+2))=G at *;generalize ybs nm cs key rules=TB at *;generalize T.tup (cs.map Col.t)=CT at *;generalize c.t=ct at *;by_cases h4:4<k%8
  .have h4':decide (4<k%8)=true:=zz0 h4;have e6:evE G (.comp (.call "_law_test" [.var 1,.bin .fdiv (.call "_law_drawn" [.var 2,.var 0]) (.cst (.int 4)),.bin .sub (.var 3) (.cst (.int 1))]) 1 .plain [.tup [.cst (.int 1),.cst (.int 2)]] none) (ygl [.val TB,.val (.int k),.val (.int D),.val CT,.val ct,.val (.int (k%8)),.no,.no,.no])=some (.lst [t1.t,t2.t]):=by simp [evE,yad,evO,ygl,Sl.get,ya0,yev,yat,items,yak,ya4,bnd,SZ,e1,e2,r1,r2]
   have pre:∀ u:T,evE G (.idx (.lst [.tup [.cst (.str "not"),.idx (.var 6) (.cst (.int 0))],.tup [.cst (.str "and"),.idx (.var 6) (.cst (.int 0)),.idx (.var 6) (.cst (.int 1))],.tup [.cst (.str "or"),.idx (.var 6) (.cst (.int 0)),.idx (.var 6) (.cst (.int 1))]]) (.bin .sub (.var 5) (.cst (.int 5)))) (ygl [.val TB,.val (.int k),.val (.int D),.val CT,.val ct,.val (.int (k%8)),.val (.lst [t1.t,t2.t]),.no,.no])=some u->yab G teB [.val TB,.val (.int k),.val (.int D),.val CT,.val ct,.val (.int (k%8)),.no,.no,.no]=some (.rt u):=fun u hu =>zcq rfl (zlc.trans (by rw [hD1,h4'];rfl)) ((zas rfl e6 rfl).trans (zaz rfl hu));have hk:k%8=5\/k%8=6\/k%8=7:=by omega
   have ev:evE G (.idx (.lst [.tup [.cst (.str "not"),.idx (.var 6) (.cst (.int 0))],.tup [.cst (.str "and"),.idx (.var 6) (.cst (.int 0)),.idx (.var 6) (.cst (.int 1))],.tup [.cst (.str "or"),.idx (.var 6) (.cst (.int 0)),.idx (.var 6) (.cst (.int 1))]]) (.bin .sub (.var 5) (.cst (.int 5)))) (ygl [.val TB,.val (.int k),.val (.int D),.val CT,.val ct,.val (.int (k%8)),.val (.lst [t1.t,t2.t]),.no,.no])=ybk [.tup [.str "not",t1.t],.tup [.str "and",t1.t,t2.t],.tup [.str "or",t1.t,t2.t]] (k%8-5):=by simp [evE,yad,ygl,Sl.get,yai,yaw,yar,ya0,yev]
   rcases hk with hk | hk | hk
   .exact ⟨.neg t1,zzz zaa (pre _ (ev.trans (by rw [hk];exact yaw _ _))),o1,n1⟩
   .exact ⟨.cnj t1 t2,zzz zaa (pre _ (ev.trans (by rw [hk];exact yar _ _ _))),⟨o1,o2⟩,n1,n2⟩
   .exact ⟨.dsj t1 t2,zzz zaa (pre _ (ev.trans (by rw [hk];exact ybf _ _ _ _))),⟨o1,o2⟩,n1,n2⟩
  .refine ⟨t,zzz zaa ((zbc rfl (zlc.trans (by rw [hD1,zz7 h4];rfl))).trans e),h (d+1),hin⟩
end
section
variable {cs:List Col}
noncomputable def yaz (xs:List Str):T:=.tup (xs.map .str)
noncomputable def ydy (xs:List Str):Prop:=∀ x∈xs,Sh x
noncomputable def CSh (cs:List Col) (xs:List Str):Prop:=∀ x∈xs,Sh x/\∃ c∈cs,c.n=x
theorem zq1 {x:Str}:∀ (xs:List Str),(xs.map T.str).any (fun z=>eqT z (.str x))=xs.any fun y=>y==x
 | []=>rfl
 | y::ys=>by rw [zzi,ub7,ub7,zq1 ys,eqT]
theorem zjx (y x:Str):dpP (.str y) (.str x)=0:=rfl
theorem zt9 (x:Str) (xs:List Str):dpI (.str x) (xs.map .str)=true:=by unfold dpI;rw [uc1];intro z hz;obtain ⟨y,_,rfl⟩:=omm hz;rw [zjx];rfl
theorem zm5 (x:Str) (xs:List Str):inC (.str x) (.tup (xs.map .str))=some (xs.any fun y=>y==x):=by simp only [inC,zt9,if_true,zq1]
noncomputable def ydd (cs:List Col) (kd:Str) (row:List Str):List (List Str):=cs.filterMap fun o=>if (o.k==kd)&&!(row.any fun y=>y==o.n) then some (row++[o.n]) else none
theorem zpy (cs:List Col) (kd:Str) (row:List Str):(cs.filterMap fun o=>if (o.k==kd)&&!(row.any fun y=>y==o.n) then some (yaz (row++[o.n])) else none)=(ydd cs kd row).map yaz:=by unfold ydd;rw [List.map_filterMap];congr;funext o;split<;>rfl
theorem zpz (cs:List Col) (kd:Str) (row:List Str):(ydd cs kd row).length<=cs.length:=List.length_filterMap_le _ _
theorem zkp (hc:yca cs) {kd:Str} {row r:List Str} (hr:CSh cs row) (h:r∈ydd cs kd row):CSh cs r/\r.length=row.length+1:=by
 unfold ydd at h;obtain ⟨o,ho,e⟩:=ud8.mp h;split at e
 .cases e;refine ⟨fun x hx=>?_,by simp⟩;rcases oma hx with q | q
  .exact hr x q
  .rw [omg q];exact ⟨(hc.2.2 o ho).1,o,ho,rfl⟩
 .cases e
noncomputable def Rows (cs:List Col) (j:Nat) (ps:List (List Str)):Prop:=ps.length<=4 ^ j/\∀ p∈ps,CSh cs p/\p.length=j
theorem zh0 {G:Glo} (hc:yca cs) (nm key rules kt s2:T) (kd:Str) (j:Nat) (hj:j<=1) (ps:List (List Str)) (hp:Rows cs j ps) (s3:Sl) :
  ∃ (qs:List (List Str)) (s5:Sl),yav (fun x U=>(ya1 [5] x U).bind fun U'=>yab G [.asg 4 (.bin .add (.var 4) (.comp (.bin .add (.var 6) (.tup [.idx (.var 0) (.cst (.int 0))])) 1 .plain [.idx (.var 0) (.cst (.int 1))] (some (.land (.cmp .eq (.idx (.var 0) (.cst (.int 1))) (.var 4)) (.cmp .notin (.idx (.var 0) (.cst (.int 0))) (.var 6))))))] U')
   (ps.map yaz) [.val (ybs nm cs key rules),.val kt,.val s2,.val (.str kd),.own [],s3] =
   some (.nx [.val (ybs nm cs key rules),.val kt,.val s2,.val (.str kd),.own (qs.map yaz),s5])/\Rows cs (j+1) qs:=by
 have hl4:=hc.2.1;have hl:cs.length<=16777216:=by omega
 have h4j:4 ^ j<=4:=by rcases (by omega:j=0\/j=1) with rfl | rfl<;>decide
 have hpl:ps.length<=4:=zz8 hp.1 h4j;obtain ⟨U',e,qs,s5,rfl,h1,h2⟩:=zal (enc:=yaz) (f:=fun x U=>(ya1 [5] x U).bind fun U'=>yab G [.asg 4 (.bin .add (.var 4) (.comp (.bin .add (.var 6) (.tup [.idx (.var 0) (.cst (.int 0))])) 1 .plain [.idx (.var 0) (.cst (.int 1))] (some (.land (.cmp .eq (.idx (.var 0) (.cst (.int 1))) (.var 4)) (.cmp .notin (.idx (.var 0) (.cst (.int 0))) (.var 6))))))] U')
  (fun done U=>∃ qs s5,U=[.val (ybs nm cs key rules),.val kt,.val s2,.val (.str kd),.own (qs.map yaz),s5]/\qs.length<=4*done.length/\∀ q∈qs,CSh cs q/\q.length=j+1)
  ps [.val (ybs nm cs key rules),.val kt,.val s2,.val (.str kd),.own [],s3] ⟨[],s3,rfl,by simp,fun q hq=>by cases hq⟩ (by
   rintro done row rest hsp U ⟨qs,s5,rfl,h1,h2⟩;have hrow:row∈ps:=by rw [hsp];simp
   have hdl:done.length<=ps.length:=by rw [hsp];simp
   have hrs:=(hp.2 row hrow).1;have hml:=zpz cs kd row;have hz:qs.length+(ydd cs kd row).length<=16777216:=by omega
   have hrl:row.length+1<=16777216:=by rw [(hp.2 row hrow).2];omega
   refine ⟨[.val (ybs nm cs key rules),.val kt,.val s2,.val (.str kd),.own ((qs++ydd cs kd row).map yaz),.val (yaz row)],?_,qs++ydd cs kd row,_,rfl,?_,?_⟩
   .simp [yab,evS,evE,yad,evO,ygl,yae,yah,yaq,yb8,Sl.get,Sl.frz,ya0,ybp,yap,fresh,yay,yai,items,yak,ya1,bnd,SZ,ybs,yar,hl];rw [zav (enc:=Col.t) (fun o=>if (o.k==kd)&&!(row.any fun y=>y==o.n) then some (yaz (row++[o.n])) else none) (fun o _=>by
     cases hk:(o.k==kd) with
     | false=>simp [Col.t,yaw,yar,eqC,dpP,eqT,hk]
     | true =>have hin:=zm5 o.n row;cases ha:(row.any fun y=>y==o.n)<;>rw [ha] at hin<;>simp [Col.t,yaw,yar,eqC,dpP,eqT,hk,yaz,hin,hrl]),zpy]
    simp [hz]
   .simp only [List.length_append,List.length_cons,List.length_nil];omega
   .intro q hq;rcases oma hq with z | z
    .exact h2 q z
    .have:=zkp hc hrs z;exact ⟨this.1,by rw [this.2,(hp.2 row hrow).2]⟩)
 refine ⟨qs,s5,e,?_,h2⟩;have:=hp.1;rw [Nat.pow_succ];omega
end
section
theorem zl7 {P:Pr} (h:P.fn "_law_pairs"=some za4) (n:Nat) {cs:List Col} (hc:yca cs) (nm key rules:T) (ks:List Str) (hk:ks.length<=2) :
  ∃ ps,run P (n+1) "_law_pairs" [ybs nm cs key rules,.lst (ks.map .str)]=some (.lst (ps.map yaz))/\Rows cs ks.length ps:=by
 rw [zaf h rfl];unfold za4;dsimp only;rw [zat (U':=[.val (ybs nm cs key rules),.val (.lst (ks.map .str)),.own ([[]].map yaz),.no,.no,.no]) (by simp [evS,evE,yad,yal,yae,yah,yaq,yap,fresh,yaz])];obtain ⟨U',e,ps,s2,s3,s4,s5,rfl,h1,h2⟩:=zal (enc:=T.str) (f:=fun x U=>(ya1 [3] x U).bind fun U'=>yab (glo P (run P n)) [.asg 4 (.lst []),
  .loop [5] .plain [.var 2] [.asg 4 (.bin .add (.var 4) (.comp (.bin .add (.var 6) (.tup [.idx (.var 0) (.cst (.int 0))])) 1 .plain [.idx (.var 0) (.cst (.int 1))] (some (.land (.cmp .eq (.idx (.var 0) (.cst (.int 1))) (.var 4)) (.cmp .notin (.idx (.var 0) (.cst (.int 0))) (.var 6))))))],
  .asg 2 (.var 4)] U')
  (fun done U=>∃ ps s2 s3 s4 s5,U=[.val (ybs nm cs key rules),.val (.lst (ks.map .str)),s2,s3,s4,s5]/\(s2=.own (ps.map yaz)\/s2=.val (.lst (ps.map yaz)))/\Rows cs done.length ps)
  ks [.val (ybs nm cs key rules),.val (.lst (ks.map .str)),.own ([[]].map yaz),.no,.no,.no] ⟨[[]],_,_,_,_,rfl,.inl rfl,by simp,fun p hp=>by rw [omg hp];exact ⟨fun x hx=>(by cases hx),rfl⟩⟩ (by
   rintro done kd rest hsp U ⟨ps,s2,s3,s4,s5,rfl,h1,h2⟩;have hdl:done.length<=1:=by rw [hsp] at hk;simp at hk;omega
   have hfz:Sl.frz s2=.val (.lst (ps.map yaz)):=by rcases h1 with rfl | rfl<;>rfl
   obtain ⟨qs,s5',el,hq⟩:=zh0 (G:=glo P (run P n)) hc nm key rules (.lst (ks.map .str)) (.lst (ps.map yaz)) kd done.length hdl ps h2 s5;refine ⟨[.val (ybs nm cs key rules),.val (.lst (ks.map .str)),.val (.lst (qs.map yaz)),.val (.str kd),.val (.lst (qs.map yaz)),s5'],?_,qs,_,_,_,_,rfl,.inr rfl,by rw [zzy];exact hq⟩;simp only [ya1,xbs,xss,xsz];rw [zat (U':=[.val (ybs nm cs key rules),.val (.lst (ks.map .str)),s2,.val (.str kd),.own [],s5]) (by simp [evS,evE,yad,yae,yah,yaq,yap,fresh])];rw [zat (s:=.loop _ _ _ _) (U':=[.val (ybs nm cs key rules),.val (.lst (ks.map .str)),.val (.lst (ps.map yaz)),.val (.str kd),.own (qs.map yaz),s5']) (by rw [evS];simp only [yaq,yah,List.append_nil,yae,yad,evE,ygl,List.modify_succ_cons,List.modify_zero_cons,hfz,xmc,Sl.get,xmn];simp only [xgs,xgz,xjs,xbs,items];exact el)];simp [yab,evS,evE,ygl,yae,yah,Sl.get,Sl.frz,yap,fresh])
 rw [zat (s:=.loop _ _ _ _) (U':=[.val (ybs nm cs key rules),.val (.lst (ks.map .str)),s2,s3,s4,s5]) (by rw [evS];simp only [yaq,yah,List.append_nil,yae,yad,evE,ygl,List.modify_succ_cons,List.modify_zero_cons,xmc,Sl.get,Sl.frz,xmn];simp only [xgs,xgz,xjs,xbs,items];exact e)];refine ⟨ps,?_,h2⟩;rcases h1 with rfl | rfl<;>simp [yab,evS,evE,ygl,yae,yah,Sl.get,Sl.frz,zaa]
end
section
structure Bt where
 nm:Str
 cs:List Col
 key:List Str
 rs:List T
noncomputable def Bt.t (b:Bt):T:=ybj b.nm b.cs b.key b.rs
noncomputable def ybb:List Str:=["id", "n", "t", "u"]
structure Bt.ok (b:Bt):Prop where
 nm:b.nm.length<=6
 cs:yca b.cs
 k1:b.key.length<=2
 ks:ydy b.key
 inn:∀ x∈b.key,∃ c∈b.cs,c.n=x
 kn:b.key≠[]
 nd:(b.cs.map (·.n)).Nodup
 kk:∀ c∈b.cs,c.k="whole"\/c.k="text"
 as:∀ c∈b.cs,c.n∈ybb
 na:ybv b.nm=true
 kg:∀ x∈b.key,∃ c∈b.cs,c.n=x/\c.g=false
inductive Rl where
 | ref (cs:List Str) (t w:Str) | unl (cs:List Str) | chk (t:Tst)
noncomputable def Rl.raw:Rl->T
 | .ref cs t w=>.tup [.str "refers",yaz cs,.str t,.str w]
 | .unl cs=>.tup [.str "unlike",.lst (cs.map .str)]
 | .chk t=>.tup [.str "check",t.t]
noncomputable def Rl.t:Rl->T
 | .ref cs t w=>.tup [.str "refers",yaz cs,.str t,.str w]
 | .unl cs=>.tup [.str "unlike",yaz cs]
 | .chk t=>.tup [.str "check",t.t]
noncomputable def Rl.ok:Rl->Prop
 | .ref cs t w=>ydy cs/\cs.length<=4/\t.length<=6/\w.length<=6
 | .unl cs=>ydy cs/\cs.length<=4
 | .chk t=>t.ok 3
noncomputable def Rl.asc:Rl->Prop
 | .ref _ t w=>ybv t=true/\ybv w=true
 | .unl _=>True
 | .chk t=>∃ cs:List Col,(∀ c∈cs,c.n∈ybb)/\t.inn cs
noncomputable def Rl.fits (ns:List Str) (cs:List Col):Rl->Prop
 | .ref ks t _=>(∀ x∈ks,∃ c∈cs,c.n=x)/\t∈ns
 | .unl ks=>∀ x∈ks,∃ c∈cs,c.n=x
 | .chk t=>t.inn cs
noncomputable def zb7 (cs:List Col) (x:Str):List Str:=cs.filterMap fun c=>if c.n==x then some c.k else none
theorem zid (cs:List Col) (x:Str):(cs.filterMap fun c=>if c.n==x then some (T.str c.k) else none)=(zb7 cs x).map T.str:=by unfold zb7;rw [List.map_filterMap];congr;funext o;split<;>rfl
theorem zkq {cs:List Col} {x:Str} (h:∃ c∈cs,c.n=x):∃ y r,zb7 cs x=y::r:=by
 obtain ⟨c,hc,rfl⟩:=h;have:c.k∈zb7 cs c.n:=ud8.mpr ⟨c,hc,by simp⟩;cases q:zb7 cs c.n with
 | nil=>rw [q] at this;cases this
 | cons y r=>exact ⟨y,r,rfl⟩
noncomputable def ydh:List Str:=["along", "stop", "late", "gap", "along", "gap"]
theorem zoi:∀ x∈ydh,ybv x=true:=by decide +kernel
theorem zp4:ybv "late"=true:=by decide +kernel
theorem zoh:∀ x∈ydh,x.length<=6:=by decide +kernel
theorem zp3:("late":Str).length<=6:=by decide +kernel
theorem znd (k:Int):∃ x∈ydh,ybk [.str "along",.str "stop",.str "late",.str "gap",.str "along",.str "gap"] (k%6)=some (.str x):=by obtain ⟨c,hc,e⟩:=zbo (enc:=T.str) (cs:=ydh) (by simp [ydh]) k;exact ⟨c,hc,e⟩
noncomputable def ydb (cs:List Col) (p:List Str):List Col:=cs.filterMap fun c=>if (p.any fun y=>y==c.n)&&!c.g then some c else none
theorem zld (cs:List Col) (p:List Str):(cs.filterMap fun c=>if (p.any fun y=>y==c.n)&&!c.g then some c.t else none)=(ydb cs p).map Col.t:=by unfold ydb;rw [List.map_filterMap];congr;funext o;split<;>rfl
theorem zha {α:Type} (f:α->T) (l:List α):yb0 (l.map f) []=l.isEmpty:=by cases l<;>rfl
theorem zqp (cs:List Col):(cs.filterMap fun c=>some (T.str c.n))=(cs.map (·.n)).map T.str:=by
 induction cs with
 | nil=>rfl
 | cons c cs ih=>simp [ih]
theorem znw (xs:List T) (j:Nat):cut xs none (some (j:Int))=xs.take j:=by
 unfold cut ycw;simp only [show ¬ ((j:Int)<0) by omega,if_false,Int.toNat_natCast,Nat.sub_zero,List.drop_zero];by_cases h:j<=xs.length
 .rw [Nat.min_eq_left h]
 .rw [Nat.min_eq_right (by omega),List.take_of_length_le (by omega),List.take_of_length_le (by omega)]
theorem Tst.up:∀ {d:Nat} {t:Tst},t.ok d->t.ok (d+1)
 | 0,_,h=>by cases ‹Tst›<;>simp [Tst.ok] at h
 | d+1,.emp c,h=>⟨by omega,h.2⟩
 | d+1,.bel a b,h=>⟨by omega,h.2⟩
 | d+1,.isI c i,h=>⟨by omega,h.2⟩
 | d+1,.isS c x,h=>⟨by omega,h.2⟩
 | d+1,.neg t,h=>Tst.up (d:=d) (t:=t) h
 | d+1,.cnj a b,h=>⟨Tst.up (d:=d) (t:=a) h.1,Tst.up (d:=d) (t:=b) h.2⟩
 | d+1,.dsj a b,h=>⟨Tst.up (d:=d) (t:=a) h.1,Tst.up (d:=d) (t:=b) h.2⟩
theorem zii {G:Glo} {c:E} {a b ss:List S} {U U':List Sl} (h0:yae (yah c) U=U) (h1:evE G c (ygl U)=some (.bl true)) (h2:yab G a U=some (.nx U')):yab G (.ite c a b::ss) U=yab G ss U':=zat (by rw [evS,h0,h1];exact h2)
section
variable {G:Glo} {BL bt gt KL PL NL ST pt:T} {k:Int} {s6 s7 s8 s9 s10:Sl}
noncomputable def ruD:List S:=zax.body.drop 3
noncomputable def ruE:List S:=zax.body.drop 4
theorem zyj:evE G (.cmp .lt (.bin .mod (.var 2) (.cst (.int 8))) (.cst (.int 5))) (ygl [.val BL,.val bt,.val (.int k),.val gt,.val KL,.val PL,s6,s7,s8,s9,s10])=some (.bl (decide (k%8<5))):=rfl
theorem zu6:evE G (.cmp .eq (.bin .mod (.var 2) (.cst (.int 8))) (.cst (.int 5))) (ygl [.val BL,.val bt,.val (.int k),.val gt,.val KL,.val PL,s6,s7,s8,s9,s10])=some (.bl (k%8==5)):=rfl
theorem zu5 {w w' gn:Str} {cl:Nat} (hc:evE G (.land (.cmp .lt (.bin .mod (.var 2) (.cst (.int 8))) (.cst (.int 5))) (.cmp .ne (.var 5) (.lst []))) (ygl [.val BL,.val bt,.val (.int k),.val gt,.val KL,.val PL,.no,.no,.no,.no,.no])=some (.bl true))
  (l5:ya6 .len PL=some (.int (cl:Int))) (hcl:0<cl) (i5:yai PL (.int (k/64%(cl:Int)))=some pt) (iw:ybk [.str "along",.str "stop",.str "late",.str "gap",.str "along",.str "gap"] (k/1024%6)=some (.str w))
  (e8:evE G (.comp (.var 0) 1 .plain [.idx (.var 1) (.cst (.int 1))] (some (.land (.cmp .isin (.idx (.var 0) (.cst (.int 0))) (.var 7)) (.lnot (.tru (.idx (.var 0) (.cst (.int 2))))))))  (ygl [.val BL,.val bt,.val (.int k),.val gt,.val KL,.val PL,.val pt,.val (.str w),.no,.no,.no])=some ST)
  (v:Bool) (hne:neC ST (.lst [])=some (.bl v)) (hw:w'=if v&&(w=="gap") then ("late":Str) else w) (ig:yai gt (.int 0)=some (.str gn)) :
  yab G ruD [.val BL,.val bt,.val (.int k),.val gt,.val KL,.val PL,.no,.no,.no,.no,.no]=some (.rt (.tup [.str "refers",pt,.str gn,.str w'])):=by
 refine zcq rfl hc ?_;refine (zas (t:=pt) (U':=[.val BL,.val bt,.val (.int k),.val gt,.val KL,.val PL,.val pt,.no,.no,.no,.no]) rfl (by simp [evE,ygl,Sl.get,l5,ya0,ybh,yat,hcl,i5]) rfl).trans ?_;refine (zas (t:=.str w) (U':=[.val BL,.val bt,.val (.int k),.val gt,.val KL,.val PL,.val pt,.val (.str w),.no,.no,.no]) rfl (by simp [evE,yad,ygl,Sl.get,ya0,ybh,yat,yai,iw]) rfl).trans ?_;refine (zas (t:=ST) (U':=[.val BL,.val bt,.val (.int k),.val gt,.val KL,.val PL,.val pt,.val (.str w),.val ST,.no,.no]) rfl e8 rfl).trans ?_;have hcd:evE G (.land (.cmp .ne (.var 8) (.lst [])) (.cmp .eq (.var 7) (.cst (.str "gap")))) (ygl [.val BL,.val bt,.val (.int k),.val gt,.val KL,.val PL,.val pt,.val (.str w),.val ST,.no,.no])=some (.bl (v&&(w=="gap"))):=by cases v<;>simp [evE,yad,ygl,Sl.get,yay,hne,eqC,dpP,eqT]
 cases q:(v&&(w==("gap":Str))) with
 | true =>rw [q] at hw hcd;subst hw;exact (zii (U':=[.val BL,.val bt,.val (.int k),.val gt,.val KL,.val PL,.val pt,.val (.str "late"),.val ST,.no,.no]) rfl hcd (zas (t:=.str "late") rfl rfl rfl)).trans (zaz rfl (by simp [evE,yad,ygl,Sl.get,ig]))
 | false =>rw [q] at hw hcd;subst hw;exact (zbc rfl hcd).trans (zaz rfl (by simp [evE,yad,ygl,Sl.get,ig]))
end
theorem zo8 {P:Pr} (hd:P.fn "_law_drawn"=some zaq) (ht:P.fn "_law_test"=some zau) (hp:P.fn "_law_pairs"=some za4) (h:P.fn "_law_rule"=some zax) (n:Nat)
  {bs:List Bt} (hb:∀ b∈bs,b.ok) {b:Bt} (hm:b∈bs) (k:Int):∃ r:Rl,run P (n+6) "_law_rule" [.lst (bs.map Bt.t),b.t,.int k]=some r.raw/\r.ok/\r.asc/\r.fits (bs.map (·.nm)) b.cs:=by
 rw [zaf h rfl];show ∃ r:Rl,zaa (yab (glo P (run P (n+5))) zax.body [.val (.lst (bs.map Bt.t)),.val b.t,.val (.int k),.no,.no,.no,.no,.no,.no,.no,.no])=_/\_;have hne:bs≠[]:=by intro e;rw [e] at hm;cases hm
 obtain ⟨g,hg,eg⟩:=zbo (enc:=Bt.t) hne (k/8);have hbo:=hb b hm;have hgo:=hb g hg;have hbl:0<bs.length:=by cases bs with | nil=>exact absurd rfl hne | cons _ _=>simp
 have hgl:g.cs.length<=16777216:=by have:=hgo.cs.2.1;omega
 have hbcl:b.cs.length<=16777216:=by have:=hbo.cs.2.1;omega
 have hkl:g.key.length<=16777216:=by have:=hgo.k1;omega
 have hb0:0<b.cs.length:=by have:=hbo.cs.1;cases q:b.cs with | nil=>exact absurd q this | cons _ _=>simp
 obtain ⟨ps,ep,hps⟩:=zl7 hp (n+4) hbo.cs (.str b.nm) (.tup (b.key.map .str)) (.tup b.rs) (g.key.map fun x=>(zb7 g.cs x).headD "") (by rw [zzo];exact hgo.k1);have ep:(glo P (run P (n+5))).call "_law_pairs" [b.t,.lst ((g.key.map fun x=>(zb7 g.cs x).headD "").map .str)]=some (.lst (ps.map yaz)):=ep;have tests:∀ d:Nat,d<=2->∃ t:Tst,(glo P (run P (n+5))).call "_law_test" [b.t,.int (k/64),.int ((d+1:Nat):Int)]=some t.t/\t.ok 3/\t.inn b.cs:=fun d hd2=>by
  obtain ⟨t,e,o,hin⟩:=zou hd ht hbo.cs (.str b.nm) (.tup (b.key.map .str)) (.tup b.rs) d (n+3-d) (k/64);rw [show n+3-d+d+2=n+5 by omega] at e;refine ⟨t,e,?_,hin⟩;rcases (by omega:d=0\/d=1\/d=2) with rfl | rfl | rfl
  .exact Tst.up (Tst.up o)
  .exact Tst.up o
  .exact o
 generalize glo P (run P (n+5))=G at *;have lB:ya6 .len (.lst (bs.map Bt.t))=some (.int (bs.length:Int)):=by simp [ya6]
 have iB:yai (.lst (bs.map Bt.t)) (.int (k/8%(bs.length:Int)))=some g.t:=eg;have ib1:yai b.t (.int 1)=some (.tup (b.cs.map Col.t)):=by simp [Bt.t,ybj,yai,yar]
 have ig0:yai g.t (.int 0)=some (.str g.nm):=by simp [Bt.t,ybj,yai,yaw]
 have ig1:yai g.t (.int 1)=some (.tup (g.cs.map Col.t)):=by simp [Bt.t,ybj,yai,yar]
 have ig2:yai g.t (.int 2)=some (.tup (g.key.map .str)):=by simp [Bt.t,ybj,yai,ybf]
 generalize T.lst (bs.map Bt.t)=BL at *;generalize b.t=bt at *;generalize g.t=gt at *;have e4:evE G (.comp (.idx (.comp (.idx (.var 0) (.cst (.int 1))) 1 .plain [.idx (.var 4) (.cst (.int 1))] (some (.cmp .eq (.idx (.var 0) (.cst (.int 0))) (.var 1)))) (.cst (.int 0))) 1 .plain [.idx (.var 3) (.cst (.int 2))] none) (ygl [.val BL,.val bt,.val (.int k),.val gt,.no,.no,.no,.no,.no,.no,.no])=some (.lst ((g.key.map fun x=>(zb7 g.cs x).headD "").map .str)):=by
  simp [evE,yad,evO,ygl,Sl.get,items,yak,bnd,SZ,yay,ig1,ig2,hkl];rw [zav (enc:=T.str) (fun x=>some (T.str ((zb7 g.cs x).headD ""))) (fun x hx=>by
   obtain ⟨y,r,ey⟩:=zkq (hgo.inn x hx);simp [hgl];rw [zav (enc:=Col.t) (fun c=>if c.n==x then some (T.str c.k) else none) (fun c _=>by cases hk:(c.n==x)<;>simp [Col.t,yai,yaw,yar,eqC,dpP,eqT,hk]),zid,ey];simp [yai,yaw])]
  simp [List.filterMap_eq_map']
 generalize T.lst ((g.key.map fun x=>(zb7 g.cs x).headD "").map T.str)=KL at *;have pre:∀ PL:T,G.call "_law_pairs" [bt,KL]=some PL->yab G zax.body [.val BL,.val bt,.val (.int k),.no,.no,.no,.no,.no,.no,.no,.no]=yab G ruD [.val BL,.val bt,.val (.int k),.val gt,.val KL,.val PL,.no,.no,.no,.no,.no]:=fun PL hPL =>
  (zas (t:=gt) (U':=[.val BL,.val bt,.val (.int k),.val gt,.no,.no,.no,.no,.no,.no,.no]) rfl (by simp [evE,ygl,Sl.get,lB,ya0,ybh,yat,hbl,iB]) rfl).trans
   ((zas (t:=KL) (U':=[.val BL,.val bt,.val (.int k),.val gt,.val KL,.no,.no,.no,.no,.no,.no]) rfl e4 rfl).trans (zas (t:=PL) rfl (by simp [evE,yad,ygl,Sl.get,hPL]) rfl))
 rw [pre _ ep];have hcd:evE G (.land (.cmp .lt (.bin .mod (.var 2) (.cst (.int 8))) (.cst (.int 5))) (.cmp .ne (.var 5) (.lst []))) (ygl [.val BL,.val bt,.val (.int k),.val gt,.val KL,.val (.lst (ps.map yaz)),.no,.no,.no,.no,.no])=some (.bl (decide (k%8<5)&&!ps.isEmpty)):=by
  rw [evE,zyj];cases decide (k%8<5) with
  | false=>rfl
  | true=>cases ps<;>simp [evE,yad,ygl,Sl.get,yay,neC,dpP,ybe,eqT,yb0]
 cases hw:(decide (k%8<5)&&!ps.isEmpty) with
 | true =>
  rw [hw] at hcd;rw [zzn] at hw;have hpn:ps≠[]:=by intro e;rw [e] at hw;simp at hw
  obtain ⟨p,hp',epi⟩:=zbo (enc:=yaz) hpn (k/64);have hpl:0<ps.length:=by cases q:ps with | nil=>exact absurd q hpn | cons _ _=>simp
  obtain ⟨w,hwm,ew⟩:=znd (k/1024);have hpo:=hps.2 p hp';have e8:evE G (.comp (.var 0) 1 .plain [.idx (.var 1) (.cst (.int 1))] (some (.land (.cmp .isin (.idx (.var 0) (.cst (.int 0))) (.var 7)) (.lnot (.tru (.idx (.var 0) (.cst (.int 2))))))))  (ygl [.val BL,.val bt,.val (.int k),.val gt,.val KL,.val (.lst (ps.map yaz)),.val (yaz p),.val (.str w),.no,.no,.no])=some (.lst ((ydb b.cs p).map Col.t)):=by
   simp [evE,yad,evO,ygl,Sl.get,items,yak,bnd,SZ,yay,ib1,hbcl];rw [zav (enc:=Col.t) (fun c=>if (p.any fun y=>y==c.n)&&!c.g then some c.t else none) (fun c _=>by have hin:=zm5 c.n p;cases ha:(p.any fun y=>y==c.n)<;>rw [ha] at hin<;>cases hgg:c.g<;>simp [Col.t,yai,yaw,ybf,yaz,hin,hgg,yc3]),zld]
  have hne2:neC (.lst ((ydb b.cs p).map Col.t)) (.lst [])=some (.bl (!(ydb b.cs p).isEmpty)):=by unfold neC;rw [if_pos (by simp [dpP,ybe]),eqT,zha]
  have key:=zu5 (G:=G) (w:=w) hcd (by simp [ya6]) hpl epi ew e8 _ hne2 rfl ig0;refine ⟨.ref p g.nm (if (!(ydb b.cs p).isEmpty)&&(w=="gap") then ("late":Str) else w),zzz zaa key,⟨fun x hx=>(hpo.1 x hx).1,?_,hgo.nm,?_⟩,⟨hgo.na,?_⟩,fun x hx=>(hpo.1 x hx).2,ua0.mpr ⟨g,hg,rfl⟩⟩
  .rw [hpo.2,zzo];have:=hgo.k1;omega
  .split
   .exact zp3
   .exact zoh w hwm
  .split
   .exact zp4
   .exact zoi w hwm
 | false =>
  rw [hw] at hcd;generalize T.lst (ps.map yaz)=PL at *;have e9:evE G (.comp (.idx (.var 0) (.cst (.int 0))) 1 .plain [.idx (.var 1) (.cst (.int 1))] none) (ygl [.val BL,.val bt,.val (.int k),.val gt,.val KL,.val PL,.no,.no,.no,.no,.no])=some (.lst ((b.cs.map (·.n)).map .str)):=by simp [evE,yad,evO,ygl,Sl.get,items,yak,bnd,SZ,ib1,hbcl];rw [zav (enc:=Col.t) (fun c=>some (T.str c.n)) (fun c _=>by simp [Col.t,yai,yaw]),zqp];simp
  have pre2:yab G ruD [.val BL,.val bt,.val (.int k),.val gt,.val KL,.val PL,.no,.no,.no,.no,.no]=yab G (ruE.drop 1) [.val BL,.val bt,.val (.int k),.val gt,.val KL,.val PL,.no,.no,.no,.val (.lst ((b.cs.map (·.n)).map .str)),.no] :=
   (zbc rfl hcd).trans (zas rfl e9 rfl)
  rw [pre2];by_cases h5:k%8=5
  .obtain ⟨j,hj⟩:∃ j:Nat,k/64%(b.cs.length:Int)=(j:Int):=⟨(k/64%(b.cs.length:Int)).toNat,by have:=uc7 (k/64) (show (b.cs.length:Int)≠0 by omega);omega⟩;have hx1:k/64%(b.cs.length:Int)<(b.cs.length:Int):=uc0 _ (by omega);obtain ⟨m,hm2⟩:∃ m:Nat,1+k/1024%2=(m:Int):=⟨(1+k/1024%2).toNat,by omega⟩;have hjl:j<=((b.cs.map (·.n)).map T.str).length:=by simp;omega
   have hz:b.cs.length-j+min j b.cs.length<=16777216:=by omega
   have e10:evE G (.tup [.cst (.str "unlike"),.sli (.bin .add (.sli (.var 9) (some (.var 10)) none) (.sli (.var 9) none (some (.var 10)))) none (some (.bin .add (.cst (.int 1)) (.bin .mod (.bin .fdiv (.var 2) (.cst (.int 1024))) (.cst (.int 2)))))]) (ygl [.val BL,.val bt,.val (.int k),.val gt,.val KL,.val PL,.no,.no,.no,.val (.lst ((b.cs.map (·.n)).map .str)),.val (.int (j:Int))])=some (Rl.unl ((ycd (b.cs.map (·.n)) j).take m)).raw:=by have q1:=zga _ _ hjl;have q2:=znx _ _ hjl;simp only [List.map_map] at q1 q2;simp [evE,yad,evO,ygl,Sl.get,ya0,ybp,ybh,yat,asI,yc6,hm2,q1,q2,SZ,hz,znw,Rl.raw,ycd]
   refine ⟨.unl ((ycd (b.cs.map (·.n)) j).take m),congrArg zaa (zcq rfl (zu6.trans (by rw [h5];rfl)) ((zas (t:=.int (j:Int)) (U':=[.val BL,.val bt,.val (.int k),.val gt,.val KL,.val PL,.no,.no,.no,.val (.lst ((b.cs.map (·.n)).map .str)),.val (.int (j:Int))]) rfl (by simp [evE,ygl,Sl.get,ya6,ya0,ybh,yat,hb0,hj]) rfl).trans (zaz rfl e10))),⟨fun x hx=>?_,?_⟩,trivial,fun x hx=>?_⟩
   .have hx':=ub6 hx;unfold ycd at hx';have hx2:x∈b.cs.map (·.n):=by
     rcases oma hx' with z | z
     .exact List.mem_of_mem_drop z
     .exact ub6 z
    obtain ⟨c,hc,rfl⟩:=omm hx2;exact (hbo.cs.2.2 c hc).1
   .unfold ycd;simp only [List.length_take,List.length_append,List.length_drop,List.length_map];have:=hbo.cs.2.1;omega
   .have hx':=ub6 hx;unfold ycd at hx';have hx2:x∈b.cs.map (·.n):=by
     rcases oma hx' with z | z
     .exact List.mem_of_mem_drop z
     .exact ub6 z
    exact omm hx2
  .obtain ⟨d,hd2,hdz⟩:∃ d:Nat,d<=2/\1+k/1024%3=((d+1:Nat):Int):=⟨(k/1024%3).toNat,by omega,by omega⟩;obtain ⟨t,e,o,hin⟩:=tests d hd2;exact ⟨.chk t,congrArg zaa ((zbc rfl (zu6.trans (by rw [show (k%8==5)=false by simpa using h5]))).trans (zaz rfl (by simp only [Int.natCast_add,Int.cast_ofNat_Int] at e hdz;simp [evE,yad,ygl,Sl.get,ya0,ybp,ybh,yat,hdz,e,Rl.raw]))),o,⟨b.cs,hbo.as,hin⟩,hin⟩
end
section
variable {cs:List Col}
structure Tb where
 nm:Str
 cs:List Col
 key:List Str
 rs:List Rl
noncomputable def Tb.t (b:Tb):T:=ybj b.nm b.cs b.key (b.rs.map Rl.t)
structure Tb.ok (b:Tb):Prop where
 nm:b.nm.length<=6
 cl:b.cs.length<=4
 cs:∀ c∈b.cs,Sh c.n/\c.k.length<=6
 k1:b.key.length<=2
 ks:ydy b.key
 rl:b.rs.length<=4
 rs:∀ r∈b.rs,r.ok
 kn:b.key≠[]
 cn:b.cs≠[]
 nd:(b.cs.map (·.n)).Nodup
 kk:∀ c∈b.cs,c.k="whole"\/c.k="text"
 as:∀ c∈b.cs,c.n∈ybb
 na:ybv b.nm=true
 inn:∀ x∈b.key,∃ c∈b.cs,c.n=x
 ra:∀ r∈b.rs,r.asc
 kg:∀ x∈b.key,∃ c∈b.cs,c.n=x/\c.g=false
theorem zjn (i:Int):(yau i).length<=6:=by
 have all:∀ x∈kinds6,x.length<=6:=by decide +kernel
 unfold yau;rw [zzr];cases e:kinds6[(i%6).toNat]? with
 | none=>decide +kernel
 | some x=>exact all x (zAm e)
theorem zdy (k:Int):∀ c∈yaa k,c.n.length<=6/\c.k.length<=6:=by
 have hc:∀ (j:Int) (nm:Str),nm.length<=6->∀ c∈ybo k j nm,c.n.length<=6/\c.k.length<=6:=fun j nm hn c h=>by
  unfold ybo at h;split at h
  .rw [omg h];exact ⟨hn,zjn _⟩
  .cases h
 intro c h;unfold yaa at h;rcases oma h with h | h
 .rw [omg h];exact ⟨(by decide +kernel:("id":Str).length<=6),zjn _⟩
 .rcases oma h with h | h
  .exact hc _ _ (by decide +kernel) c h
  .rcases oma h with h | h
   .exact hc _ _ (by decide +kernel) c h
   .exact hc _ _ (by decide +kernel) c h
theorem zb1 {α:Type} {l:List α} {b:Nat} {x:α}:x∈ycd l b↔x∈l:=by
 unfold ycd;rw [ue2];constructor
 .rintro (h | h)
  .exact List.mem_of_mem_drop h
  .exact ub6 h
 .intro h;rw [<- List.take_append_drop b l,ue2] at h;exact h.symm
theorem zea {α:Type} (l:List α) (b:Nat):(ycd l b).length=l.length:=by unfold ycd;simp only [List.length_append,List.length_drop,List.length_take];omega
theorem zl0 {x:Str} (h:x∈za3 cs):∃ c∈cs,c.n=x:=by
 unfold za3 at h;obtain ⟨c,hc,e⟩:=ud8.mp h;split at e
 .cases e
 .cases e;exact ⟨c,hc,rfl⟩
theorem zxc (k:Int):∃ c∈yaa k,c.n="id":=⟨⟨"id",yau k,false⟩,by unfold yaa;simp,rfl⟩
noncomputable def mkB (nm:Str) (k:Int):Bt:=⟨nm,ycd (yaa k) (k/64%((yaa k).length:Int)).toNat,yb2 k (yaa k),[]⟩
theorem zms (k:Int):∀ x∈yb2 k (yaa k),∃ c∈yaa k,c.n=x:=by
 intro x hx;have hid:=zxc k;unfold yb2 at hx;split at hx
 .rename_i h;have hg:∃ c∈yaa k,c.n=(za3 (yaa k)).getD 1 "id":=by refine zl0 ?_;rw [zzr,zzm h.2];exact ua5 _
  split at hx<;>simp only [List.mem_cons,List.not_mem_nil,or_false] at hx<;>rcases hx with rfl | rfl<;>assumption
 .rw [omg hx];exact hid
theorem zsy {x:Str} (h:x∈za3 cs):∃ c∈cs,c.n=x/\c.g=false:=by
 unfold za3 at h;obtain ⟨c,hc,e⟩:=ud8.mp h;cases hg:c.g with
 | true=>rw [hg] at e;cases e
 | false=>rw [hg] at e;exact ⟨c,hc,zz2 e,hg⟩
theorem zy2 (k:Int):∀ x∈yb2 k (yaa k),∃ c∈yaa k,c.n=x/\c.g=false:=by
 intro x hx;have hid:∃ c∈yaa k,c.n="id"/\c.g=false:=⟨⟨"id",yau k,false⟩,by unfold yaa;simp,rfl,rfl⟩;unfold yb2 at hx;split at hx
 .rename_i h;have hg:∃ c∈yaa k,c.n=(za3 (yaa k)).getD 1 "id"/\c.g=false:=by refine zsy ?_;rw [zzr,zzm h.2];exact ua5 _
  split at hx<;>simp only [List.mem_cons,List.not_mem_nil,or_false] at hx<;>rcases hx with rfl | rfl<;>assumption
 .rw [omg hx];exact hid
theorem ztx (k:Int) (cs:List Col):(yb2 k cs).length<=2:=by unfold yb2;split<;>(try split)<;>simp
theorem zuf (k:Int):((yaa k).map (·.n)).Nodup:=by
 have e1:(("id":Str)=="n")=false/\(("id":Str)=="t")=false/\(("id":Str)=="u")=false/\(("n":Str)=="t")=false/\(("n":Str)=="u")=false/\(("t":Str)=="u")=false:=by decide +kernel
 obtain ⟨a1,a2,a3,a4,a5,a6⟩:=e1;have b1:=ne_of_beq_false a1;have b2:=ne_of_beq_false a2;have b3:=ne_of_beq_false a3;have b4:=ne_of_beq_false a4;have b5:=ne_of_beq_false a5;have b6:=ne_of_beq_false a6;unfold yaa ybo;split<;>split<;>split<;>simp [b1,b2,b3,b4,b5,b6]
theorem zjm (i:Int):yau i="whole"\/yau i="text":=by
 have all:∀ x∈kinds6,(x==("whole":Str))=true\/(x==("text":Str))=true:=by decide +kernel
 unfold yau;rw [zzr];cases e:kinds6[(i%6).toNat]? with
 | none=>exact .inl rfl
 | some x =>
  rcases all x (zAm e) with h | h
  .exact .inl (ua2 h)
  .exact .inr (ua2 h)
theorem zqo (k:Int):∀ c∈yaa k,c.k="whole"\/c.k="text":=by
 have one:∀ (j:Int) (nm:Str),∀ c∈ybo k j nm,c.k="whole"\/c.k="text":=by
  intro j nm c hc;unfold ybo at hc;split at hc
  .rw [omg hc];exact zjm _
  .cases hc
 intro c hc;unfold yaa at hc;rcases oma hc with h | h
 .rw [omg h];exact zjm _
 .rcases oma h with h | h
  .exact one _ _ c h
  .rcases oma h with h | h
   .exact one _ _ c h
   .exact one _ _ c h
theorem zir (k:Int):∀ c∈yaa k,c.n∈ybb:=by
 have one:∀ (j:Int) (nm:Str),nm∈ybb->∀ c∈ybo k j nm,c.n∈ybb:=by
  intro j nm hn c hc;unfold ybo at hc;split at hc
  .rw [omg hc];exact hn
  .cases hc
 intro c hc;unfold yaa at hc;rcases oma hc with h | h
 .rw [omg h];simp [ybb]
 .rcases oma h with h | h
  .exact one _ _ (by simp [ybb]) c h
  .rcases oma h with h | h
   .exact one _ _ (by simp [ybb]) c h
   .exact one _ _ (by simp [ybb]) c h
theorem zrp:∀ x∈ybb,ybv x=true:=by decide +kernel
theorem zwt (nm:Str) (hn:nm.length<=6) (ha:ybv nm=true) (k:Int):(mkB nm k).ok where
 kg:=fun x hx=>by obtain ⟨c,hc,e⟩:=zy2 k x hx;exact ⟨c,zb1.mpr hc,e⟩
 nm:=hn
 cs:=by have h:=zd5 k;refine ⟨fun e=>?_,by show (ycd _ _).length<=4;rw [zea];exact h.2,fun c hc=>⟨⟨(zdy k c (zb1.mp hc)).1,zrp _ (zir k c (zb1.mp hc))⟩,(zdy k c (zb1.mp hc)).2⟩⟩;have e':(ycd (yaa k) (k/64%((yaa k).length:Int)).toNat).length=([]:List Col).length:=zzz List.length e;rw [zea] at e';simp at e';rw [e'] at h;simp at h
 k1:=ztx k _
 ks:=fun x hx=>by obtain ⟨c,hc,rfl⟩:=zms k x hx;exact ⟨(zdy k c hc).1,zrp _ (zir k c hc)⟩
 inn:=fun x hx=>by obtain ⟨c,hc,e⟩:=zms k x hx;exact ⟨c,zb1.mpr hc,e⟩
 kn:=by show yb2 k (yaa k)≠[];unfold yb2;split<;>(try split)<;>simp
 nd:=by show ((ycd (yaa k) _).map (·.n)).Nodup;have h:=zuf k;unfold ycd;rw [zz6];rw [<- List.take_append_drop (k/64%((yaa k).length:Int)).toNat (yaa k),zz6] at h;exact (List.perm_append_comm.nodup_iff).mp h
 kk:=fun c hc=>zqo k c (zb1.mp hc)
 as:=fun c hc=>zir k c (zb1.mp hc)
 na:=ha
theorem zb4 {α:Type} (enc:α->T):∀ (l:List α) (i:Nat),ya8 (l.map enc) i=(l.zipIdx i).map fun p=>.tup [.int (p.2:Int),enc p.1]
 | [],_=>rfl
 | a::l,i=>by rw [zzi,ya8,zb4 enc l (i+1),List.zipIdx_cons,zzi]
theorem zey:∀ (l:List T) (i:Nat),(ya8 l i).length=l.length
 | [],_=>rfl
 | a::l,i=>by rw [ya8,zz4,zz4,zey l (i+1)]
theorem zln {G:Glo} (r:Rl) (e:Env):evE G (.bin .add (.tup [.idx (.var 0) (.cst (.int 0)),.blt .toTuple (.idx (.var 0) (.cst (.int 1)))]) (.sli (.var 0) (some (.cst (.int 2))) none)) (some r.raw::e)=some r.t:=by
 cases r with
 | ref cs t w=>simp [evE,yad,evO,ya0,ybp,yai,ya6,asI,yc6,SZ,Rl.raw,Rl.t,yaw,yar,cut,ycw,yaz]
 | unl cs=>simp [evE,yad,evO,ya0,ybp,yai,ya6,asI,yc6,SZ,Rl.raw,Rl.t,yaw,yar,cut,ycw,yaz]
 | chk t=>cases t<;>simp [evE,yad,evO,ya0,ybp,yai,ya6,asI,yc6,SZ,Rl.raw,Rl.t,Tst.t,yaw,yar,cut,ycw]
theorem zki {P:Pr} (hd:P.fn "_law_drawn"=some zaq) (ht:P.fn "_law_test"=some zau) (hp:P.fn "_law_pairs"=some za4) (hr:P.fn "_law_rule"=some zax) (n:Nat)
  {bs:List Bt} (hb:∀ b∈bs,b.ok) {b:Bt} (hm:b∈bs) (k d c:Int) (s1 s2 s3 s5:T) (m:Nat) (hm3:m<=3) (s9 s10:Sl) :
  ∃ (rs:List Rl) (s9':Sl),yav (fun x U=>(ya1 [9] x U).bind fun U'=>yab (glo P (run P (n+6))) [.app 8 (.call "_law_rule" [.var 4,.var 6,.bin .fdiv (.call "_law_drawn" [.var 7,.var 9]) (.cst (.int 4))])] U')
   ((List.range m).map fun (i:Nat)=>T.int (i:Int)) [.val (.int k),.val s1,.val s2,.val s3,.val (.lst (bs.map Bt.t)),.val s5,.val b.t,.val (.int d),.own [],s9,s10] =
   some (.nx [.val (.int k),.val s1,.val s2,.val s3,.val (.lst (bs.map Bt.t)),.val s5,.val b.t,.val (.int d),.own (rs.map Rl.raw),s9',s10])/\rs.length=m/\∀ r∈rs,r.ok/\r.asc/\r.fits (bs.map (·.nm)) b.cs:=by
 obtain ⟨U',e,rs,s9',rfl,h1,h2⟩:=zal (enc:=fun (i:Nat)=>T.int (i:Int)) (f:=fun x U=>(ya1 [9] x U).bind fun U'=>yab (glo P (run P (n+6))) [.app 8 (.call "_law_rule" [.var 4,.var 6,.bin .fdiv (.call "_law_drawn" [.var 7,.var 9]) (.cst (.int 4))])] U')
  (fun done U=>∃ rs s9',U=[.val (.int k),.val s1,.val s2,.val s3,.val (.lst (bs.map Bt.t)),.val s5,.val b.t,.val (.int d),.own (rs.map Rl.raw),s9',s10]/\rs.length=done.length/\∀ r∈rs,r.ok/\r.asc/\r.fits (bs.map (·.nm)) b.cs)
  (List.range m) [.val (.int k),.val s1,.val s2,.val s3,.val (.lst (bs.map Bt.t)),.val s5,.val b.t,.val (.int d),.own [],s9,s10] ⟨[],s9,rfl,rfl,fun r h=>by cases h⟩ (by
   rintro done i rest hsp U ⟨rs,s9',rfl,h1,h2⟩;obtain ⟨r,er,hro⟩:=zo8 hd ht hp hr n hb hm (yam d i/4);have ed:=zbx hd (n+5) d i;have hdl:done.length<=3:=by have:=zzz List.length hsp;simp at this;omega
   have hz:rs.length<16777216:=by omega
   refine ⟨[.val (.int k),.val s1,.val s2,.val s3,.val (.lst (bs.map Bt.t)),.val s5,.val b.t,.val (.int d),.own ((rs++[r]).map Rl.raw),.val (.int i),s10],?_,rs++[r],_,rfl,by simp [h1],fun q hq=>?_⟩
   .simp [yab,evS,evE,yad,ygl,yae,yah,yaq,Sl.get,Sl.frz,ya0,yat,ya1,glo,SZ,ed,er,hz]
   .rcases oma hq with z | z
    .exact h2 q z
    .rw [omg z];exact hro)
 exact ⟨rs,s9',e,by rw [h1];simp,h2⟩
end
section
noncomputable def names4:List Str:=["item", "user", "box", "log"]
theorem zkn:∀ x∈names4,x.length<=6:=by decide +kernel
theorem zmd:∀ x∈names4,ybv x=true:=by decide +kernel
noncomputable def yfm:List Int:=[2,1,3,4,2,3]
noncomputable def yfj:List Int:=[1,2,0,1,3]
theorem zqq:∀ c∈yfm,1<=c/\c<=4:=by decide
theorem zqr:∀ c∈yfj,0<=c/\c<=3:=by decide
theorem zne (k:Int):∃ i∈yfm,ybk [.int 2,.int 1,.int 3,.int 4,.int 2,.int 3] (k%6)=some (.int i):=by obtain ⟨c,hc,e⟩:=zbo (enc:=T.int) (cs:=yfm) (by simp [yfm]) k;exact ⟨c,hc,e⟩
theorem znf (k:Int):∃ i∈yfj,ybk [.int 1,.int 2,.int 0,.int 1,.int 3] (k%5)=some (.int i):=by obtain ⟨c,hc,e⟩:=zbo (enc:=T.int) (cs:=yfj) (by simp [yfj]) k;exact ⟨c,hc,e⟩
theorem zd8 {α β:Type} (f:α->β) (l:List α):(l.filterMap fun a=>some (f a))=l.map f:=by
 induction l with
 | nil=>rfl
 | cons a l ih=>simp [ih]
theorem zed (G:Glo) (elt:E) (n:Nat) (k:Ik) (src:List E) (cond:Option E) (r:Env):evE G (.comp elt n k src cond) r=(yad G src r).bind fun xs=>(yak k xs).bind fun qc =>
   (ya4 (fun x=>(bnd n x r).bind fun r'=>(evO G cond r').bind fun c=>match c with
    | none=>(evE G elt r').map some
    | some (.bl true)=>(evE G elt r').map some
    | some (.bl false)=>some none
    | some _=>none) qc).map .lst:=by rw [evE];try rfl
theorem zt5 (G:Glo) (i:Nat) (r:Env):evE G (.var i) r=(r[i]?).join:=by rw [evE]
theorem zbk (G:Glo) (f:Bn) (a:E) (r:Env):evE G (.blt f a) r=(evE G a r).bind fun x=>ya6 f x:=by rw [evE]
theorem zih (q:Nat) (h:q<=3):items .range [.int (q:Int)]=some ((List.range q).map fun (i:Nat)=>T.int (i:Int)):=by simp only [items,ybm,Int.toNat_natCast];rw [if_pos (by omega)]
theorem za1 {G:Glo} {is:List Nat} {k:Ik} {src:List E} {body:List S} {U U0:List Sl} {xs qc:List T} {o:Out} (h0:yae (yaq src) U=U0) (h1:yad G src (ygl U0)=some xs) (h2:items k xs=some qc)
  (h3:yav (fun x U=>(ya1 is x U).bind fun U'=>yab G body U') qc U0=some o):evS G (.loop is k src body) U=some o:=by
 rw [evS,h0,h1,zzh,h2,zzh];exact h3
noncomputable def yei:List S:=[.asg 7 (.bin .fdiv (.call "_law_drawn" [.var 0,.bin .add (.cst (.int 20)) (.var 3)]) (.cst (.int 4))),
  .asg 8 (.lst []),
  .loop [9] .range [.idx (.tup [.cst (.int 1),.cst (.int 2),.cst (.int 0),.cst (.int 1),.cst (.int 3)]) (.bin .mod (.var 7) (.cst (.int 5)))] [.app 8 (.call "_law_rule" [.var 4,.var 6,.bin .fdiv (.call "_law_drawn" [.var 7,.var 9]) (.cst (.int 4))])],
  .asg 10 (.blt .toTuple (.comp (.bin .add (.tup [.idx (.var 0) (.cst (.int 0)),.blt .toTuple (.idx (.var 0) (.cst (.int 1)))]) (.sli (.var 0) (some (.cst (.int 2))) none)) 1 .plain [.var 8] none)),
  .asg 5 (.bin .add (.var 5) (.tup [.bin .add (.sli (.var 6) none (some (.cst (.int 3)))) (.tup [.var 10])]))]
set_option maxRecDepth 1000000 in
theorem zhw {P:Pr} (hd:P.fn "_law_drawn"=some zaq) (ht:P.fn "_law_test"=some zau) (hp:P.fn "_law_pairs"=some za4) (hr:P.fn "_law_rule"=some zax) (n:Nat)
  {bs:List Bt} (hbo:∀ b∈bs,b.ok) {b:Bt} (hbm:b∈bs) (k:Int) (s1:T) (s2:Int) (i:Nat) (S:List Tb) (hS:S.length<=4) (s7 s8 s9 s10:Sl) :
  ∃ (rs:List Rl) (s9':Sl),yab (glo P (run P (n+6))) yei [.val (.int k),.val s1,.val (.int s2),.val (.int (i:Int)),.val (.lst (bs.map Bt.t)),.val (.tup (S.map Tb.t)),.val b.t,s7,s8,s9,s10] =
   some (.nx [.val (.int k),.val s1,.val (.int s2),.val (.int (i:Int)),.val (.lst (bs.map Bt.t)),.val (.tup ((S++[(⟨b.nm,b.cs,b.key,rs⟩:Tb)]).map Tb.t)),.val b.t,.val (.int (yam k (20+i)/4)),.val (.lst (rs.map Rl.raw)),s9',.val (.tup (rs.map Rl.t))])/\rs.length<=3/\∀ r∈rs,r.ok/\r.asc/\r.fits (bs.map (·.nm)) b.cs:=by
 have e1:=zbx hd (n+5) k (20+i);obtain ⟨c,hc,ecn⟩:=znf (yam k (20+i)/4);have hcm:=zqr c hc;obtain ⟨q,rfl⟩:∃ q:Nat,c=(q:Int):=⟨c.toNat,by omega⟩;have hq3:q<=3:=by omega
 obtain ⟨rs,s9',el,hrl,hro⟩:=zki hd ht hp hr n hbo hbm k (yam k (20+i)/4) 0 s1 (.int s2) (.int (i:Int)) (.tup (S.map Tb.t)) q hq3 s9 s10;have hz1:rs.length<=16777216:=by omega
 have hz2:S.length+1<=16777216:=by omega
 refine ⟨rs,s9',?_,by omega,hro⟩;unfold yei;rw [zat (U':=[.val (.int k),.val s1,.val (.int s2),.val (.int (i:Int)),.val (.lst (bs.map Bt.t)),.val (.tup (S.map Tb.t)),.val b.t,.val (.int (yam k (20+i)/4)),s8,s9,s10]) (by simp [evS,evE,yad,ygl,yae,yah,yaq,Sl.get,Sl.frz,ya0,ybp,yat,yap,fresh,glo,SZ,e1])];rw [zat (U':=[.val (.int k),.val s1,.val (.int s2),.val (.int (i:Int)),.val (.lst (bs.map Bt.t)),.val (.tup (S.map Tb.t)),.val b.t,.val (.int (yam k (20+i)/4)),.own [],s9,s10]) (by simp [evS,evE,yad,yae,yah,yaq,yap,fresh])];rw [zat (s:=.loop _ _ _ _) (U':=[.val (.int k),.val s1,.val (.int s2),.val (.int (i:Int)),.val (.lst (bs.map Bt.t)),.val (.tup (S.map Tb.t)),.val b.t,.val (.int (yam k (20+i)/4)),.own (rs.map Rl.raw),s9',s10]) (by refine za1 (qc:=(List.range q).map fun (i:Nat)=>T.int (i:Int)) (xs:=[.int (q:Int)]) (U0:=[.val (.int k),.val s1,.val (.int s2),.val (.int (i:Int)),.val (.lst (bs.map Bt.t)),.val (.tup (S.map Tb.t)),.val b.t,.val (.int (yam k (20+i)/4)),.own [],s9,s10]) (by simp [yaq,yah,yae,Sl.frz]) ?_ (zih q hq3) el;simp [evE,yad,ygl,Sl.get,ya0,ybh,yai,ecn])];rw [zat (U':=[.val (.int k),.val s1,.val (.int s2),.val (.int (i:Int)),.val (.lst (bs.map Bt.t)),.val (.tup (S.map Tb.t)),.val b.t,.val (.int (yam k (20+i)/4)),.val (.lst (rs.map Rl.raw)),s9',.val (.tup (rs.map Rl.t))]) (by
  simp only [evS,ygl,yae,yah,yaq,yb8,List.append_nil,List.nil_append,List.cons_append,List.filterMap_cons,List.filterMap_nil,Nat.reduceLeDiff,if_false,List.modify_succ_cons,List.modify_zero_cons,Sl.frz,xmc,xmn,Sl.get];rw [zbk,zed];simp only [yad,zt5,xgs,xgz,xjs,xbs,yak,items,List.length_map,SZ,hz1,if_true];rw [zav (enc:=Rl.raw) (fun r=>some r.t) (fun r _=>by simp only [bnd,if_true,xbs,evO];rw [zln];rfl),zd8];simp [yap,fresh,ya6])]
 simp [yab,evS,evE,yad,evO,ygl,yae,yah,yaq,yb8,Sl.get,Sl.frz,ya0,ybp,yap,fresh,asI,yc6,SZ,Bt.t,ybj,cut,ycw,hz2,Tb.t]
theorem zhx {P:Pr} (hd:P.fn "_law_drawn"=some zaq) (ht:P.fn "_law_test"=some zau) (hp:P.fn "_law_pairs"=some za4) (hr:P.fn "_law_rule"=some zax)
  (hb:P.fn "_law_bare"=some za8) (h:P.fn "_law_schema"=some zb5) (n:Nat) (k:Int) :
  ∃ S:List Tb,run P (n+7) "_law_schema" [.int k]=some (.tup (S.map Tb.t))/\S.length<=4/\(∀ b∈S,b.ok)/\0<S.length/\(S.map (·.nm)).Nodup/\∀ b∈S,b.rs.length<=3/\∀ r∈b.rs,r.fits (S.map (·.nm)) b.cs:=by
 rw [zaf h rfl];obtain ⟨c,hc,ec⟩:=zne (k/4);have hc':=zqq c hc;obtain ⟨m,rfl⟩:∃ m:Nat,c=(m:Int):=⟨c.toNat,by omega⟩;have hk0:0<=k%4:=uc7 _ (by decide);have hk1:k%4<4:=uc0 _ (by decide);obtain ⟨j,hj⟩:∃ j:Nat,k%4=(j:Int):=⟨(k%4).toNat,by omega⟩;have hjl:j<=(names4.map T.str).length:=by simp [names4];omega
 generalize hN:(ycd names4 j).take m=N;have hNl:N.length<=4:=by rw [<- hN,List.length_take,zea];simp [names4];omega
 have hNp:0<N.length:=by rw [<- hN,List.length_take,zea];simp [names4];omega
 have hNs:∀ x∈N,x.length<=6:=fun x hx=>by rw [<- hN] at hx;exact zkn x (zb1.mp (ub6 hx))
 have hNa:∀ x∈N,ybv x=true:=fun x hx=>by rw [<- hN] at hx;exact zmd x (zb1.mp (ub6 hx))
 unfold zb5;dsimp only;rw [zat (U':=[.val (.int k),.own (names4.map .str),.no,.no,.no,.no,.no,.no,.no,.no,.no]) (by simp [evS,evE,yad,yal,yae,yah,yaq,yap,fresh,names4])];rw [zat (U':=[.val (.int k),.own (names4.map .str),.val (.int (j:Int)),.no,.no,.no,.no,.no,.no,.no,.no]) (by simp [evS,evE,ygl,yae,yah,Sl.get,Sl.frz,ya0,ybh,yap,fresh,hj])];rw [zat (U':=[.val (.int k),.val (.lst (N.map .str)),.val (.int (j:Int)),.no,.no,.no,.no,.no,.no,.no,.no]) (by
  have hz:(names4.map T.str).length-j+min j (names4.map T.str).length<=16777216:=by simp [names4];omega
  have hz':names4.length-j+min j names4.length<=16777216:=by simpa using hz
  simp only [evS,evE,yad,evO,ygl,yae,yah,yaq,yb8,List.append_nil,List.nil_append,List.cons_append,List.modify_succ_cons,List.modify_zero_cons,Sl.frz,xmc,xmn,Sl.get,xgs,xgz,xjs,xbs,xms,asI,yc6,zga _ _ hjl,znx _ _ hjl];simp [ya0,ybp,ybh,yat,yap,fresh,yai,SZ,hz',ec,znw,ycd,<- hN])]
 generalize hB:(N.zipIdx 0).map (fun p=>mkB p.1 (yam k p.2/4))=bs;have hbl:bs.length=N.length:=by rw [<- hB];simp
 have hbo:∀ b∈bs,b.ok:=fun b hb'=>by
  rw [<- hB] at hb';obtain ⟨p,hp',rfl⟩:=omm hb';have hmm:p.1∈N:=by have:=List.mem_zipIdx' hp';rw [this.2];exact ua5 _
  exact zwt _ (hNs _ hmm) (hNa _ hmm) _
 rw [zat (U':=[.val (.int k),.val (.lst (N.map .str)),.val (.int (j:Int)),.no,.val (.lst (bs.map Bt.t)),.no,.no,.no,.no,.no,.no]) (by
  have hz:N.length<=16777216:=by omega
  simp only [evS,evE,yad,evO,ygl,yae,yah,yaq,yb8,List.append_nil,List.nil_append,List.cons_append,List.filterMap_cons,List.filterMap_nil,Nat.reduceLeDiff,if_true,if_false,Nat.reduceSub,List.modify_succ_cons,List.modify_zero_cons,Sl.frz,xmc,xmn,Sl.get,xgs,xgz,xjs,xbs,yak,items,zey,List.length_map,SZ,hz];rw [zb4 T.str N 0,zav (enc:=fun (p:Str × Nat)=>T.tup [.int (p.2:Int),.str p.1]) (fun p=>some (mkB p.1 (yam k p.2/4)).t) (fun p _=>by have e1:=zbx hd (n+5) k p.2;have e2:=zqx hd hb (n+4) p.1 (yam k p.2/4);simp [bnd,ya0,yat,glo,e1,e2,mkB,Bt.t]),zd8];simp [yap,fresh,<- hB])]
 rw [zat (U':=[.val (.int k),.val (.lst (N.map .str)),.val (.int (j:Int)),.no,.val (.lst (bs.map Bt.t)),.val (.tup []),.no,.no,.no,.no,.no]) (by simp [evS,evE,yad,yae,yah,yaq,yap,fresh])];obtain ⟨U',e,S,s3,s6,s7,s8,s9,s10,rfl,h1,h2,h3,h4⟩:=zal (enc:=fun (p:Bt × Nat)=>T.tup [.int (p.2:Int),p.1.t]) (f:=fun x U=>(ya1 [3,6] x U).bind fun U'=>yab (glo P (run P (n+6))) yei U')
  (fun done U=>∃ (S:List Tb),∃ s3 s6 s7 s8 s9 s10,U=[.val (.int k),.val (.lst (N.map .str)),.val (.int (j:Int)),s3,.val (.lst (bs.map Bt.t)),.val (.tup (S.map Tb.t)),s6,s7,s8,s9,s10]/\S.length=done.length/\(∀ b∈S,b.ok)/\S.map (·.nm)=done.map (·.1.nm)/\∀ b∈S,b.rs.length<=3/\∀ r∈b.rs,r.fits (bs.map (·.nm)) b.cs)
  (bs.zipIdx 0) [.val (.int k),.val (.lst (N.map .str)),.val (.int (j:Int)),.no,.val (.lst (bs.map Bt.t)),.val (.tup []),.no,.no,.no,.no,.no] ⟨[],_,_,_,_,_,_,rfl,rfl,(fun b hb'=>by cases hb'),rfl,fun b hb'=>by cases hb'⟩ (by
   rintro done ⟨b,i⟩ rest hsp U ⟨S,s3,s6,s7,s8,s9,s10,rfl,h1,h2,h3,h4⟩;have hbm:b∈bs:=by
    have:(b,i)∈bs.zipIdx 0:=by rw [hsp];simp
    have:=List.mem_zipIdx' this;rw [this.2];exact ua5 _
   have hdl:done.length<=4:=by have:=zzz List.length hsp;simp at this;omega
   obtain ⟨rs,s9',est,hrl,hro⟩:=zhw hd ht hp hr n hbo hbm k (.lst (N.map .str)) (j:Int) i S (by omega) s7 s8 s9 s10;refine ⟨[.val (.int k),.val (.lst (N.map .str)),.val (.int (j:Int)),.val (.int (i:Int)),.val (.lst (bs.map Bt.t)),.val (.tup ((S++[(⟨b.nm,b.cs,b.key,rs⟩:Tb)]).map Tb.t)),.val b.t,.val (.int (yam k (20+i)/4)),.val (.lst (rs.map Rl.raw)),s9',.val (.tup (rs.map Rl.t))],?_,S++[(⟨b.nm,b.cs,b.key,rs⟩:Tb)],_,_,_,_,_,_,rfl,by simp [h1],fun x hx=>?_,by simp [h3],fun x hx=>?_⟩
   .simp only [ya1,setAll,xbs,xss,xsz];exact est
   .rcases oma hx with z | z
    .exact h2 x z
    .rw [omg z];have bo:=hbo b hbm;exact ⟨bo.nm,bo.cs.2.1,bo.cs.2.2,bo.k1,bo.ks,by show rs.length<=4;omega,fun r hr=>(hro r hr).1,bo.kn,bo.cs.1,bo.nd,bo.kk,bo.as,bo.na,bo.inn,fun r hr=>(hro r hr).2.1,bo.kg⟩
   .rcases oma hx with z | z
    .exact h4 x z
    .rw [omg z];exact ⟨by show rs.length<=3;omega,fun r hr=>(hro r hr).2.2⟩)
 rw [zat (s:=.loop _ _ _ _) (U':=[.val (.int k),.val (.lst (N.map .str)),.val (.int (j:Int)),s3,.val (.lst (bs.map Bt.t)),.val (.tup (S.map Tb.t)),s6,s7,s8,s9,s10]) (by rw [evS];simp only [yaq,yah,List.append_nil,yae,yad,evE,ygl,List.modify_succ_cons,List.modify_zero_cons,xmc,Sl.get,Sl.frz,xmn];simp only [xgs,xgz,xjs,xbs,items,zb4];exact e)];refine ⟨S,by simp [yab,evS,evE,ygl,yae,yah,Sl.get,Sl.frz,zaa],by rw [h1];simp;omega,h2,by rw [h1];simp;omega,?_,?_⟩
 .have e1:(bs.zipIdx 0).map (·.1.nm)=N:=by
   have z:(bs.zipIdx 0).map (·.1.nm)=((bs.zipIdx 0).map Prod.fst).map (·.nm):=by rw [zAe];rfl
   rw [z,List.zipIdx_map_fst,<- hB,zAe];have y:(N.zipIdx 0).map ((·.nm)∘fun p=>mkB p.1 (yam k p.2/4))=(N.zipIdx 0).map Prod.fst:=rfl;rw [y,List.zipIdx_map_fst]
  rw [h3,e1,<- hN];have all:∀ j:Fin 4,∀ m:Fin 5,((ycd names4 j.val).take m.val).Nodup:=by decide +kernel
  exact all ⟨j,by omega⟩ ⟨m,by omega⟩
 .have e2:S.map (·.nm)=bs.map (·.nm):=by
   have z:(bs.zipIdx 0).map (·.1.nm)=((bs.zipIdx 0).map Prod.fst).map (·.nm):=by rw [zAe];rfl
   rw [h3,z,List.zipIdx_map_fst]
  rw [e2];exact h4
end
section
variable {ps:List (Col × T)}
noncomputable def Wok (c:Col) (w:T):Prop:=w=.non\/((c.k==("text":Str))=true/\∃ x,w=.str x)\/((c.k==("text":Str))=false/\∃ i,w=.int i)
noncomputable def rowS:List Str:=["a", "b", "", "ab", "a", "x9"]
noncomputable def rowI:List Int:=[0,1,2,3,1,2,4,-5]
theorem zg6 (k:Int):∃ x,ybk [.str "a",.str "b",.str "",.str "ab",.str "a",.str "x9"] (k%6)=some (.str x):=by obtain ⟨c,_,e⟩:=zbo (enc:=T.str) (cs:=rowS) (by simp [rowS]) k;exact ⟨c,e⟩
theorem zg7 (k:Int):∃ x,ybk [.int 0,.int 1,.int 2,.int 3,.int 1,.int 2,.int 4,.int (-5)] (k%8)=some (.int x):=by obtain ⟨c,_,e⟩:=zbo (enc:=T.int) (cs:=rowI) (by simp [rowI]) k;exact ⟨c,e⟩
theorem zk1 {P:Pr} (h:P.fn "_law_worth"=some zao) (n:Nat) (c:Col) (k:Int):∃ w,run P (n+1) "_law_worth" [c.t,.int k]=some w/\Wok c w:=by
 rw [zaf h rfl];obtain ⟨x,ex⟩:=zg6 (k/4);obtain ⟨i,ei⟩:=zg7 (k/4);cases hg:c.g with
 | true =>
  cases h4:(k%4==0) with
  | true=>exact ⟨.non,by simp [zao,yab,evS,evE,yad,yal,ygl,yae,yah,yaq,Sl.get,Sl.frz,ya0,ybh,yat,zaa,yay,yai,yc3,glo,Col.t,ybf,hg,h4,eqC,dpP,eqT],.inl rfl⟩
  | false =>
   cases ht:(c.k==("text":Str)) with
   | true=>exact ⟨.str x,by simp [zao,yab,evS,evE,yad,yal,ygl,yae,yah,yaq,Sl.get,Sl.frz,ya0,ybh,yat,zaa,yay,yai,yc3,glo,Col.t,yar,ybf,hg,h4,eqC,dpP,eqT,ht,ex],.inr (.inl ⟨ht,x,rfl⟩)⟩
   | false=>exact ⟨.int i,by simp [zao,yab,evS,evE,yad,yal,ygl,yae,yah,yaq,Sl.get,Sl.frz,ya0,ybh,yat,zaa,yay,yai,yc3,glo,Col.t,yar,ybf,hg,h4,eqC,dpP,eqT,ht,ei],.inr (.inr ⟨ht,i,rfl⟩)⟩
 | false =>
  cases ht:(c.k==("text":Str)) with
  | true=>exact ⟨.str x,by simp [zao,yab,evS,evE,yad,yal,ygl,yae,yah,yaq,Sl.get,Sl.frz,ya0,ybh,yat,zaa,yay,yai,yc3,glo,Col.t,yar,ybf,hg,eqC,dpP,eqT,ht,ex],.inr (.inl ⟨ht,x,rfl⟩)⟩
  | false=>exact ⟨.int i,by simp [zao,yab,evS,evE,yad,yal,ygl,yae,yah,yaq,Sl.get,Sl.frz,ya0,ybh,yat,zaa,yay,yai,yc3,glo,Col.t,yar,ybf,hg,eqC,dpP,eqT,ht,ei],.inr (.inr ⟨ht,i,rfl⟩)⟩
theorem zb3 (G:Glo) (elt:E) (n:Nat) (k:Ik) (src:List E) (r:Env):evE G (.comp elt n k src none) r=(yad G src r).bind fun xs=>(yak k xs).bind fun qc =>
   (ya4 (fun x=>(bnd n x r).bind fun r'=>(evE G elt r').map some) qc).map .lst:=by
 rw [zed];simp only [evO,xbs]
noncomputable def nmT (p:Col × T):T:=.str p.1.n
theorem zjb:∀ {ps:List (Col × T)} {p:Col × T},p∈ps->(ps.map (·.1.n)).Nodup->∃ i:Nat,zc5 (.str p.1.n) (ps.map nmT)=some i/\(ps.map (·.2))[i]?=some p.2
 | [],_,h,_=>by cases h
 | q::ps,p,h,hn=>by
  rw [zzi,ua7] at hn;by_cases hq:q.1.n=p.1.n
  .have:q=p:=by
    rcases omc h with e | hp
    .exact e.symm
    .exact absurd (ua0.mpr ⟨p,hp,hq.symm⟩) hn.1
   subst this;refine ⟨0,?_,rfl⟩;simp [zc5,nmT,eqT]
  .rcases omc h with e | hp
   .exact absurd (by rw [e]) hq
   .obtain ⟨i,e1,e2⟩:=zjb hp hn.2;refine ⟨i+1,?_,by simpa using e2⟩;have hb:(q.1.n==p.1.n)=false:=by simpa using hq
    simp [zc5,nmT,eqT,hb];simpa [nmT] using e1
theorem ztm:∀ ps:List (Col × T),(ps.map nmT).all flat=true
 | []=>rfl
 | p::ps=>by simp [nmT,flat]
theorem zgd {p:Col × T} (h:p∈ps) (hn:(ps.map (·.1.n)).Nodup):∃ i:Int,yd8 .index (.lst (ps.map nmT)) (.str p.1.n)=some (.int i)/\ybk (ps.map (·.2)) i=some p.2:=by obtain ⟨i,e1,e2⟩:=zjb h hn;refine ⟨(i:Int),?_,zbj e2⟩;simp only [yd8];rw [if_pos (by rw [ztm];rfl),e1];rfl
theorem zbs {α:Type} {enc:α->T} {f:T->Option (Option T)} (g:α->T) {l:List α} (h:∀ a∈l,f (enc a)=some (some (g a))):ya4 f (l.map enc)=some (l.map g):=by rw [zav (fun a=>some (g a)) h,zd8]
noncomputable def yc0 (nm:T) (ps:List (Col × T)) (key rules:T):T:=ybs nm (ps.map (·.1)) key rules
theorem zgx {P:Pr} (h:P.fn "_law_names"=some zbl) (n:Nat) (ps:List (Col × T)) (hl:ps.length<=4) (nm key rules:T):run P (n+1) "_law_names" [yc0 nm ps key rules]=some (.lst (ps.map nmT)):=by
 rw [zaf h rfl];have hl':ps.length<=16777216:=by omega
 have e:=zbs (enc:=fun p:Col × T=>p.1.t) (f:=fun x=>(yai x (.int 0)).map some) nmT (l:=ps) (fun p _=>by simp [Col.t,yai,yaw,nmT]);simp [zbl,yab,evS,evE,yad,evO,yal,ygl,yae,yah,yaq,yb8,Sl.get,Sl.frz,zaa,yai,items,yak,bnd,glo,SZ,yc0,ybs,yar,hl',Function.comp_def] at e ⊢;simp [e]
theorem zds {P:Pr} (h:P.fn "worths_of"=some zan) (n:Nat) (hl:ps.length<=4) (hn:(ps.map (·.1.n)).Nodup) (nm key rules:T) {qs:List (Col × T)} (hq:∀ q∈qs,q∈ps) (hql:qs.length<=4) :
  run P (n+1) "worths_of" [yc0 nm ps key rules,.tup (ps.map (·.2)),.tup (qs.map nmT)]=some (.tup (qs.map (·.2))):=by
 rw [zaf h rfl];have hl':ps.length<=16777216:=by omega
 have hl2:qs.length<=16777216:=by omega
 have e:=zbs (enc:=fun p:Col × T=>p.1.t) (f:=fun x=>(yai x (.int 0)).map some) nmT (l:=ps) (fun p _=>by simp [Col.t,yai,yaw,nmT]);have e2:=zbs (enc:=nmT) (f:=fun x=>((yd8 .index (.lst (ps.map nmT)) x).bind fun y=>yai (.tup (ps.map (·.2))) y).map some) (fun q=>q.2) (l:=qs) (fun q hq'=>by obtain ⟨i,e1,e2⟩:=zgd (hq q hq') hn;simp only [nmT,e1,xbs,yai,e2,xms]);unfold zan;dsimp only;rw [zat (U':=[.val (yc0 nm ps key rules),.val (.tup (ps.map (·.2))),.val (.tup (qs.map nmT)),.val (.lst (ps.map nmT))]) (by simp [evS,evE,yad,evO,yal,ygl,yae,yah,yaq,yb8,Sl.get,Sl.frz,yap,fresh,yai,items,yak,bnd,SZ,yc0,ybs,yar,hl',Function.comp_def] at e ⊢;simp [e])];have ee:evE (glo P (run P n)) (.blt .toTuple (.comp (.idx (.var 2) (.mth .index (.var 4) (.var 0))) 1 .plain [.var 2] none)) (ygl [Sl.val (yc0 nm ps key rules),.val (.tup (ps.map (·.2))),.val (.tup (qs.map nmT)),.val (.lst (ps.map nmT))])=some (.tup (qs.map (·.2))):=by rw [zbk,zb3];simp only [yad,evE,ygl,xmc,xmn,Sl.get,xgs,xgz,xjs,xbs,yak,items,List.length_map,bnd,if_true];rw [if_pos (show qs.length<=SZ from hl2)];simp only [xbs];rw [e2];rfl
 rw [zeo (t:=.tup (qs.map (·.2))) (by rw [evS];rw [show yae (yah (.blt .toTuple (.comp (.idx (.var 2) (.mth .index (.var 4) (.var 0))) 1 .plain [.var 2] none))) [Sl.val (yc0 nm ps key rules),.val (.tup (ps.map (·.2))),.val (.tup (qs.map nmT)),.val (.lst (ps.map nmT))]=[Sl.val (yc0 nm ps key rules),.val (.tup (ps.map (·.2))),.val (.tup (qs.map nmT)),.val (.lst (ps.map nmT))] from rfl,ee];rfl)];rfl
end
section
variable {a b v u:T} {P:Pr}
noncomputable def val (ps:List (Col × T)) (x:Str):T:=match ps.find? (fun p=>p.1.n==x) with | some p=>p.2 | none=>.non
theorem zc0:∀ {ps:List (Col × T)} {p:Col × T},p∈ps->(ps.map (·.1.n)).Nodup->val ps p.1.n=p.2
 | [],_,h,_=>by cases h
 | q::ps,p,h,hn=>by
  rw [zzi,ua7] at hn;by_cases hq:q.1.n=p.1.n
  .have:q=p:=by
    rcases omc h with e | hp
    .exact e.symm
    .exact absurd (ua0.mpr ⟨p,hp,hq.symm⟩) hn.1
   subst this;simp [val]
  .rcases omc h with e | hp
   .exact absurd (by rw [e]) hq
   .have e:=zc0 hp hn.2;have hb:(q.1.n==p.1.n)=false:=by simpa using hq
    unfold val at e ⊢;rw [List.find?_cons,hb];exact e
noncomputable def ya2:T->Bool
 | .non=>true
 | _=>false
noncomputable def ltV:T->T->Bool
 | .int a,.int b=>decide (a<b)
 | .str a,.str b=>decide (a.cps.toList<b.cps.toList)
 | _,_=>false
noncomputable def and3:Option Bool->Option Bool->Option Bool
 | some false,_=>some false
 | none,some false=>some false
 | none,_=>none
 | some true,b=>b
noncomputable def or3:Option Bool->Option Bool->Option Bool
 | some true,_=>some true
 | none,some true=>some true
 | none,_=>none
 | some false,b=>b
noncomputable def ybg:Option Bool->T
 | none=>.non
 | some b=>.bl b
noncomputable def hv (ps:List (Col × T)):Tst->Option Bool
 | .emp c=>some (ya2 (val ps c))
 | .bel a b=>if ya2 (val ps a)||ya2 (val ps b) then none else some (ltV (val ps a) (val ps b))
 | .isI c i=>if ya2 (val ps c) then none else some (eqT (val ps c) (.int i))
 | .isS c x=>if ya2 (val ps c) then none else some (eqT (val ps c) (.str x))
 | .neg t=>(hv ps t).map not
 | .cnj a b=>and3 (hv ps a) (hv ps b)
 | .dsj a b=>or3 (hv ps a) (hv ps b)
theorem yfu (ha:flat a=true) (hb:flat b=true):inC .non (.tup [a,b])=some (ya2 a||ya2 b):=by cases a<;>cases b<;>first | rfl | (exact absurd ha zzx) | (exact absurd hb zzx)
theorem znz (h:P.fn "compared"=some zay) (n:Nat) {w:Str} (ha:flat a=true) (hb:flat b=true) (hn:(ya2 a||ya2 b)=true):run P (n+1) "compared" [.str w,.tup [a,b]]=some .non:=by rw [zaf h rfl];simp [zay,yab,evS,evE,yal,ygl,yae,yah,Sl.get,Sl.frz,zaa,yay,yai,glo,yfu ha hb,hn]
theorem zy4:(("is":Str)=="is")=true:=by decide +kernel
theorem zxx (h:P.fn "compared"=some zay) (n:Nat) (ha:flat a=true) (hb:flat b=true) (hn:(ya2 a||ya2 b)=false) (ho:dpP a b<=30):run P (n+1) "compared" [.str "is",.tup [a,b]]=some (.bl (eqT a b)):=by
 rw [zaf h rfl];have e:eqC a b=some (.bl (eqT a b)):=by unfold eqC;rw [if_pos ho]
 have e2:eqC (.str "is") (.str "is")=some (.bl true):=(show eqC (.str "is") (.str "is")=some (.bl (("is":Str)=="is")) from rfl).trans (by rw [zy4]);simp [zay,yab,evS,evE,yal,ygl,yae,yah,Sl.get,Sl.frz,zaa,yay,yai,glo,yfu ha hb,hn,yaw,yar,e,e2]
theorem zzc:(("below":Str)=="is")=false:=by decide +kernel
theorem zxw (h:P.fn "compared"=some zay) (n:Nat) (ha:flat a=true) (hb:flat b=true) (hn:(ya2 a||ya2 b)=false) (ho:ltC a b=some (.bl (ltV a b))):run P (n+1) "compared" [.str "below",.tup [a,b]]=some (.bl (ltV a b)):=by rw [zaf h rfl];have e2:eqC (.str "below") (.str "is")=some (.bl false):=(show eqC (.str "below") (.str "is")=some (.bl (("below":Str)=="is")) from rfl).trans (by rw [zzc]);simp [zay,yab,evS,evE,yal,ygl,yae,yah,Sl.get,Sl.frz,zaa,yay,yai,glo,yfu ha hb,hn,yaw,yar,ho,e2]
theorem ztd (h:P.fn "opposite"=some zbr) (n:Nat) (a:Option Bool):run P (n+1) "opposite" [ybg a]=some (ybg (a.map not)):=by
 rw [zaf h rfl];cases a with
 | none=>simp [zbr,yab,evS,evE,yal,ygl,yae,yah,Sl.get,Sl.frz,zaa,yay,glo,ybg]
 | some b=>cases b<;>simp [zbr,yab,evS,evE,yal,ygl,yae,yah,Sl.get,Sl.frz,zaa,yay,glo,ybg]
theorem in3 (s:Bool) (a b:Option Bool):inC (.bl s) (.lst [ybg a,ybg b])=some (decide (a=some s)||decide (b=some s)):=by cases s<;>rcases a with _ | _ | _<;>rcases b with _ | _ | _<;>rfl
theorem in3n (a b:Option Bool):inC .non (.lst [ybg a,ybg b])=some (decide (a=none)||decide (b=none)):=by rcases a with _ | _ | _<;>rcases b with _ | _ | _<;>rfl
theorem zjq (h:P.fn "joined"=some zdn) (n:Nat) (s:Bool) (a b:Option Bool):run P (n+1) "joined" [.bl s,.lst [ybg a,ybg b]]=some (ybg (if s then or3 a b else and3 a b)):=by
 rw [zaf h rfl];generalize glo P (run P n)=G;show zaa (yab G ze7 [.val (.bl s),.val (.lst [ybg a,ybg b])])=_;unfold ze7;have c1:evE G (.cmp .isin (.var 0) (.var 1)) (ygl [.val (.bl s),.val (.lst [ybg a,ybg b])])=some (.bl (decide (a=some s)||decide (b=some s))):=by show (inC (.bl s) (.lst [ybg a,ybg b])).map T.bl=_;rw [in3];rfl
 have c2:evE G (.cmp .isin (.cst .non) (.var 1)) (ygl [.val (.bl s),.val (.lst [ybg a,ybg b])])=some (.bl (decide (a=none)||decide (b=none))):=by show (inC .non (.lst [ybg a,ybg b])).map T.bl=_;rw [in3n];rfl
 have r1:yab G [.ret (.var 0)] [.val (.bl s),.val (.lst [ybg a,ybg b])]=some (.rt (.bl s)):=zaz rfl rfl;have r2:yab G [.ret (.cst .non)] [.val (.bl s),.val (.lst [ybg a,ybg b])]=some (.rt .non):=zaz rfl rfl;have r3:yab G [.ret (.lnot (.var 0))] [.val (.bl s),.val (.lst [ybg a,ybg b])]=some (.rt (.bl (!s))):=zaz rfl rfl;cases k1:(decide (a=some s)||decide (b=some s)) with
 | true =>rw [k1] at c1;rw [zcq rfl c1 r1];cases s<;>rcases a with _ | _ | _<;>rcases b with _ | _ | _<;>first | rfl | (cases k1;done)
 | false =>
  rw [k1] at c1;rw [zbc rfl c1];cases k2:(decide (a=none)||decide (b=none)) with
  | true =>rw [k2] at c2;rw [zcq rfl c2 r2];cases s<;>rcases a with _ | _ | _<;>rcases b with _ | _ | _<;>first | rfl | (cases k1;done) | (cases k2;done)
  | false =>rw [k2] at c2;rw [zbc rfl c2,r3];cases s<;>rcases a with _ | _ | _<;>rcases b with _ | _ | _<;>first | rfl | (cases k1;done) | (cases k2;done)
theorem ws1:(("not":Str)=="not")=true/\(("and":Str)=="not")=false/\(("or":Str)=="not")=false/\(("empty":Str)=="not")=false/\(("is":Str)=="not")=false/\(("below":Str)=="not")=false:=by decide +kernel
theorem ws2:(("and":Str)=="and")=true/\(("or":Str)=="and")=false/\(("empty":Str)=="and")=false/\(("is":Str)=="and")=false/\(("below":Str)=="and")=false:=by decide +kernel
theorem ws3:(("or":Str)=="or")=true/\(("and":Str)=="or")=false/\(("empty":Str)=="or")=false/\(("is":Str)=="or")=false/\(("below":Str)=="or")=false:=by decide +kernel
theorem ws4:(("empty":Str)=="empty")=true/\(("is":Str)=="empty")=false/\(("below":Str)=="empty")=false:=by decide +kernel
theorem ws5:(("is":Str)=="is")=true/\(("below":Str)=="is")=false/\(("is":Str)=="below")=false/\(("below":Str)=="below")=true:=by decide +kernel
theorem eqs (a b:Str):eqC (.str a) (.str b)=some (.bl (a==b)):=rfl
theorem Wok.flat {c:Col} {w:T} (h:Wok c w):Ev.flat w=true:=by rcases h with rfl | ⟨_,x,rfl⟩ | ⟨_,x,rfl⟩<;>rfl
theorem zm1 {ps:List (Col × T)} {o:Col} (h:o∈ps.map (·.1)):∃ p∈ps,p.1=o:=by obtain ⟨p,hp,e⟩:=omm h;exact ⟨p,hp,e⟩
theorem zuj {p q:Col × T} (hp:Wok p.1 p.2) (hq:Wok q.1 q.2) (hk:p.1.k=q.1.k) (h:(ya2 p.2||ya2 q.2)=false):ltC p.2 q.2=some (.bl (ltV p.2 q.2)):=by
 rcases hp with e | ⟨h1,x,e⟩ | ⟨h1,x,e⟩<;>rcases hq with f | ⟨h2,y,f⟩ | ⟨h2,y,f⟩<;>rw [e,f] at h ⊢
 all_goals first | rfl | (exfalso;rw [hk,h2] at h1;cases h1;done) | (cases h;done)
theorem eq1N {w:T} (h:Ev.flat w=true):eqC (.tup [w]) (.tup [.non])=some (.bl (ya2 w)):=by cases w<;>first | rfl | (exact absurd h zzx)
theorem ix0 (a:T) (r:List T):yai (.tup (a::r)) (.int 0)=some a:=yaw a r
section
variable {G:Glo} {X tt R:T} {w:Str}
theorem zt3 (hw:yai tt (.int 0)=some (.str w)):yab G zbm.body [.val X,.val tt,.val R,.no]=yab G (zbm.body.drop 1) [.val X,.val tt,.val R,.val (.str w)] :=
 zas (t:=.str w) rfl (show (yai tt (.int 0))=_ from hw) rfl
theorem h_c (u:Str) (b:Bool) (h:(w==u)=b):evE G (.cmp .eq (.var 3) (.cst (.str u))) (ygl [.val X,.val tt,.val R,.val (.str w)])=some (.bl b):=by rw [<- h];rfl
theorem h_ao (b:Bool) (h:((w=="and")||(w=="or"))=b):evE G (.lor (.cmp .eq (.var 3) (.cst (.str "and"))) (.cmp .eq (.var 3) (.cst (.str "or")))) (ygl [.val X,.val tt,.val R,.val (.str w)])=some (.bl b):=by
 rw [evE,h_c "and" _ rfl];subst h;cases w==("and":Str) with
 | true=>rfl
 | false=>exact h_c (G:=G) (X:=X) (tt:=tt) (R:=R) "or" _ rfl
theorem zm8 (hw:yai tt (.int 0)=some (.str w)) (n1:(w=="not")=false) (n2:(w=="and")=false) (n3:(w=="or")=false):yab G zbm.body [.val X,.val tt,.val R,.no]=yab G (zbm.body.drop 3) [.val X,.val tt,.val R,.val (.str w)] :=
 (zt3 hw).trans ((zbc rfl (h_c "not" _ n1)).trans (zbc rfl (h_ao false (by rw [n2,n3];rfl))))
theorem zy6 {c:Str} {b:Bool} (e:G.call "worths_of" [X,R,.tup [.str c]]=some a) (he:eqC a (.tup [.non])=some (.bl b)) (ht:tt=.tup [.str "empty",.str c]):yab G zbm.body [.val X,.val tt,.val R,.no]=some (.rt (.bl b)):=by subst ht;refine (zm8 (ix0 _ _) ws1.2.2.2.1 ws2.2.2.1 ws3.2.2.1).trans (zcq rfl (h_c "empty" _ ws4.1) (zaz rfl ?_));have e1:evE G (.call "worths_of" [.var 0,.var 2,.sli (.var 1) (some (.cst (.int 1))) none]) (ygl [.val X,.val (.tup [.str "empty",.str c]),.val R,.val (.str "empty")])=some a:=e;rw [evE,e1];exact he
theorem zxe {c:Str} (e:G.call "worths_of" [X,R,.tup [.str c]]=some (.tup [a])) (e2:G.call "compared" [.str "is",.tup [a,v]]=some u) (ht:tt=.tup [.str "is",.str c,v]):yab G zbm.body [.val X,.val tt,.val R,.no]=some (.rt u):=by subst ht;refine (zm8 (ix0 _ _) ws1.2.2.2.2.1 ws2.2.2.2.1 ws3.2.2.2.1).trans ((zbc rfl (h_c "empty" _ ws4.2.1)).trans (zcq rfl (h_c "is" _ ws5.1) (zaz rfl ?_)));have e1:evE G (.call "worths_of" [.var 0,.var 2,.sli (.var 1) (some (.cst (.int 1))) (some (.cst (.int 2)))]) (ygl [.val X,.val (.tup [.str "is",.str c,v]),.val R,.val (.str "is")])=some (.tup [a]):=e;rw [evE,yad,yad,evE.eq_4,e1];exact e2
theorem zxf {a b:Str} (e:G.call "worths_of" [X,R,.tup [.str a,.str b]]=some v) (e2:G.call "compared" [.str "below",v]=some u) (ht:tt=.tup [.str "below",.str a,.str b]):yab G zbm.body [.val X,.val tt,.val R,.no]=some (.rt u):=by subst ht;refine (zm8 (ix0 _ _) ws1.2.2.2.2.2 ws2.2.2.2.2 ws3.2.2.2.2).trans ((zbc rfl (h_c "empty" _ ws4.2.2)).trans ((zbc rfl (h_c "is" _ ws5.2.1)).trans (zaz rfl ?_)));have e1:evE G (.call "worths_of" [.var 0,.var 2,.sli (.var 1) (some (.cst (.int 1))) none]) (ygl [.val X,.val (.tup [.str "below",.str a,.str b]),.val R,.val (.str "below")])=some v:=e;rw [evE,yad,yad,e1];exact e2
theorem zy5 {t:T} (e:G.call "holds" [X,t,R]=some v) (e2:G.call "opposite" [v]=some u) (ht:tt=.tup [.str "not",t]):yab G zbm.body [.val X,.val tt,.val R,.no]=some (.rt u):=by subst ht;refine (zt3 (ix0 _ _)).trans (zcq rfl (h_c "not" _ ws1.1) (zaz rfl ?_));have e1:evE G (.call "holds" [.var 0,.idx (.var 1) (.cst (.int 1)),.var 2]) (ygl [.val X,.val (.tup [.str "not",t]),.val R,.val (.str "not")])=some v:=e;rw [evE,yad,e1];exact e2
theorem zxd {x y v':T} (hn:(w=="not")=false) (h:((w=="and")||(w=="or"))=true) (e:G.call "holds" [X,x,R]=some v) (e':G.call "holds" [X,y,R]=some v') (e2:G.call "joined" [.bl (w=="or"),.lst [v,v']]=some u) (ht:tt=.tup [.str w,x,y]):yab G zbm.body [.val X,.val tt,.val R,.no]=some (.rt u):=by
 subst ht;refine (zt3 (ix0 _ _)).trans ((zbc rfl (h_c "not" _ hn)).trans (zcq rfl (h_ao true h) (zaz rfl ?_)));rw [evE,yad,yad,yad,zb3];have s1:yad G [.sli (.var 1) (some (.cst (.int 1))) none] (ygl [.val X,.val (.tup [.str w,x,y]),.val R,.val (.str w)])=some [.tup [x,y]]:=rfl;have s2:yak .plain [.tup [x,y]]=some [x,y]:=rfl;rw [s1,zzh,s2,zzh];have s3:(ya4 (fun q=>(bnd 1 q (ygl [.val X,.val (.tup [.str w,x,y]),.val R,.val (.str w)])).bind fun r'=>(evE G (.call "holds" [.var 1,.var 0,.var 3]) r').map some) [x,y])=some [v,v']:=by
  have f:∀ q u,G.call "holds" [X,q,R]=some u->((bnd 1 q (ygl [.val X,.val (.tup [.str w,x,y]),.val R,.val (.str w)])).bind fun r'=>(evE G (.call "holds" [.var 1,.var 0,.var 3]) r').map some)=some (some u):=fun q u hq=>by show (G.call "holds" [X,q,R]).map some=_;rw [hq];rfl
  rw [ya4,f x v e,ya4,f y v' e'];rfl
 rw [s3];exact e2
end
theorem zm6 (h:P.fn "holds"=some zbm) (hw:P.fn "worths_of"=some zan) (hc:P.fn "compared"=some zay) (ho:P.fn "opposite"=some zbr) (hj:P.fn "joined"=some zdn)
  {ps:List (Col × T)} (hl:ps.length<=4) (hn:(ps.map (·.1.n)).Nodup) (hp:∀ p∈ps,Wok p.1 p.2) (nm key rules:T) :
  ∀ (d n:Nat) (t:Tst),t.fit d->t.inn (ps.map (·.1))->run P (n+d+1) "holds" [yc0 nm ps key rules,t.t,.tup (ps.map (·.2))]=some (ybg (hv ps t)):=by
 have one:∀ (m:Nat) (p:Col × T),p∈ps->run P (m+1) "worths_of" [yc0 nm ps key rules,.tup (ps.map (·.2)),.tup [.str p.1.n]]=some (.tup [p.2]):=fun m p hpm=>zds hw m hl hn nm key rules (qs:=[p]) (fun q hq=>by rw [omg hq];exact hpm) (by simp);intro d
 induction d with
 | zero =>intro n t hk _;cases t<;>first | exact absurd hk.1 (by omega) | exact nomatch hk
 | succ d ih =>
  intro n t hk hi;rw [show n+(d+1)+1=(n+d+1)+1 by omega,zaf h rfl];show zaa (yab (glo P (run P (n+d+1))) zbm.body [.val (yc0 nm ps key rules),.val t.t,.val (.tup (ps.map (·.2))),.no])=_;have isV:∀ (p:Col × T) (v:T),p∈ps->flat v=true->ya2 v=false->dpP p.2 v<=30->t.t=.tup [.str "is",.str p.1.n,v]->hv ps t=(if ya2 p.2 then none else some (eqT p.2 v))->zaa (yab (glo P (run P (n+d+1))) zbm.body [.val (yc0 nm ps key rules),.val t.t,.val (.tup (ps.map (·.2))),.no])=some (ybg (hv ps t)):=fun p v hpm fv nv hd ht hvt=>by
   have f1:=(hp p hpm).flat;rw [hvt];cases hz:ya2 p.2 with
   | true=>exact zzz zaa (zxe (one _ p hpm) (znz hc (n+d) (w:="is") f1 fv (by rw [hz];rfl)) ht)
   | false=>exact zzz zaa (zxe (one _ p hpm) (zxx hc (n+d) f1 fv (by rw [hz,nv];rfl) hd) ht)
  cases t with
  | emp c =>obtain ⟨o,hm,rfl⟩:=hi;obtain ⟨p,hpm,rfl⟩:=zm1 hm;rw [hv,zc0 hpm hn];exact zzz zaa (zy6 (one _ p hpm) (eq1N (hp p hpm).flat) rfl)
  | bel a b =>
   obtain ⟨o,hm,o',hm',rfl,rfl,hkk⟩:=hi;obtain ⟨p,hpm,rfl⟩:=zm1 hm;obtain ⟨q,hqm,rfl⟩:=zm1 hm';have e:=zds hw (n+d) hl hn nm key rules (qs:=[p,q]) (fun r hr=>by
    rcases omc hr with rfl | hr
    .exact hpm
    .rw [omg hr];exact hqm) (by simp)
   have f1:=(hp p hpm).flat;have f2:=(hp q hqm).flat;rw [hv,zc0 hpm hn,zc0 hqm hn];cases hz:(ya2 p.2||ya2 q.2) with
   | true=>exact zzz zaa (zxf e (znz hc (n+d) (w:="below") f1 f2 hz) rfl)
   | false=>exact zzz zaa (zxf e (zxw hc (n+d) f1 f2 hz (zuj (hp p hpm) (hp q hqm) hkk hz)) rfl)
  | isI c i =>obtain ⟨o,hm,rfl,hkt⟩:=hi;obtain ⟨p,hpm,rfl⟩:=zm1 hm;exact isV p (.int i) hpm rfl rfl (by rcases hp p hpm with hq | ⟨h1,x,hq⟩ | ⟨h1,x,hq⟩<;>rw [hq]<;>exact zAd 30) rfl (by rw [hv,zc0 hpm hn])
  | isS c i =>obtain ⟨o,hm,rfl,hkt⟩:=hi;obtain ⟨p,hpm,rfl⟩:=zm1 hm;exact isV p (.str i) hpm rfl rfl (by rcases hp p hpm with hq | ⟨h1,x,hq⟩ | ⟨h1,x,hq⟩<;>rw [hq]<;>exact zAd 30) rfl (by rw [hv,zc0 hpm hn])
  | neg t=>exact zzz zaa (zy5 (ih n t hk hi) (ztd ho (n+d) (hv ps t)) rfl)
  | cnj a b=>exact zzz zaa (zxd (w:="and") ws1.2.1 (by rw [ws2.1];rfl) (ih n a hk.1 hi.1) (ih n b hk.2 hi.2) (by rw [ws3.2.1];exact zjq hj (n+d) false (hv ps a) (hv ps b)) rfl)
  | dsj a b=>exact zzz zaa (zxd (w:="or") ws1.2.2.1 (by rw [ws3.1,Bool.or_true]) (ih n a hk.1 hi.1) (ih n b hk.2 hi.2) (by rw [ws3.1];exact zjq hj (n+d) true (hv ps a) (hv ps b)) rfl)
end
end Ev.K04
section
section
end
end
namespace Ev.K04
open PySem
section
noncomputable def yfv (acc:List Kt) (k:Kt):Bool:=acc.any fun x=>decide (x=k)
noncomputable def un1 (acc:List Kt) (k:Kt):List Kt:=if yfv acc k=true then acc else acc++[k]
noncomputable def unl (l:List Kt):List Kt:=l.foldl un1 []
theorem any_map (f:Kt->T) (l:List Kt) (k:Kt):((l.map fun x=>(x,f x)).any fun kv=>decide (kv.1=k))=yfv l k:=by unfold yfv;rw [List.any_map];rfl
end
section
variable {c:Col} {b:Tb} {ps:List (Col × T)}
noncomputable def zda:List S:=[.loop [2] .plain [.var 0] [.ite (.cmp .eq (.idx (.var 2) (.cst (.int 0))) (.var 1)) [.ret (.var 2)] []],
  .ret (.cst .non)]
noncomputable def zb9:Fd:=⟨2,3,zda⟩
noncomputable def zd0:List S:=[.loop [3,4] .zip [.var 0,.var 1] [.ite (.cmp .eq (.idx (.var 3) (.cst (.int 0))) (.var 2)) [.ret (.var 4)] []],
  .ret (.tup [])]
noncomputable def zcr:Fd:=⟨3,5,zd0⟩
noncomputable def lin:List S:=[.asg 7 (.call "_law_row" [.var 4,.bin .fdiv (.call "_law_drawn" [.var 1,.bin .add (.bin .mul (.cst (.int 10)) (.var 3)) (.var 6)]) (.cst (.int 4))]),
  .dput 5 (.call "_law_key" [.var 4,.var 7]) (.var 7)]
noncomputable def zc9:Fd:=⟨2,8,[.asg 2 (.tup []),
  .loop [3,4] .enum [.var 0] [.dnew 5,
  .loop [6] .range [.bin .mod (.bin .fdiv (.var 1) (.idx (.tup [.cst (.int 1),.cst (.int 5),.cst (.int 25),.cst (.int 125)]) (.var 3))) (.cst (.int 5))] lin,
  .asg 2 (.bin .add (.var 2) (.tup [.blt .toTuple (.comp (.idx (.var 6) (.var 0)) 1 .plain [.blt .sorted (.var 5)] none)]))],
  .ret (.var 2)]⟩
structure RowOk (b:Tb) (ps:List (Col × T)):Prop where
 cs:ps.map (·.1)=b.cs
 wk:∀ p∈ps,Wok p.1 p.2
 ng:∀ p∈ps,p.1.g=false->p.2≠.non
noncomputable def yac (ps:List (Col × T)):T:=.tup (ps.map (·.2))
noncomputable def kk (t:T):Kt:=(yes t).getD (.inl 0)
noncomputable def yan (b:Tb) (ps:List (Col × T)):List Kt:=b.key.map fun x=>kk (val ps x)
theorem zw1 {w:T} (h:Wok c w):yes w=some (kk w)/\kT (kk w)=w:=by rcases h with rfl | ⟨_,x,rfl⟩ | ⟨_,i,rfl⟩<;>exact ⟨rfl,rfl⟩
theorem ztv {w u:T} (h1:Wok c w) (h2:Wok c u) (n1:w≠.non) (n2:u≠.non):ycm (kk w) (kk u)=true:=by
 rcases h1 with rfl | ⟨e1,x,rfl⟩ | ⟨e1,i,rfl⟩
 .exact absurd rfl n1
 .rcases h2 with rfl | ⟨e2,y,rfl⟩ | ⟨e2,j,rfl⟩
  .exact absurd rfl n2
  .rfl
  .rw [e1] at e2;cases e2
 .rcases h2 with rfl | ⟨e2,y,rfl⟩ | ⟨e2,j,rfl⟩
  .exact absurd rfl n2
  .rw [e1] at e2;cases e2
  .rfl
theorem zrt {P:Pr} (h:P.fn "_law_worth"=some zao) (n:Nat) (c:Col) (k:Int) (hg:c.g=false):∃ w,run P (n+1) "_law_worth" [c.t,.int k]=some w/\w≠.non:=by
 rw [zaf h rfl];obtain ⟨x,ex⟩:=zg6 (k/4);obtain ⟨i,ei⟩:=zg7 (k/4);cases ht:(c.k==("text":Str)) with
 | true=>exact ⟨.str x,by simp [zao,yab,evS,evE,yad,yal,ygl,yae,yah,yaq,Sl.get,Sl.frz,ya0,ybh,yat,zaa,yay,yai,yc3,glo,Col.t,yar,ybf,hg,eqC,dpP,eqT,ht,ex],by simp⟩
 | false=>exact ⟨.int i,by simp [zao,yab,evS,evE,yad,yal,ygl,yae,yah,yaq,Sl.get,Sl.frz,ya0,ybh,yat,zaa,yay,yai,yc3,glo,Col.t,yar,ybf,hg,eqC,dpP,eqT,ht,ei],by simp⟩
theorem zj2 {α:Type} {enc:α->T} {Q:α->T->Prop} {f:T->Option (Option T)}:∀ (l:List α),(∀ a∈l,∃ w,f (enc a)=some (some w)/\Q a w)->∃ ps:List (α × T),ps.map (·.1)=l/\ya4 f (l.map enc)=some (ps.map (·.2))/\∀ p∈ps,Q p.1 p.2
 | [],_=>⟨[],rfl,rfl,fun p h=>by cases h⟩
 | a::l,h=>by
  obtain ⟨w,e,hw⟩:=h a zzt;obtain ⟨ps,e1,e2,h2⟩:=zj2 (Q:=Q) l fun c hc=>h c (zzq _ hc);refine ⟨(a,w)::ps,by simp [e1],?_,fun p hp=>?_⟩
  .simp only [xmc,ya4,e,e2,xbs]
  .rcases omc hp with rfl | hp
   .exact hw
   .exact h2 p hp
theorem yci {Q:Col->T->Prop} {f:T->Option (Option T)}:∀ (cs:List Col) (i:Nat),(∀ c∈cs,∀ j:Nat,∃ w,f (.tup [.int (j:Int),c.t])=some (some w)/\Q c w) ->
  ∃ ps:List (Col × T),ps.map (·.1)=cs/\ya4 f (ya8 (cs.map Col.t) i)=some (ps.map (·.2))/\∀ p∈ps,Q p.1 p.2
 | [],_,_=>⟨[],rfl,rfl,fun p h=>by cases h⟩
 | c::cs,i,h=>by
  obtain ⟨w,e,hw⟩:=h c zzt i;obtain ⟨ps,e1,e2,h2⟩:=yci cs (i+1) fun c hc=>h c (zzq _ hc);refine ⟨(c,w)::ps,by simp [e1],?_,fun p hp=>?_⟩
  .simp only [xmc,ya8,ya4,e,e2,xbs]
  .rcases omc hp with rfl | hp
   .exact hw
   .exact h2 p hp
theorem ydj {P:Pr} (hd:P.fn "_law_drawn"=some zaq) (hw:P.fn "_law_worth"=some zao) (h:P.fn "_law_row"=some zdm) (n:Nat) (hb:b.ok) (k:Int) :
  ∃ ps,run P (n+2) "_law_row" [b.t,.int k]=some (yac ps)/\RowOk b ps:=by
 rw [zaf h rfl];have hl:b.cs.length<=16777216:=by have:=hb.cl;omega
 obtain ⟨ps,e1,e2,h2⟩:=yci (Q:=fun c w=>Wok c w/\(c.g=false->w≠.non)) (f:=fun x=>(bnd 2 x (ygl [Sl.val b.t,Sl.val (.int k)])).bind fun r'=>(evE (glo P (run P (n+1))) (.call "_law_worth" [.var 1,.bin .fdiv (.call "_law_drawn" [.var 3,.var 0]) (.cst (.int 4))]) r').map some) b.cs 0 (fun c _ j=>by
  have e1:=zbx hd n k (j:Int);obtain ⟨w,e2,hw'⟩:=zk1 hw n c (yam k (j:Int)/4);refine ⟨w,?_,hw',fun hg=>?_⟩
  .simp [bnd,evE,yad,ygl,Sl.get,glo,e1,e2,ya0,yat]
  .obtain ⟨u,e3,hu⟩:=zrt hw n c (yam k (j:Int)/4) hg;rw [e2] at e3;cases e3;exact hu)
 refine ⟨ps,?_,e1,fun p hp=>(h2 p hp).1,fun p hp=>(h2 p hp).2⟩;show zaa (yab (glo P (run P (n+1))) zd1 [Sl.val b.t,Sl.val (.int k)])=_;unfold zd1;rw [zaz (t:=yac ps) rfl (by
  rw [zbk,zb3];have s1:yad (glo P (run P (n+1))) [.idx (.var 0) (.cst (.int 1))] (ygl [Sl.val b.t,Sl.val (.int k)])=some [.tup (b.cs.map Col.t)]:=by simp [yad,evE,ygl,Sl.get,yai,Tb.t,ybj,yar]
  have s2:yak .enum [.tup (b.cs.map Col.t)]=some (ya8 (b.cs.map Col.t) 0):=by simp [yak,items,zey,hl]
  rw [s1,zzh,s2,zzh,e2];rfl)]
 rfl
theorem zf3 {ps:List (Col × T)}:∀ {ks:List Str},(∀ k∈ks,∃ p∈ps,p.1.n=k)->∃ qs:List (Col × T),qs.map nmT=ks.map .str/\qs.map (·.1.n)=ks/\(∀ q∈qs,q∈ps)/\qs.length=ks.length
 | [],_=>⟨[],rfl,rfl,fun q h=>absurd h (by simp),rfl⟩
 | k::ks,h=>by
  obtain ⟨p,hp,e⟩:=h k zzt;obtain ⟨qs,e1,e0,e2,e3⟩:=zf3 fun k hk=>h k (zzq _ hk);refine ⟨p::qs,by simp [nmT,e,e1],by simp [e,e0],fun q hq=>?_,by simp [e3]⟩;rcases omc hq with rfl | hq
  .exact hp
  .exact e2 q hq
theorem RowOk.col (h:RowOk b ps) (hc:c∈b.cs):∃ p∈ps,p.1=c:=by rw [<- h.cs] at hc;obtain ⟨p,hp,e⟩:=omm hc;exact ⟨p,hp,e⟩
theorem RowOk.nd {b:Tb} {ps:List (Col × T)} (h:RowOk b ps) (hb:b.ok):(ps.map (·.1.n)).Nodup:=by have:=hb.nd;rw [<- h.cs,zAe] at this;exact this
theorem RowOk.len (h:RowOk b ps) (hb:b.ok):ps.length<=4:=by have:=zzz List.length h.cs;rw [zzo] at this;rw [this];exact hb.cl
theorem RowOk.tab (h:RowOk b ps):b.t=yc0 (.str b.nm) ps (.tup (b.key.map .str)) (.tup (b.rs.map Rl.t)):=by rw [yc0,h.cs];rfl
theorem zjo {P:Pr} (hn:P.fn "_law_names"=some zbl) (h:P.fn "_law_key"=some zca) (n:Nat) (hb:b.ok) (hp:RowOk b ps):run P (n+2) "_law_key" [b.t,yac ps]=some (tkT (yan b ps)):=by
 have hl:=hp.len hb;have hnd:=hp.nd hb;obtain ⟨qs,q1,q0,q2,q3⟩:=zf3 (ps:=ps) (ks:=b.key) fun x hx=>by obtain ⟨c,hc,e⟩:=hb.inn x hx;obtain ⟨p,hp',rfl⟩:=hp.col hc;exact ⟨p,hp',e⟩
 have hz:qs.length<=16777216:=by have:=hb.k1;omega
 rw [zaf h rfl];show zaa (yab (glo P (run P (n+1))) zca.body [.val b.t,.val (yac ps)])=_;have i2:yai b.t (.int 2)=some (.tup (qs.map nmT)):=by rw [q1,Tb.t,ybj,yai,ybf]
 have cn:(glo P (run P (n+1))).call "_law_names" [b.t]=some (.lst (ps.map nmT)):=by rw [hp.tab];exact zgx hn n ps hl _ _ _
 have ek:yan b ps=qs.map fun q=>kk q.2:=by unfold yan;rw [<- q0,zAe];exact ua8 fun q hq=>by show kk (val ps q.1.n)=kk q.2;rw [zc0 (q2 q hq) hnd]
 have et:tkT (yan b ps)=.tup (qs.map (·.2)):=by unfold tkT;rw [ek,zAe];exact zzz T.tup (ua8 fun q hq=>(zw1 (hp.wk q (q2 q hq))).2)
 rw [et];generalize b.t=X at *;unfold zca;dsimp only;rw [zaz (t:=.tup (qs.map (·.2))) rfl (by
  rw [zbk,zb3];have s1:yad (glo P (run P (n+1))) [.idx (.var 0) (.cst (.int 2))] (ygl [Sl.val X,Sl.val (yac ps)])=some [.tup (qs.map nmT)]:=by simp [yad,evE,ygl,Sl.get,i2]
  have s2:yak .plain [.tup (qs.map nmT)]=some (qs.map nmT):=by simp [yak,items,hz]
  rw [s1,zzh,s2,zzh,zbs (fun q=>q.2) fun q hq'=>by obtain ⟨i,e1,e2⟩:=zgd (q2 q hq') hnd;simp only [bnd,if_true,xbs,evE,yad,ygl,Sl.get,xmc,xmn,xgs,xgz,xjs,cn];rw [show nmT q=.str q.1.n from rfl,e1];simp only [xbs,yac,yai,e2,xms]];rfl)]
 rfl
theorem zcz (hb:b.ok) {qs:List (Col × T)} (hp:RowOk b ps) (hq:RowOk b qs):Ev.alike (yan b ps) (yan b qs)=true:=by
 have:∀ ks:List Str,(∀ x∈ks,∃ c∈b.cs,c.n=x/\c.g=false)->Ev.alike (ks.map fun x=>kk (val ps x)) (ks.map fun x=>kk (val qs x))=true:=by
  intro ks
  induction ks with
  | nil=>intro _;rfl
  | cons x ks ih =>
   intro h;obtain ⟨c,hc,e,hg⟩:=h x zzt;obtain ⟨p,hp1,hp2⟩:=hp.col hc;obtain ⟨q,hq1,hq2⟩:=hq.col hc;have v1:val ps x=p.2:=by rw [<- e,<- hp2];exact zc0 hp1 (hp.nd hb)
   have v2:val qs x=q.2:=by rw [<- e,<- hq2];exact zc0 hq1 (hq.nd hb)
   rw [zzi,zzi,Ev.alike,zzn,v1,v2];have w1:=hp.wk p hp1;have w2:=hq.wk q hq1;rw [hp2] at w1;rw [hq2] at w2;exact ⟨ztv w1 w2 (hp.ng p hp1 (by rw [hp2];exact hg)) (hq.ng q hq1 (by rw [hq2];exact hg)),ih fun y hy=>h y (zzq _ hy)⟩
 exact this b.key hb.kg
theorem zrc (hb:b.ok) (ps:List (Col × T)):yan b ps≠[]:=by unfold yan;intro e;exact hb.kn (List.map_eq_nil_iff.mp e)
theorem zcg:∀ ks:List Kt,ybn (ks.map kT)=some ks
 | []=>rfl
 | k::ks=>by rw [zzi,ybn,zcg ks];rcases k with _ | _ | _<;>rfl
end
section
variable {qb:List (List Kt × T)} {k:List Kt} {v:T} {b:Tb}
noncomputable def slD:List (List Kt × T)->Sl
 | []=>.dk []
 | p::r=>.dt (p::r)
noncomputable def dD:List (List Kt × T)->T
 | []=>.dk [] []
 | p::r=>.dt ((p::r).map (·.1)) ((p::r).map (·.2))
theorem zse (l:List (List Kt × T)):Sl.frz (slD l)=.val (dD l):=by cases l<;>rfl
theorem zvh:∃ p r,ybq qb k v=p::r:=by
 unfold ybq;cases qb with
 | nil=>exact ⟨_,_,rfl⟩
 | cons a l=>split<;>exact ⟨_,_,rfl⟩
theorem zvj (qb:List (List Kt × T)) (k:List Kt) (v:T) (h:qb.length<=5):yeb (some (slD qb)) (tkT k) v=some (slD (ybq qb k v)):=by
 have hk:tkO (tkT k)=some k:=zcg k;have hz:qb.length<SZ:=by show qb.length<16777216;omega
 cases qb with
 | nil =>show (tkO (tkT k)).map (fun q=>Sl.dt [(q,v)])=some (slD (ybq [] k v));rw [hk];rfl
 | cons a l =>show ((tkO (tkT k)).bind fun q=>if (a::l).length<SZ then some (.dt (ybq (a::l) q v)) else none)=some (slD (ybq (a::l) k v));rw [hk,zzh,if_pos hz];obtain ⟨p,r,e⟩:=zvh (qb:=a::l) (k:=k) (v:=v);rw [e];rfl
theorem zsp {p:List Kt × T} (h:p∈ybq qb k v):p∈qb\/p=(k,v):=by
 unfold ybq at h;split at h
 .obtain ⟨q,hq,rfl⟩:=omm h;by_cases e:q.1=k
  .rw [if_pos e,e];exact .inr rfl
  .rw [if_neg e];exact .inl hq
 .rcases oma h with h | h
  .exact .inl h
  .exact .inr (omg h)
theorem zvi (h:(qb.map (·.1)).Nodup):((ybq qb k v).map (·.1)).Nodup:=by
 unfold ybq;split
 .rw [zAe];have:(qb.map ((·.1)∘fun kv=>if kv.1=k then (kv.1,v) else kv))=qb.map (·.1):=ua8 fun q _=>by show (if q.1=k then (q.1,v) else q).1=q.1;split<;>rfl
  rw [this];exact h
 .rename_i hn;rw [zz6];refine List.nodup_append.mpr ⟨h,by simp,fun a ha c hc e=>?_⟩;have hc:c=k:=omg hc;subst hc;subst e;obtain ⟨q,hq,rfl⟩:=omm ha;exact hn (List.any_eq_true.mpr ⟨q,hq,by simp⟩)
theorem zsq:(ybq qb k v).length<=qb.length+1:=by
 unfold ybq;split
 .rw [zzo];omega
 .rw [List.length_append];simp
theorem zmm:∀ {qb:List (List Kt × T)} {k:List Kt},k∈qb.map (·.1)->∃ v,ybt (qb.map (·.1)) (qb.map (·.2)) k=some v/\(k,v)∈qb
 | p::qb,k,h=>by
  rw [zzi,zzi,ybt];by_cases e:p.1=k
  .rw [if_pos e,<- e];exact ⟨p.2,rfl,zzt⟩
  .rw [if_neg e];obtain ⟨v,h1,h2⟩:=zmm (qb:=qb) ((omc h).resolve_left fun z=>e z.symm);exact ⟨v,h1,zzq _ h2⟩
structure Book (b:Tb) (qb:List (List Kt × T)):Prop where
 nd:(qb.map (·.1)).Nodup
 rw:∀ p∈qb,∃ ps,RowOk b ps/\p=(yan b ps,yac ps)
theorem Book.srt (hb:b.ok) (h:Book b qb) (h5:qb.length<=5):ya6 .sorted (dD qb)=some (.lst ((yax (qb.map (·.1))).map tkT)):=by
 cases qb with
 | nil=>rfl
 | cons p r =>
  show yb4 ((p::r).map (·.1))=_;unfold yb4 ydc;rw [if_pos]
  .rfl
  .refine ⟨by rw [zzo];omega,h.nd,uc1.mpr fun x hx=>?_⟩;obtain ⟨q,hq,rfl⟩:=omm hx;obtain ⟨ps,h1,rfl⟩:=h.rw q hq;rw [zzn];constructor
   .cases e:yan b ps with
    | nil=>exact absurd e (zrc hb ps)
    | cons _ _=>rfl
   .refine uc1.mpr fun y hy=>?_;obtain ⟨q',hq',rfl⟩:=omm hy;obtain ⟨ps',h2,rfl⟩:=h.rw q' hq';exact zcz hb h1 h2
theorem Book.get (h:Book b qb) (hk:k∈yax (qb.map (·.1))):∃ w,yai (dD qb) (tkT k)=some w/\∃ ps,RowOk b ps/\w=yac ps/\yan b ps=k:=by
 have hk:=zbv.mp hk;obtain ⟨v,h1,h2⟩:=zmm hk;obtain ⟨ps,h3,e⟩:=h.rw _ h2;injection e with e1 e2;refine ⟨v,?_,ps,h3,e2,e1.symm⟩;cases qb with
 | nil=>cases hk
 | cons p r =>show (ybn (k.map kT)).bind _=_;rw [zcg];exact h1
noncomputable def d4:List Int:=[1,5,25,125]
theorem zxu {i:Nat} (h:i<4):∃ d:Int,ybk [.int 1,.int 5,.int 25,.int 125] (i:Int)=some (.int d)/\0<d/\d<1073741824:=by
 match i,h with
 | 0,_=>exact ⟨1,zbj rfl,by decide,by decide⟩
 | 1,_=>exact ⟨5,zbj rfl,by decide,by decide⟩
 | 2,_=>exact ⟨25,zbj rfl,by decide,by decide⟩
 | 3,_=>exact ⟨125,zbj rfl,by decide,by decide⟩
noncomputable def lex:E:=.bin .add (.var 2) (.tup [.blt .toTuple (.comp (.idx (.var 6) (.var 0)) 1 .plain [.blt .sorted (.var 5)] none)])
noncomputable def yfn:List S:=[.dnew 5,.loop [6] .range [.bin .mod (.bin .fdiv (.var 1) (.idx (.tup [.cst (.int 1),.cst (.int 5),.cst (.int 25),.cst (.int 125)]) (.var 3))) (.cst (.int 5))] lin,.asg 2 lex]
theorem zqh (G:Glo) (o:Bo) (a b:E) (r:Env):evE G (.bin o a b) r=(evE G a r).bind fun x=>(evE G b r).bind fun y=>ya0 o x y:=by rw [evE]
theorem zsa:yct 10=true:=by decide
section
variable {P:Pr} (hd:P.fn "_law_drawn"=some zaq) (hw:P.fn "_law_worth"=some zao) (hr:P.fn "_law_row"=some zdm) (hn:P.fn "_law_names"=some zbl) (hk:P.fn "_law_key"=some zca)
include hd hw hr hn hk
theorem zp1 (n:Nat) (hb:b.ok) (S Z:T) (N:Int) (i j:Nat) (hB:Book b qb) (h5:qb.length<=4) (s7:Sl) :
  ∃ kvs' s7',yab (glo P (run P (n+2))) lin [.val S,.val (.int N),.val Z,.val (.int (i:Int)),.val b.t,slD qb,.val (.int (j:Int)),s7]=some (.nx [.val S,.val (.int N),.val Z,.val (.int (i:Int)),.val b.t,slD kvs',.val (.int (j:Int)),s7'])/\Book b kvs'/\kvs'.length<=qb.length+1:=by
 obtain ⟨ps,e1,hp⟩:=ydj hd hw hr n hb (yam N (10*i+j)/4);have e2:=zbx hd (n+1) N (10*i+j);have e3:=zjo hn hk n hb hp;refine ⟨ybq qb (yan b ps) (yac ps),.val (yac ps),?_,⟨zvi hB.nd,fun p h=>?_⟩,zsq⟩
 .unfold lin;rw [zas (t:=yac ps) (U':=[.val S,.val (.int N),.val Z,.val (.int (i:Int)),.val b.t,slD qb,.val (.int (j:Int)),.val (yac ps)]) rfl (by simp [evE,yad,ygl,Sl.get,glo,ya0,ybp,yd7,zsa,yat,e2,e1]) rfl];have e4:evS (glo P (run P (n+2))) (.dput 5 (.call "_law_key" [.var 4,.var 7]) (.var 7)) [.val S,.val (.int N),.val Z,.val (.int (i:Int)),.val b.t,slD qb,.val (.int (j:Int)),.val (yac ps)]=some (.nx [.val S,.val (.int N),.val Z,.val (.int (i:Int)),.val b.t,slD (ybq qb (yan b ps) (yac ps)),.val (.int (j:Int)),.val (yac ps)]):=by
   have hf:yae (yah (.var 7)++yah (.call "_law_key" [.var 4,.var 7])) [Sl.val S,.val (.int N),.val Z,.val (.int (i:Int)),.val b.t,slD qb,.val (.int (j:Int)),.val (yac ps)]=[Sl.val S,.val (.int N),.val Z,.val (.int (i:Int)),.val b.t,slD qb,.val (.int (j:Int)),.val (yac ps)]:=rfl;have v1:evE (glo P (run P (n+2))) (.var 7) (ygl [Sl.val S,.val (.int N),.val Z,.val (.int (i:Int)),.val b.t,slD qb,.val (.int (j:Int)),.val (yac ps)])=some (yac ps):=by simp [evE,ygl,Sl.get]
   have v2:evE (glo P (run P (n+2))) (.call "_law_key" [.var 4,.var 7]) (ygl [Sl.val S,.val (.int N),.val Z,.val (.int (i:Int)),.val b.t,slD qb,.val (.int (j:Int)),.val (yac ps)])=some (tkT (yan b ps)):=by simp [evE,yad,ygl,Sl.get,glo,e3]
   rw [evS,hf,v1,zzh,v2,zzh];show ((yeb (some (slD qb)) (tkT (yan b ps)) (yac ps)).map _)=_;rw [zvj qb _ _ (by omega)];rfl
  rw [zat e4,yab]
 .rcases zsp h with h | h
  .exact hB.rw p h
  .exact ⟨ps,hp,h⟩
theorem zmk (n:Nat) (hb:b.ok) (S:T) (N:Int) (i:Nat) (hi:i<4) (Z:List T) (hZ:Z.length<=4) (s5 s6 s7:Sl) :
  ∃ (R:List (List (Col × T))) (s5' s6' s7':Sl),yab (glo P (run P (n+2))) yfn [.val S,.val (.int N),.val (.tup Z),.val (.int (i:Int)),.val b.t,s5,s6,s7]=some (.nx [.val S,.val (.int N),.val (.tup (Z++[.tup (R.map yac)])),.val (.int (i:Int)),.val b.t,s5',s6',s7'])/\R.length<=4/\(∀ ps∈R,RowOk b ps)/\(R.map (yan b)).Pairwise (fun x y=>ya3 x y=true):=by
 obtain ⟨d,ed,d0,d1⟩:=zxu hi;obtain ⟨m,em,m4⟩:∃ m:Nat,N/d%5=(m:Int)/\m<=4:=⟨(N/d%5).toNat,by omega,by omega⟩;obtain ⟨U',el,qb,s6',s7',rfl,hB,hl⟩:=zal (enc:=fun j:Nat=>T.int (j:Int)) (f:=fun x U=>(ya1 [6] x U).bind fun U'=>yab (glo P (run P (n+2))) lin U')
  (fun done U=>∃ qb s6 s7,U=[.val S,.val (.int N),.val (.tup Z),.val (.int (i:Int)),.val b.t,slD qb,s6,s7]/\Book b qb/\qb.length<=done.length)
  (List.range m) [.val S,.val (.int N),.val (.tup Z),.val (.int (i:Int)),.val b.t,slD [],s6,s7] ⟨[],s6,s7,rfl,⟨ud4,fun p h=>by cases h⟩,zzw _⟩ (by
   rintro l1 j l2 hsp U ⟨qb,s6,s7,rfl,hB,hl⟩;have hl4:qb.length<=4:=by have:=zzz List.length hsp;simp at this;omega
   obtain ⟨kvs',s7',e,hB',hl'⟩:=zp1 hd hw hr hn hk n hb S (.tup Z) N i j hB hl4 s7;refine ⟨[.val S,.val (.int N),.val (.tup Z),.val (.int (i:Int)),.val b.t,slD kvs',.val (.int (j:Int)),s7'],?_,kvs',.val (.int (j:Int)),s7',rfl,hB',by simp;omega⟩;simp only [ya1,xbs,xss,xsz];exact e)
 have hl4:qb.length<=4:=by simp at hl;omega
 obtain ⟨pr,p1,p2,p3⟩:=zj2 (enc:=tkT) (Q:=fun k w=>∃ ps,RowOk b ps/\w=yac ps/\yan b ps=k) (f:=fun x=>(yai (dD qb) x).map some) (yax (qb.map (·.1))) fun k hk'=>by obtain ⟨w,w1,w2⟩:=hB.get hk';exact ⟨w,by rw [w1];rfl,w2⟩
 obtain ⟨R,r1,r2,r3⟩:∃ R:List (List (Col × T)),pr.map (·.2)=R.map yac/\(∀ ps∈R,RowOk b ps)/\R.map (yan b)=pr.map (·.1):=by
  clear p1 p2
  induction pr with
  | nil=>exact ⟨[],rfl,(fun ps h=>by cases h),rfl⟩
  | cons p pr ih =>
   obtain ⟨ps,h1,h2,h3⟩:=p3 p zzt;obtain ⟨R,r1,r2,r3⟩:=ih fun q hq=>p3 q (zzq _ hq);refine ⟨ps::R,by rw [zzi,zzi,r1,h2],fun q hq=>?_,by rw [zzi,zzi,r3,h3]⟩;rcases omc hq with rfl | hq
   .exact h1
   .exact r2 q hq
 have hRl:R.length<=4:=by have e1:=zzz List.length r1;have e2:=zzz List.length p1;rw [zzo,zzo] at e1;rw [zzo,zdi,zzo] at e2;omega
 refine ⟨R,.val (dD qb),s6',s7',?_,hRl,r2,by rw [r3,p1];refine zfv hB.nd fun x hx y hy=>?_;obtain ⟨q,hq,rfl⟩:=omm hx;obtain ⟨q',hq',rfl⟩:=omm hy;obtain ⟨ps,h1,rfl⟩:=hB.rw q hq;obtain ⟨ps',h2,rfl⟩:=hB.rw q' hq';exact zcz hb h1 h2⟩;unfold yfn;rw [zat (s:=.dnew 5) (U':=[.val S,.val (.int N),.val (.tup Z),.val (.int (i:Int)),.val b.t,slD [],s6,s7]) (by rw [evS];rfl)];rw [zat (za1 (xs:=[.int (m:Int)]) (qc:=(List.range m).map fun (j:Nat)=>T.int (j:Int)) (U0:=[.val S,.val (.int N),.val (.tup Z),.val (.int (i:Int)),.val b.t,slD [],s6,s7]) rfl (by
  simp [yad,evE,ygl,Sl.get,yai,ed,ya0,yat,ybh,d0,d1,em]) (by
  simp only [items,ybm,Int.toNat_natCast];rw [if_pos (by omega)]) el)]
 have hsz:(yax (qb.map (·.1))).length<=16777216:=by rw [zdi,zzo];omega
 have hz:Z.length+1<=16777216:=by omega
 rw [zx6 (i:=2) (e:=lex) (U0:=[.val S,.val (.int N),.val (.tup Z),.val (.int (i:Int)),.val b.t,.val (dD qb),s6',s7']) (t:=.tup (Z++[.tup (R.map yac)])) (U':=[.val S,.val (.int N),.val (.tup (Z++[.tup (R.map yac)])),.val (.int (i:Int)),.val b.t,.val (dD qb),s6',s7']) (by
   show [Sl.val S,.val (.int N),.val (.tup Z),.val (.int (i:Int)),.val b.t,Sl.frz (Sl.frz (slD qb)),s6',s7']=_;rw [zse];rfl) (by
   have ec:evE (glo P (run P (n+2))) (.comp (.idx (.var 6) (.var 0)) 1 .plain [.blt .sorted (.var 5)] none) (ygl [Sl.val S,.val (.int N),.val (.tup Z),.val (.int (i:Int)),.val b.t,.val (dD qb),s6',s7'])=some (.lst (R.map yac)):=by
    rw [zb3];have s1:yad (glo P (run P (n+2))) [.blt .sorted (.var 5)] (ygl [Sl.val S,.val (.int N),.val (.tup Z),.val (.int (i:Int)),.val b.t,.val (dD qb),s6',s7'])=some [.lst ((yax (qb.map (·.1))).map tkT)]:=by simp [yad,evE,ygl,Sl.get,hB.srt hb (by omega)]
    have s2:yak .plain [.lst ((yax (qb.map (·.1))).map tkT)]=some ((yax (qb.map (·.1))).map tkT):=by simp [yak,items,hsz]
    have ef:(fun x=>(bnd 1 x (ygl [Sl.val S,.val (.int N),.val (.tup Z),.val (.int (i:Int)),.val b.t,.val (dD qb),s6',s7'])).bind fun r'=>(evE (glo P (run P (n+2))) (.idx (.var 6) (.var 0)) r').map some)=fun x=>(yai (dD qb) x).map some:=by funext x;simp [bnd,evE,ygl,Sl.get]
    rw [s1,zzh,s2,zzh,ef,p2,r1];rfl
   unfold lex;rw [zqh];rw [show evE (glo P (run P (n+2))) (.tup [.blt .toTuple (.comp (.idx (.var 6) (.var 0)) 1 .plain [.blt .sorted (.var 5)] none)]) (ygl [Sl.val S,.val (.int N),.val (.tup Z),.val (.int (i:Int)),.val b.t,.val (dD qb),s6',s7'])=some (.tup [.tup (R.map yac)]) by rw [evE,yad,zbk,ec];rfl];simp [evE,ygl,Sl.get,ya0,ybp,hz]) rfl,yab]
theorem zmj (hl:P.fn "_law_loose"=some zc9) (n:Nat) {S:List Tb} (hS:∀ b∈S,b.ok) (h4:S.length<=4) (N:Int) :
  ∃ Z:List (Tb × List (List (Col × T))),run P (n+3) "_law_loose" [.tup (S.map Tb.t),.int N]=some (.tup (Z.map fun z=>.tup (z.2.map yac)))/\Z.map (·.1)=S/\∀ z∈Z,z.2.length<=4/\(∀ ps∈z.2,RowOk z.1 ps)/\(z.2.map (yan z.1)).Pairwise (fun x y=>ya3 x y=true):=by
 rw [zaf hl rfl];show ∃ Z:List (Tb × List (List (Col × T))),zaa (yab (glo P (run P (n+2))) [.asg 2 (.tup []),.loop [3,4] .enum [.var 0] yfn,.ret (.var 2)] [.val (.tup (S.map Tb.t)),.val (.int N),.no,.no,.no,.no,.no,.no])=_/\_;rw [zas (t:=.tup []) (U':=[.val (.tup (S.map Tb.t)),.val (.int N),.val (.tup []),.no,.no,.no,.no,.no]) rfl (by simp [evE,yad]) rfl];obtain ⟨U',el,Z,s3,s4,s5,s6,s7,rfl,h1,h2⟩:=zal (enc:=fun (p:Tb × Nat)=>T.tup [.int (p.2:Int),p.1.t]) (f:=fun x U=>(ya1 [3,4] x U).bind fun U'=>yab (glo P (run P (n+2))) yfn U')
  (fun done U=>∃ (Z:List (Tb × List (List (Col × T)))),∃ s3 s4 s5 s6 s7,U=[.val (.tup (S.map Tb.t)),.val (.int N),.val (.tup (Z.map fun z=>.tup (z.2.map yac))),s3,s4,s5,s6,s7]/\Z.map (·.1)=done.map (·.1)/\∀ z∈Z,z.2.length<=4/\(∀ ps∈z.2,RowOk z.1 ps)/\(z.2.map (yan z.1)).Pairwise (fun x y=>ya3 x y=true))
  (S.zipIdx 0) [.val (.tup (S.map Tb.t)),.val (.int N),.val (.tup []),.no,.no,.no,.no,.no] ⟨[],.no,.no,.no,.no,.no,rfl,rfl,fun z h=>by cases h⟩ (by
   rintro done ⟨b,i⟩ rest hsp U ⟨Z,s3,s4,s5,s6,s7,rfl,h1,h2⟩;have hm:(b,i)∈S.zipIdx 0:=by rw [hsp];simp
   have hb:b∈S:=by have:=List.mem_zipIdx' hm;rw [this.2];exact ua5 _
   have hi:i<4:=by have:=(List.mem_zipIdx' hm).1;omega
   have hzl:Z.length<=4:=by have e1:=zzz List.length h1;have e2:=zzz List.length hsp;simp at e1 e2;omega
   obtain ⟨R,s5',s6',s7',e,r1,r2,r3⟩:=zmk hd hw hr hn hk n (hS b hb) (.tup (S.map Tb.t)) N i hi (Z.map fun z=>.tup (z.2.map yac)) (by rw [zzo];exact hzl) s5 s6 s7;refine ⟨[.val (.tup (S.map Tb.t)),.val (.int N),.val (.tup ((Z++[(b,R)]).map fun z=>.tup (z.2.map yac))),.val (.int (i:Int)),.val b.t,s5',s6',s7'],?_,Z++[(b,R)],_,_,_,_,_,rfl,by simp [h1],fun z hz=>?_⟩
   .simp only [ya1,setAll,xbs,xss,xsz];rw [e,zz6];rfl
   .rcases oma hz with z' | z'
    .exact h2 z z'
    .rw [omg z'];exact ⟨r1,r2,r3⟩)
 refine ⟨Z,?_,by rw [h1,List.zipIdx_map_fst],h2⟩;rw [zat (za1 (xs:=[.tup (S.map Tb.t)]) (qc:=(S.zipIdx 0).map fun (p:Tb × Nat)=>T.tup [.int (p.2:Int),p.1.t]) (U0:=[.val (.tup (S.map Tb.t)),.val (.int N),.val (.tup []),.no,.no,.no,.no,.no]) rfl (by simp [yad,evE,ygl,Sl.get]) (by simp only [items,zb4]) el)];rw [zaz (t:=.tup (Z.map fun z=>.tup (z.2.map yac))) rfl (by simp [evE,ygl,Sl.get])];rfl
end
end
section
abbrev Zt:=Tb × List (List (Col × T))
noncomputable def yaf (Z:List Zt):T:=.tup (Z.map fun z=>z.1.t)
noncomputable def rwT (z:Zt):T:=.tup (z.2.map yac)
noncomputable def stT (Z:List Zt):T:=.tup (Z.map rwT)
theorem zof:∀ Z:List Zt,yck (Z.map fun z=>z.1.t) (Z.map rwT)=Z.map fun z=>.tup [z.1.t,rwT z]
 | []=>rfl
 | z::Z=>by rw [zzi,zzi,zzi,yck,zof Z]
theorem t0 (b:Tb):yai b.t (.int 0)=some (.str b.nm):=by rw [Tb.t,ybj,yai,yaw]
theorem t1 (b:Tb):yai b.t (.int 1)=some (.tup (b.cs.map Col.t)):=by rw [Tb.t,ybj,yai,yar]
theorem zdv {α:Type} {enc:α->T} {nm:α->Str} {f:T->List Sl->Option Out} {I:List Sl->Prop} {r:α->T} (x:Str) (hit:∀ a U,I U->nm a=x->f (enc a) U=some (.rt (r a))) (miss:∀ a U,I U->nm a≠x->∃ U',f (enc a) U=some (.nx U')/\I U') :
  ∀ {l:List α} {a:α},a∈l->(l.map nm).Nodup->nm a=x->∀ U,I U->yav f (l.map enc) U=some (.rt (r a))
 | b::l,a,ha,nd,e,U,h=>by
  rw [zzi] at nd;obtain ⟨n1,n2⟩:=ua7.mp nd;rw [zzi,yav];by_cases hb:nm b=x
  .rcases omc ha with rfl | ha
   .rw [hit _ U h hb];rfl
   .exact absurd (ua0.mpr ⟨a,ha,e.trans hb.symm⟩) n1
  .rcases omc ha with rfl | ha
   .exact absurd e hb
   .obtain ⟨U',h1,h2⟩:=miss b U h hb;rw [h1];exact zdv x hit miss ha n2 e U' h2
theorem zek {P:Pr} (h:P.fn "table_of"=some zb9) (n:Nat) {Z:List Zt} {z:Zt} (hz:z∈Z) (nd:(Z.map (·.1.nm)).Nodup):run P (n+1) "table_of" [yaf Z,.str z.1.nm]=some z.1.t:=by
 rw [zaf h rfl];show zaa (yab (glo P (run P n)) zda [.val (yaf Z),.val (.str z.1.nm),.no])=_;unfold zda;have el:=zdv (enc:=fun z:Zt=>z.1.t) (nm:=fun z:Zt=>z.1.nm) (r:=fun z:Zt=>z.1.t) (I:=fun U=>∃ s2,U=[Sl.val (yaf Z),.val (.str z.1.nm),s2])
  (f:=fun x U=>(ya1 [2] x U).bind fun U'=>yab (glo P (run P n)) [.ite (.cmp .eq (.idx (.var 2) (.cst (.int 0))) (.var 1)) [.ret (.var 2)] []] U') z.1.nm
  (fun a U ⟨s2,hU⟩ e=>by subst hU;show yab (glo P (run P n)) [.ite (.cmp .eq (.idx (.var 2) (.cst (.int 0))) (.var 1)) [.ret (.var 2)] []] [.val (yaf Z),.val (.str z.1.nm),.val a.1.t]=_;exact zcq rfl (by simp [evE,ygl,Sl.get,t0,yay,eqs,e]) (zaz rfl (by simp [evE,ygl,Sl.get])))
  (fun a U ⟨s2,hU⟩ e=>by subst hU;refine ⟨[.val (yaf Z),.val (.str z.1.nm),.val a.1.t],?_,_,rfl⟩;show yab (glo P (run P n)) [.ite (.cmp .eq (.idx (.var 2) (.cst (.int 0))) (.var 1)) [.ret (.var 2)] []] [.val (yaf Z),.val (.str z.1.nm),.val a.1.t]=_;rw [zbc rfl (by simp [evE,ygl,Sl.get,t0,yay,eqs,e]),yab])
  hz nd rfl [Sl.val (yaf Z),.val (.str z.1.nm),.no] ⟨_,rfl⟩
 rw [zeo (za1 (xs:=[yaf Z]) (qc:=Z.map fun z=>z.1.t) (U0:=[Sl.val (yaf Z),.val (.str z.1.nm),.no]) rfl (by simp [yad,evE,ygl,Sl.get]) rfl el)];rfl
theorem zdc {P:Pr} (h:P.fn "rows_of"=some zcr) (n:Nat) {Z:List Zt} {z:Zt} (hz:z∈Z) (nd:(Z.map (·.1.nm)).Nodup):run P (n+1) "rows_of" [yaf Z,stT Z,.str z.1.nm]=some (rwT z):=by
 rw [zaf h rfl];show zaa (yab (glo P (run P n)) zd0 [.val (yaf Z),.val (stT Z),.val (.str z.1.nm),.no,.no])=_;unfold zd0;have el:=zdv (enc:=fun z:Zt=>T.tup [z.1.t,rwT z]) (nm:=fun z:Zt=>z.1.nm) (r:=rwT) (I:=fun U=>∃ s3 s4,U=[Sl.val (yaf Z),.val (stT Z),.val (.str z.1.nm),s3,s4])
  (f:=fun x U=>(ya1 [3,4] x U).bind fun U'=>yab (glo P (run P n)) [.ite (.cmp .eq (.idx (.var 3) (.cst (.int 0))) (.var 2)) [.ret (.var 4)] []] U') z.1.nm
  (fun a U ⟨s3,s4,hU⟩ e=>by subst hU;show yab (glo P (run P n)) [.ite (.cmp .eq (.idx (.var 3) (.cst (.int 0))) (.var 2)) [.ret (.var 4)] []] [.val (yaf Z),.val (stT Z),.val (.str z.1.nm),.val a.1.t,.val (rwT a)]=_;exact zcq rfl (by simp [evE,ygl,Sl.get,t0,yay,eqs,e]) (zaz rfl (by simp [evE,ygl,Sl.get])))
  (fun a U ⟨s3,s4,hU⟩ e=>by subst hU;refine ⟨[.val (yaf Z),.val (stT Z),.val (.str z.1.nm),.val a.1.t,.val (rwT a)],?_,_,_,rfl⟩;show yab (glo P (run P n)) [.ite (.cmp .eq (.idx (.var 3) (.cst (.int 0))) (.var 2)) [.ret (.var 4)] []] [.val (yaf Z),.val (stT Z),.val (.str z.1.nm),.val a.1.t,.val (rwT a)]=_;rw [zbc rfl (by simp [evE,ygl,Sl.get,t0,yay,eqs,e]),yab])
  hz nd rfl [Sl.val (yaf Z),.val (stT Z),.val (.str z.1.nm),.no,.no] ⟨_,_,rfl⟩
 rw [zeo (za1 (xs:=[yaf Z,stT Z]) (qc:=Z.map fun z=>T.tup [z.1.t,rwT z]) (U0:=[Sl.val (yaf Z),.val (stT Z),.val (.str z.1.nm),.no,.no]) rfl (by simp [yad,evE,ygl,Sl.get]) (by show some (yck (Z.map fun z=>z.1.t) (Z.map rwT))=_;rw [zof]) el)];rfl
theorem zqg (G:Glo) (a b:E) (r:Env):evE G (.idx a b) r=(evE G a r).bind fun x=>(evE G b r).bind fun y=>yai x y:=by rw [evE]
end
section
theorem zg9:∀ {l:List T},(∀ w∈l,eqT w w=true)->yb0 l l=true
 | [],_=>by rw [yb0]
 | w::l,h=>by rw [yb0,h w zzt,zg9 fun u hu=>h u (zzq _ hu)];rfl
theorem zhd {n:Nat}:∀ {l:List T},(∀ w∈l,dpP w w<=n)->ybe l l<=n
 | [],_=>by rw [ybe]<;>first | exact Nat.zero_le _ | simp
 | w::l,h=>by rw [ybe];exact Nat.max_le.mpr ⟨h w zzt,zhd fun u hu=>h u (zzq _ hu)⟩
noncomputable def Slf (n:Nat) (t:T):Prop:=eqT t t=true/\dpP t t<=n
theorem zdb {t:T} (h:flat t=true):Slf 0 t:=by cases t<;>first | exact ⟨by simp [eqT],Nat.le_refl _⟩ | cases h
theorem zdt {n:Nat} {l:List T} (h:∀ w∈l,Slf n w):Slf (n+1) (.tup l) :=
 ⟨by rw [eqT];exact zg9 fun w hw=>(h w hw).1,by rw [dpP];exact zAx (zhd fun w hw=>(h w hw).2)⟩
theorem zi5 {n m:Nat} {t:T} (h:Slf n t) (hm:n<=m):Slf m t:=⟨h.1,zz8 h.2 hm⟩
theorem zlg (k:List Kt):Slf 1 (tkT k):=zdt fun w hw=>by obtain ⟨x,_,rfl⟩:=omm hw;exact zdb (by rcases x with _ | _ | _<;>rfl)
end
section
structure Tr where
 nm:Str
 j:Nat
 k:List Kt
noncomputable def trT (x:Tr):T:=.tup [.str x.nm,.int (x.j:Int),tkT x.k]
noncomputable def code (x:Tr):List Kt:=.inr (some x.nm)::.inl (x.j:Int)::x.k
theorem ztz (a b:Kt):eqT (kT a) (kT b)=decide (a=b):=by
 rcases a with i | _ | x<;>rcases b with j | _ | y<;>simp only [kT,eqT]
 all_goals first | (simp;done) | (by_cases e:i=j<;>simp [e]) | (by_cases e:x=y<;>simp [e])
theorem zre:∀ a b:List Kt,yb0 (a.map kT) (b.map kT)=decide (a=b)
 | [],[]=>by rw [List.map_nil,yb0];rfl
 | [],_::_=>by rw [List.map_cons,List.map_nil,yb0]<;>simp
 | _::_,[]=>by rw [List.map_cons,List.map_nil,yb0]<;>simp
 | x::a,y::b=>by rw [zzi,zzi,yb0,ztz,zre a b];by_cases e:x=y<;>by_cases f:a=b<;>simp [e,f]
theorem zot (a b:List Kt):eqT (tkT a) (tkT b)=decide (a=b):=by rw [tkT,tkT,eqT,zre]
theorem zza (a b:Kt):dpP (kT a) (kT b)=0:=by rcases a with _ | _ | _<;>rcases b with _ | _ | _<;>rfl
theorem zro:∀ a b:List Kt,ybe (a.map kT) (b.map kT)=0
 | [],_=>by rw [List.map_nil,ybe];simp
 | _::_,[]=>by rw [List.map_nil,ybe];simp
 | x::a,y::b=>by rw [zzi,zzi,ybe,zza,zro a b];rfl
theorem zno (a b:List Kt):dpP (tkT a) (tkT b)=1:=by rw [tkT,tkT,dpP,zro]
theorem zwv:∀ {a b:List Kt},Ev.alike a b=true->ybl (a.map kT) (b.map kT)=some (ya3 a b)
 | [],[],_=>rfl
 | [],_::_,h=>by cases h
 | _::_,[],h=>by cases h
 | x::a,y::b,h=>by
  rw [Ev.alike,zzn] at h;rw [zzi,zzi,ybl];show (if eqT (kT x) (kT y)=true then ybl (a.map kT) (b.map kT) else ltD (kT x) (kT y))=_;rw [ztz,ya3];by_cases e:x=y
  .rw [if_pos (zz0 e),if_pos e];exact zwv h.2
  .rw [if_neg (by simpa using e),if_neg e];rcases x with i | _ | x<;>rcases y with j | _ | y<;>first | rfl | (exact absurd h.1 zzx)
theorem zwm {a b:Str} (h:a≠b):(Sum.inr (some a):Kt)≠.inr (some b):=fun z=>h (zz2 (Sum.inr.inj z))
theorem j_ne {a b:Nat} (h:a≠b):(Sum.inl (a:Int):Kt)≠.inl (b:Int):=fun z=>h (by have:=Sum.inl.inj z;omega)
theorem zis (x y:Tr):ya3 (code x) (code y)=if x.nm=y.nm then (if x.j=y.j then ya3 x.k y.k else kLt (.inl (x.j:Int)) (.inl (y.j:Int))) else kLt (.inr (some x.nm)) (.inr (some y.nm)):=by
 show (if (Sum.inr (some x.nm):Kt)=.inr (some y.nm) then (if (Sum.inl (x.j:Int):Kt)=.inl (y.j:Int) then ya3 x.k y.k else kLt (.inl (x.j:Int)) (.inl (y.j:Int))) else kLt (.inr (some x.nm)) (.inr (some y.nm)))=_;by_cases e:x.nm=y.nm
 .rw [if_pos (by rw [e]),if_pos e];by_cases f:x.j=y.j
  .rw [if_pos (by rw [f]),if_pos f]
  .rw [if_neg (j_ne f),if_neg f]
 .rw [if_neg (zwm e),if_neg e]
theorem zts {x y:Tr} (h:x.nm=y.nm->Ev.alike x.k y.k=true):ltD (trT x) (trT y)=some (ya3 (code x) (code y)):=by
 show ybl [.str x.nm,.int (x.j:Int),tkT x.k] [.str y.nm,.int (y.j:Int),tkT y.k]=_;rw [zis,ybl];show (if (x.nm==y.nm)=true then ybl [.int (x.j:Int),tkT x.k] [.int (y.j:Int),tkT y.k] else ltD (.str x.nm) (.str y.nm))=_;by_cases e:x.nm=y.nm
 .rw [if_pos (ue5.mpr e),if_pos e,ybl];show (if ((x.j:Int)==(y.j:Int))=true then ybl [tkT x.k] [tkT y.k] else ltD (.int (x.j:Int)) (.int (y.j:Int)))=_;by_cases f:x.j=y.j
  .rw [if_pos (by rw [f];exact ua9 _),if_pos f,ybl];show (if eqT (tkT x.k) (tkT y.k)=true then ybl [] [] else ybl (x.k.map kT) (y.k.map kT))=_;rw [zot,zwv (h e)];by_cases g:x.k=y.k
   .rw [if_pos (zz0 g),g,zbu];rfl
   .rw [if_neg (by simpa using g)]
  .have f':¬ (x.j:Int)=(y.j:Int):=by omega
   rw [if_neg (by simpa using f'),if_neg f];rfl
 .rw [if_neg (by simpa using e),if_neg e];rfl
theorem zdg:∀ {a b c:List Kt},ya3 a b=true->ya3 b c=true->ya3 a c=true
 | [],_,_,h,_=>by cases h
 | _::_,[],_,h,_=>by cases h
 | _::_,_::_,[],_,h=>by cases h
 | x::a,y::b,z::c,h1,h2=>by
  rw [ya3] at h1 h2 ⊢;by_cases e:x=y
  .rw [if_pos e] at h1;by_cases f:y=z
   .rw [if_pos f] at h2;rw [if_pos (e.trans f)];exact zdg h1 h2
   .rw [if_neg f] at h2;rw [if_neg (fun g=>f (e.symm.trans g)),e];exact h2
  .rw [if_neg e] at h1;by_cases f:y=z
   .rw [if_neg (fun g=>e (g.trans f.symm)),<- f];exact h1
   .rw [if_neg f] at h2;have h3:=zrf h1 h2;rw [if_neg fun g=>by rw [g,zmx] at h3;cases h3];exact h3
theorem zj3 {x y:Tr} (h:x.nm=y.nm->Ev.alike x.k y.k=true) (hn:x≠y):ya3 (code y) (code x)=!ya3 (code x) (code y):=by
 rw [zis,zis];by_cases e:x.nm=y.nm
 .rw [if_pos e.symm,if_pos e];by_cases f:x.j=y.j
  .rw [if_pos f.symm,if_pos f];refine zdh (h e) fun g=>hn ?_;obtain ⟨a,b,c⟩:=x;obtain ⟨a',b',c'⟩:=y;cases e;cases f;cases g;rfl
  .rw [if_neg (fun z=>f z.symm),if_neg f];exact zig rfl (j_ne f)
 .rw [if_neg (fun z=>e z.symm),if_neg e];exact zig rfl (zwm e)
structure TrOk (l:List Tr):Prop where
 len:l.length<=60
 nd:l.Nodup
 al:∀ x∈l,∀ y∈l,x.nm=y.nm->Ev.alike x.k y.k=true
theorem TrOk.cd {l:List Tr} (h:TrOk l) {x y:Tr} (hx:x∈l) (hy:y∈l):cD (trT x) (trT y)=ya3 (code x) (code y):=by unfold cD;rw [zts (h.al x hx y hy)];cases ya3 (code x) (code y)<;>rfl
theorem TrOk.tot {l:List Tr} (h:TrOk l):(l.map trT).Pairwise fun x y=>cD y x=!cD x y:=by refine List.pairwise_map.mpr (List.Pairwise.imp_of_mem (fun {x y} hx hy hn=>?_) h.nd);rw [h.cd hx hy,h.cd hy hx];exact zj3 (h.al x hx y hy) hn
theorem TrOk.tr {l:List Tr} (h:TrOk l):∀ x∈l.map trT,∀ y∈l.map trT,∀ z∈l.map trT,cD x y=true->cD y z=true->cD x z=true:=fun x hx y hy z hz=>by obtain ⟨x',mx,rfl⟩:=omm hx;obtain ⟨y',my,rfl⟩:=omm hy;obtain ⟨z',mz,rfl⟩:=omm hz;rw [h.cd mx my,h.cd my mz,h.cd mx mz];exact zdg
theorem TrOk.okN {l:List Tr} (h:TrOk l):OkN (l.map trT):=by
 refine ⟨by rw [zzo];exact h.len,fun x hx y hy=>?_,fun x hx y hy=>?_,⟨1,fun x hx=>?_⟩,h.tot,h.tr⟩
 .obtain ⟨x',mx,rfl⟩:=omm hx;obtain ⟨y',my,rfl⟩:=omm hy;show ybe [.str x'.nm,.int (x'.j:Int),tkT x'.k] [.str y'.nm,.int (y'.j:Int),tkT y'.k]+1<=20;rw [ybe,ybe,ybe,zno,ybe]<;>first | (simp [dpP];done) | simp
 .obtain ⟨x',mx,rfl⟩:=omm hx;obtain ⟨y',my,rfl⟩:=omm hy;exact ⟨_,zts (h.al x' mx y' my)⟩
 .obtain ⟨x',mx,rfl⟩:=omm hx;exact ⟨_,_,rfl,rfl⟩
theorem TrOk.sorted {l:List Tr} (h:TrOk l):ya6 .sorted (.lst (l.map trT))=some (.lst (yas (l.map trT))):=by
 cases l with
 | nil=>simp [ya6,ydm,yb4,ydc,yax,yas]
 | cons x l =>have e:ydm ((x::l).map trT)=none:=rfl;show (match (ydm ((x::l).map trT)).bind yb4 with | some r=>some r | none=>yb5 ((x::l).map trT))=_;rw [e];show yb5 _=_;unfold yb5;rw [if_pos h.okN]
theorem TrOk.perm {l m:List Tr} (h:TrOk l) (p:l.Perm m):TrOk m/\yas (l.map trT)=yas (m.map trT):=by have hm:TrOk m:=⟨by rw [<- p.length_eq];exact h.len,p.nodup_iff.mp h.nd,fun x hx y hy=>h.al x (p.mem_iff.mpr hx) y (p.mem_iff.mpr hy)⟩;refine ⟨hm,zi8 (zc6 h.tot h.tr) (zc6 hm.tot hm.tr) (fun x hx y hy h1 h2=>?_) ((zam _).trans ((p.map trT).trans (zam _).symm))⟩;obtain ⟨x',mx,rfl⟩:=omm ((zam _).mem_iff.mp hx);obtain ⟨y',my,rfl⟩:=omm ((zam _).mem_iff.mp hy);rw [h.cd mx my] at h1;rw [h.cd my mx] at h2;have:=zdg h1 h2;rw [zbu] at this;cases this
end
section
section
variable {α κ:Type} [DecidableEq κ] (W:α->κ)
noncomputable def cls (R:List α) (q:κ):List α:=R.filter fun r=>decide (W r=q)
theorem zj4:∀ (D:List κ) (R:List α),D.Nodup->(∀ r∈R,W r∈D)->(D.flatMap (cls W R)).Perm R
 | [],R,_,h=>by
  cases R with
  | nil=>exact .refl _
  | cons r R=>exact absurd (h r List.mem_cons_self) (by simp)
 | q::D,R,nd,h=>by
  rw [ua7] at nd;rw [ua6];have e:D.flatMap (cls W R)=D.flatMap (cls W (R.filter fun r=>!decide (W r=q))):=by
   have:∀ D':List κ,(∀ x∈D',x≠q)->D'.flatMap (cls W R)=D'.flatMap (cls W (R.filter fun r=>!decide (W r=q))):=fun D'=>by
    induction D' with
    | nil=>intro _;rfl
    | cons x D' ih =>
     intro hx;rw [ua6,ua6,ih fun y hy=>hx y (zzq _ hy)];congr 1;unfold cls;rw [List.filter_filter];refine List.filter_congr fun r _=>?_;by_cases e:W r=x
     .have:¬ x=q:=hx x zzt;simp [e,this]
     .simp [e]
   exact this D fun x hx z=>nd.1 (z▸hx)
  rw [e];refine (List.Perm.append_left _ (zj4 D (R.filter fun r=>!decide (W r=q)) nd.2 fun r hr=>?_)).trans (List.filter_append_perm _ R);obtain ⟨h1,h2⟩:=ub9.mp hr;rcases omc (h r h1) with z | z
  .rw [z] at h2;simp at h2
  .exact z
noncomputable def two (R:List α):List α:=R.filter fun r=>decide (1<(cls W R (W r)).length)
theorem zop {D:List κ} {R:List α} (nd:D.Nodup) (h:∀ r∈R,W r∈D):(D.flatMap fun q=>if 1<(cls W R q).length then cls W R q else []).Perm (two W R):=by
 have e:(D.flatMap fun q=>if 1<(cls W R q).length then cls W R q else [])=D.flatMap (cls W (two W R)):=by
  clear nd h
  induction D with
  | nil=>rfl
  | cons q D ih =>
   rw [ua6,ua6,ih];congr 1;show _=(two W R).filter _;unfold two;rw [List.filter_filter];split
   .rename_i hq;refine List.filter_congr fun r _=>?_;by_cases e:W r=q
    .simp [e,hq]
    .simp [e]
   .rename_i hq;refine (List.filter_eq_nil_iff.mpr fun r _=>?_).symm;by_cases e:W r=q
    .simp [e,hq]
    .simp [e]
 rw [e];exact zj4 W D (two W R) nd fun r hr=>h r (ub9.mp hr).1
end
section
variable {α:Type} (W:α->List Kt) (key:α->T)
noncomputable def grp (R:List α) (D:List (List Kt)):List (List Kt × List T):=D.map fun q=>(q,(cls W R q).map key)
theorem zna (R:List α) (D:List (List Kt)) (q:List Kt):((grp W key R D).any fun p=>decide (p.1=q))=true↔q∈D:=by
 rw [List.any_eq_true];constructor
 .rintro ⟨p,hp,e⟩;obtain ⟨x,hx,rfl⟩:=omm hp;have:x=q:=zAf e;exact this▸hx
 .exact fun h=>⟨_,ua0.mpr ⟨q,h,rfl⟩,zz0 rfl⟩
theorem zgc (R:List α) (r:α) (q:List Kt):cls W (R++[r]) q=cls W R q++(if W r=q then [r] else []):=by unfold cls;rw [List.filter_append,ub0];by_cases e:W r=q<;>simp [e]
theorem zuh {R:List α} {q:List Kt} (h:∀ r∈R,W r≠q):cls W R q=[]:=List.filter_eq_nil_iff.mpr fun r hr=>by simpa using h r hr
theorem zp9 {R:List α} {D:List (List Kt)} (nd:D.Nodup) (h:∀ r∈R,W r∈D) (r:α) :
  ∃ D',D'.Nodup/\(∀ x∈R++[r],W x∈D')/\D'.length<=D.length+1/\apP (sdP (grp W key R D) (W r)) (W r) (key r)=grp W key (R++[r]) D':=by
 unfold sdP;rcases Classical.em (W r∈D) with hq | hq
 .refine ⟨D,nd,fun x hx=>?_,Nat.le_succ _,?_⟩
  .rcases oma hx with hx | hx
   .exact h x hx
   .rw [omg hx];exact hq
  .rw [if_pos ((zna W key R D _).mpr hq)];unfold apP grp;rw [zAe];refine ua8 fun q _=>?_;show (if q=W r then (q,(cls W R q).map key++[key r]) else (q,(cls W R q).map key))=(q,(cls W (R++[r]) q).map key);rw [zgc];by_cases e:q=W r
   .rw [if_pos e,if_pos e.symm,zz6];rfl
   .rw [if_neg e,if_neg (fun z=>e z.symm),zzu]
 .refine ⟨D++[W r],?_,fun x hx=>?_,by simp,?_⟩
  .refine List.nodup_append.mpr ⟨nd,by simp,fun a ha b hb=>?_⟩;rw [omg hb];exact fun z=>hq (z▸ha)
  .rcases oma hx with hx | hx
   .exact ue2.mpr (.inl (h x hx))
   .rw [omg hx];simp
  .rw [if_neg fun z=>hq ((zna W key R D _).mp z)];unfold apP grp;rw [zz6,zz6,zAe];have e1:cls W (R++[r]) (W r)=[r]:=by rw [zgc,zuh W fun x hx z=>hq (by rw [<- z];exact h x hx),if_pos rfl];rfl
   have e2:[(W r,([]:List T))].map (fun p=>if p.1=W r then (p.1,p.2++[key r]) else p)=[W r].map fun q=>(q,(cls W (R++[r]) q).map key):=by simp [e1]
   rw [e2];congr 1;refine ua8 fun q hqD=>?_;have hne:¬ q=W r:=fun z=>hq (z▸hqD);show (if q=W r then (q,(cls W R q).map key++[key r]) else (q,(cls W R q).map key))=(q,(cls W (R++[r]) q).map key);rw [if_neg hne,zgc,if_neg (fun z=>hne z.symm),zzu]
theorem zqa (R:List α) (D:List (List Kt)):((grp W key R D).flatMap fun p=>if 1<p.2.length then p.2 else [])=(D.flatMap fun q=>if 1<(cls W R q).length then cls W R q else []).map key:=by
 unfold grp
 induction D with
 | nil=>rfl
 | cons q D ih =>rw [zzi,ua6,ua6,ih,zz6];congr 1;show (if 1<((cls W R q).map key).length then (cls W R q).map key else [])=_;rw [zzo];split<;>rfl
end
end
section
variable {b:Tb} {qa:List Str} {P:Pr}
noncomputable def ze6:List S:=[.ret (.call "worths_of" [.var 0,.var 1,.idx (.var 0) (.cst (.int 2))])]
noncomputable def zck:Fd:=⟨2,2,ze6⟩
noncomputable def za6:Fd:=⟨3,4,[.asg 3 (.call "table_of" [.var 0,.var 2]),
  .ret (.blt .dict (.comp (.tup [.call "key_of" [.var 4,.var 0],.var 0]) 1 .plain [.call "rows_of" [.var 0,.var 1,.var 2]] none))]⟩
noncomputable def zd2:List S:=[.ret (.cmp .notF (.call "holds" [.var 0,.idx (.var 2) (.cst (.int 1)),.var 1]) (.cst (.bl false)))]
noncomputable def ze0:Fd:=⟨3,3,zd2⟩
noncomputable def zar:Fd:=⟨3,4,[.asg 3 (.call "worths_of" [.var 0,.var 2,.idx (.var 1) (.cst (.int 1))]),
  .ite (.cmp .isin (.cst .non) (.var 3)) [.ret (.cst .non)] [],
  .ret (.var 3)]⟩
noncomputable def rbB:List S:=[.asg 5 (.call "key_referred_to" [.var 0,.var 1,.var 4]),
  .ite (.cmp .notN (.var 5) (.cst .non)) [.app 3 (.tup [.tup [.idx (.var 0) (.cst (.int 0)),.call "key_of" [.var 0,.var 4]],.var 1,.tup [.idx (.var 1) (.cst (.int 2)),.var 5]])] []]
noncomputable def zb0:List S:=[.asg 3 (.lst []),
  .loop [4] .plain [.var 2] rbB,
  .ret (.var 3)]
noncomputable def zbp:Fd:=⟨3,6,zb0⟩
noncomputable def bkI:List S:=[.app 2 (.tup [.idx (.var 3) (.cst (.int 0)),.var 4,.var 6])]
noncomputable def zf9:Fd:=⟨2,7,[.asg 2 (.lst []),
  .loop [3] .plain [.var 0] [.loop [4,5] .enum [.idx (.var 3) (.cst (.int 3))] [.loop [6] .plain [.call "keys_that_break" [.var 0,.var 1,.var 3,.var 5]] bkI]],
  .ret (.blt .toTuple (.blt .sorted (.var 2)))]⟩
noncomputable def za9:Fd:=⟨4,5,[.asg 4 (.call "rows_of" [.var 0,.var 1,.idx (.var 2) (.cst (.int 0))]),
  .ite (.cmp .eq (.idx (.var 3) (.cst (.int 0))) (.cst (.str "check"))) [.ret (.comp (.call "key_of" [.var 3,.var 0]) 1 .plain [.var 4] (some (.lnot (.tru (.call "is_kept" [.var 3,.var 0,.var 4])))))] [],
  .ite (.cmp .eq (.idx (.var 3) (.cst (.int 0))) (.cst (.str "unlike"))) [.ret (.call "keys_alike" [.var 2,.var 3,.var 4])] [],
  .ret (.call "keys_referring_to_none" [.var 0,.var 1,.var 2,.var 3])]⟩
noncomputable def kaB:List S:=[.asg 5 (.call "worths_of" [.var 0,.var 4,.idx (.var 1) (.cst (.int 1))]),
  .ite (.cmp .notin (.cst .non) (.var 5)) [.dapp 3 (.var 5) (.call "key_of" [.var 0,.var 4])] []]
noncomputable def kaV:List S:=[.ite (.cmp .gt (.blt .len (.var 7)) (.cst (.int 1))) [.ext 6 (.var 7)] []]
noncomputable def zcm:List S:=[.dnew 3,
  .loop [4] .plain [.var 2] kaB,
  .asg 6 (.lst []),
  .vloop [7] 3 kaV,
  .ret (.var 6)]
noncomputable def zcs:Fd:=⟨3,8,zcm⟩
noncomputable def zaj:Fd:=⟨4,6,[.asg 4 (.call "rows_by_key" [.var 0,.var 1,.idx (.var 3) (.cst (.int 2))]),
  .asg 5 (.call "references_by" [.var 2,.var 3,.call "rows_of" [.var 0,.var 1,.idx (.var 2) (.cst (.int 0))]]),
  .ret (.comp (.idx (.var 0) (.cst (.int 1))) 3 .plain [.var 5] (some (.cmp .notin (.idx (.var 2) (.cst (.int 1))) (.var 7))))]⟩
abbrev Row:=List (Col × T)
noncomputable def wK (qa:List Str) (ps:Row):List Kt:=qa.map fun x=>kk (val ps x)
noncomputable def ya9 (k:List Kt):Bool:=k.any fun x=>decide (x=.inr none)
noncomputable def kyT (b:Tb) (ps:Row):T:=tkT (yan b ps)
noncomputable def woT (qa:List Str) (ps:Row):T:=if ya9 (wK qa ps)=true then .non else tkT (wK qa ps)
theorem zm4 (k:List Kt):inC .non (tkT k)=some (ya9 k):=by
 have h1:dpI .non (k.map kT)=true:=by unfold dpI;rw [List.all_map];exact uc1.mpr fun x _=>by rcases x with _ | _ | _<;>rfl
 have h2:((k.map kT).any fun z=>eqT z .non)=ya9 k:=by rw [List.any_map,ya9];congr;funext x;exact ztz x (.inr none)
 show (if dpI .non (k.map kT)=true then some ((k.map kT).any fun z=>eqT z .non) else none)=_;rw [if_pos h1,h2]
theorem zl2 (hb:b.ok) {ps:Row} (hp:RowOk b ps) (hc:∀ x∈qa,∃ c∈b.cs,c.n=x):∃ qs:Row,qs.map nmT=qa.map .str/\(∀ q∈qs,q∈ps)/\qs.length=qa.length/\T.tup (qs.map (·.2))=tkT (wK qa ps):=by
 have hnd:=hp.nd hb;obtain ⟨qs,q1,q0,q2,q3⟩:=zf3 (ps:=ps) (ks:=qa) fun x hx=>by obtain ⟨c,hc,e⟩:=hc x hx;obtain ⟨p,hp',rfl⟩:=hp.col hc;exact ⟨p,hp',e⟩
 refine ⟨qs,q1,q2,q3,?_⟩;have ek:wK qa ps=qs.map fun q=>kk q.2:=by unfold wK;rw [<- q0,zAe];exact ua8 fun q hq=>by show kk (val ps q.1.n)=kk q.2;rw [zc0 (q2 q hq) hnd]
 unfold tkT;rw [ek,zAe];exact zzz T.tup (ua8 fun q hq=>((zw1 (hp.wk q (q2 q hq))).2).symm)
theorem zk2 (h:P.fn "worths_of"=some zan) (n:Nat) (hb:b.ok) {ps:Row} (hp:RowOk b ps) (hc:∀ x∈qa,∃ c∈b.cs,c.n=x) (h4:qa.length<=4):run P (n+1) "worths_of" [b.t,yac ps,yaz qa]=some (tkT (wK qa ps)):=by obtain ⟨qs,q1,q2,q3,q4⟩:=zl2 hb hp hc;rw [hp.tab,yaz,<- q1,<- q4];exact zds h n (hp.len hb) (hp.nd hb) _ _ _ q2 (by omega)
theorem t2 (b:Tb):yai b.t (.int 2)=some (yaz b.key):=by rw [Tb.t,ybj,yai,ybf];rfl
theorem t3 (b:Tb):yai b.t (.int 3)=some (.tup (b.rs.map Rl.t)):=by rw [Tb.t,ybj,yai,yf2]
theorem zg3 (hw:P.fn "worths_of"=some zan) (h:P.fn "key_of"=some zck) (n:Nat) (hb:b.ok) {ps:Row} (hp:RowOk b ps):run P (n+2) "key_of" [b.t,yac ps]=some (kyT b ps):=by rw [zaf h rfl];have e:(glo P (run P (n+1))).call "worths_of" [b.t,yac ps,yaz b.key]=some (kyT b ps):=zk2 hw n hb hp hb.inn (by have:=hb.k1;omega);show zaa (yab (glo P (run P (n+1))) ze6 [.val b.t,.val (yac ps)])=_;unfold ze6;generalize glo P (run P (n+1))=G at *;rw [zaz (t:=kyT b ps) rfl (by simp only [evE,yad,ygl,Sl.get,xmc,xmn,xgs,xgz,xjs,xbs,t2,e])];rfl
theorem zra (hw:P.fn "worths_of"=some zan) (h:P.fn "key_referred_to"=some zar) (n:Nat) (hb:b.ok) {ps:Row} (hp:RowOk b ps) (hc:∀ x∈qa,∃ c∈b.cs,c.n=x) (h4:qa.length<=4) {r:T} (hr:yai r (.int 1)=some (yaz qa)) :
  run P (n+2) "key_referred_to" [b.t,r,yac ps]=some (woT qa ps):=by
 rw [zaf h rfl];have e:(glo P (run P (n+1))).call "worths_of" [b.t,yac ps,yaz qa]=some (tkT (wK qa ps)):=zk2 hw n hb hp hc h4;show zaa (yab (glo P (run P (n+1))) zar.body [.val b.t,.val r,.val (yac ps),.no])=_;generalize glo P (run P (n+1))=G at *;unfold zar;dsimp only;rw [zas (t:=tkT (wK qa ps)) (U':=[.val b.t,.val r,.val (yac ps),.val (tkT (wK qa ps))]) rfl (by simp only [evE,yad,ygl,Sl.get,xmc,xmn,xgs,xgz,xjs,xbs,hr,e]) rfl];have ec:evE G (.cmp .isin (.cst .non) (.var 3)) (ygl [.val b.t,.val r,.val (yac ps),.val (tkT (wK qa ps))])=some (.bl (ya9 (wK qa ps))):=by simp only [evE,ygl,Sl.get,xmc,xmn,xgs,xgz,xjs,xbs,yay,zm4,xms]
 unfold woT;cases hN:ya9 (wK qa ps) with
 | true=>rw [hN] at ec;rw [zcq rfl ec (zaz (t:=.non) rfl (by rw [evE])),if_pos rfl];rfl
 | false=>rw [hN] at ec;rw [zbc rfl ec,zaz (t:=tkT (wK qa ps)) rfl (by simp only [evE,ygl,Sl.get,xmc,xmn,xgs,xgz,xjs]),if_neg (by simp)];rfl
theorem zxj {α β:Type} (c:α->Bool) (f:α->β):∀ l:List α,(l.filterMap fun a=>if c a=true then some (f a) else none)=(l.filter c).map f
 | []=>rfl
 | a::l=>by rw [zAh,ub0,zxj c f l];cases c a<;>rfl
theorem zgb {G:Glo} {elt cond:E} {src:List E} {r:Env} {n:Nat} {α:Type} {enc:α->T} {R:List α} (c:α->Bool) (f:α->T) {xs:List T} (h1:yad G src r=some xs) (h2:yak .plain xs=some (R.map enc))
  (hb:∀ a∈R,∃ r',bnd n (enc a) r=some r'/\evE G cond r'=some (.bl (c a))/\(c a=true->evE G elt r'=some (f a))):evE G (.comp elt n .plain src (some cond)) r=some (.lst ((R.filter c).map f)):=by
 rw [zed,h1,zzh,h2,zzh,zav (enc:=enc) (fun a=>if c a=true then some (f a) else none) fun a ha=>by
  obtain ⟨r',e1,e2,e3⟩:=hb a ha;rw [e1,zzh,evO,e2,Option.map_some,zzh];cases hc:c a with
  | true=>rw [if_pos rfl];simp only [e3 hc,xms]
  | false=>rfl]
 rw [zxj];rfl
theorem zf4 (R:List Row) (h4:R.length<=4):yak .plain [.tup (R.map yac)]=some (R.map yac):=by
 have hz:R.length<=16777216:=by omega
 simp [yak,items,hz]
noncomputable def ya7 (b:Tb) (r:T) (g:Str) (qa:List Str) (ps:Row):T:=.tup [.tup [.str b.nm,kyT b ps],r,.tup [.str g,tkT (wK qa ps)]]
noncomputable def ful (qa:List Str) (R:List Row):List Row:=R.filter fun ps=>!ya9 (wK qa ps)
theorem zmb (qa:List Str) (ps:Row):yay .notN (woT qa ps) .non=some (.bl (!ya9 (wK qa ps))):=by unfold woT;cases ya9 (wK qa ps)<;>rfl
theorem zq4 (hw:P.fn "worths_of"=some zan) (hk:P.fn "key_of"=some zck) (hkr:P.fn "key_referred_to"=some zar) (h:P.fn "references_by"=some zbp) (n:Nat) (hb:b.ok) {R:List Row} (h4R:R.length<=4) (hR:∀ ps∈R,RowOk b ps) (hc:∀ x∈qa,∃ c∈b.cs,c.n=x) (h4:qa.length<=4) {r:T} {g:Str} (hr:yai r (.int 1)=some (yaz qa)) (hr2:yai r (.int 2)=some (.str g)) :
  run P (n+3) "references_by" [b.t,r,.tup (R.map yac)]=some (.lst ((ful qa R).map (ya7 b r g qa))):=by
 rw [zaf h rfl];have ek:∀ ps∈R,(glo P (run P (n+2))).call "key_of" [b.t,yac ps]=some (kyT b ps):=fun ps hp=>zg3 hw hk n hb (hR ps hp);have er:∀ ps∈R,(glo P (run P (n+2))).call "key_referred_to" [b.t,r,yac ps]=some (woT qa ps):=fun ps hp=>zra hw hkr n hb (hR ps hp) hc h4 hr;show zaa (yab (glo P (run P (n+2))) zb0 [.val b.t,.val r,.val (.tup (R.map yac)),.no,.no,.no])=_;unfold zb0;generalize glo P (run P (n+2))=G at *;rw [zas (t:=.lst []) (U':=[.val b.t,.val r,.val (.tup (R.map yac)),.own [],.no,.no]) rfl (by rw [evE];rfl) rfl];obtain ⟨U',el,s4,s5,rfl⟩:=zal (enc:=yac) (f:=fun x U=>(ya1 [4] x U).bind fun U'=>yab G rbB U')
  (fun done U=>∃ s4 s5,U=[.val b.t,.val r,.val (.tup (R.map yac)),.own ((ful qa done).map (ya7 b r g qa)),s4,s5])
  R [.val b.t,.val r,.val (.tup (R.map yac)),.own [],.no,.no] ⟨_,_,rfl⟩ (by
   rintro l1 ps l2 hsp U ⟨s4,s5,rfl⟩;have hm:ps∈R:=by rw [hsp];simp
   refine ⟨[.val b.t,.val r,.val (.tup (R.map yac)),.own ((ful qa (l1++[ps])).map (ya7 b r g qa)),.val (yac ps),.val (woT qa ps)],?_,_,_,rfl⟩;simp only [ya1,xbs,xss,xsz];unfold rbB;rw [zas (t:=woT qa ps) (U':=[.val b.t,.val r,.val (.tup (R.map yac)),.own ((ful qa l1).map (ya7 b r g qa)),.val (yac ps),.val (woT qa ps)]) rfl (by simp only [evE,yad,ygl,Sl.get,xmc,xmn,xgs,xgz,xjs,xbs,er ps hm]) rfl];have ec:evE G (.cmp .notN (.var 5) (.cst .non)) (ygl [.val b.t,.val r,.val (.tup (R.map yac)),.own ((ful qa l1).map (ya7 b r g qa)),.val (yac ps),.val (woT qa ps)])=some (.bl (!ya9 (wK qa ps))):=by simp only [evE,ygl,Sl.get,xmc,xmn,xgs,xgz,xjs,xbs,zmb]
   have ef:ful qa (l1++[ps])=ful qa l1++if ya9 (wK qa ps)=true then [] else [ps]:=by unfold ful;rw [List.filter_append,ub0];cases ya9 (wK qa ps)<;>rfl
   rw [ef];cases hN:ya9 (wK qa ps) with
   | true =>rw [hN] at ec;rw [zbc rfl ec,yab,if_pos rfl,zzu]
   | false =>
    rw [hN] at ec;have hl:((ful qa l1).map (ya7 b r g qa)).length<SZ:=by have h1:=zzz List.length hsp;have h2:(ful qa l1).length<=l1.length:=ud9 _ _;simp at h1;rw [zzo];show _<16777216;omega
    have ew:woT qa ps=tkT (wK qa ps):=by unfold woT;rw [hN];rfl
    rw [if_neg (by simp),List.map_append];rw [zii (U':=[.val b.t,.val r,.val (.tup (R.map yac)),.own ((ful qa l1).map (ya7 b r g qa)++[ya7 b r g qa ps]),.val (yac ps),.val (woT qa ps)]) rfl ec (by
     rw [zat (U':=[.val b.t,.val r,.val (.tup (R.map yac)),.own ((ful qa l1).map (ya7 b r g qa)++[ya7 b r g qa ps]),.val (yac ps),.val (woT qa ps)]) (by
      rw [evS];have e1:evE G (.tup [.tup [.idx (.var 0) (.cst (.int 0)),.call "key_of" [.var 0,.var 4]],.var 1,.tup [.idx (.var 1) (.cst (.int 2)),.var 5]]) (ygl [.val b.t,.val r,.val (.tup (R.map yac)),.own ((ful qa l1).map (ya7 b r g qa)),.val (yac ps),.val (woT qa ps)])=some (ya7 b r g qa ps):=by simp only [evE,yad,ygl,Sl.get,xmc,xmn,xgs,xgz,xjs,xbs,t0,hr2,ek ps hm,List.length_cons,List.length_nil,Nat.zero_add,Nat.reduceAdd,Nat.reduceLeDiff,if_true,xms,ew,ya7]
      rw [show yae (yah (.tup [.tup [.idx (.var 0) (.cst (.int 0)),.call "key_of" [.var 0,.var 4]],.var 1,.tup [.idx (.var 1) (.cst (.int 2)),.var 5]])) [.val b.t,.val r,.val (.tup (R.map yac)),.own ((ful qa l1).map (ya7 b r g qa)),.val (yac ps),.val (woT qa ps)]=[.val b.t,.val r,.val (.tup (R.map yac)),.own ((ful qa l1).map (ya7 b r g qa)),.val (yac ps),.val (woT qa ps)] from rfl,e1,zzh];show (if ((ful qa l1).map (ya7 b r g qa)).length<SZ then _ else none)=_;rw [if_pos hl];rfl),yab]),yab]
    rfl)
 rw [zat (za1 (xs:=[.tup (R.map yac)]) (qc:=R.map yac) (U0:=[.val b.t,.val r,.val (.tup (R.map yac)),.own [],.no,.no]) rfl (by simp only [evE,yad,ygl,Sl.get,xmc,xmn,xgs,xgz,xjs,xbs]) rfl el)];rw [zeo (t:=.lst ((ful qa R).map (ya7 b r g qa))) (by rw [evS,show yae (yah (.var 3)) [.val b.t,.val r,.val (.tup (R.map yac)),.own ((ful qa R).map (ya7 b r g qa)),s4,s5]=[.val b.t,.val r,.val (.tup (R.map yac)),.val (.lst ((ful qa R).map (ya7 b r g qa))),s4,s5] from rfl];simp only [evE,ygl,Sl.get,xmc,xmn,xgs,xgz,xjs,xms])];rfl
theorem zsr {qb:List (List Kt × T)} {k q:List Kt} {v:T}:((ybq qb k v).any fun p=>decide (p.1=q))=((qb.any fun p=>decide (p.1=q))||decide (k=q)):=by
 unfold ybq;split
 .rename_i h;have e:((qb.map fun kv=>if kv.1=k then (kv.1,v) else kv).any fun p=>decide (p.1=q))=qb.any fun p=>decide (p.1=q):=by rw [List.any_map];congr;funext p;show decide ((if p.1=k then (p.1,v) else p).1=q)=_;split<;>rfl
  rw [e];by_cases z:k=q
  .subst z;rw [h];rfl
  .simp [z]
 .rw [List.any_append,ub7,List.any_nil,Bool.or_false]
theorem zjz (q:List Kt):∀ (l acc:List (List Kt × T)),((l.foldl (fun acc p=>ybq acc p.1 p.2) acc).any fun p=>decide (p.1=q))=((acc.any fun p=>decide (p.1=q))||l.any fun p=>decide (p.1=q))
 | [],acc=>by simp
 | p::l,acc=>by rw [List.foldl_cons,zjz q l,zsr,ub7,Bool.or_assoc]
theorem zfh (b:Tb):∀ R:List Row,ybx (R.map fun ps=>.tup [kyT b ps,yac ps])=some (R.map fun ps=>(yan b ps,yac ps))
 | []=>rfl
 | ps::R=>by rw [zzi,ybx,zfh b R];show ((ybn ((yan b ps).map kT)).map fun k=>(k,yac ps)).bind _=_;rw [zcg];rfl
noncomputable def ycp (b:Tb) (R:List Row):T:=.dt ((ybr (R.map fun ps=>(yan b ps,yac ps))).map (·.1)) ((ybr (R.map fun ps=>(yan b ps,yac ps))).map (·.2))
noncomputable def gks (b:Tb) (R:List Row) (k:List Kt):Bool:=R.any fun ps=>decide (yan b ps=k)
theorem zt2 (b:Tb) (R:List Row) (k:List Kt):inC (tkT k) (ycp b R)=some (gks b R k):=by show (ybn (k.map kT)).map _=_;rw [zcg];show some _=some _;congr 1;dsimp only;rw [List.any_map];have:=zjz k (R.map fun ps=>(yan b ps,yac ps)) [];rw [List.any_nil,Bool.false_or,List.any_map] at this;exact this
theorem zrr (hw:P.fn "worths_of"=some zan) (hk:P.fn "key_of"=some zck) (htb:P.fn "table_of"=some zb9) (hro:P.fn "rows_of"=some zcr) (h:P.fn "rows_by_key"=some za6) (n:Nat) {Z:List Zt} {z:Zt} (hz:z∈Z) (nd:(Z.map (·.1.nm)).Nodup) (hb:z.1.ok) (h4:z.2.length<=4) (hR:∀ ps∈z.2,RowOk z.1 ps) :
  run P (n+3) "rows_by_key" [yaf Z,stT Z,.str z.1.nm]=some (ycp z.1 z.2):=by
 rw [zaf h rfl];have e1:(glo P (run P (n+2))).call "table_of" [yaf Z,.str z.1.nm]=some z.1.t:=zek htb (n+1) hz nd;have e2:(glo P (run P (n+2))).call "rows_of" [yaf Z,stT Z,.str z.1.nm]=some (rwT z):=zdc hro (n+1) hz nd;have e3:∀ ps∈z.2,(glo P (run P (n+2))).call "key_of" [z.1.t,yac ps]=some (kyT z.1 ps):=fun ps hp=>zg3 hw hk n hb (hR ps hp);show zaa (yab (glo P (run P (n+2))) za6.body [.val (yaf Z),.val (stT Z),.val (.str z.1.nm),.no])=_;generalize glo P (run P (n+2))=G at *;unfold za6;dsimp only;rw [zas (t:=z.1.t) (U':=[.val (yaf Z),.val (stT Z),.val (.str z.1.nm),.val z.1.t]) rfl (by simp only [evE,yad,ygl,Sl.get,xmc,xmn,xgs,xgz,xjs,xbs,e1]) rfl];rw [zaz (t:=ycp z.1 z.2) rfl (by
  rw [zbk,zb3];have s1:yad G [.call "rows_of" [.var 0,.var 1,.var 2]] (ygl [.val (yaf Z),.val (stT Z),.val (.str z.1.nm),.val z.1.t])=some [.tup (z.2.map yac)]:=by simp only [evE,yad,ygl,Sl.get,xmc,xmn,xgs,xgz,xjs,xbs,e2];rfl
  rw [s1,zzh,zf4 z.2 h4,zzh,zbs (fun ps=>.tup [kyT z.1 ps,yac ps]) fun ps hp=>by simp only [bnd,if_true,xbs,evE,yad,ygl,Sl.get,xmc,xmn,xgs,xgz,xjs,e3 ps hp,List.length_cons,List.length_nil,Nat.zero_add,Nat.reduceAdd,Nat.reduceLeDiff,xms]];show (ybx _).bind _=_;rw [zfh,zzh,if_pos (by rw [zzo];omega)];rfl)]
 rfl
noncomputable def yea (g:Zt) (qa:List Str) (R:List Row):List Row:=R.filter fun ps=>!ya9 (wK qa ps)&&!gks g.1 g.2 (wK qa ps)
theorem zw0 (hw:P.fn "worths_of"=some zan) (hk:P.fn "key_of"=some zck) (hkr:P.fn "key_referred_to"=some zar) (htb:P.fn "table_of"=some zb9) (hro:P.fn "rows_of"=some zcr) (hbk:P.fn "rows_by_key"=some za6) (hrb:P.fn "references_by"=some zbp) (h:P.fn "keys_referring_to_none"=some zaj) (n:Nat)
  {Z:List Zt} (nd:(Z.map (·.1.nm)).Nodup) (hZ:∀ z∈Z,z.1.ok/\z.2.length<=4/\∀ ps∈z.2,RowOk z.1 ps) {z g:Zt} (hz:z∈Z) (hg:g∈Z) {qa:List Str} (hc:∀ x∈qa,∃ c∈z.1.cs,c.n=x) (h4:qa.length<=4) {w:Str} :
  run P (n+4) "keys_referring_to_none" [yaf Z,stT Z,z.1.t,(Rl.ref qa g.1.nm w).t]=some (.lst ((yea g qa z.2).map (kyT z.1))):=by
 rw [zaf h rfl];obtain ⟨hb,hl,hR⟩:=hZ z hz;obtain ⟨hgb,hgl,hgR⟩:=hZ g hg;have i1:yai (Rl.ref qa g.1.nm w).t (.int 1)=some (yaz qa):=by rw [Rl.t,yai,yar]
 have i2:yai (Rl.ref qa g.1.nm w).t (.int 2)=some (.str g.1.nm):=by rw [Rl.t,yai,ybf]
 have e1:(glo P (run P (n+3))).call "rows_by_key" [yaf Z,stT Z,.str g.1.nm]=some (ycp g.1 g.2):=zrr hw hk htb hro hbk n hg nd hgb hgl hgR;have e2:(glo P (run P (n+3))).call "rows_of" [yaf Z,stT Z,.str z.1.nm]=some (rwT z):=zdc hro (n+2) hz nd;have e3:(glo P (run P (n+3))).call "references_by" [z.1.t,(Rl.ref qa g.1.nm w).t,rwT z]=some (.lst ((ful qa z.2).map (ya7 z.1 (Rl.ref qa g.1.nm w).t g.1.nm qa))):=zq4 hw hk hkr hrb n hb hl hR hc h4 i1 i2;show zaa (yab (glo P (run P (n+3))) zaj.body [.val (yaf Z),.val (stT Z),.val z.1.t,.val (Rl.ref qa g.1.nm w).t,.no,.no])=_;generalize glo P (run P (n+3))=G at *;generalize (Rl.ref qa g.1.nm w).t=r at *;unfold zaj;dsimp only;rw [zas (t:=ycp g.1 g.2) (U':=[.val (yaf Z),.val (stT Z),.val z.1.t,.val r,.val (ycp g.1 g.2),.no]) rfl (by simp only [evE,yad,ygl,Sl.get,xmc,xmn,xgs,xgz,xjs,xbs,i2,e1]) rfl];rw [zas (t:=.lst ((ful qa z.2).map (ya7 z.1 r g.1.nm qa))) (U':=[.val (yaf Z),.val (stT Z),.val z.1.t,.val r,.val (ycp g.1 g.2),.val (.lst ((ful qa z.2).map (ya7 z.1 r g.1.nm qa)))]) rfl (by simp only [evE,yad,ygl,Sl.get,xmc,xmn,xgs,xgz,xjs,xbs,t0,e2,e3]) rfl];have hfl:(ful qa z.2).length<=4:=zz8 (ud9 _ _) hl;have ee:(ful qa z.2).filter (fun ps=>!gks g.1 g.2 (wK qa ps))=yea g qa z.2:=by unfold ful yea;rw [List.filter_filter];refine List.filter_congr fun ps _=>Bool.and_comm _ _
 rw [zaz (t:=.lst ((yea g qa z.2).map (kyT z.1))) rfl (by
  rw [<- ee];refine zgb (enc:=ya7 z.1 r g.1.nm qa) (fun ps=>!gks g.1 g.2 (wK qa ps)) (kyT z.1) (xs:=[.lst ((ful qa z.2).map (ya7 z.1 r g.1.nm qa))]) (by simp only [evE,yad,ygl,Sl.get,xmc,xmn,xgs,xgz,xjs,xbs]) (by
   have hz:(ful qa z.2).length<=16777216:=by omega
   simp [yak,items,hz]) fun ps _=>?_
  refine ⟨some (.tup [.str z.1.nm,kyT z.1 ps])::some r::some (.tup [.str g.1.nm,tkT (wK qa ps)])::ygl [.val (yaf Z),.val (stT Z),.val z.1.t,.val r,.val (ycp g.1 g.2),.val (.lst ((ful qa z.2).map (ya7 z.1 r g.1.nm qa)))],rfl,?_,fun _=>?_⟩
  .simp only [evE,ygl,Sl.get,xmc,xmn,xgs,xgz,xjs,xbs,yai,yar,yay,zt2,xms]
  .simp only [evE,xgz,xjs,xbs,yai,yar])]
 rfl
end
section
variable {qb:List (List Kt × List T)} {U:List Sl} {i:Nat} {qa:List Str}
noncomputable def slL:List (List Kt × List T)->Sl
 | []=>.dk []
 | p::r=>.dl (p::r)
theorem zuz (h:qb≠[]):slL qb=.dl qb:=by cases qb with | nil=>exact absurd rfl h | cons _ _=>rfl
theorem zze (qb:List (List Kt × List T)) (q:List Kt) (y:T):apP (sdP qb q) q y≠[]:=by
 unfold apP sdP;intro e;have e:=List.map_eq_nil_iff.mp e;split at e
 .rename_i h;rw [e] at h;cases h
 .simp at e
theorem zyi {q:List Kt} (h3:U[i]?=some (slL qb)) (hd:qb=[]->U.any Sl.isDl=false) (hz:qb.length<SZ):sdS U i q=some (sdP qb q):=by
 unfold sdS;rw [h3];cases qb with
 | nil =>show (if (true&&!U.any Sl.isDl)=true then some [(q,([]:List T))] else none)=_;rw [hd rfl];rfl
 | cons p r =>show (if (p::r).length<SZ then some (sdP (p::r) q) else none)=_;rw [if_pos hz]
theorem znt {G:Glo} {ke ve:E} {q:List Kt} {y:T} (hf:yae (yah ke++yah ve) U=U) (h1:evE G ke (ygl U)=some (tkT q)) (h2:evE G ve (ygl U)=some y) (h3:U[i]?=some (slL qb)) (hd:qb=[]->U.any Sl.isDl=false) (hz:qb.length<SZ) (h4:∀ p∈qb,p.2.length<SZ) :
  evS G (.dapp i ke ve) U=some (.nx (U.set i (slL (apP (sdP qb q) q y)))):=by
 have hk:tkO (tkT q)=some q:=zcg q;have ha:((sdP qb q).all fun p=>decide (p.2.length<SZ))=true:=by
  rw [uc1];intro p hp;refine zz0 ?_;unfold sdP at hp;split at hp
  .exact h4 p hp
  .rcases oma hp with hp | hp
   .exact h4 p hp
   .rw [omg hp];exact Nat.zero_lt_succ _
 rw [evS,hf,h1,zzh,hk,zzh,zyi h3 hd hz,zzh,h2,zzh,if_pos ha,zuz (zze qb q y)]
theorem zru {G:Glo} {is:List Nat} {body:List S} (h3:U[i]?=some (slL qb)) (hd:qb=[]->U.any Sl.isDl=false) :
  evS G (.vloop is i body) U=yav (fun x U=>(ya1 is x U).bind fun U'=>yab G body U') (qb.map fun p=>T.lst p.2) (U.set i .no):=by
 rw [evS,h3];cases qb with
 | nil =>show (if (true&&!U.any Sl.isDl)=true then some (Out.nx (U.set i .no)) else none)=_;rw [hd rfl];rfl
 | cons p r=>rfl
noncomputable def lng (p:List Kt × List T):List T:=if 1<p.2.length then p.2 else []
theorem ztt (h:∀ p∈qb,p.2.length<=4):(qb.flatMap lng).length<=4*qb.length:=by
 induction qb with
 | nil=>simp
 | cons p r ih =>
  rw [ua6,zzy,zz4];have h1:=ih fun q hq=>h q (zzq _ hq);have h2:(lng p).length<=4:=by
   have:=h p zzt;unfold lng;split
   .exact this
   .simp
  omega
theorem zm9 {R:List Row} (h4:R.length<=4) (qa:List Str) (key:Row->T) (D:List (List Kt)):∀ p∈grp (wK qa) key R D,p.2.length<=4:=fun p hp=>by obtain ⟨q,_,rfl⟩:=omm hp;show ((cls (wK qa) R q).map key).length<=4;rw [zzo];exact zz8 (ud9 _ _) h4
theorem zqe (qa:List Str) (l1:List Row) (ps:Row):ful qa (l1++[ps])=ful qa l1++if ya9 (wK qa ps)=true then [] else [ps]:=by unfold ful;rw [List.filter_append,ub0];cases ya9 (wK qa ps)<;>rfl
theorem znh {R:List Row}:(ful qa R).length<=R.length:=ud9 _ _
theorem zw9 {P:Pr} (hw:P.fn "worths_of"=some zan) (hk:P.fn "key_of"=some zck) (h:P.fn "keys_alike"=some zcs) (n:Nat) {b:Tb} (hb:b.ok) {R:List Row} (h4R:R.length<=4) (hR:∀ ps∈R,RowOk b ps) (hc:∀ x∈qa,∃ c∈b.cs,c.n=x) (h4:qa.length<=4) {r:T} (hr:yai r (.int 1)=some (yaz qa)) :
  ∃ L:List Row,L.Perm (two (wK qa) (ful qa R))/\run P (n+3) "keys_alike" [b.t,r,.tup (R.map yac)]=some (.lst (L.map (kyT b))):=by
 have ek:∀ ps∈R,(glo P (run P (n+2))).call "key_of" [b.t,yac ps]=some (kyT b ps):=fun ps hp=>zg3 hw hk n hb (hR ps hp);have er:∀ ps∈R,(glo P (run P (n+2))).call "worths_of" [b.t,yac ps,yaz qa]=some (tkT (wK qa ps)):=fun ps hp=>zk2 hw (n+1) hb (hR ps hp) hc h4;rw [zaf h rfl];show ∃ L:List Row,_/\zaa (yab (glo P (run P (n+2))) zcm [.val b.t,.val r,.val (.tup (R.map yac)),.no,.no,.no,.no,.no])=_;unfold zcm;generalize glo P (run P (n+2))=G at *;obtain ⟨U',el,D,s4,s5,rfl,nd,cov,hDl,n4,n5⟩:=zal (enc:=yac) (f:=fun x U=>(ya1 [4] x U).bind fun U'=>yab G kaB U')
  (fun done U=>∃ D s4 s5,U=[.val b.t,.val r,.val (.tup (R.map yac)),slL (grp (wK qa) (kyT b) (ful qa done) D),s4,s5,.no,.no]/\D.Nodup/\(∀ x∈ful qa done,wK qa x∈D)/\D.length<=done.length/\s4.isDl=false/\s5.isDl=false)
  R [.val b.t,.val r,.val (.tup (R.map yac)),.dk [],.no,.no,.no,.no] ⟨[],.no,.no,rfl,ud4,(fun x hx=>by cases hx),zzw _,rfl,rfl⟩ (by
   rintro l1 ps l2 hsp U ⟨D,s4,s5,rfl,nd,cov,hDl,n4,n5⟩;have hm:ps∈R:=by rw [hsp];simp
   have hl1:l1.length<=4:=by have h1:=zzz List.length hsp;simp at h1;omega
   have hfl:(ful qa l1).length<=4:=zz8 znh hl1;generalize hK:grp (wK qa) (kyT b) (ful qa l1) D=qb;have hkl:qb.length<=4:=by rw [<- hK];unfold grp;rw [zzo];omega
   simp only [ya1,xbs,xss,xsz];unfold kaB;have s1:∀ ss,yab G (.asg 5 (.call "worths_of" [.var 0,.var 4,.idx (.var 1) (.cst (.int 1))])::ss) [.val b.t,.val r,.val (.tup (R.map yac)),slL qb,.val (yac ps),s5,.no,.no]=yab G ss [.val b.t,.val r,.val (.tup (R.map yac)),slL qb,.val (yac ps),.val (tkT (wK qa ps)),.no,.no]:=fun ss =>zas (t:=tkT (wK qa ps)) rfl (by simp only [evE,yad,ygl,Sl.get,xmc,xmn,xgs,xgz,xjs,xbs,hr,er ps hm]) rfl;rw [s1,zqe];have ec:evE G (.cmp .notin (.cst .non) (.var 5)) (ygl [.val b.t,.val r,.val (.tup (R.map yac)),slL qb,.val (yac ps),.val (tkT (wK qa ps)),.no,.no])=some (.bl (!ya9 (wK qa ps))):=by simp only [evE,ygl,Sl.get,xmc,xmn,xgs,xgz,xjs,xbs,yay,zm4,xms]
   cases hN:ya9 (wK qa ps) with
   | true =>
    rw [hN] at ec;refine ⟨_,(zbc rfl ec).trans (by rw [yab]),D,.val (yac ps),.val (tkT (wK qa ps)),?_,nd,?_,?_,rfl,rfl⟩
    .rw [if_pos rfl,zzu,hK]
    .rw [if_pos rfl,zzu];exact cov
    .rw [zzy];omega
   | false =>
    rw [hN] at ec;obtain ⟨D',nd',cov',hD',eg⟩:=zp9 (wK qa) (kyT b) nd cov ps;rw [hK] at eg;have e4:=znt (G:=G) (i:=3) (ke:=.var 5) (ve:=.call "key_of" [.var 0,.var 4]) (q:=wK qa ps) (y:=kyT b ps) (qb:=qb) (U:=[.val b.t,.val r,.val (.tup (R.map yac)),slL qb,.val (yac ps),.val (tkT (wK qa ps)),.no,.no]) rfl
     (by simp only [evE,ygl,Sl.get,xmc,xmn,xgs,xgz,xjs]) (by simp only [evE,yad,ygl,Sl.get,xmc,xmn,xgs,xgz,xjs,xbs,ek ps hm]) rfl (fun z=>by rw [z];rfl) (by show _<16777216;omega) (fun p hp=>by have:=zm9 hfl qa (kyT b) D p (by rw [hK];exact hp);show _<16777216;omega)
    rw [eg] at e4;refine ⟨_,(zii rfl ec (by rw [zat e4,yab])).trans (by rw [yab]),D',.val (yac ps),.val (tkT (wK qa ps)),?_,nd',?_,?_,rfl,rfl⟩
    .rw [if_neg (by simp)];rfl
    .rw [if_neg (by simp)];exact cov'
    .rw [zzy,List.length_singleton];omega)
 have hfl:(ful qa R).length<=4:=zz8 znh h4R;have hgl:=zm9 hfl qa (kyT b) D;have hkl:(grp (wK qa) (kyT b) (ful qa R) D).length<=4:=by unfold grp;rw [zzo];omega
 refine ⟨_,zop (wK qa) nd cov,?_⟩;rw [<- zqa];generalize hK:grp (wK qa) (kyT b) (ful qa R) D=qb at *;rw [zat (s:=.dnew 3) (U':=[.val b.t,.val r,.val (.tup (R.map yac)),.dk [],.no,.no,.no,.no]) (by rw [evS];rfl)];rw [zat (za1 (xs:=[.tup (R.map yac)]) (qc:=R.map yac) (U0:=[.val b.t,.val r,.val (.tup (R.map yac)),.dk [],.no,.no,.no,.no]) rfl (by simp only [evE,yad,ygl,Sl.get,xmc,xmn,xgs,xgz,xjs,xbs]) rfl el)];rw [zas (t:=.lst []) (U':=[.val b.t,.val r,.val (.tup (R.map yac)),slL qb,s4,s5,.own [],.no]) rfl (by rw [evE];rfl) rfl];obtain ⟨U2,el2,s7,rfl⟩:=zal (enc:=fun p:List Kt × List T=>T.lst p.2) (f:=fun x U=>(ya1 [7] x U).bind fun U'=>yab G kaV U')
  (fun done U=>∃ s7,U=[.val b.t,.val r,.val (.tup (R.map yac)),.no,s4,s5,.own (done.flatMap lng),s7])
  qb [.val b.t,.val r,.val (.tup (R.map yac)),.no,s4,s5,.own [],.no] ⟨_,rfl⟩ (by
   rintro l1 p l2 hsp U ⟨s7,rfl⟩;have hp4:=hgl p (by rw [hsp];simp);have hl1:l1.length<=4:=by have h1:=zzz List.length hsp;simp at h1;omega
   have hll:=ztt (qb:=l1) fun q hq=>hgl q (by rw [hsp];simp [hq]);refine ⟨[.val b.t,.val r,.val (.tup (R.map yac)),.no,s4,s5,.own ((l1++[p]).flatMap lng),.val (.lst p.2)],?_,_,rfl⟩;simp only [ya1,xbs,xss,xsz];have ea:(l1++[p]).flatMap lng=l1.flatMap lng++lng p:=by rw [List.flatMap_append,ua6,List.flatMap_nil,zzu]
   rw [ea];unfold kaV;have ec:evE G (.cmp .gt (.blt .len (.var 7)) (.cst (.int 1))) (ygl [.val b.t,.val r,.val (.tup (R.map yac)),.no,s4,s5,.own (l1.flatMap lng),.val (.lst p.2)])=some (.bl (decide ((1:Int)<(p.2.length:Int)))):=by simp only [evE,ygl,Sl.get,xmc,xmn,xgs,xgz,xjs,xbs,ya6,yay]
   by_cases hq:1<p.2.length
   .rw [zz0 (by omega)] at ec;have hln:lng p=p.2:=by unfold lng;rw [if_pos hq]
    rw [hln];refine (zii (U':=[.val b.t,.val r,.val (.tup (R.map yac)),.no,s4,s5,.own (l1.flatMap lng++p.2),.val (.lst p.2)]) rfl ec ?_).trans (by rw [yab]);rw [zat (U':=[.val b.t,.val r,.val (.tup (R.map yac)),.no,s4,s5,.own (l1.flatMap lng++p.2),.val (.lst p.2)]) (by
     rw [evS,show yae (yah (.var 7)) [.val b.t,.val r,.val (.tup (R.map yac)),.no,s4,s5,.own (l1.flatMap lng),.val (.lst p.2)]=[.val b.t,.val r,.val (.tup (R.map yac)),.no,s4,s5,.own (l1.flatMap lng),.val (.lst p.2)] from rfl];have e7:evE G (.var 7) (ygl [.val b.t,.val r,.val (.tup (R.map yac)),.no,s4,s5,.own (l1.flatMap lng),.val (.lst p.2)])=some (.lst p.2):=by simp only [evE,ygl,Sl.get,xmc,xmn,xgs,xgz,xjs]
     rw [e7,zzh];show (if (l1.flatMap lng).length+p.2.length<=16777216 then _ else none)=_;rw [if_pos (by omega)];rfl),yab]
   .rw [zz7 (by omega)] at ec;have hln:lng p=[]:=by unfold lng;rw [if_neg hq]
    rw [hln,zzu];exact (zbc rfl ec).trans (by rw [yab]))
 rw [zat ((zru (qb:=qb) rfl fun z=>by subst z;show (false||(false||(false||(false||(s4.isDl||(s5.isDl||(false||(false||false))))))))=false;rw [n4,n5];rfl).trans el2)];rw [zeo (t:=.lst (qb.flatMap lng)) (by rw [evS,show yae (yah (.var 6)) [.val b.t,.val r,.val (.tup (R.map yac)),.no,s4,s5,.own (qb.flatMap lng),s7]=[.val b.t,.val r,.val (.tup (R.map yac)),.no,s4,s5,.val (.lst (qb.flatMap lng)),s7] from rfl];simp only [evE,ygl,Sl.get,xmc,xmn,xgs,xgz,xjs,xms])];rfl
theorem rw1:(("check":Str)=="check")=true/\(("unlike":Str)=="check")=false/\(("refers":Str)=="check")=false/\(("unlike":Str)=="unlike")=true/\(("refers":Str)=="unlike")=false/\(("unlike":Str)=="refers")=false/\(("refers":Str)=="refers")=true:=by decide +kernel
theorem yf7 (a:Option Bool):yay .notF (ybg a) (.bl false)=some (.bl (!decide (a=some false))):=by rcases a with _ | _ | _<;>rfl
noncomputable def fail (t:Tst) (R:List Row):List Row:=R.filter fun ps=>decide (hv ps t=some false)
theorem zwz {P:Pr} (hh:P.fn "holds"=some zbm) (hwo:P.fn "worths_of"=some zan) (hcm:P.fn "compared"=some zay) (hop:P.fn "opposite"=some zbr) (hj:P.fn "joined"=some zdn) (h:P.fn "is_kept"=some ze0) (n:Nat) {b:Tb} (hb:b.ok) {ps:Row} (hp:RowOk b ps) {t:Tst} (hto:t.fit 3) (hti:t.inn b.cs) :
  run P (n+5) "is_kept" [b.t,yac ps,(Rl.chk t).t]=some (.bl (!decide (hv ps t=some false))):=by
 rw [zaf h rfl];have eh:=zm6 hh hwo hcm hop hj (hp.len hb) (hp.nd hb) hp.wk (.str b.nm) (.tup (b.key.map .str)) (.tup (b.rs.map Rl.t)) 3 n t hto (by rw [hp.cs];exact hti);rw [<- hp.tab] at eh;have eh':(glo P (run P (n+4))).call "holds" [b.t,t.t,yac ps]=some (ybg (hv ps t)):=eh;have i1:yai (Rl.chk t).t (.int 1)=some t.t:=by rw [Rl.t,yai,yar]
 show zaa (yab (glo P (run P (n+4))) zd2 [.val b.t,.val (yac ps),.val (Rl.chk t).t])=_;unfold zd2;generalize glo P (run P (n+4))=G at *;rw [zaz (t:=.bl (!decide (hv ps t=some false))) rfl (by simp only [evE,yad,ygl,Sl.get,xmc,xmn,xgs,xgz,xjs,xbs,i1,eh',yf7])];rfl
structure Prg (P:Pr):Prop where
 hh:P.fn "holds"=some zbm
 hwo:P.fn "worths_of"=some zan
 hcm:P.fn "compared"=some zay
 hop:P.fn "opposite"=some zbr
 hj:P.fn "joined"=some zdn
 htb:P.fn "table_of"=some zb9
 hro:P.fn "rows_of"=some zcr
 hk:P.fn "key_of"=some zck
 hkp:P.fn "is_kept"=some ze0
 hkr:P.fn "key_referred_to"=some zar
 hbk:P.fn "rows_by_key"=some za6
 hrb:P.fn "references_by"=some zbp
 hkn:P.fn "keys_referring_to_none"=some zaj
 hka:P.fn "keys_alike"=some zcs
 hkb:P.fn "keys_that_break"=some za9
structure Sto (Z:List Zt):Prop where
 l4:Z.length<=4
 nd:(Z.map (·.1.nm)).Nodup
 ok:∀ z∈Z,z.1.ok/\z.2.length<=4/\∀ ps∈z.2,RowOk z.1 ps
 fit:∀ z∈Z,∀ r∈z.1.rs,r.fits (Z.map (·.1.nm)) z.1.cs
 lr:(Z.map fun z=>z.1.rs.length).sum<=13
 pw:∀ z∈Z,(z.2.map (yan z.1)).Pairwise (fun x y=>ya3 x y=true)
inductive Brk (Z:List Zt) (z:Zt):Rl->List Row->Prop where
 | chk (t:Tst):Brk Z z (.chk t) (fail t z.2)
 | unl (qa:List Str):Brk Z z (.unl qa) (two (wK qa) (ful qa z.2))
 | ref (qa:List Str) (g:Zt) (w:Str) (hg:g∈Z):Brk Z z (.ref qa g.1.nm w) (yea g qa z.2)
theorem zw7 {P:Pr} (p:Prg P) (n:Nat) {Z:List Zt} (H:Sto Z) {z:Zt} (hz:z∈Z) {r:Rl} (hok:r.ok) (hfit:r.fits (Z.map (·.1.nm)) z.1.cs) {B:List Row} (hB:Brk Z z r B) :
  ∃ L:List Row,L.Perm B/\run P (n+6) "keys_that_break" [yaf Z,stT Z,z.1.t,r.t]=some (.lst (L.map (kyT z.1))):=by
 obtain ⟨hb,h4,hR⟩:=H.ok z hz;have e1:(glo P (run P (n+5))).call "rows_of" [yaf Z,stT Z,.str z.1.nm]=some (rwT z):=zdc p.hro (n+4) hz H.nd;have body:∀ (i0:Str) (u:T),yai r.t (.int 0)=some (.str i0)->yab (glo P (run P (n+5))) (za9.body.drop 1) [.val (yaf Z),.val (stT Z),.val z.1.t,.val r.t,.val (rwT z)]=some (.rt u)->run P (n+6) "keys_that_break" [yaf Z,stT Z,z.1.t,r.t]=some u:=fun i0 u hi hu=>by rw [zaf p.hkb rfl];show zaa (yab (glo P (run P (n+5))) (.asg 4 (.call "rows_of" [.var 0,.var 1,.idx (.var 2) (.cst (.int 0))])::za9.body.drop 1) [.val (yaf Z),.val (stT Z),.val z.1.t,.val r.t,.no])=_;rw [zas (t:=rwT z) (U':=[.val (yaf Z),.val (stT Z),.val z.1.t,.val r.t,.val (rwT z)]) rfl (by simp only [evE,yad,ygl,Sl.get,xmc,xmn,xgs,xgz,xjs,xbs,t0,e1]) rfl,hu];rfl
 have test:∀ (i0 w:Str),yai r.t (.int 0)=some (.str i0)->evE (glo P (run P (n+5))) (.cmp .eq (.idx (.var 3) (.cst (.int 0))) (.cst (.str w))) (ygl [.val (yaf Z),.val (stT Z),.val z.1.t,.val r.t,.val (rwT z)])=some (.bl (i0==w)):=fun i0 w hi=>by simp only [evE,ygl,Sl.get,xmc,xmn,xgs,xgz,xjs,xbs,hi,yay,eqs]
 cases hB with
 | chk t =>
  have i0:yai (Rl.chk t).t (.int 0)=some (.str "check"):=by rw [Rl.t,yai,yaw]
  refine ⟨_,.refl _,body "check" _ i0 (zcq rfl ((test _ _ i0).trans (by rw [rw1.1])) (zaz rfl ?_))⟩;have e2:∀ ps∈z.2,(glo P (run P (n+5))).call "key_of" [z.1.t,yac ps]=some (kyT z.1 ps):=fun ps hp=>zg3 p.hwo p.hk (n+3) hb (hR ps hp);have e3:∀ ps∈z.2,(glo P (run P (n+5))).call "is_kept" [z.1.t,yac ps,(Rl.chk t).t]=some (.bl (!decide (hv ps t=some false))):=fun ps hp=>zwz p.hh p.hwo p.hcm p.hop p.hj p.hkp n hb (hR ps hp) hok.fit hfit;generalize glo P (run P (n+5))=G at *;refine zgb (enc:=yac) (fun ps=>decide (hv ps t=some false)) (kyT z.1) (xs:=[.tup (z.2.map yac)]) (by simp only [evE,yad,ygl,Sl.get,xmc,xmn,xgs,xgz,xjs,xbs];rfl) (zf4 _ h4) fun ps hp=>?_;refine ⟨some (yac ps)::ygl [.val (yaf Z),.val (stT Z),.val z.1.t,.val (Rl.chk t).t,.val (rwT z)],rfl,?_,fun _=>?_⟩
  .simp only [evE,yad,ygl,Sl.get,xmc,xmn,xgs,xgz,xjs,xbs,e3 ps hp,yc3,xms,Bool.not_not]
  .simp only [evE,yad,ygl,Sl.get,xmc,xmn,xgs,xgz,xjs,xbs,e2 ps hp]
 | unl qa =>
  have i0:yai (Rl.unl qa).t (.int 0)=some (.str "unlike"):=by rw [Rl.t,yai,yaw]
  have i1:yai (Rl.unl qa).t (.int 1)=some (yaz qa):=by rw [Rl.t,yai,yar]
  obtain ⟨L,hL,e2⟩:=zw9 p.hwo p.hk p.hka (n+2) hb h4 hR hfit hok.2 i1;have e2':(glo P (run P (n+5))).call "keys_alike" [z.1.t,(Rl.unl qa).t,rwT z]=some (.lst (L.map (kyT z.1))):=e2;refine ⟨L,hL,body "unlike" _ i0 ((zbc rfl ((test _ _ i0).trans (by rw [rw1.2.1]))).trans (zcq rfl ((test _ _ i0).trans (by rw [rw1.2.2.2.1])) (zaz rfl ?_)))⟩;generalize glo P (run P (n+5))=G at *;simp only [evE,yad,ygl,Sl.get,xmc,xmn,xgs,xgz,xjs,xbs,e2']
 | ref qa g w hg =>
  have i0:yai (Rl.ref qa g.1.nm w).t (.int 0)=some (.str "refers"):=by rw [Rl.t,yai,yaw]
  have e2:(glo P (run P (n+5))).call "keys_referring_to_none" [yaf Z,stT Z,z.1.t,(Rl.ref qa g.1.nm w).t]=some (.lst ((yea g qa z.2).map (kyT z.1))):=zw0 p.hwo p.hk p.hkr p.htb p.hro p.hbk p.hrb p.hkn (n+1) H.nd H.ok hz hg hfit.1 hok.2.1;refine ⟨_,.refl _,body "refers" _ i0 ((zbc rfl ((test _ _ i0).trans (by rw [rw1.2.2.1]))).trans ((zbc rfl ((test _ _ i0).trans (by rw [rw1.2.2.2.2.1]))).trans (zaz rfl ?_)))⟩;generalize glo P (run P (n+5))=G at *;simp only [evE,yad,ygl,Sl.get,xmc,xmn,xgs,xgz,xjs,xbs,e2]
end
section
theorem zwu {P:Pr} (hn:P.fn "_law_names"=some zbl) (h:P.fn "_law_worths"=some zby) (n:Nat) {b:Tb} (hb:b.ok) {ps:Row} (hp:RowOk b ps) {qa:List Str} (hc:∀ x∈qa,∃ c∈b.cs,c.n=x) (h4:qa.length<=4):run P (n+2) "_law_worths" [b.t,yac ps,yaz qa]=some (woT qa ps):=by
 obtain ⟨qs,q1,q2,q3,q4⟩:=zl2 hb hp hc;have hnd:=hp.nd hb;have hz:qs.length<=16777216:=by omega
 rw [zaf h rfl];have cn:(glo P (run P (n+1))).call "_law_names" [b.t]=some (.lst (ps.map nmT)):=by rw [hp.tab];exact zgx hn n ps (hp.len hb) _ _ _
 show zaa (yab (glo P (run P (n+1))) zby.body [.val b.t,.val (yac ps),.val (yaz qa),.no])=_;generalize glo P (run P (n+1))=G at *;generalize b.t=X at *;unfold zby;dsimp only;rw [zas (t:=tkT (wK qa ps)) (U':=[.val X,.val (yac ps),.val (yaz qa),.val (tkT (wK qa ps))]) rfl (by
  rw [zbk,zb3];have s1:yad G [.var 2] (ygl [Sl.val X,.val (yac ps),.val (yaz qa),.no])=some [.tup (qs.map nmT)]:=by simp only [evE,yad,ygl,Sl.get,xmc,xmn,xgs,xgz,xjs,xbs,yaz,q1]
  have s2:yak .plain [.tup (qs.map nmT)]=some (qs.map nmT):=by simp [yak,items,hz]
  rw [s1,zzh,s2,zzh,zbs (fun q=>q.2) fun q hq'=>by obtain ⟨i,e1,e2⟩:=zgd (q2 q hq') hnd;simp only [bnd,if_true,xbs,evE,yad,ygl,Sl.get,xmc,xmn,xgs,xgz,xjs,cn];rw [show nmT q=.str q.1.n from rfl,e1];simp only [xbs,yac,yai,e2,xms]];show some (T.tup (qs.map (·.2)))=_;rw [q4]) rfl]
 rw [zaz (t:=woT qa ps) rfl (by
  simp only [evE,yad,ygl,Sl.get,xmc,xmn,xgs,xgz,xjs,xbs,yay,zm4,xms,ya6,List.length_cons,List.length_nil,Nat.zero_add,Nat.reduceAdd,Nat.reduceLeDiff,if_true];unfold woT;cases ya9 (wK qa ps) with
  | true=>rw [if_pos rfl,if_pos rfl,yai,yar]
  | false=>rw [if_neg (by simp),if_neg (by simp),yai,yaw])]
 rfl
theorem yef {g:Zt}:∀ {Z:List Zt},g∈Z->(Z.map (·.1.nm)).Nodup->(Z.filter fun z=>z.1.nm==g.1.nm)=[g]
 | y::Z,h,nd=>by
  rw [zzi] at nd;obtain ⟨n1,n2⟩:=ua7.mp nd;rw [ub0];by_cases e:y.1.nm=g.1.nm
  .rcases omc h with rfl | h
   .rw [if_pos (ue5.mpr rfl),List.filter_eq_nil_iff.mpr fun z hz q=>n1 (ua0.mpr ⟨z,hz,ua2 q⟩)]
   .exact absurd (ua0.mpr ⟨g,h,e.symm⟩) n1
  .rw [if_neg (by simpa using e)];rcases omc h with rfl | h
   .exact absurd rfl e
   .exact yef h n2
theorem yex {P:Pr} (h:P.fn "_law_table"=some zc8) (n:Nat) {Z:List Zt} (H:Sto Z) {g:Zt} (hg:g∈Z):run P (n+1) "_law_table" [yaf Z,.str g.1.nm]=some g.1.t:=by
 rw [zaf h rfl];show zaa (yab (glo P (run P n)) zcv [.val (yaf Z),.val (.str g.1.nm)])=_;unfold zcv;generalize glo P (run P n)=G;have ec:=zgb (G:=G) (elt:=.var 0) (cond:=.cmp .eq (.idx (.var 0) (.cst (.int 0))) (.var 2)) (src:=[.var 0]) (r:=ygl [.val (yaf Z),.val (.str g.1.nm)]) (n:=1) (enc:=fun z:Zt=>z.1.t) (R:=Z) (fun z=>z.1.nm==g.1.nm) (fun z=>z.1.t) (xs:=[yaf Z]) (by
  simp only [evE,yad,ygl,Sl.get,xmc,xmn,xgz,xjs,xbs]) (by
  have hz:Z.length<=16777216:=by have:=H.l4;omega
  simp [yak,items,yaf,hz]) fun z _=>⟨some z.1.t::ygl [.val (yaf Z),.val (.str g.1.nm)],rfl,by
   simp only [evE,ygl,Sl.get,xmc,xmn,xgs,xgz,xjs,xbs,t0,yay,eqs],fun _=>by
   simp only [evE,xgz,xjs]⟩
 rw [yef hg H.nd] at ec;rw [zaz (t:=g.1.t) rfl (by rw [zqg,ec,evE,zzh,zzh];show ybk [g.1.t] 0=_;rw [yaw])];rfl
end
section
noncomputable def yee (Z:List Zt) (z:Zt):Rl->List Row
 | .chk t=>fail t z.2
 | .unl qa=>two (wK qa) (ful qa z.2)
 | .ref qa g _=>match Z.find? fun y=>y.1.nm==g with
  | some y=>yea y qa z.2
  | none=>[]
theorem ze5 {Z:List Zt} {z:Zt} {r:Rl} (hfit:r.fits (Z.map (·.1.nm)) z.1.cs):Brk Z z r (yee Z z r)/\(yee Z z r).Sublist z.2:=by
 cases r with
 | chk t=>exact ⟨.chk t,List.filter_sublist⟩
 | unl qa=>exact ⟨.unl qa,List.filter_sublist.trans List.filter_sublist⟩
 | ref qa g w =>
  obtain ⟨_,hg⟩:=hfit;obtain ⟨g',hg',rfl⟩:=omm hg;rw [yee];cases e:Z.find? fun y=>y.1.nm==g'.1.nm with
  | none=>exact absurd (List.find?_eq_none.mp e g' hg') (by simp)
  | some y =>
   have h1:=List.mem_of_find?_eq_some e;have h2:y.1.nm=g'.1.nm:=by have:=List.find?_some e;exact ua2 this
   rw [<- h2];exact ⟨.ref qa y w h1,List.filter_sublist⟩
theorem zfa:∀ {Z:List Zt} {z y:Zt},z∈Z->y∈Z->(Z.map (·.1.nm)).Nodup->z.1.nm=y.1.nm->z=y
 | a::Z,z,y,hz,hy,nd,e=>by
  rw [zzi,ua7] at nd;rcases omc hz with h1 | hz
  .rcases omc hy with h2 | hy
   .exact h1.trans h2.symm
   .exact absurd (ua0.mpr ⟨y,hy,by rw [<- e,h1]⟩) nd.1
  .rcases omc hy with h2 | hy
   .exact absurd (ua0.mpr ⟨z,hz,by rw [e,h2]⟩) nd.1
   .exact zfa hz hy nd.2 e
noncomputable def trO (z:Zt) (j:Nat) (ps:Row):Tr:=⟨z.1.nm,j,yan z.1 ps⟩
noncomputable def yen (Z:List Zt) (z:Zt) (p:Rl × Nat):List Tr:=(yee Z z p.1).map (trO z p.2)
noncomputable def yeu (Z:List Zt) (z:Zt):List Tr:=(z.1.rs.zipIdx 0).flatMap (yen Z z)
noncomputable def due (Z:List Zt):List Tr:=Z.flatMap (yeu Z)
theorem zc2 {α β:Type} {f:α->List β} {n:Nat}:∀ {l:List α},(∀ a∈l,(f a).length<=n)->(l.flatMap f).length<=n*l.length
 | [],_=>by simp
 | a::l,h=>by have h1:=h a zzt;have h2:=zc2 (l:=l) fun b hb=>h b (zzq _ hb);rw [ua6,zzy,zz4,Nat.mul_add,Nat.mul_one];omega
theorem zbn {α:Type} {l:List α} {p:α × Nat} (h:p∈l.zipIdx 0):p.1∈l:=by have:=List.mem_zipIdx' h;rw [this.2];exact ua5 _
section
variable {Z:List Zt} (H:Sto Z)
include H
theorem zjw {z:Zt} (hz:z∈Z) {p:Rl × Nat} (hp:p.1∈z.1.rs):(yen Z z p).length<=4:=by rw [yen,zzo];exact zz8 (ze5 (H.fit z hz _ hp)).2.length_le (H.ok z hz).2.1
theorem zqj {z:Zt} (hz:z∈Z):(yeu Z z).length<=4*z.1.rs.length:=by have h1:=zc2 (f:=yen Z z) (n:=4) (l:=z.1.rs.zipIdx 0) fun p hp=>zjw H hz (zbn hp);rw [List.length_zipIdx] at h1;exact h1
theorem zf8:∀ {l:List Zt},(∀ z∈l,z∈Z)->(l.flatMap (yeu Z)).length<=4*(l.map fun z=>z.1.rs.length).sum
 | [],_=>by simp
 | z::l,h=>by have h1:=zqj H (h z zzt);have h2:=zf8 (l:=l) fun y hy=>h y (zzq _ hy);rw [ua6,zzy,zzi,uc6];omega
theorem zt8:(due Z).length<=52:=by have h1:=zf8 H (l:=Z) fun z hz=>hz;have h2:=H.lr;unfold due;omega
theorem zpo {l1 l2:List Zt} {z:Zt} (e:Z=l1++z::l2):(l1.flatMap (yeu Z)).length<=52:=by
 have h1:=zf8 H (l:=l1) fun y hy=>by rw [e];simp [hy]
 have h2:=H.lr;rw [e,zz6,List.sum_append,zzi,uc6] at h2;omega
theorem zf7 {z:Zt} (hz:z∈Z) {p:Rl × Nat} (hp:p.1∈z.1.rs) {x:Tr} (hx:x∈yen Z z p):x.nm=z.1.nm/\x.j=p.2/\∃ ps∈z.2,x.k=yan z.1 ps:=by obtain ⟨ps,h1,rfl⟩:=omm hx;exact ⟨rfl,rfl,ps,(ze5 (H.fit z hz _ hp)).2.subset h1,rfl⟩
theorem zef {z:Zt} (hz:z∈Z) {x:Tr} (hx:x∈yeu Z z):x.nm=z.1.nm/\∃ ps∈z.2,x.k=yan z.1 ps:=by obtain ⟨p,hp,hx⟩:=ue4.mp hx;obtain ⟨h1,_,h2⟩:=zf7 H hz (zbn hp) hx;exact ⟨h1,h2⟩
theorem zxn:TrOk (due Z):=by
 refine ⟨zz8 (zt8 H) (by omega),?_,fun x hx y hy e=>?_⟩
 .refine List.pairwise_flatMap.mpr ⟨fun z hz=>List.pairwise_flatMap.mpr ⟨fun p hp=>?_,?_⟩,?_⟩
  .refine List.pairwise_map.mpr ?_;have h1:(yee Z z p.1).Pairwise fun a b=>ya3 (yan z.1 a) (yan z.1 b)=true:=(List.pairwise_map.mp (H.pw z hz)).sublist (ze5 (H.fit z hz _ (zbn hp))).2;refine List.Pairwise.imp ?_ h1;intro a b hab e;have ek:yan z.1 a=yan z.1 b:=zzz Tr.k e;rw [ek,zbu] at hab;cases hab
  .have h1:(z.1.rs.zipIdx 0).Pairwise fun a b=>a.2≠b.2:=by have:=List.nodup_range' (s:=0) (n:=z.1.rs.length);rw [<- List.zipIdx_map_snd] at this;exact List.pairwise_map.mp this
   refine List.Pairwise.imp_of_mem (fun {a b} ha hb hab x hx y hy e=>hab ?_) h1;rw [<- (zf7 H hz (zbn ha) hx).2.1,<- (zf7 H hz (zbn hb) hy).2.1,e]
  .refine List.Pairwise.imp_of_mem (fun {a b} ha hb hab x hx y hy e=>hab ?_) (List.pairwise_map.mp H.nd);rw [<- (zef H ha hx).1,<- (zef H hb hy).1,e]
 .obtain ⟨z,hz,hx⟩:=ue4.mp hx;obtain ⟨y',hy',hy⟩:=ue4.mp hy;obtain ⟨n1,ps,hp,k1⟩:=zef H hz hx;obtain ⟨n2,qs,hq,k2⟩:=zef H hy' hy;have ez:z=y':=zfa hz hy' H.nd (by rw [<- n1,<- n2,e]);subst ez;rw [k1,k2];obtain ⟨hb,_,hR⟩:=H.ok z hz;exact zcz hb (hR ps hp) (hR qs hq)
end
theorem sum3:∀ {l:List Zt},l.length<=4->(∀ z∈l,z.1.rs.length<=3)->(l.map fun z=>z.1.rs.length).sum<=3*l.length
 | [],_,_=>by simp
 | z::l,h4,h=>by rw [zz4] at h4;have h1:=h z zzt;have h2:=sum3 (l:=l) (by omega) fun y hy=>h y (zzq _ hy);rw [zzi,uc6,zz4];omega
theorem zut {Z:List Zt} (h4:Z.length<=4) (nd:(Z.map (·.1.nm)).Nodup) (hSo:∀ b∈Z.map (·.1),b.ok) (hSf:∀ b∈Z.map (·.1),b.rs.length<=3/\∀ r∈b.rs,r.fits ((Z.map (·.1)).map (·.nm)) b.cs) (hZ:∀ z∈Z,z.2.length<=4/\(∀ ps∈z.2,RowOk z.1 ps)/\(z.2.map (yan z.1)).Pairwise (fun x y=>ya3 x y=true)):Sto Z:=by
 refine ⟨h4,nd,fun z hz=>⟨hSo z.1 (ua0.mpr ⟨z,hz,rfl⟩),(hZ z hz).1,(hZ z hz).2.1⟩,fun z hz r hr=>?_,?_,fun z hz=>(hZ z hz).2.2⟩
 .have:=(hSf z.1 (ua0.mpr ⟨z,hz,rfl⟩)).2 r hr;rw [zAe] at this;exact this
 .have:=sum3 h4 fun z hz=>(hSf z.1 (ua0.mpr ⟨z,hz,rfl⟩)).1;omega
noncomputable def bkM:List S:=[.loop [6] .plain [.call "keys_that_break" [.var 0,.var 1,.var 3,.var 5]] bkI]
noncomputable def bkO:List S:=[.loop [4,5] .enum [.idx (.var 3) (.cst (.int 3))] bkM]
theorem zzb {G:Glo} {St Sr r:T} {z:Zt} {j:Nat} {L:List Row} (hL:L.length<=4) (X:List Tr) (hX:X.length<=100) (s6:Sl) (hc:G.call "keys_that_break" [St,Sr,z.1.t,r]=some (.lst (L.map (kyT z.1)))) :
  ∃ s6',yab G bkM [.val St,.val Sr,.own (X.map trT),.val z.1.t,.val (.int (j:Int)),.val r,s6]=some (.nx [.val St,.val Sr,.own ((X++L.map (trO z j)).map trT),.val z.1.t,.val (.int (j:Int)),.val r,s6']):=by
 obtain ⟨U',el,s6',rfl⟩:=zal (enc:=kyT z.1) (f:=fun x U=>(ya1 [6] x U).bind fun U'=>yab G bkI U')
  (fun done U=>∃ s6,U=[.val St,.val Sr,.own ((X++done.map (trO z j)).map trT),.val z.1.t,.val (.int (j:Int)),.val r,s6])
  L [.val St,.val Sr,.own (X.map trT),.val z.1.t,.val (.int (j:Int)),.val r,s6] ⟨s6,by rw [List.map_nil,zzu]⟩ (by
   rintro l1 ps l2 hsp U ⟨s6,rfl⟩;have hl:((X++l1.map (trO z j)).map trT).length<SZ:=by have h1:=zzz List.length hsp;simp at h1;rw [zzo,zzy,zzo];show _<16777216;omega
   refine ⟨[.val St,.val Sr,.own ((X++(l1++[ps]).map (trO z j)).map trT),.val z.1.t,.val (.int (j:Int)),.val r,.val (kyT z.1 ps)],?_,_,rfl⟩;simp only [ya1,xbs,xss,xsz];have ee:(X++(l1++[ps]).map (trO z j)).map trT=(X++l1.map (trO z j)).map trT++[trT (trO z j ps)]:=by rw [zz6 (f:=trO z j),<- zAk,zz6 (l₁:=X++l1.map (trO z j))];rfl
   rw [ee];generalize (X++l1.map (trO z j)).map trT=Y at *;unfold bkI;rw [zat (U':=[.val St,.val Sr,.own (Y++[trT (trO z j ps)]),.val z.1.t,.val (.int (j:Int)),.val r,.val (kyT z.1 ps)]) (by
    rw [evS,show yae (yah (.tup [.idx (.var 3) (.cst (.int 0)),.var 4,.var 6])) [.val St,.val Sr,.own Y,.val z.1.t,.val (.int (j:Int)),.val r,.val (kyT z.1 ps)]=[.val St,.val Sr,.own Y,.val z.1.t,.val (.int (j:Int)),.val r,.val (kyT z.1 ps)] from rfl];have e1:evE G (.tup [.idx (.var 3) (.cst (.int 0)),.var 4,.var 6]) (ygl [.val St,.val Sr,.own Y,.val z.1.t,.val (.int (j:Int)),.val r,.val (kyT z.1 ps)])=some (trT (trO z j ps)):=by simp only [evE,yad,ygl,Sl.get,xmc,xmn,xgs,xgz,xjs,xbs,t0,List.length_cons,List.length_nil,Nat.zero_add,Nat.reduceAdd,Nat.reduceLeDiff,if_true,xms];rfl
    rw [e1,zzh];show (if Y.length<SZ then _ else none)=_;rw [if_pos hl];rfl),yab])
 refine ⟨s6',?_⟩;unfold bkM;rw [zat (za1 (xs:=[.lst (L.map (kyT z.1))]) (qc:=L.map (kyT z.1)) (U0:=[.val St,.val Sr,.own (X.map trT),.val z.1.t,.val (.int (j:Int)),.val r,s6]) rfl (by simp only [evE,yad,ygl,Sl.get,xmc,xmn,xgs,xgz,xjs,xbs,hc]) rfl el),yab]
theorem zkv {P:Pr} (p:Prg P) (h:P.fn "breaks"=some zf9) (n:Nat) {Z:List Zt} (H:Sto Z):run P (n+7) "breaks" [yaf Z,stT Z]=some (.tup (yas ((due Z).map trT))):=by
 rw [zaf h rfl];have ek:∀ z∈Z,∀ r∈z.1.rs,∃ L:List Row,L.Perm (yee Z z r)/\(glo P (run P (n+6))).call "keys_that_break" [yaf Z,stT Z,z.1.t,r.t]=some (.lst (L.map (kyT z.1))):=fun z hz r hr=>zw7 p n H hz ((H.ok z hz).1.rs r hr) (H.fit z hz r hr) (ze5 (H.fit z hz _ hr)).1;show zaa (yab (glo P (run P (n+6))) [.asg 2 (.lst []),.loop [3] .plain [.var 0] bkO,.ret (.blt .toTuple (.blt .sorted (.var 2)))] [.val (yaf Z),.val (stT Z),.no,.no,.no,.no,.no])=_;generalize glo P (run P (n+6))=G at *;rw [zas (t:=.lst []) (U':=[.val (yaf Z),.val (stT Z),.own [],.no,.no,.no,.no]) rfl (by rw [evE];rfl) rfl];obtain ⟨U',el,X,s3,s4,s5,s6,rfl,hX⟩:=zal (enc:=fun z:Zt=>z.1.t) (f:=fun x U=>(ya1 [3] x U).bind fun U'=>yab G bkO U')
  (fun done U=>∃ (X:List Tr) (s3 s4 s5 s6:Sl),U=[.val (yaf Z),.val (stT Z),.own (X.map trT),s3,s4,s5,s6]/\X.Perm (done.flatMap (yeu Z)))
  Z [.val (yaf Z),.val (stT Z),.own [],.no,.no,.no,.no] ⟨[],_,_,_,_,rfl,.refl _⟩ (by
   rintro l1 z l2 hsp U ⟨X,s3,s4,s5,s6,rfl,hX⟩;have hz:z∈Z:=by rw [hsp];simp
   have hXl:X.length<=52:=by rw [hX.length_eq];exact zpo H hsp
   obtain ⟨U',el,Y,s4',s5',s6',rfl,hY⟩:=zal (enc:=fun (p:Rl × Nat)=>T.tup [.int (p.2:Int),p.1.t]) (f:=fun x U=>(ya1 [4,5] x U).bind fun U'=>yab G bkM U')
    (fun done U=>∃ (Y:List Tr) (s4 s5 s6:Sl),U=[.val (yaf Z),.val (stT Z),.own (Y.map trT),.val z.1.t,s4,s5,s6]/\Y.Perm (X++done.flatMap (yen Z z)))
    (z.1.rs.zipIdx 0) [.val (yaf Z),.val (stT Z),.own (X.map trT),.val z.1.t,s4,s5,s6] ⟨X,_,_,_,rfl,by rw [List.flatMap_nil,zzu]⟩ (by
     rintro m1 p m2 hsp2 U ⟨Y,s4,s5,s6,rfl,hY⟩;have hp:p∈z.1.rs.zipIdx 0:=by rw [hsp2];simp
     have hr:=zbn hp;obtain ⟨L,hL,eL⟩:=ek z hz p.1 hr;have hLl:L.length<=4:=by rw [hL.length_eq];exact zz8 (ze5 (H.fit z hz _ hr)).2.length_le (H.ok z hz).2.1
     have hYl:Y.length<=100:=by rw [hY.length_eq,zzy];have h1:=zc2 (f:=yen Z z) (n:=4) (l:=m1) fun q hq=>zjw H hz (zbn (by rw [hsp2];simp [hq]));have h2:=zzz List.length hsp2;have h3:=(H.ok z hz).1.rl;simp at h2;omega
     obtain ⟨s6',e⟩:=zzb (j:=p.2) hLl Y hYl s6 eL;refine ⟨[.val (yaf Z),.val (stT Z),.own ((Y++L.map (trO z p.2)).map trT),.val z.1.t,.val (.int (p.2:Int)),.val p.1.t,s6'],?_,Y++L.map (trO z p.2),_,_,_,rfl,?_⟩
     .simp only [ya1,setAll,xbs,xss,xsz];exact e
     .rw [List.flatMap_append,ua6,List.flatMap_nil,zzu,<- zAk];exact hY.append (hL.map _))
   refine ⟨[.val (yaf Z),.val (stT Z),.own (Y.map trT),.val z.1.t,s4',s5',s6'],?_,Y,_,_,_,_,rfl,?_⟩
   .simp only [ya1,xbs,xss,xsz];unfold bkO;rw [zat (za1 (xs:=[.tup (z.1.rs.map Rl.t)]) (qc:=(z.1.rs.zipIdx 0).map fun (p:Rl × Nat)=>T.tup [.int (p.2:Int),p.1.t]) (U0:=[.val (yaf Z),.val (stT Z),.own (X.map trT),.val z.1.t,s4,s5,s6]) rfl (by simp only [evE,yad,ygl,Sl.get,xmc,xmn,xgs,xgz,xjs,xbs,t3]) (by simp only [items,zb4]) el),yab]
   .rw [List.flatMap_append,ua6,List.flatMap_nil,zzu];exact hY.trans (hX.append_right _))
 rw [zat (za1 (xs:=[yaf Z]) (qc:=Z.map fun z=>z.1.t) (U0:=[.val (yaf Z),.val (stT Z),.own [],.no,.no,.no,.no]) rfl (by simp only [evE,yad,ygl,Sl.get,xmc,xmn,xgz,xjs,xbs]) rfl el)];obtain ⟨hok,he⟩:=(zxn H).perm (show (due Z).Perm X from hX.symm);rw [zeo (t:=.tup (yas ((due Z).map trT))) (by
  rw [evS,show yae (yah (.blt .toTuple (.blt .sorted (.var 2)))) [.val (yaf Z),.val (stT Z),.own (X.map trT),s3,s4,s5,s6]=[.val (yaf Z),.val (stT Z),.val (.lst (X.map trT)),s3,s4,s5,s6] from rfl];rw [zbk,zbk];have e2:evE G (.var 2) (ygl [.val (yaf Z),.val (stT Z),.val (.lst (X.map trT)),s3,s4,s5,s6])=some (.lst (X.map trT)):=by simp only [evE,ygl,Sl.get,xmc,xmn,xgs,xgz,xjs]
  rw [e2,zzh,hok.sorted,he];rfl)]
 rfl
theorem zux (x:Tr):Slf 2 (trT x):=zdt fun w hw=>by
 rcases omc hw with rfl | hw
 .exact zi5 (zdb rfl) (by omega)
 .rcases omc hw with rfl | hw
  .exact zi5 (zdb rfl) (by omega)
  .rw [omg hw];exact zlg _
end
section
noncomputable def roB:List S:=[.ite (.tru (.call "is_same_key" [.call "key_of" [.var 4,.var 5],.var 3])) [.ret (.var 5)] []]
noncomputable def zdk:Fd:=⟨4,6,[.asg 4 (.call "table_of" [.var 0,.var 2]),
  .loop [5] .plain [.call "rows_of" [.var 0,.var 1,.var 2]] roB,
  .fail]⟩
noncomputable def zba:Fd:=⟨2,2,[.ret (.land (.cmp .eq (.var 0) (.var 1)) (.lnot (.blt .any (.comp (.isi (.var 0) .tbool) 1 .plain [.var 1] none))))]⟩
noncomputable def zdl:Fd:=⟨4,7,[.asg 4 (.call "table_of" [.var 0,.var 2]),
  .asg 5 (.idx (.idx (.var 4) (.cst (.int 3))) (.var 3)),
  .asg 6 (.call "rows_by_key" [.var 0,.var 1,.idx (.var 5) (.cst (.int 2))]),
  .ret (.blt .toTuple (.comp (.tup [.var 0,.dg1 (.var 7) (.call "key_referred_to" [.var 5,.var 6,.var 0])]) 1 .plain [.call "rows_of" [.var 0,.var 1,.var 2]] none))]⟩
noncomputable def rfI:List S:=[.ite (.cmp .eq (.idx (.var 8) (.cst (.int 0))) (.cst (.str "refers"))) [.asg 9 (.call "references_by" [.var 5,.var 8,.var 6]),
  .ext 4 (.comp (.tup [.idx (.var 8) (.cst (.int 0)),.var 10,.idx (.var 0) (.cst (.int 1))]) 3 .plain [.var 9] (some (.cmp .eq (.var 2) (.tup [.var 5,.var 6]))))] []]
noncomputable def zci:Fd:=⟨4,10,[.exp (.call "row_of" [.var 0,.var 1,.var 2,.var 3]),
  .asg 4 (.lst []),
  .loop [5,6] .zip [.var 0,.var 1] [.loop [7,8] .enum [.idx (.var 5) (.cst (.int 3))] rfI],
  .ret (.blt .toTuple (.blt .sorted (.var 4)))]⟩
noncomputable def rsB:List S:=[.asg 11 (.tup [.idx (.var 5) (.cst (.int 0)),.var 6,.call "_law_key" [.var 5,.var 9]]),
  .ite (.cmp .notN (.var 10) (.cst .non)) [.app 3 (.tup [.var 11,.tup [.idx (.var 7) (.cst (.int 2)),.call "_law_key" [.var 8,.var 10]]])] [],
  .asg 12 (.call "_law_worths" [.var 5,.var 9,.idx (.var 7) (.cst (.int 1))]),
  .ite (.cmp .ne (.cmp .isin (.var 11) (.var 4)) (.land (.cmp .isN (.var 10) (.cst .non)) (.cmp .notN (.var 12) (.cst .non)))) [.ret (.cst (.bl false))] []]
noncomputable def rlB:List S:=[.ite (.cmp .eq (.idx (.var 7) (.cst (.int 0))) (.cst (.str "refers"))) [.asg 8 (.call "_law_table" [.var 1,.idx (.var 7) (.cst (.int 2))]),
  .loop [9,10] .plain [.call "matched" [.var 1,.var 2,.idx (.var 5) (.cst (.int 0)),.var 6]] rsB] []]
noncomputable def tbB:List S:=[.loop [6,7] .enum [.idx (.var 5) (.cst (.int 3))] rlB]
noncomputable def zez:Fd:=⟨1,16,[.asg 1 (.call "_law_schema" [.call "_law_mixed" [.var 0,.cst (.int 0)]]),
  .asg 2 (.call "_law_loose" [.var 1,.call "_law_mixed" [.var 0,.cst (.int 1)]]),
  .asg 3 (.lst []),
  .asg 4 (.call "breaks" [.var 1,.var 2]),
  .loop [5] .plain [.var 1] tbB,
  .asg 13 (.lst []),
  .loop [5,14] .zip [.var 1,.var 2] [.loop [9] .plain [.var 14] [.asg 15 (.call "_law_key" [.var 5,.var 9]),
  .asg 13 (.bin .add (.var 13) (.comp (.tup [.var 0,.tup [.idx (.var 6) (.cst (.int 0)),.var 16]]) 1 .plain [.call "referring" [.var 1,.var 2,.idx (.var 5) (.cst (.int 0)),.var 15]] none))]],
  .ret (.cmp .eq (.blt .sorted (.var 3)) (.blt .sorted (.var 13)))]⟩
theorem zag {α β:Type} {f:α->Option β} {x:Option α} {a:α} (h:x=some a):x.bind f=f a:=by rw [h];rfl
theorem zbb (G:Glo) (f:Str) (es:List E) (r:Env):evE G (.call f es) r=(yad G es r).bind fun xs=>G.call f xs:=by rw [evE]
noncomputable def fnd (g:Zt) (k:List Kt):Option Row:=g.2.find? fun qs=>decide (yan g.1 qs=k)
noncomputable def oT:Option Row->T
 | some qs=>yac qs
 | none=>.non
noncomputable def mtR (g:Zt) (qa:List Str) (ps:Row):Option Row:=if ya9 (wK qa ps)=true then none else fnd g (wK qa ps)
theorem zif {Z:List Zt} (H:Sto Z) {z:Zt} (hz:z∈Z):(z.2.map (yan z.1)).Nodup:=List.Pairwise.imp (fun {a b} h e=>by rw [e,zbu] at h;cases h) (H.pw z hz)
theorem znq:∀ (l acc:List (List Kt × T)),((acc++l).map (·.1)).Nodup->l.foldl (fun acc p=>ybq acc p.1 p.2) acc=acc++l
 | [],acc,_=>by rw [zzu];rfl
 | p::l,acc,nd=>by
  have hn:¬ (acc.any fun kv=>decide (kv.1=p.1))=true:=fun z=>by obtain ⟨kv,hkv,e⟩:=List.any_eq_true.mp z;rw [zz6,zzi,List.nodup_append] at nd;exact nd.2.2 kv.1 (ua0.mpr ⟨kv,hkv,rfl⟩) p.1 (.head _) (zAf e)
  rw [List.foldl_cons,ybq,if_neg hn,znq l (acc++[(p.1,p.2)]) (by rw [zAk];exact nd),zAk];rfl
theorem zg0 (k:List Kt) (b:Tb):∀ R:List Row,(ybt (R.map fun ps=>yan b ps) (R.map yac) k).getD .non=oT (R.find? fun qs=>decide (yan b qs=k))
 | []=>rfl
 | ps::R=>by
  rw [zzi,zzi,ybt,List.find?_cons];by_cases e:yan b ps=k
  .rw [if_pos e,zz0 e];rfl
  .rw [if_neg e,zz7 e];exact zg0 k b R
theorem zua {Z:List Zt} (H:Sto Z) {g:Zt} (hg:g∈Z) (qa:List Str) (ps:Row):yfk (ycp g.1 g.2) (woT qa ps)=some (oT (mtR g qa ps)):=by
 have hd:ybr (g.2.map fun ps=>(yan g.1 ps,yac ps))=g.2.map fun ps=>(yan g.1 ps,yac ps):=znq _ [] (by rw [List.nil_append,zAe];exact zif H hg);unfold ycp woT mtR;rw [hd,zAe,zAe];split
 .rfl
 .show (ybn ((wK qa ps).map kT)).map _=_;rw [zcg];show some _=some _;rw [fnd,<- zg0];rfl
theorem ziq {G:Glo} {elt:E} {src:List E} {r:Env} {n:Nat} {α:Type} {enc:α->T} {R:List α} (f:α->T) {xs:List T} (h1:yad G src r=some xs) (h2:yak .plain xs=some (R.map enc))
  (hb:∀ a∈R,∃ r',bnd n (enc a) r=some r'/\evE G elt r'=some (f a)):evE G (.comp elt n .plain src none) r=some (.lst (R.map f)):=by
 rw [zed,h1,zzh,h2,zzh,zav (enc:=enc) (fun a=>some (f a)) fun a ha=>by obtain ⟨r',e1,e2⟩:=hb a ha;rw [e1,zzh,evO,zzh,e2];rfl];rw [zd8];rfl
theorem zwq {P:Pr} (p:Prg P) (h:P.fn "matched"=some zdl) (n:Nat) {Z:List Zt} (H:Sto Z) {z g:Zt} (hz:z∈Z) (hg:g∈Z) {qa:List Str} {w:Str} (hc:∀ x∈qa,∃ c∈z.1.cs,c.n=x) (h4:qa.length<=4) {j:Nat} (hj:z.1.rs[j]?=some (.ref qa g.1.nm w)) :
  run P (n+4) "matched" [yaf Z,stT Z,.str z.1.nm,.int (j:Int)]=some (.tup (z.2.map fun ps=>.tup [yac ps,oT (mtR g qa ps)])):=by
 rw [zaf h rfl];obtain ⟨hb,hl,hR⟩:=H.ok z hz;obtain ⟨hgb,hgl,hgR⟩:=H.ok g hg;have i1:yai (Rl.ref qa g.1.nm w).t (.int 1)=some (yaz qa):=by rw [Rl.t,yai,yar]
 have i2:yai (Rl.ref qa g.1.nm w).t (.int 2)=some (.str g.1.nm):=by rw [Rl.t,yai,ybf]
 have i3:yai (.tup (z.1.rs.map Rl.t)) (.int (j:Int))=some (Rl.ref qa g.1.nm w).t:=zbj (by rw [zAb,hj];rfl);have e1:(glo P (run P (n+3))).call "rows_by_key" [yaf Z,stT Z,.str g.1.nm]=some (ycp g.1 g.2):=zrr p.hwo p.hk p.htb p.hro p.hbk n hg H.nd hgb hgl hgR;have e2:(glo P (run P (n+3))).call "rows_of" [yaf Z,stT Z,.str z.1.nm]=some (rwT z):=zdc p.hro (n+2) hz H.nd;have e3:(glo P (run P (n+3))).call "table_of" [yaf Z,.str z.1.nm]=some z.1.t:=zek p.htb (n+2) hz H.nd;have e4:∀ ps∈z.2,(glo P (run P (n+3))).call "key_referred_to" [z.1.t,(Rl.ref qa g.1.nm w).t,yac ps]=some (woT qa ps):=fun ps hp=>zra p.hwo p.hkr (n+1) hb (hR ps hp) hc h4 i1;have h0:yab (glo P (run P (n+3))) zdl.body [.val (yaf Z),.val (stT Z),.val (.str z.1.nm),.val (.int (j:Int)),.no,.no,.no]=some (.rt (.tup (z.2.map fun ps=>.tup [yac ps,oT (mtR g qa ps)]))):=by
  generalize glo P (run P (n+3))=G at *;refine (zas (t:=z.1.t) (U':=[.val (yaf Z),.val (stT Z),.val (.str z.1.nm),.val (.int (j:Int)),.val z.1.t,.no,.no]) rfl ?_ rfl).trans ?_
  .rw [zbb];exact (zag (a:=[yaf Z,T.str z.1.nm]) rfl).trans e3
  refine (zas (t:=(Rl.ref qa g.1.nm w).t) (U':=[.val (yaf Z),.val (stT Z),.val (.str z.1.nm),.val (.int (j:Int)),.val z.1.t,.val (Rl.ref qa g.1.nm w).t,.no]) rfl ?_ rfl).trans ?_
  .rw [evE];exact (zag (a:=T.tup (z.1.rs.map Rl.t)) rfl).trans i3
  refine (zas (t:=ycp g.1 g.2) (U':=[.val (yaf Z),.val (stT Z),.val (.str z.1.nm),.val (.int (j:Int)),.val z.1.t,.val (Rl.ref qa g.1.nm w).t,.val (ycp g.1 g.2)]) rfl ?_ rfl).trans ?_
  .rw [zbb];exact (zag (a:=[yaf Z,stT Z,T.str g.1.nm]) rfl).trans e1
  refine zaz rfl ?_;rw [zbk];refine (zag (a:=T.lst (z.2.map fun ps=>.tup [yac ps,oT (mtR g qa ps)])) ?_).trans rfl;refine ziq (enc:=yac) (fun ps=>.tup [yac ps,oT (mtR g qa ps)]) (xs:=[rwT z]) ?_ (zf4 z.2 hl) fun ps hp=>⟨[some (yac ps),some (yaf Z),some (stT Z),some (.str z.1.nm),some (.int (j:Int)),some z.1.t,some (Rl.ref qa g.1.nm w).t,some (ycp g.1 g.2)],rfl,?_⟩
  .rw [yad,zbb];exact (zag (a:=rwT z) ((zag (a:=[yaf Z,stT Z,T.str z.1.nm]) rfl).trans e2)).trans rfl
  .have hd:evE G (.dg1 (.var 7) (.call "key_referred_to" [.var 5,.var 6,.var 0])) [some (yac ps),some (yaf Z),some (stT Z),some (.str z.1.nm),some (.int (j:Int)),some z.1.t,some (Rl.ref qa g.1.nm w).t,some (ycp g.1 g.2)]=some (oT (mtR g qa ps)):=by rw [evE];refine (zag (a:=ycp g.1 g.2) rfl).trans ?_;rw [zbb];exact (zag (a:=woT qa ps) ((zag (a:=[z.1.t,(Rl.ref qa g.1.nm w).t,yac ps]) rfl).trans (e4 ps hp))).trans (zua H hg qa ps)
   rw [evE,if_pos (by decide)];rw [yad,yad,yad,hd];rfl
 exact (zzz zaa h0).trans rfl
theorem zu0 {P:Pr} (h:P.fn "is_same_key"=some zba) (n:Nat) {a b:List Kt} (h4:b.length<=4):run P (n+1) "is_same_key" [tkT a,tkT b]=some (.bl (decide (a=b))):=by
 rw [zaf h rfl];have hc:evE (glo P (run P n)) (.comp (.isi (.var 0) .tbool) 1 .plain [.var 1] none) [some (tkT a),some (tkT b)]=some (.lst (b.map fun _=>.bl false)) :=
  ziq (enc:=kT) (fun _=>.bl false) (xs:=[tkT b]) rfl (by show (if (b.map kT).length<=SZ then some (b.map kT) else none)=_;rw [if_pos (by rw [zzo];unfold SZ;omega)]) fun k _=>⟨_,rfl,by rcases k with _ | _ | _<;>rfl⟩
 have hb:∀ l:List Kt,zdz (l.map fun _=>T.bl false)=some (l.map fun _=>false):=fun l=>by
  induction l with
  | nil=>rfl
  | cons x r ih=>rw [zzi,zdz,ih];rfl
 have hany:∀ l:List Kt,(l.map fun _=>false).any id=false:=fun l=>by
  induction l with
  | nil=>rfl
  | cons x r ih=>rw [zzi,ub7,ih];rfl
 have h0:yab (glo P (run P n)) zba.body [.val (tkT a),.val (tkT b)]=some (.rt (.bl (decide (a=b)))):=by
  refine zaz rfl ?_;rw [evE];have he:evE (glo P (run P n)) (.cmp .eq (.var 0) (.var 1)) (ygl [.val (tkT a),.val (tkT b)])=some (.bl (decide (a=b))):=by rw [evE];show eqC (tkT a) (tkT b)=_;unfold eqC;rw [zno,if_pos (by decide),zot]
  refine (zag he).trans ?_;cases decide (a=b) with
  | false=>rfl
  | true =>show evE _ (.lnot (.blt .any (.comp (.isi (.var 0) .tbool) 1 .plain [.var 1] none))) _=_;rw [evE,zbk];refine (zag (a:=T.bl false) ((zag hc).trans ?_)).trans rfl;show (zdz (b.map fun _=>T.bl false)).map _=_;rw [hb];show some (T.bl ((b.map fun _=>false).any id))=_;rw [hany]
 exact (zzz zaa h0).trans rfl
theorem zu7 {P:Pr} (p:Prg P) (hs:P.fn "is_same_key"=some zba) (h:P.fn "row_of"=some zdk) (n:Nat) {Z:List Zt} (H:Sto Z) {z:Zt} (hz:z∈Z) {ps:Row} (hp:ps∈z.2) :
  ∃ t,run P (n+3) "row_of" [yaf Z,stT Z,.str z.1.nm,kyT z.1 ps]=some t:=by
 rw [zaf h rfl];obtain ⟨hb,hl,hR⟩:=H.ok z hz;have e2:(glo P (run P (n+2))).call "rows_of" [yaf Z,stT Z,.str z.1.nm]=some (rwT z):=zdc p.hro (n+1) hz H.nd;have e3:(glo P (run P (n+2))).call "table_of" [yaf Z,.str z.1.nm]=some z.1.t:=zek p.htb (n+1) hz H.nd;have e4:∀ qs∈z.2,(glo P (run P (n+2))).call "key_of" [z.1.t,yac qs]=some (kyT z.1 qs):=fun qs hq=>zg3 p.hwo p.hk n hb (hR qs hq);have e5:∀ qs∈z.2,(glo P (run P (n+2))).call "is_same_key" [kyT z.1 qs,kyT z.1 ps]=some (.bl (decide (yan z.1 qs=yan z.1 ps))):=fun qs _=>zu0 hs (n+1) (by unfold yan;rw [zzo];have:=hb.k1;omega);have lp:∀ R:List Row,(∀ qs∈R,qs∈z.2)->ps∈R->∀ s5,∃ t,yav (fun x U=>(ya1 [5] x U).bind fun U'=>yab (glo P (run P (n+2))) roB U') (R.map yac) [.val (yaf Z),.val (stT Z),.val (.str z.1.nm),.val (kyT z.1 ps),.val z.1.t,s5]=some (.rt t):=fun R=>by
  generalize glo P (run P (n+2))=G at *
  induction R with
  | nil=>intro _ hm;cases hm
  | cons qs R ih =>
   intro hs hm s5;have hq:=hs qs (.head _);have hc:evE G (.tru (.call "is_same_key" [.call "key_of" [.var 4,.var 5],.var 3])) (ygl [.val (yaf Z),.val (stT Z),.val (.str z.1.nm),.val (kyT z.1 ps),.val z.1.t,.val (yac qs)])=some (.bl (decide (yan z.1 qs=yan z.1 ps))):=by rw [evE,zbb];refine (zag (a:=T.bl (decide (yan z.1 qs=yan z.1 ps))) ((zag (a:=[kyT z.1 qs,kyT z.1 ps]) ?_).trans (e5 qs hq))).trans rfl;rw [yad,zbb];exact (zag (a:=kyT z.1 qs) ((zag (a:=[z.1.t,yac qs]) rfl).trans (e4 qs hq))).trans rfl
   rw [zzi,yav];by_cases e:yan z.1 qs=yan z.1 ps
   .rw [zz0 e] at hc;exact ⟨yac qs,zag (a:=Out.rt (yac qs)) (zcq rfl hc (zaz rfl rfl))⟩
   .rw [zz7 e] at hc;have hm':ps∈R:=(omc hm).resolve_left fun w=>e (by rw [w]);obtain ⟨t,ht⟩:=ih (fun q hq=>hs q (.tail _ hq)) hm' (.val (yac qs));exact ⟨t,(zag (a:=Out.nx [.val (yaf Z),.val (stT Z),.val (.str z.1.nm),.val (kyT z.1 ps),.val z.1.t,.val (yac qs)]) (zbc rfl hc)).trans ht⟩
 obtain ⟨t,ht⟩:=lp z.2 (fun q hq=>hq) hp .no;refine ⟨t,?_⟩;have h0:yab (glo P (run P (n+2))) zdk.body [.val (yaf Z),.val (stT Z),.val (.str z.1.nm),.val (kyT z.1 ps),.no,.no]=some (.rt t):=by
  refine (zas (t:=z.1.t) (U':=[.val (yaf Z),.val (stT Z),.val (.str z.1.nm),.val (kyT z.1 ps),.val z.1.t,.no]) rfl ?_ rfl).trans ?_
  .rw [zbb];exact (zag (a:=[yaf Z,T.str z.1.nm]) rfl).trans e3
  refine zeo (za1 (U0:=[.val (yaf Z),.val (stT Z),.val (.str z.1.nm),.val (kyT z.1 ps),.val z.1.t,.no]) (xs:=[rwT z]) (qc:=z.2.map yac) rfl ?_ rfl ht);rw [yad,zbb];exact (zag (a:=rwT z) ((zag (a:=[yaf Z,stT Z,T.str z.1.nm]) rfl).trans e2)).trans rfl
 exact (zzz zaa h0).trans rfl
end
section
abbrev Sel:=Zt->Rl × Nat->List Row
noncomputable def ycx (sel:Sel) (z:Zt) (p:Rl × Nat):List Tr:=(sel z p).map (trO z p.2)
noncomputable def yc2 (sel:Sel) (z:Zt):List Tr:=(z.1.rs.zipIdx 0).flatMap (ycx sel z)
noncomputable def ycy (Z:List Zt) (sel:Sel):List Tr:=Z.flatMap (yc2 sel)
section
variable {Z:List Zt} (H:Sto Z) {sel:Sel} (hs:∀ z∈Z,∀ p,(sel z p).Sublist z.2)
include H hs
theorem zgf {z:Zt} (hz:z∈Z) (p:Rl × Nat):(ycx sel z p).length<=4:=by rw [ycx,zzo];exact zz8 (hs z hz p).length_le (H.ok z hz).2.1
theorem zqy {z:Zt} (hz:z∈Z):(yc2 sel z).length<=4*z.1.rs.length:=by have h1:=zc2 (f:=ycx sel z) (n:=4) (l:=z.1.rs.zipIdx 0) fun p _=>zgf H hs hz p;rw [List.length_zipIdx] at h1;exact h1
theorem zgg:∀ {l:List Zt},(∀ z∈l,z∈Z)->(l.flatMap (yc2 sel)).length<=4*(l.map fun z=>z.1.rs.length).sum
 | [],_=>by simp
 | z::l,h=>by have h1:=zqy H hs (h z zzt);have h2:=zgg (l:=l) fun y hy=>h y (zzq _ hy);rw [ua6,zzy,zzi,uc6];omega
theorem zj7 {l1 l2:List Zt} {z:Zt} (e:Z=l1++z::l2):(l1.flatMap (yc2 sel)).length<=52:=by
 have h1:=zgg H hs (l:=l1) fun y hy=>by rw [e];simp [hy]
 have h2:=H.lr;rw [e,zz6,List.sum_append,zzi,uc6] at h2;omega
theorem zge {z:Zt} (hz:z∈Z) {p:Rl × Nat} {x:Tr} (hx:x∈ycx sel z p):x.nm=z.1.nm/\x.j=p.2/\∃ ps∈z.2,x.k=yan z.1 ps:=by obtain ⟨ps,h1,rfl⟩:=omm hx;exact ⟨rfl,rfl,ps,(hs z hz p).subset h1,rfl⟩
theorem zej {z:Zt} (hz:z∈Z) {x:Tr} (hx:x∈yc2 sel z):x.nm=z.1.nm/\∃ ps∈z.2,x.k=yan z.1 ps:=by obtain ⟨p,hp,hx⟩:=ue4.mp hx;obtain ⟨h1,_,h2⟩:=zge H hs hz hx;exact ⟨h1,h2⟩
theorem zhq:TrOk (ycy Z sel):=by
 refine ⟨?_,?_,fun x hx y hy e=>?_⟩
 .have h1:=zgg H hs (l:=Z) fun z hz=>hz;have h2:=H.lr;unfold ycy;omega
 .refine List.pairwise_flatMap.mpr ⟨fun z hz=>List.pairwise_flatMap.mpr ⟨fun p hp=>?_,?_⟩,?_⟩
  .refine List.pairwise_map.mpr ?_;have h1:(sel z p).Pairwise fun a b=>ya3 (yan z.1 a) (yan z.1 b)=true:=(List.pairwise_map.mp (H.pw z hz)).sublist (hs z hz p);refine List.Pairwise.imp ?_ h1;intro a b hab e;have ek:yan z.1 a=yan z.1 b:=zzz Tr.k e;rw [ek,zbu] at hab;cases hab
  .have h1:(z.1.rs.zipIdx 0).Pairwise fun a b=>a.2≠b.2:=by have:=List.nodup_range' (s:=0) (n:=z.1.rs.length);rw [<- List.zipIdx_map_snd] at this;exact List.pairwise_map.mp this
   refine List.Pairwise.imp_of_mem (fun {a b} ha hb hab x hx y hy e=>hab ?_) h1;rw [<- (zge H hs hz hx).2.1,<- (zge H hs hz hy).2.1,e]
  .refine List.Pairwise.imp_of_mem (fun {a b} ha hb hab x hx y hy e=>hab ?_) (List.pairwise_map.mp H.nd);rw [<- (zej H hs ha hx).1,<- (zej H hs hb hy).1,e]
 .obtain ⟨z,hz,hx⟩:=ue4.mp hx;obtain ⟨y',hy',hy⟩:=ue4.mp hy;obtain ⟨n1,ps,hp,k1⟩:=zej H hs hz hx;obtain ⟨n2,qs,hq,k2⟩:=zej H hs hy' hy;have ez:z=y':=zfa hz hy' H.nd (by rw [<- n1,<- n2,e]);subst ez;rw [k1,k2];obtain ⟨hb,_,hR⟩:=H.ok z hz;exact zcz hb (hR ps hp) (hR qs hq)
end
noncomputable def rsl (z:Zt) (ps:Row):Sel:=fun y p=>match p.1 with
 | .ref qa g _=>(ful qa y.2).filter fun qs=>g==z.1.nm&&decide (wK qa qs=yan z.1 ps)
 | _=>[]
theorem zft (z:Zt) (ps:Row) (y:Zt) (p:Rl × Nat):(rsl z ps y p).Sublist y.2:=by
 obtain ⟨r,j⟩:=p;cases r with
 | ref qa g w=>exact List.filter_sublist.trans List.filter_sublist
 | _=>exact List.nil_sublist _
noncomputable def yga:List S:=[.loop [7,8] .enum [.idx (.var 5) (.cst (.int 3))] rfI]
theorem zd7:zci.body=[.exp (.call "row_of" [.var 0,.var 1,.var 2,.var 3]),.asg 4 (.lst []),.loop [5,6] .zip [.var 0,.var 1] yga,.ret (.blt .toTuple (.blt .sorted (.var 4)))]:=rfl
theorem zxl (g nm:Str) (a b:List Kt):eqC (.tup [.str g,tkT a]) (.tup [.str nm,tkT b])=some (.bl (g==nm&&decide (a=b))):=by
 have h1:dpP (.tup [.str g,tkT a]) (.tup [.str nm,tkT b])<=30:=by show max (dpP (.str g) (.str nm)) (max (dpP (tkT a) (tkT b)) 0)+1<=30;rw [zno,zjx];decide
 have h2:eqT (.tup [.str g,tkT a]) (.tup [.str nm,tkT b])=(g==nm&&(eqT (tkT a) (tkT b)&&true)):=rfl;unfold eqC;rw [if_pos h1,h2,zot,Bool.and_true]
theorem zyk {G:Glo} {St Sr:T} {z y:Zt} {ps:Row} {p:Rl × Nat} {X:List T} (hX:X.length<=100) (hl:y.2.length<=4) (s9:Sl) (hc:∀ qa g w,p.1=.ref qa g w->G.call "references_by" [y.1.t,p.1.t,rwT y]=some (.lst ((ful qa y.2).map (ya7 y.1 p.1.t g qa)))) :
  ∃ s9',yab G rfI [.val St,.val Sr,.val (.str z.1.nm),.val (kyT z.1 ps),.own X,.val y.1.t,.val (rwT y),.val (.int (p.2:Int)),.val p.1.t,s9]=some (.nx [.val St,.val Sr,.val (.str z.1.nm),.val (kyT z.1 ps),.own (X++(ycx (rsl z ps) y p).map trT),.val y.1.t,.val (rwT y),.val (.int (p.2:Int)),.val p.1.t,s9']):=by
 obtain ⟨r,j⟩:=p;cases r with
 | unl ks=>exact ⟨s9,(zbc (a:=[.asg 9 (.call "references_by" [.var 5,.var 8,.var 6]),.ext 4 (.comp (.tup [.idx (.var 8) (.cst (.int 0)),.var 10,.idx (.var 0) (.cst (.int 1))]) 3 .plain [.var 9] (some (.cmp .eq (.var 2) (.tup [.var 5,.var 6]))))]) (ss:=[]) rfl rfl).trans (by rw [show ycx (rsl z ps) y (.unl ks,j)=[] from rfl,List.map_nil,zzu];rfl)⟩
 | chk t=>exact ⟨s9,(zbc (a:=[.asg 9 (.call "references_by" [.var 5,.var 8,.var 6]),.ext 4 (.comp (.tup [.idx (.var 8) (.cst (.int 0)),.var 10,.idx (.var 0) (.cst (.int 1))]) 3 .plain [.var 9] (some (.cmp .eq (.var 2) (.tup [.var 5,.var 6]))))]) (ss:=[]) rfl rfl).trans (by rw [show ycx (rsl z ps) y (.chk t,j)=[] from rfl,List.map_nil,zzu];rfl)⟩
 | ref qa g w =>
  have hc:=hc qa g w rfl;have hfl:(ful qa y.2).length<=4:=zz8 (ud9 _ _) hl;refine ⟨.val (.lst ((ful qa y.2).map (ya7 y.1 (Rl.ref qa g w).t g qa))),(zii rfl rfl (?_:yab G _ _=some (.nx _))).trans rfl⟩;refine (zas (t:=.lst ((ful qa y.2).map (ya7 y.1 (Rl.ref qa g w).t g qa))) (U':=[.val St,.val Sr,.val (.str z.1.nm),.val (kyT z.1 ps),.own X,.val y.1.t,.val (rwT y),.val (.int (j:Int)),.val (Rl.ref qa g w).t,.val (.lst ((ful qa y.2).map (ya7 y.1 (Rl.ref qa g w).t g qa)))]) rfl ?_ rfl).trans ?_
  .rw [zbb];exact (zag (a:=[y.1.t,(Rl.ref qa g w).t,rwT y]) rfl).trans hc
  have hcm:evE G (.comp (.tup [.idx (.var 8) (.cst (.int 0)),.var 10,.idx (.var 0) (.cst (.int 1))]) 3 .plain [.var 9] (some (.cmp .eq (.var 2) (.tup [.var 5,.var 6])))) [some St,some Sr,some (.str z.1.nm),some (kyT z.1 ps),none,some y.1.t,some (rwT y),some (.int (j:Int)),some (Rl.ref qa g w).t,some (.lst ((ful qa y.2).map (ya7 y.1 (Rl.ref qa g w).t g qa)))] =
    some (.lst (((ful qa y.2).filter fun qs=>g==z.1.nm&&decide (wK qa qs=yan z.1 ps)).map fun qs=>trT (trO y j qs))):=by
   refine zgb (enc:=ya7 y.1 (Rl.ref qa g w).t g qa) (fun qs=>g==z.1.nm&&decide (wK qa qs=yan z.1 ps)) (fun qs=>trT (trO y j qs)) (xs:=[.lst ((ful qa y.2).map (ya7 y.1 (Rl.ref qa g w).t g qa))]) rfl (by show (if ((ful qa y.2).map (ya7 y.1 (Rl.ref qa g w).t g qa)).length<=SZ then some ((ful qa y.2).map (ya7 y.1 (Rl.ref qa g w).t g qa)) else none)=_;rw [if_pos (by rw [zzo];unfold SZ;omega)]) fun qs _=>⟨_,rfl,?_,fun _=>rfl⟩;rw [evE];exact (zag (a:=T.tup [.str g,tkT (wK qa qs)]) rfl).trans ((zag (a:=T.tup [.str z.1.nm,tkT (yan z.1 ps)]) rfl).trans (zxl g z.1.nm (wK qa qs) (yan z.1 ps)))
  refine (zat (ss:=[]) (U':=[.val St,.val Sr,.val (.str z.1.nm),.val (kyT z.1 ps),.own (X++(ycx (rsl z ps) y (.ref qa g w,j)).map trT),.val y.1.t,.val (rwT y),.val (.int (j:Int)),.val (Rl.ref qa g w).t,.val (.lst ((ful qa y.2).map (ya7 y.1 (Rl.ref qa g w).t g qa)))]) ?_).trans rfl;rw [evS];refine (zag hcm).trans ?_;have hlen:(((ful qa y.2).filter fun qs=>g==z.1.nm&&decide (wK qa qs=yan z.1 ps)).map fun qs=>trT (trO y j qs)).length<=4:=by rw [zzo];exact zz8 (ud9 _ _) hfl
  show (if X.length+(((ful qa y.2).filter fun qs=>g==z.1.nm&&decide (wK qa qs=yan z.1 ps)).map fun qs=>trT (trO y j qs)).length<=SZ then some (Out.nx [.val St,.val Sr,.val (.str z.1.nm),.val (kyT z.1 ps),.own (X++(((ful qa y.2).filter fun qs=>g==z.1.nm&&decide (wK qa qs=yan z.1 ps)).map fun qs=>trT (trO y j qs))),.val y.1.t,.val (rwT y),.val (.int (j:Int)),.val (Rl.ref qa g w).t,.val (.lst ((ful qa y.2).map (ya7 y.1 (Rl.ref qa g w).t g qa)))]) else none)=_;rw [if_pos (by unfold SZ;omega)];show _=some (Out.nx [.val St,.val Sr,.val (.str z.1.nm),.val (kyT z.1 ps),.own (X++((((ful qa y.2).filter fun qs=>g==z.1.nm&&decide (wK qa qs=yan z.1 ps)).map (trO y j)).map trT)),.val y.1.t,.val (rwT y),.val (.int (j:Int)),.val (Rl.ref qa g w).t,.val (.lst ((ful qa y.2).map (ya7 y.1 (Rl.ref qa g w).t g qa)))]);rw [zAe];rfl
theorem zu8 {P:Pr} (p:Prg P) (hsk:P.fn "is_same_key"=some zba) (hro:P.fn "row_of"=some zdk) (h:P.fn "referring"=some zci) (n:Nat) {Z:List Zt} (H:Sto Z) {z:Zt} (hz:z∈Z) {ps:Row} (hp:ps∈z.2) :
  run P (n+4) "referring" [yaf Z,stT Z,.str z.1.nm,kyT z.1 ps]=some (.tup (yas ((ycy Z (rsl z ps)).map trT))):=by
 rw [zaf h rfl,zd7];obtain ⟨t,ht⟩:=zu7 p hsk hro n H hz hp;have hs:∀ y∈Z,∀ q,(rsl z ps y q).Sublist y.2:=fun y _ q=>zft z ps y q;have ht:(glo P (run P (n+3))).call "row_of" [yaf Z,stT Z,.str z.1.nm,kyT z.1 ps]=some t:=ht;have hrb:∀ y∈Z,∀ r∈y.1.rs,∀ qa g w,r=.ref qa g w->(glo P (run P (n+3))).call "references_by" [y.1.t,r.t,rwT y]=some (.lst ((ful qa y.2).map (ya7 y.1 r.t g qa))):=fun y hy r hr qa g w e=>by subst e;obtain ⟨hb,hl,hR⟩:=H.ok y hy;exact zq4 p.hwo p.hk p.hkr p.hrb n hb hl hR (H.fit y hy _ hr).1 (hb.rs _ hr).2.1 (by rw [Rl.t,yai,yar]) (by rw [Rl.t,yai,ybf])
 have h0:yab (glo P (run P (n+3))) [.exp (.call "row_of" [.var 0,.var 1,.var 2,.var 3]),.asg 4 (.lst []),.loop [5,6] .zip [.var 0,.var 1] yga,.ret (.blt .toTuple (.blt .sorted (.var 4)))] [.val (yaf Z),.val (stT Z),.val (.str z.1.nm),.val (kyT z.1 ps),.no,.no,.no,.no,.no,.no]=some (.rt (.tup (yas ((ycy Z (rsl z ps)).map trT)))):=by
  generalize glo P (run P (n+3))=G at *;refine (zat (U':=[.val (yaf Z),.val (stT Z),.val (.str z.1.nm),.val (kyT z.1 ps),.no,.no,.no,.no,.no,.no]) ?_).trans ?_
  .rw [evS];refine (zag (a:=t) ?_).trans rfl;rw [zbb];exact (zag (a:=[yaf Z,stT Z,T.str z.1.nm,kyT z.1 ps]) rfl).trans ht
  refine (zas (t:=.lst []) (U':=[.val (yaf Z),.val (stT Z),.val (.str z.1.nm),.val (kyT z.1 ps),.own [],.no,.no,.no,.no,.no]) rfl rfl rfl).trans ?_;obtain ⟨U',el,s5,s6,s7,s8,s9,rfl⟩:=zal (enc:=fun y:Zt=>T.tup [y.1.t,rwT y]) (f:=fun x U=>(ya1 [5,6] x U).bind fun U'=>yab G yga U')
   (fun done U=>∃ (s5 s6 s7 s8 s9:Sl),U=[.val (yaf Z),.val (stT Z),.val (.str z.1.nm),.val (kyT z.1 ps),.own ((done.flatMap (yc2 (rsl z ps))).map trT),s5,s6,s7,s8,s9])
   Z [.val (yaf Z),.val (stT Z),.val (.str z.1.nm),.val (kyT z.1 ps),.own [],.no,.no,.no,.no,.no] ⟨_,_,_,_,_,rfl⟩ (by
    rintro l1 y l2 hsp U ⟨s5,s6,s7,s8,s9,rfl⟩;have hy:y∈Z:=by rw [hsp];simp
    have hXl:=zj7 H hs hsp;obtain ⟨U',el,s7',s8',s9',rfl⟩:=zal (enc:=fun (q:Rl × Nat)=>T.tup [.int (q.2:Int),q.1.t]) (f:=fun x U=>(ya1 [7,8] x U).bind fun U'=>yab G rfI U')
     (fun done U=>∃ (s7 s8 s9:Sl),U=[.val (yaf Z),.val (stT Z),.val (.str z.1.nm),.val (kyT z.1 ps),.own ((l1.flatMap (yc2 (rsl z ps))).map trT++(done.flatMap (ycx (rsl z ps) y)).map trT),.val y.1.t,.val (rwT y),s7,s8,s9])
     (y.1.rs.zipIdx 0) [.val (yaf Z),.val (stT Z),.val (.str z.1.nm),.val (kyT z.1 ps),.own ((l1.flatMap (yc2 (rsl z ps))).map trT),.val y.1.t,.val (rwT y),s7,s8,s9] ⟨_,_,_,by rw [List.flatMap_nil,List.map_nil,zzu]⟩ (by
      rintro m1 q m2 hsp2 U ⟨s7,s8,s9,rfl⟩;have hq:q∈y.1.rs.zipIdx 0:=by rw [hsp2];simp
      have hr:=zbn hq;have hYl:((l1.flatMap (yc2 (rsl z ps))).map trT++(m1.flatMap (ycx (rsl z ps) y)).map trT).length<=100:=by rw [zzy,zzo,zzo];have h1:=zc2 (f:=ycx (rsl z ps) y) (n:=4) (l:=m1) fun q _=>zgf H hs hy q;have h2:=zzz List.length hsp2;have h3:=(H.ok y hy).1.rl;simp at h2;omega
      obtain ⟨s9',e⟩:=zyk (St:=yaf Z) (Sr:=stT Z) (z:=z) (ps:=ps) (p:=q) hYl (H.ok y hy).2.1 s9 (hrb y hy q.1 hr);refine ⟨_,e,.val (.int (q.2:Int)),.val q.1.t,s9',?_⟩;rw [List.flatMap_append,zz6,ua6,List.flatMap_nil,zzu,zAk])
    refine ⟨[.val (yaf Z),.val (stT Z),.val (.str z.1.nm),.val (kyT z.1 ps),.own ((l1.flatMap (yc2 (rsl z ps))).map trT++((y.1.rs.zipIdx 0).flatMap (ycx (rsl z ps) y)).map trT),.val y.1.t,.val (rwT y),s7',s8',s9'],?_,.val y.1.t,.val (rwT y),s7',s8',s9',?_⟩
    .exact (zat (ss:=[]) (za1 (xs:=[.tup (y.1.rs.map Rl.t)]) (qc:=(y.1.rs.zipIdx 0).map fun (q:Rl × Nat)=>T.tup [.int (q.2:Int),q.1.t]) (U0:=[.val (yaf Z),.val (stT Z),.val (.str z.1.nm),.val (kyT z.1 ps),.own ((l1.flatMap (yc2 (rsl z ps))).map trT),.val y.1.t,.val (rwT y),s7,s8,s9]) rfl rfl (by simp only [items,zb4]) el)).trans rfl
    .rw [List.flatMap_append,zz6,ua6,List.flatMap_nil,zzu];rfl)
  refine (zat (za1 (xs:=[yaf Z,stT Z]) (qc:=Z.map fun y=>T.tup [y.1.t,rwT y]) (U0:=[.val (yaf Z),.val (stT Z),.val (.str z.1.nm),.val (kyT z.1 ps),.own [],.no,.no,.no,.no,.no]) rfl rfl (by show some (yck (Z.map fun z=>z.1.t) (Z.map rwT))=_;rw [zof]) el)).trans ?_;refine zeo ?_;rw [evS];refine (zzz (Option.map Out.rt) (?_:evE G (.blt .toTuple (.blt .sorted (.var 4))) [some (yaf Z),some (stT Z),some (.str z.1.nm),some (kyT z.1 ps),some (.lst ((ycy Z (rsl z ps)).map trT)),s5.get,s6.get,s7.get,s8.get,s9.get]=some (.tup (yas ((ycy Z (rsl z ps)).map trT))))).trans rfl;rw [zbk,zbk];exact (zag (a:=T.lst (yas ((ycy Z (rsl z ps)).map trT))) ((zag (a:=T.lst ((ycy Z (rsl z ps)).map trT)) rfl).trans (zhq H hs).sorted)).trans rfl
 exact (zzz zaa h0).trans rfl
end
section
abbrev Pa:=Tr × Str × List Kt
noncomputable def paT (x:Pa):T:=.tup [trT x.1,.tup [.str x.2.1,tkT x.2.2]]
theorem zor (a b:Tr):eqT (trT a) (trT b)=true↔a=b:=by obtain ⟨n,j,k⟩:=a;obtain ⟨n',j',k'⟩:=b;have h:eqT (trT ⟨n,j,k⟩) (trT ⟨n',j',k'⟩)=(n==n'&&(((j:Int)==(j':Int))&&(eqT (tkT k) (tkT k')&&true))):=rfl;rw [h,zot,Bool.and_true,zzn,zzn,ue5,ue5,decide_eq_true_iff,Tr.mk.injEq];exact ⟨fun ⟨h1,h2,h3⟩=>⟨h1,by omega,h3⟩,fun ⟨h1,h2,h3⟩=>⟨h1,by omega,h3⟩⟩
theorem zvx {l:List Pa} (nd:(l.map (·.1)).Nodup) {x y:Pa} (hx:x∈l) (hy:y∈l) (e:x.1=y.1):x=y:=by
 induction l with
 | nil=>cases hx
 | cons a l ih =>
  rw [zzi,ua7] at nd;rcases omc hx with h1 | h1
  .rcases omc hy with h2 | h2
   .rw [h1,h2]
   .exact absurd (ua0.mpr ⟨y,h2,by rw [<- e,h1]⟩) nd.1
  .rcases omc hy with h2 | h2
   .exact absurd (ua0.mpr ⟨x,h1,by rw [e,h2]⟩) nd.1
   .exact ih nd.2 h1 h2
theorem zww {l:List Pa} (h:TrOk (l.map (·.1))) {x y:Pa} (hx:x∈l) (hy:y∈l):ltD (paT x) (paT y)=some (ya3 (code x.1) (code y.1)):=by
 have e:ltD (paT x) (paT y)=if eqT (trT x.1) (trT y.1)=true then (if eqT (.tup [.str x.2.1,tkT x.2.2]) (.tup [.str y.2.1,tkT y.2.2])=true then some false else ltD (.tup [.str x.2.1,tkT x.2.2]) (.tup [.str y.2.1,tkT y.2.2])) else ltD (trT x.1) (trT y.1):=by show ybl [trT x.1,.tup [.str x.2.1,tkT x.2.2]] [trT y.1,.tup [.str y.2.1,tkT y.2.2]]=_;rw [ybl];show (if eqT (trT x.1) (trT y.1)=true then ybl [.tup [.str x.2.1,tkT x.2.2]] [.tup [.str y.2.1,tkT y.2.2]] else _)=_;rw [ybl];rfl
 rw [e];by_cases hq:x.1=y.1
 .have:=zvx h.nd hx hy hq;subst this;have hs:eqT (.tup [.str x.2.1,tkT x.2.2]) (.tup [.str x.2.1,tkT x.2.2])=true:=(zdt (n:=1) fun w hw=>by
   rcases omc hw with rfl | hw
   .exact zi5 (zdb rfl) (by omega)
   .rw [omg hw];exact zlg _).1
  rw [if_pos ((zor _ _).mpr rfl),if_pos hs,zbu]
 .rw [if_neg fun z=>hq ((zor _ _).mp z)];exact zts (h.al x.1 (ua0.mpr ⟨x,hx,rfl⟩) y.1 (ua0.mpr ⟨y,hy,rfl⟩))
theorem zit {l:List Pa} (h:TrOk (l.map (·.1))) {x y:Pa} (hx:x∈l) (hy:y∈l):cD (paT x) (paT y)=ya3 (code x.1) (code y.1):=by unfold cD;rw [zww h hx hy];cases ya3 (code x.1) (code y.1)<;>rfl
theorem zk9 {l:List Pa} (h:TrOk (l.map (·.1))):(l.map paT).Pairwise fun x y=>cD y x=!cD x y:=by refine List.pairwise_map.mpr (List.Pairwise.imp_of_mem (fun {x y} hx hy hn=>?_) (List.pairwise_map.mp h.nd));rw [zit h hx hy,zit h hy hx];exact zj3 (h.al x.1 (ua0.mpr ⟨x,hx,rfl⟩) y.1 (ua0.mpr ⟨y,hy,rfl⟩)) hn
theorem zk8 {l:List Pa} (h:TrOk (l.map (·.1))):∀ x∈l.map paT,∀ y∈l.map paT,∀ z∈l.map paT,cD x y=true->cD y z=true->cD x z=true:=fun x hx y hy z hz=>by obtain ⟨x',mx,rfl⟩:=omm hx;obtain ⟨y',my,rfl⟩:=omm hy;obtain ⟨z',mz,rfl⟩:=omm hz;rw [zit h mx my,zit h my mz,zit h mx mz];exact zdg
theorem zxo (a b:Tr):dpP (trT a) (trT b)<=2:=by show ybe [.str a.nm,.int (a.j:Int),tkT a.k] [.str b.nm,.int (b.j:Int),tkT b.k]+1<=2;show max (dpP (.str a.nm) (.str b.nm)) (max (dpP (.int (a.j:Int)) (.int (b.j:Int))) (max (dpP (tkT a.k) (tkT b.k)) 0))+1<=2;rw [zno,zjx];show max 0 (max 0 (max 1 0))+1<=2;decide
theorem zyu {l:List Pa} (h:TrOk (l.map (·.1))):OkN (l.map paT):=by
 refine ⟨by have:=h.len;rw [zzo] at this ⊢;exact this,fun x hx y hy=>?_,fun x hx y hy=>?_,⟨2,fun x hx=>?_⟩,zk9 h,zk8 h⟩
 .obtain ⟨x',mx,rfl⟩:=omm hx;obtain ⟨y',my,rfl⟩:=omm hy;have h1:=zxo x'.1 y'.1;show max (dpP (trT x'.1) (trT y'.1)) (max (max (dpP (.str x'.2.1) (.str y'.2.1)) (max (dpP (tkT x'.2.2) (tkT y'.2.2)) 0)+1) 0)+1<=20;rw [zno,zjx];omega
 .obtain ⟨x',mx,rfl⟩:=omm hx;obtain ⟨y',my,rfl⟩:=omm hy;exact ⟨_,zww h mx my⟩
 .obtain ⟨x',mx,rfl⟩:=omm hx;exact ⟨_,_,rfl,rfl⟩
theorem zle {l:List Pa} (h:TrOk (l.map (·.1))):ya6 .sorted (.lst (l.map paT))=some (.lst (yas (l.map paT))):=by
 cases l with
 | nil=>simp [ya6,ydm,yb4,ydc,yax,yas]
 | cons x l =>have e:ydm ((x::l).map paT)=none:=rfl;show (match (ydm ((x::l).map paT)).bind yb4 with | some r=>some r | none=>yb5 ((x::l).map paT))=_;rw [e];show yb5 _=_;unfold yb5;rw [if_pos (zyu h)]
theorem zs2 {l m:List Pa} (h:TrOk (l.map (·.1))) (p:l.Perm m):TrOk (m.map (·.1))/\yas (l.map paT)=yas (m.map paT):=by have hm:=(h.perm (p.map (·.1))).1;refine ⟨hm,zi8 (zc6 (zk9 h) (zk8 h)) (zc6 (zk9 hm) (zk8 hm)) (fun x hx y hy h1 h2=>?_) ((zam _).trans ((p.map paT).trans (zam _).symm))⟩;obtain ⟨x',mx,rfl⟩:=omm ((zam _).mem_iff.mp hx);obtain ⟨y',my,rfl⟩:=omm ((zam _).mem_iff.mp hy);rw [zit h mx my] at h1;rw [zit h my mx] at h2;have:=zdg h1 h2;rw [zbu] at this;cases this
theorem zsc (l:List Pa):eqC (.lst (yas (l.map paT))) (.lst (yas (l.map paT)))=some (.bl true):=by
 have hw:∀ w∈yas (l.map paT),Slf 3 w:=fun w hw=>by
  obtain ⟨x,_,rfl⟩:=omm ((zam _).mem_iff.mp hw);refine zdt fun w hw=>?_;rcases omc hw with rfl | hw
  .exact zux x.1
  .rw [omg hw];refine zdt fun w hw=>?_;rcases omc hw with rfl | hw
   .exact zi5 (zdb rfl) (by omega)
   .rw [omg hw];exact zlg _
 have h1:=zdt hw;have e1:eqT (.lst (yas (l.map paT))) (.lst (yas (l.map paT)))=true:=by show yb0 (yas (l.map paT)) (yas (l.map paT))=true;exact h1.1
 have e2:dpP (.lst (yas (l.map paT))) (.lst (yas (l.map paT)))<=30:=by have h2:ybe (yas (l.map paT)) (yas (l.map paT))+1<=3+1:=h1.2;show ybe (yas (l.map paT)) (yas (l.map paT))+1<=30;omega
 unfold eqC;rw [if_pos e2,e1]
noncomputable def ydo (Z:List Zt) (g:Str) (k:List Kt):Bool:=Z.any fun y=>y.1.nm==g&&gks y.1 y.2 k
noncomputable def msl (Z:List Zt):Sel:=fun y p=>match p.1 with
 | .ref qa g _=>y.2.filter fun qs=>!ya9 (wK qa qs)&&ydo Z g (wK qa qs)
 | _=>[]
theorem zh8 (Z:List Zt) (y:Zt) (p:Rl × Nat):(msl Z y p).Sublist y.2:=by
 obtain ⟨r,j⟩:=p;cases r with
 | ref qa g w=>exact List.filter_sublist
 | _=>exact List.nil_sublist _
noncomputable def mnR (Z:List Zt) (y:Zt) (p:Rl × Nat):List Pa:=match p.1 with
 | .ref qa g _=>(msl Z y p).map fun qs=>(trO y p.2 qs,g,wK qa qs)
 | _=>[]
noncomputable def mnZ (Z:List Zt) (y:Zt):List Pa:=(y.1.rs.zipIdx 0).flatMap (mnR Z y)
noncomputable def mnL (Z:List Zt):List Pa:=Z.flatMap (mnZ Z)
theorem zh9 (Z:List Zt) (y:Zt) (p:Rl × Nat):(mnR Z y p).map (·.1)=ycx (msl Z) y p:=by
 obtain ⟨r,j⟩:=p;cases r with
 | ref qa g w=>show ((msl Z y (.ref qa g w,j)).map _).map _=_;rw [zAe];rfl
 | _=>rfl
theorem zws (Z:List Zt):(mnL Z).map (·.1)=ycy Z (msl Z):=by unfold mnL ycy;rw [List.map_flatMap];congr 1;funext y;unfold mnZ yc2;rw [List.map_flatMap];congr 1;funext p;exact zh9 Z y p
noncomputable def yrZ (Z:List Zt) (z:Zt) (ps:Row):List Pa:=(ycy Z (rsl z ps)).map fun x=>(x,z.1.nm,yan z.1 ps)
noncomputable def yrL (Z:List Zt):List Pa:=Z.flatMap fun z=>z.2.flatMap (yrZ Z z)
theorem zwr {Z:List Zt} {x:Pa}:x∈mnL Z↔∃ y∈Z,∃ p∈y.1.rs.zipIdx 0,∃ qa g w,p.1=.ref qa g w/\∃ qs∈y.2,ya9 (wK qa qs)=false/\ydo Z g (wK qa qs)=true/\x=(trO y p.2 qs,g,wK qa qs):=by
 constructor
 .intro hx;obtain ⟨y,hy,hx⟩:=ue4.mp hx;obtain ⟨⟨r,j⟩,hp,hx⟩:=ue4.mp hx;cases r with
  | ref qa g w =>obtain ⟨qs,hq,rfl⟩:=omm (show x∈(msl Z y (.ref qa g w,j)).map _ from hx);obtain ⟨h1,h2⟩:=ub9.mp (show qs∈y.2.filter _ from hq);rw [zzn,Bool.not_eq_true'] at h2;exact ⟨y,hy,_,hp,qa,g,w,rfl,qs,h1,h2.1,h2.2,rfl⟩
  | unl ks=>exact absurd hx (show x∉([]:List Pa) by simp)
  | chk t=>exact absurd hx (show x∉([]:List Pa) by simp)
 .rintro ⟨y,hy,⟨r,j⟩,hp,qa,g,w,e,qs,hq,h1,h2,rfl⟩;cases (show r=.ref qa g w from e);refine ue4.mpr ⟨y,hy,ue4.mpr ⟨_,hp,?_⟩⟩;show _∈(msl Z y (.ref qa g w,j)).map _;exact ua0.mpr ⟨qs,ub9.mpr ⟨hq,by rw [h1,h2];rfl⟩,rfl⟩
theorem zuo {Z:List Zt} {x:Pa}:x∈yrL Z↔∃ z∈Z,∃ ps∈z.2,∃ y∈Z,∃ p∈y.1.rs.zipIdx 0,∃ qa w,p.1=.ref qa z.1.nm w/\∃ qs∈y.2,ya9 (wK qa qs)=false/\wK qa qs=yan z.1 ps/\x=(trO y p.2 qs,z.1.nm,yan z.1 ps):=by
 constructor
 .intro hx;obtain ⟨z,hz,hx⟩:=ue4.mp hx;obtain ⟨ps,hp,hx⟩:=ue4.mp hx;obtain ⟨t,ht,rfl⟩:=omm hx;obtain ⟨y,hy,ht⟩:=ue4.mp ht;obtain ⟨⟨r,j⟩,hq,ht⟩:=ue4.mp ht;obtain ⟨qs,hs,rfl⟩:=omm ht;cases r with
  | ref qa g w =>obtain ⟨h1,h2⟩:=ub9.mp (show qs∈(ful qa y.2).filter _ from hs);obtain ⟨h3,h4⟩:=ub9.mp h1;rw [zzn] at h2;have e:=ua2 h2.1;subst e;exact ⟨z,hz,ps,hp,y,hy,_,hq,qa,w,rfl,qs,h3,by simpa using h4,of_decide_eq_true h2.2,rfl⟩
  | unl ks=>exact absurd hs (show qs∉([]:List Row) by simp)
  | chk t=>exact absurd hs (show qs∉([]:List Row) by simp)
 .rintro ⟨z,hz,ps,hp,y,hy,⟨r,j⟩,hq,qa,w,e,qs,hs,h1,h2,rfl⟩;cases (show r=.ref qa z.1.nm w from e);refine ue4.mpr ⟨z,hz,ue4.mpr ⟨ps,hp,ua0.mpr ⟨_,ue4.mpr ⟨y,hy,ue4.mpr ⟨_,hq,?_⟩⟩,rfl⟩⟩⟩;refine ua0.mpr ⟨qs,ub9.mpr ⟨ub9.mpr ⟨hs,by rw [h1];rfl⟩,?_⟩,rfl⟩;rw [ua9,zz0 h2];rfl
theorem zyz (Z:List Zt) (x:Pa):x∈mnL Z↔x∈yrL Z:=by
 rw [zwr,zuo];constructor
 .rintro ⟨y,hy,p,hp,qa,g,w,e,qs,hq,h1,h2,rfl⟩;obtain ⟨z,hz,h2⟩:=List.any_eq_true.mp h2;rw [zzn] at h2;have en:=ua2 h2.1;obtain ⟨ps,hps,ek⟩:=List.any_eq_true.mp h2.2;have ek:=zAf ek;subst en;exact ⟨z,hz,ps,hps,y,hy,p,hp,qa,w,e,qs,hq,h1,ek.symm,by rw [ek]⟩
 .rintro ⟨z,hz,ps,hp,y,hy,p,hq,qa,w,e,qs,hs,h1,h2,rfl⟩;refine ⟨y,hy,p,hq,qa,z.1.nm,w,e,qs,hs,h1,?_,by rw [h2]⟩;refine List.any_eq_true.mpr ⟨z,hz,?_⟩;rw [ua9,Bool.true_and];exact List.any_eq_true.mpr ⟨ps,hp,zz0 h2.symm⟩
theorem ztp {Z:List Zt} (H:Sto Z):TrOk ((mnL Z).map (·.1)):=by rw [zws];exact zhq H fun y _ p=>zh8 Z y p
theorem zwo {l:List Pa} (h:(l.map (·.1)).Nodup):l.Nodup:=List.Pairwise.imp (fun {a b} hn e=>hn (by rw [e])) (List.pairwise_map.mp h)
theorem zya {Z:List Zt} (H:Sto Z):(yrL Z).Nodup:=by
 refine List.pairwise_flatMap.mpr ⟨fun z hz=>List.pairwise_flatMap.mpr ⟨fun ps hp=>?_,?_⟩,?_⟩
 .refine List.pairwise_map.mpr (List.Pairwise.imp (fun {a b} hn e=>hn (zzz (·.1) e)) (zhq H fun y _ p=>zft z ps y p).nd)
 .refine List.Pairwise.imp (fun {a b} hn x hx y hy e=>?_) (List.pairwise_map.mp (zif H hz));obtain ⟨_,_,rfl⟩:=omm hx;obtain ⟨_,_,rfl⟩:=omm hy;exact hn (zzz (·.2.2) e)
 .refine List.Pairwise.imp (fun {a b} hn x hx y hy e=>?_) (List.pairwise_map.mp H.nd);obtain ⟨_,_,hx⟩:=ue4.mp hx;obtain ⟨_,_,hy⟩:=ue4.mp hy;obtain ⟨_,_,rfl⟩:=omm hx;obtain ⟨_,_,rfl⟩:=omm hy;exact hn (zzz (·.2.1) e)
theorem ztn {Z:List Zt} (H:Sto Z):(mnL Z).Perm (yrL Z):=(List.perm_ext_iff_of_nodup (zwo (ztp H).nd) (zya H)).mpr (zyz Z)
end
section
variable {qa:List Str} {w:Str}
theorem zqb {Z:List Zt} (H:Sto Z) {g:Zt} (hg:g∈Z) (k:List Kt):ydo Z g.1.nm k=gks g.1 g.2 k:=by
 cases h:gks g.1 g.2 k with
 | true=>exact List.any_eq_true.mpr ⟨g,hg,by rw [ua9,h];rfl⟩
 | false =>refine List.any_eq_false.mpr fun y hy z=>?_;rw [zzn] at z;have e:=zfa hy hg H.nd (ua2 z.1);subst e;rw [h] at z;cases z.2
theorem zpx (g:Zt) (qa:List Str) (qs:Row):(∃ qs'∈g.2,mtR g qa qs=some qs'/\yan g.1 qs'=wK qa qs/\ya9 (wK qa qs)=false/\gks g.1 g.2 (wK qa qs)=true)\/(mtR g qa qs=none/\(!ya9 (wK qa qs)&&gks g.1 g.2 (wK qa qs))=false):=by
 unfold mtR;cases h1:ya9 (wK qa qs) with
 | true=>exact .inr ⟨rfl,rfl⟩
 | false =>
  rw [if_neg zzx];unfold fnd;cases h2:g.2.find? fun q=>decide (yan g.1 q=wK qa qs) with
  | none =>refine .inr ⟨rfl,?_⟩;have:gks g.1 g.2 (wK qa qs)=false:=List.any_eq_false.mpr fun y hy=>List.find?_eq_none.mp h2 y hy;rw [this];rfl
  | some q =>have hm:=List.mem_of_find?_eq_some h2;have he:=List.find?_some h2;exact .inl ⟨q,hm,rfl,zAf he,rfl,List.any_eq_true.mpr ⟨q,hm,he⟩⟩
theorem zsl {b:Tb} {R:List Row} (nd:(R.map (yan b)).Nodup) {x y:Row} (hx:x∈R) (hy:y∈R) (e:yan b x=yan b y):x=y:=by
 induction R with
 | nil=>cases hx
 | cons a l ih =>
  rw [zzi,ua7] at nd;rcases omc hx with a1 | a1
  .rcases omc hy with a2 | a2
   .rw [a1,a2]
   .exact absurd (ua0.mpr ⟨y,a2,by rw [<- e,a1]⟩) nd.1
  .rcases omc hy with a2 | a2
   .exact absurd (ua0.mpr ⟨x,a1,by rw [e,a2]⟩) nd.1
   .exact ih nd.2 a1 a2
theorem zt7 {Z:List Zt} (H:Sto Z) {y:Zt} (hy:y∈Z) {p:Rl × Nat} (hp:p∈y.1.rs.zipIdx 0) {g:Zt} (hg:g∈Z) (e:p.1=.ref qa g.1.nm w) {qs:Row} (hq:qs∈y.2) :
  trO y p.2 qs∈due Z↔(!ya9 (wK qa qs)&&!gks g.1 g.2 (wK qa qs))=true:=by
 have hb:yee Z y p.1=yea g qa y.2:=by
  rw [e,yee];cases h:Z.find? fun z=>z.1.nm==g.1.nm with
  | none=>exact absurd (List.find?_eq_none.mp h g hg) (by simp)
  | some z =>have h2:=List.find?_some h;have:=zfa (List.mem_of_find?_eq_some h) hg H.nd (ua2 h2);rw [this]
 constructor
 .intro h;obtain ⟨y',hy',h⟩:=ue4.mp h;obtain ⟨p',hp',h⟩:=ue4.mp h;obtain ⟨qs',hq',ee⟩:=omm h;have ey:=zfa hy' hy H.nd (zzz Tr.nm ee);subst ey;have ep:p'=p:=by have h1:=List.mem_zipIdx' hp';have h2:=List.mem_zipIdx' hp;have e2:p'.2=p.2:=zzz Tr.j ee;refine Prod.ext ?_ e2;rw [h1.2,h2.2];congr 1
  subst ep;rw [hb] at hq';obtain ⟨h1,h2⟩:=ub9.mp hq';have hk:yan y'.1 qs'=yan y'.1 qs:=zzz Tr.k ee;have:qs'=qs:=zsl (zif H hy') h1 hq hk;rw [<- this];exact h2
 .intro h;refine ue4.mpr ⟨y,hy,ue4.mpr ⟨p,hp,ua0.mpr ⟨qs,?_,rfl⟩⟩⟩;rw [hb];exact ub9.mpr ⟨hq,h⟩
theorem zxb {Z:List Zt} (H:Sto Z) {y:Zt} (hy:y∈Z) {p:Rl × Nat} (hp:p∈y.1.rs.zipIdx 0) {g:Zt} (hg:g∈Z) (e:p.1=.ref qa g.1.nm w) {qs:Row} (hq:qs∈y.2) :
  inC (trT (trO y p.2 qs)) (.tup (yas ((due Z).map trT)))=some (!ya9 (wK qa qs)&&!gks g.1 g.2 (wK qa qs)):=by
 have hd:dpI (trT (trO y p.2 qs)) (yas ((due Z).map trT))=true:=uc1.mpr fun t ht=>by obtain ⟨x,_,rfl⟩:=omm ((zam _).mem_iff.mp ht);exact zz0 (zz8 (zxo x _) (by decide))
 show (if dpI (trT (trO y p.2 qs)) (yas ((due Z).map trT))=true then some ((yas ((due Z).map trT)).any fun z=>eqT z (trT (trO y p.2 qs))) else none)=_;rw [hd,if_pos rfl];congr 1;have hi:((yas ((due Z).map trT)).any fun z=>eqT z (trT (trO y p.2 qs)))=true↔trO y p.2 qs∈due Z:=by
  rw [List.any_eq_true];constructor
  .rintro ⟨t,ht,ee⟩;obtain ⟨x,hx,rfl⟩:=omm ((zam _).mem_iff.mp ht);rw [<- (zor _ _).mp ee];exact hx
  .intro h;exact ⟨_,(zam _).mem_iff.mpr (ua0.mpr ⟨_,h,rfl⟩),(zor _ _).mpr rfl⟩
 rw [zt7 H hy hp hg e hq] at hi;exact Bool.eq_iff_iff.mpr hi
noncomputable def mnQ (g:Zt) (qa:List Str) (y:Zt) (j:Nat) (qs:Row):List Pa:=if (!ya9 (wK qa qs)&&gks g.1 g.2 (wK qa qs))=true then [(trO y j qs,g.1.nm,wK qa qs)] else []
theorem zo9 {G:Glo} {N SC ST BR:T} {y g:Zt} {j:Nat} {qs:Row} {X:List T} (hX:X.length<=100) (s11 s12 s13 s14 s15:Sl)
  (hk1:G.call "_law_key" [y.1.t,yac qs]=some (kyT y.1 qs)) (hk2:∀ qs'∈g.2,G.call "_law_key" [g.1.t,yac qs']=some (kyT g.1 qs')) (hw:G.call "_law_worths" [y.1.t,yac qs,yaz qa]=some (woT qa qs))
  (hin:inC (trT (trO y j qs)) BR=some (!ya9 (wK qa qs)&&!gks g.1 g.2 (wK qa qs))) :
  yab G rsB [.val N,.val SC,.val ST,.own X,.val BR,.val y.1.t,.val (.int (j:Int)),.val (Rl.ref qa g.1.nm w).t,.val g.1.t,.val (yac qs),.val (oT (mtR g qa qs)),s11,s12,s13,s14,s15] =
   some (.nx [.val N,.val SC,.val ST,.own (X++(mnQ g qa y j qs).map paT),.val BR,.val y.1.t,.val (.int (j:Int)),.val (Rl.ref qa g.1.nm w).t,.val g.1.t,.val (yac qs),.val (oT (mtR g qa qs)),.val (trT (trO y j qs)),.val (woT qa qs),s13,s14,s15]):=by
 refine (zas (t:=trT (trO y j qs)) (U':=[.val N,.val SC,.val ST,.own X,.val BR,.val y.1.t,.val (.int (j:Int)),.val (Rl.ref qa g.1.nm w).t,.val g.1.t,.val (yac qs),.val (oT (mtR g qa qs)),.val (trT (trO y j qs)),s12,s13,s14,s15]) rfl ?_ rfl).trans ?_
 .rw [evE,if_pos (by decide),yad,yad,yad,zbb];refine Eq.trans (b:=(((G.call "_law_key" [y.1.t,yac qs]).bind fun x=>some [x]).bind fun xs=>some (T.int (j:Int)::xs)).bind (fun xs=>some (T.str y.1.nm::xs)) |>.map T.tup) rfl ?_;rw [hk1];rfl
 have last:∀ (X':List T) (o:T),evE G (.land (.cmp .isN (.var 10) (.cst .non)) (.cmp .notN (.var 12) (.cst .non))) [some N,some SC,some ST,none,some BR,some y.1.t,some (.int (j:Int)),some (Rl.ref qa g.1.nm w).t,some g.1.t,some (yac qs),some o,some (trT (trO y j qs)),some (woT qa qs),s13.get,s14.get,s15.get]=some (.bl (!ya9 (wK qa qs)&&!gks g.1 g.2 (wK qa qs))) ->
   yab G (rsB.drop 2) [.val N,.val SC,.val ST,.own X',.val BR,.val y.1.t,.val (.int (j:Int)),.val (Rl.ref qa g.1.nm w).t,.val g.1.t,.val (yac qs),.val o,.val (trT (trO y j qs)),s12,s13,s14,s15] =
   some (.nx [.val N,.val SC,.val ST,.own X',.val BR,.val y.1.t,.val (.int (j:Int)),.val (Rl.ref qa g.1.nm w).t,.val g.1.t,.val (yac qs),.val o,.val (trT (trO y j qs)),.val (woT qa qs),s13,s14,s15]):=fun X' o hl=>by
  refine (zas (t:=woT qa qs) (U':=[.val N,.val SC,.val ST,.own X',.val BR,.val y.1.t,.val (.int (j:Int)),.val (Rl.ref qa g.1.nm w).t,.val g.1.t,.val (yac qs),.val o,.val (trT (trO y j qs)),.val (woT qa qs),s13,s14,s15]) rfl ?_ rfl).trans ?_
  .rw [zbb];exact (zag (a:=[y.1.t,yac qs,yaz qa]) rfl).trans hw
  refine (zbc (ss:=[]) rfl ?_).trans rfl;rw [evE];refine (zag (a:=T.bl (!ya9 (wK qa qs)&&!gks g.1 g.2 (wK qa qs))) ?_).trans ((zag hl).trans ?_)
  .rw [evE];refine (zag (a:=trT (trO y j qs)) rfl).trans ((zag (a:=BR) rfl).trans ?_);show (inC (trT (trO y j qs)) BR).map T.bl=_;rw [hin];rfl
  .show neC (.bl _) (.bl _)=_;cases (!ya9 (wK qa qs)&&!gks g.1 g.2 (wK qa qs))<;>rfl
 have hnw:evE G (.cmp .notN (.var 12) (.cst .non)) [some N,some SC,some ST,none,some BR,some y.1.t,some (.int (j:Int)),some (Rl.ref qa g.1.nm w).t,some g.1.t,some (yac qs),some .non,some (trT (trO y j qs)),some (woT qa qs),s13.get,s14.get,s15.get]=some (.bl (!ya9 (wK qa qs))):=by rw [evE];exact (zag (a:=woT qa qs) rfl).trans (zmb qa qs)
 rcases zpx g qa qs with ⟨qs',hq',em,ek,h1,h2⟩ | ⟨em,h⟩
 .have hm:mnQ g qa y j qs=[(trO y j qs,g.1.nm,wK qa qs)]:=by unfold mnQ;rw [h1,h2];rfl
  rw [hm,em];refine (zii rfl rfl (zat (ss:=[]) (U':=[.val N,.val SC,.val ST,.own (X++[paT (trO y j qs,g.1.nm,wK qa qs)]),.val BR,.val y.1.t,.val (.int (j:Int)),.val (Rl.ref qa g.1.nm w).t,.val g.1.t,.val (yac qs),.val (yac qs'),.val (trT (trO y j qs)),s12,s13,s14,s15]) ?_)).trans ?_
  .rw [evS];refine (zag (a:=paT (trO y j qs,g.1.nm,wK qa qs)) ?_).trans ?_
   .rw [evE,if_pos (by decide),yad,yad];have h3:evE G (.tup [.idx (.var 7) (.cst (.int 2)),.call "_law_key" [.var 8,.var 10]]) [some N,some SC,some ST,none,some BR,some y.1.t,some (.int (j:Int)),some (Rl.ref qa g.1.nm w).t,some g.1.t,some (yac qs),some (yac qs'),some (trT (trO y j qs)),s12.get,s13.get,s14.get,s15.get]=some (.tup [.str g.1.nm,tkT (wK qa qs)]):=by rw [evE,if_pos (by decide),yad,yad,zbb];refine Eq.trans (b:=((G.call "_law_key" [g.1.t,yac qs']).bind fun x=>some [x]).bind (fun xs=>some (T.str g.1.nm::xs)) |>.map T.tup) rfl ?_;rw [hk2 qs' hq',kyT,ek];rfl
    refine Eq.trans (b:=(((evE G (.tup [.idx (.var 7) (.cst (.int 2)),.call "_law_key" [.var 8,.var 10]]) [some N,some SC,some ST,none,some BR,some y.1.t,some (.int (j:Int)),some (Rl.ref qa g.1.nm w).t,some g.1.t,some (yac qs),some (yac qs'),some (trT (trO y j qs)),s12.get,s13.get,s14.get,s15.get]).bind fun x=>(yad G [] _).bind fun xs=>some (x::xs)).bind fun xs=>some (trT (trO y j qs)::xs)).map T.tup) rfl ?_;rw [h3];rfl
   .show (if X.length<SZ then some (Out.nx [.val N,.val SC,.val ST,.own (X++[paT (trO y j qs,g.1.nm,wK qa qs)]),.val BR,.val y.1.t,.val (.int (j:Int)),.val (Rl.ref qa g.1.nm w).t,.val g.1.t,.val (yac qs),.val (yac qs'),.val (trT (trO y j qs)),s12,s13,s14,s15]) else none)=_;rw [if_pos (by unfold SZ;omega)]
  .refine last _ (yac qs') ?_;rw [h1,h2,evE];exact (zag (a:=T.bl false) rfl).trans rfl
 .have hm:mnQ g qa y j qs=[]:=by unfold mnQ;rw [h,if_neg zzx]
  rw [hm,List.map_nil,zzu,em];refine (zbc rfl rfl).trans (last X .non ?_);rw [evE];refine (zag (a:=T.bl true) rfl).trans ?_;refine Eq.trans hnw ?_;cases h1:ya9 (wK qa qs) with
  | true=>rfl
  | false=>rw [h1] at h;cases h2:gks g.1 g.2 (wK qa qs) with
   | true=>rw [h2] at h;cases h
   | false=>rfl
end
section
theorem pmi {α β:Type} {f:α->β} {l m:List β} (h:l.Perm m):∀ {n:List α},m=n.map f->∃ k:List α,l=k.map f/\k.Perm n:=by
 induction h with
 | nil =>
  intro n e;have:n=[]:=by cases n with | nil=>rfl | cons=>cases e
  subst this;exact ⟨[],rfl,.refl _⟩
 | cons x _ ih =>
  intro n e;cases n with
  | nil=>cases e
  | cons y n =>rw [zzi] at e;injection e with e1 e2;obtain ⟨k,rfl,hk⟩:=ih e2;exact ⟨y::k,by rw [e1];rfl,.cons _ hk⟩
 | swap x y l =>
  intro n e
  match n,e with
  | a::b::n,e =>rw [zzi,zzi] at e;injection e with e1 e2;injection e2 with e2 e3;subst e1 e2 e3;exact ⟨b::a::n,rfl,.swap _ _ _⟩
  | [_],e=>cases e
  | [],e=>cases e
 | trans _ _ ih1 ih2 =>intro n e;obtain ⟨k,e2,h2⟩:=ih2 e;obtain ⟨k',e1,h1⟩:=ih1 e2;exact ⟨k',e1,h1.trans h2⟩
theorem znj {α β:Type} (c:α->Bool) (f:α->β):∀ l:List α,(l.flatMap fun a=>if c a=true then [f a] else [])=(l.filter c).map f
 | []=>rfl
 | a::l=>by rw [ua6,znj c f l,ub0];cases c a<;>rfl
structure Cal (G:Glo) (Z:List Zt):Prop where
 lk:∀ z∈Z,∀ qs∈z.2,G.call "_law_key" [z.1.t,yac qs]=some (kyT z.1 qs)
 lt:∀ g∈Z,G.call "_law_table" [yaf Z,.str g.1.nm]=some g.1.t
 lw:∀ z∈Z,∀ qs∈z.2,∀ qa g w,Rl.ref qa g w∈z.1.rs->G.call "_law_worths" [z.1.t,yac qs,yaz qa]=some (woT qa qs)
 mt:∀ z∈Z,∀ g∈Z,∀ qa w (j:Nat),z.1.rs[j]?=some (.ref qa g.1.nm w)->G.call "matched" [yaf Z,stT Z,.str z.1.nm,.int (j:Int)]=some (.tup (z.2.map fun ps=>.tup [yac ps,oT (mtR g qa ps)]))
 rf:∀ z∈Z,∀ ps∈z.2,G.call "referring" [yaf Z,stT Z,.str z.1.nm,kyT z.1 ps]=some (.tup (yas ((ycy Z (rsl z ps)).map trT)))
theorem zlm {G:Glo} {Z:List Zt} (H:Sto Z) (C:Cal G Z) {N:T} {y:Zt} (hy:y∈Z) {p:Rl × Nat} (hp:p∈y.1.rs.zipIdx 0) {X:List T} (hX:X.length<=80) (s8 s9 s10 s11 s12 s13 s14 s15:Sl) :
  ∃ s8' s9' s10' s11' s12',yab G rlB [.val N,.val (yaf Z),.val (stT Z),.own X,.val (.tup (yas ((due Z).map trT))),.val y.1.t,.val (.int (p.2:Int)),.val p.1.t,s8,s9,s10,s11,s12,s13,s14,s15] =
   some (.nx [.val N,.val (yaf Z),.val (stT Z),.own (X++(mnR Z y p).map paT),.val (.tup (yas ((due Z).map trT))),.val y.1.t,.val (.int (p.2:Int)),.val p.1.t,s8',s9',s10',s11',s12',s13,s14,s15]):=by
 obtain ⟨r,j⟩:=p;have hix:y.1.rs[j]?=some r:=by have:=List.mem_zipIdx' hp;rw [show r=y.1.rs[j] from this.2];exact zzm _
 have hr:r∈y.1.rs:=zbn hp;cases r with
 | unl ks=>exact ⟨s8,s9,s10,s11,s12,(zbc (ss:=[]) rfl rfl).trans (by rw [show mnR Z y (.unl ks,j)=[] from rfl,List.map_nil,zzu];rfl)⟩
 | chk t=>exact ⟨s8,s9,s10,s11,s12,(zbc (ss:=[]) rfl rfl).trans (by rw [show mnR Z y (.chk t,j)=[] from rfl,List.map_nil,zzu];rfl)⟩
 | ref qa g w =>
  obtain ⟨gz,hg,eg⟩:=omm (H.fit y hy _ hr).2;subst eg;have hl:=(H.ok y hy).2.1;have hmn:mnR Z y (.ref qa gz.1.nm w,j)=y.2.flatMap (mnQ gz qa y j):=by show ((y.2.filter fun qs=>!ya9 (wK qa qs)&&ydo Z gz.1.nm (wK qa qs)).map fun qs=>(trO y j qs,gz.1.nm,wK qa qs))=_;rw [<- znj];congr 1;funext qs;rw [zqb H hg];rfl
  obtain ⟨U',el,s9',s10',s11',s12',rfl⟩:=zal (enc:=fun ps:Row=>T.tup [yac ps,oT (mtR gz qa ps)]) (f:=fun x U=>(ya1 [9,10] x U).bind fun U'=>yab G rsB U')
   (fun done U=>∃ (s9 s10 s11 s12:Sl),U=[.val N,.val (yaf Z),.val (stT Z),.own (X++(done.flatMap (mnQ gz qa y j)).map paT),.val (.tup (yas ((due Z).map trT))),.val y.1.t,.val (.int (j:Int)),.val (Rl.ref qa gz.1.nm w).t,.val gz.1.t,s9,s10,s11,s12,s13,s14,s15])
   y.2 [.val N,.val (yaf Z),.val (stT Z),.own X,.val (.tup (yas ((due Z).map trT))),.val y.1.t,.val (.int (j:Int)),.val (Rl.ref qa gz.1.nm w).t,.val gz.1.t,s9,s10,s11,s12,s13,s14,s15] ⟨_,_,_,_,by rw [List.flatMap_nil,List.map_nil,zzu]⟩ (by
    rintro l1 qs l2 hsp U ⟨s9,s10,s11,s12,rfl⟩;have hq:qs∈y.2:=by rw [hsp];simp
    have hYl:(X++(l1.flatMap (mnQ gz qa y j)).map paT).length<=100:=by
     rw [zzy,zzo];have h1:=zc2 (f:=mnQ gz qa y j) (n:=1) (l:=l1) fun q _=>by unfold mnQ;split<;>simp
     have h2:=zzz List.length hsp;simp at h2;omega
    have e:=zo9 (N:=N) (SC:=yaf Z) (ST:=stT Z) (w:=w) hYl s11 s12 s13 s14 s15 (C.lk y hy qs hq) (C.lk gz hg) (C.lw y hy qs hq qa _ w hr) (zxb H hy hp hg rfl hq);refine ⟨_,e,.val (yac qs),.val (oT (mtR gz qa qs)),.val (trT (trO y j qs)),.val (woT qa qs),?_⟩;rw [List.flatMap_append,zz6,ua6,List.flatMap_nil,zzu,zAk])
  refine ⟨.val gz.1.t,s9',s10',s11',s12',?_⟩;rw [hmn];refine (zii rfl rfl (?_:yab G _ _=some (.nx _))).trans rfl;refine (zas (t:=gz.1.t) (U':=[.val N,.val (yaf Z),.val (stT Z),.own X,.val (.tup (yas ((due Z).map trT))),.val y.1.t,.val (.int (j:Int)),.val (Rl.ref qa gz.1.nm w).t,.val gz.1.t,s9,s10,s11,s12,s13,s14,s15]) rfl ?_ rfl).trans ?_
  .rw [zbb];exact (zag (a:=[yaf Z,T.str gz.1.nm]) rfl).trans (C.lt gz hg)
  refine (zat (ss:=[]) (za1 (U0:=[.val N,.val (yaf Z),.val (stT Z),.own X,.val (.tup (yas ((due Z).map trT))),.val y.1.t,.val (.int (j:Int)),.val (Rl.ref qa gz.1.nm w).t,.val gz.1.t,s9,s10,s11,s12,s13,s14,s15]) (xs:=[.tup (y.2.map fun ps=>.tup [yac ps,oT (mtR gz qa ps)])]) (qc:=y.2.map fun ps=>.tup [yac ps,oT (mtR gz qa ps)]) rfl ?_ rfl el)).trans rfl;rw [yad,zbb];exact (zag (a:=T.tup (y.2.map fun ps=>.tup [yac ps,oT (mtR gz qa ps)])) ((zag (a:=[yaf Z,stT Z,T.str y.1.nm,T.int (j:Int)]) rfl).trans (C.mt y hy gz hg qa w j hix))).trans rfl
theorem zto {Z l1 l2:List Zt} {z:Zt} (H:Sto Z) (e:Z=l1++z::l2):(l1.flatMap (mnZ Z)).length<=52:=by
 have h:=zj7 H (sel:=msl Z) (fun y _ p=>zh8 Z y p) e;have e2:∀ l:List Zt,((l.flatMap (mnZ Z)).map (·.1))=l.flatMap (yc2 (msl Z)):=fun l=>by rw [List.map_flatMap];congr 1;funext y;unfold mnZ yc2;rw [List.map_flatMap];congr 1;funext p;exact zh9 Z y p
 rw [<- e2,zzo] at h;exact h
theorem ztq {Z:List Zt} (H:Sto Z) {y:Zt} (hy:y∈Z) (p:Rl × Nat):(mnR Z y p).length<=4:=by have:=zgf H (sel:=msl Z) (fun y _ p=>zh8 Z y p) hy p;rw [<- zh9,zzo] at this;exact this
theorem zp0 {G:Glo} {Z:List Zt} (H:Sto Z) (C:Cal G Z) (N:T):∃ s5 s6 s7 s8 s9 s10 s11 s12,yav (fun x U=>(ya1 [5] x U).bind fun U'=>yab G tbB U') (Z.map fun z=>z.1.t) [.val N,.val (yaf Z),.val (stT Z),.own [],.val (.tup (yas ((due Z).map trT))),.no,.no,.no,.no,.no,.no,.no,.no,.no,.no,.no] =
  some (.nx [.val N,.val (yaf Z),.val (stT Z),.own ((mnL Z).map paT),.val (.tup (yas ((due Z).map trT))),s5,s6,s7,s8,s9,s10,s11,s12,.no,.no,.no]):=by
 obtain ⟨U',el,s5,s6,s7,s8,s9,s10,s11,s12,rfl⟩:=zal (enc:=fun z:Zt=>z.1.t) (f:=fun x U=>(ya1 [5] x U).bind fun U'=>yab G tbB U')
  (fun done U=>∃ (s5 s6 s7 s8 s9 s10 s11 s12:Sl),U=[.val N,.val (yaf Z),.val (stT Z),.own ((done.flatMap (mnZ Z)).map paT),.val (.tup (yas ((due Z).map trT))),s5,s6,s7,s8,s9,s10,s11,s12,.no,.no,.no])
  Z [.val N,.val (yaf Z),.val (stT Z),.own [],.val (.tup (yas ((due Z).map trT))),.no,.no,.no,.no,.no,.no,.no,.no,.no,.no,.no] ⟨_,_,_,_,_,_,_,_,rfl⟩ (by
   rintro l1 y l2 hsp U ⟨s5,s6,s7,s8,s9,s10,s11,s12,rfl⟩;have hy:y∈Z:=by rw [hsp];simp
   have hXl:=zto H hsp;obtain ⟨U',el,s6',s7',s8',s9',s10',s11',s12',rfl⟩:=zal (enc:=fun (q:Rl × Nat)=>T.tup [.int (q.2:Int),q.1.t]) (f:=fun x U=>(ya1 [6,7] x U).bind fun U'=>yab G rlB U')
    (fun done U=>∃ (s6 s7 s8 s9 s10 s11 s12:Sl),U=[.val N,.val (yaf Z),.val (stT Z),.own ((l1.flatMap (mnZ Z)).map paT++(done.flatMap (mnR Z y)).map paT),.val (.tup (yas ((due Z).map trT))),.val y.1.t,s6,s7,s8,s9,s10,s11,s12,.no,.no,.no])
    (y.1.rs.zipIdx 0) [.val N,.val (yaf Z),.val (stT Z),.own ((l1.flatMap (mnZ Z)).map paT),.val (.tup (yas ((due Z).map trT))),.val y.1.t,s6,s7,s8,s9,s10,s11,s12,.no,.no,.no] ⟨_,_,_,_,_,_,_,by rw [List.flatMap_nil,List.map_nil,zzu]⟩ (by
     rintro m1 q m2 hsp2 U ⟨s6,s7,s8,s9,s10,s11,s12,rfl⟩;have hq:q∈y.1.rs.zipIdx 0:=by rw [hsp2];simp
     have hYl:((l1.flatMap (mnZ Z)).map paT++(m1.flatMap (mnR Z y)).map paT).length<=80:=by rw [zzy,zzo,zzo];have h1:=zc2 (f:=mnR Z y) (n:=4) (l:=m1) fun q _=>ztq H hy q;have h2:=zzz List.length hsp2;have h3:=(H.ok y hy).1.rl;simp at h2;omega
     obtain ⟨s8',s9',s10',s11',s12',e⟩:=zlm H C (N:=N) hy hq hYl s8 s9 s10 s11 s12 .no .no .no;refine ⟨_,e,.val (.int (q.2:Int)),.val q.1.t,s8',s9',s10',s11',s12',?_⟩;rw [List.flatMap_append,zz6,ua6,List.flatMap_nil,zzu,zAk])
   refine ⟨[.val N,.val (yaf Z),.val (stT Z),.own ((l1.flatMap (mnZ Z)).map paT++((y.1.rs.zipIdx 0).flatMap (mnR Z y)).map paT),.val (.tup (yas ((due Z).map trT))),.val y.1.t,s6',s7',s8',s9',s10',s11',s12',.no,.no,.no],?_,.val y.1.t,s6',s7',s8',s9',s10',s11',s12',?_⟩
   .exact (zat (ss:=[]) (za1 (xs:=[.tup (y.1.rs.map Rl.t)]) (qc:=(y.1.rs.zipIdx 0).map fun (q:Rl × Nat)=>T.tup [.int (q.2:Int),q.1.t]) (U0:=[.val N,.val (yaf Z),.val (stT Z),.own ((l1.flatMap (mnZ Z)).map paT),.val (.tup (yas ((due Z).map trT))),.val y.1.t,s6,s7,s8,s9,s10,s11,s12,.no,.no,.no]) rfl rfl (by simp only [items,zb4]) el)).trans rfl
   .rw [List.flatMap_append,zz6,ua6,List.flatMap_nil,zzu];rfl)
 exact ⟨s5,s6,s7,s8,s9,s10,s11,s12,el⟩
end
section
variable {G:Glo}
noncomputable def yrC:E:=.comp (.tup [.var 0,.tup [.idx (.var 6) (.cst (.int 0)),.var 16]]) 1 .plain [.call "referring" [.var 1,.var 2,.idx (.var 5) (.cst (.int 0)),.var 15]] none
noncomputable def yrB:List S:=[.asg 15 (.call "_law_key" [.var 5,.var 9]),.asg 13 (.bin .add (.var 13) yrC)]
noncomputable def yzB:List S:=[.loop [9] .plain [.var 14] yrB]
theorem zzd {i:Nat} {e:E} {ss:List S} {U U0 U':List Sl} {t:T} (h0:yae (yah e) U=U0) (h1:evE G e (ygl U0)=some t) (h2:U0.set i (yap e t)=U'):yab G (.asg i e::ss) U=yab G ss U':=zat (by rw [evS,h0,h1,<- h2];rfl)
theorem zrs {Z:List Zt} (H:Sto Z) (C:Cal G Z) {N B:T} {X:List T} {z:Zt} (hz:z∈Z) {ps:Row} (hp:ps∈z.2) {Y:List Pa} (hY:Y.length<=5000) (s6 s7 s8 s10 s11 s12 s15:Sl) {R:T} :
  ∃ K:List Pa,K.Perm (yrZ Z z ps)/\yab G yrB [.val N,.val (yaf Z),.val (stT Z),.own X,.val B,.val z.1.t,s6,s7,s8,.val (yac ps),s10,s11,s12,.own (Y.map paT),.val R,s15] =
   some (.nx [.val N,.val (yaf Z),.val (stT Z),.own X,.val B,.val z.1.t,s6,s7,s8,.val (yac ps),s10,s11,s12,.own ((Y++K).map paT),.val R,.val (kyT z.1 ps)]):=by
 obtain ⟨k,ek,pk⟩:=pmi (zam ((ycy Z (rsl z ps)).map trT)) rfl;have hk:k.length<=60:=by rw [pk.length_eq];exact (zhq H fun y _ p=>zft z ps y p).len
 refine ⟨k.map fun x=>(x,z.1.nm,yan z.1 ps),pk.map _,?_⟩;refine (zas (t:=kyT z.1 ps) (U':=[.val N,.val (yaf Z),.val (stT Z),.own X,.val B,.val z.1.t,s6,s7,s8,.val (yac ps),s10,s11,s12,.own (Y.map paT),.val R,.val (kyT z.1 ps)]) rfl ?_ rfl).trans ?_
 .rw [zbb];exact (zag (a:=[z.1.t,yac ps]) rfl).trans (C.lk z hz ps hp)
 have hc:evE G yrC [some N,some (yaf Z),some (stT Z),none,some B,some z.1.t,s6.get,s7.get,s8.get,some (yac ps),s10.get,s11.get,s12.get,some (.lst (Y.map paT)),some R,some (kyT z.1 ps)]=some (.lst (k.map fun x=>paT (x,z.1.nm,yan z.1 ps))):=by
  refine ziq (enc:=trT) (fun x=>paT (x,z.1.nm,yan z.1 ps)) (xs:=[.tup (k.map trT)]) ?_ ?_ fun x _=>⟨some (trT x)::[some N,some (yaf Z),some (stT Z),none,some B,some z.1.t,s6.get,s7.get,s8.get,some (yac ps),s10.get,s11.get,s12.get,some (.lst (Y.map paT)),some R,some (kyT z.1 ps)],rfl,rfl⟩
  .rw [yad,zbb,<- ek];exact (zag (a:=T.tup (yas ((ycy Z (rsl z ps)).map trT))) ((zag (a:=[yaf Z,stT Z,T.str z.1.nm,kyT z.1 ps]) rfl).trans (C.rf z hz ps hp))).trans rfl
  .show (if (k.map trT).length<=SZ then some (k.map trT) else none)=_;rw [if_pos (by rw [zzo];unfold SZ;omega)]
 refine (zzd (t:=.lst ((Y++k.map fun x=>(x,z.1.nm,yan z.1 ps)).map paT)) (U0:=[.val N,.val (yaf Z),.val (stT Z),.own X,.val B,.val z.1.t,s6,s7,s8,.val (yac ps),s10,s11,s12,.val (.lst (Y.map paT)),.val R,.val (kyT z.1 ps)]) rfl ?_ rfl).trans rfl;rw [evE];refine (zag (a:=T.lst (Y.map paT)) rfl).trans ((zag hc).trans ?_);show (if (Y.map paT).length+(k.map fun x=>paT (x,z.1.nm,yan z.1 ps)).length<=SZ then some (T.lst (Y.map paT++k.map fun x=>paT (x,z.1.nm,yan z.1 ps))) else none)=_;rw [if_pos (by rw [zzo,zzo];unfold SZ;omega),zz6,zAe];rfl
theorem zkz {Z:List Zt} (H:Sto Z) (z:Zt) (ps:Row):(yrZ Z z ps).length<=60:=by unfold yrZ;rw [zzo];exact (zhq H fun y _ p=>zft z ps y p).len
theorem zk0 {Z:List Zt} (H:Sto Z) (C:Cal G Z) (N B:T) (X:List T) (s5 s6 s7 s8 s9 s10 s11 s12:Sl):∃ (Y:List Pa) (s5' s9' s14 s15:Sl),Y.Perm (yrL Z)/\yav (fun x U=>(ya1 [5,14] x U).bind fun U'=>yab G yzB U') (Z.map fun z=>T.tup [z.1.t,rwT z]) [.val N,.val (yaf Z),.val (stT Z),.own X,.val B,s5,s6,s7,s8,s9,s10,s11,s12,.own [],.no,.no] =
  some (.nx [.val N,.val (yaf Z),.val (stT Z),.own X,.val B,s5',s6,s7,s8,s9',s10,s11,s12,.own (Y.map paT),s14,s15]):=by
 obtain ⟨U',el,Y,s5',s9',s14',s15',hY,rfl⟩:=zal (enc:=fun z:Zt=>T.tup [z.1.t,rwT z]) (f:=fun x U=>(ya1 [5,14] x U).bind fun U'=>yab G yzB U')
  (fun done U=>∃ (Y:List Pa) (s5 s9 s14 s15:Sl),Y.Perm (done.flatMap fun z=>z.2.flatMap (yrZ Z z))/\U=[.val N,.val (yaf Z),.val (stT Z),.own X,.val B,s5,s6,s7,s8,s9,s10,s11,s12,.own (Y.map paT),s14,s15])
  Z [.val N,.val (yaf Z),.val (stT Z),.own X,.val B,s5,s6,s7,s8,s9,s10,s11,s12,.own [],.no,.no] ⟨[],_,_,_,_,.refl _,rfl⟩ (by
   rintro l1 z l2 hsp U ⟨Y,s5,s9,s14,s15,hY,rfl⟩;have hz:z∈Z:=by rw [hsp];simp
   have hl:=(H.ok z hz).2.1;have hYl:Y.length<=960:=by
    rw [hY.length_eq];have h1:=zc2 (f:=fun z:Zt=>z.2.flatMap (yrZ Z z)) (n:=240) (l:=l1) fun y hy=>by have h2:=zc2 (f:=yrZ Z y) (n:=60) (l:=y.2) fun ps _=>zkz H y ps;have h3:=(H.ok y (by rw [hsp];simp [hy])).2.1;omega
    have h2:=zzz List.length hsp;have h3:=H.l4;simp at h2;omega
   obtain ⟨U',el,Y',s9',s15',hY',rfl⟩:=zal (enc:=yac) (f:=fun x U=>(ya1 [9] x U).bind fun U'=>yab G yrB U')
    (fun done U=>∃ (Y':List Pa) (s9 s15:Sl),Y'.Perm (Y++done.flatMap (yrZ Z z))/\U=[.val N,.val (yaf Z),.val (stT Z),.own X,.val B,.val z.1.t,s6,s7,s8,s9,s10,s11,s12,.own (Y'.map paT),.val (rwT z),s15])
    z.2 [.val N,.val (yaf Z),.val (stT Z),.own X,.val B,.val z.1.t,s6,s7,s8,s9,s10,s11,s12,.own (Y.map paT),.val (rwT z),s15] ⟨Y,_,_,by rw [List.flatMap_nil,zzu],rfl⟩ (by
     rintro m1 ps m2 hsp2 U ⟨Y',s9,s15,hY',rfl⟩;have hp:ps∈z.2:=by rw [hsp2];simp
     have hYl':Y'.length<=5000:=by rw [hY'.length_eq,zzy];have h1:=zc2 (f:=yrZ Z z) (n:=60) (l:=m1) fun ps _=>zkz H z ps;have h2:=zzz List.length hsp2;simp at h2;omega
     obtain ⟨K,hK,e⟩:=zrs H C (N:=N) (B:=B) (X:=X) hz hp hYl' s6 s7 s8 s10 s11 s12 s15 (R:=rwT z);refine ⟨_,e,Y'++K,.val (yac ps),.val (kyT z.1 ps),?_,rfl⟩;rw [List.flatMap_append,ua6,List.flatMap_nil,zzu,<- zAk];exact hY'.append hK)
   refine ⟨[.val N,.val (yaf Z),.val (stT Z),.own X,.val B,.val z.1.t,s6,s7,s8,s9',s10,s11,s12,.own (Y'.map paT),.val (rwT z),s15'],?_,Y',.val z.1.t,s9',.val (rwT z),s15',?_,rfl⟩
   .exact (zat (ss:=[]) (za1 (xs:=[rwT z]) (qc:=z.2.map yac) (U0:=[.val N,.val (yaf Z),.val (stT Z),.own X,.val B,.val z.1.t,s6,s7,s8,s9,s10,s11,s12,.own (Y.map paT),.val (rwT z),s15]) rfl rfl rfl el)).trans rfl
   .rw [List.flatMap_append,ua6,List.flatMap_nil,zzu];exact hY'.trans (hY.append_right _))
 exact ⟨Y,s5',s9',s14',s15',hY,el⟩
end
section
theorem zhf:zez.body=[.asg 1 (.call "_law_schema" [.call "_law_mixed" [.var 0,.cst (.int 0)]]),
  .asg 2 (.call "_law_loose" [.var 1,.call "_law_mixed" [.var 0,.cst (.int 1)]]),
  .asg 3 (.lst []),.asg 4 (.call "breaks" [.var 1,.var 2]),.loop [5] .plain [.var 1] tbB,.asg 13 (.lst []),.loop [5,14] .zip [.var 1,.var 2] yzB,
  .ret (.cmp .eq (.blt .sorted (.var 3)) (.blt .sorted (.var 13)))]:=rfl
theorem ztu {G:Glo} {Z:List Zt} (H:Sto Z) (C:Cal G Z) {N:T} {a b:Int} (em0:G.call "_law_mixed" [N,.int 0]=some (.int a)) (em1:G.call "_law_mixed" [N,.int 1]=some (.int b))
  (es:G.call "_law_schema" [.int a]=some (yaf Z)) (ez:G.call "_law_loose" [yaf Z,.int b]=some (stT Z)) (eb:G.call "breaks" [yaf Z,stT Z]=some (.tup (yas ((due Z).map trT)))) :
  yab G zez.body [.val N,.no,.no,.no,.no,.no,.no,.no,.no,.no,.no,.no,.no,.no,.no,.no]=some (.rt (.bl true)):=by
 rw [zhf];refine (zas (t:=yaf Z) (U':=[.val N,.val (yaf Z),.no,.no,.no,.no,.no,.no,.no,.no,.no,.no,.no,.no,.no,.no]) rfl ?_ rfl).trans ?_
 .rw [zbb,yad,zbb];exact (zag (a:=[T.int a]) ((zag (a:=T.int a) ((zag (a:=[N,T.int 0]) rfl).trans em0)).trans rfl)).trans es
 refine (zas (t:=stT Z) (U':=[.val N,.val (yaf Z),.val (stT Z),.no,.no,.no,.no,.no,.no,.no,.no,.no,.no,.no,.no,.no]) rfl ?_ rfl).trans ?_
 .rw [zbb,yad,yad,zbb];exact (zag (a:=[yaf Z,T.int b]) ((zag (a:=yaf Z) rfl).trans ((zag (a:=[T.int b]) ((zag (a:=T.int b) ((zag (a:=[N,T.int 1]) rfl).trans em1)).trans rfl)).trans rfl))).trans ez
 refine (zas (t:=.lst []) (U':=[.val N,.val (yaf Z),.val (stT Z),.own [],.no,.no,.no,.no,.no,.no,.no,.no,.no,.no,.no,.no]) rfl rfl rfl).trans ?_;refine (zas (t:=.tup (yas ((due Z).map trT))) (U':=[.val N,.val (yaf Z),.val (stT Z),.own [],.val (.tup (yas ((due Z).map trT))),.no,.no,.no,.no,.no,.no,.no,.no,.no,.no,.no]) rfl ?_ rfl).trans ?_
 .rw [zbb];exact (zag (a:=[yaf Z,stT Z]) rfl).trans eb
 obtain ⟨s5,s6,s7,s8,s9,s10,s11,s12,e1⟩:=zp0 H C N;refine (zat (za1 (xs:=[yaf Z]) (qc:=Z.map fun z=>z.1.t) (U0:=[.val N,.val (yaf Z),.val (stT Z),.own [],.val (.tup (yas ((due Z).map trT))),.no,.no,.no,.no,.no,.no,.no,.no,.no,.no,.no]) rfl rfl rfl e1)).trans ?_;refine (zas (t:=.lst []) (U':=[.val N,.val (yaf Z),.val (stT Z),.own ((mnL Z).map paT),.val (.tup (yas ((due Z).map trT))),s5,s6,s7,s8,s9,s10,s11,s12,.own [],.no,.no]) rfl rfl rfl).trans ?_;obtain ⟨Y,s5',s9',s14,s15,hY,e2⟩:=zk0 H C N (.tup (yas ((due Z).map trT))) ((mnL Z).map paT) s5 s6 s7 s8 s9 s10 s11 s12;refine (zat (za1 (xs:=[yaf Z,stT Z]) (qc:=Z.map fun y=>T.tup [y.1.t,rwT y]) (U0:=[.val N,.val (yaf Z),.val (stT Z),.own ((mnL Z).map paT),.val (.tup (yas ((due Z).map trT))),s5,s6,s7,s8,s9,s10,s11,s12,.own [],.no,.no]) rfl rfl (by show some (yck (Z.map fun z=>z.1.t) (Z.map rwT))=_;rw [zof]) e2)).trans ?_;obtain ⟨hYo,eY⟩:=zs2 (ztp H) ((ztn H).trans hY.symm);refine zeo ?_;rw [evS];refine (zzz (Option.map Out.rt) (?_:evE G (.cmp .eq (.blt .sorted (.var 3)) (.blt .sorted (.var 13))) [some N,some (yaf Z),some (stT Z),some (.lst ((mnL Z).map paT)),some (.tup (yas ((due Z).map trT))),s5'.get,s6.get,s7.get,s8.get,s9'.get,s10.get,s11.get,s12.get,some (.lst (Y.map paT)),s14.get,s15.get]=some (.bl true))).trans rfl;rw [evE,zbk,zbk];refine (zag (a:=T.lst (yas ((mnL Z).map paT))) ((zag (a:=T.lst ((mnL Z).map paT)) rfl).trans (zle (ztp H)))).trans ?_;refine (zag (a:=T.lst (yas (Y.map paT))) ((zag (a:=T.lst (Y.map paT)) rfl).trans (zle hYo))).trans ?_;rw [<- eY];exact zsc (mnL Z)
theorem zmq {P:Pr} (hc:P.fn "_law_cell_at"=some za7) (hm:P.fn "_law_mixed"=some zcj) (hd:P.fn "_law_drawn"=some zaq) (ht:P.fn "_law_test"=some zau) (hp:P.fn "_law_pairs"=some za4) (hr:P.fn "_law_rule"=some zax)
  (hb:P.fn "_law_bare"=some za8) (hs:P.fn "_law_schema"=some zb5) (hw:P.fn "_law_worth"=some zao) (hrw:P.fn "_law_row"=some zdm) (hlo:P.fn "_law_loose"=some zc9) (hnm:P.fn "_law_names"=some zbl) (hky:P.fn "_law_key"=some zca) (htb:P.fn "_law_table"=some zc8) (hwo:P.fn "_law_worths"=some zby) (p:Prg P) (hbr:P.fn "breaks"=some zf9)
  (hsk:P.fn "is_same_key"=some zba) (hro:P.fn "row_of"=some zdk) (hmt:P.fn "matched"=some zdl) (hrf:P.fn "referring"=some zci) (hl:P.fn "law"=some zez) (ns:List Int) :
  run P 20 "law" [.lst (ns.map .int)]=some (.bl true):=by
 obtain ⟨S,es,hSl,hSo,hSp,hSn,hSf⟩:=zhx hd ht hp hr hb hs 12 (ybw (ybz ns 0) 0);have em0:(glo P (run P 19)).call "_law_mixed" [.lst (ns.map .int),.int 0]=some (.int (ybw (ybz ns 0) 0)):=zgy hc hm 17 ns 0;have em1:(glo P (run P 19)).call "_law_mixed" [.lst (ns.map .int),.int 1]=some (.int (ybw (ybz ns 1) 1)):=zgy hc hm 17 ns 1;obtain ⟨Z,ez,hZS,hZ⟩:=zmj hd hw hrw hnm hky hlo 16 hSo hSl (ybw (ybz ns 1) 1);subst hZS;have eS:T.tup ((Z.map (·.1)).map Tb.t)=yaf Z:=by rw [zAe];rfl
 have es':(glo P (run P 19)).call "_law_schema" [.int (ybw (ybz ns 0) 0)]=some (yaf Z):=by rw [<- eS];exact es
 have ez':(glo P (run P 19)).call "_law_loose" [yaf Z,.int (ybw (ybz ns 1) 1)]=some (stT Z):=by rw [<- eS];exact ez
 have H:Sto Z:=by exact zut (by simpa using hSl) (by rw [List.map_map] at hSn;exact hSn) hSo hSf hZ
 have eb:(glo P (run P 19)).call "breaks" [yaf Z,stT Z]=some (.tup (yas ((due Z).map trT))):=zkv p hbr 12 H;have C:Cal (glo P (run P 19)) Z:=⟨fun z hz qs hq=>zjo hnm hky 17 (H.ok z hz).1 ((H.ok z hz).2.2 qs hq),fun g hg=>yex htb 18 H hg,
  fun z hz qs hq qa g w hr=>zwu hnm hwo 17 (H.ok z hz).1 ((H.ok z hz).2.2 qs hq) (H.fit z hz _ hr).1 ((H.ok z hz).1.rs _ hr).2.1,
  fun z hz g hg qa w j hj=>zwq p hmt 15 H hz hg (H.fit z hz _ (zAm hj)).1 ((H.ok z hz).1.rs _ (zAm hj)).2.1 hj,
  fun z hz ps hq=>zu8 p hsk hro hrf 15 H hz hq⟩
 have h0:=ztu H C em0 em1 es' ez' eb;rw [zaf hl rfl];exact (zzz zaa h0).trans rfl
end
end Ev.K04
section
section
lay_quick PySem.Challenge.pw_dealtables_k53_whole_who_refers_to_whom
namespace Ev
open PySem Spec PyProof.Rows L2 K04
noncomputable def pT:Program:=PySem.W.Fast.tw4248257237681244469
theorem ye4:PySem.Challenge.pw_dealtables_k53_whole_who_refers_to_whom=pT:=PySem.W.Fast.te4248257237681244469
noncomputable def top (i:Nat):Stmt:=pT.main.body.getD i (.Pass ⟨0,0,0,0⟩)
noncomputable def tab:Tab:=("table_of",zb9,top 4,["schema", "name"])::("worths_of",zan,top 5,["table", "row", "names"])::("holds",zbm,top 7,["table", "test", "row"])::("opposite",zbr,top 8,["answer"])::("joined",zdn,top 9,["settling", "answers"])::("compared",zay,top 10,["word", "worths"])::("key_of",zck,top 12,["table", "row"])::("rows_of",zcr,top 13,["schema", "store", "name"])::("rows_by_key",za6,top 14,["schema", "store", "name"])::("row_of",zdk,top 15,["schema", "store", "name", "key"])::("is_same_key",zba,top 16,["key", "thing"])::("is_kept",ze0,top 17,["table", "row", "rule"])::("key_referred_to",zar,top 18,["table", "rule", "row"])::("references_by",zbp,top 19,["table", "rule", "rows"])::("breaks",zf9,top 20,["schema", "store"])::("keys_that_break",za9,top 21,["schema", "store", "table", "rule"])::("keys_alike",zcs,top 22,["table", "rule", "rows"])::("keys_referring_to_none",zaj,top 23,["schema", "store", "table", "rule"])::("matched",zdl,top 25,["schema", "store", "name", "number"])::("referring",zci,top 26,["schema", "store", "name", "key"])::("_law_cell_at",za7,top 28,["_law_script", "_law_k"])::("_law_mixed",zcj,top 29,["_law_script", "_law_k"])::("_law_drawn",zaq,top 30,["_law_number", "_law_k"])::("_law_names",zbl,top 31,["_law_table_here"])::("_law_table",zc8,top 32,["_law_schema_here", "_law_name"])::("_law_key",zca,top 33,["_law_table_here", "_law_row_here"])::("_law_worths",zby,top 34,["_law_table_here", "_law_row_here", "_law_columns"])::("_law_test",zau,top 36,["_law_table_here", "_law_number", "_law_deep"])::("_law_bare",za8,top 37,["_law_name", "_law_number"])::("_law_pairs",za4,top 38,["_law_table_here", "_law_kinds"])::("_law_rule",zax,top 39,["_law_bare_here", "_law_table_here", "_law_number"])::("_law_schema",zb5,top 40,["_law_number"])::("_law_worth",zao,top 41,["_law_column", "_law_number"])::("_law_row",zdm,top 42,["_law_table_here", "_law_number"])::("_law_loose",zc9,top 43,["_law_schema_here", "_law_number"])::("law",zez,top 44,["_law_script"])::[]
noncomputable def cons:List (Str × T):=[]
theorem ygk:(tab.all fun p=>yf8 p.2.1 p.2.2.1 p.2.2.2)=true:=by kernel_rfl
theorem yfw:(tab.map fun p=>ydl 60 ⟨zab p.2.2.1,zbd (zab p.2.2.1)⟩ (zbq p.2.2.1))=tab.map fun p=>some p.2.1.body:=by kernel_rfl
theorem tab_st:∀ p∈tab,St p.1 p.2.1 p.2.2.1 p.2.2.2:=fun p hp=>zye (oml ygk p hp) (List.map_inj_left.mp yfw p hp)
theorem law_mem:(("law":Str),zez,top 44,[("_law_script":Str)])∈tab:=(.tail _ (.tail _ (.tail _ (.tail _ (.tail _ (.tail _ (.tail _ (.tail _ (.tail _ (.tail _ (.tail _ (.tail _ (.tail _ (.tail _ (.tail _ (.tail _ (.tail _ (.tail _ (.tail _ (.tail _ (.tail _ (.tail _ (.tail _ (.tail _ (.tail _ (.tail _ (.tail _ (.tail _ (.tail _ (.tail _ (.tail _ (.tail _ (.tail _ (.tail _ (.tail _ (.head _))))))))))))))))))))))))))))))))))))
theorem law_pure:∀ ns:List Int,ns.length<=63->run (tab.pr cons) 20 "law" [.lst (ns.map .int)]=some (.bl true):=fun ns _=>K04.zmq rfl rfl rfl rfl rfl rfl rfl rfl rfl rfl rfl rfl rfl rfl rfl ⟨rfl,rfl,rfl,rfl,rfl,rfl,rfl,rfl,rfl,rfl,rfl,rfl,rfl,rfl,rfl⟩ rfl rfl rfl rfl rfl rfl ns
end Ev
end
end
section
section
namespace Ev
open PySem PySem.Spec PySem.W PyProof.Rows L2
noncomputable def qT:Program:=PySem.W.view pT [1,2,4,5,7,8,9,10,12,13,14,15,16,17,18,19,20,21,22,23,25,26,28,29,30,31,32,33,34,35,36,37,38,39,40,41,42,43,44]
noncomputable def xT (s:Shared):Bool:=xlAt qT [] s&&recOk [] s
noncomputable def sts:List (Str × Stmt):=("table_of",top 4)::("worths_of",top 5)::("holds",top 7)::("opposite",top 8)::("joined",top 9)::("compared",top 10)::("key_of",top 12)::("rows_of",top 13)::("rows_by_key",top 14)::("row_of",top 15)::("is_same_key",top 16)::("is_kept",top 17)::("key_referred_to",top 18)::("references_by",top 19)::("breaks",top 20)::("keys_that_break",top 21)::("keys_alike",top 22)::("keys_referring_to_none",top 23)::("matched",top 25)::("referring",top 26)::("_law_cell_at",top 28)::("_law_mixed",top 29)::("_law_drawn",top 30)::("_law_names",top 31)::("_law_table",top 32)::("_law_key",top 33)::("_law_worths",top 34)::("_law_test",top 36)::("_law_bare",top 37)::("_law_pairs",top 38)::("_law_rule",top 39)::("_law_schema",top 40)::("_law_worth",top 41)::("_law_row",top 42)::("_law_loose",top 43)::("law",top 44)::[]
noncomputable def hkT:Hook:=zlj sts ("_law_spoilt"::bnames) cons
noncomputable def hdL (w:World):=(openEnds treeTable pT w 3210).map fun s=>(openSeen qT [("DealError":Str)] (importedModules pT.main.body) xT true s,ybd (sts.map (·.1)) ("_law_spoilt"::bnames) (cons.map (·.1)) s.heap)
noncomputable def hdR (w:World):=some (openGood qT [("DealError":Str)],ybc sts ("_law_spoilt"::bnames) cons)
lay_quick Ev.hdL Ev.hdR
theorem yep:∀ w,PySem.W.Fast.tw16613198539260469538 w=PySem.W.Fast.tw4742246816059606431 w:=fun w=>by kernel_rfl
theorem hd_left':LeftO PySem.Challenge.pw_dealtables_k53_whole_who_refers_to_whom qT [("DealError":Str)] xT hkT.obs hkT.val 3210:=by rw [ye4];exact fun w=>((congrFun PySem.W.Fast.te16613198539260469538 w).trans (yep w)).trans (congrFun PySem.W.Fast.te4742246816059606431 w).symm
theorem nm_law:("law":Str)=⟨#[108,97,119]⟩:=by decide +kernel
noncomputable def dL:DefRec:=⟨⟨#[108,97,119]⟩,zch (top 44),zbq (top 44),zab (top 44),(match top 44 with | .FunctionDef _ _ _ _ _ _ _ _ _ p=>p | _=>⟨0,0,0,0⟩)⟩
theorem hd_def:defOf qT ("law":Str)=some (dL,[]):=by rw [nm_law];kernel_rfl
theorem hd_the:Program.theDef PySem.Challenge.pw_dealtables_k53_whole_who_refers_to_whom ("law":Str)=some (dL.params,dL.body,dL.scope):=by rw [ye4,nm_law];kernel_rfl
end Ev
open PySem PySem.W PyProof.Rows
set_option maxRecDepth 100000 in
set_option maxHeartbeats 0 in
theorem PySem.Challenge.cw_dealtables_k53_whole_who_refers_to_whom_holds : PySem.Challenge.rw_dealtables_k53_whole_who_refers_to_whom.Holds := by
 w_on;o_law
 refine PySem.W.holds_open (q:=Ev.qT) (loose:=[("DealError":Str)]) (Xt:=Ev.xT) (XP:=XL Ev.qT []) (Yf:=Ev.hkT.obs) (Ya:=Ev.hkT.val) (YP:=Ev.hkT.says) (N:=3210) Ev.hd_left' Ev.hkT.of Ev.hkT.keeps (fun s e=>xl_of s (Bool.and_eq_true_iff.mp e).1) XL.keeps Ev.hd_def Ev.hd_the rfl (fun s e=>recFacts_of (Bool.and_eq_true_iff.mp e).2) rfl (by assumption) (by first | k_qdec | decide +kernel) ⟨rfl,rfl,rfl,rfl,rfl,by decide +kernel⟩ ?hw ?hc
 case hw=>w_witness2
 case hc=>exact Ev.zol (l:=PySem.Challenge.rw_dealtables_k53_whole_who_refers_to_whom) (n:=63) (k:=20) (x:="_law_script") (fs:=Ev.tab.sts) (R:=Ev.tab.pr Ev.cons) rfl (by decide) rfl ⟨rfl,by decide,by decide⟩ (fun w mg fa h0 h KX e0 G hmg=>Ev.zum Ev.tab_st KX e0 G (by rw [Ev.nm_law];exact hmg) Ev.law_mem rfl) (.head _) Ev.law_pure
end
end
