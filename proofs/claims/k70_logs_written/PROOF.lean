import PyProof.Rows.All
import Wide.All
import OpenK.AllK
import Wide.FinOn
import Lean
import PyProof.EqAt
import PyProof.EqKinds
import PyProof.TupleCall
import PySem.Syntax
import PySem.Builtin.Str.Common
import PyProof.StrBlock
import PySem.Eval
import PyProof.CompFree
import PyProof.Cells
import PyProof.NeKinds
import PyProof.FString5
import PyProof.Draws
import PyProof.EnumMake
import PyProof.TupleIter
import PyProof.EnumFor
import KE.KSortTup
import KE.KDictSum
import KE.KItemsList
import PyProof.IsiH_list
import PyProof.AttrMiss
import KE.KDictOf
import PyProof.ZipIter
import PySem.Challenge.RW_dealtables_k70_logs_written
set_option Elab.async false
set_option linter.all false
set_option maxRecDepth 100000
set_option maxHeartbeats 8000000
set_option genSizeOf false
set_option bootstrap.genMatcherCode false
theorem Ev.lw_ok:PySem.Challenge.rw_dealtables_k70_logs_written.wellSaid=true:=by kernel_rfl
noncomputable section
open PySem Spec PyProof.Rows
def ua0:=@List.mem_map
def ua1:=@List.mem_cons
def ua2:=@eq_of_beq
def ua3:=@List.size_toArray
def ua4:=@List.getElem?_set_self
def ua5:=@List.getElem_mem
def ua6:=@List.nodup_cons
def ua7:=@List.map_congr_left
def ua8:=@beq_self_eq_true
def ua9:=@List.filter_cons
def ub0:=@List.length_set
def ub1:=@Array.getElem?_eq_getElem
def ub2:=@Heap.SameBut.update
def ub3:=@wpAny_field
def ub4:=@sizeLine_eq
def ub5:=@List.mem_of_mem_take
def ub6:=@List.any_cons
def ub7:=@wpAny_pyIter_tuple
def ub8:=@List.mem_filter
def ub9:=@Int.emod_lt_of_pos
def uc0:=@List.all_eq_true
def uc1:=@wpAny_holding
def uc2:=@beq_eq_false_iff_ne
def uc3:=@List.getElem?_append_right
def uc4:=@List.getElem?_append_left
def uc5:=@Int.emod_nonneg
def uc6:=@wpAny_dictEntries
def uc7:=@Heap.get?_update_ne
def uc8:=@wpAny_typeNameOfWhole_keyiter
def uc9:=@wpAny_seqItems
def ud0:=@wpAny_fieldsOf
def ud1:=@List.nodup_nil
def ud2:=@List.pairwise_cons
def ud3:=@wpAny_setField_rec
def ud4:=@Obj.data_mapFields
def ud5:=@List.length_append
def ud6:=@List.mem_filterMap
def ud7:=@List.getElem?_eq_none
def ud8:=@Option.bind_eq_some_iff
def ud9:=@List.mem_append
def ue0:=@List.mem_singleton
def ue1:=@List.mem_flatMap
def ue2:=@Nat.succ_le_succ
def ue3:=@beq_iff_eq
def zyx:=@Option.bind_some
def zyy:=@List.getElem?_cons_zero
def zyz:=@Heap.get?_push_of_some
def zy0:=@List.getElem?_cons_succ
def zy1:=@List.map_cons
def zy2:=@wpAny_bind
def zy3:=@List.length_map
def zy4:=@List.length_append
def zy5:=@List.getElem?_eq_getElem
def zy6:=@List.size_toArray
def zy7:=@Bool.and_eq_true
def zy8:=@Heap.get?_push_size
def zy9:=@wpAny_pure
def zza:=@Nat.le_refl
def zzb:=@List.length_cons
def zzc:=@List.mem_cons_of_mem
def zzd:=@Heap.lt_size
def zze:=@congrArg
def zzf:=@List.getD_eq_getElem?_getD
def zzg:=@List.mem_cons_self
def zzh:=@Heap.size_push
def zzi:=@Nat.lt_of_lt_of_le
def zzj:=@decide_eq_true
def zzk:=@decide_eq_false
def zzl:=@Option.some.inj
def zzm:=@List.append_nil
def zzn:=@List.map_map
def zzo:=@Nat.ne_of_lt
def zzp:=@Nat.zero_le
def zzq:=@List.map_append
def zzr:=@List.getElem?_map
def zzs:=@Nat.le_trans
def zzt:=@Array.length_toList
def zzu:=@List.lookup_cons
def zzv:=@List.filterMap_cons
def zzw:=@List.getElem?_set_ne
def zzx:=@Bool.false_ne_true
def zzy:=@List.mem_append_right
def zzz:=@List.getElem?_append_left
def zz0:=@List.length_singleton
def zz1:=@wpAny_callSpecial?_slot
def zz2:=@List.getElem?_append_right
def zz3:=@Nat.lt_irrefl
def zz4:=@wpAny_newObj_type
def zz5:=@wpAny_call_entry
def zz6:=@List.not_mem_nil
def zz7:=@decide_eq_true_eq
def zz8:=@List.append_assoc
def zz9:=@Array.getElem?_toList
def zAa:=@List.length_take
def zAb:=@Bool.false_eq_true
def zAc:=@of_decide_eq_true
def zAd:=@List.length_range
def zAe:=@Int.toNat_natCast
def zAf:=@List.mem_of_getElem?
theorem xgz {α:Type _} {a:α} {l:List α}:(a::l)[0]?=some a:=rfl
theorem xgs {α:Type _} {a:α} {l:List α} {i:Nat}:(a::l)[i+1]?=l[i]?:=rfl
theorem xbs {α β:Type _} {a:α} {f:α->Option β}:(some a).bind f=f a:=rfl
theorem xjs {α:Type _} {a:Option α}:(some a).join=a:=rfl
theorem xmc {α β:Type _} {a:α} {l:List α} {f:α->β}:(a::l).map f=f a::l.map f:=rfl
theorem xmn {α β:Type _} {f:α->β}:[].map f=[]:=rfl
theorem xms {α β:Type _} {a:α} {f:α->β}:(some a).map f=some (f a):=rfl
theorem xss {α:Type _} {a b:α} {l:List α} {n:Nat}:(a::l).set (n+1) b=a::l.set n b:=rfl
theorem xsz {α:Type _} {a b:α} {l:List α}:(a::l).set 0 b=b::l:=rfl
end
theorem obs {α β:Type} {o:Option α} {f:α->Option β} {b:β}:o.bind f=some b->∃ a,o=some a/\f a=some b:=ud8.mp
theorem oms {α β:Type} {o:Option α} {f:α->β} {b:β}:o.map f=some b->∃ a,o=some a/\f a=b:=Option.map_eq_some_iff.mp
theorem omc {α:Type} {a b:α} {l:List α}:a∈b::l->a=b\/a∈l:=ua1.mp
theorem oma {α:Type} {a:α} {s t:List α}:a∈s++t->a∈s\/a∈t:=ud9.mp
theorem omm {α β:Type} {f:α->β} {l:List α} {b:β}:b∈l.map f->∃ a,a∈l/\f a=b:=ua0.mp
theorem omg {α:Type} {a b:α}:a∈[b]->a=b:=ue0.mp
theorem oml {α:Type} {p:α->Bool} {l:List α}:l.all p=true->∀ x,x∈l->p x=true:=uc0.mp
theorem ome {α:Type} {l:List α} {i:Nat} {a:α}:l[i]?=some a->∃ h:i<l.length,l[i]=a:=List.getElem?_eq_some_iff.mp
section
namespace L2
open PySem Spec PyProof.Rows
section
abbrev Key:=Sum Int (Option Str)
def ybz:Value->Bool
 | .none=>true
 | _=>false
theorem zh1 {v:Value} (h:ybz v=true):v=Value.none:=by cases v<;>first | rfl | cases h
def yc9:Key->Value->Bool
 | .inl k,v=>Value.isInt k v
 | .inr (some x),v=>Value.isStrOf x v
 | .inr none,v=>ybz v
def keyH (w:World):Key->Int
 | .inl k=>hashInt k
 | .inr (some x)=>hashStr w x
 | .inr none=>4238894112
theorem zay:∀ {k:Key} {v:Value},yc9 k v=true->(∃ i t,k=Sum.inl i/\v=Value.int i t)\/(∃ x t,k=Sum.inr (some x)/\v=Value.str x t)\/(k=Sum.inr none/\v=Value.none)
 | .inl i,v,h=>by obtain ⟨t,e⟩:=Value.isInt_shape (k:=i) (v:=v) h;exact .inl ⟨i,t,rfl,e⟩
 | .inr (some x),v,h=>by obtain ⟨t,e⟩:=Value.isStrOf_shape (x:=x) (v:=v) h;exact .inr (.inl ⟨x,t,rfl,e⟩)
 | .inr none,v,h=>.inr (.inr ⟨rfl,zh1 h⟩)
theorem zmh (i:Int) (t:Tok):yc9 (.inl i) (.int i t)=true:=by simp [yc9,Value.isInt]
theorem zmg (x:Str) (t:Tok):yc9 (.inr (some x)) (.str x t)=true:=by simp [yc9,Value.isStrOf]
theorem zwt (a b:Int):decide ((Sum.inl a:Key)=Sum.inl b)=(a==b):=by
 by_cases e:a=b
 .subst e;simp
 .have h:¬ (Sum.inl a:Key)=Sum.inl b:=fun q=>e (Sum.inl.inj q);rw [zzk h];exact (uc2.mpr e).symm
theorem zwp (a b:Str):decide ((Sum.inr (some a):Key)=Sum.inr (some b))=decide (a=b):=by
 by_cases e:a=b
 .subst e;simp
 .have h:¬ (Sum.inr (some a):Key)=Sum.inr (some b):=fun q=>e (zzl (Sum.inr.inj q));rw [zzk h,zzk e]
theorem zqs (a:Int) (b:Option Str):decide ((Sum.inl a:Key)=Sum.inr b)=false:=zzk (fun q=>nomatch q)
theorem zqr (a:Option Str) (b:Int):decide ((Sum.inr a:Key)=Sum.inl b)=false:=zzk (fun q=>nomatch q)
theorem zwo (a:Str):decide ((Sum.inr (some a):Key)=Sum.inr none)=false:=zzk (fun q=>nomatch (Sum.inr.inj q))
theorem zwq (a:Str):decide ((Sum.inr none:Key)=Sum.inr (some a))=false:=zzk (fun q=>nomatch (Sum.inr.inj q))
theorem zwr:decide ((Sum.inr none:Key)=Sum.inr none)=true:=zzj rfl
theorem zd0 {prog:Program} {w:World} {A:Around} {E:Value->Shared->Prop} {s:Shared} {Q:Int->Shared->Prop} (h:Q 4238894112 { s with toks:=s.toks+1 }):wpAny (model prog w) A (PySem.pyHash .none) Q E s :=
 PySem.W.pyHash_slot (T:="NoneType") rfl PySem.F.slot_NoneType_hash PySem.F.entry_NoneType_hash (PySem.F.args_NoneType_hash_1 _) (beq_builtin_none _) (.inl rfl) (zy2 (zy9 (zy2 (wpAny_mkInt (zy9 ⟨_,_,rfl,h⟩)))))
def zax (prog:Program) (w:World):PySem.KeyKind prog w Key where
 is:=yc9
 hash:=keyH w
 inj:=fun v a b ha hb=>by rcases zay ha with ⟨i,t,rfl,rfl⟩ | ⟨x,t,rfl,rfl⟩ | ⟨rfl,rfl⟩<;>rcases zay hb with ⟨j,u,rfl,e⟩ | ⟨y,u,rfl,e⟩ | ⟨rfl,e⟩<;>first | (cases e;rfl) | cases e
 byValue:=fun k v h=>by rcases zay h with ⟨i,t,rfl,rfl⟩ | ⟨x,t,rfl,rfl⟩ | ⟨rfl,rfl⟩<;>rfl
 pyHash:=fun hv h=>by
  rcases zay hv with ⟨i,t,rfl,rfl⟩ | ⟨x,t,rfl,rfl⟩ | ⟨rfl,rfl⟩
  .exact wpAny_pyHash_int h
  .exact wpAny_pyHash_str h
  .exact zd0 h
 eqBool:=fun hu hv h=>by
  rcases zay hu with ⟨i,t,rfl,rfl⟩ | ⟨x,t,rfl,rfl⟩ | ⟨rfl,rfl⟩
  .rcases zay hv with ⟨j,u,rfl,rfl⟩ | ⟨y,u,rfl,rfl⟩ | ⟨rfl,rfl⟩
   .rw [zwt] at h;exact wpAny_eqBool_int h
   .rw [zqs] at h;exact SeqAt.EqAt.int_str i t y u _ _ _ _ h
   .rw [zqs] at h;exact SeqAt.EqAt.int_none i t _ _ _ _ h
  .rcases zay hv with ⟨j,u,rfl,rfl⟩ | ⟨y,u,rfl,rfl⟩ | ⟨rfl,rfl⟩
   .rw [zqr] at h;exact SeqAt.EqAt.str_int x t j u _ _ _ _ h
   .rw [zwp] at h;exact wpAny_eqBool_str h
   .rw [zwo] at h;exact SeqAt.EqAt.str_none x t _ _ _ _ h
  .rcases zay hv with ⟨j,u,rfl,rfl⟩ | ⟨y,u,rfl,rfl⟩ | ⟨rfl,rfl⟩
   .rw [zqr] at h;exact SeqAt.EqAt.none_int j u _ _ _ _ h
   .rw [zwq] at h;exact SeqAt.EqAt.none_str y u _ _ _ _ h
   .rw [zwr] at h;exact SeqAt.EqAt.same .none _ _ _ _ h
 «strs»:=fun k x t v h=>by
  rcases zay h with ⟨i,u,rfl,e⟩ | ⟨y,u,rfl,e⟩ | ⟨rfl,e⟩
  .exact nomatch e
  .injection e with e1 _;subst e1;cases v<;>rfl
  .exact nomatch e
theorem zhw (prog:Program) (w:World) (i:Int) (t:Tok):(zax prog w).is (.inl i) (.int i t)=true:=zmh i t
theorem zhv (prog:Program) (w:World) (x:Str) (t:Tok):(zax prog w).is (.inr (some x)) (.str x t)=true:=zmg x t
end
section
variable {b:Addr}
inductive V where
 | non | bl (b:Bool) | int (i:Int) | str (x:Str) | byt (b:Array UInt8) | flt (b:UInt64) | ref (a:Addr) | ty (n:String)
 deriving DecidableEq
def RelV:V->Value->Prop
 | .non,u=>u=Value.none
 | .bl b,u=>u=Value.bool b
 | .int i,u=>∃ t,u=Value.int i t
 | .str x,u=>∃ t,u=Value.str x t
 | .byt b,u=>∃ t,u=Value.bytes b t
 | .flt b,u=>∃ t,u=Value.float b t
 | .ref a,u=>u=Value.ref a
 | .ty n,u=>u=Value.type n
abbrev Vals:List V->List Value->Prop:=Paired RelV
theorem Vals.length {xs:List V} {us:List Value} (r:Vals xs us):xs.length=us.length:=Paired.length r
theorem Vals.get:∀ {xs:List V} {us:List Value} {i:Nat} {x:V},Vals xs us->xs[i]?=some x->∃ u,us[i]?=some u/\RelV x u
 | _,_,_,_,.nil,e=>by simp at e
 | _,_,0,_,.cons r _,e=>by simp at e;subst e;exact ⟨_,rfl,r⟩
 | _,_,i+1,x,.cons _ t,e=>by obtain ⟨u,h1,h2⟩:=Vals.get (i:=i) (x:=x) t (by simpa using e);exact ⟨u,by simpa using h1,h2⟩
theorem Vals.set {x:V} {u:Value} (r:RelV x u):∀ {xs:List V} {us:List Value} (i:Nat),Vals xs us->Vals (xs.set i x) (us.set i u)
 | _,_,_,.nil=>.nil
 | _,_,0,.cons _ t=>.cons r t
 | _,_,i+1,.cons q t=>.cons q (Vals.set r i t)
theorem Vals.append:∀ {xs ys:List V} {us ws:List Value},Vals xs us->Vals ys ws->Vals (xs++ys) (us++ws)
 | _,_,_,_,.nil,s=>s
 | _,_,_,_,.cons r t,s=>.cons r (Vals.append t s)
theorem Vals.take:∀ {xs:List V} {us:List Value} (n:Nat),Vals xs us->Vals (xs.take n) (us.take n)
 | _,_,0,_=>.nil
 | _,_,_+1,.nil=>.nil
 | _,_,n+1,.cons r t=>.cons r (Vals.take n t)
theorem Vals.drop:∀ {xs:List V} {us:List Value} (n:Nat),Vals xs us->Vals (xs.drop n) (us.drop n)
 | _,_,0,r=>r
 | _,_,_+1,.nil=>.nil
 | _,_,n+1,.cons _ t=>Vals.drop n t
def RelO:Option V->Option Value->Prop
 | some v,some u=>RelV v u
 | none,none=>True
 | _,_=>False
def KV {κ:Type}:List (κ × V)->List (κ × Value)->Prop:=Paired fun (p:κ × V) (q:κ × Value)=>p.1=q.1/\RelV p.2 q.2
def kV:Key->V
 | .inl i=>.int i
 | .inr (some x)=>.str x
 | .inr none=>.non
inductive HO where
  | lst (xs:List V)
  | tup (xs:List V)
  | dK (qb:List (Key × V)) | dT (qb:List (List Key × V))
  | set (S:Int->Bool) (n:Nat)
  | ins (C dx:Addr) (fs:List (Str × V))
  | own (x:Addr)
  | xd (fs:List (Str × V))
  | met (f x:Addr)
  | rng (lo hi:Int)
  | frz (o:Obj) (u:HO)
  | tbl (ps:Array Value)
  | ext (φ:Heap->Prop)
abbrev Hp:=Addr->Option HO
def upd (H:Hp) (a:Addr) (o:HO):Hp:=fun b=>if b=a then some o else H b
theorem zam {H:Hp} {a:Addr} {o:HO}:upd H a o a=some o:=by unfold upd;rw [if_pos rfl]
theorem zai {H:Hp} {a:Addr} {o:HO} (h:b≠a):upd H a o b=H b:=by unfold upd;rw [if_neg h]
theorem zs7 {H:Hp} {a:Addr} {o u:HO} (h:H a=some o) (h':H b=some u) (d:o≠u):a≠b:=by intro e;subst e;rw [h] at h';exact d (zzl h')
theorem zae {H:Hp} {a:Addr} {o:HO} (h:H a=some o) (h':H b=none):a≠b:=by intro e;subst e;rw [h] at h';cases h'
section
variable (P:Program) (w:World)
def ObjOk (H:Hp) (h:Heap) (a:Addr):HO->Prop
 | .lst xs=>xs.length<=sizeLine/\∃ (qc:List Value) (n:Nat),Vals xs qc/\h.get? a=some { cls:=.type "list",data:=.seq qc.toArray n }
 | .tup xs=>xs.length<=sizeLine/\∃ qc:List Value,Vals xs qc/\IsTup h a qc.toArray
 | .dK qb=>qb.length<=sizeLine/\(a==sysModules)=false/\∃ vs,KV qb vs/\h.DictOf (zax P w) a vs
 | .dT qb=>qb.length<=sizeLine/\(a==sysModules)=false/\∃ xs:List (List Key × Addr × Value),
   Paired (fun (p:List Key × V) (q:List Key × Addr × Value)=>p.1=q.1/\H q.2.1=some (.tup (p.1.map kV))/\RelV p.2 q.2.2) qb xs /\
   ∃ o es ep,h.get? a=some o/\o.ExactDict/\o.data=.dict es ep/\es.toList=xs.map (entryOfKey (tupleKind (zax P w)))/\(xs.map (·.1)).Nodup
 | .set S n=>h.SetOf (intKind P w) a S n
 | .ins C dx fs=>H dx=some (.own a)/\fs.length<=1000/\dx≠a/\h.get? a=some (W.instObj C dx) /\
   ∃ mA,h.Ns1 dx mA/\(∀ f,RelO (fs.lookup f) (mA f))/\PySem.Within mA (fs.map (·.1))
 | .own _=>∃ o,h.get? a=some o
 | .xd fs=>∃ mA,h.Ns1 a mA/\∀ f,RelO (fs.lookup f) (mA f)
 | .rng lo hi=>∃ t u v,h.get? a=some { cls:=.type "range",data:=.fields #[.int lo t,.int hi u,.int 1 v] }
 | .frz o u=>h.get? a=some o/\ObjOk H h a u
 | .tbl ps=>h.get? a=some { cls:=.none,data:=.fields ps }
 | .met f x=>h.get? a=some (W.methodObj (.ref f) (.ref x))
 | .ext φ=>φ h/\(∃ o,h.get? a=some o)/\∀ h1 h2:Heap,φ h1->(∀ o,h1.get? a=some o->h2.get? a=some o)->φ h2
def HOk (H:Hp) (h:Heap):Prop:=∀ a o,H a=some o->ObjOk P w H h a o
end
section
variable {P:Program} {w:World} {H H':Hp} {h h':Heap} {a:Addr} {o:HO}
theorem ObjOk.lt (x:ObjOk P w H h a o):a<h.objs.size:=by
 cases o with
 | lst xs=>obtain ⟨_,_,_,_,e⟩:=x;exact zzd e
 | tup xs=>obtain ⟨_,_,_,p⟩:=x;exact p.lt
 | dK qb=>obtain ⟨_,_,_,_,o,_,_,e,_⟩:=x;exact zzd e
 | dT qb=>obtain ⟨_,_,_,_,o,_,_,e,_⟩:=x;exact zzd e
 | set S n=>obtain ⟨o,_,_,_,e,_⟩:=x;exact zzd e
 | ins C dx fs=>obtain ⟨_,_,_,e,_⟩:=x;exact zzd e
 | own y=>obtain ⟨_,e⟩:=x;exact zzd e
 | xd fs=>obtain ⟨_,⟨_,_,_,e,_⟩,_⟩:=x;exact zzd e
 | rng lo hi=>obtain ⟨_,_,_,e⟩:=x;exact zzd e
 | frz ob u=>obtain ⟨e,_⟩:=x;exact zzd e
 | tbl ps=>exact zzd (show h.get? a=some _ from x)
 | met f y=>exact zzd (show h.get? a=some _ from x)
 | ext φ=>obtain ⟨_,⟨_,e⟩,_⟩:=x;exact zzd e
theorem Paired.mapP {α β:Type} {F G:α->β->Prop}:∀ {l₁:List α} {l₂:List β},Paired F l₁ l₂->(∀ a b,F a b->G a b)->Paired G l₁ l₂
 | _,_,.nil,_=>.nil
 | _,_,.cons r t,f=>.cons (f _ _ r) (Paired.mapP t f)
theorem ObjOk.stay (x:ObjOk P w H h a o) (k:∀ b u,(b=a\/H b=some (.own a))->h.get? b=some u->h'.get? b=some u)
  (ho:∀ b,H b=some (.own a)->H' b=some (.own a)) (ht:∀ b xs,H b=some (.tup xs)->H' b=some (.tup xs)):ObjOk P w H' h' a o:=by
 induction o with
 | lst xs=>obtain ⟨z,qc,n,r,e⟩:=x;exact ⟨z,qc,n,r,k _ _ (.inl rfl) e⟩
 | tup xs=>obtain ⟨z,qc,r,ob,e,c⟩:=x;exact ⟨z,qc,r,ob,k _ _ (.inl rfl) e,c⟩
 | dK qb=>obtain ⟨z,y,vs,r,ob,es,ep,e,c⟩:=x;exact ⟨z,y,vs,r,ob,es,ep,k _ _ (.inl rfl) e,c⟩
 | dT qb =>obtain ⟨z,y,xs,r,ob,es,ep,e,c⟩:=x;exact ⟨z,y,xs,Paired.mapP r fun p q z=>⟨z.1,ht _ _ z.2.1,z.2.2⟩,ob,es,ep,k _ _ (.inl rfl) e,c⟩
 | set S n=>obtain ⟨ob,es,ep,t,e,c⟩:=x;exact ⟨ob,es,ep,t,k _ _ (.inl rfl) e,c⟩
 | ins C dx fs =>obtain ⟨d,z,ne,e,mA,⟨od,es,ep,e2,c⟩,r⟩:=x;exact ⟨ho _ d,z,ne,k _ _ (.inl rfl) e,mA,⟨od,es,ep,k _ _ (.inr d) e2,c⟩,r⟩
 | own y=>obtain ⟨ob,e⟩:=x;exact ⟨ob,k _ _ (.inl rfl) e⟩
 | xd fs=>obtain ⟨mA,⟨od,es,ep,e,c⟩,r⟩:=x;exact ⟨mA,⟨od,es,ep,k _ _ (.inl rfl) e,c⟩,r⟩
 | rng lo hi=>obtain ⟨t,u,v,e⟩:=x;exact ⟨t,u,v,k _ _ (.inl rfl) e⟩
 | frz ob u ih=>obtain ⟨e,q⟩:=x;exact ⟨k _ _ (.inl rfl) e,ih q⟩
 | tbl ps =>have e:h.get? a=some { cls:=.none,data:=.fields ps }:=x;show h'.get? a=some { cls:=.none,data:=.fields ps };exact k a _ (.inl rfl) e
 | met f y =>have e:h.get? a=some (W.methodObj (.ref f) (.ref y)):=x;show h'.get? a=some (W.methodObj (.ref f) (.ref y));exact k a _ (.inl rfl) e
 | ext φ=>obtain ⟨p,⟨o,e⟩,st⟩:=x;exact ⟨st _ _ p fun o q=>k _ _ (.inl rfl) q,⟨o,k _ _ (.inl rfl) e⟩,st⟩
theorem HOk.lt (x:HOk P w H h) (e:H a=some o):a<h.objs.size:=(x a o e).lt
theorem HOk.fresh (x:HOk P w H h) (e:h.objs.size<=a):H a=none:=by
 cases q:H a with
 | none=>rfl
 | some u=>exact absurd (zzi (x.lt q) e) (zz3 _)
theorem HOk.kept (x:HOk P w H h) (k:∀ b u,h.get? b=some u->h'.get? b=some u):HOk P w H h':=fun a o e =>(x a o e).stay (fun b u _ q=>k b u q) (fun _ q=>q) fun _ _ q=>q
theorem HOk.laid (x:HOk P w H h) (k:∀ b u,h.get? b=some u->h'.get? b=some u) (hp:h.objs.size<=a) (new:ObjOk P w (upd H a o) h' a o):HOk P w (upd H a o) h':=fun b u e=>by
 have hn:=x.fresh hp;by_cases hb:b=a
 .subst hb;rw [zam] at e;cases e;exact new
 .rw [zai hb] at e;exact (x b u e).stay (fun c v _ q=>k c v q) (fun c q=>by rw [zai (zae q hn)];exact q) fun c xs q=>by rw [zai (zae q hn)];exact q
end
def Rd (H:Hp) (a:Addr) (u:HO):Prop:=H a=some u\/∃ o,H a=some (.frz o u)
theorem Rd.ok {P:Program} {w:World} {H:Hp} {h:Heap} {a:Addr} {u:HO} (r:Rd H a u) (x:HOk P w H h):ObjOk P w H h a u:=by
 rcases r with r | ⟨o,r⟩
 .exact x a u r
 .obtain ⟨_,q⟩:=x a _ r;exact q
def Mut:Option HO->Prop
 | some (.lst _)=>True
 | some (.dK _)=>True
 | some (.dT _)=>True
 | some (.set _ _)=>True
 | some (.ins _ _ _)=>True
 | some (.ext _)=>True
 | _=>False
section
variable {P:Program} {w:World} {H:Hp} {h h':Heap} {x e:Addr} {o':HO}
theorem HOk.write (ok:HOk P w H h) (mu:Mut (H x)) (he:e=x\/H e=some (.own x)) (k:∀ b u,b≠e->h.get? b=some u->h'.get? b=some u) (heo:∃ u,h'.get? e=some u)
  (new:ObjOk P w (upd H x o') h' x o'):HOk P w (upd H x o') h':=fun b u q=>by
 have nown:∀ c y,H c=some (.own y)->c≠x:=fun c y r z=>by subst z;rw [r] at mu;exact mu
 have ntup:∀ c xs,H c=some (.tup xs)->c≠x:=fun c xs r z=>by subst z;rw [r] at mu;exact mu
 by_cases hb:b=x
 .subst hb;rw [zam] at q;cases q;exact new
 .rw [zai hb] at q;by_cases hbe:b=e
  .have q':H b=some (.own x):=by
    rcases he with z | z
    .exact absurd (hbe.trans z) hb
    .rw [hbe];exact z
   rw [q] at q';cases q';obtain ⟨v,hv⟩:=heo;exact ⟨v,by rw [hbe];exact hv⟩
  .refine (ok b u q).stay (fun c v hc r=>k c v ?_ r) (fun c r=>by rw [zai (nown c b r)];exact r) fun c xs r=>by rw [zai (ntup c xs r)];exact r
   rcases hc with rfl | hc
   .exact hbe
   .rintro rfl;rcases he with z | z
    .exact nown c b hc z
    .rw [hc] at z;cases z;exact hb rfl
end
structure Un (fs ex:List Addr) (H H':Hp) (h h':Heap):Prop where
 keep:∀ b o,h.get? b=some o->H b=none->b∉fs->b∉ex->h'.get? b=some o
 slot:∀ b o,h.get? b=some o->H b=none->b∈fs->b∉ex->∃ sl,h'.get? b=some { o with slots:=sl }
 free:∀ b o,h.get? b=some o->H b=none->b∉ex->H' b=none
 there:∀ b o,h.get? b=some o->b∉ex->∃ o',h'.get? b=some o'
 tups:∀ b xs,H b=some (.tup xs)->H' b=some (.tup xs)
 frzs:∀ b o u,H b=some (.frz o u)->H' b=some (.frz o u)
 tbls:∀ b ps,H b=some (.tbl ps)->∃ ydc,H' b=some (.tbl (ps++ydc))
section
variable {fs fs' ex ex':List Addr} {H H1 H2:Hp} {h h1 h2 h':Heap} {a x e:Addr} {o:HO}
theorem Un.any (u:Un fs ex H H1 h h1) {ob:Obj} (q:h.get? b=some ob) (n:H b=none) (hx:b∉ex):∃ sl,h1.get? b=some { ob with slots:=sl }:=by
 by_cases hb:b∈fs
 .exact u.slot b ob q n hb hx
 .exact ⟨ob.slots,u.keep b ob q n hb hx⟩
theorem Un.kept (k:∀ b u,h.get? b=some u->h'.get? b=some u):Un fs ex H H h h' :=
 ⟨fun b ob q _ _ _=>k b ob q,fun b ob q _ _ _=>⟨ob.slots,k b ob q⟩,fun _ _ _ n _=>n,fun b ob q _=>⟨ob,k b ob q⟩,fun _ _ q=>q,fun _ _ _ q=>q,fun _ ps q=>⟨#[],by rw [q];simp⟩⟩
theorem Un.refl:Un fs ex H H h h:=Un.kept fun _ _ q=>q
theorem Un.laid (k:∀ b u,h.get? b=some u->h'.get? b=some u) (hp:h.objs.size<=a) (hn:H a=none):Un fs ex H (upd H a o) h h' where
 keep:=fun b u q _ _ _=>k b u q
 slot:=fun b u q _ _ _=>⟨u.slots,k b u q⟩
 free:=fun b u q n _=>by rw [zai (zzo (zzi (zzd q) hp))];exact n
 there:=fun b u q _=>⟨u,k b u q⟩
 tups:=fun b xs q=>by rw [zai (zae q hn)];exact q
 frzs:=fun b u xs q=>by rw [zai (zae q hn)];exact q
 tbls:=fun b ps q=>⟨#[],by rw [zai (zae q hn),q];simp⟩
theorem Un.write (mu:Mut (H x)) (he:e=x\/H e=some (.own x)) (k:∀ b u,b≠e->h.get? b=some u->h'.get? b=some u) (heo:∃ u,h'.get? e=some u):Un fs ex H (upd H x o) h h':=by
 have hx:∀ b,H b=none->b≠x:=fun b n z=>by subst z;rw [n] at mu;exact mu
 have hb:∀ b,H b=none->b≠e:=fun b n z=>by
  subst z;rcases he with r | r
  .exact hx b n r
  .rw [n] at r;cases r
 have hm:∀ b u,H b=some u->¬ Mut (some u)->b≠x:=fun b u q nm z=>by subst z;rw [q] at mu;exact nm mu
 refine ⟨fun b u q n _ _=>k b u (hb b n) q,fun b u q n _ _=>⟨u.slots,k b u (hb b n) q⟩,fun b u q n _=>by rw [zai (hx b n)];exact n,fun b u q _=>?_,
  fun b xs q=>by rw [zai (hm b _ q fun z=>z)];exact q,fun b u xs q=>by rw [zai (hm b _ q fun z=>z)];exact q,fun b ps q=>⟨#[],by rw [zai (hm b _ q fun z=>z),q];simp⟩⟩
 by_cases hbe:b=e
 .subst hbe;exact heo
 .exact ⟨u,k b u hbe q⟩
end
def trk (h:Heap) (H:Hp):List Addr:=(List.range h.objs.size).filter fun a=>(H a).isSome
def ydm (h:Heap) (H:Hp):Heap:=PySem.W.hideAll h (trk h H)
theorem zmp (h:Heap) (H:Hp):(ydm h H).objs.size=h.objs.size:=PySem.W.hideAll_size _ _
theorem zo9 {h:Heap} {H:Hp} {o:Obj} (e:h.get? b=some o) (n:H b=none):(ydm h H).get? b=some o :=
 PySem.W.hideAll_get _ e fun hm=>by have q:(H b).isSome=true:=(ub8.mp hm).2;rw [n] at q;simp at q
theorem zs4 {h:Heap} {H:Hp} {o:Obj} (e:(ydm h H).get? b=some o):h.get? b=some o/\H b=none:=by
 have e':h.get? b=some o:=PySem.W.of_hideAll (trk h H) e;refine ⟨e',?_⟩;cases q:H b with
 | none=>rfl
 | some x =>have hm:b∈trk h H:=ub8.mpr ⟨List.mem_range.mpr (Heap.lt_size e'),by simp [q]⟩;have z:(ydm h H).get? b=none:=PySem.W.hideAll_none (trk h H) hm;rw [z] at e;cases e
def zt5 (g h:Heap) (L:Addr):List (Addr × Obj):=(List.range h.objs.size).filterMap fun a=>if a=L\/(g.get? a).isSome=true then none else (h.get? a).map fun o=>(a,o)
def rest (g h:Heap) (L d:Addr):List (Addr × Obj):=(zt5 g h L).filter fun p=>decide (p.1≠d)
end
section
variable {t' i:Nat} {ch:List Addr} {x:Str} {A:Around} {E:Value->Shared->Prop}
structure Mod (K:W.Frag) (mg:Str->Option Value) (base:Heap):Prop where
 kin:K.In base
 glob:base.Ns mainGlobals mg
 blt:∃ mb,base.Ns builtinsNs mb/\∀ x:Str,x≠"__name__"->mb x=bootBuiltins x
 nolimit:base.NoLimit
structure Cx where
 prog:Program
 w:World
 K:W.Frag
 mg:Str->Option Value
 base:Heap
 A:Around
 N:List Str
 s₀:Shared
 H₀:Hp
 env:Env
 outer:List Env
 stack:List Env
 ex:List Addr
 fn:Str->Bool
 calm:Bool
 pn:List (Addr × Obj)
 xe:Value->Shared->Prop
def frs (l:List Env):List Addr:=l.filterMap (·.frame)
abbrev Cx.fs (X:Cx):List Addr:=frs X.outer
def Vis (sc:Scope) (x:Str):Prop:=sc.names.lookup x=some .local\/sc.names.lookup x=some .cell\/sc.names.lookup x=some .free
def Loc (sc:Scope) (x:Str):Prop:=sc.names.lookup x=some .local\/sc.names.lookup x=some .cell
def Look (env:Env) (h:Heap) (m:Str->Option Value) (x:Str) (u:Value):Prop :=
 (env.kindOf x=some .local/\m x=some u)\/((env.kindOf x=some .cell\/env.kindOf x=some .free)/\∃ c,env.cells.lookup x=some c/\h.IsCell c (some u))
structure Cx.Ok (X:Cx):Prop where
 mod:Mod X.K X.mg X.base
 kind:X.env.scope.kind=.function
 glob:X.env.globals=mainGlobals
 blt:X.env.builtins=builtinsNs
 above:X.s₀.heap.objs.size<=X.env.locals
 inj:∀ x y c,X.env.cells.lookup x=some c->X.env.cells.lookup y=some c->x=y
 has:∀ x,(X.env.kindOf x=some .cell\/X.env.kindOf x=some .free)->∃ c,X.env.cells.lookup x=some c
 cab:∀ x c,X.fn x=true->X.env.cells.lookup x=some c->X.s₀.heap.objs.size<=c
 hd:X.calm=true->X.A.handled=none
 frames:X.A.frames=some X.stack
 stk:X.stack=X.outer\/(X.stack=X.env::X.outer/\X.env.frame=some X.env.locals)
 exf:∀ b∈X.ex,b≠X.env.locals/\∀ x c,X.env.cells.lookup x=some c->c≠b
 bs:∀ b o,X.base.get? b=some o->X.s₀.heap.get? b=some o/\X.H₀ b=none
 bsz:X.base.objs.size<=X.s₀.heap.objs.size
 noex:∀ b o,X.base.get? b=some o->b∉X.ex
 exfs:∀ b∈X.ex,b∉X.fs
 funs:X.s₀.heap.FunFrames X.base X.outer
 frf:∀ b∈X.fs,X.H₀ b=none
structure Inv (X:Cx) (pj:List (Addr × Obj)) (O:List (Option V)) (H:Hp) (s:Shared):Prop where
 ok:X.Ok
 os:s.os=X.s₀.os
 bare:AllBare s.gens
 base:Un X.fs X.ex X.H₀ H X.s₀.heap s.heap
 loc:∃ m,s.heap.Ns X.env.locals m/\∀ (i:Nat) (x:Str) (v:V),X.N[i]?=some x->O[i]?=some (some v)->Vis X.env.scope x->∃ u,RelV v u/\Look X.env s.heap m x u
 cell:∀ x c,X.env.cells.lookup x=some c->∃ v,s.heap.IsCell c v
 free:H X.env.locals=none
 freeC:∀ x c,X.env.cells.lookup x=some c->H c=none
 pin:∀ p∈X.pn++pj,s.heap.get? p.1=some p.2/\H p.1=none/\p.1≠X.env.locals/\p.1∉X.fs/\∀ v,p.2.data≠.cell v
 hok:HOk X.prog X.w H s.heap
 len:O.length=X.N.length
section
variable {X:Cx} {pj:List (Addr × Obj)} {O:List (Option V)} {H H':Hp} {s:Shared} {h':Heap}
theorem Cx.Ok.nofr (ok:X.Ok) {b:Addr} {o:Obj} (e:X.base.get? b=some o):b∉X.fs:=fun hb=>by have:=(ok.funs.mem hb).1;rw [e] at this;cases this
theorem Inv.bs (I:Inv X pj O H s):∀ b o,X.base.get? b=some o->s.heap.get? b=some o/\H b=none:=fun b o e =>⟨I.base.keep b o (I.ok.bs b o e).1 (I.ok.bs b o e).2 (I.ok.nofr e) (I.ok.noex b o e),I.base.free b o (I.ok.bs b o e).1 (I.ok.bs b o e).2 (I.ok.noex b o e)⟩
theorem Inv.bk (I:Inv X pj O H s):∀ b o,X.base.get? b=some o->s.heap.get? b=some o:=fun b o e=>(I.bs b o e).1
theorem Inv.mod (I:Inv X pj O H s):Mod X.K X.mg X.base:=I.ok.mod
theorem Inv.kIn (I:Inv X pj O H s):X.K.In s.heap:=I.ok.mod.kin.keeps I.bk
theorem Inv.lt (I:Inv X pj O H s):X.env.locals<s.heap.objs.size:=let ⟨_,hn,_⟩:=I.loc;hn.lt
theorem Inv.sz (I:Inv X pj O H s):X.s₀.heap.objs.size<=s.heap.objs.size:=zzs I.ok.above (Nat.le_of_lt I.lt)
theorem Inv.nofs (I:Inv X pj O H s) {a:Addr} (h:s.heap.objs.size<=a):a∉X.fs:=fun hb=>by obtain ⟨_,o,ho,_⟩:=I.ok.funs.mem hb;exact absurd (zzi (zzd ho) (zzs I.sz h)) (zz3 _)
theorem Inv.cne (I:Inv X pj O H s):∀ x c,X.env.cells.lookup x=some c->c≠X.env.locals:=fun x c e z=>by obtain ⟨v,o,ho,hd⟩:=I.cell x c e;obtain ⟨m,⟨o',es,ep,ho',hd',_⟩,_⟩:=I.loc;rw [z,ho'] at ho;cases ho;rw [hd'] at hd;cases hd
theorem Inv.funs (I:Inv X pj O H s):s.heap.FunFrames X.base X.outer:=by
 have all:∀ (l:List Env),(∀ b∈frs l,b∈X.fs)->X.s₀.heap.FunFrames X.base l->s.heap.FunFrames X.base l:=by
  intro l
  induction l with
  | nil=>intro _ _;trivial
  | cons env r ih =>intro hs hl;obtain ⟨hk,⟨L,o,hf,hn,ho,hd⟩,hr⟩:=hl;have hL:L∈X.fs:=hs L (by unfold frs;rw [zzv,hf];exact zzg);obtain ⟨sl,e⟩:=I.base.slot L o ho (I.ok.frf L hL) hL fun z=>I.ok.exfs L z hL;exact ⟨hk,⟨L,_,hf,hn,e,hd⟩,ih (fun b hb=>hs b (by unfold frs;rw [zzv,hf];exact zzc _ hb)) hr⟩
 exact all X.outer (fun _ hb=>hb) I.ok.funs
theorem Inv.stack (I:Inv X pj O H s):s.heap.FunFrames X.base X.stack:=by
 rcases I.ok.stk with e | ⟨e,hf⟩
 .rw [e];exact I.funs
 .rw [e];obtain ⟨m,hn,_⟩:=I.loc;refine .cons (by rw [I.ok.kind];decide) hf hn ?_ I.funs;exact Heap.get?_none_of_le (zzs I.ok.bsz I.ok.above)
theorem Inv.stkSub (I:Inv X pj O H s):∀ b∈frs X.stack,b∈X.env.locals::X.fs:=fun b hb=>by
 rcases I.ok.stk with e | ⟨e,hf⟩
 .rw [e] at hb;exact zzc _ hb
 .rw [e] at hb;unfold frs at hb;rw [zzv,hf] at hb;exact hb
theorem Inv.stkFree (I:Inv X pj O H s):∀ b∈frs X.stack,H b=none:=fun b hb=>by
 rcases omc (I.stkSub b hb) with e | hb
 .rw [e];exact I.free
 .obtain ⟨_,o,ho,_⟩:=I.ok.funs.mem hb;exact I.base.free b o ho (I.ok.frf b hb) fun z=>I.ok.exfs b z hb
theorem Inv.step {g':Array GenState} {d':Drawn} (I:Inv X pj O H s)
  (hch:∀ b∈ch,(b∈X.ex\/X.s₀.heap.objs.size<=b)/\b≠X.env.locals/\(∀ x c,X.env.cells.lookup x=some c->c≠b)/\∀ p∈X.pn++pj,p.1≠b)
  (keep:∀ b o,b≠X.env.locals->b∉X.fs->b∉ch->s.heap.get? b=some o->H b=none->h'.get? b=some o)
  (slot:∀ b o,b≠X.env.locals->b∈X.fs->b∉ch->s.heap.get? b=some o->H b=none->∃ sl,h'.get? b=some { o with slots:=sl }) (free:∀ b o,b∉ch->s.heap.get? b=some o->H b=none->H' b=none)
  (there:∀ b o,b∉ch->s.heap.get? b=some o->∃ o',h'.get? b=some o')
  (tups:∀ b xs,H b=some (.tup xs)->H' b=some (.tup xs)) (frzs:∀ b o u,H b=some (.frz o u)->H' b=some (.frz o u)) (tbls:∀ b ps,H b=some (.tbl ps)->∃ ydc,H' b=some (.tbl (ps++ydc)))
  (ns:∀ m,s.heap.Ns X.env.locals m->h'.Ns X.env.locals m) (hok:HOk X.prog X.w H' h') (hg:AllBare g') :
  Inv X pj O H' { s with heap:=h',gens:=g',drawn:=d',toks:=t' }:=by
 have neL:∀ b o,X.s₀.heap.get? b=some o->b≠X.env.locals:=fun b o e=>zzo (zzi (zzd e) I.ok.above);have neC:∀ b o,X.s₀.heap.get? b=some o->b∉X.ex->b∉ch:=fun b o e hx hb=>by
  rcases (hch b hb).1 with z | z
  .exact hx z
  .exact absurd (zzi (zzd e) z) (zz3 _)
 have cellK:∀ x c,X.env.cells.lookup x=some c->∀ v,s.heap.IsCell c v->h'.IsCell c v:=fun x c e v ⟨o,ho,hd⟩=>by
  have nch:c∉ch:=fun z=>(hch c z).2.2.1 x c e rfl;by_cases hc:c∈X.fs
  .obtain ⟨sl,q⟩:=slot c o (I.cne x c e) hc nch ho (I.freeC x c e);exact ⟨_,q,hd⟩
  .exact ⟨o,keep c o (I.cne x c e) hc nch ho (I.freeC x c e),hd⟩
 refine ⟨I.ok,I.os,hg,⟨fun b o e n hb hx=>?_,fun b o e n hb hx=>?_,fun b o e n hx=>?_,fun b o e hx=>?_,fun b xs e=>tups b xs (I.base.tups b xs e),fun b o xs e=>frzs b o xs (I.base.frzs b o xs e),fun b ps e=>?_⟩,?_,fun x c e=>?_,?_,fun x c e=>?_,fun p hp=>?_,hok,I.len⟩
 .exact keep b o (neL b o e) hb (neC b o e hx) (I.base.keep b o e n hb hx) (I.base.free b o e n hx)
 .obtain ⟨sl,e1⟩:=I.base.slot b o e n hb hx;obtain ⟨sl',e2⟩:=slot b _ (neL b o e) hb (neC b o e hx) e1 (I.base.free b o e n hx);exact ⟨sl',e2⟩
 .obtain ⟨o',e1⟩:=I.base.there b o e hx;exact free b o' (neC b o e hx) e1 (I.base.free b o e n hx)
 .obtain ⟨o',e1⟩:=I.base.there b o e hx;exact there b o' (neC b o e hx) e1
 .obtain ⟨m1,e1⟩:=I.base.tbls b ps e;obtain ⟨m2,e2⟩:=tbls b _ e1;exact ⟨m1++m2,by rw [e2,Array.append_assoc]⟩
 .obtain ⟨m,hn,hl⟩:=I.loc;refine ⟨m,ns m hn,fun i x v e1 e2 e3=>?_⟩;obtain ⟨u,r,l⟩:=hl i x v e1 e2 e3;refine ⟨u,r,?_⟩;rcases l with l | ⟨k,c,e,z⟩
  .exact .inl l
  .exact .inr ⟨k,c,e,cellK x c e _ z⟩
 .obtain ⟨v,z⟩:=I.cell x c e;exact ⟨v,cellK x c e v z⟩
 .obtain ⟨m,⟨o,_,_,ho,_⟩,_⟩:=I.loc;exact free _ o (fun z=>(hch _ z).2.1 rfl) ho I.free
 .obtain ⟨v,o,ho,hd⟩:=I.cell x c e;exact free c o (fun z=>(hch c z).2.2.1 x c e rfl) ho (I.freeC x c e)
 .obtain ⟨e,n,ne,nf,d⟩:=I.pin p hp;have nch:p.1∉ch:=fun z=>(hch p.1 z).2.2.2 p hp rfl;exact ⟨keep p.1 p.2 ne nf nch e n,free p.1 p.2 nch e n,ne,nf,d⟩
theorem Inv.un (I:Inv X pj O H s) (u:Un X.fs [] H H' s.heap h') (hok:HOk X.prog X.w H' h'):Inv X pj O H' { s with heap:=h',toks:=t' }:=by
 obtain ⟨m,⟨o,es,ep,ho,r⟩,_⟩:=id I.loc;obtain ⟨sl,hL⟩:=u.any ho I.free (by simp);exact I.step (g':=s.gens) (d':=s.drawn) (ch:=[]) (fun _ z=>nomatch z) (fun b o _ hb _ e n=>u.keep b o e n hb (by simp)) (fun b o _ hb _ e n=>u.slot b o e n hb (by simp)) (fun b o _ e n=>u.free b o e n (by simp)) (fun b o _ e=>u.there b o e (by simp)) u.tups u.frzs u.tbls (fun m' hm=>by obtain ⟨o',es',ep',ho',r'⟩:=hm;rw [ho] at ho';cases ho';exact ⟨_,es',ep',hL,r'⟩) hok I.bare
theorem Inv.call {g':Array GenState} {d':Drawn} (I:Inv X pj O H s) (u:Un (frs X.stack) ch H H' s.heap h') (hok:HOk X.prog X.w H' h') (hg:AllBare g')
  (hch:∀ b∈ch,(b∈X.ex\/X.s₀.heap.objs.size<=b)/\b≠X.env.locals/\(∀ x c,X.env.cells.lookup x=some c->c≠b)/\∀ p∈X.pn++pj,p.1≠b) :
  Inv X pj O H' { s with heap:=h',gens:=g',drawn:=d',toks:=t' }:=by
 obtain ⟨m,⟨o,es,ep,ho,r⟩,_⟩:=id I.loc;obtain ⟨sl,hL⟩:=u.any ho I.free fun z=>(hch _ z).2.1 rfl;exact I.step (ch:=ch) hch (fun b o hL hb hc e n=>u.keep b o e n (fun z=>(omc (I.stkSub b z)).elim hL hb) hc) (fun b o _ _ hc e n=>u.any e n hc) (fun b o hc e n=>u.free b o e n hc) (fun b o hc e=>u.there b o e hc) u.tups u.frzs u.tbls (fun m' hm=>by obtain ⟨o',es',ep',ho',r'⟩:=hm;rw [ho] at ho';cases ho';exact ⟨_,es',ep',hL,r'⟩) hok hg
theorem Inv.turned {it:Addr} (I:Inv X pj O H s) (k:∀ b o,b≠it->s.heap.get? b=some o->h'.get? b=some o) (hn:H it=none) (hL:it≠X.env.locals)
  (h1:it∈X.ex\/X.s₀.heap.objs.size<=it) (h2:∀ x c,X.env.cells.lookup x=some c->c≠it) (h3:∀ p∈X.pn++pj,p.1≠it):Inv X pj O H { s with heap:=h',toks:=t' }:=by
 have nit:∀ b u,H b=some u->b≠it:=fun b u e z=>by rw [z,hn] at e;cases e
 refine I.step (g':=s.gens) (d':=s.drawn) (ch:=[it]) (fun b hb=>?_) (fun b o _ _ hc e _=>k b o (fun z=>hc (by simp [z])) e) (fun b o _ _ hc e _=>⟨o.slots,k b o (fun z=>hc (by simp [z])) e⟩) (fun _ _ _ _ n=>n)
  (fun b o hc e=>⟨o,k b o (fun z=>hc (by simp [z])) e⟩) (fun _ _ e=>e) (fun _ _ _ e=>e) (fun b ps e=>⟨#[],by rw [e];simp⟩) (fun m hm=>?_) (fun b u e=>?_) I.bare
 .have e:b=it:=by simpa using hb
  subst e;exact ⟨h1,hL,h2,h3⟩
 .obtain ⟨o,es,ep,ho,r⟩:=hm;exact ⟨o,es,ep,k _ o (Ne.symm hL) ho,r⟩
 .refine (I.hok b u e).stay (fun c v hc q=>k c v ?_ q) (fun _ q=>q) fun _ _ q=>q;rcases hc with z | z
  .rw [z];exact nit b u e
  .exact nit c _ z
theorem Inv.tok (I:Inv X pj O H s) (t:Nat):Inv X pj O H { s with toks:=t }:=I.un (h':=s.heap) (t':=t) Un.refl I.hok
theorem Inv.kept {t':Nat} (I:Inv X pj O H s) (k:∀ b u,s.heap.get? b=some u->h'.get? b=some u):Inv X pj O H { s with heap:=h',toks:=t' }:=I.un (Un.kept k) (I.hok.kept k)
theorem Inv.laid {a:Addr} {o:HO} {t':Nat} (I:Inv X pj O H s) (k:∀ b u,s.heap.get? b=some u->h'.get? b=some u) (hp:s.heap.objs.size<=a) (new:ObjOk X.prog X.w (upd H a o) h' a o) :
  Inv X pj O (upd H a o) { s with heap:=h',toks:=t' }:=I.un (Un.laid k hp (I.hok.fresh hp)) (I.hok.laid k hp new)
theorem Inv.write {x e:Addr} {o:HO} {t':Nat} (I:Inv X pj O H s) (mu:Mut (H x)) (he:e=x\/H e=some (.own x)) (k:∀ b u,b≠e->s.heap.get? b=some u->h'.get? b=some u) (heo:∃ u,h'.get? e=some u)
  (new:ObjOk X.prog X.w (upd H x o) h' x o):Inv X pj O (upd H x o) { s with heap:=h',toks:=t' }:=I.un (Un.write mu he k heo) (I.hok.write mu he k heo new)
theorem Inv.pins_of {pins':List (Addr × Obj)} (I:Inv X pj O H s) (h:∀ p∈pins',s.heap.get? p.1=some p.2/\H p.1=none/\p.1≠X.env.locals/\p.1∉X.fs/\∀ v,p.2.data≠.cell v):Inv X pins' O H s :=
 ⟨I.ok,I.os,I.bare,I.base,I.loc,I.cell,I.free,I.freeC,fun p hp=>(oma hp).elim (fun z=>I.pin p (List.mem_append_left _ z)) (h p),I.hok,I.len⟩
theorem zix {N:List Str} (hN:N.Nodup) {j:Nat} (a:N[i]?=some x) (b:N[j]?=some x):i=j:=by obtain ⟨h1,e1⟩:=ome a;obtain ⟨h2,e2⟩:=ome b;exact (List.getElem_inj hN).mp (e1.trans e2.symm)
theorem zgg {M:Model} {v:V} {u:Value} {Q:Unit->Shared->Prop} (I:Inv X pj O H s) (hN:X.N.Nodup) (hi:X.N[i]?=some x) (hx:Loc X.env.scope x) (r:RelV v u)
  (h:∀ s',Inv X pj (O.set i (some v)) H s'->(∃ a,Heap.SameBut a s.heap s'.heap/\(a=X.env.locals\/X.env.cells.lookup x=some a))->Q () s') (hf:X.fn x=true\/X.env.scope.names.lookup x=some .local:=by first | exact .inl rfl | exact .inr rfl | assumption):wpAny M A (storeName X.env x u) Q E s:=by
 obtain ⟨m,hn,hl⟩:=id I.loc;have hcls:(X.env.scope.kind==.class||(X.env.scope.kind==.module&&X.env.locals != X.env.globals))=false:=by rw [I.ok.kind];rfl
 have hiO:i<O.length:=by rw [I.len];exact (ome hi).1
 have cne:=I.cne;have tracked:∀ {a:Addr} {h':Heap},(∃ o,s.heap.get? a=some o/\H a=none)->Heap.SameBut a s.heap h'->HOk X.prog X.w H h':=fun {a h'} ha hs b ob e=>by
  obtain ⟨_,_,hfree⟩:=ha;refine (I.hok b ob e).stay (fun c w' hc q=>(hs.2 c ?_).trans q) (fun _ q=>q) fun _ _ q=>q;rintro rfl;rcases hc with rfl | hc
  .rw [hfree] at e;cases e
  .rw [hfree] at hc;cases hc
 rcases hx with hk | hk
 .refine wpAny_storeName_local hk hn (fun h' hn' hs=>?_) hcls;obtain ⟨oL,_,_,hoL,_⟩:=id hn;refine h _ ⟨I.ok,I.os,I.bare,⟨fun b o e n hb hx=>?_,fun b o e n hb hx=>?_,I.base.free,fun b o e hx=>?_,I.base.tups,I.base.frzs,I.base.tbls⟩,⟨_,hn',fun j y v' e1 e2 e3=>?_⟩,fun y c e=>?_,I.free,I.freeC,fun p hp=>?_,tracked ⟨oL,hoL,I.free⟩ hs,by simpa using I.len⟩ ⟨_,hs,.inl rfl⟩
  .exact (hs.2 b (zzo (zzi (zzd e) I.ok.above))).trans (I.base.keep b o e n hb hx)
  .obtain ⟨sl,e1⟩:=I.base.slot b o e n hb hx;exact ⟨sl,(hs.2 b (zzo (zzi (zzd e) I.ok.above))).trans e1⟩
  .obtain ⟨o',e1⟩:=I.base.there b o e hx;exact ⟨o',(hs.2 b (zzo (zzi (zzd e) I.ok.above))).trans e1⟩
  .by_cases hj:j=i
   .subst hj;rw [hi] at e1;cases e1;rw [ua4 hiO] at e2;cases e2;exact ⟨u,r,.inl ⟨hk,by simp⟩⟩
   .rw [zzw (Ne.symm hj)] at e2;obtain ⟨u',r',q⟩:=hl j y v' e1 e2 e3;refine ⟨u',r',?_⟩;rcases q with ⟨k,e⟩ | ⟨k,c,e,z⟩
    .refine .inl ⟨k,?_⟩;have:y≠x:=fun e=>hj (zix hN e1 (e▸hi));simp [this,e]
    .exact .inr ⟨k,c,e,z.sameBut hs (cne y c e)⟩
  .obtain ⟨w',z⟩:=I.cell y c e;exact ⟨w',z.sameBut hs (cne y c e)⟩
  .obtain ⟨e,n,ne,nf,d⟩:=I.pin p hp;exact ⟨(hs.2 p.1 ne).trans e,n,ne,nf,d⟩
 .have hfn:X.fn x=true:=by
   rcases hf with z | z
   .exact z
   .rw [z] at hk;cases hk
  obtain ⟨c,hc⟩:=I.ok.has x (.inl hk);obtain ⟨w',z⟩:=I.cell x c hc;refine wpAny_storeName_cell I.ok.kind hk hc z (fun h' hc' hs=>?_);obtain ⟨oc,hoc,hocd⟩:=id z;refine h { s with heap:=h' } ⟨I.ok,I.os,I.bare,⟨fun b o e n hb hx=>?_,fun b o e n hb hx=>?_,I.base.free,fun b o e hx=>?_,I.base.tups,I.base.frzs,I.base.tbls⟩,⟨m,hn.sameBut hs (Ne.symm (cne x c hc)),fun j y v' e1 e2 e3=>?_⟩,fun y c' e=>?_,I.free,I.freeC,fun p hp=>?_,tracked ⟨oc,hoc,I.freeC x c hc⟩ hs,by simpa using I.len⟩ ⟨c,hs,.inr hc⟩
  .exact (hs.2 b (zzo (zzi (zzd e) (I.ok.cab x c hfn hc)))).trans (I.base.keep b o e n hb hx)
  .obtain ⟨sl,e1⟩:=I.base.slot b o e n hb hx;exact ⟨sl,(hs.2 b (zzo (zzi (zzd e) (I.ok.cab x c hfn hc)))).trans e1⟩
  .obtain ⟨o',e1⟩:=I.base.there b o e hx;exact ⟨o',(hs.2 b (zzo (zzi (zzd e) (I.ok.cab x c hfn hc)))).trans e1⟩
  .by_cases hj:j=i
   .subst hj;rw [hi] at e1;cases e1;rw [ua4 hiO] at e2;cases e2;exact ⟨u,r,.inr ⟨.inl hk,c,hc,hc'⟩⟩
   .rw [zzw (Ne.symm hj)] at e2;obtain ⟨u',r',q⟩:=hl j y v' e1 e2 e3;refine ⟨u',r',?_⟩;rcases q with q | ⟨k,c',e,z'⟩
    .exact .inl q
    .refine .inr ⟨k,c',e,z'.sameBut hs ?_⟩;rintro rfl;exact hj (zix hN e1 (I.ok.inj _ _ _ e hc▸hi))
  .by_cases hcc:c'=c
   .subst hcc;exact ⟨_,hc'⟩
   .obtain ⟨w2,z2⟩:=I.cell y c' e;exact ⟨w2,z2.sameBut hs hcc⟩
  .obtain ⟨e,n,ne,nf,d⟩:=I.pin p hp;refine ⟨(hs.2 p.1 ?_).trans e,n,ne,nf,d⟩;intro q;rw [q,hoc] at e;have q':oc=p.2:=zzl e;exact d w' (by rw [<- q'];exact hocd)
theorem zih {M:Model} {v:V} {u:Value} {Q:Unit->Shared->Prop} (I:Inv X pj O H s) (hN:X.N.Nodup) (hi:X.N[i]?=some x) (hx:Loc X.env.scope x) (r:RelV v u)
  (h:∀ s',Inv X pj (O.set i (some v)) H s'->Q () s') (hf:X.fn x=true\/X.env.scope.names.lookup x=some .local:=by first | exact .inl rfl | exact .inr rfl | assumption):wpAny M A (storeName X.env x u) Q E s :=
 zgg I hN hi hx r (fun s' I' _=>h s' I') hf
theorem Inv.call' {s':Shared} (I:Inv X pj O H s) (ho:s'.os=s.os) (u:Un (frs X.stack) ch H H' s.heap s'.heap) (hok:HOk X.prog X.w H' s'.heap) (hg:AllBare s'.gens)
  (hch:∀ b∈ch,(b∈X.ex\/X.s₀.heap.objs.size<=b)/\b≠X.env.locals/\(∀ x c,X.env.cells.lookup x=some c->c≠b)/\∀ p∈X.pn++pj,p.1≠b):Inv X pj O H' s':=by
 obtain ⟨h',g',d',t',o'⟩:=s';have e:o'=s.os:=ho;subst e;exact I.call (g':=g') (t':=t') (d':=d') u hok hg hch
end
abbrev XK:=Value->Option Addr->Hp->Prop
abbrev St:=List (Option V)
abbrev VK:=V->Hp->Prop
abbrev TE:=St->Hp->VK->Prop
abbrev TT:=St->Hp->(Bool->Hp->Prop)->Prop
abbrev TA:=St->Hp->(List V->Hp->Prop)->Prop
structure Ends where
 nx:St->Hp->Prop
 rt:VK
 bk:St->Hp->Prop:=fun _ _=>False
 ct:St->Hp->Prop:=fun _ _=>False
abbrev TS:=Ends->St->Hp->Prop
def EP (X:Cx) (pj:List (Addr × Obj)) (O:St) (Q:VK) (u:Value) (s':Shared):Prop:=∃ v H',Inv X pj O H' s'/\RelV v u/\Q v H'
def TP (X:Cx) (pj:List (Addr × Obj)) (O:St) (Q:Bool->Hp->Prop) (b:Bool) (s':Shared):Prop:=∃ H',Inv X pj O H' s'/\Q b H'
def AP (X:Cx) (pj:List (Addr × Obj)) (O:St) (Q:List V->Hp->Prop) (us:List Value) (s':Shared):Prop:=∃ vs H',Inv X pj O H' s'/\Vals vs us/\Q vs H'
def SP (X:Cx) (pj:List (Addr × Obj)) (D:Ends) (f:Flow) (s':Shared):Prop :=
 match f with
 | .next=>∃ O' H',Inv X pj O' H' s'/\D.nx O' H'
 | .brk=>∃ O' H',Inv X pj O' H' s'/\D.bk O' H'
 | .cont=>∃ O' H',Inv X pj O' H' s'/\D.ct O' H'
 | .ret u=>∃ v O' H',Inv X pj O' H' s'/\RelV v u/\D.rt v H'
def PE (X:Cx) (e:Expr) (t:TE):Prop :=
 ∀ (pj:List (Addr × Obj)) (s:Shared) (O:St) (H:Hp) (Q:VK),Inv X pj O H s->t O H Q->wpAny (model X.prog X.w) X.A (eval e X.env) (EP X pj O Q) X.xe s
def PT (X:Cx) (e:Expr) (t:TT):Prop :=
 ∀ (pj:List (Addr × Obj)) (s:Shared) (O:St) (H:Hp) (Q:Bool->Hp->Prop),Inv X pj O H s->t O H Q->wpAny (model X.prog X.w) X.A (isTrue e X.env (eval e X.env)) (TP X pj O Q) X.xe s
def PW (X:Cx) (e:Expr) (t:TT):Prop :=
 ∀ (whole:Sem Value) (pj:List (Addr × Obj)) (s:Shared) (O:St) (H:Hp) (Q:Bool->Hp->Prop),Inv X pj O H s->t O H Q->wpAny (model X.prog X.w) X.A (isTrue e X.env whole) (TP X pj O Q) X.xe s
theorem PW.pt {X:Cx} {e:Expr} {t:TT} (h:PW X e t):PT X e t:=h _
def PA (X:Cx) (es:List Expr) (t:TA):Prop :=
 ∀ (pos:Pos) (pj:List (Addr × Obj)) (s:Shared) (O:St) (H:Hp) (Q:List V->Hp->Prop),Inv X pj O H s->t O H Q->wpAny (model X.prog X.w) X.A (spliced (backTo pos (starEach es X.env))) (AP X pj O Q) X.xe s
def PS (X:Cx) (st:Stmt) (t:TS):Prop :=
 ∀ (pj:List (Addr × Obj)) (s:Shared) (O:St) (H:Hp) (D:Ends),Inv X pj O H s->t D O H->wpAny (model X.prog X.w) X.A (exec st X.env) (SP X pj D) X.xe s
def PSs (X:Cx) (st:List Stmt) (t:TS):Prop :=
 ∀ (pj:List (Addr × Obj)) (s:Shared) (O:St) (H:Hp) (D:Ends),Inv X pj O H s->t D O H->wpAny (model X.prog X.w) X.A (execs st X.env) (SP X pj D) X.xe s
theorem thn {α:Type} {t:Sem α} {Q Q':α->Shared->Prop} {M:Model} {s:Shared} (h:wpAny M A t Q E s) (hQ:∀ a s,Q a s->Q' a s):wpAny M A t Q' E s:=wpAny_mono h hQ fun _ _ x=>x
end
section
variable {x:Str} {E Q:Value->Shared->Prop} {pj:List (Addr × Obj)} {u:Value}
section
variable {X:Cx}
def tVar (i:Nat):TE:=fun O H Q=>∃ v,O[i]?=some (some v)/\Q v H
def tC (v:V):TE:=fun _ H Q=>Q v H
theorem ze4 {i:Nat} {pos:Pos} (hN:X.N[i]?=some x) (hv:Vis X.env.scope x) (hd:(x==("__debug__":Str))=false:=by decide) (hcd:(x==("__classdict__":Str))=false:=by decide):PE X (.Name x pos) (tVar i):=by
 intro pj s O H Q I h;obtain ⟨v,e,h⟩:=h;obtain ⟨m,hn,hl⟩:=I.loc;obtain ⟨u,r,l⟩:=hl i x v hN e hv;have fin:EP X pj O Q u s:=⟨v,H,I,r,h⟩;rcases l with ⟨hk,hm⟩ | ⟨hk,c,hc,hcell⟩
 .exact wpAny_Name (wpAny_loadName_local I.ok.kind hk hn hm fin) hd
 .rcases hk with hk | hk
  .exact wpAny_Name (wpAny_loadName_cell I.ok.kind hk hc hcell fin) hd
  .exact wpAny_Name (wpAny_loadName_free I.ok.kind hk hc hcell fin hcd) hd
theorem zvh {i j pos}:PE X (.Constant (.int i) j pos) (tC (.int i)):=fun _ _ _ H _ I h=>wpAny_Constant_int ⟨.int i,H,I.tok _,⟨_,rfl⟩,h⟩
theorem zyc {b j pos}:PE X (.Constant (.bool b) j pos) (tC (.bl b)):=fun _ _ _ H _ I h=>Constant_bool ⟨.bl b,H,I,rfl,h⟩
theorem zvf {j pos}:PE X (.Constant .none j pos) (tC .non):=fun _ _ _ H _ I h=>Constant_none ⟨.non,H,I,rfl,h⟩
theorem zqi {x j pos}:PE X (.Constant (.str x) j pos) (tC (.str x)):=fun _ _ _ H _ I h=>Calls.Constant_str ⟨.str x,H,I.tok _,⟨_,rfl⟩,h⟩
def Gl (X:Cx) (x:Str):Prop:=X.env.kindOf x=some .globalImplicit
theorem zmb {s:Shared} {O:St} {H:Hp} {pos:Pos} (I:Inv X pj O H s) (hg:Gl X x) (hm:X.mg x=some u) (h:Q u s)
  (hd:(x==("__debug__":Str))=false:=by decide):wpAny (model X.prog X.w) X.A (eval (.Name x pos) X.env) Q E s :=
 Calls.Name_function_global I.ok.kind hg (Calls.loadGlobal_global (by rw [I.ok.glob];exact I.mod.glob.keeps I.bk) hm h) hd
theorem zfa {s:Shared} {O:St} {H:Hp} {pos:Pos} (I:Inv X pj O H s) (hg:Gl X x) (hm:X.mg x=none) (hv:bootBuiltins x=some u) (h:Q u s)
  (hn:x≠"__name__":=by decide) (hd:(x==("__debug__":Str))=false:=by decide):wpAny (model X.prog X.w) X.A (eval (.Name x pos) X.env) Q E s:=by
 obtain ⟨mb,h1,h2⟩:=I.mod.blt;exact Calls.Name_function_global I.ok.kind hg (Calls.loadGlobal_builtin (by rw [I.ok.glob];exact I.mod.glob.keeps I.bk) hm (by rw [I.ok.blt];exact h1.keeps I.bk) ((h2 x hn).trans hv) h) hd
theorem zsk {v:V} {pos:Pos} (hg:Gl X x) (hm:X.mg x=some u) (r:RelV v u) (hd:(x==("__debug__":Str))=false:=by decide):PE X (.Name x pos) (tC v) :=
 fun _ _ _ H _ I h=>zmb I hg hm ⟨v,H,I,r,h⟩ hd
theorem zsn {v:V} {pos:Pos} (hg:Gl X x) (hm:X.mg x=none) (hv:bootBuiltins x=some u) (r:RelV v u) (hn:x≠"__name__":=by decide) (hd:(x==("__debug__":Str))=false:=by decide):PE X (.Name x pos) (tC v) :=
 fun _ _ _ H _ I h=>zfa I hg hm hv ⟨v,H,I,r,h⟩ hn hd
variable {a b:Expr} {ta tb:TE} {pos:Pos}
variable {tA tB':TT} {rest:List Expr}
def tAnd (t u:TT):TT:=fun O H Q=>t O H fun c H1=>if c=true then u O H1 Q else Q false H1
def tOr (t u:TT):TT:=fun O H Q=>t O H fun c H1=>if c=true then Q true H1 else u O H1 Q
def tNot (t:TT):TT:=fun O H Q=>t O H fun c H1=>Q (!c) H1
theorem zr5 (ha:PT X a tA):PW X (.BoolOp .And [a] pos) tA:=by
 intro wh pj s O H Q I h;refine isTrue_and (thn (ha pj s O H Q I h) fun c s1 e=>?_);cases c with
 | true=>exact isTrue_and_nil e
 | false=>exact e
theorem zu0 (ha:PT X a tA):PW X (.BoolOp .Or [a] pos) tA:=by
 intro wh pj s O H Q I h;refine isTrue_or (thn (ha pj s O H Q I h) fun c s1 e=>?_);cases c with
 | false=>exact isTrue_or_nil e
 | true=>exact e
theorem zu1 (ha:PT X a tA) (hb:PW X (.BoolOp .And (b::rest) pos) tB'):PW X (.BoolOp .And (a::b::rest) pos) (tAnd tA tB'):=by
 intro wh pj s O H Q I h;refine isTrue_and (thn (ha pj s O H _ I h) fun c s1 ⟨H1,I1,q1⟩=>?_);cases c with
 | true=>exact hb wh pj s1 O H1 Q I1 q1
 | false=>exact ⟨H1,I1,q1⟩
theorem zx6 (ha:PT X a tA) (hb:PW X (.BoolOp .Or (b::rest) pos) tB'):PW X (.BoolOp .Or (a::b::rest) pos) (tOr tA tB'):=by
 intro wh pj s O H Q I h;refine isTrue_or (thn (ha pj s O H _ I h) fun c s1 ⟨H1,I1,q1⟩=>?_);cases c with
 | true=>exact ⟨H1,I1,q1⟩
 | false=>exact hb wh pj s1 O H1 Q I1 q1
theorem zu3 (ha:PT X a tA):PT X (.UnaryOp .Not a pos) (tNot tA):=by intro pj s O H Q I h;exact isTrue_not (ha pj s O H (fun c H1=>Q (!c) H1) I h)
def ygc (ta tb:TE):TE:=fun O H Q=>ta O H fun x H1=>∃ c,x=.bl c/\if c=true then tb O H1 Q else Q (.bl false) H1
def tOrV (ta tb:TE):TE:=fun O H Q=>ta O H fun x H1=>∃ c,x=.bl c/\if c=true then Q (.bl true) H1 else tb O H1 Q
def yge (ta:TE):TE:=fun O H Q=>ta O H fun x H1=>∃ c,x=.bl c/\Q (.bl (!c)) H1
theorem zvd {op} {t:TE} (h:PE X a t):PE X (.BoolOp op [a] pos) t:=fun pj s O H Q I hw=>BoolOp_one (h pj s O H Q I hw)
theorem zvj (ha:PE X a ta) (hb:PE X (.BoolOp .And (b::rest) pos) tb):PE X (.BoolOp .And (a::b::rest) pos) (ygc ta tb):=by
 intro pj s O H Q I h;refine BoolOp_and (thn (ha pj s O H _ I h) fun v s1 ⟨x,H1,I1,r1,q1⟩=>?_);obtain ⟨c,rfl,q1⟩:=q1;cases r1;refine wpAny_truthy_bool ?_;cases c with
 | true=>exact hb pj s1 O H1 Q I1 q1
 | false=>exact ⟨.bl false,H1,I1,rfl,q1⟩
theorem zya (ha:PE X a ta) (hb:PE X (.BoolOp .Or (b::rest) pos) tb):PE X (.BoolOp .Or (a::b::rest) pos) (tOrV ta tb):=by
 intro pj s O H Q I h;refine BoolOp_or (thn (ha pj s O H _ I h) fun v s1 ⟨x,H1,I1,r1,q1⟩=>?_);obtain ⟨c,rfl,q1⟩:=q1;cases r1;refine wpAny_truthy_bool ?_;cases c with
 | false=>exact hb pj s1 O H1 Q I1 q1
 | true=>exact ⟨.bl true,H1,I1,rfl,q1⟩
theorem zve (ha:PE X a ta):PE X (.UnaryOp .Not a pos) (yge ta):=by intro pj s O H Q I h;refine UnaryOp_ (thn (ha pj s O H _ I h) fun v s1 ⟨x,H1,I1,r1,q1⟩=>?_);obtain ⟨c,rfl,q1⟩:=q1;cases r1;exact not_of (wpAny_truthy_bool ⟨.bl (!c),H1,I1,rfl,q1⟩)
end
end
section
variable {K:W.Frag} {es:List Expr} {tg:Expr} {P:Program} {w:World}
def SqL (K:W.Frag) (H:Hp) (a:Addr) (xs:List V):Prop :=
 Rd H a (.lst xs) \/
  ∃ (o:Obj) (qc:Array Value) (n:Nat),K.lookup a=some o/\o.cls=.type "list"/\o.dict=none/\o.data=.seq qc n/\qc.size<=sizeLine/\Vals xs qc.toList
def SqT (K:W.Frag) (H:Hp) (a:Addr) (xs:List V):Prop :=
 Rd H a (.tup xs) \/
  ∃ (o:Obj) (qc:Array Value) (n:Nat),K.lookup a=some o/\o.cls=.type "tuple"/\o.data=.seq qc n/\qc.size<=sizeLine/\Vals xs qc.toList
def absV:Value->Option V
 | .none=>some .non
 | .bool b=>some (.bl b)
 | .int i _=>some (.int i)
 | .str x _=>some (.str x)
 | .bytes b _=>some (.byt b)
 | .float b _=>some (.flt b)
 | .ref a=>some (.ref a)
 | .type n=>some (.ty n)
 | _=>none
theorem RelV.abs {x:V} {u:Value} (r:RelV x u):absV u=some x:=by
 cases x with
 | non=>cases r;rfl
 | bl _=>cases r;rfl
 | int _=>obtain ⟨t,rfl⟩:=r;rfl
 | str _=>obtain ⟨t,rfl⟩:=r;rfl
 | byt _=>obtain ⟨t,rfl⟩:=r;rfl
 | flt _=>obtain ⟨t,rfl⟩:=r;rfl
 | ref _=>cases r;rfl
 | ty _=>cases r;rfl
theorem RelV.inj {x y:V} {u:Value} (r:RelV x u) (q:RelV y u):x=y:=zzl (r.abs.symm.trans q.abs)
theorem Vals.inj:∀ {xs ys:List V} {us:List Value},Vals xs us->Vals ys us->xs=ys
 | _,_,_,.nil,.nil=>rfl
 | _,_,_,.cons r t,.cons r' t'=>by rw [r.inj r',Vals.inj t t']
section
variable {X:Cx} {pj:List (Addr × Obj)} {O:St} {H:Hp} {s:Shared} {a:Addr} {xs ys:List V}
theorem SqL.of (h:H a=some (.lst xs)):SqL K H a xs:=.inl (.inl h)
theorem SqT.of (h:H a=some (.tup xs)):SqT K H a xs:=.inl (.inl h)
theorem Inv.list (I:Inv X pj O H s) (h:SqL X.K H a xs):∃ qc:List Value,Vals xs qc/\PlainL s.heap a qc.toArray/\xs.length<=sizeLine:=by
 rcases h with h | ⟨o,qc,n,hk,hc,hd,hs,hz,r⟩
 .obtain ⟨z,qc,n,r,e⟩:=h.ok I.hok;exact ⟨qc,r,⟨_,n,e,rfl,rfl,rfl⟩,z⟩
 .refine ⟨qc.toList,r,⟨o,n,I.kIn a o hk,hc,hd,by simpa using hs⟩,?_⟩;have e:=r.length;simp only [Array.length_toList] at e;lia
theorem Inv.tuple (I:Inv X pj O H s) (h:SqT X.K H a xs):∃ qc:List Value,Vals xs qc/\IsTup s.heap a qc.toArray/\xs.length<=sizeLine:=by
 rcases h with h | ⟨o,qc,n,hk,hc,hs,hz,r⟩
 .obtain ⟨z,qc,r,p⟩:=h.ok I.hok;exact ⟨qc,r,p,z⟩
 .refine ⟨qc.toList,r,⟨o,I.kIn a o hk,hc,n,by simpa using hs⟩,?_⟩;have e:=r.length;simp only [Array.length_toList] at e;lia
theorem Inv.list_inj (I:Inv X pj O H s) (h:SqL X.K H a xs) (h':SqL X.K H a ys):xs=ys:=by
 obtain ⟨qc,r,⟨o,n,e,_,_,d⟩,_⟩:=I.list h;obtain ⟨its',r',⟨o',n',e',_,_,d'⟩,_⟩:=I.list h';rw [e] at e';cases e';rw [d] at d';injection d' with d1 _;have:qc=its':=by simpa using congrArg Array.toList d1
 subst this;exact r.inj r'
theorem Inv.tuple_inj (I:Inv X pj O H s) (h:SqT X.K H a xs) (h':SqT X.K H a ys):xs=ys:=by
 obtain ⟨qc,r,⟨o,e,_,n,d⟩,_⟩:=I.tuple h;obtain ⟨its',r',⟨o',e',_,n',d'⟩,_⟩:=I.tuple h';rw [e] at e';cases e';rw [d] at d';injection d' with d1 _;have:qc=its':=by simpa using congrArg Array.toList d1
 subst this;exact r.inj r'
end
abbrev Cx.wish (X:Cx) (E:Value->Shared->Prop):Cx:={ X with xe:=E }
abbrev Cx.nox (X:Cx):Cx:=X.wish fun _ _=>False
theorem Cx.Ok.wish {X:Cx} (ok:X.Ok) (E:Value->Shared->Prop):(X.wish E).Ok :=
 ⟨ok.mod,ok.kind,ok.glob,ok.blt,ok.above,ok.inj,ok.has,ok.cab,ok.hd,ok.frames,ok.stk,ok.exf,ok.bs,ok.bsz,ok.noex,ok.exfs,ok.funs,ok.frf⟩
theorem Cx.Ok.unwish {X:Cx} {E:Value->Shared->Prop} (ok:(X.wish E).Ok):X.Ok :=
 ⟨ok.mod,ok.kind,ok.glob,ok.blt,ok.above,ok.inj,ok.has,ok.cab,ok.hd,ok.frames,ok.stk,ok.exf,ok.bs,ok.bsz,ok.noex,ok.exfs,ok.funs,ok.frf⟩
section
variable {X:Cx} {pj:List (Addr × Obj)} {O:St} {H:Hp} {s:Shared} {E:Value->Shared->Prop}
theorem Inv.wish (I:Inv X pj O H s) (E:Value->Shared->Prop):Inv (X.wish E) pj O H s:=⟨I.ok.wish E,I.os,I.bare,I.base,I.loc,I.cell,I.free,I.freeC,I.pin,I.hok,I.len⟩
theorem Inv.unwish (I:Inv (X.wish E) pj O H s):Inv X pj O H s:=⟨I.ok.unwish,I.os,I.bare,I.base,I.loc,I.cell,I.free,I.freeC,I.pin,I.hok,I.len⟩
theorem SP.unwish {D:Ends} {f:Flow} {s':Shared} (h:SP (X.wish E) pj D f s'):SP X pj D f s':=by
 cases f with
 | next=>obtain ⟨O',H',I,q⟩:=h;exact ⟨O',H',I.unwish,q⟩
 | brk=>obtain ⟨O',H',I,q⟩:=h;exact ⟨O',H',I.unwish,q⟩
 | cont=>obtain ⟨O',H',I,q⟩:=h;exact ⟨O',H',I.unwish,q⟩
 | ret u=>obtain ⟨v,O',H',I,r,q⟩:=h;exact ⟨v,O',H',I.unwish,r,q⟩
theorem PSs.nox {st:List Stmt} {t:TS} (h:PSs X.nox st t):PSs X st t:=fun pj s O H D I hw =>wpAny_mono (h pj s O H D (I.wish _) hw) (fun _ _ q=>q.unwish) fun _ _ z=>False.elim z
end
section
variable {X:Cx} {st:Stmt} {rest:List Stmt} {t u:TS} {e:Expr} {te:TE} {pos:Pos}
def yfj:TS:=fun D O H=>D.nx O H
def tSeq (t u:TS):TS:=fun D O H=>t { D with nx:=u D } O H
theorem zsb:PSs X [] yfj:=fun _ _ O H _ I h=>wpAny_execs_nil ⟨O,H,I,h⟩
theorem zok (h1:PS X st t) (h2:PSs X rest u):PSs X (st::rest) (tSeq t u):=by
 intro pj s O H D I h;refine wpAny_execs_cons (thn (h1 pj s O H { D with nx:=u D } I h) fun f s1 q=>?_);cases f with
 | next =>obtain ⟨O',H',I',q⟩:=q;exact h2 pj s1 O' H' D I' q
 | ret v=>exact q
 | brk=>exact q
 | cont=>exact q
theorem Inv.quiet {pj:List (Addr × Obj)} {O:St} {H:Hp} {s:Shared} (I:Inv X pj O H s):interactive X.env=false:=by simp [interactive,I.ok.kind]
theorem zu6 {x j pos pos'}:PS X (.Expr (.Constant (.str x) j pos) pos') yfj:=fun _ s O H _ I h=>wpAny_Expr (Calls.Constant_str (show SP X _ _ .next { s with toks:=s.toks+1 } from ⟨O,H,I.tok _,h⟩)) I.quiet
def ygi (te:TE):TS:=fun D O H=>te O H fun _ H1=>D.nx O H1
theorem zla (he:PE X e te) (hs:swapsWith e none pos.line X.env=pure false:=by rfl):PS X (.Expr e pos) (ygi te):=by intro pj s O H D I h;exact wpAny_Expr_any (thn (he pj s O H _ I h) fun v s1 ⟨x,H1,I1,r1,q1⟩=>⟨O,H1,I1,q1⟩) I.quiet hs
def tRet (te:TE):TS:=fun D O H=>te O H D.rt
theorem zu4 (he:PE X e te):PS X (.Return (some e) pos) (tRet te):=by intro pj s O H D I h;exact wpAny_Return_some (thn (he pj s O H _ I h) fun v s1 ⟨x,H1,I1,r1,q1⟩=>⟨x,O,H1,I1,r1,q1⟩)
def tIfS (c:TT) (t u:TS):TS:=fun D O H=>c O H fun b H1=>if b=true then t D O H1 else u D O H1
theorem zx8 {c:Expr} {a b:List Stmt} {tc:TT} (hc:PT X c tc) (ha:PSs X a t) (hb:PSs X b u):PS X (.If c a b pos) (tIfS tc t u):=by
 intro pj s O H D I h;refine wpAny_If (thn (hc pj s O H _ I h) fun d s1 ⟨H1,I1,q1⟩=>?_);cases d with
 | true=>exact ha pj s1 O H1 D I1 q1
 | false=>exact hb pj s1 O H1 D I1 q1
end
abbrev TG:=V->St->Hp->(St->Hp->Prop)->Prop
abbrev TGs:=List V->St->Hp->(St->Hp->Prop)->Prop
def PG (X:Cx) (target:Expr) (t:TG):Prop :=
 ∀ (pj:List (Addr × Obj)) (s:Shared) (O:St) (H:Hp) (v:V) (u:Value) (Q:St->Hp->Prop),Inv X pj O H s->RelV v u->t v O H Q ->
  wpAny (model X.prog X.w) X.A (assign target X.env u) (fun _ s'=>∃ O' H',Inv X pj O' H' s'/\Q O' H') X.xe s
def PGs (X:Cx) (ts:List Expr) (t:TGs):Prop :=
 ∀ (pj:List (Addr × Obj)) (s:Shared) (O:St) (H:Hp) (vs:List V) (us:List Value) (Q:St->Hp->Prop),Inv X pj O H s->Vals vs us->t vs O H Q ->
  wpAny (model X.prog X.w) X.A (assignInOrder ((assignEach ts X.env).map (·.2)) us) (fun _ s'=>∃ O' H',Inv X pj O' H' s'/\Q O' H') X.xe s
abbrev TSet:=V->V->V->Hp->(Hp->Prop)->Prop
def PSet (X:Cx) (t:TSet):Prop :=
 ∀ (pj:List (Addr × Obj)) (s:Shared) (O:St) (H:Hp) (o i v:V) (ov iv u:Value) (Q:Hp->Prop),Inv X pj O H s->RelV o ov->RelV i iv->RelV v u->t o i v H Q ->
  wpAny (model X.prog X.w) X.A (setItem ov iv u) (fun _ s'=>∃ H',Inv X pj O H' s'/\Q H') X.xe s
section
variable {X:Cx} {pos:Pos}
def yev (i:Nat):TG:=fun v O H Q=>Q (O.set i (some v)) H
theorem zlj {i:Nat} {x:Str} (hN:X.N.Nodup) (hi:X.N[i]?=some x) (hx:Loc X.env.scope x) (hf:X.fn x=true\/X.env.scope.names.lookup x=some .local:=by first | exact .inl rfl | exact .inr rfl | assumption):PG X (.Name x pos) (yev i):=by intro pj s O H v u Q I r h;exact wpAny_assign_Name (zih I hN hi hx r (fun s' I'=>⟨_,H,I',h⟩) hf)
def gNil:TGs:=fun vs O H Q=>vs=[]/\Q O H
def yfk (t:TG) (u:TGs):TGs:=fun vs O H Q=>∃ v r,vs=v::r/\t v O H fun O' H'=>u r O' H' Q
theorem zsj:PGs X [] gNil:=by intro pj s O H vs us Q I r h;obtain ⟨e,h⟩:=h;subst e;cases r;exact assignInOrder_nil ⟨O,H,I,h⟩
theorem zoo {e:Expr} {t:TG} {u:TGs} (h1:PG X e t) (h2:PGs X es u)
  (hs:(assignEach (e::es) X.env).map (·.2)=assign e X.env::(assignEach es X.env).map (·.2):=by rfl):PGs X (e::es) (yfk t u):=by
 intro pj s O H vs us Q I r h;obtain ⟨v,vr,e1,h⟩:=h;subst e1;cases r with
 | cons r rr =>rw [hs];refine assignInOrder_cons (thn (h1 pj s O H _ _ _ I r h) fun _ s1 ⟨O1,H1,I1,q1⟩=>?_);exact h2 pj s1 O1 H1 _ _ Q I1 rr q1
def gTup (K:W.Frag) (n:Nat) (t:TGs):TG:=fun v O H Q=>∃ a xs,v=.ref a/\SqT K H a xs/\xs.length=n/\t xs O H Q
theorem zva {k:Nat} {t:TGs} {n:Nat} (hc:X.calm=true) (h:PGs X es t)
  (hn:(assignEach es X.env).length=n:=by rfl) (hst:(assignEach es X.env).findIdx? (·.1)=none:=by rfl):PG X (.Tuple es k pos) (gTup X.K n t):=by
 intro pj s O H v u Q I r hw;obtain ⟨a,xs,e1,hq,hl,hw⟩:=hw;subst e1;cases r;obtain ⟨qc,rv,ht,hz⟩:=I.tuple hq;refine assign_Tuple_tuple (I.ok.hd hc) ht (by simp [hn,<- hl,rv.length]) hst fun h' hx=>?_;have I1:Inv X pj O H { s with heap:=h' }:=I.kept (t':=s.toks) fun b o e=>hx b o (zzo (zzd e)) e;exact h pj _ O H xs _ Q I1 (by simpa using rv) hw
def tAsg (te:TE) (g:TG):TS:=fun D O H=>te O H fun x H1=>g x O H1 D.nx
theorem ze3 {i:Nat} {x:Str} {e:Expr} {te:TE} {pos':Pos} (hN:X.N.Nodup) (hi:X.N[i]?=some x) (hx:Loc X.env.scope x) (he:PE X e te) (hs:swapsWith e (some (.Name x pos')) pos.line X.env=pure false:=by rfl) (hf:X.fn x=true\/X.env.scope.names.lookup x=some .local:=by first | exact .inl rfl | exact .inr rfl | assumption) :
  PS X (.Assign [.Name x pos'] e pos) (tAsg te (yev i)):=by
 intro pj s O H D I h;refine wpAny_Assign_Name (thn (he pj s O H _ I h) fun v s1 ⟨y,H1,I1,r1,q1⟩=>?_) hs;exact zih I1 hN hi hx r1 (fun s2 I2=>⟨_,H1,I2,q1⟩) hf
end
section
variable {X:Cx} {pos:Pos}
def yfb (c:TT) (tb:TS):TS:=fun D O H=>∃ W:Nat->St->Hp->Prop,(∃ m,W m O H)/\∀ m O H,W m O H ->
 c O H fun b H1=>if b=true then ∃ N:St->Hp->Prop,(∀ O' H',N O' H'->∃ m',m'<m/\W m' O' H')/\tb { D with nx:=N,ct:=N,bk:=D.nx } O H1 else D.nx O H1
theorem zol {c:Expr} {body:List Stmt} {tc:TT} {tb:TS} (hp:PassesOwn (model X.prog X.w) X.A X.env X.xe) (hc:PT X c tc) (hb:PSs X body tb):PS X (.While c body [] pos) (yfb tc tb):=by
 intro pj s O H D I h;obtain ⟨W,⟨m0,w0⟩,turn⟩:=h;refine wpAny_While (codeAny_whileLoop (fun n s'=>∃ O' H',Inv X pj O' H' s'/\W n O' H') ?_ m0 ⟨O,H,I,w0⟩);rintro n s1 ⟨O1,H1,I1,w1⟩;refine wpAny_passesOwn hp (thn (hc pj s1 O1 H1 _ I1 (turn n O1 H1 w1)) fun b s2 ⟨H2,I2,q2⟩=>?_);cases b with
 | true =>
  obtain ⟨N,hN,q2⟩:=q2;rw [if_pos rfl];refine wpAny_passesOwn hp (thn (hb pj s2 O1 H2 _ I2 q2) fun f s3 q3=>?_);cases f with
  | next =>obtain ⟨O3,H3,I3,n3⟩:=q3;obtain ⟨m',hm,w3⟩:=hN O3 H3 n3;exact ⟨m',hm,O3,H3,I3,w3⟩
  | cont =>obtain ⟨O3,H3,I3,n3⟩:=q3;obtain ⟨m',hm,w3⟩:=hN O3 H3 n3;exact ⟨m',hm,O3,H3,I3,w3⟩
  | brk=>exact q3
  | ret v=>exact q3
 | false =>rw [if_neg zzx];exact wpAny_execs_nil ⟨O1,H2,I2,q2⟩
end
structure It where
 go:Nat->Hp->Prop
 yld:Nat->Hp->V->Hp->Prop
 stop:Nat->Hp->Prop
def yb0 (X:Cx) (pj:List (Addr × Obj)) (H:Hp) (b:Addr):Prop :=
 H b=none/\b≠X.env.locals/\b∉X.fs/\(b∈X.ex\/X.s₀.heap.objs.size<=b)/\(∀ x c,X.env.cells.lookup x=some c->c≠b)/\∀ p∈X.pn++pj,p.1≠b
theorem Inv.fpOk {X:Cx} {pj:List (Addr × Obj)} {O:St} {H H':Hp} {s:Shared} {b:Addr} (I:Inv X pj O H s) (hb:s.heap.objs.size<=b) (hn:H' b=none):yb0 X pj H' b:=by
 refine ⟨hn,Nat.ne_of_gt (zzi I.lt hb),I.nofs hb,.inr (zzs I.sz hb),fun x c e z=>?_,fun p hp z=>?_⟩
 .obtain ⟨v,q⟩:=I.cell x c e;exact absurd (zzi q.lt (by rw [z];exact hb)) (zz3 _)
 .exact absurd (zzi (zzd (I.pin p hp).1) (by rw [z];exact hb)) (zz3 _)
structure Turn (P:Program) (w:World) (K:W.Frag) (tg:Expr) (J:It) (fp:List Addr) (it:Addr) (tn:Nat->Heap->Prop):Prop where
 mem:it∈fp
 obj:∀ i h,tn i h->∀ b∈fp,∃ o,h.get? b=some o/\∀ v,o.data≠.cell v
 keep:∀ i h h',tn i h->(∀ b∈fp,∀ o,h.get? b=some o->h'.get? b=some o)->tn i h'
 item:∀ (X:Cx),X.prog=P->X.w=w->X.K=K->X.calm=true->∀ (i:Nat) (pj:List (Addr × Obj)) (s:Shared) (O:St) (H:Hp) (E:Value->Shared->Prop),Inv X pj O H s->(∀ b∈fp,yb0 X pj H b)->tn i s.heap->J.go i H ->
  wpAny (model P w) X.A (pyNext (.ref it)) (fun r s1=>∃ u,r=some u /\
   wpAny (model P w) X.A (letOwnedTupleGo tg (.ref it) u) (fun _ s2=>∃ x H',Inv X pj O H' s2/\RelV x u/\J.yld i H x H'/\tn (i+1) s2.heap/\∀ b∈fp,H' b=none) E s1) E s
 done:∀ (X:Cx),X.prog=P->X.w=w->X.K=K->X.calm=true->∀ (i:Nat) (pj:List (Addr × Obj)) (s:Shared) (O:St) (H:Hp) (E:Value->Shared->Prop),Inv X pj O H s->(∀ b∈fp,yb0 X pj H b)->tn i s.heap->J.stop i H ->
  wpAny (model P w) X.A (pyNext (.ref it)) (fun r s1=>r=none/\Inv X pj O H s1) E s
 self:∀ (A:Around) (i:Nat) (s:Shared) (Q:Value->Shared->Prop) (E:Value->Shared->Prop),tn i s.heap->Q (.ref it) s->wpAny (model P w) A (pyIter (.ref it)) Q E s
abbrev TI:=St->Hp->(It->Hp->Prop)->Prop
def PIE (X:Cx) (pj:List (Addr × Obj)) (O:St) (tg:Expr) (R:It->Hp->Prop) (itv:Value) (s2:Shared):Prop :=
 ∃ (it:Addr) (fp:List Addr) (tn:Nat->Heap->Prop) (J:It) (H':Hp),itv=.ref it/\Inv X pj O H' s2/\Turn X.prog X.w X.K tg J fp it tn/\tn 0 s2.heap/\(∀ b∈fp,yb0 X pj H' b)/\R J H'
def PI (X:Cx) (tg iter:Expr) (wi:TI):Prop :=
 ∀ (pj:List (Addr × Obj)) (s:Shared) (O:St) (H:Hp) (R:It->Hp->Prop),Inv X pj O H s->wi O H R ->
  wpAny (model X.prog X.w) X.A (eval iter X.env) (fun v s1=>wpAny (model X.prog X.w) X.A (pyIter v) (PIE X pj O tg R) X.xe s1) X.xe s
theorem zpb {M:Model} {A:Around} {E:Value->Shared->Prop} {s:Shared} {it:Addr} {u:Value} {o:Obj} {n:String} {vs:Array Value} {Q:Unit->Shared->Prop} (ho:s.heap.get? it=some o) (hc:o.cls=.type n) (hd:o.data=.fields vs)
  (hn:["enumerate", "zip", "dict_itemiterator", "dict_reverseitemiterator", "odict_iterator", "itertools.zip_longest", "itertools.pairwise"].contains n=false) (hQ:Q () s):wpAny M A (letOwnedTupleGo tg (.ref it) u) Q E s:=by
 unfold letOwnedTupleGo;cases tg<;>first
  | exact zy9 hQ
  | (cases u<;>first
    | exact zy9 hQ
    | (refine zy2 (wpAny_load ho ?_)
       rw [hc,hd];show wpAny M A (if (["enumerate", "zip", "dict_itemiterator", "dict_reverseitemiterator", "odict_iterator", "itertools.zip_longest", "itertools.pairwise"].contains n&&vs[0]?==some (rawInt _))=true then _ else _) Q E s;rw [if_neg (by intro h;rw [hn,Bool.false_and] at h;cases h)];exact zy9 hQ))
def Itl (K:W.Frag) (a:Addr):It :=
 ⟨fun i H=>∃ xs x,SqL K H a xs/\xs[i]?=some x,fun i H x H'=>H'=H/\∀ xs,SqL K H a xs->xs[i]?=some x,fun i H=>∃ xs,SqL K H a xs/\xs.length<=i⟩
def Itt (K:W.Frag) (a:Addr):It :=
 ⟨fun i H=>∃ xs x,SqT K H a xs/\xs[i]?=some x,fun i H x H'=>H'=H/\∀ xs,SqT K H a xs->xs[i]?=some x,fun i H=>∃ xs,SqT K H a xs/\xs.length<=i⟩
def Itr (lo:Int) (n:Nat):It:=⟨fun i _=>i<n,fun i H x H'=>H'=H/\x=.int (lo+i),fun i _=>n<=i⟩
theorem zkn (a it:Addr):Turn P w K tg (Itl K a) [it] it (fun i h=>h.IsListIter it a i) where
 mem:=by simp
 obj:=fun i h st b hb=>by
  have e:b=it:=by simpa using hb
  subst e;obtain ⟨o,e,c,d⟩:=st;exact ⟨o,e,fun v z=>by rw [d] at z;cases z⟩
 keep:=fun i h h' st k=>st.at fun o e=>k it (by simp) o e
 item:=by intro X hP hw hK hc i pj s O H E I hf st hg;subst hP hw hK;obtain ⟨xs,x,hq,hx⟩:=hg;obtain ⟨qc,rv,p,hz⟩:=I.list hq;obtain ⟨u,hu,ru⟩:=rv.get hx;obtain ⟨f0,f1,f2,f3,f4,f5⟩:=hf it (by simp);refine wpAny_pyNext_list_item st p.isList (x:=u) (by simpa using hu) fun h' st' sb=>?_;have I1:Inv X pj O H { s with heap:=h' }:=I.turned (t':=s.toks) (fun b o hb e=>(sb.2 b hb).trans e) f0 f1 f3 f4 f5;obtain ⟨o,e,c,d⟩:=id st';exact ⟨u,rfl,zpb (s:={ s with heap:=h' }) e c d (by decide) ⟨x,H,I1,ru,⟨rfl,fun ys hy=>by rw [I.list_inj hy hq];exact hx⟩,st',fun b hb=>(hf b hb).1⟩⟩
 done:=by intro X hP hw hK hc i pj s O H E I hf st hg;subst hP hw hK;obtain ⟨xs,hq,hx⟩:=hg;obtain ⟨qc,rv,p,hz⟩:=I.list hq;obtain ⟨f0,f1,f2,f3,f4,f5⟩:=hf it (by simp);have hl:=rv.length;exact wpAny_pyNext_list_end (I.ok.hd hc) st p.isList (by simp;lia) fun h' eb=>⟨rfl,I.turned (t':=s.toks) (fun b o hb e=>eb b o hb e) f0 f1 f3 f4 f5⟩
 self:=fun _ _ _ _ _ st h=>wpAny_pyIter_listiter st h
theorem zjs (a it:Addr):Turn P w K tg (Itt K a) [it] it (fun i h=>h.IsTupleIter it a i) where
 mem:=by simp
 obj:=fun i h st b hb=>by
  have e:b=it:=by simpa using hb
  subst e;obtain ⟨o,e,c,d⟩:=st;exact ⟨o,e,fun v z=>by rw [d] at z;cases z⟩
 keep:=fun i h h' st k=>st.at fun o e=>k it (by simp) o e
 item:=by intro X hP hw hK hc i pj s O H E I hf st hg;subst hP hw hK;obtain ⟨xs,x,hq,hx⟩:=hg;obtain ⟨qc,rv,p,hz⟩:=I.tuple hq;obtain ⟨u,hu,ru⟩:=rv.get hx;obtain ⟨f0,f1,f2,f3,f4,f5⟩:=hf it (by simp);refine wpAny_pyNext_tuple_item st (show s.heap.IsTuple a qc.toArray from p) (x:=u) (by simpa using hu) fun h' st' sb=>?_;have I1:Inv X pj O H { s with heap:=h' }:=I.turned (t':=s.toks) (fun b o hb e=>(sb.2 b hb).trans e) f0 f1 f3 f4 f5;obtain ⟨o,e,c,d⟩:=id st';exact ⟨u,rfl,zpb (s:={ s with heap:=h' }) e c d (by decide) ⟨x,H,I1,ru,⟨rfl,fun ys hy=>by rw [I.tuple_inj hy hq];exact hx⟩,st',fun b hb=>(hf b hb).1⟩⟩
 done:=by intro X hP hw hK hc i pj s O H E I hf st hg;subst hP hw hK;obtain ⟨xs,hq,hx⟩:=hg;obtain ⟨qc,rv,p,hz⟩:=I.tuple hq;obtain ⟨f0,f1,f2,f3,f4,f5⟩:=hf it (by simp);have hl:=rv.length;exact wpAny_pyNext_tuple_end (I.ok.hd hc) st (show s.heap.IsTuple a qc.toArray from p) (by simp;lia) fun h' eb=>⟨rfl,I.turned (t':=s.toks) (fun b o hb e=>eb b o hb e) f0 f1 f3 f4 f5⟩
 self:=fun _ _ _ _ _ st h=>wpAny_pyIter_tupleiter st h
theorem zjt (it:Addr) (lo:Int) (n:Nat):Turn P w K tg (Itr lo n) [it] it (fun i h=>IsRangeIter h it (lo+(i:Nat)*1) ((n:Int)-(i:Nat)) 1) where
 mem:=by simp
 obj:=fun i h st b hb=>by
  have e:b=it:=by simpa using hb
  subst e;exact ⟨_,st,fun v z=>by have z':Data.fields _=Data.cell v:=z;cases z'⟩
 keep:=fun i h h' st k=>k it (by simp) _ st
 item:=by intro X hP hw hK hc i pj s O H E I hf st hg;subst hP hw hK;obtain ⟨f0,f1,f2,f3,f4,f5⟩:=hf it (by simp);have W:=Walks.range (prog:=X.prog) (w:=X.w) (I.ok.hd hc) it lo 1 n;refine W.item i s _ _ hg st fun v h' tk hv st' kk=>?_;obtain ⟨t,rfl⟩:=hv;have I1:Inv X pj O H { s with heap:=h',toks:=tk }:=I.turned (fun b o hb e=>kk b o (by simpa using hb) e) f0 f1 f3 f4 f5;refine ⟨_,rfl,zpb (s:={ s with heap:=h',toks:=tk }) (n:="range_iterator") st' rfl rfl (by decide) ⟨.int (lo+i),H,I1,⟨t,?_⟩,⟨rfl,rfl⟩,st',fun b hb=>(hf b hb).1⟩⟩;rw [Int.mul_one]
 done:=by intro X hP hw hK hc i pj s O H E I hf st hg;subst hP hw hK;obtain ⟨f0,f1,f2,f3,f4,f5⟩:=hf it (by simp);exact wpAny_pyNext_range_end (I.ok.hd hc) st (by have:n<=i:=hg;lia) fun h' eb=>⟨rfl,I.turned (t':=s.toks) (fun b o hb e=>eb b o hb e) f0 f1 f3 f4 f5⟩
 self:=fun _ _ _ _ _ st h=>wpAny_pyIter_rangeiter st h
end
section
variable {pj:List (Addr × Obj)} {s:Shared} {fp:List Addr}
section
variable {X:Cx} {tg:Expr}
theorem zog {O:St} {H:Hp} {R:It->Hp->Prop} {E:Value->Shared->Prop} {lo hi:Int} {t u v:Tok} {tk:Nat} (I:Inv X pj O H s) (h1 : -(2 ^ 62)<=lo) (h2:lo<2 ^ 62) (h3 : -(2 ^ 62)<=hi) (h4:hi<2 ^ 62)
  (q:R (Itr lo (hi-lo).toNat) H):wpAny (model X.prog X.w) X.A (pyIter (.ref s.heap.objs.size)) (PIE X pj O tg R) E { s with heap:=s.heap.push { cls:=.type "range",data:=.fields #[.int lo t,.int hi u,.int 1 v] },toks:=tk }:=by
 refine wpAny_pyIter_range (IsRange.new ..) (small_one h1 h2 h3 h4) ?_;have I1:Inv X pj O H { s with heap:=s.heap.push { cls:=.type "range",data:=.fields #[.int lo t,.int hi u,.int 1 v] },toks:=tk }:=I.kept fun b o e=>zyz _ e;refine ⟨(s.heap.push { cls:=.type "range",data:=.fields #[.int lo t,.int hi u,.int 1 v] }).objs.size,[(s.heap.push { cls:=.type "range",data:=.fields #[.int lo t,.int hi u,.int 1 v] }).objs.size],_,_,H,rfl,
  I1.kept (t':=tk) fun b o e=>zyz _ e,zjt _ lo (hi-lo).toNat,?_,fun b hb=>?_,q⟩
 .have e1:lo+((0:Nat):Int)*1=lo:=by simp
  have e2:(((hi-lo).toNat:Nat):Int)-((0:Nat):Int)=Builtin.Range.rangeSize lo hi 1:=by rw [rangeSize_one];split<;>lia
  show IsRangeIter _ _ (lo+((0:Nat):Int)*1) ((((hi-lo).toNat:Nat):Int)-((0:Nat):Int)) 1;rw [e1,e2];exact zy8 _ rfl
 .have e:b=(s.heap.push { cls:=.type "range",data:=.fields #[.int lo t,.int hi u,.int 1 v] }).objs.size:=by simpa using hb
  subst e;exact I1.fpOk (zza _) (I1.hok.fresh (zza _))
def yfv (ta:TA):TI:=fun O H R=>ta O H fun vs H1=>∃ j:Int,vs=[.int j] /\ -(2 ^ 62)<=j/\j<2 ^ 62/\R (Itr 0 j.toNat) H1
theorem zli {a:Expr} {ta:TA} {p pos:Pos} (hg:Gl X "range") (hm:X.mg "range"=none) (ha:PA X [a] ta) (hs:starEach [a] X.env=[(false,eval a X.env)]:=by rfl):PI X tg (.Call (.Name "range" p) [a] [] pos) (yfv ta):=by
 intro pj s O H R I h;refine Call_ (zfa I hg hm boot_range (PyProof.Rows.callWith_type1 (thn (ha pos pj s O H _ I h) fun us s1 ⟨vs,H1,I1,r1,q1⟩=>?_) hs rfl));obtain ⟨j,e,q1,q2,q⟩:=q1;subst e;cases r1 with
 | cons r rr =>cases rr;obtain ⟨t,rfl⟩:=r;exact call_range_1 (zog I1 (by lia) (by lia) q1 q2 (by simpa using q))
def tFor (wi:TI) (g:TG) (tb:TS):TS:=fun D O H=>wi O H fun J H1=>∃ W:Nat->Nat->St->Hp->Prop,(∃ m,W 0 m O H1)/\∀ i m O H,W i m O H ->
 (J.stop i H/\D.nx O H)\/(J.go i H/\∃ N:St->Hp->Prop,(∀ O' H',N O' H'->∃ m',m'<m/\W (i+1) m' O' H')/\∀ x H',J.yld i H x H'->g x O H' fun O2 H2=>tb { D with nx:=N,ct:=N,bk:=D.nx } O2 H2)
def yci (fp:List Addr) (h:Heap):List (Addr × Obj):=fp.filterMap fun b=>(h.get? b).map fun o=>(b,o)
theorem zcv {h:Heap} {b:Addr} {o:Obj} (hb:b∈fp) (e:h.get? b=some o):(b,o)∈yci fp h:=ud6.mpr ⟨b,hb,by rw [e];rfl⟩
theorem zlm {h:Heap} {p:Addr × Obj} (hp:p∈yci fp h):p.1∈fp/\h.get? p.1=some p.2:=by
 obtain ⟨b,hb,e⟩:=ud6.mp hp;cases q:h.get? b with
 | none=>rw [q] at e;cases e
 | some o =>rw [q] at e;have e':(b,o)=p:=zzl e;subst e';exact ⟨hb,q⟩
theorem Inv.pinned {O:St} {H:Hp} (I:Inv X pj O H s) (hf:∀ b∈fp,yb0 X pj H b) (ho:∀ b∈fp,∃ o,s.heap.get? b=some o/\∀ v,o.data≠.cell v):Inv X (pj++yci fp s.heap) O H s :=
 I.pins_of fun p hp=>(oma hp).elim (fun z=>I.pin p (zzy _ z)) fun z=>by obtain ⟨hb,e⟩:=zlm z;obtain ⟨f0,f1,f2,_⟩:=hf p.1 hb;obtain ⟨o,e',d⟩:=ho p.1 hb;rw [e] at e';cases e';exact ⟨e,f0,f1,f2,d⟩
theorem Inv.unpinned {pl:List (Addr × Obj)} {O:St} {H:Hp} (I:Inv X (pj++pl) O H s):Inv X pj O H s:=I.pins_of fun p hp=>I.pin p (zzy _ (List.mem_append_left _ hp))
theorem zu5 {iter:Expr} {body:List Stmt} {wi:TI} {g:TG} {tb:TS} {pos:Pos} (hp:PassesOwn (model X.prog X.w) X.A X.env X.xe) (hc:X.calm=true) (hi:PI X tg iter wi) (hg:PG X tg g) (hb:PSs X body tb)
  (hs:∀ x,foldedSetIterable iter X.env x=pure x:=by intro _;rfl):PS X (.For tg iter body [] pos) (tFor wi g tb):=by
 intro pj s O H D I h;refine wpAny_For (thn (hi pj s O H _ I h) fun v s1 h1=>thn h1 fun itv s2 h2=>?_) hs;obtain ⟨it,fp,tn,J,H2,e,I2,T,st2,f2,W,⟨m0,w0⟩,turn⟩:=h2;subst e;have stat:∀ {H':Hp},(∀ b∈fp,H' b=none)->∀ b∈fp,yb0 X pj H' b:=fun hn b hb=>⟨hn b hb,(f2 b hb).2⟩;refine codeAny_forLoop_any (fun n s'=>∃ i O' H',Inv X pj O' H' s'/\tn i s'.heap/\(∀ b∈fp,H' b=none)/\W i n O' H') ?_ m0 ⟨0,O,H2,I2,st2,fun b hb=>(f2 b hb).1,w0⟩;rintro n s3 ⟨i,O3,H3,I3,st3,fr3,w3⟩;rcases turn i n O3 H3 w3 with ⟨stop,qn⟩ | ⟨go,N,hN,step⟩
 .refine wpAny_passesOwn hp (thn (T.done X rfl rfl rfl hc i pj s3 O3 H3 X.xe I3 (stat fr3) st3 stop) fun r s4 ⟨hr,I4⟩=>?_);subst hr;exact wpAny_execs_nil ⟨O3,H3,I4,qn⟩
 .refine wpAny_passesOwn hp (thn (T.item X rfl rfl rfl hc i pj s3 O3 H3 X.xe I3 (stat fr3) st3 go) fun r s4 ⟨u,hr,h4⟩=>?_);subst hr;refine wpAny_passesOwn hp (thn h4 fun _ s5 ⟨x,H5,I5,r5,y5,st5,fr5⟩=>?_);have I5':=I5.pinned (stat fr5) (T.obj _ _ st5);refine wpAny_passesOwn hp (thn (hg _ s5 O3 H5 x u _ I5' r5 (step x H5 y5)) fun _ s6 ⟨O6,H6,I6,q6⟩=>?_);refine wpAny_passesOwn hp (thn (hb _ s6 O6 H6 _ I6 q6) fun f s7 q7=>?_);have again:∀ {O7:St} {H7:Hp},Inv X (pj++yci fp s5.heap) O7 H7 s7->N O7 H7->∃ m,m<n/\∃ i O' H',Inv X pj O' H' s7/\tn i s7.heap/\(∀ b∈fp,H' b=none)/\W i m O' H':=fun {O7 H7} I7 n7=>by obtain ⟨m',hm,w7⟩:=hN O7 H7 n7;refine ⟨m',hm,i+1,O7,H7,I7.unpinned,T.keep _ _ _ st5 fun b hb o e=>(I7.pin (b,o) (zzy _ (zzy _ (zcv hb e)))).1,fun b hb=>?_,w7⟩;obtain ⟨o,e,d⟩:=T.obj _ _ st5 b hb;exact (I7.pin (b,o) (zzy _ (zzy _ (zcv hb e)))).2.1
  cases f with
  | next=>obtain ⟨O7,H7,I7,n7⟩:=q7;exact again I7 n7
  | cont=>obtain ⟨O7,H7,I7,n7⟩:=q7;exact again I7 n7
  | brk=>obtain ⟨O7,H7,I7,q7⟩:=q7;exact ⟨O7,H7,I7.unpinned,q7⟩
  | ret v=>obtain ⟨x7,O7,H7,I7,r7,q7⟩:=q7;exact ⟨x7,O7,H7,I7.unpinned,r7,q7⟩
end
end
section
variable {pj:List (Addr × Obj)} {op:CmpOp} {g:Int->Int->Int} {us:List Value}
abbrev R2:=V->V->Hp->VK->Prop
def OpR (X:Cx) (f:Value->Value->Sem Value) (r:R2):Prop :=
 ∀ (pj:List (Addr × Obj)) (s:Shared) (O:St) (H:Hp) (x y:V) (v u:Value) (Q:VK),Inv X pj O H s->RelV x v->RelV y u->r x y H Q ->
  wpAny (model X.prog X.w) X.A (f v u) (EP X pj O Q) X.xe s
def UnR (X:Cx) (f:Value->Sem Value) (r:V->Hp->VK->Prop):Prop :=
 ∀ (pj:List (Addr × Obj)) (s:Shared) (O:St) (H:Hp) (x:V) (v:Value) (Q:VK),Inv X pj O H s->RelV x v->r x H Q ->
  wpAny (model X.prog X.w) X.A (f v) (EP X pj O Q) X.xe s
def ybl (X:Cx) (f:Value) (r:List V->Hp->VK->Prop):Prop :=
 ∀ (pj:List (Addr × Obj)) (s:Shared) (O:St) (H:Hp) (xs:List V) (us:List Value) (Q:VK),Inv X pj O H s->Vals xs us->r xs H Q ->
  wpAny (model X.prog X.w) X.A (call f us) (EP X pj O Q) X.xe s
def TruR (X:Cx) (r:V->Hp->(Bool->Hp->Prop)->Prop):Prop :=
 ∀ (pj:List (Addr × Obj)) (s:Shared) (O:St) (H:Hp) (x:V) (v:Value) (Q:Bool->Hp->Prop),Inv X pj O H s->RelV x v->r x H Q ->
  wpAny (model X.prog X.w) X.A (truthy v) (TP X pj O Q) X.xe s
def tOp (r:R2) (ta tb:TE):TE:=fun O H Q=>ta O H fun x H1=>tb O H1 fun y H2=>r x y H2 Q
def tUn (r:V->Hp->VK->Prop) (ta:TE):TE:=fun O H Q=>ta O H fun x H1=>r x H1 Q
def rI (C:Int->Int->Prop) (g:Int->Int->V):R2:=fun x y H Q=>∃ i j,x=.int i/\y=.int j/\C i j/\Q (g i j) H
def rI0 (g:Int->Int->V):R2:=fun x y H Q=>∃ i j,x=.int i/\y=.int j/\Q (g i j) H
def rU (g:Int->V):V->Hp->VK->Prop:=fun x H Q=>∃ i,x=.int i/\Q (g i) H
section
variable {X:Cx} {a b c:Expr} {ta tb tc:TE} {pos:Pos}
theorem yaz (ha:PE X a ta) (hb:PE X b tb) {s:Shared} {O:St} {H:Hp} {R:V->V->Hp->Prop} (I:Inv X pj O H s)
  (h:ta O H fun x H1=>tb O H1 fun y H2=>R x y H2) {Q:Value->Shared->Prop} {f:Value->Value->Sem Value}
  (hf:∀ v u s2 x y H2,Inv X pj O H2 s2->RelV x v->RelV y u->R x y H2->wpAny (model X.prog X.w) X.A (f v u) Q X.xe s2) :
  wpAny (model X.prog X.w) X.A (eval a X.env) (fun v s₁=>wpAny (model X.prog X.w) X.A (eval b X.env) (fun u s₂=>wpAny (model X.prog X.w) X.A (f v u) Q X.xe s₂) X.xe s₁) X.xe s:=by
 refine thn (ha pj s O H _ I h) fun v s1 ⟨x,H1,I1,r1,q1⟩=>?_;refine thn (hb pj s1 O H1 _ I1 q1) fun u s2 ⟨y,H2,I2,r2,q2⟩=>?_;exact hf v u s2 x y H2 I2 r1 r2 q2
theorem zvc {op:Operator} {r:R2} (ho:OpR X (binaryOp op) r) (ha:PE X a ta) (hb:PE X b tb):PE X (.BinOp a op b pos) (tOp r ta tb):=by intro pj s O H Q I h;exact wpAny_BinOp (yaz ha hb I h fun v u s2 x y H2 I2 rx ry q=>ho pj s2 O H2 x y v u Q I2 rx ry q)
theorem zx9 {op:UnaryOp} {r:V->Hp->VK->Prop} (ho:UnR X (unaryOp op) r) (ha:PE X a ta):PE X (.UnaryOp op a pos) (tUn r ta):=by intro pj s O H Q I h;exact UnaryOp_ (thn (ha pj s O H _ I h) fun v s1 ⟨x,H1,I1,r1,q1⟩=>ho pj s1 O H1 x v Q I1 r1 q1)
theorem opI {f:Value->Value->Sem Value} {C:Int->Int->Prop}
  (rule:∀ (i j:Int) (t u:Tok) (s:Shared) (Q:Value->Shared->Prop) (E:Value->Shared->Prop),C i j->Q (.int (g i j) s.toks) { s with toks:=s.toks+1 }->wpAny (model X.prog X.w) X.A (f (.int i t) (.int j u)) Q E s) :
  OpR X f (rI C fun i j=>.int (g i j)):=by
 intro pj s O H x y v u Q I rx ry h;obtain ⟨i,j,rfl,rfl,hc,q⟩:=h;obtain ⟨t,rfl⟩:=rx;obtain ⟨t',rfl⟩:=ry;exact rule i j t t' s _ _ hc ⟨.int (g i j),H,I.tok _,⟨_,rfl⟩,q⟩
theorem opI0 {f:Value->Value->Sem Value}
  (rule:∀ (i j:Int) (t u:Tok) (s:Shared) (Q:Value->Shared->Prop) (E:Value->Shared->Prop),Q (.int (g i j) s.toks) { s with toks:=s.toks+1 }->wpAny (model X.prog X.w) X.A (f (.int i t) (.int j u)) Q E s) :
  OpR X f (rI0 fun i j=>.int (g i j)):=by
 intro pj s O H x y v u Q I rx ry h;obtain ⟨i,j,rfl,rfl,q⟩:=h;obtain ⟨t,rfl⟩:=rx;obtain ⟨t',rfl⟩:=ry;exact rule i j t t' s _ _ ⟨.int (g i j),H,I.tok _,⟨_,rfl⟩,q⟩
theorem opB0 {f:Value->Value->Sem Value} {g:Int->Int->Bool}
  (rule:∀ (i j:Int) (t u:Tok) (s:Shared) (Q:Value->Shared->Prop) (E:Value->Shared->Prop),Q (.bool (g i j)) s->wpAny (model X.prog X.w) X.A (f (.int i t) (.int j u)) Q E s) :
  OpR X f (rI0 fun i j=>.bl (g i j)):=by
 intro pj s O H x y v u Q I rx ry h;obtain ⟨i,j,rfl,rfl,q⟩:=h;obtain ⟨t,rfl⟩:=rx;obtain ⟨t',rfl⟩:=ry;exact rule i j t t' s _ _ ⟨.bl (g i j),H,I,rfl,q⟩
def CDiv (i j:Int):Prop:=0<j/\j<1073741824
def CMul (i j:Int):Prop:=(-(2 ^ 64)<i/\i<2 ^ 64)\/(-(2 ^ 64)<j/\j<2 ^ 64)
theorem CMul.ok {i j:Int} (h:CMul i j):IntMulOk i j:=by
 rcases h with ⟨h1,h2⟩ | ⟨h1,h2⟩
 .exact .of_left (intBits_le_64 h1 h2)
 .exact .of_right (intBits_le_64 h1 h2)
theorem zvs:OpR X (binaryOp .Add) (rI0 fun i j=>.int (i+j)):=opI0 fun _ _ _ _ _ _ _ q=>add_int q
theorem zvq:OpR X (binaryOp .Sub) (rI0 fun i j=>.int (i-j)):=opI0 fun _ _ _ _ _ _ _ q=>sub_int q
theorem yfi:OpR X (binaryOp .Mult) (rI CMul fun i j=>.int (i*j)):=opI fun _ _ _ _ _ _ _ hc q=>mul_int q hc.ok
theorem yeo:OpR X (binaryOp .FloorDiv) (rI CDiv fun i j=>.int (i/j)):=opI fun i j _ _ _ _ _ hc q=>by have h1:(0:Int)<j:=hc.1;have h2:j<1073741824:=hc.2;exact floordiv_int (by lia) (by rw [Int.fdiv_eq_ediv_of_nonneg i (by lia)];exact q) (.inl (PyProof.noPylong_small (by lia)))
theorem yfe:OpR X (binaryOp .Mod) (rI (fun _ j=>0<j) fun i j=>.int (i%j)):=opI fun i j _ _ _ _ _ hc q=>by have h1:(0:Int)<j:=hc;exact mod_int' (by lia) (by rw [Int.fmod_eq_emod_of_nonneg i (by lia)];exact q)
theorem unI {f:Value->Sem Value} {g:Int->Int}
  (rule:∀ (i:Int) (t:Tok) (s:Shared) (Q:Value->Shared->Prop) (E:Value->Shared->Prop),Q (.int (g i) s.toks) { s with toks:=s.toks+1 }->wpAny (model X.prog X.w) X.A (f (.int i t)) Q E s) :
  UnR X f (rU fun i=>.int (g i)):=by
 intro pj s O H x v Q I rx h;obtain ⟨i,rfl,q⟩:=h;obtain ⟨t,rfl⟩:=rx;exact rule i t s _ _ ⟨.int (g i),H,I.tok _,⟨_,rfl⟩,q⟩
theorem zue:UnR X (unaryOp .USub) (rU fun i=>.int (-i)):=unI fun _ _ _ _ _ q=>neg_int q
end
section
variable {X:Cx} {a b c:Expr} {ta tb tc:TE} {pos:Pos}
theorem zq2 {O:St} {H:Hp} {s:Shared} {Q:VK} {k k':Bool} (I:Inv X pj O H s) (q:Q (.bl k) H) (e:k=k'):EP X pj O Q (.bool k') s:=by subst e;exact ⟨.bl k,H,I,rfl,q⟩
theorem zye:OpR X (compareOp .Lt) (rI0 fun i j=>.bl (decide (i<j))):=opB0 fun _ _ _ _ _ _ _ q=>lt_int q
theorem zyf:OpR X (compareOp .Gt) (rI0 fun i j=>.bl (decide (j<i))):=opB0 fun _ _ _ _ _ _ _ q=>gt_int q
theorem zvr:OpR X (compareOp .Is) (fun x y H Q=>y=.non/\Q (.bl (decide (x=.non))) H):=by
 intro pj s O H x y v u Q I rx ry h;obtain ⟨rfl,q⟩:=h;cases ry;refine is_none_gen (zq2 I q ?_);cases x<;>first
  | (cases rx;rfl)
  | (obtain ⟨t,rfl⟩:=rx;rfl)
theorem zsv:OpR X (compareOp .IsNot) (fun x y H Q=>y=.non/\Q (.bl (!decide (x=.non))) H):=by
 intro pj s O H x y v u Q I rx ry h;obtain ⟨rfl,q⟩:=h;cases ry;refine isnot_none_gen (zq2 I q ?_);cases x<;>first
  | (cases rx;rfl)
  | (obtain ⟨t,rfl⟩:=rx;rfl)
theorem yb5 (b:Expr) (h:op≠.In:=by decide) (h2:op≠.NotIn:=by decide):behindInMarks op b=false:=by
 have e1:(op==CmpOp.In)=false:=by cases op<;>first | rfl | exact absurd rfl h
 have e2:(op==CmpOp.NotIn)=false:=by cases op<;>first | rfl | exact absurd rfl h2
 cases b<;>simp [behindInMarks,e1,e2]
theorem zsl {r:R2} (ho:OpR X (compareOp op) r) (ha:PE X a ta) (hb:PE X b tb) (hm:behindInMarks op b=false):PE X (.Compare a [op] [b] pos) (tOp r ta tb):=by intro pj s O H Q I h;exact wpAny_Compare1 (yaz ha hb I h fun v u s2 x y H2 I2 rx ry q=>ho pj s2 O H2 x y v u Q I2 rx ry q) hm
def yfu (t:TE):TT:=fun O H Q=>t O H fun x H'=>∃ k,x=.bl k/\Q k H'
theorem zsa {r:R2} (ho:OpR X (compareOp op) r) (ha:PE X a ta) (hb:PE X b tb) (hm:behindInMarks op b=false):PT X (.Compare a [op] [b] pos) (yfu (tOp r ta tb)):=by
 intro pj s O H Q I h;refine wpAny_isTrue_Compare1 (thn (ha pj s O H _ I h) fun v s1 ⟨x,H1,I1,r1,q1⟩=>thn (hb pj s1 O H1 _ I1 q1) fun u s2 ⟨y,H2,I2,r2,q2⟩ =>thn (ho pj s2 O H2 x y v u _ I2 r1 r2 q2) fun c s3 ⟨z,H3,I3,r3,k,e,q3⟩=>?_) hm;subst e;cases r3;exact wpAny_truthy_bool ⟨H3,I3,q3⟩
def yf3 (K:W.Frag) (x:V) (H:Hp) (k:Bool):Prop :=
 match x with
 | .non=>k=false
 | .bl b=>k=b
 | .int i=>k=(i != 0)
 | .str y=>y.length<=sizeLine/\k=((y.length:Int) != 0)
 | .byt y=>y.size<=sizeLine/\k=((y.size:Int) != 0)
 | .ref p=>(∃ xs,SqL K H p xs/\k=!xs.isEmpty)\/(∃ xs,SqT K H p xs/\k=!xs.isEmpty)\/∃ qb,H p=some (.dK qb)/\k=!qb.isEmpty
 | _=>False
theorem zj9 {κ:Type} {qb:List (κ × V)} {vs:List (κ × Value)} (r:KV qb vs):(!vs.isEmpty)=!qb.isEmpty:=by cases r<;>rfl
theorem zfc {xs:List V} {qc:List Value} (r:Vals xs qc):(!qc.toArray.isEmpty)=!xs.isEmpty:=by cases r<;>simp
theorem ybu:(sizeLine:Nat)<2 ^ 63:=by rw [ub4];decide
theorem zug:TruR X (fun x H Q=>∃ k,yf3 X.K x H k/\Q k H):=by
 intro pj s O H x v Q I rx h;obtain ⟨k,e,q⟩:=h;have hl:=ybu;have hs:sizeLine=16777216:=ub4;cases x with
 | non =>cases rx;have e':k=false:=e;subst e';exact truthy_none ⟨H,I,q⟩
 | bl b =>cases rx;have e':k=b:=e;subst e';exact wpAny_truthy_bool ⟨H,I,q⟩
 | int i =>obtain ⟨t,rfl⟩:=rx;have e':k=(i != 0):=e;subst e';exact PySem.P.truthy_int ⟨H,I,q⟩
 | str y =>obtain ⟨t,rfl⟩:=rx;obtain ⟨hy,e'⟩:y.length<=sizeLine/\k=((y.length:Int) != 0):=e;subst e';exact PySem.P.truthy_str (by lia) ⟨H,I.tok _,q⟩
 | byt y =>obtain ⟨t,rfl⟩:=rx;obtain ⟨hy,e'⟩:y.size<=sizeLine/\k=((y.size:Int) != 0):=e;subst e';exact PySem.W.truthy_bytes (by lia) ⟨H,I.tok _,q⟩
 | ref p =>
  cases rx;have e':(∃ xs,SqL X.K H p xs/\k=!xs.isEmpty)\/(∃ xs,SqT X.K H p xs/\k=!xs.isEmpty)\/∃ qb,H p=some (.dK qb)/\k=!qb.isEmpty:=e;rcases e' with ⟨xs,hx,e'⟩ | ⟨xs,hx,e'⟩ | ⟨qb,hx,e'⟩
  .subst e';obtain ⟨qc,r,pl,hz⟩:=I.list hx;have hlen:=r.length;exact wpAny_truthy_list pl.isList (by simp only [List.size_toArray];lia) ⟨H,I.tok _,by rw [zfc r];exact q⟩
  .subst e';obtain ⟨qc,r,pl,hz⟩:=I.tuple hx;have hlen:=r.length;exact truthy_tuple pl (by simp only [List.size_toArray];lia) ⟨H,I.tok _,by rw [zfc r];exact q⟩
  .subst e';obtain ⟨hz,hS,vs,r,m⟩:qb.length<=sizeLine/\(p==sysModules)=false/\∃ vs,KV qb vs/\s.heap.DictOf (zax X.prog X.w) p vs:=I.hok p _ hx;have hlen:qb.length=vs.length:=Paired.length r;exact wpAny_truthy_dict hS m (by lia) ⟨H,I.tok _,by rw [zj9 r];exact q⟩
 | _=>exact (show False from e).elim
theorem zoj (ha:PE X a ta) (he:∀ whole,isTrue a X.env whole=(do let v <- whole;standAt a.pos;holding [v] (truthy v))) :
  PT X a (fun O H Q=>ta O H fun x H'=>∃ k,yf3 X.K x H' k/\Q k H'):=by
 intro pj s O H Q I h;exact isTrue_plain (thn (ha pj s O H _ I h) fun v s1 ⟨x,H1,I1,r1,q1⟩=>zug pj s1 O H1 x v Q I1 r1 q1) (he _)
theorem yc8:OpR X (binaryOp .Add) (fun x y H Q=>∃ i j,x=.str i/\y=.str j/\i.length+j.length<=sizeLine/\Q (.str (i++j)) H):=by intro pj s O H x y v u Q I rx ry h;obtain ⟨i,j,rfl,rfl,hz,q⟩:=h;obtain ⟨t,rfl⟩:=rx;obtain ⟨t',rfl⟩:=ry;exact add_str (fun t' tk=>⟨.str (i++j),H,I.tok _,⟨_,rfl⟩,q⟩) hz
theorem ybb {x:V} (r:Vals [x] us):∃ u,us=[u]/\RelV x u:=by
 cases r with
 | cons r1 r2=>cases r2;exact ⟨_,rfl,r1⟩
theorem ye0 {x y:V} (r:Vals [x,y] us):∃ u w',us=[u,w']/\RelV x u/\RelV y w':=by
 cases r with
 | cons r1 r2 =>
  cases r2 with
  | cons r3 r4=>cases r4;exact ⟨_,_,rfl,r1,r3⟩
theorem zg7:ybl X (.type "int") (fun xs H Q=>(∃ i,xs=[.int i]/\Q (.int i) H)\/∃ k,xs=[.bl k]/\Q (.int (if k then 1 else 0)) H):=by
 intro pj s O H xs us Q I r h;rcases h with ⟨i,rfl,q⟩ | ⟨k,rfl,q⟩
 .obtain ⟨u,rfl,t,rfl⟩:=ybb r;exact call_int_int ⟨.int i,H,I,⟨_,rfl⟩,q⟩
 .obtain ⟨u,rfl,r1⟩:=ybb r;cases r1;exact call_int_bool ⟨.int (if k then 1 else 0),H,I.tok _,⟨_,rfl⟩,q⟩
theorem ych:ybl X (.type "str") (fun xs H Q=>∃ i,xs=[.int i]/\i.natAbs.log2<1920/\Q (.str (toString i)) H):=by intro pj s O H xs us Q I r h;obtain ⟨i,rfl,hz,q⟩:=h;obtain ⟨u,rfl,t,rfl⟩:=ybb r;exact PySem.P.str_of_int hz ⟨.str _,H,I.tok _,⟨_,rfl⟩,q⟩
end
end
section
structure ObjM (h:Heap) (x dx C:Addr) (mA:Str->Option Value):Prop where
 obj:h.get? x=some (W.instObj C dx)
 ns:h.Ns1 dx mA
 ne:dx≠x
section
variable {prog:Program} {w:World} {A:Around} {E:Value->Shared->Prop} {s:Shared} {K:W.Frag} {x dx C f:Addr} {mA:Str->Option Value} {name:Str} {v:Value}
end
theorem RelO.some_of {v:V} {o:Option Value} (r:RelO (some v) o):∃ u,o=some u/\RelV v u:=by
 cases o with
 | none=>exact (show False from r).elim
 | some u=>exact ⟨u,rfl,r⟩
section
variable {P:Program} {w:World} {H H':Hp} {h h':Heap} {a C dx:Addr} {fs fs':List (Str × V)}
end
structure Cls (K:W.Frag) (C:Addr):Prop where
 pg:PySem.W.plainGet K C Str.empty=true
 hd:PySem.W.hasDictIn K C=true
 po:PySem.W.plainOver K C=true
 sa:W.findIn K (.ref C) "__setattr__"=some (some (.builtin "object.__setattr__"))
structure Con (K:W.Frag) (C:Addr) (f:Str) (v:V) (u:Value):Prop where
 at_:W.findIn K (.ref C) f=some (some u)
 rel:RelV v u
 get:PySem.W.specialIn K u "__get__"=some none
 cp:PySem.W.copiedNames.contains f=false
structure Meth (K:W.Frag) (C:Addr) (m:Str) (f:Addr):Prop where
 at_:W.findIn K (.ref C) m=some (some (.ref f))
 fn:W.isFn K (.ref f)=true
 kp:W.keepIn K (.ref f)=true
section
variable {X:Cx} {pj:List (Addr × Obj)} {O:St} {H:Hp} {s:Shared} {a C dx:Addr} {fs:List (Str × V)} {f:Str} {v:V} {A:Around} {E:Value->Shared->Prop}
end
section
variable {X:Cx} {o e value:Expr} {f:Str} {pos pos' tpos:Pos} {ta tv:TE}
end
section
variable {X:Cx} {pj:List (Addr × Obj)} {O:St} {H:Hp} {s:Shared} {A:Around} {E:Value->Shared->Prop} {Q:Value->Shared->Prop} {c:Value} {b:Bool}
end
end
section
variable {K:W.Frag} {us:List Value} {mg:Str->Option Value} {scope:Scope}
structure Room (k:Nat) (A:Around):Prop where
 hd:A.handled=none
 dp:A.depth+3*k+5<recursionLimit
 un:A.units+16*k+200<cLine
theorem Room.deeper {k:Nat} {A:Around} (r:Room (k+1) A) (env:Env):Room k (A.deeper env) :=
 ⟨r.hd,by have:=r.dp;show A.depth+1+3*k+5<_;lia,by have:=r.un;show A.units+3+16*k+200<_;lia⟩
theorem Room.depth {k:Nat} {A:Around} (r:Room k A):A.depth<recursionLimit:=by have:=r.dp;lia
def tNil:TA:=fun _ H Q=>Q [] H
def yfx (ta:TE) (tr:TA):TA:=fun O H Q=>ta O H fun x H1=>tr O H1 fun xs H2=>Q (x::xs) H2
section
variable {X:Cx} {e:Expr} {es:List Expr} {te:TE} {t:TA} {pos:Pos}
theorem zqj:PA X [] tNil:=fun _ _ _ _ H Q I h=>Calls.spliced_nil ⟨[],H,I,.nil,h⟩
theorem zhr (ha:PE X e te) (hr:PA X es t) (hs:starEach (e::es) X.env=(false,eval e X.env)::starEach es X.env:=by rfl):PA X (e::es) (yfx te t):=by intro pos pj s O H Q I h;rw [hs];show wpAny _ _ (spliced ((false,eval e X.env)::backTo pos (starEach es X.env))) _ _ s;refine Calls.spliced_cons (thn (ha pj s O H _ I h) fun u s1 ⟨x,H1,I1,r1,q1⟩=>?_);exact thn (hr pos pj s1 O H1 _ I1 q1) fun us s2 ⟨xs,H2,I2,r2,q2⟩=>⟨x::xs,H2,I2,.cons r1 r2,q2⟩
def tTup (t:TA):TE:=fun O H Q=>t O H fun xs H1=>xs.length<=sizeLine/\∀ p,H1 p=none->Q (.ref p) (upd H1 p (.tup xs))
def tLst (t:TA):TE:=fun O H Q=>t O H fun xs H1=>xs.length<=sizeLine/\∀ p,H1 p=none->Q (.ref p) (upd H1 p (.lst xs))
theorem zvb {x1} (h:PA X es t):PE X (.Tuple es x1 pos) (tTup t):=by intro pj s O H Q I hq;refine wpAny_Tuple_spliced (thn (h pos pj s O H _ I hq) fun us s1 ⟨xs,H1,I1,r,z,q⟩=>⟨by rw [<- r.length];exact z,?_⟩);have hf:H1 s1.heap.objs.size=none:=I1.hok.fresh (zza _);refine ⟨.ref s1.heap.objs.size,upd H1 s1.heap.objs.size (.tup xs),I1.laid (t':=s1.toks) (fun b u e=>zyz _ e) (zza _) ?_,rfl,q _ hf⟩;exact ⟨z,us,r,⟨_,zy8 _ rfl,rfl,_,rfl⟩⟩
theorem zvg (h:PA X es t):PE X (.List es pos) (tLst t):=by intro pj s O H Q I hq;refine wpAny_List_spliced (thn (h pos pj s O H _ I hq) fun us s1 ⟨xs,H1,I1,r,z,q⟩=>⟨by rw [<- r.length];exact z,?_⟩);have hf:H1 s1.heap.objs.size=none:=I1.hok.fresh (zza _);refine ⟨.ref s1.heap.objs.size,upd H1 s1.heap.objs.size (.lst xs),I1.laid (t':=s1.toks) (fun b u e=>zyz _ e) (zza _) ?_,rfl,q _ hf⟩;exact ⟨z,us,0,r,zy8 _ rfl⟩
end
abbrev Sp:=List V->Hp->VK->XK->Prop
abbrev CXT:=List Env->Hp->Shared->XK->Value->Shared->Prop
structure Env0 (P:Program) (w:World) (K:W.Frag) (mg:Str->Option Value) (base:Heap) (A:Around) (outer:List Env) (s:Shared) (H:Hp):Prop where
 frames:A.frames=some outer
 mod:Mod K mg base
 bs:∀ b o,base.get? b=some o->s.heap.get? b=some o/\H b=none
 bsz:base.objs.size<=s.heap.objs.size
 funs:s.heap.FunFrames base outer
 frf:∀ b∈frs outer,H b=none
 hok:HOk P w H s.heap
 bare:AllBare s.gens
def CE (outer:List Env) (P:Program) (w:World) (H:Hp) (s:Shared) (Q:VK) (u:Value) (s':Shared):Prop :=
 ∃ v H',s'.os=s.os/\AllBare s'.gens/\Un (frs outer) [] H H' s.heap s'.heap/\HOk P w H' s'.heap/\RelV v u/\Q v H'
def CR (CX:CXT) (outer:List Env) (P:Program) (w:World) (H:Hp) (s:Shared) (Q:VK) (E:XK) (r:Result) (s':Shared):Prop :=
 match r with
 | .ok (.ret u)=>CE outer P w H s Q u s'
 | .ok _=>False
 | .error e=>CX outer H s E e s'
structure FnOk (P:Program) (w:World) (K:W.Frag) (mg:Str->Option Value) (base:Heap) (CX:CXT) (k:Nat) (f:Addr) (fd:FuncData) (ps:List Str) (sp:Sp):Prop where
 len:∀ vs H Q E,sp vs H Q E->vs.length=ps.length
 run:∀ (A:Around) (outer:List Env) (s:Shared) (H:Hp) (args:Args) (us:List Value) (vs:List V) (Q:VK) (E:XK),Room k A->Env0 P w K mg base A outer s H->BindsTo s fd args (ps.zip us)->Vals vs us->sp vs H Q E ->
  codeAny (model P w) A (.call (.ref f) args) (CR CX outer P w H s Q E) s
section
variable {X:Cx} {pj:List (Addr × Obj)} {O:St} {H:Hp} {s s':Shared}
theorem Inv.env0 (I:Inv X pj O H s):Env0 X.prog X.w X.K X.mg X.base X.A X.stack s H :=
 ⟨I.ok.frames,I.ok.mod,I.bs,zzs I.ok.bsz I.sz,I.stack,I.stkFree,I.hok,I.bare⟩
theorem Inv.after {Q:VK} {u:Value} (I:Inv X pj O H s) (h:CE X.stack X.prog X.w H s Q u s'):EP X pj O Q u s':=by obtain ⟨v,H',os,bare,un,hok,r,q⟩:=h;obtain ⟨hh,g,d,t,os'⟩:=s';obtain rfl:os'=s.os:=os;exact ⟨v,H',I.call (h':=hh) (g':=g) (d':=d) (t':=t) (ch:=[]) un hok bare (fun b z=>absurd z (by simp)),r,q⟩
end
def ygg (sp:Sp) (dvs:List V) (E:XK) (t:TA):TE:=fun O H Q=>t O H fun vs H1=>sp (vs++dvs) H1 Q E
def Binds (K:W.Frag) (fd:FuncData) (ps:List Str) (ds:List Value):Prop :=
 ∀ (s:Shared) (us:List Value),K.In s.heap->(us++ds).length=ps.length->BindsTo s fd ⟨us,[]⟩ (ps.zip (us++ds))
theorem Binds.all {fd:FuncData} {ps:List Str} (h:∀ us:List Value,us.length=ps.length->bindArgs fd ⟨us,[]⟩=pure (ps.zip us)):Binds K fd ps []:=fun s us _ hl=>by rw [zzm] at hl ⊢;exact .of_eq (h us hl)
def ydd (CX:CXT) (X:Cx) (E:XK):Prop:=∀ (pj:List (Addr × Obj)) (O:St) (H:Hp) (s:Shared) (e:Value) (s':Shared),Inv X pj O H s->CX X.stack H s E e s'->X.xe e s'
section
variable {X:Cx} {CX:CXT} {k:Nat} {f C:Addr} {fd:FuncData} {ps:List Str} {sp:Sp} {dvs:List V} {ds:List Value} {E:XK} {x m:Str} {p pos apos:Pos} {e o:Expr} {es:List Expr} {ta:TE} {t:TA}
theorem zur {pj:List (Addr × Obj)} {O:St} {H:Hp} {s:Shared} {Q:VK} {vs:List V} (F:FnOk X.prog X.w X.K X.mg X.base CX k f fd ps sp) (hr:Room k X.A) (hb:Binds X.K fd ps ds) (hd:Vals dvs ds) (hx:ydd CX X E)
  (I:Inv X pj O H s) (r:Vals vs us) (h:sp (vs++dvs) H Q E):wpAny (model X.prog X.w) X.A (call (.ref f) us) (EP X pj O Q) X.xe s:=by
 have r2:Vals (vs++dvs) (us++ds):=r.append hd;have hl:(us++ds).length=ps.length:=by rw [<- r2.length];exact F.len _ _ _ _ h
 refine wpAny_call (codeAny_mono (F.run X.A X.stack s H ⟨us,[]⟩ (us++ds) (vs++dvs) Q E hr I.env0 (hb s us I.kIn hl) r2 h) fun r s' hq=>?_);cases r with
 | error e=>exact hx pj O H s e s' I hq
 | ok fl =>
  cases fl with
  | ret u=>exact I.after hq
  | next=>exact False.elim hq
  | brk=>exact False.elim hq
  | cont=>exact False.elim hq
theorem zsm (F:FnOk X.prog X.w X.K X.mg X.base CX k f fd ps sp) (hr:Room k X.A) (hg:Gl X x) (hm:X.mg x=some (.ref f)) (hk:W.keepIn X.K (.ref f)=true) (hb:Binds X.K fd ps ds) (hd:Vals dvs ds) (hx:ydd CX X E)
  (ha:PA X (e::es) t) (hdb:(x==("__debug__":Str))=false:=by decide) (he:starEach (e::es) X.env=(false,eval e X.env)::starEach es X.env:=by rfl) (hpl:(backTo pos (starEach es X.env)).any (·.1)=false:=by rfl) :
  PE X (.Call (.Name x p) (e::es) [] pos) (ygg sp dvs E t):=by
 intro pj s O H Q I h;refine wpAny_Call_Name_kw (zmb I hg hm ?_ hdb);refine PySem.W.callWith_K (h₀:=X.base) I.ok.mod.kin hk (thn (ha pos pj s O H _ I h) fun us s1 ⟨vs,H1,I1,r,q⟩=>⟨I1.kIn,?_⟩) he hpl;exact zur F hr hb hd hx I1 r q
structure Mk (K:W.Frag) (C f:Addr):Prop where
 makes:PySem.W.makesIn K C=true
 init:W.findIn K (.ref C) "__init__"=some (some (.ref f))
 fn:W.isFn K (.ref f)=true
 kp:W.keepIn K (.ref C)=true
end
section
variable {X:Cx} {CX:CXT} {k:Nat} {f C:Addr} {fd:FuncData} {ps ks:List Str} {sp:Sp} {E:XK} {x m:Str} {p pos apos kpos:Pos} {e o:Expr} {es:List Expr} {kws:List Keyword} {te ta:TE} {t tk:TA} {nm:Option Str}
structure KBinds (K:W.Frag) (fd:FuncData) (ps ks:List Str) (g:List Value->List Value->List Value) (gV:List V->List V->List V):Prop where
 to:∀ (s:Shared) (us ws:List Value),K.In s.heap->(g us ws).length=ps.length->BindsTo s fd ⟨us,ks.zip ws⟩ (ps.zip (g us ws))
 rel:∀ {vs:List V} {us:List Value} {zs:List V} {ws:List Value},Vals vs us->Vals zs ws->Vals (gV vs zs) (g us ws)
variable {g:List Value->List Value->List Value} {gV:List V->List V->List V}
end
structure FnScope (N P:List Str) (sc:Scope):Prop where
 kind:sc.kind=.function
 co:sc.isCoroutine=false
 gen:sc.isGenerator=false
 nd:N.Nodup
 pre:N.take P.length=P
 par:∀ x∈P,sc.names.lookup x=some .local\/sc.names.lookup x=some .cell
 nofree:∀ y∈sc.names,y.2≠.free
theorem zg9 {kindOf:Str->Option NameKind} {x:Str}:∀ {binds:List (Str × Value)} {m:Str->Option Value},(∀ v,(x,v)∉binds)->bindL kindOf binds m x=m x
 | [],_,_=>rfl
 | (n,v)::r,m,h=>by
  unfold bindL;rw [zg9 fun w hw=>h w (zzc _ hw)];split
  .have:x≠n:=by rintro rfl;exact h v zzg
   simp [this]
  .rfl
theorem zhb {kindOf:Str->Option NameKind} {x:Str}:∀ {binds:List (Str × Value)} {m:Str->Option Value},(∀ v,(x,v)∉binds)->bindC kindOf binds m x=m x
 | [],_,_=>rfl
 | (n,v)::r,m,h=>by
  unfold bindC;rw [zhb fun w hw=>h w (zzc _ hw)];split
  .rfl
  .have:x≠n:=by rintro rfl;exact h v zzg
   simp [this]
theorem zha {kindOf:Str->Option NameKind} {x:Str} {v:Value}:∀ {P:List Str} {vs:List Value} {i:Nat} {m:Str->Option Value},P.Nodup->P[i]?=some x->vs[i]?=some v->kindOf x=some .local ->
  bindL kindOf (P.zip vs) m x=some v
 | [],_,_,_,_,h,_,_=>by simp at h
 | _::_,[],_,_,_,_,h,_=>by simp at h
 | p::P,w::vs,0,m,nd,h1,h2,hk=>by simp at h1 h2;subst h1;subst h2;show bindL kindOf ((p,w)::P.zip vs) m p=_;unfold bindL;rw [zg9 fun v hv=>(ua6.mp nd).1 (List.of_mem_zip hv).1,if_pos hk];simp
 | p::P,w::vs,i+1,m,nd,h1,h2,hk=>by show bindL kindOf ((p,w)::P.zip vs) m x=_;unfold bindL;exact zha (i:=i) (ua6.mp nd).2 (by simpa using h1) (by simpa using h2) hk
theorem zhc {kindOf:Str->Option NameKind} {x:Str} {v:Value}:∀ {P:List Str} {vs:List Value} {i:Nat} {m:Str->Option Value},P.Nodup->P[i]?=some x->vs[i]?=some v->kindOf x≠some .local ->
  bindC kindOf (P.zip vs) m x=some v
 | [],_,_,_,_,h,_,_=>by simp at h
 | _::_,[],_,_,_,_,h,_=>by simp at h
 | p::P,w::vs,0,m,nd,h1,h2,hk=>by simp at h1 h2;subst h1;subst h2;show bindC kindOf ((p,w)::P.zip vs) m p=_;unfold bindC;rw [zhb fun v hv=>(ua6.mp nd).1 (List.of_mem_zip hv).1,if_neg hk];simp
 | p::P,w::vs,i+1,m,nd,h1,h2,hk=>by show bindC kindOf ((p,w)::P.zip vs) m x=_;unfold bindC;exact zhc (i:=i) (ua6.mp nd).2 (by simpa using h1) (by simpa using h2) hk
def start (N:List Str) (vs:List V):St:=vs.map some++List.replicate (N.length-vs.length) none
def yej (CX:CXT) (P:Program) (w:World) (K:W.Frag) (mg:Str->Option Value) (base:Heap) (N:List Str) (qual:Str) (scope:Scope) (f:Addr) (cd:Value) (A:Around) (outer:List Env) (s:Shared) (H:Hp) (E:XK):Cx where
 prog:=P
 w:=w
 K:=K
 mg:=mg
 base:=base
 A:=A.deeper (envOfC qual scope s.heap.objs.size f cd)
 N:=N
 s₀:=s
 H₀:=H
 env:=envOfC qual scope s.heap.objs.size f cd
 outer:=outer
 stack:=envOfC qual scope s.heap.objs.size f cd::outer
 ex:=[]
 calm:=true
 fn:=fun _=>true
 pn:=[]
 xe:=fun e s'=>wpAny (model P w) (A.deeper (envOfC qual scope s.heap.objs.size f cd)) (leaving (envOfC qual scope s.heap.objs.size f cd) e) (fun _ s''=>CX outer H s E e s'') (fun e' s''=>CX outer H s E e' s'') s'
theorem zjn {sc:Scope} {n:Nat} {x:Str} (h:sc.names.lookup x=some .cell):∃ c,(cellsFrom n sc.names []).lookup x=some c:=by have q:=W.cellsFrom_some sc.names n [] (.inl h);exact Option.isSome_iff_exists.mp q
theorem zmn {CX:CXT} {P:Program} {w:World} {base:Heap} {N ps:List Str} {qual:Str} {f:Addr} {cd:Value} {A:Around} {outer:List Env} {s s1:Shared} {H:Hp} {E:XK} {vs:List V}
  (S:FnScope N ps scope) (hd:A.handled=none) (e0:Env0 P w K mg base A outer s H) (hl:vs.length=ps.length) (r:Vals vs us)
  (x:InCallC s s.heap.objs.size (bindL (envOfC qual scope s.heap.objs.size f cd).kindOf (ps.zip us) fun _=>none) (cellsFrom (s.heap.objs.size+1) scope.names []) (bindC (envOfC qual scope s.heap.objs.size f cd).kindOf (ps.zip us) fun _=>none) s1) :
  Inv (yej CX P w K mg base N qual scope f cd A outer s H E) [] (start N vs) H s1:=by
 have hpl:ps.length<=N.length:=by have:=zze List.length S.pre;rw [zAa] at this;lia
 obtain ⟨h1,tk,rfl,hk⟩:=x.done;have noA:∀ b:Addr,b∉(yej CX P w K mg base N qual scope f cd A outer s H E).ex:=fun b z=>absurd (show b∈([]:List Addr) from z) (by simp);refine ⟨⟨e0.mod,S.kind,rfl,rfl,zza _,fun y z c h1 h2=>?_,fun y hy=>?_,fun y c _ h=>?_,fun _=>hd,Around.frames_deeper e0.frames,.inr ⟨rfl,rfl⟩,fun b z=>absurd z (noA b),e0.bs,e0.bsz,fun b _ _=>noA b,fun b z=>absurd z (noA b),e0.funs,e0.frf⟩,
  rfl,e0.bare,Un.kept hk,⟨_,x.toInCall.ns,fun i y v h1 h2 h3=>?_⟩,fun y c h=>⟨_,x.cell y c h⟩,e0.hok.fresh (Nat.le_refl _),fun y c h=>?_,fun p hp=>absurd (show p∈([]:List (Addr × Obj)) from hp) (by simp),e0.hok.kept hk,?_⟩
 .exact name_of_addr x.apart (PySem.mem_of_lookup h1) (PySem.mem_of_lookup h2)
 .have hy:scope.names.lookup y=some .cell\/scope.names.lookup y=some .free:=hy;rcases hy with hy | hy
  .exact zjn hy
  .exact absurd rfl (S.nofree _ (PySem.mem_of_lookup hy))
 .exact Nat.le_of_lt (x.above y c (PySem.mem_of_lookup h))
 .have hi:i<vs.length:=by
   unfold start at h2;by_cases hi:i<vs.length
   .exact hi
   .rw [uc3 (by simpa using hi)] at h2;rw [List.getElem?_replicate] at h2;split at h2<;>cases h2
  have ha:vs[i]?=some v:=by
   unfold start at h2;rw [uc4 (by simpa using hi),List.getElem?_map] at h2;cases e:vs[i]? with
   | none=>rw [e] at h2;cases h2
   | some a=>rw [e] at h2;cases h2;rfl
  obtain ⟨u,hu,rv⟩:=r.get ha;have hp:ps[i]?=some y:=by rw [<- S.pre,List.getElem?_take_of_lt (by lia)];exact h1
  have ndP:ps.Nodup:=by rw [<- S.pre];exact S.nd.sublist (List.take_sublist _ _)
  refine ⟨u,rv,?_⟩;rcases S.par y (zAf hp) with k | k
  .exact .inl ⟨k,zha ndP hp hu k⟩
  .obtain ⟨c,e⟩:=zjn (n:=s.heap.objs.size+1) k;refine .inr ⟨.inl k,c,e,?_⟩;have q:=x.cell y c e;rw [zhc ndP hp hu (by show scope.names.lookup y≠_;rw [k];decide)] at q;exact q
 .exact e0.hok.fresh (Nat.le_of_lt (x.above y c (PySem.mem_of_lookup h)))
 .unfold start;show _=N.length;rw [zy4,zy3,List.length_replicate];lia
theorem zyp {CX:CXT} {P:Program} {w:World} {base:Heap} {k:Nat} {f:Addr} {name qual:Str} {params:Arguments} {body:List Stmt} {dV kV doc pm cdv ct oc:Value} {an od:Option Addr}
  {osl:Array (Option Value)} {N ps:List Str} {sp:Sp} (lk:K.lookup f=some ⟨oc,od,.func (W.fnOf name qual params body scope dV kV doc pm an cdv ct),osl⟩) (hcd:W.codeIn K cdv qual=true) (S:FnScope N ps scope)
  (len:∀ vs H Q E,sp vs H Q E->vs.length=ps.length)
  (hbody:∀ (A:Around) (outer:List Env) (s:Shared) (H:Hp) (vs:List V) (Q:VK) (E:XK),Room k (A.deeper (envOfC qual scope s.heap.objs.size f cdv))->sp vs H Q E ->
   ∃ t,PSs (yej CX P w K mg base N qual scope f cdv A outer s H E) body t/\t { nx:=fun _ H'=>Q .non H',rt:=Q } (start N vs) H) :
  FnOk P w K mg base CX (k+1) f (W.fnOf name qual params body scope dV kV doc pm an cdv ct) ps sp:=by
 refine ⟨len,fun A outer s H args us vs Q E hr e0 hb r hsp=>?_⟩;have hl:=len _ _ _ _ hsp;have KX:K.In s.heap:=e0.mod.kin.keeps fun b o e=>(e0.bs b o e).1;have lim:s.heap.NoLimit:=e0.mod.nolimit.keeps fun b o e=>(e0.bs b o e).1;have hkind:∀ y∈ps.zip us,scope.names.lookup y.1=some .local\/(scope.names.lookup y.1=some .cell/\((cellsFrom (s.heap.objs.size+1) scope.names []).lookup y.1).isSome=true):=fun ⟨n,v⟩ hy=>by
  rcases S.par n (List.of_mem_zip hy).1 with q | q
  .exact .inl q
  .exact .inr ⟨q,W.cellsFrom_some _ _ _ (.inl q)⟩
 refine codeAny_call_function hr.depth (KX _ _ lk) rfl S.co S.gen rfl (PySem.W.codeRec_of KX hcd) (hb _ _ _ _ ?_);refine wpAny_newFunctionEnv_cells S.kind hkind fun env he s1 x=>?_;subst he;refine ⟨lim.keeps x.toInCall.keep,codeAny_func ?_⟩;obtain ⟨t,ht,hq⟩:=hbody A outer s H vs Q E (hr.deeper _) hsp;have I:Inv (yej CX P w K mg base N qual scope f cdv A outer s H E) [] (start N vs) H s1:=zmn S hr.hd e0 hl r x;refine wpAny_mono (ht [] s1 (start N vs) H _ I hq) (fun fl s' hs=>?_) fun e s' hs=>hs;have fin:∀ {O':St} {H':Hp} {v:V} {u:Value},Inv (yej CX P w K mg base N qual scope f cdv A outer s H E) [] O' H' s'->RelV v u->Q v H'->CE outer P w H s Q u s' :=
  fun {O' H' v u} J rv q=>⟨v,H',J.os,J.bare,J.base,J.hok,rv,q⟩
 cases fl with
 | ret u =>obtain ⟨v,O',H',J,rv,q⟩:=hs;exact fin J rv q
 | next =>obtain ⟨O',H',J,q⟩:=hs;exact fin (v:=V.non) (u:=Value.none) J rfl q
 | brk =>obtain ⟨_,_,_,q⟩:=hs;exact False.elim q
 | cont =>obtain ⟨_,_,_,q⟩:=hs;exact False.elim q
end
section
section
variable {X:Cx} {x:Str} {p pos:Pos} {e:Expr} {es:List Expr} {t:TA} {id T:String} {r:List V->Hp->VK->Prop}
def tCB (r:List V->Hp->VK->Prop) (t:TA):TE:=fun O H Q=>t O H fun vs H1=>r vs H1 Q
theorem ziv (hc:ybl X (.builtin id) r) (hg:Gl X x) (hm:X.mg x=none) (hv:bootBuiltins x=some (.builtin id)) (ha:PA X (e::es) t) (hn:x≠"__name__":=by decide) (hdb:(x==("__debug__":Str))=false:=by decide)
  (he:starEach (e::es) X.env=(false,eval e X.env)::starEach es X.env:=by rfl) (hpl:(backTo pos (starEach es X.env)).any (·.1)=false:=by rfl):PE X (.Call (.Name x p) (e::es) [] pos) (tCB r t):=by
 intro pj s O H Q I h;refine wpAny_Call_Name_kw (zfa I hg hm hv ?_ hn hdb);exact PyProof.Rows.callWith_builtin1 (thn (ha pos pj s O H _ I h) fun us s1 ⟨vs,H1,I1,r1,q1⟩=>hc pj s1 O H1 vs us Q I1 r1 q1) he hpl
theorem zgn (hc:ybl X (.type T) r) (hg:Gl X x) (hm:X.mg x=none) (hv:bootBuiltins x=some (.type T)) (ha:PA X (e::es) t) (hn:x≠"__name__":=by decide) (hdb:(x==("__debug__":Str))=false:=by decide)
  (he:starEach (e::es) X.env=(false,eval e X.env)::starEach es X.env:=by rfl) (hpl:(backTo pos (starEach es X.env)).any (·.1)=false:=by rfl):PE X (.Call (.Name x p) (e::es) [] pos) (tCB r t):=by
 intro pj s O H Q I h;refine wpAny_Call_Name_kw (zfa I hg hm hv ?_ hn hdb);exact PyProof.Rows.callWith_type1 (thn (ha pos pj s O H _ I h) fun us s1 ⟨vs,H1,I1,r1,q1⟩=>hc pj s1 O H1 vs us Q I1 r1 q1) he hpl
end
end
end L2
namespace HT
open PySem PyProof.Rows
variable {Q:Value->Shared->Prop} {lo hi:Option Int}
section
open PySem.SeqAt
open PySem.AutoSeq1 (wpAny_loadPart')
open PySem.MeetsSeq PySem.MeetsSeq2 PySem.MeetsSeq3
end
section
variable {prog:Program} {w:World} {A:Around} {E:Value->Shared->Prop} {s:Shared}
theorem cat_tup {t b:Addr} {vs ws:List Value} (ht:IsTup s.heap t vs.toArray) (hb:IsTup s.heap b ws.toArray) (hv:vs≠[])
  (h1:ws=[]->Q (.ref t) s) (h2:ws≠[]->Q (.ref s.heap.objs.size) { s with heap:=s.heap.push { cls:=.type "tuple",data:=.seq (vs++ws).toArray } })
  (hsz:vs.length+ws.length<=sizeLine):wpAny (model prog w) A (binaryOp .Add (.ref t) (.ref b)) Q E s:=by
 obtain ⟨⟨cls,dd,data,sl⟩,ho,hc,n,hd⟩:=id ht;obtain ⟨⟨cls2,dd2,data2,sl2⟩,ho2,hc2,n2,hd2⟩:=id hb;simp only at hc hd hc2 hd2;subst hc hd hc2 hd2;have e:vs.toArray++ws.toArray=(vs++ws).toArray:=by simp
 by_cases hw:ws=[]
 .exact concat_meets ⟨_,ho,rfl⟩ ⟨_,ho2,rfl⟩ noFill_tuple_add seq_tuple_add PySem.F.slot_tuple_add PySem.F.entry_tuple_add (PySem.F.args_tuple_add_2 _ _)
   (tuple_addW1 t b vs.toArray ws.toArray n n2 dd dd2 sl sl2 (by simpa using hv) (by simp [hw])) ⟨ho,ho2,h1 hw⟩
 .refine concat_meets ⟨_,ho,rfl⟩ ⟨_,ho2,rfl⟩ noFill_tuple_add seq_tuple_add PySem.F.slot_tuple_add PySem.F.entry_tuple_add (PySem.F.args_tuple_add_2 _ _)
   (tuple_addW2 t b vs.toArray ws.toArray n n2 dd dd2 sl sl2 (by simpa using hv) (by simpa using hw) (by rw [ua3,ua3];exact hsz)) ⟨ho,ho2,?_⟩
  rw [e];exact h2 hw
def sIx (n d:Nat):Option Int->Nat
 | none=>d
 | some v=>if v<0 then (v+(n:Int)).toNat else min v.toNat n
theorem zup (n d:Nat) (hd:d<=n) (o:Option Int):sIx n d o<=n:=by
 cases o with
 | none=>exact hd
 | some v =>
  show (if v<0 then (v+(n:Int)).toNat else min v.toNat n)<=n;by_cases hv:v<0
  .rw [if_pos hv];lia
  .rw [if_neg hv];exact Nat.min_le_right _ _
theorem znc (v:Int) (n d:Nat):(if v<0 then max (v+(n:Int)) 0 else min v (n:Int))=((sIx n d (some v):Nat):Int):=by
 show (if v<0 then max (v+(n:Int)) 0 else min v (n:Int))=(((if v<0 then (v+(n:Int)).toNat else min v.toNat n):Nat):Int);by_cases hv:v<0
 .simp only [if_pos hv];lia
 .simp only [if_neg hv];lia
theorem zkg (lo hi:Option Int) (n:Nat):Builtin.Slice.sliceAdjust lo hi 1 (n:Int)=(((sIx n 0 lo:Nat):Int),((sIx n n hi:Nat):Int)):=by
 have h1:¬ ((1:Int)<0):=by lia
 unfold Builtin.Slice.sliceAdjust;simp only [h1,if_false];refine Prod.ext ?_ ?_
 .cases lo with
  | none=>rfl
  | some v=>exact znc v n 0
 .cases hi with
  | none=>rfl
  | some v=>exact znc v n n
theorem zjy (i j:Nat):Builtin.Slice.slicePlaces (i:Int) (j:Int) 1=j-i:=by
 unfold Builtin.Slice.slicePlaces;have h1:(1:Int)>0:=by lia
 simp only [h1,if_true,Int.ediv_one];split<;>lia
theorem ze1 {v:Value} {o:Option Int} {Q:Option Int->Shared->Prop} (p:IsPart v o) (h:Q o s):wpAny (model prog w) A (Builtin.Slice.slicePartIndex v) Q E s:=by
 cases p with
 | none=>exact slicePart_none h
 | int i t=>exact slicePart_int h
theorem sliceApplied_gen {sl:Addr} {vl vu:Value} {n:Nat} {Q:Int × Int × Nat->Shared->Prop} (hs:s.heap.IsSliceOf sl vl vu .none) (pl:IsPart vl lo) (pu:IsPart vu hi)
  (h:Q (((sIx n 0 lo:Nat):Int),1,sIx n n hi-sIx n 0 lo) s):wpAny (model prog w) A (Builtin.Slice.sliceApplied (.ref sl) (pure (n:Int))) Q E s:=by
 obtain ⟨os,hos,hcs,hds⟩:=id hs;unfold Builtin.Slice.sliceApplied Builtin.Slice.sliceFields;refine zy2 (zy2 (ub3 hos hds (x:=vl) rfl (zy2 (ub3 hos hds (x:=vu) rfl (zy2 (ub3 hos hds (x:=.none) rfl (zy9 ?_)))))));refine zy2 (slicePart_none ?_);show wpAny _ _ (if ((1:Int)==0)=true then _ else _) _ _ s;rw [if_neg (by decide)];refine zy2 (ze1 pl (zy2 (ze1 pu (zy2 (zy9 ?_)))));show wpAny _ _ (match Builtin.Slice.sliceAdjust lo hi 1 (n:Int) with | (lo,hi)=>pure (lo,(1:Int),Builtin.Slice.slicePlaces lo hi 1)) _ _ s;rw [zkg lo hi n];show wpAny _ _ (pure (((sIx n 0 lo:Nat):Int),(1:Int),Builtin.Slice.slicePlaces ((sIx n 0 lo:Nat):Int) ((sIx n n hi:Nat):Int) 1)) _ _ s;rw [zjy];exact zy9 h
theorem zon (xs:Array Value) (i k:Nat):((List.range k).filterMap fun (m:Nat)=>xs[((i:Int)+(m:Int)*1).toNat]?).toArray=((xs.toList.drop i).take k).toArray:=by
 have e:(fun (m:Nat)=>xs[((i:Int)+(m:Int)*1).toNat]?)=fun m=>xs[i+m]?:=by
  funext m;have:((i:Int)+(m:Int)*1).toNat=i+m:=by lia
  rw [this]
 rw [e];have:=pick_run xs i k;rw [List.filterMap_map] at this;have e2:((fun x=>xs[x]?)∘fun x=>i+x)=fun m=>xs[i+m]?:=rfl;rw [e2] at this;rw [this]
theorem getItem_tuple_cut {t sl:Addr} {items:Array Value} {vl vu:Value} (ht:IsTup s.heap t items) (hs:s.heap.IsSliceOf sl vl vu .none) (pl:IsPart vl lo) (pu:IsPart vu hi)
  (hw:¬ (sIx items.size 0 lo=0/\sIx items.size items.size hi=items.size))
  (h:Q (.ref s.heap.objs.size) { s with heap:=s.heap.push { cls:=.type "tuple",data:=.seq ((items.toList.drop (sIx items.size 0 lo)).take (sIx items.size items.size hi-sIx items.size 0 lo)).toArray } })
  (hsz:items.size<=sizeLine):wpAny (model prog w) A (getItem (.ref t) (.ref sl)) Q E s:=by
 have htake:sizeOk (.seq ((items.toList.drop (sIx items.size 0 lo)).take (sIx items.size items.size hi-sIx items.size 0 lo)).toArray):=by show ((items.toList.drop (sIx items.size 0 lo)).take (sIx items.size items.size hi-sIx items.size 0 lo)).toArray.size<=sizeLine;rw [zy6,zAa,List.length_drop,zzt];lia
 have hj:sIx items.size items.size hi<=items.size:=zup _ _ (zza _) hi;obtain ⟨os,hos,hcs,hds⟩:=id hs;have hTs:s.TypeIs (.ref sl) "slice":=⟨os,hos,hcs⟩;unfold getItem
 try with_reducible refine uc1 ?_
 first | refine zy2 (zy9 ?_) | skip
 refine zy2 (wpAny_sequenceKey ht.typeIs (by decide) ?_);refine zy2 (zz1 (name:=Str.ofString "__getitem__") ht.typeIs PyProof.Rows.slot_tuple_getitem
  (zz5 PyProof.Rows.slot_tuple_getitem ht.typeIs entry_tuple_getitem ?_ (args_tuple_getitem _ _)))
 show wpAny _ _ (Builtin.Tuple.tupleItemsOf (.ref t) >>= _) _ _ s;refine zy2 (tupleItemsOf_ ht ?_);refine zy2 (wpAny_typeOf hTs ?_);rw [if_pos (by decide)];refine zy2 (sliceApplied_gen hs pl pu ?_);have hno:¬ ((((sIx items.size 0 lo:Nat):Int)==0&&(1:Int)==1&&(sIx items.size items.size hi-sIx items.size 0 lo)==items.size)=true):=by intro q;rw [zy7,zy7] at q;have q1:((sIx items.size 0 lo:Nat):Int)=0:=ua2 q.1.1;have q2:sIx items.size items.size hi-sIx items.size 0 lo=items.size:=ua2 q.2;exact hw ⟨by lia,by lia⟩
 show wpAny _ _ (if (((sIx items.size 0 lo:Nat):Int)==0&&(1:Int)==1&&(sIx items.size items.size hi-sIx items.size 0 lo)==items.size)=true then _ else _) _ _ s;rw [if_neg hno,zon]
 first
  | exact zy2 (m:=Builtin.Tuple.tupleExact _) (zz4 (zy9 ⟨_,rfl,zy9 h⟩) htake)
  | exact zy2 (m:=Builtin.Tuple.tupleExact _) (zz4 (zy2 (zy9 (zy9 ⟨_,rfl,zy9 h⟩))) htake)
  | exact zy2 (zy2 (m:=Builtin.Tuple.tupleExact _) (zz4 (zy9 (zy9 ⟨_,rfl,zy9 h⟩)) htake))
  | exact zy2 (zy2 (m:=Builtin.Tuple.tupleExact _) (zz4 (zy9 ⟨_,rfl,zy9 h⟩) htake))
end
end HT
namespace L2
open PySem Spec PyProof.Rows
section
abbrev TO:=St->Hp->(Option Int->Hp->Prop)->Prop
def PO (X:Cx) (e:Option Expr) (t:TO):Prop :=
 ∀ (pj:List (Addr × Obj)) (s:Shared) (O:St) (H:Hp) (Q:Option Int->Hp->Prop),Inv X pj O H s->t O H Q ->
  wpAny (model X.prog X.w) X.A (evalPart e X.env) (fun u s'=>∃ o H',Inv X pj O H' s'/\IsPart u o/\Q o H') X.xe s
def zri:TO:=fun _ H Q=>Q none H
def ygk (t:TE):TO:=fun O H Q=>t O H fun x H1=>∃ i,x=.int i/\Q (some i) H1
section
variable {X:Cx} {e:Expr} {te:TE} {lo hi:Option Expr} {tl th:TO} {pos p2:Pos}
theorem zsf:PO X none zri:=by intro pj s O H Q I h;rw [evalPart_none];exact zy9 ⟨none,H,I,.none,h⟩
theorem zse (h:PE X e te):PO X (some e) (ygk te):=by intro pj s O H Q I hw;rw [evalPart_some];refine thn (h pj s O H _ I hw) fun u s1 ⟨x,H1,I1,r1,q1⟩=>?_;obtain ⟨i,rfl,q⟩:=q1;obtain ⟨t,rfl⟩:=r1;exact ⟨some i,H1,I1,.int i t,q⟩
def SlR (X:Cx) (r:V->Option Int->Option Int->Hp->VK->Prop):Prop :=
 ∀ (pj:List (Addr × Obj)) (s:Shared) (O:St) (H:Hp) (x:V) (v vl vu:Value) (lo hi:Option Int) (sl:Addr) (Q:VK),Inv X pj O H s->RelV x v->s.heap.IsSliceOf sl vl vu .none->IsPart vl lo->IsPart vu hi->r x lo hi H Q ->
  ∃ T id,typeLookup (.type T) "__getitem__"=pure (some (.builtin id))/\s.TypeIs v T/\wpAny (model X.prog X.w) X.A (getItem v (.ref sl)) (EP X pj O Q) X.xe s
def tSl (r:V->Option Int->Option Int->Hp->VK->Prop) (te:TE) (tl th:TO):TE:=fun O H Q=>te O H fun x H1=>tl O H1 fun l H2=>th O H2 fun u H3=>r x l u H3 Q
theorem ziu {r:V->Option Int->Option Int->Hp->VK->Prop} (hr:SlR X r) (he:PE X e te) (hl:PO X lo tl) (hu:PO X hi th):PE X (.Subscript e (.Slice lo hi none p2) pos) (tSl r te tl th):=by intro pj s O H Q I h;refine Subscript_ (thn (he pj s O H _ I h) fun v s1 ⟨x,H1,I1,r1,q1⟩=>?_);refine wpAny_Slice (thn (hl pj s1 O H1 _ I1 q1) fun vl s2 ⟨l,H2,I2,pl,q2⟩=>thn (hu pj s2 O H2 _ I2 q2) fun vu s3 ⟨u,H3,I3,pu,q3⟩=>?_);rw [evalPart_none];refine zy9 ?_;have I4:Inv X pj O H3 { s3 with heap:=s3.heap.push { cls:=.type "slice",data:=.fields #[vl,vu,.none] } }:=I3.kept (t':=s3.toks) fun b ob q=>zyz _ q;obtain ⟨T,id,hT,ht,hg⟩:=hr pj { s3 with heap:=s3.heap.push { cls:=.type "slice",data:=.fields #[vl,vu,.none] } } O H3 x v vl vu l u s3.heap.objs.size Q I4 r1 (Heap.IsSliceOf.new ..) pl pu q3;show wpAny (model X.prog X.w) X.A (subscriptTail e (.Slice lo hi none p2) v (.ref s3.heap.objs.size)) (EP X pj O Q) X.xe { s3 with heap:=s3.heap.push { cls:=.type "slice",data:=.fields #[vl,vu,.none] } };exact tail_any (ops:=[.ref s3.heap.objs.size,v]) ht hT hg (by with_unfolding_all rfl)
def ydh (xs:List V) (lo hi:Option Int):List V:=(xs.drop (HT.sIx xs.length 0 lo)).take (HT.sIx xs.length xs.length hi-HT.sIx xs.length 0 lo)
theorem zev (xs:List V) (lo hi:Option Int):(ydh xs lo hi).length<=xs.length:=by unfold ydh;rw [zAa,List.length_drop];lia
def rSlT (K:W.Frag):V->Option Int->Option Int->Hp->VK->Prop:=fun x lo hi H Q=>∃ a xs,x=.ref a/\SqT K H a xs /\
 ¬ (HT.sIx xs.length 0 lo=0/\HT.sIx xs.length xs.length hi=xs.length)/\∀ p,H p=none->Q (.ref p) (upd H p (.tup (ydh xs lo hi)))
theorem zum:SlR X (rSlT X.K):=by
 intro pj s O H x v vl vu lo hi sl Q I rx hs pl pu h;obtain ⟨a,xs,rfl,hx,hw,q⟩:=h;cases rx;obtain ⟨qc,r,ht,hz⟩:=I.tuple hx;have hlen:qc.toArray.size=xs.length:=by rw [zy6];exact r.length.symm
 refine ⟨"tuple",_,PyProof.Rows.slot_tuple_getitem.lookup,ht.typeIs,?_⟩;refine HT.getItem_tuple_cut ht hs pl pu (by rw [hlen];exact hw) ?_ (by rw [hlen];exact hz);rw [hlen];refine ⟨.ref s.heap.objs.size,_,I.laid (t':=s.toks) (o:=.tup (ydh xs lo hi)) (fun b ob q=>zyz _ q) (zza _) ?_,rfl,q _ (I.hok.fresh (zza _))⟩;exact ⟨zzs (zev xs lo hi) hz,_,(r.drop (HT.sIx xs.length 0 lo)).take (HT.sIx xs.length xs.length hi-HT.sIx xs.length 0 lo),IsTup.new _ _⟩
end
end
section
variable {pj:List (Addr × Obj)}
def ixN (n:Nat) (i:Int):Option Nat:=if 0<=i then (if i<n then some i.toNat else none) else if -(n:Int)<=i then some (i+n).toNat else none
def atI {α:Type} (xs:List α) (i:Int):Option α:=(ixN xs.length i).bind fun j=>xs[j]?
theorem zml {n:Nat} {i:Int} {j:Nat} (h:ixN n i=some j):seqIndex? i n=some j/\j<n /\ -(n:Int)<=i/\i<n:=by
 unfold ixN at h;by_cases h0:0<=i
 .rw [if_pos h0] at h;by_cases h1:i<n
  .rw [if_pos h1] at h;have e:i.toNat=j:=zzl h;exact ⟨by rw [seqIndex_of h0 h1,e],by lia,by lia,h1⟩
  .rw [if_neg h1] at h;cases h
 .rw [if_neg h0] at h;by_cases h1 : -(n:Int)<=i
  .rw [if_pos h1] at h;have e:(i+n).toNat=j:=zzl h;exact ⟨by rw [seqIndex_neg (by lia) h1,e],by lia,h1,by lia⟩
  .rw [if_neg h1] at h;cases h
theorem zh8 {α:Type} {xs:List α} {i:Int} {v:α} (h:atI xs i=some v):∃ j,seqIndex? i xs.length=some j/\xs[j]?=some v/\j<xs.length /\ -(xs.length:Int)<=i/\i<xs.length:=by
 unfold atI at h;cases e:ixN xs.length i with
 | none=>rw [e] at h;cases h
 | some j =>rw [e] at h;obtain ⟨h1,h2,h3,h4⟩:=zml e;exact ⟨j,h1,h,h2,h3,h4⟩
def zib (b:Expr):Prop:=∀ o i,subscripted b false o i=operate [o,i] (getItem o i)
def IxR (X:Cx) (r:R2):Prop :=
 ∀ (value slice:Expr) (pj:List (Addr × Obj)) (s:Shared) (O:St) (H:Hp) (x y:V) (v u:Value) (Q:VK),Inv X pj O H s->RelV x v->RelV y u->r x y H Q ->
  subscripted slice false v u=operate [v,u] (getItem v u)->wpAny (model X.prog X.w) X.A (subscriptTail value slice v u) (EP X pj O Q) X.xe s
def MtR (X:Cx) (id:String) (r:V->List V->Hp->VK->Prop):Prop :=
 ∀ (pj:List (Addr × Obj)) (s:Shared) (O:St) (H:Hp) (x:V) (xs:List V) (v:Value) (us:List Value) (Q:VK),Inv X pj O H s->RelV x v->Vals xs us->r x xs H Q ->
  wpAny (model X.prog X.w) X.A (call (.builtin id) (v::us)) (EP X pj O Q) X.xe s
section
variable {X:Cx} {a b:Expr} {ta tb:TE} {pos:Pos}
theorem zyb {r:R2} (hr:IxR X r) (ha:PE X a ta) (hb:PE X b tb) (hs:zib b):PE X (.Subscript a b pos) (tOp r ta tb):=by intro pj s O H Q I h;exact Subscript_ (yaz ha hb I h fun v u s2 x y H2 I2 rx ry q=>hr a b pj s2 O H2 x y v u Q I2 rx ry q (hs _ _))
def rIxL (K:W.Frag):R2:=fun x y H Q=>∃ p xs i v,x=.ref p/\y=.int i/\SqL K H p xs/\atI xs i=some v/\Q v H
def rIxT (K:W.Frag):R2:=fun x y H Q=>∃ p xs i v,x=.ref p/\y=.int i/\SqT K H p xs/\atI xs i=some v/\Q v H
def rIxS:R2:=fun x y H Q=>∃ z i c,x=.str z/\y=.int i/\z.length<=sizeLine/\atI z.cps.toList i=some c/\Q (.str ⟨#[c]⟩) H
theorem ztl:IxR X (rIxL X.K):=by
 intro value slice pj s O H x y v u Q I rx ry h hs;obtain ⟨p,xs,i,z,rfl,rfl,hq,he,q⟩:=h;cases rx;obtain ⟨t,rfl⟩:=ry;obtain ⟨qc,r,pl,hz⟩:=I.list hq;obtain ⟨j,h1,h2,h3,h4,h5⟩:=zh8 he;obtain ⟨w,ew,rw'⟩:=r.get h2;have hl:=r.length;have hn:=ybu;have fin:EP X pj O Q w s:=⟨z,H,I,rw',q⟩;by_cases h0:0<=i
 .have hj:i.toNat=j:=by rw [seqIndex_of h0 h5] at h1;exact zzl h1
  exact item_listR pl.isList h0 (by lia) (by rw [hj];simpa using ew) fin hs
 .have hj:(i+(qc.toArray.size:Int)).toNat=j:=by rw [seqIndex_neg (by lia) h4] at h1;rw [zy6,<- hl];exact zzl h1
  exact subscriptTail_builtinR (x:=w) pl.isList.typeIs slot_list_getitem.lookup
   (wpAny_getItem_list_neg (Q:=fun r s'=>r=w/\EP X pj O Q r s') pl.isList (by lia) (by rw [ua3]<;>lia) (by lia) (by rw [hj];simpa using ew) ⟨rfl,fin⟩) hs
theorem zwx:IxR X (rIxT X.K):=by
 intro value slice pj s O H x y v u Q I rx ry h hs;obtain ⟨p,xs,i,z,rfl,rfl,hq,he,q⟩:=h;cases rx;obtain ⟨t,rfl⟩:=ry;obtain ⟨qc,r,pl,hz⟩:=I.tuple hq;obtain ⟨j,h1,h2,h3,h4,h5⟩:=zh8 he;obtain ⟨w,ew,rw'⟩:=r.get h2;have hl:=r.length;have hn:=ybu;have fin:EP X pj O Q w s:=⟨z,H,I,rw',q⟩;exact subscriptTail_builtinR (x:=w) pl.typeIs slot_tuple_getitem.lookup
  (getItem_tuple (j:=j) (Q:=fun r s'=>r=w/\EP X pj O Q r s') pl (by lia) (by lia) (by rw [ua3,<- hl];exact h1) (by simpa using ew) ⟨rfl,fin⟩) hs
theorem zwy:IxR X rIxS:=by
 intro value slice pj s O H x y v u Q I rx ry h hs;obtain ⟨z,i,c,rfl,rfl,hz,he,q⟩:=h;obtain ⟨t,rfl⟩:=rx;obtain ⟨t',rfl⟩:=ry;obtain ⟨j,h1,h2,h3,h4,h5⟩:=zh8 he;have hl:z.cps.toList.length=z.length:=by simp [Str.length]
 rw [hl] at h1 h4 h5;have hn:=ybu;exact tail_any (typeIs_str s z t) slot_str_getitem.lookup (getItem_str (c:=c) (by have e1:decide (i < -(2 ^ 63:Int))=false:=zzk (by lia);have e2:decide (i>=2 ^ 63)=false:=zzk (by lia);rw [e1,e2,Bool.or_false]) (by rw [h1];simpa using h2) ⟨.str ⟨#[c]⟩,H,I.tok _,⟨_,rfl⟩,q⟩) hs
theorem zj6 (qc:List Value) (n j:Nat) (u:Value):Obj.mapSeq (·.setIfInBounds j u) { cls:=.type "list",data:=.seq qc.toArray n }={ cls:=.type "list",data:=.seq (qc.set j u).toArray n }:=by simp [Obj.mapSeq]
theorem Inv.lst {pj:List (Addr × Obj)} {O:St} {H:Hp} {s:Shared} {p:Addr} {xs:List V} (I:Inv X pj O H s) (h:H p=some (.lst xs)) :
  ∃ (qc:List Value) (n:Nat),Vals xs qc/\s.heap.get? p=some { cls:=.type "list",data:=.seq qc.toArray n }/\xs.length<=sizeLine:=by
 obtain ⟨z,qc,n,r,e⟩:=I.hok p _ h;exact ⟨qc,n,r,e,z⟩
theorem Inv.lstUpd {O:St} {H:Hp} {s:Shared} {p:Addr} {xs ys:List V} {qc its':List Value} {n n':Nat} {f:Obj->Obj} (I:Inv X pj O H s) (h:H p=some (.lst xs))
  (ho:s.heap.get? p=some { cls:=.type "list",data:=.seq qc.toArray n }) (hf:f { cls:=.type "list",data:=.seq qc.toArray n }={ cls:=.type "list",data:=.seq its'.toArray n' }) (r:Vals ys its') (hz:ys.length<=sizeLine) (t:Nat) :
  Inv X pj O (upd H p (.lst ys)) { s with heap:=s.heap.update p f,toks:=t }:=by
 have e:(s.heap.update p f).get? p=some { cls:=.type "list",data:=.seq its'.toArray n' }:=by rw [Heap.get?_update_self f ho (by rw [hf]<;>rfl),hf]
 refine I.write (x:=p) (e:=p) (by rw [h];trivial) (.inl rfl) (fun b u hb q=>(Heap.get?_update_other _ _ (Ne.symm hb)).trans q) ⟨_,e⟩ ?_;exact ⟨hz,its',n',r,e⟩
def yfa:V->V->V->Hp->(Hp->Prop)->Prop:=fun o i v H Q=>∃ p xs k j,o=.ref p/\i=.int k/\H p=some (.lst xs)/\ixN xs.length k=some j/\Q (upd H p (.lst (xs.set j v)))
theorem yd8:PSet X yfa:=by
 intro pj s O H o i v ov iv u Q I ro ri rv h;obtain ⟨p,xs,k,j,rfl,rfl,hp,hj,q⟩:=h;cases ro;obtain ⟨t,rfl⟩:=ri;obtain ⟨qc,n,r,ho,hz⟩:=I.lst hp;obtain ⟨h1,h2,h3,h4⟩:=zml hj;have hl:=r.length;have hn:=ybu;have I':Inv X pj O (upd H p (.lst (xs.set j v))) { s with heap:=s.heap.update p (Obj.mapSeq (·.setIfInBounds j u)) } :=
  I.lstUpd hp ho (zj6 qc n j u) (r.set rv j) (by rw [ub0];exact hz) s.toks
 by_cases h0:0<=k
 .have hk:k.toNat=j:=by rw [seqIndex_of h0 h4] at h1;exact zzl h1
  exact PySem.W.ki_setAt ho h0 (by lia) (by rw [zy6,<- hl];exact h4) (by rw [hk];exact ⟨_,I',q⟩)
 .have hk:(k+(qc.toArray.size:Int)).toNat=j:=by rw [seqIndex_neg (by lia) h3] at h1;rw [zy6,<- hl];exact zzl h1
  exact PySem.W.ki_setBack ho (by lia) (by rw [zy6,<- hl];exact h3) (by lia) (by rw [hk];exact ⟨_,I',q⟩)
theorem zgk (lo hi:Option Int) (n:Nat):(sliceBounds lo hi none n).1=((HT.sIx n 0 lo:Nat):Int)/\(sliceBounds lo hi none n).2.1=((HT.sIx n n hi:Nat):Int)/\(sliceBounds lo hi none n).2.2=1:=by
 refine ⟨?_,?_,rfl⟩
 .cases lo with
  | none=>simp [sliceBounds,HT.sIx]
  | some i =>
   simp only [sliceBounds,HT.sIx,Option.getD_none,show (1:Int)>0 by decide,if_true];by_cases h:i<0
   .simp only [h,if_true]<;>lia
   .simp only [h,if_false]<;>lia
 .cases hi with
  | none=>simp [sliceBounds,HT.sIx]
  | some i =>
   simp only [sliceBounds,HT.sIx,Option.getD_none,show (1:Int)>0 by decide,if_true];by_cases h:i<0
   .simp only [h,if_true]<;>lia
   .simp only [h,if_false]<;>lia
theorem zfm (qc:List Value) (lo hi:Option Int):slicePick qc.toArray lo hi none=((qc.drop (HT.sIx qc.length 0 lo)).take (HT.sIx qc.length qc.length hi-HT.sIx qc.length 0 lo)).toArray:=by obtain ⟨h1,h2,h3⟩:=zgk lo hi qc.toArray.size;unfold slicePick;rw [h1,h2,h3];simp only [sliceRange_one,pick_run,List.size_toArray]<;>rfl
def rSlL (K:W.Frag):V->Option Int->Option Int->Hp->VK->Prop:=fun x lo hi H Q=>∃ a xs,x=.ref a/\SqL K H a xs/\∀ p,H p=none->Q (.ref p) (upd H p (.lst (ydh xs lo hi)))
theorem zku:SlR X (rSlL X.K):=by intro pj s O H x v vl vu lo hi sl Q I rx hs pl pu h;obtain ⟨a,xs,rfl,hx,q⟩:=h;cases rx;obtain ⟨qc,r,ht,hz⟩:=I.list hx;have hlen:=r.length;refine ⟨"list",_,slot_list_getitem.lookup,ht.isList.typeIs,?_⟩;refine wpAny_getItem_list_slice ht.isList hs pl pu .none (by simp) ?_ (by rw [ua3]<;>lia);rw [zfm,<- hlen];refine ⟨.ref s.heap.objs.size,_,I.laid (t':=s.toks) (o:=.lst (ydh xs lo hi)) (fun b ob q=>zyz _ q) (zza _) ?_,rfl,q _ (I.hok.fresh (zza _))⟩;exact ⟨zzs (zev xs lo hi) hz,_,0,(r.drop (HT.sIx xs.length 0 lo)).take (HT.sIx xs.length xs.length hi-HT.sIx xs.length 0 lo),zy8 _ rfl⟩
theorem zdy:ybl X (.builtin "len") (fun xs H Q=>∃ p ys,xs=[.ref p]/\(SqL X.K H p ys\/SqT X.K H p ys)/\Q (.int ys.length) H):=by
 intro pj s O H xs us Q I r h;obtain ⟨p,ys,rfl,hq,q⟩:=h;obtain ⟨u,rfl,rx⟩:=ybb r;cases rx;have hn:=ybu;rcases hq with hq | hq
 .obtain ⟨qc,r',pl,hz⟩:=I.list hq;have hlen:=r'.length;exact Calls.call_len_list pl.isList (by simp only [List.size_toArray]<;>lia) ⟨.int ys.length,H,I.tok _,⟨s.toks+1,by rw [ua3,hlen]⟩,q⟩
 .obtain ⟨qc,r',pl,hz⟩:=I.tuple hq;have hlen:=r'.length;exact len_tuple pl (by simp only [List.size_toArray]<;>lia) ⟨.int ys.length,H,I.tok _,⟨s.toks+1,by rw [ua3,hlen]⟩,q⟩
theorem ycf:ybl X (.builtin "len") (fun xs H Q=>∃ z,xs=[.str z]/\z.length<=sizeLine/\Q (.int z.length) H):=by intro pj s O H xs us Q I r h;obtain ⟨z,rfl,hz,q⟩:=h;obtain ⟨u,rfl,t,rfl⟩:=ybb r;have hn:=ybu;exact len_str (by lia) ⟨.int z.length,H,I.tok _,⟨_,rfl⟩,q⟩
theorem zbz:ybl X (.type "list") (fun xs H Q=>∃ p ys,xs=[.ref p]/\(SqL X.K H p ys\/SqT X.K H p ys)/\∀ l,H l=none->Q (.ref l) (upd H l (.lst ys))):=by
 intro pj s O H xs us Q I r h;obtain ⟨p,ys,rfl,hq,q⟩:=h;obtain ⟨u,rfl,rx⟩:=ybb r;cases rx;have fin:∀ (qc:List Value),Vals ys qc->ys.length<=sizeLine->∀ (h':Heap) (c':Nat),(∀ b o',s.heap.get? b=some o'->h'.get? b=some o') ->
   h'.get? s.heap.objs.size=some { cls:=.type "list",dict:=none,data:=.seq qc.toArray c',slots:=#[] }->EP X pj O Q (.ref s.heap.objs.size) { s with heap:=h' }:=fun qc r' hz h' c' kp e =>
  ⟨.ref s.heap.objs.size,_,I.laid (t':=s.toks) kp (zza _) (show ObjOk X.prog X.w _ h' _ (.lst ys) from ⟨hz,qc,c',r',e⟩),rfl,q _ (I.hok.fresh (zza _))⟩
 rcases hq with hq | hq
 .obtain ⟨qc,r',pl,hz⟩:=I.list hq;have hlen:=r'.length;obtain ⟨o,ho,hc,n,hd⟩:=pl.isList;exact call_list_seq p (.inl rfl) ho hc hd (fun h' c' kp e=>fin qc r' hz h' c' kp e) (by simp only [List.size_toArray]<;>lia)
 .obtain ⟨qc,r',pl,hz⟩:=I.tuple hq;have hlen:=r'.length;obtain ⟨o,ho,hc,n,hd⟩:=pl;exact call_list_seq p (.inr rfl) ho hc hd (fun h' c' kp e=>fin qc r' hz h' c' kp e) (by simp only [List.size_toArray]<;>lia)
theorem zdm:ybl X (.type "tuple") (fun xs H Q=>∃ p ys,xs=[.ref p]/\((SqL X.K H p ys/\∀ l,H l=none->Q (.ref l) (upd H l (.tup ys)))\/(SqT X.K H p ys/\Q (.ref p) H))):=by
 intro pj s O H xs us Q I r h;obtain ⟨p,ys,rfl,h⟩:=h;obtain ⟨u,rfl,rx⟩:=ybb r;cases rx;rcases h with ⟨hq,q⟩ | ⟨hq,q⟩
 .obtain ⟨qc,r',pl,hz⟩:=I.list hq;have hlen:=r'.length;refine call_tuple_list pl.isList (fun h' kp=>?_) (by simp only [List.size_toArray]<;>lia);have I1:Inv X pj O H { s with heap:=h' }:=I.kept (t':=s.toks) kp;have I2:Inv X pj O (upd H h'.objs.size (.tup ys)) { s with heap:=h'.push { cls:=.type "tuple",data:=.seq qc.toArray } } :=
   I1.laid (t':=s.toks) (fun b o e=>zyz _ e) (zza _) (show ObjOk X.prog X.w _ _ _ (.tup ys) from ⟨hz,qc,r',IsTup.new _ _⟩)
  exact ⟨.ref h'.objs.size,_,I2,rfl,q _ (I1.hok.fresh (zza _))⟩
 .obtain ⟨qc,r',pl,hz⟩:=I.tuple hq;exact call_tuple_same pl ⟨.ref p,H,I,rfl,q⟩
def tyV (K:W.Frag) (T:String) (x:V) (H:Hp):Prop:=match x with
 | .str _=>T="str"
 | .int _=>T="int"
 | .ref p=>(T="list"/\∃ xs,SqL K H p xs)\/(T="tuple"/\∃ o,K.lookup p=some o/\o.cls=.type "tuple"/\o.dict=none) \/
   (T="dict"/\((∃ qb,H p=some (.dK qb))\/∃ qb,H p=some (.dT qb)))\/(T="set"/\∃ S n,H p=some (.set S n))
 | _=>False
theorem zqb {O:St} {H:Hp} {s:Shared} {T:String} {x:V} {v:Value} (I:Inv X pj O H s) (r:RelV x v) (ty:tyV X.K T x H) :
  s.TypeIs v T/\∀ a,v=.ref a->∃ ob,s.heap.get? a=some ob/\ob.dict=none:=by
 cases x with
 | str z =>obtain ⟨t,rfl⟩:=r;cases (show T="str" from ty);exact ⟨typeIs_str s z t,fun _ e=>nomatch e⟩
 | int i =>obtain ⟨t,rfl⟩:=r;cases (show T="int" from ty);exact ⟨typeIs_int s i t,fun _ e=>nomatch e⟩
 | ref p =>
  cases r;rcases ty with ⟨rfl,xs,hq⟩ | ⟨rfl,o,hk,hc,hd⟩ | ⟨rfl,hk⟩ | ⟨rfl,S,n,hk⟩
  .obtain ⟨qc,_,pl,_⟩:=I.list hq;refine ⟨pl.isList.typeIs,fun a e=>?_⟩;cases e;obtain ⟨o,n,e,c,hd,_⟩:=pl;exact ⟨o,e,hd⟩
  .refine ⟨⟨o,I.kIn p o hk,hc⟩,fun a e=>?_⟩;cases e;exact ⟨o,I.kIn _ o hk,hd⟩
  .have z:∃ o,s.heap.get? p=some o/\o.ExactDict:=by
    rcases hk with ⟨qb,hk⟩ | ⟨qb,hk⟩
    .obtain ⟨_,_,_,_,o,_,_,e,ex,_⟩:=I.hok p _ hk;exact ⟨o,e,ex⟩
    .obtain ⟨_,_,_,_,o,_,_,e,ex,_⟩:=I.hok p _ hk;exact ⟨o,e,ex⟩
   obtain ⟨o,e,ex⟩:=z;refine ⟨⟨o,e,ex.1⟩,fun a e2=>?_⟩;cases e2;exact ⟨o,e,ex.2.1⟩
  .obtain ⟨o,_,_,_,e,ex,_⟩:=I.hok p _ hk;refine ⟨⟨o,e,ex.1⟩,fun a e2=>?_⟩;cases e2;exact ⟨o,e,ex.2.1⟩
 | _=>exact False.elim ty
def tBM0 (K:W.Frag) (T:String) (r:V->List V->Hp->VK->Prop) (to:TE):TE:=fun O H Q=>to O H fun x H1=>tyV K T x H1/\r x [] H1 Q
def tBM (K:W.Frag) (T:String) (r:V->List V->Hp->VK->Prop) (to:TE) (t:TA):TE:=fun O H Q=>to O H fun x H1=>tyV K T x H1/\t O H1 fun xs H2=>r x xs H2 Q
variable {o e:Expr} {es:List Expr} {to:TE} {t:TA} {name:Str} {apos cpos:Pos} {T id:String} {r:V->List V->Hp->VK->Prop}
theorem zvi (pa:PlainAttrs T) (slot:Slot T name id) (hty:typeOf (.builtin id)=pure (.type "method_descriptor")) (hm:MtR X id r) (ho:PE X o to)
  (hbase:attributeBase o name X.env (eval o X.env)=eval o X.env:=by rfl) (hline:(apos.endLine==cpos.line)=true:=by rfl):PE X (.Call (.Attribute o name apos) [] [] cpos) (tBM0 X.K T r to):=by
 intro pj s O H Q I h;refine wpAny_Call_method0_late hbase hline (thn (ho pj s O H _ I h) fun v s1 ⟨x,H1,I1,r1,ty,q1⟩=>?_);obtain ⟨h1,h2⟩:=zqb I1 r1 ty;exact ⟨T,id,pa,slot,hty,h1,h2,Calls.callWith_builtin rfl (PySem.evalArgs_none (hm pj s1 O H1 x [] v [] Q I1 r1 .nil q1))⟩
theorem zjz (pa:PlainAttrs T) (slot:Slot T name id) (hty:typeOf (.builtin id)=pure (.type "method_descriptor")) (hm:MtR X id r) (ho:PE X o to) (ha:PA X (e::es) t)
  (hbase:attributeBase o name X.env (eval o X.env)=eval o X.env:=by rfl)
  (hfew:((backTo cpos (starEach (e::es) X.env)).all (fun x=>!x.1)&&(backToKw cpos (keywordEach [] X.env)).all (fun x=>x.1.isSome)
   && decide ((e::es).length+([]:List Keyword).length+(if ([]:List Keyword).isEmpty then 0 else 1)<30))=true:=by rfl)
  (hline:(apos.endLine==cpos.line)=true:=by rfl) (hs:starEach (e::es) X.env=(false,eval e X.env)::starEach es X.env:=by rfl) (hplain:(backTo cpos (starEach es X.env)).any (·.1)=false:=by rfl) :
  PE X (.Call (.Attribute o name apos) (e::es) [] cpos) (tBM X.K T r to t):=by
 intro pj s O H Q I h;refine wpAny_Call_method_late hbase hfew hline rfl (thn (ho pj s O H _ I h) fun v s1 ⟨x,H1,I1,r1,ty,q1⟩=>?_);obtain ⟨h1,h2⟩:=zqb I1 r1 ty;refine ⟨T,id,pa,slot,hty,h1,h2,?_⟩;have hA:=ha cpos pj s1 O H1 _ I1 q1;rw [hs] at hA ⊢;refine Calls.callWith_builtin (by show (false||(backTo cpos (starEach es X.env)).any (·.1))=false;rw [hplain]<;>rfl) (Calls.evalArgs_plain ?_);exact thn hA fun us s2 ⟨vs,H2,I2,r2,q2⟩=>hm pj s2 O H2 x vs v us Q I2 r1 r2 q2
end
end
section
variable {qc:List Value}
def MtM (X:Cx) (id:String) (r:V->List V->Hp->VK->Prop):Prop :=
 ∀ (pj:List (Addr × Obj)) (s:Shared) (O:St) (H:Hp) (x:V) (xs:List V) (v:Value) (us:List Value) (Q:VK),Inv X pj O H s->RelV x v->Vals xs us->r x xs H Q ->
  wpAny (model X.prog X.w) X.A (call (.builtin id) (v::us)) (EP X pj O Q) X.xe s
theorem Vals.one:∀ {x:V} {us:List Value},Vals [x] us->∃ u,us=[u]/\RelV x u
 | _,_,.cons r .nil=>⟨_,rfl,r⟩
theorem Vals.zero:∀ {us:List Value},Vals [] us->us=[]
 | _,.nil=>rfl
theorem Vals.dropLast {xs:List V} {us:List Value} (h:Vals xs us):Vals xs.dropLast us.dropLast:=by
 induction h with
 | nil=>exact .nil
 | cons r t ih =>
  cases t with
  | nil=>exact .nil
  | cons q t'=>exact .cons r ih
theorem Vals.rep {xs:List V} {us:List Value} (h:Vals xs us):∀ k:Nat,Vals (List.replicate k xs).flatten (List.replicate k us).flatten
 | 0=>.nil
 | k+1=>by rw [List.replicate_succ,List.replicate_succ,List.flatten_cons,List.flatten_cons];exact Vals.append h (Vals.rep h k)
theorem zkb {α:Type} (l:List α):l.eraseIdx (l.length-1)=l.dropLast:=by
 induction l with
 | nil=>rfl
 | cons a r ih =>
  cases r with
  | nil=>rfl
  | cons b r =>
   have e:(a::b::r).length-1=((b::r).length-1)+1:=by have h1:(a::b::r).length=r.length+2:=rfl;have h2:(b::r).length=r.length+1:=rfl;lia
   rw [e,List.eraseIdx_cons_succ,ih]
   all_goals rfl
theorem zgz (qc:List Value):∀ (k:Nat) (acc:List Value),
  List.foldl (fun x1 x2=>x1++x2) acc.toArray (List.replicate k qc.toArray)=(acc++(List.replicate k qc).flatten).toArray
 | 0,acc=>by simp
 | k+1,acc=>by
  have e:acc.toArray++qc.toArray=(acc++qc).toArray:=by simp
  have e2:(acc++qc)++(List.replicate k qc).flatten=acc++(List.replicate (k+1) qc).flatten:=by rw [List.replicate_succ,List.flatten_cons,zz8]
  rw [<- e2,<- zgz qc k (acc++qc),<- e,List.replicate_succ,List.foldl_cons]
section
variable {X:Cx} {pj:List (Addr × Obj)} {O:St} {H:Hp} {s:Shared} {l b:Addr} {xs ys zs:List V}
theorem Inv.lset {its':List Value} {n:Nat} {f:Array Value->Array Value} {t':Nat} (I:Inv X pj O H s) (hH:H l=some (.lst xs))
  (e:s.heap.get? l=some { cls:=.type "list",data:=.seq qc.toArray n }) (hf:f qc.toArray=its'.toArray) (hv:Vals ys its') (hz:ys.length<=sizeLine) :
  Inv X pj O (upd H l (.lst ys)) { s with heap:=s.heap.update l (Obj.mapSeq f),toks:=t' }:=by
 have q:=PySem.IsL.update e f;rw [hf] at q;refine I.write (x:=l) (e:=l) (by rw [hH];exact trivial) (.inl rfl) (fun b' u hb hu=>(Heap.get?_update_other s.heap (Obj.mapSeq f) (Ne.symm hb)).trans hu) ⟨_,q⟩ ?_;exact ⟨hz,its',_,hv,q⟩
theorem Inv.lnew {t':Nat} (I:Inv X pj O H s) (hv:Vals ys qc) (hz:ys.length<=sizeLine) :
  Inv X pj O (upd H s.heap.objs.size (.lst ys)) { s with heap:=s.heap.push { cls:=.type "list",data:=.seq qc.toArray },toks:=t' } :=
 I.laid (fun _ _ q=>zyz _ q) (zza _) ⟨hz,qc,0,hv,zy8 _ rfl⟩
theorem Inv.fresh (I:Inv X pj O H s):H s.heap.objs.size=none:=I.hok.fresh (zza _)
theorem Inv.lstM (I:Inv X pj O H s) (hH:H l=some (.lst xs)):xs.length<=sizeLine/\∃ (qc:List Value) (n:Nat),Vals xs qc/\xs.length=qc.length/\s.heap.get? l=some { cls:=.type "list",data:=.seq qc.toArray n }:=by obtain ⟨z,qc,n,r,e⟩:=I.hok l _ hH;exact ⟨z,qc,n,r,r.length,e⟩
theorem ziw {n:Nat} (h:n<=sizeLine):Builtin.List.listTooLong n=false:=by unfold Builtin.List.listTooLong;exact zzk (by lia)
end
section
variable {X:Cx}
def zr3:V->List V->Hp->VK->Prop:=fun x vs H Q=>∃ l xs y,x=.ref l/\vs=[y]/\H l=some (.lst xs)/\xs.length<sizeLine/\Q .non (upd H l (.lst (xs++[y])))
theorem zgp:MtM X "list.append" zr3:=by intro pj s O H x vs v us Q I rx rv h;obtain ⟨l,xs,y,rfl,rfl,hH,hz,q⟩:=h;cases rx;obtain ⟨u,rfl,ru⟩:=rv.one;obtain ⟨z,qc,n,r,hl,e⟩:=I.lstM hH;refine call_meets F.slot_list_append ⟨_,e,rfl⟩ F.entry_list_append (F.args_list_append_2 _ _) (PySem.list_append l qc.toArray n u (by rw [zy6];lia)) ⟨e,?_⟩;refine ⟨.non,_,I.lset (its':=qc++[u]) hH e (by simp) (r.append (.cons ru .nil)) ?_,rfl,q⟩;rw [zy4,zz0];lia
def rPop:V->List V->Hp->VK->Prop:=fun x vs H Q=>∃ l xs y,x=.ref l/\vs=[]/\H l=some (.lst xs)/\xs[xs.length-1]?=some y/\Q y (upd H l (.lst xs.dropLast))
theorem zwc:MtM X "list.pop" rPop:=by
 intro pj s O H x vs v us Q I rx rv h;obtain ⟨l,xs,y,rfl,rfl,hH,hy,q⟩:=h;cases rx;have hus:=rv.zero;subst hus;obtain ⟨z,qc,n,r,hl,e⟩:=I.lstM hH;obtain ⟨u,hu,ru⟩:=r.get hy;have hy':qc.toArray[qc.toArray.size-1]?=some u:=by show qc.toArray[qc.length-1]?=some u;rw [<- zz9,<- hl];exact hu
 refine call_meets F.slot_list_pop ⟨_,e,rfl⟩ F.entry_list_pop (F.args_list_pop_1 _) (MeetsSeq.list_pop_last l qc.toArray n u hy' (by rw [zy6];lia)) ⟨e,?_⟩;refine ⟨y,_,I.lset (its':=qc.dropLast) hH e ?_ r.dropLast ?_,ru,q⟩
 .show qc.toArray.eraseIdxIfInBounds (qc.toArray.size-1)=qc.dropLast.toArray;rw [zy6,List.eraseIdxIfInBounds_toArray,zkb]
 .rw [List.length_dropLast];lia
theorem ztb {α:Type} (xs:List α) (k:Nat):(List.replicate k xs).flatten.length=k*xs.length:=by
 induction k with
 | zero=>simp
 | succ k ih=>rw [List.replicate_succ,List.flatten_cons,zy4,ih,Nat.succ_mul,Nat.add_comm]
end
section
variable {prog:Program} {w:World} {A:Around} {E:Value->Shared->Prop} {s:Shared}
set_option maxRecDepth 100000 in
end
section
variable {X:Cx}
end
end
end L2
namespace Att
open PySem PySem.W PySem.Calls PyProof.Rows
theorem zeo {P:Params} {h:Heap}:∀ (ns:List Int) (vs:List Value),WellAll P h vs (ns.map WData.int)->IntsAre vs ns:=by
 intro ns
 induction ns with
 | nil =>intro vs w;rw [List.map_nil] at w;cases w;exact .nil
 | cons n ns ih =>
  intro vs w;rw [zy1] at w;cases w with
  | cons a b =>cases a;exact .cons _ _ (ih _ b)
theorem zky {l:OpenLaw} {n:Nat} (hn:l.most=some n) {P:Params} {h:Heap} {args:List WData} {vals:List Value}
  (hpre:l.row.toRowW.claim.pre args=true) (hwl:WellAll P h vals args) :
  ∃ a vs ns,vals=[Value.ref a]/\args=[WData.list (ns.map WData.int)]/\h.get? a=some { cls:=.type "list",data:=.seq vs.toArray }/\IntsAre vs ns/\ns.length<=n:=by
 have hsh:WShape.hasAll [] args [.list .int]=true:=(pre_splitW hpre).1;have hc:l.pre.holds [] { args:=args }=true:=(pre_splitW hpre).2;obtain ⟨d,r,rfl,h1,h2⟩:=hasAllW_cons hsh;obtain rfl:=hasAllW_nil h2;obtain ⟨xs,rfl,h3⟩:=hasW_list h1;obtain ⟨ns,rfl⟩:=items_int h3;have hlen:ns.length<=n:=by
  unfold OpenLaw.pre at hc;have h4:(WTm.not (.lt (.lit (.int (n:Int))) (.len (.arg 0)))).holds [] { args:=[.list (ns.map .int)] }=true:=by have h4:=(holds_andW hc).1;rw [hn] at h4;exact h4
  have h5:=condW_of h4 (w_not (w_lt w_lit (w_len_list (w_arg rfl))));rw [zy3] at h5;refine Nat.le_of_not_lt fun q=>?_;have q':(n:Int)<((ns.length:Nat):Int):=by lia
  first
   | (rw [zzj q'] at h5;exact absurd h5 (by decide))
   | (simp at h5;lia)
 cases hwl with
 | cons w1 w2 =>
  cases w2;cases w1 with
  | list ho hall=>exact ⟨_,_,ns,rfl,rfl,ho,zeo ns _ hall,hlen⟩
theorem zlc (l:OpenLaw) (args:List WData):l.row.toRowW.claim.post args (.bool true) args=true :=
 postW_of (r:=l.row.toRowW) (X:=(true==true))
  (show WShape.has [] (.bool true) .bool=true by first | rfl | decide | simp [WShape.has,WShape.arms,WShape.armsAll])
  (show (WTm.eq .res (.lit (.bool true))).value [] { args:=args,res:=some (.bool true),after:=args }=some (.bool (true==true)) from w_eq_bool (w_res rfl) w_lit) rfl
theorem attach_call {l:OpenLaw} {n:Nat} {q:Program} {loose:List Str} {XP:(Str->Option Value)->Heap->Prop} {YP:World->Heap->Prop} {d:DefRec}
  (hn:l.most=some n) (hdf:d.params.defaults=[])
  (call:∀ (w:World) (s₀ s₁:Shared) (mg mb:Str->Option Value) (fa:Addr) (o:Obj) (pm cd doc:Value) (a:Addr) (vs:List Value) (ns:List Int),
   Ground q loose [] XP w s₀ mg mb s₁.heap->YP w s₁.heap ->
   s₁.heap.get? fa=some o->o.data=.func (docDef d.name d.params d.body d.scope pm cd doc)->s₁.heap.CodeRec cd d.name->mg d.name=some (.ref fa) ->
   s₁.heap.get? a=some { cls:=.type "list",data:=.seq vs.toArray }->IntsAre vs ns->ns.length<=n->s₁.gens=#[] ->
   codeAny (model l.prog w) callerA (.call (.ref fa) ⟨[.ref a],[]⟩) (fun r s'=>r=.ok (.ret (.bool true))/\OldK s₁.heap s'.heap/\s'.os=s₁.os/\AllBare s'.gens) s₁) :
  WalkO q loose XP YP l.row.toRowW d [] (fun f vs=>PySem.call f vs):=by
 intro w s₀ s₁ mg mb G Y fa o pm cd doc dV kV ho hd hcd hD hmg hg args vals as hpre hlay hrd hwl hlo;obtain rfl:dV=.none:=Dflts.none hD hdf;obtain rfl:kV=.none:=Dflts.noKw hD;obtain ⟨a,vs,ns,rfl,rfl,hobj,hints,hlen⟩:=zky hn hpre hwl;refine enter_call (codeAny_mono (call w s₀ s₁ mg mb fa o pm cd doc a vs ns G Y ho (fd_plain hd) hcd hmg hobj hints hlen hg) fun r s' hq=>?_);obtain ⟨rfl,h2,h3,h4⟩:=hq;exact ⟨.inl ⟨.bool true,.bool true,[],rfl,fun _=>rfl,.bool true,zlc l _,fun _=>⟨List.Pairwise.nil,fun _ hm=>(nomatch hm)⟩⟩,h2,h3,h4⟩
section
variable {prog:Program} {w:World} {A:Around} {E:Value->Shared->Prop} {s:Shared} {K:Frag}
def ledger (h:Heap) (L d:Addr):List (Addr × Obj):=(List.range h.objs.size).filterMap fun a=>if a=L\/a=d then none else (h.get? a).map fun o=>(a,o)
end
end Att
namespace L2
open PySem Spec PyProof.Rows
section
theorem zgf:∀ {vs:List Value} {ns:List Int},IntsAre vs ns->Vals (ns.map V.int) vs
 | _,_,.nil=>.nil
 | _,_,.cons n t h=>.cons ⟨t,rfl⟩ (zgf h)
def Only (H:Hp):Prop:=∀ b,H b=none\/∃ o xs,H b=some (.frz o (.lst xs))
end
section
abbrev KOf {K:W.Frag} {h:Heap} (_:K.In h):W.Frag:=K
end
section
variable {x qual:Str} {st:Stmt} {f:Addr} {fd:FuncData} {ps:List Str}
def zce (s:Stmt):Arguments:=match s with
 | .FunctionDef _ a _ _ _ _ _ _ _ _=>a
 | _=>{ posonlyargs:=[],args:=[],vararg:=none,kwonlyargs:=[],kw_defaults:=[],kwarg:=none,defaults:=[] }
def zbl (s:Stmt):List Stmt:=match s with
 | .FunctionDef _ _ b _ _ _ _ _ _ _=>b
 | _=>[]
def zaa (s:Stmt):Scope:=match s with
 | .FunctionDef _ _ _ _ _ _ sc _ _ _=>sc
 | _=>{ kind:=.function,names:=[],isGenerator:=false,isCoroutine:=false }
abbrev CX0:CXT:=fun _ _ _ _ _ _=>False
abbrev E0:XK:=fun _ _ _=>False
theorem ygl {X:Cx}:ydd CX0 X E0:=fun _ _ _ _ _ _ _ h=>h.elim
structure Fun (K:W.Frag) (x qual:Str) (st:Stmt) (f:Addr) (fd:FuncData):Prop where
 ex:∃ (oc:Value) (od:Option Addr) (kV doc pm:Value) (an:Option Addr) (cdv ct:Value) (osl:Array (Option Value)),
  fd=W.fnOf x qual (zce st) (zbl st) (zaa st) .none kV doc pm an cdv ct/\K.lookup f=some ⟨oc,od,.func fd,osl⟩/\W.codeIn K cdv qual=true
 kp:W.keepIn K (.ref f)=true
section
variable {P:Program} {w:World} {K:W.Frag} {mg:Str->Option Value} {base:Heap}
theorem Fun.ok {N:List Str} {k:Nat} {sp:Sp} (F:Fun K x qual st f fd) (S:FnScope N ps (zaa st)) (len:∀ vs H Q E,sp vs H Q E->vs.length=ps.length)
  (hbody:∀ (cdv:Value) (A:Around) (outer:List Env) (s:Shared) (H:Hp) (vs:List V) (Q:VK) (E:XK),Room k (A.deeper (envOfC qual (zaa st) s.heap.objs.size f cdv))->sp vs H Q E ->
   ∃ t,PSs (yej CX0 P w K mg base N qual (zaa st) f cdv A outer s H E).nox (zbl st) t/\t { nx:=fun _ H'=>Q .non H',rt:=Q } (start N vs) H):FnOk P w K mg base CX0 (k+1) f fd ps sp:=by
 obtain ⟨oc,od,kV,doc,pm,an,cdv,ct,osl,rfl,lk,hcd⟩:=F.ex;refine zyp lk hcd S len fun A outer s H vs Q E hr hsp=>?_;obtain ⟨t,h,q⟩:=hbody cdv A outer s H vs Q E hr hsp;exact ⟨t,h.nox,q⟩
theorem Fun.binds (F:Fun K x qual st f fd)
  (h:∀ (kV doc pm:Value) (an:Option Addr) (cdv ct:Value) (us:List Value),us.length=ps.length->bindArgs (W.fnOf x qual (zce st) (zbl st) (zaa st) .none kV doc pm an cdv ct) ⟨us,[]⟩=pure (ps.zip us)):Binds K fd ps []:=by
 obtain ⟨oc,od,kV,doc,pm,an,cdv,ct,osl,rfl,lk,hcd⟩:=F.ex;exact .all (h kV doc pm an cdv ct)
theorem zw6 {oc:Value} {od an:Option Addr} {osl:Array (Option Value)} {kV doc pm cdv ct:Value} (l:K.lookup f=some ⟨oc,od,.func (W.fnOf x qual (zce st) (zbl st) (zaa st) .none kV doc pm an cdv ct),osl⟩)
  (c:W.codeIn K cdv qual=true) (k:W.keepIn K (.ref f)=true):Fun K x qual st f (W.fnOf x qual (zce st) (zbl st) (zaa st) .none kV doc pm an cdv ct):=⟨⟨oc,od,kV,doc,pm,an,cdv,ct,osl,rfl,l,c⟩,k⟩
end
theorem zgj {n:Nat} (h:n<=1000):n<sizeLine:=Nat.lt_of_le_of_lt h (by decide)
section
variable {X:Cx}
end
theorem ye5 {A B:Prop} (h:B):if false=true then A else B:=by rw [if_neg zzx];exact h
theorem yex {A B:Prop} (h:A):if true=true then A else B:=by rw [if_pos rfl];exact h
def Same (H H':Hp):Prop:=∀ b o,H b=some o->H' b=some o
theorem Same.refl (H:Hp):Same H H:=fun _ _ h=>h
theorem Same.trans {H H1 H2:Hp} (a:Same H H1) (b:Same H1 H2):Same H H2:=fun c o h=>b c o (a c o h)
theorem Same.free {H H':Hp} (e:Same H H') {l:Addr} (h:H' l=Option.none):H l=Option.none:=by
 cases q:H l with
 | none=>rfl
 | some o =>rw [e l o q] at h;cases h
theorem Same.seq {K:W.Frag} {H H':Hp} {a:Addr} {xs:List V} (e:Same H H') (h:SqL K H a xs):SqL K H' a xs:=by
 rcases h with (h | ⟨o,h⟩) | h
 .exact .inl (.inl (e _ _ h))
 .exact .inl (.inr ⟨o,e _ _ h⟩)
 .exact .inr h
end
end L2
end
namespace Ev
open PySem
section
abbrev Kt:=Sum Int (Option Str)
inductive T where
 | non | bl (b:Bool) | int (i:Int) | str (x:Str) | tup (xs:List T) | lst (xs:List T)
 | dk (ks:List Kt) (vs:List T) | dt (ks:List (List Kt)) (vs:List T)
 deriving Inhabited
inductive Bo where
 | add | sub | mul | fdiv | mod
 deriving DecidableEq
inductive Co where
 | eq | ne | lt | gt | isin | notin | isN | notN
 deriving DecidableEq
inductive Ik where
 | plain | range | enum | zip
 deriving DecidableEq
noncomputable def Ik.pair:Ik->Bool
 | .enum=>true
 | .zip=>true
 | _=>false
inductive Ty where
 | tint | tstr
 deriving DecidableEq
inductive Bn where
 | len | toInt | toStr | toList | toTuple | sorted | dict | ord
 deriving DecidableEq
inductive Mt where
 | join | index | count | zfill
 deriving DecidableEq
inductive E where
 | var (i:Nat) | cst (t:T) | glb (x:Str)
 | bin (o:Bo) (a b:E) | cmp (o:Co) (a b:E)
 | land (a b:E) | lor (a b:E) | lnot (a:E) | neg (a:E) | tru (a:E)
 | tup (es:List E) | lst (es:List E)
 | idx (a b:E) | sli (a:E) (lo hi:Option E)
 | call (f:Str) (es:List E) | blt (f:Bn) (a:E) | isi (a:E) (k:Ty) | mth (m:Mt) (a b:E)
 | comp (elt:E) (n:Nat) (k:Ik) (src:List E) (cond:Option E)
 | fst (es:List E)
 deriving Inhabited
inductive S where
 | asg (i:Nat) (e:E)
 | app (i:Nat) (e:E)
 | ext (i:Nat) (e:E)
 | dnew (i:Nat)
 | dput (i:Nat) (k v:E)
 | wloop (c:E) (body:List S)
 | lpop (j i:Nat)
 | nw (i:Nat) (e:E)
 | ret (e:E)
 | ite (c:E) (a b:List S)
 | loop (is:List Nat) (k:Ik) (src:List E) (body:List S)
 | pass
 deriving Inhabited
abbrev SZ:Nat:=16777216
abbrev Env:=List (Option T)
structure Glo where
 call:Str->List T->Option T
 con:Str->Option T
noncomputable def yep:T->Option Kt
 | .int i=>some (.inl i)
 | .str x=>some (.inr (some x))
 | .non=>some (.inr none)
 | _=>none
noncomputable def yck:List T->Option (List Kt)
 | []=>some []
 | x::r=>(yep x).bind fun k=>(yck r).bind fun ks=>some (k::ks)
noncomputable def kT:Kt->T
 | .inl i=>.int i
 | .inr (some x)=>.str x
 | .inr none=>.non
noncomputable def tkT (k:List Kt):T:=.tup (k.map kT)
section
variable {κ β:Type} [DecidableEq κ]
noncomputable def ycr:List κ->List β->κ->Option β
 | k::ks,v::vs,q=>if k=q then some v else ycr ks vs q
 | _,_,_=>none
noncomputable def yfm:List (κ × β)->κ->Option β
 | [],_=>none
 | p::r,k=>if p.1=k then some p.2 else yfm r k
noncomputable def yb3 (qb:List (κ × β)) (k:κ) (v:β):List (κ × β) :=
 if (qb.any fun kv=>decide (kv.1=k))=true then qb.map (fun kv=>if kv.1=k then (kv.1,v) else kv) else qb++[(k,v)]
end
noncomputable def kLt:Kt->Kt->Bool
 | .inl a,.inl b=>decide (a<b)
 | .inr (some a),.inr (some b)=>decide (a.cps.toList<b.cps.toList)
 | _,_=>false
noncomputable def yce:Kt->Kt->Bool
 | .inl _,.inl _=>true
 | .inr (some _),.inr (some _)=>true
 | _,_=>false
noncomputable def ybp:List Kt->List Kt->Bool
 | x::xs,y::ys=>if x=y then ybp xs ys else kLt x y
 | _,_=>false
noncomputable def alike:List Kt->List Kt->Bool
 | [],[]=>true
 | x::xs,y::ys=>yce x y&&alike xs ys
 | _,_=>false
noncomputable def ycd (k:List Kt):List (List Kt)->List (List Kt)
 | []=>[k]
 | x::r=>if ybp k x then k::x::r else x::ycd k r
noncomputable def yav:List (List Kt)->List (List Kt)
 | []=>[]
 | k::r=>ycd k (yav r)
noncomputable def yd2 (l:List (List Kt)):Option (List (List Kt)):=if l.length<=60/\l.Nodup/\(l.all fun x=>(!x.isEmpty)&&l.all fun y=>alike x y)=true then some (yav l) else none
noncomputable def yd4 (l:List (List Kt)):Option T:=(yd2 l).map fun r=>.lst (r.map tkT)
noncomputable def yb6 (i:Int):Bool:=decide (-18446744073709551616<i)&&decide (i<18446744073709551616)
noncomputable def ya2:T->T->Option T
 | .int a,y=>(match y with
  | .int b=>some (.int (a+b))
  | _=>none)
 | .str a,y=>(match y with
  | .str b=>if a.length+b.length<=SZ then some (.str (a++b)) else none
  | _=>none)
 | .lst a,y=>(match y with
  | .lst b=>if a.length+b.length<=SZ then some (.lst (a++b)) else none
  | _=>none)
 | .tup a,y=>(match y with
  | .tup b=>if a.length+b.length<=SZ then some (.tup (a++b)) else none
  | _=>none)
 | _,_=>none
noncomputable def yfo:T->T->Option T
 | .int a,.int b=>some (.int (a-b))
 | _,_=>none
noncomputable def ycy (a:Str) (n:Int):Str:=if n=1 then a else ⟨((List.replicate n.toNat a.cps.toList).flatten).toArray⟩
noncomputable def ycm:T->T->Option T
 | .int a,.int b=>if yb6 a||yb6 b then some (.int (a*b)) else none
 | .str a,.int n=>if 0<=n/\n<=4/\a.length<=1000 then some (.str (ycy a n)) else none
 | .lst xs,.int n=>if 0<=n/\n<=1000/\xs.length<=1000 then some (.lst (List.replicate n.toNat xs).flatten) else none
 | _,_=>none
noncomputable def yay:T->T->Option T
 | .int a,.int b=>if 0<b/\b<1073741824 then some (.int (a/b)) else none
 | _,_=>none
noncomputable def ybe:T->T->Option T
 | .int a,.int b=>if 0<b then some (.int (a%b)) else none
 | _,_=>none
noncomputable def yaz:Bo->T->T->Option T
 | .add=>ya2 | .sub=>yfo | .mul=>ycm | .fdiv=>yay | .mod=>ybe
mutual
noncomputable def eqT:T->T->Bool
 | .non,y=>(match y with
  | .non=>true
  | _=>false)
 | .bl a,y=>(match y with
  | .bl b=>a==b
  | .int b=>(if a then 1 else 0)==b
  | _=>false)
 | .int a,y=>(match y with
  | .bl b=>a==(if b then 1 else 0)
  | .int b=>a==b
  | _=>false)
 | .str a,y=>(match y with
  | .str b=>a==b
  | _=>false)
 | .tup a,y=>(match y with
  | .tup b=>yb2 a b
  | _=>false)
 | .lst a,y=>(match y with
  | .lst b=>yb2 a b
  | _=>false)
 | _,_=>false
noncomputable def yb2:List T->List T->Bool
 | [],[]=>true
 | x::xs,y::ys=>eqT x y&&yb2 xs ys
 | _,_=>false
end
mutual
noncomputable def dpP:T->T->Nat
 | .tup a,y=>(match y with
  | .tup b=>ycj a b+1
  | .dk _ _=>20000
  | .dt _ _=>20000
  | _=>0)
 | .lst a,y=>(match y with
  | .lst b=>ycj a b+1
  | .dk _ _=>20000
  | .dt _ _=>20000
  | _=>0)
 | .dk _ _,_=>20000
 | .dt _ _,_=>20000
 | _,y=>(match y with
  | .dk _ _=>20000
  | .dt _ _=>20000
  | _=>0)
noncomputable def ycj:List T->List T->Nat
 | x::xs,y::ys=>max (dpP x y) (ycj xs ys)
 | _,_=>0
end
noncomputable def flat:T->Bool
 | .tup _=>false
 | .lst _=>false
 | .dk _ _=>false
 | .dt _ _=>false
 | _=>true
noncomputable def eqC (x y:T):Option T:=if dpP x y<=30 then some (.bl (eqT x y)) else none
noncomputable def neC (x y:T):Option T:=if dpP x y<=30 then some (.bl (!eqT x y)) else none
noncomputable def yes:T->Option (List T)
 | .tup xs=>some xs
 | .lst xs=>some xs
 | _=>none
noncomputable def dpI (x:T) (xs:List T):Bool:=xs.all fun z=>decide (dpP z x<=30)
noncomputable def inC (x y:T):Option Bool :=
 match y with
 | .tup xs=>if dpI x xs then some (xs.any fun z=>eqT z x) else none
 | .lst xs=>if dpI x xs then some (xs.any fun z=>eqT z x) else none
 | .dk ks _=>(yep x).map fun k=>ks.any fun q=>decide (q=k)
 | _=>none
noncomputable def yau:Co->T->T->Option T
 | .eq,x,y=>eqC x y
 | .ne,x,y=>neC x y
 | .lt,x,y=>(match x,y with
  | .int a,.int b=>some (.bl (decide (a<b)))
  | _,_=>none)
 | .gt,x,y=>(match x,y with
  | .int a,.int b=>some (.bl (decide (b<a)))
  | _,_=>none)
 | .isin,x,y=>(inC x y).map .bl
 | .notin,x,y=>(inC x y).map fun b=>.bl (!b)
 | .isN,x,y=>(match x,y with
  | .non,.non=>some (.bl true)
  | _,.non=>some (.bl false)
  | _,_=>none)
 | .notN,x,y=>(match x,y with
  | .non,.non=>some (.bl false)
  | _,.non=>some (.bl true)
  | _,_=>none)
noncomputable def ixI (n:Nat) (i:Int):Option Nat:=if 0<=i then (if i<n then some i.toNat else none) else if -(n:Int)<=i then some (i+n).toNat else none
noncomputable def ybd (xs:List T) (i:Int):Option T:=(ixI xs.length i).bind fun j=>xs[j]?
noncomputable def idxS (x:Str) (i:Int):Option T:=if x.length<=SZ then (ixI x.cps.toList.length i).bind fun j=>(x.cps.toList[j]?).map fun c=>.str ⟨#[c]⟩ else none
noncomputable def yah:T->T->Option T
 | .tup xs,.int i=>ybd xs i
 | .lst xs,.int i=>ybd xs i
 | .str x,.int i=>idxS x i
 | .dt ks vs,.tup xs=>(yck xs).bind fun k=>ycr ks vs k
 | _,_=>none
noncomputable def yc1 (n d:Nat):Option Int->Nat
 | none=>d
 | some v=>if v<0 then (v+(n:Int)).toNat else min v.toNat n
noncomputable def cut (xs:List T) (lo hi:Option Int):List T:=(xs.drop (yc1 xs.length 0 lo)).take (yc1 xs.length xs.length hi-yc1 xs.length 0 lo)
noncomputable def ycc:T->Option Int->Option Int->Option T
 | .tup xs,lo,hi=>some (.tup (cut xs lo hi))
 | .lst xs,lo,hi=>some (.lst (cut xs lo hi))
 | _,_,_=>none
noncomputable def ycn:T->Option Bool
 | .non=>some false
 | .bl b=>some b
 | .int i=>some (i != 0)
 | .tup xs=>some (!xs.isEmpty)
 | .lst xs=>some (!xs.isEmpty)
 | _=>none
noncomputable def yeh:List T->Option (List Str)
 | []=>some []
 | .str x::r=>(yeh r).map (x::·)
 | _=>none
noncomputable def ybk (sep:Str) (xs:List T):Option T:=do
 let ys <- yeh xs
 if sep.length<=16/\(ys.map (·.length)).sum+ys.length<=1048576 then some (.str (Str.join sep ys)) else none
noncomputable def yew (x:T):Ty->Bool
 | .tint=>(match x with
  | .int _=>true
  | .bl _=>true
  | _=>false)
 | .tstr=>(match x with
  | .str _=>true
  | _=>false)
noncomputable def ydv:T->Option (List Kt × T)
 | .tup [.tup ks,v]=>(yck ks).map fun k=>(k,v)
 | _=>none
noncomputable def ybo:List T->Option (List (List Kt × T))
 | []=>some []
 | x::r=>(ydv x).bind fun p=>(ybo r).bind fun ps=>some (p::ps)
noncomputable def ybg (l:List (List Kt × T)):List (List Kt × T):=l.foldl (fun acc p=>yb3 acc p.1 p.2) []
noncomputable def ya3:Bn->T->Option T
 | .len,x=>(match x with
  | .tup xs=>some (.int xs.length)
  | .lst xs=>some (.int xs.length)
  | .str x=>if x.length<=SZ then some (.int x.length) else none
  | _=>none)
 | .toInt,x=>(match x with
  | .int i=>some (.int i)
  | .bl b=>some (.int (if b then 1 else 0))
  | _=>none)
 | .toStr,x=>(match x with
  | .str x=>some (.str x)
  | .bl b=>some (.str (if b then "True" else "False"))
  | .int i=>if i.natAbs.log2<1920 then some (.str (toString i)) else none
  | _=>none)
 | .toList,x=>(match x with
  | .tup xs=>some (.lst xs)
  | .lst xs=>some (.lst xs)
  | _=>none)
 | .toTuple,x=>(match x with
  | .tup xs=>some (.tup xs)
  | .lst xs=>some (.tup xs)
  | _=>none)
 | .sorted,x=>(match x with
  | .dt ks _=>yd4 ks
  | _=>none)
 | .dict,x=>(match x with
  | .lst xs=>(ybo xs).bind fun l=>if l.length<=1000 then some (.dt ((ybg l).map (·.1)) ((ybg l).map (·.2))) else none
  | _=>none)
 | .ord,x=>(match x with
  | .str x=>if x.length=1 then some (.int (x.cps.getD 0 0:Nat)) else none
  | _=>none)
noncomputable def zbh (x:T):List T->Option Nat
 | []=>none
 | y::r=>if eqT y x then some 0 else (zbh x r).map (·+1)
noncomputable def ybj:Mt->T->T->Option T
 | .join,.str sep,.lst xs=>ybk sep xs
 | .join,.str sep,.tup xs=>ybk sep xs
 | .count,.lst xs,y=>if dpI y xs then some (.int ((xs.filter fun z=>eqT z y).length:Nat)) else none
 | .zfill,.str x,.int n=>if 0<=n/\n<=1000 then some (.str (PySem.Txt.zfill x n)) else none
 | .index,.lst xs,y=>if (flat y&&xs.all flat)||dpI y xs then (zbh y xs).map fun (i:Nat)=>T.int (i:Int) else none
 | _,_,_=>none
noncomputable def ya6:List T->Nat->List T
 | [],_=>[]
 | x::r,i=>.tup [.int i,x]::ya6 r (i+1)
noncomputable def yb7:List T->List T->List T
 | x::xs,y::ys=>.tup [x,y]::yb7 xs ys
 | _,_=>[]
noncomputable def ybi (n:Nat):List T:=(List.range n).map fun (i:Nat)=>T.int (i:Int)
noncomputable def yai (x:Str):Bool:=x.cps.all (·<128)
noncomputable def ybr (x:Str):List T:=x.cps.toList.map fun c=>T.str ⟨#[c]⟩
noncomputable def items:Ik->List T->Option (List T)
 | .plain,l=>(match l with
  | [.tup xs]=>some xs
  | [.lst xs]=>some xs
  | [.str x]=>if yai x then some (ybr x) else none
  | _=>none)
 | .range,l=>(match l with
  | [.int n]=>if -4611686018427387904<=n/\n<4611686018427387904 then some (ybi n.toNat) else none
  | _=>none)
 | .enum,l=>(match l with
  | [.tup xs]=>some (ya6 xs 0)
  | [.lst xs]=>some (ya6 xs 0)
  | _=>none)
 | .zip,l=>(match l with
  | [x,y]=>(yes x).bind fun xs=>(yes y).bind fun ys=>some (yb7 xs ys)
  | _=>none)
noncomputable def yae (k:Ik) (xs:List T):Option (List T):=(items k xs).bind fun qc=>if qc.length<=SZ then some qc else none
noncomputable def bnd (n:Nat) (x:T) (ρ:Env):Option Env :=
 if n=1 then some (some x::ρ) else
  match x with
  | .tup xs=>if xs.length=n then some (xs.map some++ρ) else none
  | _=>none
noncomputable def ya8 (f:T->Option (Option T)):List T->Option (List T)
 | []=>some []
 | x::xs=>(f x).bind fun r=>(ya8 f xs).bind fun rs=>match r with
  | none=>some rs
  | some y=>some (y::rs)
noncomputable def yfc:List T->Option T
 | xs=>do
  let ys <- yeh xs
  if (ys.map (·.length)).sum<=SZ then some (.str (ys.foldl (·++·) ⟨#[]⟩)) else none
noncomputable def asI:Option T->Option (Option Int)
 | none=>some none
 | some (.int i)=>some (some i)
 | some _=>none
mutual
noncomputable def evE (G:Glo):E->Env->Option T
 | .var i,ρ=>(ρ[i]?).join
 | .cst t,_=>some t
 | .glb x,_=>G.con x
 | .bin o a b,ρ=>(evE G a ρ).bind fun x=>(evE G b ρ).bind fun y=>yaz o x y
 | .cmp o a b,ρ=>(evE G a ρ).bind fun x=>(evE G b ρ).bind fun y=>yau o x y
 | .land a b,ρ=>(evE G a ρ).bind fun x=>match x with
  | .bl true=>evE G b ρ
  | .bl false=>some (.bl false)
  | _=>none
 | .lor a b,ρ=>(evE G a ρ).bind fun x=>match x with
  | .bl true=>some (.bl true)
  | .bl false=>evE G b ρ
  | _=>none
 | .lnot a,ρ=>(evE G a ρ).bind fun x=>match x with
  | .bl b=>some (.bl (!b))
  | _=>none
 | .neg a,ρ=>(evE G a ρ).bind fun x=>match x with
  | .int i=>some (.int (-i))
  | _=>none
 | .tru a,ρ=>(evE G a ρ).bind fun x=>(ycn x).map .bl
 | .tup es,ρ=>if es.length<=1000 then (yac G es ρ).map .tup else none
 | .lst es,ρ=>if es.length<=1000 then (yac G es ρ).map .lst else none
 | .idx a b,ρ=>(evE G a ρ).bind fun x=>(evE G b ρ).bind fun y=>yah x y
 | .sli a lo hi,ρ=>(evE G a ρ).bind fun x=>(evO G lo ρ).bind fun l=>(evO G hi ρ).bind fun h=>(asI l).bind fun l'=>(asI h).bind fun h'=>ycc x l' h'
 | .call f es,ρ=>(yac G es ρ).bind fun xs=>G.call f xs
 | .blt f a,ρ=>(evE G a ρ).bind fun x=>ya3 f x
 | .isi a k,ρ=>(evE G a ρ).bind fun x=>some (.bl (yew x k))
 | .mth m a b,ρ=>(evE G a ρ).bind fun x=>(evE G b ρ).bind fun y=>ybj m x y
 | .comp elt n k src cond,ρ=>(yac G src ρ).bind fun xs=>(yae k xs).bind fun qc =>
   (ya8 (fun x=>(bnd n x ρ).bind fun ρ'=>(evO G cond ρ').bind fun c=>match c with
    | none=>(evE G elt ρ').map some
    | some (.bl true)=>(evE G elt ρ').map some
    | some (.bl false)=>some none
    | some _=>none) qc).map .lst
 | .fst es,ρ=>(yac G es ρ).bind yfc
noncomputable def yac (G:Glo):List E->Env->Option (List T)
 | [],_=>some []
 | e::es,ρ=>(evE G e ρ).bind fun x=>(yac G es ρ).bind fun xs=>some (x::xs)
noncomputable def evO (G:Glo):Option E->Env->Option (Option T)
 | none,_=>some none
 | some e,ρ=>(evE G e ρ).map some
end
inductive Sl where
 | no | val (t:T) | own (ts:List T) | dk (qb:List (Kt × T))
 deriving Inhabited
noncomputable def Sl.get:Sl->Option T
 | .val t=>some t
 | _=>none
noncomputable def Sl.frz:Sl->Sl
 | .own ts=>.val (.lst ts)
 | .dk qb=>.val (.dk (qb.map (·.1)) (qb.map (·.2)))
 | s=>s
inductive Out where
 | nx (τ:List Sl) | rt (t:T)
 deriving Inhabited
noncomputable def ygm (τ:List Sl):Env:=τ.map Sl.get
noncomputable def yaf:List Nat->List Sl->List Sl
 | [],τ=>τ
 | i::r,τ=>yaf r (τ.modify i Sl.frz)
mutual
noncomputable def yaj:E->List Nat
 | .var i=>[i]
 | .cst _=>[] | .glb _=>[]
 | .bin _ a b=>yaj a++yaj b
 | .cmp _ a b=>yaj a++yaj b
 | .land a b=>yaj a++yaj b
 | .lor a b=>yaj a++yaj b
 | .lnot a=>yaj a
 | .neg a=>yaj a
 | .tru a=>yaj a
 | .tup es=>yao es
 | .lst es=>yao es
 | .idx a b=>yaj a++yaj b
 | .sli a lo hi=>yaj a++(yb9 lo++yb9 hi)
 | .call _ es=>yao es
 | .blt _ a=>yaj a
 | .isi a _=>yaj a
 | .mth _ a b=>yaj a++yaj b
 | .comp elt n _ src cond=>yao src++((yaj elt++yb9 cond).filterMap fun i=>if n<=i then some (i-n) else none)
 | .fst es=>yao es
noncomputable def yao:List E->List Nat
 | []=>[]
 | e::es=>yaj e++yao es
noncomputable def yb9:Option E->List Nat
 | none=>[]
 | some e=>yaj e
end
noncomputable def fresh:E->Bool
 | .lst _=>true
 | .bin .add _ _=>true
 | _=>false
noncomputable def yan (e:E) (t:T):Sl:=match fresh e,t with
 | true,.lst ts=>.own ts
 | _,t=>.val t
noncomputable def setAll:List Nat->List T->List Sl->Option (List Sl)
 | [],[],τ=>some τ
 | i::is,x::xs,τ=>setAll is xs (τ.set i (.val x))
 | _,_,_=>none
noncomputable def ya0 (is:List Nat) (x:T) (τ:List Sl):Option (List Sl) :=
 match is,x with
 | [i],x=>some (τ.set i (.val x))
 | is,.tup xs=>setAll is xs τ
 | _,_=>none
noncomputable def yas (f:T->List Sl->Option Out):List T->List Sl->Option Out
 | [],τ=>some (.nx τ)
 | x::xs,τ=>(f x τ).bind fun o=>match o with
  | .nx τ'=>yas f xs τ'
  | .rt t=>some (.rt t)
noncomputable def yfz (s:Option Sl) (k v:T):Option Sl :=
 match s with
 | some (.dk qb)=>(yep k).bind fun q=>if qb.length<SZ then some (.dk (yb3 qb q v)) else none
 | _=>none
noncomputable def setS (s:Option Sl) (k v:T):Option Sl :=
 match s with
 | some (.own ts)=>(match k with
  | .int i=>(ixI ts.length i).map fun j=>.own (ts.set j v)
  | _=>none)
 | s=>yfz s k v
noncomputable def ybn (f:List Sl->Option Out) (g:List Sl->Option T):Nat->List Sl->Option Out
 | 0,_=>none
 | n+1,τ=>(g τ).bind fun t=>match t with
  | .bl true=>(f τ).bind fun o=>(match o with
   | .nx τ'=>ybn f g n τ'
   | .rt t=>some (.rt t))
  | .bl false=>some (.nx τ)
  | _=>none
mutual
noncomputable def evS (G:Glo):S->List Sl->Option Out
 | .asg i e,τ=>(evE G e (ygm (yaf (yaj e) τ))).bind fun t=>some (.nx ((yaf (yaj e) τ).set i (yan e t)))
 | .app i e,τ=>(evE G e (ygm (yaf (yaj e) τ))).bind fun t=>match (yaf (yaj e) τ)[i]? with
  | some (.own ts)=>if ts.length<SZ then some (.nx ((yaf (yaj e) τ).set i (.own (ts++[t])))) else none
  | _=>none
 | .ext i e,τ=>(evE G e (ygm (yaf (yaj e) τ))).bind fun t=>match t,(yaf (yaj e) τ)[i]? with
  | .lst us,some (.own ts)=>if ts.length+us.length<=SZ then some (.nx ((yaf (yaj e) τ).set i (.own (ts++us)))) else none
  | _,_=>none
 | .dnew i,τ=>some (.nx (τ.set i (.dk [])))
 | .dput i k v,τ=>(evE G v (ygm (yaf (yaj v++yaj k) τ))).bind fun y=>(evE G k (ygm (yaf (yaj v++yaj k) τ))).bind fun x =>(setS (yaf (yaj v++yaj k) τ)[i]? x y).map fun s=>.nx ((yaf (yaj v++yaj k) τ).set i s)
 | .wloop c body,τ=>ybn (fun τ=>yab G body τ) (fun τ=>evE G c (ygm (yaf (yaj c) τ))) 1000 τ
 | .lpop j i,τ=>(match τ[i]? with
  | some (.own ts)=>(match ts[ts.length-1]? with
   | some t=>if i=j then none else some (.nx ((τ.set i (.own ts.dropLast)).set j (.val t)))
   | none=>none)
  | _=>none)
 | .nw i e,τ=>(evE G e (ygm (yaf (yaj e) τ))).bind fun t=>match t with
  | .lst ts=>some (.nx ((yaf (yaj e) τ).set i (.own ts)))
  | _=>none
 | .ret e,τ=>(evE G e (ygm (yaf (yaj e) τ))).map .rt
 | .ite c a b,τ=>(evE G c (ygm (yaf (yaj c) τ))).bind fun t=>match t with
  | .bl true=>yab G a τ
  | .bl false=>yab G b τ
  | _=>none
 | .loop is k src body,τ=>(yac G src (ygm (yaf (yao src) τ))).bind fun xs=>(items k xs).bind fun qc =>yas (fun x τ=>(ya0 is x τ).bind fun τ'=>yab G body τ') qc (yaf (yao src) τ)
 | .pass,τ=>some (.nx τ)
noncomputable def yab (G:Glo):List S->List Sl->Option Out
 | [],τ=>some (.nx τ)
 | s::ss,τ=>(evS G s τ).bind fun o=>match o with
  | .nx τ'=>yab G ss τ'
  | o=>some o
end
structure Fd where
 np:Nat
 ns:Nat
 body:List S
 deriving Inhabited
noncomputable def yam (D:Fd) (ts:List T):List Sl:=ts.map .val++List.replicate (D.ns-ts.length) .no
noncomputable def zad:Option Out->Option T
 | some (.nx _)=>some .non
 | some (.rt t)=>some t
 | none=>none
structure Pr where
 fn:Str->Option Fd
 con:Str->Option T
noncomputable def glo (P:Pr) (run:Str->List T->Option T):Glo:=⟨run,P.con⟩
noncomputable def run (P:Pr):Nat->Str->List T->Option T
 | 0,_,_=>none
 | n+1,f,ts=>(P.fn f).bind fun D=>if ts.length=D.np then zad (yab (glo P (run P n)) D.body (yam D ts)) else none
end
section
noncomputable def yal:List Str->Str->Option Nat
 | [],_=>none
 | y::r,x=>if y==x then some 0 else (yal r x).map (·+1)
structure Tc where
 sc:Scope
 nm:List Str
noncomputable def ybq (sc:Scope) (x:Str):Bool:=match sc.names.lookup x with
 | some .local=>true
 | some .cell=>true
 | some .free=>true
 | _=>false
noncomputable def glB (sc:Scope) (x:Str):Bool:=sc.names.lookup x==some .globalImplicit
noncomputable def zab (x:Str):Bool:=!(x==("__debug__":Str))&&!(x==("__classdict__":Str))&&!(x==("__name__":Str))&&(!(x==(".0":Str))&&(!(x==(".put":Str))&&!(x==(".lam":Str))))
noncomputable def ye4 (x:Str):Option Ty :=
 if x==("str":Str) then some .tstr else if x==("int":Str) then some .tint else none
noncomputable def yem (x:Str):Option Bn :=
 if x==("len":Str) then some .len else if x==("int":Str) then some .toInt else if x==("str":Str) then some .toStr else if x==("list":Str) then some .toList else if x==("tuple":Str) then some .toTuple else if x==("sorted":Str) then some .sorted else none
noncomputable def yfn (x:Str):Option Bn:=if x==("dict":Str) then some .dict else if x==("ord":Str) then some .ord else yem x
noncomputable def yf9 (x:Str):Option Mt:=if x==("join":Str) then some .join else if x==("index":Str) then some .index else if x==("count":Str) then some .count else if x==("zfill":Str) then some .zfill else none
noncomputable def bnames:List Str:=["len", "int", "str", "list", "tuple", "bool", "isinstance", "range", "enumerate", "zip", "all", "any", "set", "sorted", "min", "max", "sum", "dict", "ord"]
noncomputable def ygh:Operator->Option Bo
 | .Add=>some .add | .Sub=>some .sub | .Mult=>some .mul | .FloorDiv=>some .fdiv | .Mod=>some .mod
 | _=>none
noncomputable def zmm:Expr->Bool
 | .Constant .none _ _=>true
 | _=>false
noncomputable def yeu:CmpOp->Expr->Option Co
 | .Eq,_=>some .eq | .NotEq,_=>some .ne | .Lt,_=>some .lt | .Gt,_=>some .gt
 | .In,e=>if behindInMarks .In e then none else some .isin
 | .NotIn,e=>if behindInMarks .NotIn e then none else some .notin
 | .Is,e=>if zmm e then some .isN else none
 | .IsNot,e=>if zmm e then some .notN else none
 | _,_=>none
noncomputable def zbs:Expr->Option (List Str)
 | .Name x _=>some [x]
 | .Tuple es _ _=>es.mapM fun e=>match e with
  | .Name x _=>some x
  | _=>none
 | _=>none
noncomputable def ycg:Expr->Bool
 | .Slice ..=>true
 | .Tuple ..=>true
 | .Starred ..=>true
 | _=>false
noncomputable def ycl:List Str->Bool
 | []=>true
 | x::r=>!r.contains x&&ycl r
noncomputable def zcr (out sc:Scope) (xs:List Str):Bool :=
 sc.kind==.function&&ycl xs&&(xs.all fun x=>zab x&&(sc.names.lookup x==some .local||sc.names.lookup x==some .cell)) &&
 (sc.names.all fun p=>match p.2 with
  | .free=>(sc.names.lookup p.1==some .free)&&(out.names.lookup p.1==some .cell||out.names.lookup p.1==some .free)
  | .local=>(sc.names.lookup p.1==some .local)&&(xs.contains p.1||p.1==(".0":Str))
  | .cell=>(sc.names.lookup p.1==some .cell)&&xs.contains p.1
  | _=>true)
noncomputable def yap:Expr->Bool
 | .Tuple ..=>true
 | _=>false
noncomputable def ycx {α β:Type} (f:α->Option β):List α->Option (List β)
 | []=>some []
 | x::r=>(f x).bind fun y=>(ycx f r).bind fun ys=>some (y::ys)
noncomputable def yfy {α β:Type} (f:α->Option β):Option α->Option (Option β)
 | none=>some none
 | some x=>(f x).map some
inductive Md where
 | val | tst
 deriving DecidableEq
mutual
noncomputable def tr:Nat->Tc->Md->Expr->Option E
 | 0,_,_,_=>none
 | n+1,c,.tst,e=>trT n c e
 | n+1,c,.val,e=>trV n c e
noncomputable def trT:Nat->Tc->Expr->Option E
 | 0,_,_=>none
 | n+1,c,.BoolOp .And [a] _=>trT n c a
 | n+1,c,.BoolOp .And (a::b::r) pos=>(trT n c a).bind fun x=>(trT n c (.BoolOp .And (b::r) pos)).bind fun y=>some (.land x y)
 | n+1,c,.BoolOp .Or [a] _=>trT n c a
 | n+1,c,.BoolOp .Or (a::b::r) pos=>(trT n c a).bind fun x=>(trT n c (.BoolOp .Or (b::r) pos)).bind fun y=>some (.lor x y)
 | n+1,c,.UnaryOp .Not a _=>(trT n c a).bind fun x=>some (.lnot x)
 | n+1,c,.Compare a [op] [b] _=>(yeu op b).bind fun o=>(trV n c a).bind fun x=>(trV n c b).bind fun y=>some (.cmp o x y)
 | n+1,c,.Name x pos=>(trV n c (.Name x pos)).bind fun x=>some (.tru x)
 | n+1,c,.Call f es ks pos=>(trV n c (.Call f es ks pos)).bind fun x=>some (.tru x)
 | n+1,c,.Subscript a b pos=>(trV n c (.Subscript a b pos)).bind fun x=>some (.tru x)
 | _,_,_=>none
noncomputable def trV:Nat->Tc->Expr->Option E
 | 0,_,_=>none
 | _+1,_,.Constant .none _ _=>some (.cst .non)
 | _+1,_,.Constant (.bool b) _ _=>some (.cst (.bl b))
 | _+1,_,.Constant (.int i) _ _=>some (.cst (.int i))
 | _+1,_,.Constant (.str x) _ _=>some (.cst (.str x))
 | _+1,c,.Name x _=>if zab x then (if ybq c.sc x then (yal c.nm x).map .var else if glB c.sc x&&!bnames.contains x then some (.glb x) else none) else none
 | n+1,c,.BinOp a op b _=>(ygh op).bind fun o=>(trV n c a).bind fun x=>(trV n c b).bind fun y=>some (.bin o x y)
 | n+1,c,.UnaryOp .Not a _=>(trV n c a).bind fun x=>some (.lnot x)
 | n+1,c,.UnaryOp .USub a _=>(trV n c a).bind fun x=>some (.neg x)
 | n+1,c,.BoolOp _ [a] _=>trV n c a
 | n+1,c,.BoolOp .And (a::b::r) pos=>(trV n c a).bind fun x=>(trV n c (.BoolOp .And (b::r) pos)).bind fun y=>some (.land x y)
 | n+1,c,.BoolOp .Or (a::b::r) pos=>(trV n c a).bind fun x=>(trV n c (.BoolOp .Or (b::r) pos)).bind fun y=>some (.lor x y)
 | n+1,c,.Compare a [op] [b] _=>(yeu op b).bind fun o=>(trV n c a).bind fun x=>(trV n c b).bind fun y=>some (.cmp o x y)
 | n+1,c,.Tuple es _ _=>(ycx (trV n c) es).bind fun xs=>some (.tup xs)
 | n+1,c,.List es _=>(ycx (trV n c) es).bind fun xs=>some (.lst xs)
 | n+1,c,.Subscript a (.Slice lo hi none _) _=>(trV n c a).bind fun x=>(yfy (trV n c) lo).bind fun l=>(yfy (trV n c) hi).bind fun h=>some (.sli x l h)
 | n+1,c,.Subscript a b _=>if ycg b then none else (trV n c a).bind fun x=>(trV n c b).bind fun y=>some (.idx x y)
 | n+1,c,.Call (.Name f _) [a,b] [] _ =>
  if f==("isinstance":Str) then
   (match b with
   | .Name ty _=>if glB c.sc f&&glB c.sc ty then (ye4 ty).bind fun k=>(trV n c a).bind fun x=>some (.isi x k) else none
   | _=>none)
  else if glB c.sc f&&zab f&&!bnames.contains f then (ycx (trV n c) [a,b]).bind fun xs=>some (.call f xs) else none
 | n+1,c,.Call (.Name f _) [a] [] _=>if glB c.sc f&&zab f then (match yfn f with
  | some k=>(trV n c a).bind fun x=>some (.blt k x)
  | none=>if bnames.contains f then none else (trV n c a).bind fun x=>some (.call f [x])) else none
 | n+1,c,.Call (.Name f _) (e::es) [] _=>if glB c.sc f&&zab f&&!bnames.contains f then (ycx (trV n c) (e::es)).bind fun xs=>some (.call f xs) else none
 | n+1,c,.Call (.Attribute o m apos) [a] [] cpos=>if apos.endLine==cpos.line then (yf9 m).bind fun k=>(trV n c o).bind fun x=>(trV n c a).bind fun y=>some (.mth k x y) else none
 | n+1,c,.ListComp elt [⟨tg,iter,ifs,0⟩] scope _=>(zbs tg).bind fun xs=>(trI n c iter).bind fun ki=>if zcr c.sc scope xs&&(!ki.1.pair||yap tg)&&(!yap tg||decide (2<=xs.length)) then
   (match ifs with
   | []=>(trV n ⟨scope,xs++c.nm⟩ elt).bind fun x=>some (.comp x xs.length ki.1 ki.2 none)
   | [t]=>(trV n ⟨scope,xs++c.nm⟩ elt).bind fun x=>(trT n ⟨scope,xs++c.nm⟩ t).bind fun y=>some (.comp x xs.length ki.1 ki.2 (some y))
   | _=>none) else none
 | n+1,c,.JoinedStr (a::b::es) _=>(ycx (trF n c) (a::b::es)).bind fun xs=>some (.fst xs)
 | _,_,_=>none
noncomputable def trI:Nat->Tc->Expr->Option (Ik × List E)
 | 0,_,_=>none
 | n+1,c,.Call (.Name f p) [a] [] pos=>if f==("range":Str)&&glB c.sc f then (trV n c a).bind fun x=>some (.range,[x])
   else if f==("enumerate":Str)&&glB c.sc f then (trV n c a).bind fun x=>some (.enum,[x])
   else (trV n c (.Call (.Name f p) [a] [] pos)).bind fun x=>some (.plain,[x])
 | n+1,c,.Call (.Name f p) [a,b] [] pos=>if f==("zip":Str)&&glB c.sc f then (trV n c a).bind fun x=>(trV n c b).bind fun y=>some (.zip,[x,y])
   else (trV n c (.Call (.Name f p) [a,b] [] pos)).bind fun x=>some (.plain,[x])
 | n+1,c,e=>(trV n c e).bind fun x=>some (.plain,[x])
noncomputable def trF:Nat->Tc->Expr->Option E
 | 0,_,_=>none
 | n+1,c,.FormattedValue e cv none _=>if cv = -1 then trV n c e else none
 | n+1,c,.Constant (.str x) k pos=>trV n c (.Constant (.str x) k pos)
 | _,_,_=>none
end
noncomputable def yfp:Expr->Bool
 | .List ..=>true
 | .BinOp ..=>true
 | _=>false
noncomputable def zh2:Expr->Bool
 | .ListComp ..=>true
 | _=>false
noncomputable def zfz:Expr->Bool
 | .Dict [] [] _=>true
 | _=>false
noncomputable def ye3:Expr->Option (Str × Str × Pos × Pos × List Expr × Pos)
 | .Call f es ks cpos=>(match f with
  | .Attribute o m apos=>(match o with
   | .Name y p=>(match ks with
    | []=>some (y,m,p,apos,es,cpos)
    | _=>none)
   | _=>none)
  | _=>none)
 | _=>none
noncomputable def yet (e:Expr):Option Str:=(ye3 e).bind fun x=>match x.2.2.2.2.1 with
 | []=>if x.2.1==("pop":Str)&&x.2.2.2.1.endLine==x.2.2.2.2.2.line then some x.1 else none
 | _=>none
noncomputable def ye6 (x:Str):Expr->Bool
 | .Call f es ks _=>(match f with
  | .Name g _=>(match es with
   | [_]=>(match ks with
    | []=>g==("list":Str)
    | _=>false)
   | _=>false)
  | _=>false)
 | .Subscript a b _=>(match a with
  | .Name y _=>(match b with
   | .Slice _ _ st _=>st.isNone&&y==x
   | _=>false)
  | _=>false)
 | _=>false
mutual
noncomputable def trS:Nat->Tc->Stmt->Option S
 | 0,_,_=>none
 | n+1,c,.Assign [.Subscript (.Name x _) k _] v _=>if ybq c.sc x&&zab x&&!ycg k then (yal c.nm x).bind fun i=>(trV n c k).bind fun y=>if zh2 v then none else (trV n c v).bind fun z=>some (.dput i y z) else none
 | n+1,c,.Assign [.Name x _] e _=>if zab x&&(c.sc.names.lookup x==some .local||c.sc.names.lookup x==some .cell) then (yal c.nm x).bind fun i=>if zfz e then some (.dnew i) else (match yet e with
   | some y=>if ybq c.sc y&&zab y then (yal c.nm y).bind fun j=>some (.lpop i j) else none
   | none=>if ye6 x e then (trV n c e).bind fun y=>some (.nw i y) else (trV n c e).bind fun y=>if fresh y&&!yfp e then none else some (.asg i y)) else none
 | n+1,c,.Expr (.Call (.Attribute (.Name x _) m apos) [a] [] cpos) _=>if apos.endLine==cpos.line&&ybq c.sc x&&zab x then (yal c.nm x).bind fun i=>(trV n c a).bind fun y =>(if m==("append":Str) then some (.app i y) else if m==("extend":Str) then some (.ext i y) else none) else none
 | _+1,_,.Expr (.Constant (.str _) _ _) _=>some .pass
 | n+1,c,.Return (some e) _=>(trV n c e).bind fun y=>some (.ret y)
 | n+1,c,.While t body [] _=>(trT n c t).bind fun z=>(ydj n c body).bind fun b=>some (.wloop z b)
 | n+1,c,.If t a b _=>(trT n c t).bind fun z=>(ydj n c a).bind fun x=>(ydj n c b).bind fun y=>some (.ite z x y)
 | n+1,c,.For tg iter body [] _=>(zbs tg).bind fun xs=>(ycx (yal c.nm) xs).bind fun is=>(trI n c iter).bind fun ki=>(ydj n c body).bind fun b=>if (!ki.1.pair||yap tg)&&(!yap tg||decide (2<=xs.length))&&ycl xs&&(xs.all fun x=>zab x&&(c.sc.names.lookup x==some .local||c.sc.names.lookup x==some .cell)) then some (.loop is ki.1 ki.2 b) else none
 | _,_,_=>none
noncomputable def ydj:Nat->Tc->List Stmt->Option (List S)
 | 0,_,_=>none
 | _+1,_,[]=>some []
 | n+1,c,s::ss=>(trS n c s).bind fun x=>(ydj n c ss).bind fun xs=>some (x::xs)
end
noncomputable def za9 (sc:Scope):List Str:=(sc.names.filter fun p=>p.2==.local||p.2==.cell).map (·.1)
end
end Ev
namespace L2
open PySem
variable {scope:Scope} {env:Env}
def za1 (env:Env):List (Str × NameKind)->List (Str × Addr)->List (Str × Addr)
 | [],acc=>acc
 | (n,k)::r,acc=>if k==.free then za1 env r ((n,(env.cells.lookup n).getD 0)::acc) else za1 env r acc
theorem zew {env:Env} (f:Str × NameKind->List (Str × Addr)->Sem (ForInStep (List (Str × Addr))))
  (hf:∀ n k cs,f (n,k) cs=if k==.free then (do let a <- cellOf env n;pure (ForInStep.yield ((n,a)::cs))) else pure (.yield cs)) :
  ∀ (names:List (Str × NameKind)) (acc:List (Str × Addr)),(∀ y∈names,y.2=.free->∃ c,env.cells.lookup y.1=some c)->(forIn names acc f:Sem _)=pure (za1 env names acc)
 | [],acc,_=>rfl
 | (n,k)::r,acc,h=>by
  rw [List.forIn_cons,hf];unfold za1;by_cases hk:(k==.free)=true
  .rw [if_pos hk,if_pos hk];obtain ⟨c,hc⟩:=h (n,k) List.mem_cons_self (by simpa using hk);have e:cellOf env n=pure c:=by unfold cellOf;rw [hc]
   rw [e,hc];simp only [pure_bind,Option.getD_some];exact zew f hf r _ fun y hy=>h y (zzc _ hy)
  .rw [if_neg hk,if_neg hk];simp only [pure_bind];exact zew f hf r _ fun y hy=>h y (zzc _ hy)
theorem zdj (h:∀ y∈scope.names,y.2=.free->∃ c,env.cells.lookup y.1=some c):closureFor scope env=pure (za1 env scope.names []):=by simp only [closureFor];rw [zew (env:=env) _ (fun n k cs=>by by_cases hk:(k==NameKind.free)=true<;>simp [hk]) scope.names [] h];simp only [pure_bind]
theorem zea {env:Env}:∀ (names:List (Str × NameKind)) (acc:List (Str × Addr)),(∀ x c,acc.lookup x=some c->env.cells.lookup x=some c)->(∀ y∈names,y.2=.free->∃ c,env.cells.lookup y.1=some c) ->
  ∀ x c,(za1 env names acc).lookup x=some c->env.cells.lookup x=some c
 | [],acc,h,_,x,c,e=>h x c e
 | (n,k)::r,acc,h,hn,x,c,e=>by
  unfold za1 at e;have hr:∀ y∈r,y.2=.free->∃ c,env.cells.lookup y.1=some c:=fun y hy=>hn y (zzc _ hy);by_cases hk:(k==.free)=true
  .rw [if_pos hk] at e;obtain ⟨c',hc'⟩:=hn (n,k) List.mem_cons_self (by simpa using hk);refine zea r _ (fun x c e=>?_) hr x c e;rw [zzu] at e;cases hb:x==n with
   | true =>rw [hb] at e;have e':some ((env.cells.lookup n).getD 0)=some c:=e;rw [hc'] at e';cases e';rw [ue3.mp hb];exact hc'
   | false=>rw [hb] at e;exact h x c e
  .rw [if_neg hk] at e;exact zea r acc h hr x c e
theorem zeb {env:Env} {x:Str}:∀ (names:List (Str × NameKind)) (acc:List (Str × Addr)),((x,NameKind.free)∈names\/(acc.lookup x).isSome=true)->((za1 env names acc).lookup x).isSome=true
 | [],acc,h=>h.elim (fun z=>nomatch z) id
 | (n,k)::r,acc,h=>by
  unfold za1;have up:∀ a:Addr,(acc.lookup x).isSome=true->(List.lookup x ((n,a)::acc)).isSome=true:=fun a z=>by
   rw [zzu];cases x==n with
   | true=>rfl
   | false=>exact z
  by_cases hk:(k==.free)=true
  .rw [if_pos hk];refine zeb r _ ?_;rcases h with h | h
   .rcases omc h with e | e
    .cases e;right;rw [zzu,ua8];rfl
    .exact .inl e
   .exact .inr (up _ h)
  .rw [if_neg hk];refine zeb r _ ?_;rcases h with h | h
   .rcases omc h with e | e
    .cases e;exact absurd rfl hk
    .exact .inl e
   .exact .inr h
theorem ydk {x:Str} {names:List (Str × NameKind)} (hn:∀ y∈names,y.2=.free->∃ c,env.cells.lookup y.1=some c) (h:(x,NameKind.free)∈names):(za1 env names []).lookup x=env.cells.lookup x:=by obtain ⟨c,hc⟩:=Option.isSome_iff_exists.mp (zeb (env:=env) names [] (.inl h));rw [hc,zea names [] (fun _ _ e=>by cases e) hn x c hc]
theorem zca:∀ (names:List (Str × NameKind)) (n:Nat) (acc:List (Str × Addr)),cellsFrom n names acc=cellsFrom n names []++acc
 | [],n,acc=>rfl
 | (x,k)::r,n,acc=>by
  unfold cellsFrom;by_cases hk:(k==.cell)=true
  .rw [if_pos hk,if_pos hk,zca r (n+1) ((x,n)::acc),zca r (n+1) [(x,n)],zz8];rfl
  .rw [if_neg hk,if_neg hk];exact zca r n acc
theorem zdk {x:Str} {c:Addr}:∀ (names:List (Str × NameKind)) (n:Nat),(x,c)∈cellsFrom n names []->n<=c/\(x,NameKind.cell)∈names
 | [],n,h=>by cases h
 | (y,k)::r,n,h=>by
  unfold cellsFrom at h;by_cases hk:(k==.cell)=true
  .rw [if_pos hk,zca] at h;have ek:k=.cell:=by simpa using hk
   rcases oma h with h | h
   .obtain ⟨h1,h2⟩:=zdk r (n+1) h;exact ⟨by lia,zzc _ h2⟩
   .have e:(x,c)=(y,n):=by simpa using h
    cases e;exact ⟨zza _,by rw [ek];exact zzg⟩
  .rw [if_neg hk] at h;obtain ⟨h1,h2⟩:=zdk r n h;exact ⟨h1,zzc _ h2⟩
theorem zdl {x:Str}:∀ (names:List (Str × NameKind)) (n:Nat) (acc:List (Str × Addr)),((x,NameKind.cell)∈names\/(acc.lookup x).isSome=true)->((cellsFrom n names acc).lookup x).isSome=true
 | [],_,acc,h=>h.elim (fun z=>nomatch z) id
 | (y,k)::r,n,acc,h=>by
  unfold cellsFrom;by_cases hk:(k==.cell)=true
  .rw [if_pos hk];refine zdl r _ _ ?_;rcases h with h | h
   .rcases omc h with e | e
    .cases e;right;rw [zzu,ua8];rfl
    .exact .inl e
   .right;rw [zzu];cases x==y with
    | true=>rfl
    | false=>exact h
  .rw [if_neg hk];refine zdl r _ _ ?_;rcases h with h | h
   .rcases omc h with e | e
    .cases e;exact absurd rfl hk
    .exact .inl e
   .exact .inr h
theorem yda {x:Str} {c:Addr} {names:List (Str × NameKind)} {n:Nat} {acc:List (Str × Addr)} (h:(cellsFrom n names acc).lookup x=some c) :
  (x,c)∈cellsFrom n names []\/((cellsFrom n names []).lookup x=none/\acc.lookup x=some c):=by
 rw [zca,List.lookup_append] at h;cases e:(cellsFrom n names []).lookup x with
 | none=>rw [e] at h;exact .inr ⟨rfl,by simpa using h⟩
 | some d =>
  rw [e] at h;have h':some d=some c:=by simpa using h
  cases h';exact .inl (mem_of_lookup e)
section
variable {M:Model} {A:Around} {E:Value->Shared->Prop} {s:Shared}
theorem zov {globals:Addr} {cl:List (Str × Addr)} {qual:Str} {Q:Env->Shared->Prop}
  (hQ:Q { scope:=scope,locals:=s.heap.objs.size,globals:=globals,cells:=cellsFrom (s.heap.objs.size+1) scope.names cl,qual:=qual,func:=none,code:=env.code,frame:=env.frame,builtins:=env.builtins }
   { s with heap:=pushCells (s.heap.push { cls:=.type "dict",data:=.dict #[] }) scope.names }) :
  wpAny M A (newFunctionEnv scope globals cl [] qual none .none (some env)) Q E s:=by
 simp only [newFunctionEnv,Option.isSome_some,if_true];refine zy2 (wpAny_alloc ?_);refine wpAny_bind (wpAny_layCells _ (fun name kind cells=>by cases hkc:kind==NameKind.cell<;>simp []) _ _ _ _ ?_);rw [show ({ s with heap:=s.heap.push { cls:=.type "dict",data:=.dict #[] } }:Shared).heap.objs.size=s.heap.objs.size+1 from zzh ..];simp only [List.forIn_nil,pure_bind];exact zy9 hQ
end
end L2
namespace Ev
open PySem Spec PyProof.Rows L2
section
open AutoSeq1 (wpAny_loadPart')
section
variable {X:Cx}
end
section
variable {prog:Program} {w:World} {A:Around} {E:Value->Shared->Prop} {s:Shared}
theorem zjg {α β:Type} {f g:α->Option β}:∀ {l:List α},(∀ a∈l,f a=g a)->l.filterMap f=l.filterMap g
 | [],_=>rfl
 | a::l,h=>by rw [zzv,zzv,h a zzg,zjg fun b hb=>h b (zzc _ hb)]
theorem zmr {t sl:Addr} {zs:Array Value} {vl vu:Value} {lo hi:Option Int} {Q:Value->Shared->Prop} (ht:IsTup s.heap t zs) (hs:s.heap.IsSliceOf sl vl vu .none) (pl:IsPart vl lo) (pu:IsPart vu hi)
  (hw:HT.sIx zs.size 0 lo=0/\HT.sIx zs.size zs.size hi=zs.size) (h:Q (.ref t) s):wpAny (model prog w) A (getItem (.ref t) (.ref sl)) Q E s:=by
 obtain ⟨os,hos,hcs,hds⟩:=id hs;have hT:s.TypeIs (.ref sl) "slice":=⟨os,hos,hcs⟩;unfold getItem
 try with_reducible refine uc1 ?_
 first | refine zy2 (zy9 ?_) | skip
 refine zy2 (wpAny_sequenceKey ht.typeIs (by decide) ?_);refine zy2 (zz1 (name:=Str.ofString "__getitem__") ht.typeIs PyProof.Rows.slot_tuple_getitem (zz5 PyProof.Rows.slot_tuple_getitem ht.typeIs PyProof.Rows.entry_tuple_getitem ?_ (PyProof.Rows.args_tuple_getitem _ _)));show wpAny _ _ (Builtin.Tuple.tupleItemsOf (.ref t) >>= _) _ _ s;refine zy2 (tupleItemsOf_ ht ?_);refine zy2 (wpAny_typeOf hT ?_);rw [if_pos (by decide)];refine zy2 (HT.sliceApplied_gen hs pl pu ?_);have hyes:(((HT.sIx zs.size 0 lo:Nat):Int)==0&&(1:Int)==1&&(HT.sIx zs.size zs.size hi-HT.sIx zs.size 0 lo)==zs.size)=true:=by rw [hw.1,hw.2];simp
 show wpAny _ _ (if (((HT.sIx zs.size 0 lo:Nat):Int)==0&&(1:Int)==1&&(HT.sIx zs.size zs.size hi-HT.sIx zs.size 0 lo)==zs.size)=true then _ else _) _ _ s;rw [if_pos hyes];refine zy2 (show wpAny _ _ (Builtin.Tuple.tupleIsExact (.ref t)) _ _ s from ?_);unfold Builtin.Tuple.tupleIsExact;refine zy2 (wpAny_typeOf ht.typeIs (zy9 ?_));simp only [beq_self_eq_true,if_true];exact zy2 (wpAny_rule (zy9 ⟨_,rfl,zy9 h⟩))
end
section
variable {X:Cx} {c:Tc} {a:Expr} {pos p2:Pos}
theorem zn9:SlR X (fun x lo hi H Q=>∃ a xs,x=.ref a/\SqT X.K H a xs/\(HT.sIx xs.length 0 lo=0/\HT.sIx xs.length xs.length hi=xs.length)/\Q (.ref a) H):=by
 intro pj s O H x v vl vu lo hi sl Q I rx hs pl pu h;obtain ⟨a,xs,rfl,hx,hw,q⟩:=h;cases rx;obtain ⟨qc,r,ht,hz⟩:=I.tuple hx;have hlen:qc.toArray.size=xs.length:=by rw [zy6];exact r.length.symm
 exact ⟨"tuple",_,PyProof.Rows.slot_tuple_getitem.lookup,ht.typeIs,zmr ht hs pl pu (by rw [hlen];exact hw) ⟨.ref a,H,I,rfl,q⟩⟩
end
end
section
variable {K:W.Frag} {H F F' H' H1:Hp} {xs:List V} {o:HO} {p:Addr} {e:Expr} {f g:Env->Option T} {h:T->T->Option T}
def Ls (K:W.Frag) (H:Hp) (a:Addr) (xs:List V):Prop :=
 Rd H a (.lst xs)\/∃ (qc:Array Value) (n:Nat),K.lookup a=some { cls:=.type "list",data:=.seq qc n }/\qc.size<=sizeLine/\Vals xs qc.toList
theorem Ls.of {a:Addr} (h:H a=some (.lst xs)):Ls K H a xs:=.inl (.inl h)
theorem Ls.sq {a:Addr} (h:Ls K H a xs):SqL K H a xs:=by
 rcases h with h | ⟨qc,n,h1,h2,h3⟩
 .exact .inl h
 .exact .inr ⟨_,qc,n,h1,rfl,rfl,rfl,h2,h3⟩
theorem Ls.ok {X:Cx} {pj:List (Addr × Obj)} {O:L2.St} {H:Hp} {s:Shared} {a:Addr} {xs:List V} (h:Ls X.K H a xs) (I:Inv X pj O H s) :
  xs.length<=sizeLine/\∃ (qc:List Value) (n:Nat),Vals xs qc/\s.heap.get? a=some { cls:=.type "list",data:=.seq qc.toArray n }:=by
 rcases h with h | ⟨qc,n,h1,h2,h3⟩
 .obtain ⟨z,qc,n,r,e⟩:=h.ok I.hok;exact ⟨z,qc,n,r,e⟩
 .exact ⟨by rw [h3.length,zzt];exact h2,qc.toList,n,h3,by rw [Array.toArray_toList];exact I.kIn a _ h1⟩
abbrev Tq (_K:W.Frag) (F:Hp) (a:Addr) (xs:List V):Prop:=F a=some (.tup xs)
mutual
def Rep (K:W.Frag) (F:Hp):T->V->Prop
 | .non,v=>v=.non
 | .bl b,v=>v=.bl b
 | .int i,v=>v=.int i
 | .str x,v=>v=.str x
 | .tup ts,v=>∃ a vs,v=.ref a/\Tq K F a vs/\Reps K F ts vs
 | .lst ts,v=>∃ a vs,v=.ref a/\Ls K F a vs/\Reps K F ts vs
 | .dk ks ts,v=>∃ a ws,v=.ref a/\F a=some (.dK ws)/\ws.map (·.1)=ks/\Reps K F ts (ws.map (·.2))
 | .dt ks ts,v=>∃ a ws,v=.ref a/\F a=some (.dT ws)/\ws.map (·.1)=ks/\Reps K F ts (ws.map (·.2))
def Reps (K:W.Frag) (F:Hp):List T->List V->Prop
 | [],vs=>vs=[]
 | t::ts,vs=>∃ v r,vs=v::r/\Rep K F t v/\Reps K F ts r
end
theorem zkz {a:Addr} (e:Same F F') (h:Rd F a o):Rd F' a o:=by
 rcases h with h | ⟨b,h⟩
 .exact .inl (e _ _ h)
 .exact .inr ⟨b,e _ _ h⟩
theorem Ls.same {a:Addr} (e:Same F F') (h:Ls K F a xs):Ls K F' a xs:=by
 rcases h with h | h
 .exact .inl (zkz e h)
 .exact .inr h
theorem zaj {a:Addr} (e:Same F F') (h:Tq K F a xs):SqT K F' a xs:=SqT.of (e _ _ h)
mutual
theorem Rep.mono {K:W.Frag} {F F':Hp} (e:Same F F'):∀ {t:T} {v:V},Rep K F t v->Rep K F' t v
 | .non,_,h=>h
 | .bl _,_,h=>h
 | .int _,_,h=>h
 | .str _,_,h=>h
 | .tup _,_,h=>by obtain ⟨a,vs,h1,h2,h3⟩:=h;exact ⟨a,vs,h1,e _ _ h2,Reps.mono e h3⟩
 | .lst _,_,h=>by obtain ⟨a,vs,h1,h2,h3⟩:=h;exact ⟨a,vs,h1,Ls.same e h2,Reps.mono e h3⟩
 | .dk _ _,_,h=>by obtain ⟨a,ws,h1,h2,h3,h4⟩:=h;exact ⟨a,ws,h1,e _ _ h2,h3,Reps.mono e h4⟩
 | .dt _ _,_,h=>by obtain ⟨a,ws,h1,h2,h3,h4⟩:=h;exact ⟨a,ws,h1,e _ _ h2,h3,Reps.mono e h4⟩
theorem Reps.mono {K:W.Frag} {F F':Hp} (e:Same F F'):∀ {ts:List T} {vs:List V},Reps K F ts vs->Reps K F' ts vs
 | [],_,h=>h
 | _::_,_,h=>by obtain ⟨v,r,h1,h2,h3⟩:=h;exact ⟨v,r,h1,Rep.mono e h2,Reps.mono e h3⟩
end
theorem Reps.length {K:W.Frag} {F:Hp}:∀ {ts:List T} {vs:List V},Reps K F ts vs->vs.length=ts.length
 | [],_,h=>by cases h;rfl
 | _::_,_,h=>by obtain ⟨v,r,rfl,_,h3⟩:=h;simp [Reps.length h3]
theorem Reps.cons {t:T} {v:V} {ts:List T} {vs:List V} (h:Rep K F t v) (r:Reps K F ts vs):Reps K F (t::ts) (v::vs):=⟨v,vs,rfl,h,r⟩
theorem Reps.app {K:W.Frag} {F:Hp}:∀ {ts us:List T} {vs ws:List V},Reps K F ts vs->Reps K F us ws->Reps K F (ts++us) (vs++ws)
 | [],_,_,_,h,r=>by cases h;exact r
 | _::_,_,_,_,h,r=>by obtain ⟨v,q,rfl,h2,h3⟩:=h;exact ⟨v,_,rfl,h2,Reps.app h3 r⟩
theorem Reps.drop {K:W.Frag} {F:Hp}:∀ (n:Nat) {ts:List T} {vs:List V},Reps K F ts vs->Reps K F (ts.drop n) (vs.drop n)
 | 0,_,_,h=>h
 | _+1,[],_,h=>by cases h;exact rfl
 | n+1,_::_,_,h=>by obtain ⟨v,q,rfl,h2,h3⟩:=h;exact Reps.drop n h3
theorem Reps.take {K:W.Frag} {F:Hp}:∀ (n:Nat) {ts:List T} {vs:List V},Reps K F ts vs->Reps K F (ts.take n) (vs.take n)
 | 0,_,_,_=>rfl
 | _+1,[],_,h=>by cases h;exact rfl
 | n+1,_::_,_,h=>by obtain ⟨v,q,rfl,h2,h3⟩:=h;exact ⟨v,_,rfl,h2,Reps.take n h3⟩
theorem Reps.get {K:W.Frag} {F:Hp}:∀ {ts:List T} {vs:List V} {i:Nat} {t:T},Reps K F ts vs->ts[i]?=some t->∃ v,vs[i]?=some v/\Rep K F t v
 | [],_,_,_,_,e=>by simp at e
 | _::_,_,0,_,h,e=>by obtain ⟨v,q,rfl,h2,h3⟩:=h;simp at e;subst e;exact ⟨v,rfl,h2⟩
 | _::_,_,i+1,t,h,e=>by obtain ⟨v,q,rfl,h2,h3⟩:=h;obtain ⟨w,h4,h5⟩:=Reps.get (i:=i) (t:=t) h3 (by simpa using e);exact ⟨w,by simpa using h4,h5⟩
def yed:HO->Bool
 | .tbl _=>true
 | _=>false
def lamQ:Str:="_law_spoilt.<locals>.<lambda>"
def CdAt (H:Hp) (cv:Value):Prop:=∃ a oc vs t,cv=.ref a/\H a=some (.frz oc (.own 0))/\oc.data=.fields vs/\vs[1]?=some (.str lamQ t)
def TbAt (H:Hp) (b:Addr):Prop:=∃ ps:Array Value,H b=some (.tbl ps)/\TriplesOk ps.toList/\∀ pos cv,codeAmong pos ps.toList=some cv->CdAt H cv
theorem CdAt.up {cv:Value} (h:CdAt H cv) (k:∀ a o u,H a=some (.frz o u)->H' a=some (.frz o u)):CdAt H' cv:=by obtain ⟨a,oc,vs,t,h1,h2,h3,h4⟩:=h;exact ⟨a,oc,vs,t,h1,k _ _ _ h2,h3,h4⟩
theorem TbAt.up {H H':Hp} {b:Addr} (h:TbAt H b) (k:∀ a o u,H a=some (.frz o u)->H' a=some (.frz o u)) (kt:∀ a ps,H a=some (.tbl ps)->H' a=some (.tbl ps)):TbAt H' b:=by obtain ⟨ps,h1,h2,h3⟩:=h;exact ⟨ps,kt _ _ h1,h2,fun pos cv e=>(h3 pos cv e).up k⟩
structure SameT (H H':Hp):Prop where
 st:∀ b u,H b=some u->yed u=false->H' b=some u
 fr:∀ b,H' b=none->H b=none
 tb:∀ b,TbAt H b->TbAt H' b
 tt:∀ b ps,H b=some (.tbl ps)->∃ qs,H' b=some (.tbl qs)
theorem yer (e:Same H H'):SameT H H':=⟨fun b u h _=>e b u h,fun _ h=>e.free h,fun _ h=>h.up (fun a o u q=>e a _ q) fun a ps q=>e a _ q,fun b ps h=>⟨ps,e b _ h⟩⟩
theorem SameT.refl (H:Hp):SameT H H:=yer (Same.refl H)
theorem SameT.free (e:SameT H H') {l:Addr} (h:H' l=none):H l=none:=e.fr l h
theorem SameT.trans {H2:Hp} (a:SameT H H1) (b:SameT H1 H2):SameT H H2:=⟨fun c u h q=>b.st c u (a.st c u h q) q,fun c h=>a.fr c (b.fr c h),fun c h=>b.tb c (a.tb c h),fun c ps h=>let ⟨qs,g⟩:=a.tt c ps h;b.tt c qs g⟩
theorem SameT.upd {H H1:Hp} {a:Addr} {o o1:HO} (e:SameT H H1) (h0:H a=none) (h1:H1 a=some o1) (k1:yed o1=false) (k2:∀ p u,o1≠.frz p u):SameT H (upd H1 a o):=by
 refine ⟨fun b u h q=>?_,fun b h=>?_,fun b h=>?_,fun b ps h=>?_⟩
 .rw [zai (zae h h0)];exact e.st b u h q
 .by_cases hb:b=a
  .subst hb;exact h0
  .rw [zai hb] at h;exact e.fr b h
 .refine (e.tb b h).up (fun c p u q=>?_) fun c ps q=>?_
  .rw [zai (zs7 q h1 fun z=>k2 _ _ z.symm)];exact q
  .rw [zai (zs7 q h1 (by intro z;subst z;cases k1))];exact q
 .obtain ⟨qs,g⟩:=e.tt b ps h;exact ⟨qs,by rw [zai (zae h h0)];exact g⟩
def ye8:Option Obj->Option Addr
 | some ⟨_,_,.func fd,_⟩=>(match fd.code with | .ref c=>some c | _=>none)
 | _=>none
def yf7 (i:Nat):Option Obj->Option Addr
 | some ⟨_,_,.fields vs,_⟩=>(match vs.getD i .none with | .ref c=>some c | _=>none)
 | _=>none
def yfw:Option (Option Value)->Option Addr
 | some (some (.ref f))=>some f
 | _=>none
def yfl (K:W.Frag):Option Addr:=(yfw (W.nsIn K mainGlobals "_law_spoilt")).bind fun f=>(ye8 (K.lookup f)).bind fun c=>yf7 11 (K.lookup c)
structure Step (F H F' H':Hp):Prop where
 hh:SameT H H'
 ff:Same F F'
 fh:Same F' H'
 nw:∀ a,F' a≠none->F a≠none\/H a=none\/∃ xs,H a=some (.tup xs)
theorem Step.refl {F H:Hp} (h:Same F H):Step F H F H:=⟨SameT.refl H,Same.refl F,h,fun _ z=>.inl z⟩
def Tbk (K:W.Frag) (F H:Hp):Prop:=∀ p,yfl K=some p->F p=none/\TbAt H p
theorem Tbk.up (h:Tbk K F H) (S:Step F H F' H'):Tbk K F' H':=fun p q=>by
 obtain ⟨h1,h2⟩:=h p q;refine ⟨?_,S.hh.tb p h2⟩;cases e:F' p with
 | none=>rfl
 | some v =>
  rcases S.nw p (by rw [e];simp) with z | z | ⟨xs,z⟩
  .exact absurd h1 z
  .obtain ⟨ps,h3,_⟩:=h2;rw [h3] at z;cases z
  .obtain ⟨ps,h3,_⟩:=h2;rw [h3] at z;cases z
theorem Step.trans {F H F1 H1 F2 H2:Hp} (a:Step F H F1 H1) (b:Step F1 H1 F2 H2):Step F H F2 H2 :=
 ⟨a.hh.trans b.hh,a.ff.trans b.ff,b.fh,fun x z=>by
  rcases b.nw x z with q | q | ⟨xs,q⟩
  .exact a.nw x q
  .exact .inr (.inl (a.hh.free q))
  .cases h:H x with
   | none=>exact .inr (.inl rfl)
   | some o =>
    by_cases ht:yed o=true
    .cases o with
     | tbl ps=>obtain ⟨qs,g⟩:=a.hh.tt x ps h;rw [q] at g;cases g
     | _=>cases ht
    .have h':=a.hh.st x o h (by simpa using ht);rw [q] at h';cases h';exact .inr (.inr ⟨xs,rfl⟩)⟩
theorem zoa (h:Same F H):Same (upd F p o) (upd H p o):=fun b u e=>by
 by_cases hb:b=p
 .subst hb;rw [zam] at e ⊢;exact e
 .rw [zai hb] at e ⊢;exact h b u e
theorem zbg (h:H p=none):Same H (upd H p o):=fun b u e=>by rw [zai (zae e h)];exact e
theorem Step.new {F1:Hp} (a:Step F H F1 H1) (h:H1 p=none):Step F H (upd F1 p o) (upd H1 p o) :=
 ⟨a.hh.trans (yer (zbg h)),a.ff.trans (zbg (a.fh.free h)),zoa a.fh,fun x z=>by
  by_cases hx:x=p
  .subst hx;exact .inr (.inl (a.hh.free h))
  .rw [zai hx] at z;exact a.nw x z⟩
theorem Step.newH {F1:Hp} (a:Step F H F1 H1) (h:H1 p=none):Step F H F1 (upd H1 p o) :=
 ⟨a.hh.trans (yer (zbg h)),a.ff,a.fh.trans (zbg h),a.nw⟩
structure EnvE (X:Cx) (c:Tc) (r:Env) (F:Hp) (O:L2.St) (H:Hp):Prop where
 fh:Same F H
 tb:Tbk X.K F H
 get:∀ (x:Str) (i:Nat) (t:T),zab x=true->yal c.nm x=some i->ybq c.sc x=true->r[i]?=some (some t)->∃ (j:Nat) (v:V),X.N[j]?=some x/\O[j]?=some (some v)/\Rep X.K F t v
theorem EnvE.step {X:Cx} {c:Tc} {r:Env} {O:L2.St} (e:EnvE X c r F O H) (s:Step F H F' H'):EnvE X c r F' O H' :=
 ⟨s.fh,e.tb.up s,fun x i t pn a b d=>let ⟨j,v,h1,h2,h3⟩:=e.get x i t pn a b d;⟨j,v,h1,h2,h3.mono s.ff⟩⟩
def spT (K:W.Frag) (g:List T->Option T):Sp:=fun vs H Q _=>∃ F ts t,Same F H/\Tbk K F H/\Reps K F ts vs/\g ts=some t/\∀ v F' H',Step F H F' H'->Rep K F' t v->Q v H'
def yc5 (f:Str):Bool:=!(f==(".put":Str))&&!(f==(".lam":Str))
structure Gd (X:Cx) (c:Tc) (G:Glo) (k:Nat):Prop where
 room:Room k X.A
 calm:X.calm=true
 nob:∀ x∈bnames,X.mg x=none
 call:∀ f ts t,yc5 f=true->G.call f ts=some t->∃ (a:Addr) (fd:FuncData) (ps:List Str),FnOk X.prog X.w X.K X.mg X.base CX0 k a fd ps (spT X.K (G.call f))/\X.mg f=some (.ref a)/\W.keepIn X.K (.ref a)=true/\Binds X.K fd ps []
 con:∀ x t,G.con x=some t->∃ u v,X.mg x=some u/\RelV v u/\∀ F,Rep X.K F t v
 vis:∀ x,ybq c.sc x=true->Vis X.env.scope x
 gl:∀ x,glB c.sc x=true->Gl X x
 cap:∀ x,(c.sc.names.lookup x=some .cell\/c.sc.names.lookup x=some .free)->(X.env.kindOf x=some .cell\/X.env.kindOf x=some .free)
 nd:X.N.Nodup
def spE (X:Cx) (c:Tc) (f:Env->Option T):TE:=fun O H Q=>∃ r F t,EnvE X c r F O H/\f r=some t/\∀ v F' H',Step F H F' H'->Rep X.K F' t v->Q v H'
def spB (X:Cx) (c:Tc) (f:Env->Option T):TT:=fun O H Q=>∃ r F b,EnvE X c r F O H/\f r=some (.bl b)/\∀ F' H',Step F H F' H'->Q b H'
def spL (X:Cx) (c:Tc) (f:Env->Option (List T)):TA:=fun O H Q=>∃ r F ts,EnvE X c r F O H/\f r=some ts/\∀ vs F' H',Step F H F' H'->Reps X.K F' ts vs->Q vs H'
abbrev Oke (X:Cx) (c:Tc) (e:Expr) (f:Env->Option T):Prop:=PE X e (spE X c f)
abbrev Okt (X:Cx) (c:Tc) (e:Expr) (f:Env->Option T):Prop:=PT X e (spB X c f)
theorem zar {X:Cx} {t t':TE} (h:PE X e t) (m:∀ O H Q,t' O H Q->t O H Q):PE X e t':=fun pj s O H Q I q=>h pj s O H Q I (m O H Q q)
theorem zho {X:Cx} {t t':TT} (h:PT X e t) (m:∀ O H Q,t' O H Q->t O H Q):PT X e t':=fun pj s O H Q I q=>h pj s O H Q I (m O H Q q)
theorem zk7 {X:Cx} {t t':TT} (h:PW X e t) (m:∀ O H Q,t' O H Q->t O H Q):PW X e t':=fun wh pj s O H Q I q=>h wh pj s O H Q I (m O H Q q)
theorem zcc {X:Cx} {e:Stmt} {t t':TS} (h:PS X e t) (m:∀ D O H,t' D O H->t D O H):PS X e t':=fun pj s O H D I q=>h pj s O H D I (m D O H q)
theorem zio {X:Cx} {e:List Stmt} {t t':TS} (h:PSs X e t) (m:∀ D O H,t' D O H->t D O H):PSs X e t':=fun pj s O H D I q=>h pj s O H D I (m D O H q)
def OpS (X:Cx) (f:Value->Value->Sem Value) (g:T->T->Option T):Prop :=
 OpR X f (fun x y H Q=>∃ F t1 t2 t,Same F H/\Rep X.K F t1 x/\Rep X.K F t2 y/\g t1 t2=some t/\∀ v F' H',Step F H F' H'->Rep X.K F' t v->Q v H')
section
variable {X:Cx} {c:Tc} {a b:Expr} {pos:Pos}
theorem zyh {op:Operator} (ho:OpS X (binaryOp op) h) (ha:Oke X c a f) (hb:Oke X c b g):Oke X c (.BinOp a op b pos) (fun r=>(f r).bind fun x=>(g r).bind fun y=>h x y):=by refine zar (zvc ho ha hb) fun O H Q q=>?_;obtain ⟨r,F,t,e,ht,q⟩:=q;obtain ⟨t1,e1,ht⟩:=obs ht;obtain ⟨t2,e2,ht⟩:=obs ht;refine ⟨r,F,t1,e,e1,fun v1 F1 H1 s1 r1=>⟨r,F1,t2,e.step s1,e2,fun v2 F2 H2 s2 r2=>?_⟩⟩;exact ⟨F2,t1,t2,t,s2.fh,r1.mono s2.ff,r2,ht,fun v F' H' s3 r3=>q v F' H' (s1.trans (s2.trans s3)) r3⟩
theorem zv5 {op:CmpOp} (ho:OpS X (compareOp op) h) (ha:Oke X c a f) (hb:Oke X c b g) (hm:behindInMarks op b=false):Oke X c (.Compare a [op] [b] pos) (fun r=>(f r).bind fun x=>(g r).bind fun y=>h x y):=by refine zar (zsl ho ha hb hm) fun O H Q q=>?_;obtain ⟨r,F,t,e,ht,q⟩:=q;obtain ⟨t1,e1,ht⟩:=obs ht;obtain ⟨t2,e2,ht⟩:=obs ht;refine ⟨r,F,t1,e,e1,fun v1 F1 H1 s1 r1=>⟨r,F1,t2,e.step s1,e2,fun v2 F2 H2 s2 r2=>?_⟩⟩;exact ⟨F2,t1,t2,t,s2.fh,r1.mono s2.ff,r2,ht,fun v F' H' s3 r3=>q v F' H' (s1.trans (s2.trans s3)) r3⟩
theorem zs1 {op:CmpOp} (ho:OpS X (compareOp op) h) (ha:Oke X c a f) (hb:Oke X c b g) (hm:behindInMarks op b=false):Okt X c (.Compare a [op] [b] pos) (fun r=>(f r).bind fun x=>(g r).bind fun y=>h x y):=by refine zho (zsa ho ha hb hm) fun O H Q q=>?_;obtain ⟨r,F,k,e,ht,q⟩:=q;obtain ⟨t1,e1,ht⟩:=obs ht;obtain ⟨t2,e2,ht⟩:=obs ht;refine ⟨r,F,t1,e,e1,fun v1 F1 H1 s1 r1=>⟨r,F1,t2,e.step s1,e2,fun v2 F2 H2 s2 r2=>?_⟩⟩;exact ⟨F2,t1,t2,_,s2.fh,r1.mono s2.ff,r2,ht,fun v F' H' s3 r3=>⟨k,r3,q F' H' (s1.trans (s2.trans s3))⟩⟩
end
theorem zey:SZ=sizeLine:=ub4.symm
section
variable {X:Cx}
theorem ydg:OpR X (binaryOp .Add) (fun x y H Q=>∃ l b xs zs,x=.ref l/\y=.ref b/\Ls X.K H l xs/\Ls X.K H b zs/\xs.length+zs.length<=sizeLine/\∀ p,H p=none->Q (.ref p) (upd H p (.lst (xs++zs)))):=by
 intro pj s O H x y v u Q I rx ry h;obtain ⟨l,b,xs,zs,rfl,rfl,hH,hB,hz,q⟩:=h;cases rx;cases ry;obtain ⟨z,qc,n,r,e⟩:=hH.ok I;obtain ⟨z2,its2,n2,r2,e2⟩:=hB.ok I;have hl:=r.length;have hl2:=r2.length;refine PySem.P.add_list e e2 ?_ (by rw [zy6,zy6];lia);have ea:qc.toArray++its2.toArray=(qc++its2).toArray:=by simp
 rw [ea];exact ⟨.ref _,_,I.lnew (t':=s.toks) (r.append r2) (by rw [zy4];lia),rfl,q _ I.fresh⟩
theorem yd6:OpR X (binaryOp .Add) (fun x y H Q=>∃ a b xs ys,x=.ref a/\y=.ref b/\SqT X.K H a xs/\SqT X.K H b ys/\xs.length+ys.length<=sizeLine /\
  (xs=[]->Q (.ref b) H)/\(xs≠[]->ys=[]->Q (.ref a) H)/\(xs≠[]->ys≠[]->∀ p,H p=none->Q (.ref p) (upd H p (.tup (xs++ys))))):=by
 intro pj s O H x y v u Q I rx ry h;obtain ⟨a,b,xs,ys,rfl,rfl,ha,hb,hz,q0,q1,q2⟩:=h;cases rx;cases ry;obtain ⟨qc,r,ht,_⟩:=I.tuple ha;obtain ⟨its2,r2,ht2,_⟩:=I.tuple hb;have hl:=r.length;have hl2:=r2.length;by_cases hx:xs=[]
 .subst hx;have hi:qc=[]:=by
   cases qc with
   | nil=>rfl
   | cons _ _=>simp at hl
  subst hi;obtain ⟨⟨cls,dd,data,sl⟩,ho,hc,n,hd⟩:=id ht;obtain ⟨⟨cls2,dd2,data2,sl2⟩,ho2,hc2,n2,hd2⟩:=id ht2;simp only at hc hd hc2 hd2;subst hc hd hc2 hd2;exact concat_meets ⟨_,ho,rfl⟩ ⟨_,ho2,rfl⟩ noFill_tuple_add seq_tuple_add PySem.F.slot_tuple_add PySem.F.entry_tuple_add (PySem.F.args_tuple_add_2 _ _)
   (tuple_addW0 a b _ _ n n2 dd dd2 sl sl2 (by simp)) ⟨ho,ho2,⟨.ref b,H,I.tok _,rfl,q0 rfl⟩⟩
 .refine HT.cat_tup ht ht2 (by intro z;subst z;exact hx (by cases xs with | nil=>rfl | cons _ _=>simp at hl)) (fun hw=>?_) (fun hw=>?_) (by lia)
  .have hy:ys=[]:=by subst hw;cases ys with | nil=>rfl | cons _ _=>simp at hl2
   exact ⟨.ref a,H,I,rfl,q1 hx hy⟩
  .have hy:ys≠[]:=by intro z;subst z;exact hw (by cases its2 with | nil=>rfl | cons _ _=>simp at hl2)
   exact ⟨.ref _,_,I.laid (t':=s.toks) (fun b o e=>zyz _ e) (zza _) (show ObjOk X.prog X.w _ _ _ (.tup (xs++ys)) from ⟨by rw [zy4];lia,qc++its2,r.append r2,IsTup.new _ _⟩),rfl,q2 hx hy _ I.fresh⟩
theorem zfe (c:Array Nat):∀ (n:Nat) (a:Array Nat),(List.replicate n c).foldl (·++·) a=a++((List.replicate n c.toList).flatten).toArray
 | 0,a=>by simp
 | n+1,a=>by rw [List.replicate_succ,List.foldl_cons,zfe c n,List.replicate_succ,List.flatten_cons,Array.append_assoc];congr 1;apply Array.ext';simp
theorem yc7:OpR X (binaryOp .Mult) (fun x y H Q=>∃ z n,x=.str z/\y=.int n/\(0<=n/\n<=4/\z.length<=1000)/\Q (.str (ycy z n)) H):=by
 intro pj s O H x y v u Q I rx ry h;obtain ⟨z,n,rfl,rfl,⟨h0,h4,hz⟩,q⟩:=h;obtain ⟨t,rfl⟩:=rx;obtain ⟨t',rfl⟩:=ry;have hn:z.length*n.toNat<=4000:=zzs (Nat.mul_le_mul hz (show n.toNat<=4 by lia)) (by decide);refine PySem.P.mul_str ?_ (fun h1 _=>?_) (fun _ _=>?_) ?_
 .rw [Bool.or_eq_false_iff,decide_eq_false_iff_not,decide_eq_false_iff_not];lia
 .have:(n=1\/n=2)\/(n=3\/n=4):=by lia
  rcases this with (rfl | rfl) | (rfl | rfl)<;>(simp only [gt_iff_lt];lia)
 .unfold PySem.Builtin.Str.tooLong;rw [decide_eq_false_iff_not];unfold sizeLine;lia
 .unfold ycy at q;split
  .rename_i hlt;have:n=0:=by lia
   subst this;exact ⟨by decide,⟨.str _,H,I.tok _,⟨_,rfl⟩,q⟩⟩
  .rename_i hlt;split
   .rename_i h1;rw [Bool.or_eq_true,ue3,ue3] at h1;refine ⟨.str _,H,I,⟨_,rfl⟩,?_⟩;by_cases e1:n=1
    .rw [if_pos e1] at q;exact q
    .rw [if_neg e1] at q;have e2:=h1.resolve_left e1;obtain ⟨c⟩:=z;have:c=#[]:=Array.eq_empty_of_size_eq_zero e2;subst this;simpa using q
   .rename_i h1;have e1:n≠1:=fun e=>h1 (by rw [e];rfl);rw [if_neg e1] at q;rw [zfe];refine ⟨?_,⟨.str _,H,I.tok _,⟨_,rfl⟩,by simpa using q⟩⟩;show Array.size _<=sizeLine;have e3:(#[]++((List.replicate n.toNat z.cps.toList).flatten).toArray).size=n.toNat*z.length:=by simp [Str.length]
    rw [e3,Nat.mul_comm];unfold sizeLine;lia
theorem zst:OpS X (binaryOp .Add) ya2:=by
 intro pj s O H x y v u Q I rx ry h;obtain ⟨F,t1,t2,t,fh,r1,r2,ht,q⟩:=h;cases t1 with
 | int i =>
  cases t2 with
  | int j =>cases r1;cases r2;cases ht;exact zvs pj s O H _ _ v u Q I rx ry ⟨_,_,rfl,rfl,q _ F H (Step.refl fh) rfl⟩
  | _=>simp [ya2] at ht
 | str i =>
  cases t2 with
  | str j =>
   cases r1;cases r2;simp only [ya2] at ht;split at ht
   .rename_i hz;cases ht;exact yc8 pj s O H _ _ v u Q I rx ry ⟨_,_,rfl,rfl,by rw [<- zey];exact hz,q _ F H (Step.refl fh) rfl⟩
   .cases ht
  | _=>simp [ya2] at ht
 | lst i =>
  cases t2 with
  | lst j =>
   obtain ⟨l,xs,rfl,h1,h2⟩:=r1;obtain ⟨l',ys,rfl,h3,h4⟩:=r2;simp only [ya2] at ht;split at ht
   .rename_i hz;cases ht;refine ydg pj s O H _ _ v u Q I rx ry ⟨_,_,_,_,rfl,rfl,Ls.same fh h1,Ls.same fh h3,by rw [h2.length,h4.length,<- zey];exact hz,fun p hp=>?_⟩;have st:=(Step.refl fh).new (o:=.lst (xs++ys)) hp;exact q _ _ _ st ⟨p,_,rfl,Ls.of zam,(h2.app h4).mono st.ff⟩
   .cases ht
  | _=>simp [ya2] at ht
 | tup i =>
  cases t2 with
  | tup j =>
   obtain ⟨l,xs,rfl,h1,h2⟩:=r1;obtain ⟨l',ys,rfl,h3,h4⟩:=r2;simp only [ya2] at ht;split at ht
   .rename_i hz;cases ht;refine yd6 pj s O H _ _ v u Q I rx ry ⟨_,_,_,_,rfl,rfl,zaj fh h1,zaj fh h3,by rw [h2.length,h4.length,<- zey];exact hz,fun z=>?_,fun _ z=>?_,fun _ _ p hp=>?_⟩
    .subst z;refine q _ F H (Step.refl fh) ⟨l',ys,rfl,h3,?_⟩;have e:=h2.length;cases i with
     | nil=>exact h4
     | cons _ _=>simp at e
    .subst z;refine q _ F H (Step.refl fh) ⟨l,xs,rfl,h1,?_⟩;have e:=h4.length;cases j with
     | nil=>rw [zzm];exact h2
     | cons _ _=>simp at e
    .have st:=(Step.refl fh).new (o:=.tup (xs++ys)) hp;exact q _ _ _ st ⟨p,_,rfl,zam,(h2.app h4).mono st.ff⟩
   .cases ht
  | _=>simp [ya2] at ht
 | _=>cases t2<;>simp [ya2] at ht
theorem zsp:OpS X (binaryOp .Sub) yfo:=by intro pj s O H x y v u Q I rx ry h;obtain ⟨F,t1,t2,t,fh,r1,r2,ht,q⟩:=h;cases t1<;>cases t2<;>simp only [yfo] at ht<;>cases ht;cases r1;cases r2;exact zvq pj s O H _ _ v u Q I rx ry ⟨_,_,rfl,rfl,q _ F H (Step.refl fh) rfl⟩
theorem Reps.rep {K:W.Frag} {F:Hp} {ts:List T} {vs:List V} (h:Reps K F ts vs):∀ k:Nat,Reps K F (List.replicate k ts).flatten (List.replicate k vs).flatten
 | 0=>rfl
 | k+1=>by rw [List.replicate_succ,List.replicate_succ,List.flatten_cons,List.flatten_cons];exact h.app (Reps.rep h k)
theorem zsu:OpR X (binaryOp .Mult) (fun x y H Q=>∃ l k xs,x=.ref l/\y=.int k/\Ls X.K H l xs/\0<=k/\k<=1000/\xs.length<=1000/\∀ p,H p=none->Q (.ref p) (upd H p (.lst (List.replicate k.toNat xs).flatten))):=by
 intro pj s O H x y v u Q I rx ry h;obtain ⟨l,k,xs,rfl,rfl,hH,h1,h2,h3,q⟩:=h;cases rx;obtain ⟨t,rfl⟩:=ry;obtain ⟨z,qc,n,r,e⟩:=hH.ok I;have hl:xs.length=qc.length:=r.length;have hz:xs.length*k.toNat<=1000000:=by
  have:k.toNat<=1000:=by lia
  exact Nat.mul_le_mul h3 this
 have hsz:(1000000:Nat)<=sizeLine:=by decide
 have hlen:qc.toArray.size*k.toNat<=sizeLine:=by rw [zy6,<- hl];lia
 have hcap:¬ qc.toArray.size*k.toNat>(2 ^ 63-1)/8:=by
  rw [zy6,<- hl];have:(1000000:Nat)<=(2 ^ 63-1)/8:=by decide
  lia
 have e63:(2:Int) ^ 63=9223372036854775808:=by decide
 have hfit:¬ (!Builtin.List.listFitsIndex k)=true:=by rw [fitsIndex_both (by rw [e63];lia) (by rw [e63];lia)];exact zzx
 have hlong:¬ Builtin.List.listTooLong (qc.toArray.size*k.toNat)=true:=by rw [ziw hlen];exact zzx
 have hnew:List.foldl (fun x1 x2=>x1++x2) #[] (List.replicate (if qc.toArray.isEmpty=true then 0 else k.toNat) qc.toArray)=(List.replicate k.toNat qc).flatten.toArray:=by
  have f0:∀ m:Nat,List.foldl (fun x1 x2=>x1++x2) #[] (List.replicate m qc.toArray)=(List.replicate m qc).flatten.toArray:=fun m=>by have:=zgz qc m [];rw [List.nil_append] at this;exact this
  rw [f0];cases qc with
  | nil=>simp
  | cons a r'=>rw [if_neg (by simp)]
 refine wpAny_binaryOp_repeat_ref (T:="list") (U:="int") (by decide) ⟨_,e,rfl⟩ (fun s'=>typeIs_int s' k t) noFill_list_mul F.fills_int_mul F.slot_int_rmul repeat_list F.slot_int_index.lookup
  (call_meets F.slot_int_rmul (typeIs_int s k t) F.entry_int_rmul (F.args_int_rmul_2 _ _) (int___rmul___int_list k t l qc.toArray n)
   ⟨e,rfl,⟨_,e,rfl⟩,call_meets F.slot_list_mul ⟨_,e,rfl⟩ F.entry_list_mul (F.args_list_mul_2 _ _) (AutoListH.list___mul___list_int_3 l qc.toArray n k t hfit hcap hlong) ⟨e,?_⟩⟩)
 rw [hnew];exact ⟨.ref _,_,I.lnew (t':=s.toks) (r.rep k.toNat) (by rw [ztb,Nat.mul_comm];lia),rfl,q _ I.fresh⟩
theorem zsq:OpS X (binaryOp .Mult) ycm:=by
 intro pj s O H x y v u Q I rx ry h;obtain ⟨F,t1,t2,t,fh,r1,r2,ht,q⟩:=h;cases t1 with
 | int i =>
  cases t2 with
  | int j =>
   cases r1;cases r2;simp only [ycm] at ht;split at ht
   .rename_i hz;cases ht;refine yfi pj s O H _ _ v u Q I rx ry ⟨_,_,rfl,rfl,?_,q _ F H (Step.refl fh) rfl⟩;rw [Bool.or_eq_true] at hz;have e64:(2:Int) ^ 64=18446744073709551616:=by decide
    rcases hz with hz | hz<;>simp only [yb6,Bool.and_eq_true,decide_eq_true_eq] at hz
    .exact .inl (by rw [e64];exact hz)
    .exact .inr (by rw [e64];exact hz)
   .cases ht
  | _=>simp [ycm] at ht
 | str i =>
  cases t2 with
  | int j =>
   cases r1;cases r2;simp only [ycm] at ht;split at ht
   .rename_i hz;cases ht;exact yc7 pj s O H _ _ v u Q I rx ry ⟨_,_,rfl,rfl,hz,q _ F H (Step.refl fh) rfl⟩
   .cases ht
  | _=>simp [ycm] at ht
 | lst ts =>
  cases t2 with
  | int j =>
   cases r2;simp only [ycm] at ht;split at ht
   .rename_i hz;cases ht;obtain ⟨a,vs,rfl,h1,h2⟩:=r1;refine zsu pj s O H _ _ v u Q I rx ry ⟨a,j,vs,rfl,rfl,Ls.same fh h1,hz.1,hz.2.1,by rw [h2.length];exact hz.2.2,fun p hp=>?_⟩;have st:=(Step.refl fh).new (o:=.lst (List.replicate j.toNat vs).flatten) hp;exact q _ _ _ st ⟨p,_,rfl,Ls.of zam,(h2.rep j.toNat).mono st.ff⟩
   .cases ht
  | _=>simp [ycm] at ht
 | _=>cases t2<;>simp [ycm] at ht
theorem zoq:OpS X (binaryOp .FloorDiv) yay:=by
 intro pj s O H x y v u Q I rx ry h;obtain ⟨F,t1,t2,t,fh,r1,r2,ht,q⟩:=h;cases t1<;>cases t2<;>simp only [yay] at ht<;>try cases ht
 split at ht
 .rename_i hz;cases ht;cases r1;cases r2;exact yeo pj s O H _ _ v u Q I rx ry ⟨_,_,rfl,rfl,hz,q _ F H (Step.refl fh) rfl⟩
 .cases ht
theorem zsr:OpS X (binaryOp .Mod) ybe:=by
 intro pj s O H x y v u Q I rx ry h;obtain ⟨F,t1,t2,t,fh,r1,r2,ht,q⟩:=h;cases t1<;>cases t2<;>simp only [ybe] at ht<;>try cases ht
 split at ht
 .rename_i hz;cases ht;cases r1;cases r2;exact yfe pj s O H _ _ v u Q I rx ry ⟨_,_,rfl,rfl,hz,q _ F H (Step.refl fh) rfl⟩
 .cases ht
end
end
end Ev
section
section
namespace L2
open PySem Spec PyProof.Rows
section
variable {xs:List (List Key × Addr × Value)} {H':Hp} {Q:Value->Shared->Prop}
section
variable {κ:Type} [DecidableEq κ]
def ycp (qb:List (κ × V)) (k:κ):Option V:=(qb.find? fun kv=>decide (kv.1=k)).map (·.2)
def yct (qb:List (κ × V)) (k:κ) (v:V):List (κ × V) :=
 if (qb.any fun kv=>decide (kv.1=k))=true then qb.map (fun kv=>if kv.1=k then (kv.1,v) else kv) else qb++[(k,v)]
theorem zc8 {p:κ × V} {r:List (κ × V)} {k:κ} (e:p.1=k):ycp (p::r) k=some p.2:=by simp [ycp,e]
theorem zc9 {p:κ × V} {r:List (κ × V)} {k:κ} (e:¬ p.1=k):ycp (p::r) k=ycp r k:=by simp [ycp,e]
theorem zfi (k:κ):∀ qb:List (κ × V),(qb.any fun kv=>decide (kv.1=k))=(ycp qb k).isSome
 | []=>rfl
 | p::r=>by
  rw [ub6];by_cases e:p.1=k
  .simp only [zc8 e,decide_eq_true e,Bool.true_or,Option.isSome_some]
  .rw [zc9 e,zzk e,Bool.false_or];exact zfi k r
theorem zcz (qb:List (κ × V)) (k:κ) (v:V):(yct qb k v).length<=qb.length+1:=by
 unfold yct;split
 .rw [zy3];lia
 .rw [zy4,zzb,List.length_nil];lia
theorem RelO.isSome_eq {o:Option V} {u:Option Value} (r:RelO o u):o.isSome=u.isSome:=by
 cases o with
 | none=>cases u with
  | none=>rfl
  | some _=>exact (show False from r).elim
 | some _=>cases u with
  | none=>exact (show False from r).elim
  | some _=>rfl
theorem KV.val {qb:List (κ × V)} {vs:List (κ × Value)} (r:KV qb vs) (k:κ):RelO (ycp qb k) (valueAt vs k):=by
 unfold KV at r
 induction r with
 | nil=>exact True.intro
 | @cons p q ps qs h t ih =>
  obtain ⟨h1,h2⟩:=h;by_cases e:p.1=k
  .have e':q.1=k:=h1.symm.trans e;have b:valueAt (q::qs) k=some q.2:=by simp [valueAt,e']
   rw [zc8 e,b];exact h2
  .have e':¬ q.1=k:=fun z=>e (h1.trans z);have b:valueAt (q::qs) k=valueAt qs k:=by simp [valueAt,e']
   rw [zc9 e,b];exact ih
theorem KV.any {qb:List (κ × V)} {vs:List (κ × Value)} (r:KV qb vs) (k:κ):(qb.any fun kv=>decide (kv.1=k))=vs.any fun kv=>decide (kv.1=k):=by
 unfold KV at r
 induction r with
 | nil=>rfl
 | cons h t ih=>rw [ub6,ub6,ih,h.1]
theorem KV.repl {qb:List (κ × V)} {vs:List (κ × Value)} (r:KV qb vs) (k:κ) {y:V} {u:Value} (ry:RelV y u) :
  KV (qb.map fun kv=>if kv.1=k then (kv.1,y) else kv) (vs.map fun kv=>if kv.1=k then (kv.1,u) else kv):=by
 unfold KV at r ⊢
 induction r with
 | nil=>exact .nil
 | @cons p q ps qs h t ih =>
  rw [zy1,zy1];refine .cons ?_ ih;obtain ⟨h1,h2⟩:=h;by_cases e:p.1=k
  .rw [if_pos e,if_pos (h1.symm.trans e)];exact ⟨h1,ry⟩
  .rw [if_neg e,if_neg (fun z=>e (h1.trans z))];exact ⟨h1,h2⟩
theorem KV.put {qb:List (κ × V)} {vs:List (κ × Value)} (r:KV qb vs) (k:κ) {y:V} {u:Value} (ry:RelV y u):KV (yct qb k y) (stored vs k u):=by
 unfold yct stored;rw [r.any k];by_cases e:(vs.any fun kv=>decide (kv.1=k))=true
 .rw [if_pos e,if_pos e];exact r.repl k ry
 .rw [if_neg e,if_neg e];exact Paired.snoc r ⟨rfl,ry⟩
theorem KV.length {qb:List (κ × V)} {vs:List (κ × Value)} (r:KV qb vs):qb.length=vs.length:=Paired.length r
end
theorem zmj {P:Program} {w:World} {k:Key} {u:Value} (r:RelV (kV k) u):(zax P w).is k u=true:=by
 rcases k with i | _ | x
 .obtain ⟨t,e⟩:=(show ∃ t,u=Value.int i t from r);subst e;exact zhw P w i t
 .cases (show u=Value.none from r);rfl
 .obtain ⟨t,e⟩:=(show ∃ t,u=Value.str x t from r);subst e;exact zhv P w x t
theorem zgw {P:Program} {w:World}:∀ {ks:List Key} {us:List Value},Vals (ks.map kV) us->ItemsAre (zax P w) ks us
 | [],_,r=>by rw [List.map_nil] at r;cases r;exact .nil
 | k::ks,_,r=>by
  rw [zy1] at r;cases r with
  | cons h t=>exact .cons (zmj h) (zgw t)
abbrev KT (H:Hp):List (List Key × V)->List (List Key × Addr × Value)->Prop:=Paired fun p q=>p.1=q.1/\H q.2.1=some (.tup (p.1.map kV))/\RelV p.2 q.2.2
theorem KT.val {H:Hp} {qb:List (List Key × V)} (r:KT H qb xs) (k:List Key):RelO (ycp qb k) ((atKey xs k).map (·.2)):=by
 induction r with
 | nil=>exact True.intro
 | @cons p q ps qs h t ih =>
  obtain ⟨h1,_,h2⟩:=h;by_cases e:p.1=k
  .have e':q.1=k:=h1.symm.trans e;have b:atKey (q::qs) k=some q.2:=by simp [atKey,e']
   rw [zc8 e,b];exact h2
  .have e':¬ q.1=k:=fun z=>e (h1.trans z);have b:atKey (q::qs) k=atKey qs k:=by simp [atKey,e']
   rw [zc9 e,b];exact ih
theorem KT.repl {H:Hp} {qb:List (List Key × V)} (r:KT H qb xs) (k:List Key) {y:V} {u:Value} (ry:RelV y u) :
  KT H (qb.map fun kv=>if kv.1=k then (kv.1,y) else kv) (xs.map (putAt k u)):=by
 induction r with
 | nil=>exact .nil
 | @cons p q ps qs h t ih =>
  rw [zy1,zy1];refine .cons ?_ ih;obtain ⟨h1,h2,h3⟩:=h;unfold putAt;by_cases e:p.1=k
  .rw [if_pos e,if_pos (h1.symm.trans e)];exact ⟨h1,h2,ry⟩
  .rw [if_neg e,if_neg (fun z=>e (h1.trans z))];exact ⟨h1,h2,h3⟩
theorem KT.put {H:Hp} {qb:List (List Key × V)} (r:KT H qb xs) (k:List Key) {b:Addr} {y:V} {u:Value} (hb:H b=some (.tup (k.map kV))) (ry:RelV y u) :
  KT H (yct qb k y) (storedH xs k b u):=by
 have e:(qb.any fun kv=>decide (kv.1=k))=(atKey xs k).isSome:=by rw [zfi,(r.val k).isSome_eq,Option.isSome_map]
 unfold yct storedH;rw [e];by_cases q:(atKey xs k).isSome=true
 .rw [if_pos q,if_pos q];exact r.repl k ry
 .rw [if_neg q,if_neg q];exact Paired.snoc r ⟨rfl,hb,ry⟩
theorem KT.keeps {H:Hp} {qb:List (List Key × V)} (r:KT H qb xs) (ht:∀ b ys,H b=some (.tup ys)->H' b=some (.tup ys)):KT H' qb xs :=
 Paired.mapP r fun _ _ z=>⟨z.1,ht _ _ z.2.1,z.2.2⟩
section
variable {P:Program} {w:World} {H:Hp} {h:Heap} {a:Addr}
theorem zux {u:HO} (ok:HOk P w H h) (e:Rd H a u):ObjOk P w H h a u:=e.ok ok
theorem zm4 {qb:List (Key × V)} (ok:HOk P w H h) (e:Rd H a (.dK qb)):qb.length<=sizeLine/\(a==sysModules)=false/\∃ vs,KV qb vs/\h.DictOf (zax P w) a vs :=
 show ObjOk P w H h a (.dK qb) from zux ok e
theorem zxh {qb:List (Key × V)} (ok:HOk P w H h) (e:H a=some (.dK qb)):qb.length<=sizeLine/\(a==sysModules)=false/\∃ vs,KV qb vs/\h.DictOf (zax P w) a vs:=zm4 ok (.inl e)
theorem zfb {ks:List Key} (ok:HOk P w H h) (e:H a=some (.tup (ks.map kV))):(tupleKind (zax P w)).is h ks a:=by obtain ⟨_,qc,r,o,h1,h2,n,h3⟩:=(show ObjOk P w H h a (.tup (ks.map kV)) from ok a _ e);exact ⟨o,qc.toArray,n,h1,h2,h3,by simpa using zgw r⟩
theorem zm1 {qb:List (List Key × V)} (ok:HOk P w H h) (e:Rd H a (.dT qb)):qb.length<=sizeLine/\(a==sysModules)=false /\
  ∃ xs,KT H qb xs/\h.DictOfH (tupleKind (zax P w)) a xs:=by
 obtain ⟨z,y,xs,r,o,es,ep,h1,h2,h3,h4,h5⟩:=(show ObjOk P w H h a (.dT qb) from zux ok e);refine ⟨z,y,xs,r,o,es,ep,h1,h2,h3,h4,fun x hx=>?_,h5⟩;have all:∀ {l:List (List Key × V)} {m:List (List Key × Addr × Value)},KT H l m->∀ x∈m,(tupleKind (zax P w)).is h x.1 x.2.1:=by
  intro l m q
  induction q with
  | nil=>intro x hx;exact nomatch hx
  | @cons p q ps qs hq t ih =>
   intro x hx;rcases omc hx with e | hx
   .subst e;exact zfb ok (by rw [<- hq.1];exact hq.2.1)
   .exact ih x hx
 exact all r x hx
theorem ztq {qb:List (List Key × V)} (ok:HOk P w H h) (e:H a=some (.dT qb)):qb.length<=sizeLine/\(a==sysModules)=false /\
  ∃ xs,KT H qb xs/\h.DictOfH (tupleKind (zax P w)) a xs:=zm1 ok (.inl e)
end
def DGet (H:Hp) (a:Addr) (y:V) (r:Option V):Prop :=
 (∃ qb k,Rd H a (.dK qb)/\y=kV k/\r=ycp qb k)\/∃ qb k b,Rd H a (.dT qb)/\y=.ref b/\H b=some (.tup (k.map kV))/\r=ycp qb k
def DPut (H:Hp) (a:Addr) (y v:V) (H':Hp):Prop :=
 (∃ qb k,H a=some (.dK qb)/\y=kV k/\qb.length<sizeLine/\H'=upd H a (.dK (yct qb k v))) \/
 ∃ qb k b,H a=some (.dT qb)/\y=.ref b/\H b=some (.tup (k.map kV))/\qb.length<sizeLine/\H'=upd H a (.dT (yct qb k v))
theorem DGet.k {H:Hp} {a:Addr} {qb:List (Key × V)} {k:Key} (e:H a=some (.dK qb)):DGet H a (kV k) (ycp qb k):=.inl ⟨qb,k,.inl e,rfl,rfl⟩
theorem DGet.t {H:Hp} {a b:Addr} {qb:List (List Key × V)} {k:List Key} (e:H a=some (.dT qb)) (eb:H b=some (.tup (k.map kV))):DGet H a (.ref b) (ycp qb k):=.inr ⟨qb,k,b,.inl e,rfl,eb,rfl⟩
theorem DPut.k {H:Hp} {a:Addr} {qb:List (Key × V)} {k:Key} {v:V} (e:H a=some (.dK qb)) (hl:qb.length<sizeLine):DPut H a (kV k) v (upd H a (.dK (yct qb k v))):=.inl ⟨qb,k,e,rfl,hl,rfl⟩
section
variable {X:Cx} {pj:List (Addr × Obj)} {O:St} {H:Hp} {s:Shared} {a:Addr} {y v:V} {u r:Value} {o:Option V} {A:Around} {E:Value->Shared->Prop}
theorem Inv.big (I:Inv X pj O H s):sysModules<s.heap.objs.size:=by have h:mainGlobals<s.heap.objs.size:=(I.mod.glob.keeps I.bk).lt;exact Nat.lt_trans (by decide) h
theorem zm9 (hu:A.units+1<cLine) (I:Inv X pj O H s) (g:DGet H a y (some v)) (ry:RelV y u) (h:∀ w' s',Inv X pj O H s'->RelV v w'->Q w' s') :
  wpAny (model X.prog X.w) A (getItem (.ref a) u) Q E s:=by
 rcases g with ⟨qb,k,e,ey,l⟩ | ⟨qb,k,b,e,ey,eb,l⟩
 .subst ey;obtain ⟨z,hd,vs,rel,dd⟩:=zm4 I.hok e;obtain ⟨w',hw,rw'⟩:=RelO.some_of (v:=v) (o:=valueAt vs k) (by rw [l];exact rel.val k);exact wpAny_getItem_of (zmj ry) dd.mapOf hw (h w' _ (I.tok _) rw')
 .subst ey;cases (show u=Value.ref b from ry);obtain ⟨z,hd,xs,rel,dd⟩:=zm1 I.hok e;obtain ⟨w',hw,rw'⟩:=RelO.some_of (v:=v) (o:=(atKey xs k).map (·.2)) (by rw [l];exact rel.val k);obtain ⟨p,hp,hp2⟩:=oms hw;refine wpAny_getItem_heap (tupleKind_room_in1 hu) (zfb I.hok eb) dd hp ?_;rw [hp2];exact h w' _ (I.tok _) rw'
theorem d_in (hu:A.units+1<cLine) (I:Inv X pj O H s) (g:DGet H a y o) (ry:RelV y u) (h:∀ s',Inv X pj O H s'->Q (.bool o.isSome) s') :
  wpAny (model X.prog X.w) A (compareOp .In u (.ref a)) Q E s:=by
 rcases g with ⟨qb,k,e,ey,l⟩ | ⟨qb,k,b,e,ey,eb,l⟩
 .subst ey;obtain ⟨z,hd,vs,rel,dd⟩:=zm4 I.hok e;refine wpAny_in_of (zmj ry) hd dd.mapOf ?_;rw [<- (rel.val k).isSome_eq,<- l];exact h _ (I.tok _)
 .subst ey;cases (show u=Value.ref b from ry);obtain ⟨z,hd,xs,rel,dd⟩:=zm1 I.hok e;refine wpAny_in_heap (tupleKind_room_in1 hu) (zfb I.hok eb) hd dd ?_;have q:=(rel.val k).isSome_eq;rw [Option.isSome_map] at q;rw [<- q,<- l];exact h _ (I.tok _)
theorem ztw (hu:A.units+1<cLine) (I:Inv X pj O H s) (g:DGet H a y o) (ry:RelV y u) (h:∀ s',Inv X pj O H s'->Q (.bool (!o.isSome)) s') :
  wpAny (model X.prog X.w) A (compareOp .NotIn u (.ref a)) Q E s:=by
 rcases g with ⟨qb,k,e,ey,l⟩ | ⟨qb,k,b,e,ey,eb,l⟩
 .subst ey;obtain ⟨z,hd,vs,rel,dd⟩:=zm4 I.hok e;refine wpAny_notIn_of (zmj ry) hd dd.mapOf ?_;rw [<- (rel.val k).isSome_eq,<- l];exact h _ (I.tok _)
 .subst ey;cases (show u=Value.ref b from ry);obtain ⟨z,hd,xs,rel,dd⟩:=zm1 I.hok e;refine wpAny_notIn_heap (tupleKind_room_in1 hu) (zfb I.hok eb) hd dd ?_;have q:=(rel.val k).isSome_eq;rw [Option.isSome_map] at q;rw [<- q,<- l];exact h _ (I.tok _)
theorem zm7 {h':Heap} {t':Nat} {ob:HO} (I:Inv X pj O H s) (mu:Mut (H a)) (hs:Heap.SameBut a s.heap h') (he:∃ q,h'.get? a=some q) (new:ObjOk X.prog X.w (upd H a ob) h' a ob) :
  Inv X pj O (upd H a ob) { s with heap:=h',toks:=t' } :=
 I.write (x:=a) (e:=a) mu (.inl rfl) (fun b q hb z=>(hs.2 b hb).trans z) he new
theorem zxi {P:Program} {w:World} {h':Heap} {qb:List (Key × V)} {vs:List (Key × Value)} (z:qb.length<=sizeLine) (hd:(a==sysModules)=false) (rel:KV qb vs) (dd:h'.DictOf (zax P w) a vs) :
  ObjOk P w H' h' a (.dK qb):=⟨z,hd,vs,rel,dd⟩
theorem zm8 {Q:Unit->Shared->Prop} (hu:A.units+1<cLine) (I:Inv X pj O H s) (g:DPut H a y v H') (ry:RelV y u) (rv:RelV v r) (h:∀ s',Inv X pj O H' s'->Q () s') :
  wpAny (model X.prog X.w) A (setItem (.ref a) u r) Q E s:=by
 rcases g with ⟨qb,k,e,ey,l,eH⟩ | ⟨qb,k,b,e,ey,eb,l,eH⟩
 .subst ey eH;obtain ⟨z,hd,vs,rel,dd⟩:=zxh I.hok e;have hz:vs.length<=sizeLine:=by rw [<- rel.length];exact z
  have hl:(yct qb k v).length<=sizeLine:=by have:=zcz qb k v;lia
  refine wpAny_setItem_pairs (hsz:=hz) (zmj ry) dd fun h' dd' hs=>h _ ?_;have he:∃ q,h'.get? a=some q:=let ⟨q,_,_,hq,_⟩:=dd';⟨q,hq⟩
  exact zm7 I (by rw [e];exact True.intro) hs he (zxi hl hd (rel.put k rv) dd')
 .subst ey eH;cases (show u=Value.ref b from ry);obtain ⟨z,hd,xs,rel,dd⟩:=ztq I.hok e;have hz:xs.length<=sizeLine:=by rw [<- Paired.length rel];exact z
  have hl:(yct qb k v).length<=sizeLine:=by have:=zcz qb k v;lia
  refine wpAny_setItem_heap (hsz:=hz) (tupleKind_room_in1 hu) (zfb I.hok eb) dd fun h' dd' hs=>h _ ?_;obtain ⟨q,es,ep,hq,h2,h3,h4,_,h5⟩:=dd';refine zm7 I (by rw [e];exact True.intro) hs ⟨q,hq⟩ ⟨hl,hd,_,(rel.put k eb rv).keeps fun c ys ec=>?_,q,es,ep,hq,h2,h3,h4,h5⟩;rw [zai (zs7 ec e (fun z=>nomatch z))];exact ec
end
section
variable {X:Cx} {pj:List (Addr × Obj)} {O:St} {H:Hp} {s:Shared} {a:Addr} {qb:List (Key × V)} {k:Key} {u:Value} {A:Around} {E:Value->Shared->Prop}
end
theorem zh4 {X:Cx} {pj:List (Addr × Obj)} {O:St} {H:Hp} {s:Shared} {a:Addr} {y:V} {o:Option V} (I:Inv X pj O H s) (g:DGet H a y o):s.TypeIs (.ref a) "dict":=by
 rcases g with ⟨qb,k,e,_,_⟩ | ⟨qb,k,b,e,_,_,_⟩
 .obtain ⟨_,_,vs,_,dd⟩:=zm4 I.hok e;exact dd.typeIs
 .obtain ⟨_,_,xs,_,dd⟩:=zm1 I.hok e;exact dd.typeIs
def yf8 (td ty tv:TE):TS:=fun D O H=>tv O H fun v H1=>td O H1 fun x H2=>ty O H2 fun y H3=>∃ a H4,x=.ref a/\DPut H3 a y v H4/\D.nx O H4
section
variable {X:Cx} {o i e value:Expr} {pos pos' tpos:Pos} {td ty tv:TE}
theorem zsd (hu:X.A.units+1<cLine) (ho:PE X o td) (hi:PE X i ty) (hv:PE X value tv) (hs:swapsWith value (some (.Subscript o i pos')) pos.line X.env=pure false) :
  PS X (.Assign [.Subscript o i pos'] value pos) (yf8 td ty tv):=by
 intro pj s O H D I h;refine wpAny_Assign_Subscript (thn (hv pj s O H _ I h) fun r s1 ⟨v,H1,I1,rv,q1⟩=>thn (ho pj s1 O H1 _ I1 q1) fun u s2 ⟨x,H2,I2,rx,q2⟩=>thn (hi pj s2 O H2 _ I2 q2) fun iv s3 ⟨y,H3,I3,ry,a,H4,ex,g,q3⟩=>?_) hs;subst ex;obtain rfl:u=Value.ref a:=rx;exact zm8 hu I3 g ry rv fun s4 I4=>⟨O,H4,I4,q3⟩
end
theorem zpj {P:Program} {w:World} {H:Hp} (h:Heap) (hb:sysModules<h.objs.size):ObjOk P w H (h.push { cls:=.type "dict",data:=.dict #[] }) h.objs.size (.dK []) :=
 ⟨zzp _,uc2.mpr (Ne.symm (zzo hb)),[],.nil,Heap.DictOf.new h⟩
def ye2:TE:=fun _ H Q=>∀ p,H p=none->Q (.ref p) (upd H p (.dK []))
section
variable {X:Cx} {pos:Pos}
theorem yea:PE X (.Dict [] [] pos) ye2:=fun pj s O H Q I h =>wpAny_Dict_empty ⟨.ref s.heap.objs.size,_,I.laid (a:=s.heap.objs.size) (o:=.dK []) (t':=s.toks) (fun _ _ q=>zyz _ q) (zza _) (zpj s.heap I.big),rfl,h _ (I.hok.fresh (zza _))⟩
end
structure M1 (X:Cx) (o:Expr) (m:Str) (apos:Pos) (e:Expr) (cpos:Pos):Prop where
 base:attributeBase o m X.env (eval o X.env)=eval o X.env
 few:((backTo cpos (starEach [e] X.env)).all (fun x=>!x.1)&&(backToKw cpos (keywordEach [] X.env)).all (fun x=>x.1.isSome)
  && decide (([e]:List Expr).length+([]:List Keyword).length+(if ([]:List Keyword).isEmpty then 0 else 1)<30))=true
 line:(apos.endLine==cpos.line)=true
 trees:backTo cpos (starEach [e] X.env)=[(false,eval e X.env)]
structure M2 (X:Cx) (o:Expr) (m:Str) (apos:Pos) (e f:Expr) (cpos:Pos):Prop where
 base:attributeBase o m X.env (eval o X.env)=eval o X.env
 few:((backTo cpos (starEach [e,f] X.env)).all (fun x=>!x.1)&&(backToKw cpos (keywordEach [] X.env)).all (fun x=>x.1.isSome)
  && decide (([e,f]:List Expr).length+([]:List Keyword).length+(if ([]:List Keyword).isEmpty then 0 else 1)<30))=true
 line:(apos.endLine==cpos.line)=true
 trees:backTo cpos (starEach [e,f] X.env)=[(false,eval e X.env),(false,eval f X.env)]
section
variable {X:Cx} {pj:List (Addr × Obj)} {O:St} {H:Hp} {s:Shared} {a:Addr} {y d:V} {u r:Value} {o:Option V} {A:Around} {E:Value->Shared->Prop}
end
section
variable {X:Cx} {o e f:Expr} {apos cpos:Pos} {td ty tx:TE}
end
section
variable {X:Cx} {pj:List (Addr × Obj)} {O:St} {H:Hp} {s:Shared} {a:Addr} {qb:List (Key × V)} {A:Around} {E:Value->Shared->Prop}
end
section
variable {X:Cx} {pj:List (Addr × Obj)} {O:St} {H:Hp} {s:Shared} {a:Addr} {y:V} {u:Value} {A:Around} {E:Value->Shared->Prop}
end
end
section
section
variable {κ:Type} [DecidableEq κ]
end
end
end L2
end
end
namespace Ev
open PySem Spec PyProof.Rows L2
section
variable {t1 t2:T} {n:Nat} {a:Addr} {vs:List V} {ts us:List T} {v u:Value} {x y:V} {A:Around} {qc jts:List Value}
mutual
theorem zf4:∀ t:T,dpP t t<20000->eqT t t=true
 | .non,_=>by rw [eqT]
 | .bl b,_=>by rw [eqT];simp
 | .int i,_=>by rw [eqT];simp
 | .str x,_=>by rw [eqT];simp
 | .tup a,h=>by rw [eqT];rw [dpP] at h;exact zeq a (by lia)
 | .lst a,h=>by rw [eqT];rw [dpP] at h;exact zeq a (by lia)
 | .dk _ _,h=>by rw [dpP] at h;lia
 | .dt _ _,h=>by rw [dpP] at h;lia
theorem zeq:∀ ts:List T,ycj ts ts<20000->yb2 ts ts=true
 | [],_=>by rw [yb2]
 | t::ts,h=>by rw [ycj] at h;rw [yb2,zf4 t (by lia),zeq ts (by lia)];rfl
end
theorem zjj:∀ {xs ys:List T} {j:Nat} {x y:T},xs[j]?=some x->ys[j]?=some y->dpP x y<=ycj xs ys
 | [],_,_,_,_,h,_=>by simp at h
 | _::_,[],_,_,_,_,h=>by simp at h
 | a::xs,b::ys,0,x,y,h1,h2=>by simp at h1 h2;subst h1 h2;rw [ycj];exact Nat.le_max_left _ _
 | a::xs,b::ys,j+1,x,y,h1,h2=>by rw [ycj];exact Nat.le_trans (zjj (j:=j) (by simpa using h1) (by simpa using h2)) (Nat.le_max_right _ _)
theorem zdg:∀ xs ys:List T,yb2 xs ys=((List.range (min xs.length ys.length)).all (fun j=>eqT (xs.getD j .non) (ys.getD j .non))&&xs.length==ys.length)
 | [],[]=>by rw [yb2];rfl
 | [],b::ys=>by simp [yb2]
 | a::xs,[]=>by simp [yb2]
 | a::xs,b::ys=>by
  rw [yb2,zdg xs ys,zzb,zzb,show min (xs.length+1) (ys.length+1)=min xs.length ys.length+1 by lia,List.range_succ_eq_map,List.all_cons,List.all_map];have e:(xs.length+1==ys.length+1)=(xs.length==ys.length):=by
   by_cases h:xs.length=ys.length
   .simp [h]
   .simp []
  rw [e,Bool.and_assoc];rfl
def isD:T->Bool
 | .dk _ _=>true
 | .dt _ _=>true
 | _=>false
theorem yfr (hd:dpP t1 t2<=n) (hn:n<20000):isD t1=false/\isD t2=false:=by cases t1<;>cases t2<;>first | exact ⟨rfl,rfl⟩ | (exfalso;simp [dpP] at hd;lia)
def yba:T->T->Bool
 | .tup _,.tup _=>true
 | .lst _,.lst _=>true
 | .dk _ _,_=>true
 | .dt _ _,_=>true
 | _,.dk _ _=>true
 | _,.dt _ _=>true
 | _,_=>false
section
variable {X:Cx} {pj:List (Addr × Obj)} {O:L2.St} {H F:Hp} {s:Shared}
theorem zd8 (I:Inv X pj O H s) (h:(∃ ws,H a=some (.dK ws))\/∃ ws,H a=some (.dT ws)):∃ o,s.heap.get? a=some o/\o.cls=.type "dict":=by
 rcases h with ⟨ws,h⟩ | ⟨ws,h⟩
 .obtain ⟨_,_,vs,_,o,es,ep,h1,h2,_⟩:=zxh I.hok h;exact ⟨o,h1,h2.1⟩
 .obtain ⟨_,_,xs,_,o,es,ep,h1,h2,_⟩:=ztq I.hok h;exact ⟨o,h1,h2.1⟩
theorem ziy (I:Inv X pj O H s) (h:(∃ ws,H a=some (.dK ws))\/∃ ws,H a=some (.dT ws)) (p:SqT X.K H a vs):False:=by obtain ⟨o,h1,h2⟩:=zd8 I h;obtain ⟨qc,_,⟨o',e,c,_⟩,_⟩:=I.tuple p;rw [h1] at e;cases e;rw [h2] at c;exact absurd c (by decide +kernel)
theorem ziz (I:Inv X pj O H s) (h:(∃ ws,H a=some (.dK ws))\/∃ ws,H a=some (.dT ws)) (p:Ls X.K H a vs):False:=by obtain ⟨o,h1,h2⟩:=zd8 I h;obtain ⟨qc,_,p',_⟩:=I.list p.sq;obtain ⟨o',e,c,_⟩:=p'.isList;rw [h1] at e;cases e;rw [h2] at c;exact absurd c (by decide +kernel)
theorem zcb (I:Inv X pj O H s) (fh:Same F H) {v:V} (r:Rep X.K F (.tup ts) v) (ru:RelV v u):∃ a vs qc,v=.ref a/\u=.ref a/\Tq X.K F a vs/\Reps X.K F ts vs/\Vals vs qc/\s.heap.IsTuple a qc.toArray:=by obtain ⟨a,vs,rfl,h1,h2⟩:=r;cases ru;obtain ⟨qc,rv,p,_⟩:=I.tuple (zaj fh h1);exact ⟨a,vs,qc,rfl,rfl,h1,h2,rv,p⟩
theorem zcu (I:Inv X pj O H s) (fh:Same F H) {v:V} (r:Rep X.K F (.lst ts) v) (ru:RelV v u):∃ a vs qc,v=.ref a/\u=.ref a/\Ls X.K F a vs/\Reps X.K F ts vs/\Vals vs qc/\s.heap.IsList a qc.toArray:=by obtain ⟨a,vs,rfl,h1,h2⟩:=r;cases ru;obtain ⟨qc,rv,p,_⟩:=I.list (Ls.same fh h1).sq;exact ⟨a,vs,qc,rfl,rfl,h1,h2,rv,p.isList⟩
theorem zfg {xs ys:Array Value} (h1:s.heap.IsTuple a xs) (h2:s.heap.IsList a ys):False:=by obtain ⟨o,e,c,_⟩:=h1;obtain ⟨o',e',c',_⟩:=h2;rw [e] at e';cases e';rw [c] at c';exact absurd c' (by decide +kernel)
theorem zod (h1:RelV x u) (h2:RelV y u):x=y:=by
 cases x with
 | non=>cases h1;cases y<;>first | rfl | (obtain ⟨_,e⟩:=h2;cases e;done) | (cases h2;done)
 | bl _=>cases h1;cases y<;>first | (obtain ⟨_,e⟩:=h2;cases e;done) | (cases h2;done) | (cases h2;rfl)
 | ref _=>cases h1;cases y<;>first | (obtain ⟨_,e⟩:=h2;cases e;done) | (cases h2;done) | (cases h2;rfl)
 | ty _=>cases h1;cases y<;>first | (obtain ⟨_,e⟩:=h2;cases e;done) | (cases h2;done) | (cases h2;rfl)
 | _=>obtain ⟨_,rfl⟩:=h1;cases y<;>first | (obtain ⟨_,e⟩:=h2;cases e;done) | (cases h2;done) | (obtain ⟨_,e⟩:=h2;cases e;rfl)
mutual
theorem zfo (I:Inv X pj O H s) (fh:Same F H):∀ {t1 t2:T} {v:V},Rep X.K F t1 v->Rep X.K F t2 v->t1=t2
 | .non,t2,v,r1,r2=>by cases r1;cases t2<;>first | rfl | (obtain ⟨_,_,e,_⟩:=r2;cases e) | cases r2
 | .bl b,t2,v,r1,r2=>by cases r1;cases t2<;>first | (cases r2;rfl) | (obtain ⟨_,_,e,_⟩:=r2;cases e) | cases r2
 | .int b,t2,v,r1,r2=>by cases r1;cases t2<;>first | (cases r2;rfl) | (obtain ⟨_,_,e,_⟩:=r2;cases e) | cases r2
 | .str b,t2,v,r1,r2=>by cases r1;cases t2<;>first | (cases r2;rfl) | (obtain ⟨_,_,e,_⟩:=r2;cases e) | cases r2
 | .tup ts,t2,v,r1,r2=>by
  obtain ⟨a,vs,rfl,h1,h2⟩:=r1;cases t2 with
  | tup us =>obtain ⟨b,ws,e,h3,h4⟩:=r2;cases e;have:=I.tuple_inj (zaj fh h1) (zaj fh h3);subst this;rw [zda I fh h2 h4]
  | lst us =>obtain ⟨b,ws,e,h3,h4⟩:=r2;cases e;obtain ⟨qc,_,p,_⟩:=I.tuple (zaj fh h1);obtain ⟨jts,_,p',_⟩:=I.list (Ls.same fh h3).sq;exact absurd (zfg (s:=s) p p'.isList) id
  | dk _ _ =>obtain ⟨b,ws,e,h3,h4⟩:=r2;cases e;exact (ziy I (.inl ⟨_,fh _ _ h3⟩) (zaj fh h1)).elim
  | dt _ _ =>obtain ⟨b,ws,e,h3,h4⟩:=r2;cases e;exact (ziy I (.inr ⟨_,fh _ _ h3⟩) (zaj fh h1)).elim
  | _=>cases r2
 | .lst ts,t2,v,r1,r2=>by
  obtain ⟨a,vs,rfl,h1,h2⟩:=r1;cases t2 with
  | lst us =>obtain ⟨b,ws,e,h3,h4⟩:=r2;cases e;have:=I.list_inj (Ls.same fh h1).sq (Ls.same fh h3).sq;subst this;rw [zda I fh h2 h4]
  | tup us =>obtain ⟨b,ws,e,h3,h4⟩:=r2;cases e;obtain ⟨qc,_,p,_⟩:=I.tuple (zaj fh h3);obtain ⟨jts,_,p',_⟩:=I.list (Ls.same fh h1).sq;exact absurd (zfg (s:=s) p p'.isList) id
  | dk _ _ =>obtain ⟨b,ws,e,h3,h4⟩:=r2;cases e;exact (ziz I (.inl ⟨_,fh _ _ h3⟩) (Ls.same fh h1)).elim
  | dt _ _ =>obtain ⟨b,ws,e,h3,h4⟩:=r2;cases e;exact (ziz I (.inr ⟨_,fh _ _ h3⟩) (Ls.same fh h1)).elim
  | _=>cases r2
 | .dk ks ts,t2,v,r1,r2=>by
  obtain ⟨a,ws,rfl,h1,h2,h2'⟩:=r1;cases t2 with
  | dk _ _ =>obtain ⟨b,zs,e,h3,h4,h4'⟩:=r2;cases e;rw [h1] at h3;cases h3;subst h2 h4;rw [zda I fh h2' h4']
  | dt _ _ =>obtain ⟨b,zs,e,h3,_⟩:=r2;cases e;rw [h1] at h3;cases h3
  | tup _ =>obtain ⟨b,zs,e,h3,_⟩:=r2;cases e;exact (ziy I (.inl ⟨_,fh _ _ h1⟩) (zaj fh h3)).elim
  | lst _ =>obtain ⟨b,zs,e,h3,_⟩:=r2;cases e;exact (ziz I (.inl ⟨_,fh _ _ h1⟩) (Ls.same fh h3)).elim
  | _=>cases r2
 | .dt ks ts,t2,v,r1,r2=>by
  obtain ⟨a,ws,rfl,h1,h2,h2'⟩:=r1;cases t2 with
  | dt _ _ =>obtain ⟨b,zs,e,h3,h4,h4'⟩:=r2;cases e;rw [h1] at h3;cases h3;subst h2 h4;rw [zda I fh h2' h4']
  | dk _ _ =>obtain ⟨b,zs,e,h3,_⟩:=r2;cases e;rw [h1] at h3;cases h3
  | tup _ =>obtain ⟨b,zs,e,h3,_⟩:=r2;cases e;exact (ziy I (.inr ⟨_,fh _ _ h1⟩) (zaj fh h3)).elim
  | lst _ =>obtain ⟨b,zs,e,h3,_⟩:=r2;cases e;exact (ziz I (.inr ⟨_,fh _ _ h1⟩) (Ls.same fh h3)).elim
  | _=>cases r2
theorem zda (I:Inv X pj O H s) (fh:Same F H):∀ {ts us:List T} {vs:List V},Reps X.K F ts vs->Reps X.K F us vs->ts=us
 | [],us,vs,r1,r2=>by
  cases r1;cases us with
  | nil=>rfl
  | cons _ _=>obtain ⟨_,_,e,_⟩:=r2;cases e
 | t::ts,us,vs,r1,r2=>by
  obtain ⟨v,r,rfl,h1,h2⟩:=r1;cases us with
  | nil=>cases r2
  | cons u us =>obtain ⟨_,_,e,h3,h4⟩:=r2;cases e;rw [zfo I fh h1 h3,zda I fh h2 h4]
end
theorem zd4 (ih:∀ (t1 t2:T) (x y:V) (v u:Value),dpP t1 t2<=n->Rep X.K F t1 x->Rep X.K F t2 y->RelV x v->RelV y u->SeqAt.EqAt A s v u (eqT t1 t2)) {ws:List V} (hd:ycj ts us<=n)
  (r1:Reps X.K F ts vs) (r2:Reps X.K F us ws) (v1:Vals vs qc) (v2:Vals ws jts):∀ j (h1:j<qc.toArray.size) (h2:j<jts.toArray.size),SeqAt.EqAt A s qc.toArray[j] jts.toArray[j] (eqT (ts.getD j .non) (us.getD j .non)):=by
 intro j h1 h2;have l1:qc.length=ts.length:=by rw [<- v1.length,r1.length]
 have l2:jts.length=us.length:=by rw [<- v2.length,r2.length]
 have h1':j<ts.length:=by rw [zy6] at h1;lia
 have h2':j<us.length:=by rw [zy6] at h2;lia
 have e1:ts[j]?=some ts[j]:=zy5 h1';have e2:us[j]?=some us[j]:=zy5 h2';obtain ⟨x,hx,rx⟩:=r1.get e1;obtain ⟨y,hy,ry⟩:=r2.get e2;obtain ⟨v,hv,rv⟩:=v1.get hx;obtain ⟨u,hu,ru⟩:=v2.get hy;have g1:qc.toArray[j]=v:=by
  have:qc[j]?=some qc.toArray[j]:=by simp
  rw [hv] at this;exact (zzl this).symm
 have g2:jts.toArray[j]=u:=by
  have:jts[j]?=some jts.toArray[j]:=by simp
  rw [hu] at this;exact (zzl this).symm
 rw [g1,g2,zzf,zzf,e1,e2];exact ih _ _ x y v u (zzs (zjj e1 e2) hd) rx ry rv ru
theorem zig {ws:List V} (r1:Reps X.K F ts vs) (r2:Reps X.K F us ws) (v1:Vals vs qc) (v2:Vals ws jts):qc.toArray.size=ts.length/\jts.toArray.size=us.length:=by rw [zy6,zy6,<- v1.length,<- v2.length,r1.length,r2.length];exact ⟨rfl,rfl⟩
theorem zjh (h:ts.length=us.length):yb2 ts us=(List.range ts.length).all fun j=>eqT (ts.getD j .non) (us.getD j .non):=by rw [zdg,h];simp
theorem zmy (h:ts.length≠us.length):yb2 ts us=false:=by rw [zdg,show (ts.length==us.length)=false by simpa using h,Bool.and_false]
theorem kind {P:T->Value->Prop} (I:Inv X pj O H s) (fh:Same F H) {t:T} (r:Rep X.K F t x) (rx:RelV x v) (h0:P .non .none) (h1:∀ b,P (.bl b) (.bool b)) (h2:∀ i k,P (.int i) (.int i k)) (h3:∀ i k,P (.str i) (.str i k))
  (h4:∀ ts a qc,s.heap.IsTuple a qc->P (.tup ts) (.ref a)) (h5:∀ ts a qc,s.heap.IsList a qc->P (.lst ts) (.ref a)) (h6:isD t=true->P t v):P t v:=by
 cases t with
 | non=>cases r;cases rx;exact h0
 | bl b=>cases r;cases rx;exact h1 b
 | int i=>cases r;obtain ⟨k,rfl⟩:=rx;exact h2 i k
 | str i=>cases r;obtain ⟨k,rfl⟩:=rx;exact h3 i k
 | tup ts=>obtain ⟨a,_,qc,_,rfl,_,_,_,p⟩:=zcb I fh r rx;exact h4 ts a _ p
 | lst ts=>obtain ⟨a,_,qc,_,rfl,_,_,_,p⟩:=zcu I fh r rx;exact h5 ts a _ p
 | dk _ _=>exact h6 rfl
 | dt _ _=>exact h6 rfl
theorem ygb (h:isD t2=true):yba t1 t2=true:=by cases t2<;>first | (cases h;done) | (cases t1<;>rfl)
theorem yfd (h:isD t1=true):yba t1 t2=true:=by cases t1<;>first | (cases h;done) | rfl
theorem mix {Q:Value->Value->Bool->Prop} {g:Bool->Bool}
  (mnn:Q .none .none (g true))
  (mnb:∀ (b:Bool),Q .none (.bool b) (g false))
  (mni:∀ (b:Int) (b':Tok),Q .none (.int b b') (g false))
  (mns:∀ (b:Str) (b':Tok),Q .none (.str b b') (g false))
  (mnt:∀ {b:Addr} {b':Array Value},s.heap.IsTuple b b'->A.units<cLine->Q .none (.ref b) (g false))
  (mnl:∀ {b:Addr} {b':Array Value},s.heap.IsList b b'->A.units<cLine->Q .none (.ref b) (g false))
  (mbn:∀ (a:Bool),Q (.bool a) .none (g false))
  (mbb:∀ (a:Bool) (b:Bool),Q (.bool a) (.bool b) (g (a==b)))
  (mbi:∀ (a:Bool) (b:Int) (b':Tok),Q (.bool a) (.int b b') (g ((if a then 1 else 0)==b)))
  (mbs:∀ (a:Bool) (b:Str) (b':Tok),Q (.bool a) (.str b b') (g false))
  (mbt:∀ {b:Addr} {b':Array Value} (a:Bool),s.heap.IsTuple b b'->A.units<cLine->Q (.bool a) (.ref b) (g false))
  (mbl:∀ {b:Addr} {b':Array Value} (a:Bool),s.heap.IsList b b'->A.units<cLine->Q (.bool a) (.ref b) (g false))
  (min:∀ (a:Int) (a':Tok),Q (.int a a') .none (g false))
  (mib:∀ (a:Int) (a':Tok) (b:Bool),Q (.int a a') (.bool b) (g (a==(if b then 1 else 0))))
  (mii:∀ (a:Int) (a':Tok) (b:Int) (b':Tok),Q (.int a a') (.int b b') (g (a==b)))
  (mis:∀ (a:Int) (a':Tok) (b:Str) (b':Tok),Q (.int a a') (.str b b') (g false))
  (mit:∀ {b:Addr} {b':Array Value} (a:Int) (a':Tok),s.heap.IsTuple b b'->A.units<cLine->Q (.int a a') (.ref b) (g false))
  (mil:∀ {b:Addr} {b':Array Value} (a:Int) (a':Tok),s.heap.IsList b b'->A.units<cLine->Q (.int a a') (.ref b) (g false))
  (msn:∀ (a:Str) (a':Tok),Q (.str a a') .none (g false))
  (msb:∀ (a:Str) (a':Tok) (b:Bool),Q (.str a a') (.bool b) (g false))
  (msi:∀ (a:Str) (a':Tok) (b:Int) (b':Tok),Q (.str a a') (.int b b') (g false))
  (mss:∀ (a:Str) (a':Tok) (b:Str) (b':Tok),Q (.str a a') (.str b b') (g (a==b)))
  (mst:∀ {b:Addr} {b':Array Value} (a:Str) (a':Tok),s.heap.IsTuple b b'->A.units<cLine->Q (.str a a') (.ref b) (g false))
  (msl:∀ {b:Addr} {b':Array Value} (a:Str) (a':Tok),s.heap.IsList b b'->A.units<cLine->Q (.str a a') (.ref b) (g false))
  (mtn:∀ {a:Addr} {a':Array Value},s.heap.IsTuple a a'->A.units<cLine->Q (.ref a) .none (g false))
  (mtb:∀ {a:Addr} {a':Array Value} (b:Bool),s.heap.IsTuple a a'->A.units<cLine->Q (.ref a) (.bool b) (g false))
  (mti:∀ {a:Addr} {a':Array Value} (b:Int) (b':Tok),s.heap.IsTuple a a'->A.units<cLine->Q (.ref a) (.int b b') (g false))
  (mts:∀ {a:Addr} {a':Array Value} (b:Str) (b':Tok),s.heap.IsTuple a a'->A.units<cLine->Q (.ref a) (.str b b') (g false))
  (mtl:∀ {a:Addr} {a':Array Value} {b:Addr} {b':Array Value},s.heap.IsTuple a a'->s.heap.IsList b b'->A.units<cLine->Q (.ref a) (.ref b) (g false))
  (mln:∀ {a:Addr} {a':Array Value},s.heap.IsList a a'->A.units<cLine->Q (.ref a) .none (g false))
  (mlb:∀ {a:Addr} {a':Array Value} (b:Bool),s.heap.IsList a a'->A.units<cLine->Q (.ref a) (.bool b) (g false))
  (mli:∀ {a:Addr} {a':Array Value} (b:Int) (b':Tok),s.heap.IsList a a'->A.units<cLine->Q (.ref a) (.int b b') (g false))
  (mls:∀ {a:Addr} {a':Array Value} (b:Str) (b':Tok),s.heap.IsList a a'->A.units<cLine->Q (.ref a) (.str b b') (g false))
  (mlt:∀ {a:Addr} {a':Array Value} {b:Addr} {b':Array Value},s.heap.IsList a a'->s.heap.IsTuple b b'->A.units<cLine->Q (.ref a) (.ref b) (g false))
  (I:Inv X pj O H s) (fh:Same F H) {t1 t2:T} {x y:V} {v u:Value} (hu:A.units<cLine) (hne:yba t1 t2≠true) (r1:Rep X.K F t1 x) (r2:Rep X.K F t2 y) (rx:RelV x v) (ry:RelV y u):Q v u (g (eqT t1 t2)):=by
 revert hne;have two:∀ {t v},(yba t .non≠true->Q v .none (g (eqT t .non)))->(∀ b,yba t (.bl b)≠true->Q v (.bool b) (g (eqT t (.bl b))))->(∀ i k,yba t (.int i)≠true->Q v (.int i k) (g (eqT t (.int i))))->(∀ i k,yba t (.str i)≠true->Q v (.str i k) (g (eqT t (.str i)))) ->
   (∀ ts a qc,s.heap.IsTuple a qc->yba t (.tup ts)≠true->Q v (.ref a) (g (eqT t (.tup ts))))->(∀ ts a qc,s.heap.IsList a qc->yba t (.lst ts)≠true->Q v (.ref a) (g (eqT t (.lst ts))))->yba t t2≠true->Q v u (g (eqT t t2)) :=
  fun {t v} h0 h1 h2 h3 h4 h5=>kind (P:=fun w u=>yba t w≠true->Q v u (g (eqT t w))) I fh r2 ry h0 h1 h2 h3 h4 h5 fun e z=>absurd (ygb e) z
 refine kind (P:=fun t v=>yba t t2≠true->Q v u (g (eqT t t2))) I fh r1 rx ?_ ?_ ?_ ?_ ?_ ?_ fun e z=>absurd (yfd e) z
 .exact two (fun _=>mnn) (fun b' _=>mnb b') (fun i' k' _=>mni i' k') (fun i' k' _=>mns i' k') (fun _ _ _ p' _=>mnt p' hu) (fun _ _ _ p' _=>mnl p' hu)
 .intro b;exact two (fun _=>mbn b) (fun b' _=>mbb b b') (fun i' k' _=>mbi b i' k') (fun i' k' _=>mbs b i' k') (fun _ _ _ p' _=>mbt b p' hu) (fun _ _ _ p' _=>mbl b p' hu)
 .intro i k;exact two (fun _=>min i k) (fun b' _=>mib i k b') (fun i' k' _=>mii i k i' k') (fun i' k' _=>mis i k i' k') (fun _ _ _ p' _=>mit i k p' hu) (fun _ _ _ p' _=>mil i k p' hu)
 .intro i k;exact two (fun _=>msn i k) (fun b' _=>msb i k b') (fun i' k' _=>msi i k i' k') (fun i' k' _=>mss i k i' k') (fun _ _ _ p' _=>mst i k p' hu) (fun _ _ _ p' _=>msl i k p' hu)
 .intro _ _ _ p;exact two (fun _=>mtn p hu) (fun b' _=>mtb b' p hu) (fun i' k' _=>mti i' k' p hu) (fun i' k' _=>mts i' k' p hu) (fun _ _ _ _ z=>absurd rfl z) (fun _ _ _ p' _=>mtl p p' hu)
 .intro _ _ _ p;exact two (fun _=>mln p hu) (fun b' _=>mlb b' p hu) (fun i' k' _=>mli i' k' p hu) (fun i' k' _=>mls i' k' p hu) (fun _ _ _ p' _=>mlt p p' hu) (fun _ _ _ _ z=>absurd rfl z)
open SeqAt.EqAt in
theorem yeg (I:Inv X pj O H s) (fh:Same F H) (hu:A.units<cLine) (hne:yba t1 t2≠true) (r1:Rep X.K F t1 x) (r2:Rep X.K F t2 y) (rx:RelV x v) (ry:RelV y u):SeqAt.EqAt A s v u (eqT t1 t2) :=
 mix (g:=id) (Q:=SeqAt.EqAt A s) (same .none) none_bool none_int none_str none_tuple none_list bool_none bool_bool bool_int bool_str bool_tuple bool_list int_none int_bool int_int int_str int_tuple int_list str_none str_bool str_int str_str str_tuple str_list tuple_none tuple_bool tuple_int tuple_str tuple_list list_none list_bool list_int list_str list_tuple I fh hu hne r1 r2 rx ry
open SeqAt.RcAt in
theorem zuy (I:Inv X pj O H s) (fh:Same F H) (hu:A.units<cLine) (hne:yba t1 t2≠true) (r1:Rep X.K F t1 x) (r2:Rep X.K F t2 y) (rx:RelV x v) (ry:RelV y u):SeqAt.RcAt A s v u (eqT t1 t2) :=
 mix (g:=id) (Q:=SeqAt.RcAt A s) none_none none_bool none_int none_str none_tuple none_list bool_none bool_bool bool_int bool_str bool_tuple bool_list int_none int_bool int_int int_str int_tuple int_list str_none str_bool str_int str_str str_tuple str_list tuple_none tuple_bool tuple_int tuple_str tuple_list list_none list_bool list_int list_str list_tuple I fh hu hne r1 r2 rx ry
open SeqAt.RcNeAt in
theorem zwb (I:Inv X pj O H s) (fh:Same F H) (hu:A.units<cLine) (hne:yba t1 t2≠true) (r1:Rep X.K F t1 x) (r2:Rep X.K F t2 y) (rx:RelV x v) (ry:RelV y u):SeqAt.RcNeAt A s v u (!eqT t1 t2) :=
 mix (g:=not) (Q:=SeqAt.RcNeAt A s) none_none none_bool none_int none_str none_tuple none_list bool_none bool_bool bool_int bool_str bool_tuple bool_list int_none int_bool int_int int_str int_tuple int_list str_none str_bool str_int str_str str_tuple str_list tuple_none tuple_bool tuple_int tuple_str tuple_list list_none list_bool list_int list_str list_tuple I fh hu hne r1 r2 rx ry
theorem zxa (I:Inv X pj O H s) (fh:Same F H):∀ (n:Nat) (A:Around) (t1 t2:T) (x y:V) (v u:Value),A.units+n<cLine->dpP t1 t2<=n->Rep X.K F t1 x->Rep X.K F t2 y->RelV x v->RelV y u->SeqAt.EqAt A s v u (eqT t1 t2):=by
 intro n
 induction n with
 | zero =>intro A t1 t2 x y v u hA hd r1 r2 rx ry;refine yeg I fh hA ?_ r1 r2 rx ry;intro h;have nd:=yfr hd (by lia);cases t1<;>cases t2<;>first | (cases h;done) | (cases nd.1;done) | (cases nd.2;done) | (rw [dpP] at hd;lia)
 | succ n ih =>
  intro A t1 t2 x y v u hA hd r1 r2 rx ry;have hu:A.units<cLine:=by lia
  have ih':=fun (t1 t2:T) (x y:V) (v u:Value) h=>ih A.in1 t1 t2 x y v u (show A.units+1+n<cLine by lia) h;have nd:=yfr hd (by have:cLine=9900:=rfl;lia);by_cases hb:yba t1 t2=true
  .cases t1 with
   | tup ts =>
    cases t2 with
    | tup us =>
     rw [dpP] at hd;by_cases hs:v=u
     .subst hs;have e:x=y:=by obtain ⟨_,_,rfl,_⟩:=r1;obtain ⟨_,_,rfl,_⟩:=r2;cases rx;cases ry;rfl
      subst e;have e:=zfo I fh r1 r2;cases e;rw [zf4 _ (by rw [dpP];have:cLine=9900:=rfl;lia)];exact .same v
     .obtain ⟨l1,vs1,its1,rfl,rfl,_,q1,w1,p1⟩:=zcb I fh r1 rx;obtain ⟨l2,vs2,its2,rfl,rfl,_,q2,w2,p2⟩:=zcb I fh r2 ry;have h:=SeqAt.RcAt.tuples p1 p2 hu (zd4 (fun t1 t2 x y v u h a b c d=>ih' t1 t2 x y v u h a b c d) (Nat.le_of_succ_le_succ hd) q1 q2 w1 w2);obtain ⟨z1,z2⟩:=zig q1 q2 w1 w2;rw [z1,z2,<- zdg] at h;rw [eqT];exact .of_refs (fun e=>hs (by rw [e])) h
    | dk _ _=>cases nd.2
    | dt _ _=>cases nd.2
    | _=>cases hb
   | lst ts =>
    cases t2 with
    | lst us =>
     rw [dpP] at hd;by_cases hs:v=u
     .subst hs;have e:x=y:=by obtain ⟨_,_,rfl,_⟩:=r1;obtain ⟨_,_,rfl,_⟩:=r2;cases rx;cases ry;rfl
      subst e;have e:=zfo I fh r1 r2;cases e;rw [zf4 _ (by rw [dpP];have:cLine=9900:=rfl;lia)];exact .same v
     .obtain ⟨l1,vs1,its1,rfl,rfl,_,q1,w1,p1⟩:=zcu I fh r1 rx;obtain ⟨l2,vs2,its2,rfl,rfl,_,q2,w2,p2⟩:=zcu I fh r2 ry;obtain ⟨z1,z2⟩:=zig q1 q2 w1 w2;rw [eqT];refine .of_refs (fun e=>hs (by rw [e])) ?_;by_cases hl:ts.length=us.length
      .have h:=SeqAt.RcAt.lists p1 p2 (by rw [z1,z2,hl]) hu (zd4 (fun t1 t2 x y v u h a b c d=>ih' t1 t2 x y v u h a b c d) (Nat.le_of_succ_le_succ hd) q1 q2 w1 w2);rw [z1] at h;rw [zjh hl];exact h
      .rw [zmy hl];exact SeqAt.RcAt.lists_lengths p1 p2 (by rw [z1,z2];simpa using hl) hu
    | dk _ _=>cases nd.2
    | dt _ _=>cases nd.2
    | _=>cases hb
   | dk _ _=>cases nd.1
   | dt _ _=>cases nd.1
   | _=>cases t2<;>first | (cases hb;done) | (cases nd.2;done)
  .exact yeg I fh hu hb r1 r2 rx ry
theorem zuz (I:Inv X pj O H s) (fh:Same F H) (hA:A.units+n<cLine) (hd:dpP t1 t2<=n) (r1:Rep X.K F t1 x) (r2:Rep X.K F t2 y) (rx:RelV x v) (ry:RelV y u):SeqAt.RcAt A s v u (eqT t1 t2)/\SeqAt.RcNeAt A s v u (!eqT t1 t2):=by
 have hu:A.units<cLine:=by lia
 have nd:=yfr hd (by have:cLine=9900:=rfl;lia);by_cases hb:yba t1 t2=true
 .cases n with
  | zero =>exfalso;have nd:=yfr hd (by lia);cases t1<;>cases t2<;>first | (cases hb;done) | (cases nd.1;done) | (cases nd.2;done) | (rw [dpP] at hd;lia)
  | succ n =>
   have ih':=fun (t1 t2:T) (x y:V) (v u:Value) h=>zxa I fh n A.in1 t1 t2 x y v u (show A.units+1+n<cLine by lia) h;cases t1 with
   | tup ts =>
    cases t2 with
    | tup us =>rw [dpP] at hd;obtain ⟨l1,vs1,its1,rfl,rfl,_,q1,w1,p1⟩:=zcb I fh r1 rx;obtain ⟨l2,vs2,its2,rfl,rfl,_,q2,w2,p2⟩:=zcb I fh r2 ry;have pa:=zd4 (fun t1 t2 x y v u h a b c d=>ih' t1 t2 x y v u h a b c d) (Nat.le_of_succ_le_succ hd) q1 q2 w1 w2;have h:=SeqAt.RcAt.tuples p1 p2 hu pa;have g:=SeqAt.RcNeAt.tuples p1 p2 hu pa;obtain ⟨z1,z2⟩:=zig q1 q2 w1 w2;rw [z1,z2,<- zdg] at h g;rw [eqT];exact ⟨h,g⟩
    | dk _ _=>cases nd.2
    | dt _ _=>cases nd.2
    | _=>cases hb
   | lst ts =>
    cases t2 with
    | lst us =>
     rw [dpP] at hd;obtain ⟨l1,vs1,its1,rfl,rfl,_,q1,w1,p1⟩:=zcu I fh r1 rx;obtain ⟨l2,vs2,its2,rfl,rfl,_,q2,w2,p2⟩:=zcu I fh r2 ry;obtain ⟨z1,z2⟩:=zig q1 q2 w1 w2;rw [eqT];by_cases hl:ts.length=us.length
     .have pa:=zd4 (fun t1 t2 x y v u h a b c d=>ih' t1 t2 x y v u h a b c d) (Nat.le_of_succ_le_succ hd) q1 q2 w1 w2;have h:=SeqAt.RcAt.lists p1 p2 (by rw [z1,z2,hl]) hu pa;have g:=SeqAt.RcNeAt.lists p1 p2 (by rw [z1,z2,hl]) hu pa;rw [z1] at h g;rw [zjh hl];exact ⟨h,g⟩
     .rw [zmy hl];exact ⟨SeqAt.RcAt.lists_lengths p1 p2 (by rw [z1,z2];simpa using hl) hu,SeqAt.RcNeAt.lists_lengths p1 p2 (by rw [z1,z2];simpa using hl) hu⟩
    | dk _ _=>cases nd.2
    | dt _ _=>cases nd.2
    | _=>cases hb
   | dk _ _=>cases nd.1
   | dt _ _=>cases nd.1
   | _=>cases t2<;>first | (cases hb;done) | (cases nd.2;done)
 .exact ⟨zuy I fh hu hb r1 r2 rx ry,zwb I fh hu hb r1 r2 rx ry⟩
end
end
section
open PySem PyProof.Rows L2
section
open PySem.SeqAt
open PySem.AutoSeq1 (wpAny_loadPart')
open PySem.MeetsSeq PySem.MeetsSeq2 PySem.MeetsSeq3
end
section
variable {prog:Program} {w:World} {A:Around} {E:Value->Shared->Prop} {s:Shared}
end
end
section
variable {pj:List (Addr × Obj)} {O:L2.St} {H F:Hp} {s:Shared} {v:Value} {t1:T} {x:V}
section
variable {X:Cx}
theorem zhn {a:Addr} {xs:List V} (I:Inv X pj O H s) (h:Ls X.K H a xs):∃ qc:List Value,Vals xs qc/\s.heap.IsList a qc.toArray/\xs.length<=sizeLine:=by have q:SqL X.K H a xs:=h.sq;obtain ⟨qc,r,p,z⟩:=I.list q;exact ⟨qc,r,p.isList,z⟩
theorem zvo (hu:X.A.units+100<cLine):OpS X (compareOp .Eq) eqC:=by
 intro pj s O H x y v u Q I rx ry h;obtain ⟨F,t1,t2,t,fh,r1,r2,ht,q⟩:=h;simp only [eqC] at ht;split at ht
 .rename_i hd;cases ht;exact (zuz I fh (n:=30) (by lia) hd r1 r2 rx ry).1 _ _ _ _ ⟨.bl _,H,I,rfl,q _ F H (Step.refl fh) rfl⟩
 .cases ht
theorem zvl (hu:X.A.units+100<cLine):OpS X (compareOp .NotEq) neC:=by
 intro pj s O H x y v u Q I rx ry h;obtain ⟨F,t1,t2,t,fh,r1,r2,ht,q⟩:=h;simp only [neC] at ht;split at ht
 .rename_i hd;cases ht;exact (zuz I fh (n:=30) (by lia) hd r1 r2 rx ry).2 _ _ _ _ ⟨.bl _,H,I,rfl,q _ F H (Step.refl fh) rfl⟩
 .cases ht
theorem zfw {K:W.Frag} {t:T} {v:V} {k:Kt} (r:Rep K F t v) (h:yep t=some k):v=kV k:=by cases t<;>first | (cases h;exact r) | cases h
theorem zem {K:W.Frag} {F:Hp}:∀ {ts:List T} {vs:List V} {ks:List Kt},Reps K F ts vs->yck ts=some ks->vs=ks.map kV
 | [],_,_,r,h=>by cases r;cases h;rfl
 | t::ts,_,_,r,h=>by obtain ⟨v,vr,rfl,r1,r2⟩:=r;obtain ⟨k,h1,h⟩:=obs h;obtain ⟨ks,h2,h⟩:=obs h;cases h;rw [zfw r1 h1,zem r2 h2];rfl
theorem zvm:OpS X (compareOp .Lt) (yau .lt):=by intro pj s O H x y v u Q I rx ry h;obtain ⟨F,t1,t2,t,fh,r1,r2,ht,q⟩:=h;cases t1<;>cases t2<;>simp only [yau] at ht<;>cases ht;cases r1;cases r2;exact zye pj s O H _ _ v u Q I rx ry ⟨_,_,rfl,rfl,q _ F H (Step.refl fh) rfl⟩
theorem zvn:OpS X (compareOp .Gt) (yau .gt):=by intro pj s O H x y v u Q I rx ry h;obtain ⟨F,t1,t2,t,fh,r1,r2,ht,q⟩:=h;cases t1<;>cases t2<;>simp only [yau] at ht<;>cases ht;cases r1;cases r2;exact zyf pj s O H _ _ v u Q I rx ry ⟨_,_,rfl,rfl,q _ F H (Step.refl fh) rfl⟩
theorem zep (I:Inv X pj O H s) (fh:Same F H) {A:Around} (hA:A.units+30<cLine) (r1:Rep X.K F t1 x) (rx:RelV x v):∀ {ts:List T} {vs:List V} {us:List Value},dpI t1 ts=true->Reps X.K F ts vs->Vals vs us ->
  ∃ e:Value->Bool,(∀ w∈us,SeqAt.EqAt A s w v (e w))/\us.map e=ts.map fun z=>eqT z t1:=by
 classical
 intro ts vs us hd r rv;have one:∀ {ts:List T} {vs:List V} {us:List Value},dpI t1 ts=true->Reps X.K F ts vs->Vals vs us->∀ w∈us,∃ t∈ts,SeqAt.EqAt A s w v (eqT t t1)/\∃ y,Rep X.K F t y/\RelV y w:=by
  intro ts
  induction ts with
  | nil=>intro vs us _ r rv w hw;cases r;cases rv;cases hw
  | cons t ts ih =>
   intro vs us hd r rv w hw;obtain ⟨y,vr,rfl,r2,r3⟩:=r;cases rv with
   | cons a b =>
    unfold dpI at hd;rw [List.all_cons,zy7,zz7] at hd;rcases omc hw with rfl | hw
    .exact ⟨t,zzg,zxa I fh 30 A _ _ _ _ _ _ hA hd.1 r2 r1 a rx,_,r2,a⟩
    .obtain ⟨t',h1,h2⟩:=ih hd.2 r3 b w hw;exact ⟨t',zzc _ h1,h2⟩
 obtain ⟨e,he⟩:∃ e:Value->Bool,∀ w t y,Rep X.K F t y->RelV y w->e w=eqT t t1:=by refine ⟨fun w=>if h:∃ t,(∃ y,Rep X.K F t y/\RelV y w) then eqT (Classical.choose h) t1 else false,fun w t y h3 h4=>?_⟩;have h:∃ t,(∃ y,Rep X.K F t y/\RelV y w):=⟨t,y,h3,h4⟩;obtain ⟨y',h5,h6⟩:=Classical.choose_spec h;have e:y=y':=zod h4 h6;subst e;simp only [dif_pos h];rw [<- zfo I fh h3 h5]
 refine ⟨e,fun w hw=>?_,?_⟩
 .obtain ⟨t,_,h2,y,h3,h4⟩:=one hd r rv w hw;rw [he w t y h3 h4];exact h2
 .clear one
  induction ts generalizing vs us with
  | nil=>cases r;cases rv;rfl
  | cons t ts ih =>
   obtain ⟨y,vr,rfl,r2,r3⟩:=r;cases rv with
   | cons a b =>unfold dpI at hd;rw [List.all_cons,zy7] at hd;rw [zy1,zy1,ih hd.2 r3 b,he _ t y r2 a]
theorem zje (I:Inv X pj O H s) (fh:Same F H) {A:Around} (hA:A.units+30<cLine) (r1:Rep X.K F t1 x) (rx:RelV x v):∀ {ts:List T} {vs:List V} {us:List Value},dpI t1 ts=true->Reps X.K F ts vs->Vals vs us ->
  ∃ e:Value->Bool,(∀ w∈us,SeqAt.EqAt A s w v (e w))/\us.any e=ts.any fun z=>eqT z t1:=by
 intro ts vs us hd r rv;obtain ⟨e,e1,e2⟩:=zep I fh hA r1 rx hd r rv;refine ⟨e,e1,?_⟩;have:=zze (fun l:List Bool=>l.any id) e2;simpa [List.any_map,Function.comp_def] using this
theorem zqx (hu:X.A.units+100<cLine) {t2:T} {y:V} {u:Value} {b:Bool} (I:Inv X pj O H s) (fh:Same F H) (r1:Rep X.K F t1 x) (r2:Rep X.K F t2 y) (rx:RelV x v) (ry:RelV y u) (h:inC t1 t2=some b) (hnk:∀ ks us,t2≠.dk ks us) {Q:Bool->Shared->Prop} (q:Q b s) {Q2:Value->Shared->Prop} :
  ((∀ b,Q b s->Q2 (.bool b) s)->wpAny (model X.prog X.w) X.A (compareOp .In v u) Q2 X.xe s)/\((∀ b,Q b s->Q2 (.bool (!b)) s)->wpAny (model X.prog X.w) X.A (compareOp .NotIn v u) Q2 X.xe s):=by
 cases t2 with
 | tup ts =>
  simp only [inC] at h;split at h
  .rename_i hd;cases h;obtain ⟨a,vs,qc,rfl,rfl,_,q1,w1,p1⟩:=zcb I fh r2 ry;obtain ⟨e,e1,e2⟩:=zje I fh (A:=X.A.in1) (show X.A.units+1+30<cLine by lia) r1 rx hd q1 w1;have e3:qc.toArray.any e=ts.any fun z=>eqT z t1:=by rw [<- e2];simp
   exact ⟨fun k=>SeqAt.in_tupleAt e p1 (fun w hw=>e1 w (by simpa using hw)) (by rw [e3];exact k _ q),fun k=>SeqAt.notIn_tupleAt e p1 (fun w hw=>e1 w (by simpa using hw)) (by rw [e3];exact k _ q)⟩
  .cases h
 | lst ts =>
  simp only [inC] at h;split at h
  .rename_i hd;cases h;obtain ⟨a,vs,qc,rfl,rfl,_,q1,w1,p1⟩:=zcu I fh r2 ry;obtain ⟨e,e1,e2⟩:=zje I fh (A:=X.A.in1) (show X.A.units+1+30<cLine by lia) r1 rx hd q1 w1;have e3:qc.toArray.any e=ts.any fun z=>eqT z t1:=by rw [<- e2];simp
   exact ⟨fun k=>SeqAt.in_listAt e p1 (fun w hw=>e1 w (by simpa using hw)) (by rw [e3];exact k _ q),fun k=>SeqAt.notIn_listAt e p1 (fun w hw=>e1 w (by simpa using hw)) (by rw [e3];exact k _ q)⟩
  .cases h
 | dk ks us=>exact absurd rfl (hnk ks us)
 | _=>cases h
theorem zjf {ks:List Kt} {us:List T} {y:V} {u:Value} {b:Bool} (I:Inv X pj O H s) (fh:Same F H) (r1:Rep X.K F t1 x) (r2:Rep X.K F (.dk ks us) y) (rx:RelV x v) (ry:RelV y u) (h:inC t1 (.dk ks us)=some b):∃ a z o,u=.ref a/\DGet H a z o/\RelV z v/\o.isSome=b:=by simp only [inC] at h;obtain ⟨k,hk,rfl⟩:=oms h;obtain ⟨a,ws,rfl,g1,g2,g3⟩:=r2;cases ry;subst g2;have eb:=zfw r1 hk;subst eb;exact ⟨a,kV k,ycp ws k,rfl,DGet.k (fh _ _ g1),rx,by rw [<- zfi,List.any_map];rfl⟩
theorem yey (hu:X.A.units+100<cLine):OpS X (compareOp .In) (yau .isin):=by
 intro pj s O H x y v u Q I rx ry h;obtain ⟨F,t1,t2,t,fh,r1,r2,ht,q⟩:=h;simp only [yau] at ht;obtain ⟨b,hb,rfl⟩:=oms ht;by_cases hk:∃ ks us,t2=.dk ks us
 .obtain ⟨ks,us,rfl⟩:=hk;obtain ⟨a,z,o,rfl,g,rz,e⟩:=zjf I fh r1 r2 rx ry hb;exact d_in (by lia) I g rz fun s' I'=>⟨.bl o.isSome,H,I',rfl,by rw [e];exact q _ F H (Step.refl fh) rfl⟩
 exact (zqx hu I fh r1 r2 rx ry hb (fun ks us e=>hk ⟨ks,us,e⟩) (Q:=fun b _=>Q (.bl b) H) (q _ F H (Step.refl fh) rfl)).1 fun b k=>⟨.bl b,H,I,rfl,k⟩
theorem yde (hu:X.A.units+100<cLine):OpS X (compareOp .NotIn) (yau .notin):=by
 intro pj s O H x y v u Q I rx ry h;obtain ⟨F,t1,t2,t,fh,r1,r2,ht,q⟩:=h;simp only [yau] at ht;obtain ⟨b,hb,rfl⟩:=oms ht;by_cases hk:∃ ks us,t2=.dk ks us
 .obtain ⟨ks,us,rfl⟩:=hk;obtain ⟨a,z,o,rfl,g,rz,e⟩:=zjf I fh r1 r2 rx ry hb;exact ztw (by lia) I g rz fun s' I'=>⟨.bl (!o.isSome),H,I',rfl,by rw [e];exact q _ F H (Step.refl fh) rfl⟩
 exact (zqx hu I fh r1 r2 rx ry hb (fun ks us e=>hk ⟨ks,us,e⟩) (Q:=fun b _=>Q (.bl (!b)) H) (q _ F H (Step.refl fh) rfl)).2 fun b k=>⟨.bl (!b),H,I,rfl,k⟩
theorem zss:OpS X (compareOp .Is) (yau .isN):=by
 intro pj s O H x y v u Q I rx ry h;obtain ⟨F,t1,t2,t,fh,r1,r2,ht,q⟩:=h;have e2:t2=.non:=by cases t2<;>first | rfl | (cases t1<;>simp [yau] at ht)
 subst e2;cases r2;have e:t=.bl (decide (x=.non)):=by
  cases t1 with
  | non=>cases r1;cases ht;simp
  | bl _=>cases r1;cases ht;simp
  | int _=>cases r1;cases ht;simp
  | str _=>cases r1;cases ht;simp
  | tup _=>obtain ⟨a,vs,rfl,_⟩:=r1;cases ht;simp
  | lst _=>obtain ⟨a,vs,rfl,_⟩:=r1;cases ht;simp
  | dk _ _=>obtain ⟨a,vs,rfl,_⟩:=r1;cases ht;simp
  | dt _ _=>obtain ⟨a,vs,rfl,_⟩:=r1;cases ht;simp
 subst e;exact zvr pj s O H _ _ v u Q I rx ry ⟨rfl,q _ F H (Step.refl fh) rfl⟩
theorem zop:OpS X (compareOp .IsNot) (yau .notN):=by
 intro pj s O H x y v u Q I rx ry h;obtain ⟨F,t1,t2,t,fh,r1,r2,ht,q⟩:=h;have e2:t2=.non:=by cases t2<;>first | rfl | (cases t1<;>simp [yau] at ht)
 subst e2;cases r2;have e:t=.bl (!decide (x=.non)):=by
  cases t1 with
  | non=>cases r1;cases ht;simp
  | bl _=>cases r1;cases ht;simp
  | int _=>cases r1;cases ht;simp
  | str _=>cases r1;cases ht;simp
  | tup _=>obtain ⟨a,vs,rfl,_⟩:=r1;cases ht;simp
  | lst _=>obtain ⟨a,vs,rfl,_⟩:=r1;cases ht;simp
  | dk _ _=>obtain ⟨a,vs,rfl,_⟩:=r1;cases ht;simp
  | dt _ _=>obtain ⟨a,vs,rfl,_⟩:=r1;cases ht;simp
 subst e;exact zsv pj s O H _ _ v u Q I rx ry ⟨rfl,q _ F H (Step.refl fh) rfl⟩
theorem zqk (hu:X.A.units+100<cLine) {op:CmpOp} {e:Expr} {o:Co} (h:yeu op e=some o):OpS X (compareOp op) (yau o)/\behindInMarks op e=false:=by
 cases op with
 | Eq=>cases h;exact ⟨zvo hu,yb5 _⟩
 | NotEq=>cases h;exact ⟨zvl hu,yb5 _⟩
 | Lt=>cases h;exact ⟨zvm,yb5 _⟩
 | LtE=>cases h
 | Gt=>cases h;exact ⟨zvn,yb5 _⟩
 | GtE=>cases h
 | Is =>
  simp only [yeu] at h;split at h
  .cases h;exact ⟨zss,yb5 _⟩
  .cases h
 | IsNot =>
  simp only [yeu] at h;split at h
  .cases h;exact ⟨zop,yb5 _⟩
  .cases h
 | In =>
  simp only [yeu] at h;split at h
  .cases h
  .rename_i hb;cases h;exact ⟨yey hu,by simpa using hb⟩
 | NotIn =>
  simp only [yeu] at h;split at h
  .cases h
  .rename_i hb;cases h;exact ⟨yde hu,by simpa using hb⟩
theorem zvp {op:Operator} {o:Bo} (h:ygh op=some o):OpS X (binaryOp op) (yaz o):=by
 cases op<;>simp only [ygh] at h<;>cases h
 .exact zst
 .exact zsp
 .exact zsq
 .exact zsr
 .exact zoq
end
end
section
variable {K:W.Frag} {f g:Env->Option T} {G:Glo} {k n:Nat} {rest es:List Expr}
section
variable {X:Cx} {c:Tc} {a b:Expr} {pos:Pos}
theorem zqy {F:Hp} {ts:List T} {vs:List V} {i:Int} {t:T} (r:Reps K F ts vs) (h:ybd ts i=some t):∃ v,atI vs i=some v/\Rep K F t v:=by unfold ybd at h;obtain ⟨j,h1,h2⟩:=obs h;obtain ⟨v,h3,h4⟩:=r.get h2;refine ⟨v,?_,h4⟩;unfold atI;rw [r.length];exact ud8.mpr ⟨j,h1,h3⟩
theorem zrj {prog:Program} {w:World} {A:Around} {E:Value->Shared->Prop} {s:Shared} {value slice:Expr} {o i:Value} {T id:String} {Q:Value->Shared->Prop}
  (hl:typeLookup (.type T) "__getitem__"=pure (some (.builtin id))) (hs:subscripted slice false o i=operate [o,i] (getItem o i)) (hT:s.TypeIs o T) (h:wpAny (model prog w) A (getItem o i) Q E s) :
  wpAny (model prog w) A (subscriptTail value slice o i) Q E s:=by
 unfold subscriptTail;refine zy2 ?_;rw [getitemInPython_of_ne hT.not_modules];refine zy2 (wpAny_specialOf hT hl ?_);have fin:wpAny (model prog w) A (subscripted slice false o i) (fun r qz=>wpAny (model prog w) A (letTemporaryGo value o r >>= fun _=>pure r) Q E qz) E s:=by rw [hs];exact wpAny_operating (wpAny_mono h (fun r qz h₃=>zy2 (wpAny_letTemporaryGo (zy9 h₃))) fun _ _ x=>x)
 first
  | exact zy9 (zy2 fin)
  | exact zy2 (zy9 (zy2 fin))
  | exact zy2 fin
theorem zgq {κ:Type} [DecidableEq κ] {K:W.Frag} {F:Hp}:∀ {ws:List (κ × V)} {ts:List T} {k:κ} {t:T},Reps K F ts (ws.map (·.2))->ycr (ws.map (·.1)) ts k=some t->∃ v,ycp ws k=some v/\Rep K F t v
 | [],_,_,_,_,h=>by simp [ycr] at h
 | p::ws,[],_,_,r,_=>by cases r
 | p::ws,u::ts,k,t,r,h=>by
  obtain ⟨v,vr,e,r1,r2⟩:=r;rw [zy1] at e;injection e with e1 e2;rw [zy1,ycr] at h;by_cases hk:p.1=k
  .rw [if_pos hk] at h;cases h;exact ⟨p.2,zc8 hk,by rw [e1];exact r1⟩
  .rw [if_neg hk] at h;rw [zc9 hk];exact zgq (by rw [e2];exact r2) h
theorem ixs (hu:X.A.units+1<cLine):IxR X (fun x y H Q=>∃ F t1 t2 t,Same F H/\Rep X.K F t1 x/\Rep X.K F t2 y/\yah t1 t2=some t/\∀ v F' H',Step F H F' H'->Rep X.K F' t v->Q v H'):=by
 intro value slice pj s O H x y v u Q I rx ry h hs;obtain ⟨F,t1,t2,t,fh,r1,r2,ht,q⟩:=h;cases t1 with
 | tup ts =>
  cases t2 with
  | int i =>cases r2;obtain ⟨p,vs,rfl,h1,h2⟩:=r1;obtain ⟨w,h3,h4⟩:=zqy h2 ht;exact zwx value slice pj s O H _ _ v u Q I rx ry ⟨p,vs,i,w,rfl,rfl,zaj fh h1,h3,q _ F H (Step.refl fh) h4⟩ hs
  | _=>cases ht
 | lst ts =>
  cases t2 with
  | int i =>cases r2;obtain ⟨p,vs,rfl,h1,h2⟩:=r1;obtain ⟨w,h3,h4⟩:=zqy h2 ht;exact ztl value slice pj s O H _ _ v u Q I rx ry ⟨p,vs,i,w,rfl,rfl,(Ls.same fh h1).sq,h3,q _ F H (Step.refl fh) h4⟩ hs
  | _=>cases ht
 | str z =>
  cases t2 with
  | int i =>
   cases r1;cases r2;simp only [yah,idxS] at ht;split at ht
   .rename_i hz;obtain ⟨j,h1,h2⟩:=obs ht;obtain ⟨ch,h3,rfl⟩:=oms h2;exact zwy value slice pj s O H _ _ v u Q I rx ry ⟨z,i,ch,rfl,rfl,hz,ud8.mpr ⟨j,h1,h3⟩,q _ F H (Step.refl fh) rfl⟩ hs
   .cases ht
  | _=>cases ht
 | dt ks us =>
  cases t2 with
  | tup xs =>
   obtain ⟨k,h1,h2⟩:=obs ht;obtain ⟨a,ws,rfl,g1,g2,g3⟩:=r1;obtain ⟨b,vs,rfl,g4,g5⟩:=r2;cases rx;cases ry;subst g2;obtain ⟨w,w1,w2⟩:=zgq g3 h2;have eb:=zem g5 h1;subst eb;have g:DGet H a (.ref b) (some w):=by rw [<- w1];exact DGet.t (fh _ _ g1) (fh _ _ g4)
   exact zrj PySem.F.slot_dict_getitem.lookup hs (zh4 I g) (zm9 hu I g rfl fun w' s3 I3 rw'=>⟨w,H,I3,rw',q _ F H (Step.refl fh) w2⟩)
  | _=>cases ht
 | _=>cases t2<;>cases ht
theorem zv1 (hu:X.A.units+1<cLine) (ha:Oke X c a f) (hb:Oke X c b g) (hs:zib b):Oke X c (.Subscript a b pos) (fun r=>(f r).bind fun x=>(g r).bind fun y=>yah x y):=by refine zar (zyb (ixs hu) ha hb hs) fun O H Q q=>?_;obtain ⟨r,F,t,e,ht,q⟩:=q;obtain ⟨t1,e1,ht⟩:=obs ht;obtain ⟨t2,e2,ht⟩:=obs ht;refine ⟨r,F,t1,e,e1,fun v1 F1 H1 s1 r1=>⟨r,F1,t2,e.step s1,e2,fun v2 F2 H2 s2 r2=>?_⟩⟩;exact ⟨F2,t1,t2,t,s2.fh,r1.mono s2.ff,r2,ht,fun v F' H' s3 r3=>q v F' H' (s1.trans (s2.trans s3)) r3⟩
theorem zfn {F:Hp} {ts:List T} {vs:List V} (r:Reps K F ts vs) (lo hi:Option Int):Reps K F (cut ts lo hi) (ydh vs lo hi):=by
 unfold cut ydh;have e:∀ (n d:Nat) (o:Option Int),HT.sIx n d o=yc1 n d o:=fun n d o=>by cases o<;>rfl
 rw [e,e,r.length];exact (r.drop _).take _
theorem sls:SlR X (fun x lo hi H Q=>∃ F t1 t,Same F H/\Rep X.K F t1 x/\ycc t1 lo hi=some t/\∀ v F' H',Step F H F' H'->Rep X.K F' t v->Q v H'):=by
 intro pj s O H x v vl vu lo hi sl Q I rx hs pl pu h;obtain ⟨F,t1,t,fh,r1,ht,q⟩:=h;cases t1 with
 | tup ts =>
  simp only [ycc] at ht;cases ht;obtain ⟨p,vs,rfl,h1,h2⟩:=r1;have e:∀ (n d:Nat) (o:Option Int),HT.sIx n d o=yc1 n d o:=fun n d o=>by cases o<;>rfl
  by_cases hw:yc1 ts.length 0 lo=0/\yc1 ts.length ts.length hi=ts.length
  .refine zn9 pj s O H _ v vl vu lo hi sl Q I rx hs pl pu ⟨p,vs,rfl,zaj fh h1,by rw [e,e,h2.length];exact hw,?_⟩;have ec:cut ts lo hi=ts:=by unfold cut;rw [hw.1,hw.2];simp
   exact q _ F H (Step.refl fh) ⟨p,vs,rfl,h1,by rw [ec];exact h2⟩
  .refine zum pj s O H _ v vl vu lo hi sl Q I rx hs pl pu ⟨p,vs,rfl,zaj fh h1,by rw [e,e,h2.length];exact hw,fun p' hp=>?_⟩;have st:=(Step.refl fh).new (o:=.tup (ydh vs lo hi)) hp;exact q _ _ _ st ⟨p',_,rfl,zam,(zfn h2 lo hi).mono st.ff⟩
 | lst ts =>simp only [ycc] at ht;cases ht;obtain ⟨p,vs,rfl,h1,h2⟩:=r1;refine zku pj s O H _ v vl vu lo hi sl Q I rx hs pl pu ⟨p,vs,rfl,(Ls.same fh h1).sq,fun p' hp=>?_⟩;have st:=(Step.refl fh).new (o:=.lst (ydh vs lo hi)) hp;exact q _ _ _ st ⟨p',_,rfl,Ls.of zam,(zfn h2 lo hi).mono st.ff⟩
 | _=>simp [ycc] at ht
def spO (X:Cx) (c:Tc) (f:Env->Option (Option T)):TO:=fun O H Q=>∃ r F o,EnvE X c r F O H/\(f r).bind asI=some o/\∀ F' H',Step F H F' H'->Q o H'
theorem zld {e:Option Expr} {t t':TO} (h:PO X e t) (m:∀ O H Q,t' O H Q->t O H Q):PO X e t':=fun pj s O H Q I q=>h pj s O H Q I (m O H Q q)
theorem zj1:PO X none (spO X c fun _=>some none):=by refine zld zsf fun O H Q q=>?_;obtain ⟨r,F,o,e,ht,q⟩:=q;cases ht;exact q F H (Step.refl e.fh)
theorem zj0 (h:Oke X c a f):PO X (some a) (spO X c fun r=>(f r).map some):=by
 refine zld (zse h) fun O H Q q=>?_;obtain ⟨r,F,o,e,ht,q⟩:=q;obtain ⟨o',e1,ht⟩:=obs ht;obtain ⟨t,e2,rfl⟩:=oms e1;refine ⟨r,F,t,e,e2,fun v F' H' s1 r1=>?_⟩;cases t with
 | int i=>cases ht;cases r1;exact ⟨i,rfl,q F' H' s1⟩
 | _=>cases ht
theorem zvw {lo hi:Option Expr} {g h:Env->Option (Option T)} {p2:Pos} (ha:Oke X c a f) (hl:PO X lo (spO X c g)) (hh:PO X hi (spO X c h)) :
  Oke X c (.Subscript a (.Slice lo hi none p2) pos) (fun r=>(f r).bind fun x=>(g r).bind fun l=>(h r).bind fun u=>(asI l).bind fun l'=>(asI u).bind fun u'=>ycc x l' u'):=by
 refine zar (ziu sls ha hl hh) fun O H Q q=>?_;obtain ⟨r,F,t,e,ht,q⟩:=q;obtain ⟨t1,e1,ht⟩:=obs ht;obtain ⟨l,e2,ht⟩:=obs ht;obtain ⟨u,e3,ht⟩:=obs ht;obtain ⟨l',e4,ht⟩:=obs ht;obtain ⟨u',e5,ht⟩:=obs ht;refine ⟨r,F,t1,e,e1,fun v1 F1 H1 s1 r1=>⟨r,F1,l',e.step s1,ud8.mpr ⟨l,e2,e4⟩,fun F2 H2 s2=>⟨r,F2,u',e.step (s1.trans s2),ud8.mpr ⟨u,e3,e5⟩,fun F3 H3 s3=>?_⟩⟩⟩;exact ⟨F3,t1,t,s3.fh,r1.mono (s2.trans s3).ff,ht,fun v F' H' s4 r4=>q v F' H' (s1.trans (s2.trans (s3.trans s4))) r4⟩
theorem zv4 {t:T} {v:V} (h:PE X a (tC v)) (r:∀ F,Rep X.K F t v):Oke X c a (fun _=>some t):=by refine zar h fun O H Q q=>?_;obtain ⟨r',F,t',e,ht,q⟩:=q;cases ht;exact q v F H (Step.refl e.fh) (r F)
theorem zvu (gd:Gd X c G k) {x:Str} {i:Nat} (hp:zab x=true) (hv:ybq c.sc x=true) (hi:yal c.nm x=some i):Oke X c (.Name x pos) (fun r=>(r[i]?).join):=by
 have hpn:=hp;simp only [zab,Bool.and_eq_true,Bool.not_eq_true'] at hp;intro pj s O H Q I q;obtain ⟨r,F,t,e,ht,q⟩:=q;have ht:(r[i]?).join=some t:=ht;have ht':r[i]?=some (some t):=by
  cases h:r[i]? with
  | none=>rw [h] at ht;cases ht
  | some o=>rw [h] at ht;cases o with
   | none=>cases ht
   | some z=>cases ht;rfl
 obtain ⟨j,v,h1,h2,h3⟩:=e.get x i t hpn hi hv ht';exact ze4 h1 (gd.vis x hv) hp.1.1.1 hp.1.1.2 pj s O H Q I ⟨v,h2,q v F H (Step.refl e.fh) h3⟩
theorem zv2 (gd:Gd X c G k) {x:Str} (hp:zab x=true) (hg:glB c.sc x=true):Oke X c (.Name x pos) (fun _=>G.con x):=by simp only [zab,Bool.and_eq_true,Bool.not_eq_true'] at hp;intro pj s O H Q I q;obtain ⟨r,F,t,e,ht,q⟩:=q;obtain ⟨u,v,h1,h2,h3⟩:=gd.con x t ht;exact zsk (gd.gl x hg) h1 h2 hp.1.1.1 pj s O H Q I (q v F H (Step.refl e.fh) (h3 F))
theorem zvx (ha:Oke X c a f):Oke X c (.UnaryOp .Not a pos) (fun r=>(f r).bind fun x=>match x with | .bl b=>some (.bl (!b)) | _=>none):=by
 refine zar (zve ha) fun O H Q q=>?_;obtain ⟨r,F,t,e,ht,q⟩:=q;obtain ⟨t1,e1,ht⟩:=obs ht;cases t1 with
 | bl b=>cases ht;exact ⟨r,F,_,e,e1,fun v F' H' s1 r1=>by cases r1;exact ⟨b,rfl,q _ F' H' s1 rfl⟩⟩
 | _=>cases ht
theorem zvy (ha:Oke X c a f):Oke X c (.UnaryOp .USub a pos) (fun r=>(f r).bind fun x=>match x with | .int i=>some (.int (-i)) | _=>none):=by
 refine zar (zx9 zue ha) fun O H Q q=>?_;obtain ⟨r,F,t,e,ht,q⟩:=q;obtain ⟨t1,e1,ht⟩:=obs ht;cases t1 with
 | int b=>cases ht;exact ⟨r,F,_,e,e1,fun v F' H' s1 r1=>by cases r1;exact ⟨b,rfl,q _ F' H' s1 rfl⟩⟩
 | _=>cases ht
theorem zv7 (ha:Oke X c a f) (hb:Oke X c (.BoolOp .And (b::rest) pos) g):Oke X c (.BoolOp .And (a::b::rest) pos) (fun r=>(f r).bind fun x=>match x with | .bl true=>g r | .bl false=>some (.bl false) | _=>none):=by
 refine zar (zvj ha hb) fun O H Q q=>?_;obtain ⟨r,F,t,e,ht,q⟩:=q;obtain ⟨t1,e1,ht⟩:=obs ht;cases t1 with
 | bl d =>
  refine ⟨r,F,_,e,e1,fun v F' H' s1 r1=>?_⟩;cases r1;cases d with
  | true=>exact ⟨true,rfl,yex ⟨r,F',t,e.step s1,ht,fun v2 F2 H2 s2 r2=>q v2 F2 H2 (s1.trans s2) r2⟩⟩
  | false=>cases ht;exact ⟨false,rfl,ye5 (q _ F' H' s1 rfl)⟩
 | _=>cases ht
theorem zyg (ha:Oke X c a f) (hb:Oke X c (.BoolOp .Or (b::rest) pos) g):Oke X c (.BoolOp .Or (a::b::rest) pos) (fun r=>(f r).bind fun x=>match x with | .bl true=>some (.bl true) | .bl false=>g r | _=>none):=by
 refine zar (zya ha hb) fun O H Q q=>?_;obtain ⟨r,F,t,e,ht,q⟩:=q;obtain ⟨t1,e1,ht⟩:=obs ht;cases t1 with
 | bl d =>
  refine ⟨r,F,_,e,e1,fun v F' H' s1 r1=>?_⟩;cases r1;cases d with
  | true=>cases ht;exact ⟨true,rfl,yex (q _ F' H' s1 rfl)⟩
  | false=>exact ⟨false,rfl,ye5 ⟨r,F',t,e.step s1,ht,fun v2 F2 H2 s2 r2=>q v2 F2 H2 (s1.trans s2) r2⟩⟩
 | _=>cases ht
abbrev Okw (X:Cx) (c:Tc) (e:Expr) (f:Env->Option T):Prop:=PW X e (spB X c f)
theorem zuf (ha:Okt X c a f) (hb:Okw X c (.BoolOp .And (b::rest) pos) g):Okw X c (.BoolOp .And (a::b::rest) pos) (fun r=>(f r).bind fun x=>match x with | .bl true=>g r | .bl false=>some (.bl false) | _=>none):=by
 refine zk7 (zu1 ha hb) fun O H Q q=>?_;obtain ⟨r,F,k,e,ht,q⟩:=q;obtain ⟨t1,e1,ht⟩:=obs ht;cases t1 with
 | bl d =>
  refine ⟨r,F,d,e,e1,fun F' H' s1=>?_⟩;cases d with
  | true=>exact yex ⟨r,F',k,e.step s1,ht,fun F2 H2 s2=>q F2 H2 (s1.trans s2)⟩
  | false=>cases ht;exact ye5 (q F' H' s1)
 | _=>cases ht
theorem zxu (ha:Okt X c a f) (hb:Okw X c (.BoolOp .Or (b::rest) pos) g):Okw X c (.BoolOp .Or (a::b::rest) pos) (fun r=>(f r).bind fun x=>match x with | .bl true=>some (.bl true) | .bl false=>g r | _=>none):=by
 refine zk7 (zx6 ha hb) fun O H Q q=>?_;obtain ⟨r,F,k,e,ht,q⟩:=q;obtain ⟨t1,e1,ht⟩:=obs ht;cases t1 with
 | bl d =>
  refine ⟨r,F,d,e,e1,fun F' H' s1=>?_⟩;cases d with
  | true=>cases ht;exact yex (q F' H' s1)
  | false=>exact ye5 ⟨r,F',k,e.step s1,ht,fun F2 H2 s2=>q F2 H2 (s1.trans s2)⟩
 | _=>cases ht
theorem zxw (ha:Okt X c a f):Okt X c (.UnaryOp .Not a pos) (fun r=>(f r).bind fun x=>match x with | .bl b=>some (.bl (!b)) | _=>none):=by
 refine zho (zu3 ha) fun O H Q q=>?_;obtain ⟨r,F,k,e,ht,q⟩:=q;obtain ⟨t1,e1,ht⟩:=obs ht;cases t1 with
 | bl d =>refine ⟨r,F,d,e,e1,fun F' H' s1=>?_⟩;cases ht;exact q F' H' s1
 | _=>cases ht
theorem zrh {F H:Hp} {t:T} {v:V} {b:Bool} (fh:Same F H) (r:Rep K F t v) (h:ycn t=some b):yf3 K v H b:=by
 cases t with
 | non=>cases r;cases h;rfl
 | bl _=>cases r;cases h;rfl
 | int _=>cases r;cases h;rfl
 | str _=>cases h
 | tup ts =>obtain ⟨p,vs,rfl,h1,h2⟩:=r;cases h;refine .inr (.inl ⟨vs,zaj fh h1,?_⟩);have e:=h2.length;cases vs<;>cases ts<;>first | rfl | simp at e
 | lst ts =>obtain ⟨p,vs,rfl,h1,h2⟩:=r;cases h;refine .inl ⟨vs,(Ls.same fh h1).sq,?_⟩;have e:=h2.length;cases vs<;>cases ts<;>first | rfl | simp at e
 | dk _ _=>cases h
 | dt _ _=>cases h
theorem zxv (ha:Oke X c a f) (he:∀ whole,isTrue a X.env whole=(do let v <- whole;standAt a.pos;holding [v] (truthy v))):Okt X c a (fun r=>(f r).bind fun x=>(ycn x).map .bl):=by refine zho (zoj ha he) fun O H Q q=>?_;obtain ⟨r,F,k,e,ht,q⟩:=q;obtain ⟨t1,e1,ht⟩:=obs ht;obtain ⟨b,e2,h2⟩:=oms ht;cases h2;exact ⟨r,F,t1,e,e1,fun v F' H' s1 r1=>⟨k,zrh s1.fh r1 e2,q F' H' s1⟩⟩
theorem zhq {t t':TA} (h:PA X es t) (m:∀ O H Q,t' O H Q->t O H Q):PA X es t':=fun p pj s O H Q I q=>h p pj s O H Q I (m O H Q q)
theorem zql:PA X [] (spL X c fun _=>some []):=by refine zhq zqj fun O H Q q=>?_;obtain ⟨r,F,ts,e,ht,q⟩:=q;cases ht;exact q [] F H (Step.refl e.fh) rfl
theorem zhs {g:Env->Option (List T)} (ha:Oke X c a f) (hr:PA X es (spL X c g)) (hs:starEach (a::es) X.env=(false,eval a X.env)::starEach es X.env):PA X (a::es) (spL X c fun r=>(f r).bind fun x=>(g r).bind fun xs=>some (x::xs)):=by refine zhq (zhr ha hr hs) fun O H Q q=>?_;obtain ⟨r,F,ts,e,ht,q⟩:=q;obtain ⟨t1,e1,ht⟩:=obs ht;obtain ⟨t2,e2,ht⟩:=obs ht;cases ht;exact ⟨r,F,t1,e,e1,fun v1 F1 H1 s1 r1=>⟨r,F1,t2,e.step s1,e2,fun vs F2 H2 s2 r2=>q _ F2 H2 (s1.trans s2) ⟨v1,vs,rfl,r1.mono s2.ff,r2⟩⟩⟩
theorem zvv {g:Env->Option (List T)} (h:PA X es (spL X c g)) (hl:∀ r ts,g r=some ts->ts.length=n):Oke X c (.Tuple es k pos) (fun r=>if n<=1000 then (g r).map .tup else none):=by
 refine zar (zvb h) fun O H Q q=>?_;obtain ⟨r,F,t,e,ht,q⟩:=q;split at ht
 .rename_i hn;obtain ⟨ts,e1,rfl⟩:=oms ht;refine ⟨r,F,ts,e,e1,fun vs F' H' s1 r1=>⟨by rw [r1.length,hl r ts e1];exact Nat.le_of_lt (zgj hn),fun p hp=>?_⟩⟩;have st:=s1.new (o:=.tup vs) hp;exact q _ _ _ st ⟨p,vs,rfl,zam,r1.mono (zbg (s1.fh.free hp))⟩
 .cases ht
def spN (X:Cx) (c:Tc) (f:Env->Option T):TE:=fun O H Q=>∃ r F ts,EnvE X c r F O H/\f r=some (.lst ts)/\∀ p vs F' H1,Step F H F' H1->H1 p=none->Reps X.K F' ts vs->Q (.ref p) (upd H1 p (.lst vs))
theorem zll {g:Env->Option (List T)} (h:PA X es (spL X c g)) (hl:∀ r ts,g r=some ts->ts.length=n):PE X (.List es pos) (spN X c (fun r=>if n<=1000 then (g r).map .lst else none)):=by
 refine zar (zvg h) fun O H Q q=>?_;obtain ⟨r,F,t,e,ht,q⟩:=q;split at ht
 .rename_i hn;obtain ⟨ts,e1,e2⟩:=oms ht;cases e2;exact ⟨r,F,t,e,e1,fun vs F' H' s1 r1=>⟨by rw [r1.length,hl r t e1];exact Nat.le_of_lt (zgj hn),fun p hp=>q p vs F' H' s1 hp r1⟩⟩
 .cases ht
theorem zvz {g:Env->Option (List T)} (h:PA X es (spL X c g)) (hl:∀ r ts,g r=some ts->ts.length=n):Oke X c (.List es pos) (fun r=>if n<=1000 then (g r).map .lst else none):=by
 refine zar (zll h hl) fun O H Q q=>?_;obtain ⟨r,F,t,e,ht,q⟩:=q;have ht':=ht;split at ht
 .obtain ⟨ts,e1,rfl⟩:=oms ht;refine ⟨r,F,ts,e,ht',fun p vs F' H' s1 hp r1=>?_⟩;exact q _ _ _ (s1.new hp) ⟨p,vs,rfl,Ls.of zam,r1.mono (zbg (s1.fh.free hp))⟩
 .cases ht
theorem zs2 (gd:Gd X c G k) {f:Str} {g:Env->Option (List T)} {p:Pos} (hg:glB c.sc f=true) (hp:zab f=true) (h:PA X (a::es) (spL X c g)) (he:starEach (a::es) X.env=(false,eval a X.env)::starEach es X.env)
  (hpl:(backTo pos (starEach es X.env)).any (·.1)=false):Oke X c (.Call (.Name f p) (a::es) [] pos) (fun r=>(g r).bind fun xs=>G.call f xs):=by
 simp only [zab,Bool.and_eq_true,Bool.not_eq_true'] at hp;intro pj s O H Q I q;obtain ⟨r,F,t,e,ht,q⟩:=q;obtain ⟨ts,e1,ht⟩:=obs ht;obtain ⟨ad,fd,ps,h1,h2,h3,h4⟩:=gd.call f ts t (by rw [yc5,hp.2.2.1,hp.2.2.2];rfl) ht;refine zsm h1 gd.room (gd.gl f hg) h2 h3 h4 .nil ygl h hp.1.1.1 he hpl pj s O H Q I ?_;refine ⟨r,F,ts,e,e1,fun vs F' H' s1 r1=>?_⟩;show spT X.K (G.call f) (vs++[]) H' Q E0;rw [zzm];exact ⟨F',ts,t,s1.fh,e.tb.up s1,r1,ht,fun v F2 H2 s2 r2=>q v F2 H2 (s1.trans s2) r2⟩
end
end
end Ev
namespace L2
open PySem
section
variable {l:Addr} {items:Array Value} {Q:Value->Shared->Prop}
open AutoSeq1 (wpAny_loadPart')
section
variable {prog:Program} {w:World} {A:Around} {E:Value->Shared->Prop} {s:Shared}
theorem zdo {it:Addr} {i:Nat} {x:Value} (hit:s.heap.IsTupleIter it l i)
  (hl:s.heap.IsTuple l items) (hx:items[i]?=some x)
  (hQ:∀ h',h'.IsTupleIter it l (i+1)->Heap.SameBut it s.heap h'->Q x { s with heap:=h' }) :
  wpAny (model prog w) A (Builtin.SmallTypes.nextOf (.ref it)) Q E s:=by
 obtain ⟨o,ho,hc,hd⟩:=id hit;obtain ⟨ol,hol,_,nl,hdl⟩:=hl;unfold Builtin.SmallTypes.nextOf;refine zy2 (zz1 (name:=Str.ofString "__next__") hit.typeIs F.slot_tuple_iterator_next
  (zz5 F.slot_tuple_iterator_next hit.typeIs F.entry_tuple_iterator_next ?_ (F.args_tuple_iterator_next_1 _)))
 show wpAny _ _ (field (.ref it) 0 >>= _) _ _ s;refine zy2 (ub3 ho hd (x:=.ref l) rfl ?_);show wpAny _ _ (if (Value.ref l==Value.none)=true then _ else _) _ _ s;rw [if_neg (show ¬ ((Value.ref l==Value.none)=true) from zzx)];show wpAny _ _ (field (.ref it) 1 >>= _) _ _ s;refine zy2 (ub3 ho hd (x:=.int i 0) rfl ?_);show wpAny _ _ (seqItems? (.ref l) >>= _) _ _ s;refine zy2 (uc9 hol hdl ?_);simp only [Int.toNat_natCast,hx];refine wpAny_bind (wpAny_setField ho hd (by simp) (wpAny_pure ⟨x,rfl,wpAny_pure (hQ _ ?_ (ub2 ..))⟩));exact ⟨_,Heap.get?_update_self _ ho (Obj.isFreed_of_fields (ud4 hd _)),(Obj.cls_mapFields ..).trans hc,by rw [ud4 hd];simp [rawInt]⟩
theorem zd1 {it:Addr} {i:Nat} (hh:A.handled=none)
  (hit:s.heap.IsTupleIter it l i) (hl:s.heap.IsTuple l items) (hx:items[i]?=none)
  (hE:∀ h' e,Heap.ExtBut it s.heap h'->(∃ o,h'.get? e=some o/\o.cls=.type "StopIteration")->E (.ref e) { s with heap:=h' }) :
  wpAny (model prog w) A (Builtin.SmallTypes.nextOf (.ref it)) Q E s:=by
 obtain ⟨o,ho,hc,hd⟩:=id hit;obtain ⟨ol,hol,_,nl,hdl⟩:=hl;unfold Builtin.SmallTypes.nextOf;refine zy2 (zz1 (name:=Str.ofString "__next__") hit.typeIs F.slot_tuple_iterator_next
  (zz5 F.slot_tuple_iterator_next hit.typeIs F.entry_tuple_iterator_next ?_ (F.args_tuple_iterator_next_1 _)))
 show wpAny _ _ (field (.ref it) 0 >>= _) _ _ s;refine zy2 (ub3 ho hd (x:=.ref l) rfl ?_);show wpAny _ _ (if (Value.ref l==Value.none)=true then _ else _) _ _ s;rw [if_neg (show ¬ ((Value.ref l==Value.none)=true) from zzx)];show wpAny _ _ (field (.ref it) 1 >>= _) _ _ s;refine zy2 (ub3 ho hd (x:=.int i 0) rfl ?_);show wpAny _ _ (seqItems? (.ref l) >>= _) _ _ s;refine zy2 (uc9 hol hdl ?_);simp only [Int.toNat_natCast,hx]
 first
  | refine wpAny_bind (wpAny_rule (wpAny_bind (wpAny_setField ho hd (by simp) (wpAny_bind (wpAny_letGo ?_)))))
  | refine wpAny_bind (wpAny_rule (wpAny_bind (wpAny_setField ho hd (by simp) ?_)))
 show wpAny _ _ (newExc (.type "StopIteration") [] >>= _) _ _ _;refine zy2 ?_;simp only [newExc,newTuple];refine zy2 (zz4 ?_ (by size_fits));refine wpAny_bind (m:=firstArgMember _ _) (wpAny_of_eq (a:=Value.none) (by first | rfl | (simp only [firstArgMember];rfl)) ?_);refine zz4 ?_ (by size_fits);simp only [raiseNew];refine zy2 (wpAny_handled ?_)
 first | rw [show A.in1.handled=none from hh] | rw [hh]
 refine zy2 (zy9 (wpAny_throw ?_));exact hE _ _ (((ub2 ..).extBut.push _).push _) ⟨_,zy8 _ rfl,rfl⟩
end
theorem zc1 {prog:Program} {w:World} {A:Around} (hh:A.handled=none) (it l:Addr) (hne:l≠it) (items:Array Value) :
  Draws prog w A it [it,l] items.size (fun i v=>items[i]?=some v) (fun i h=>h.IsTupleIter it l i/\h.IsTuple l items) where
 live:=fun _ _ st=>let ⟨o,ho,_⟩:=st.1;⟨o,ho⟩
 frame:=fun _ _ _ st hk=>⟨let ⟨o,ho,r⟩:=st.1;⟨o,hk it (by simp) o ho,r⟩,let ⟨o,ho,r⟩:=st.2;⟨o,hk l (by simp) o ho,r⟩⟩
 item:=fun i s Q E hi st hQ=>by refine zdo st.1 st.2 (x:=items[i]) (by simp [hi]) fun h' hit' hs'=>?_;exact hQ _ h' s.toks (by simp [hi]) ⟨hit',let ⟨o,ho,r⟩:=st.2;⟨o,hs'.extBut l o hne ho,r⟩⟩ hs'
 done:=fun s Q E st hE=>zd1 hh st.1 st.2 (by simp) hE
theorem zej (l:Addr) (items:Array Value) (n:Nat) (dct:Option Addr) (sl:Array (Option Value)) :
  Meets (Builtin.«enumerate.__new__» ⟨[.type "enumerate",.ref l],[]⟩) (fun _ R s=>s.heap.get? l=some { cls:=.type "tuple",dict:=dct,data:=.seq items n,slots:=sl } /\
   R (.ok (.ret (.ref (s.heap.push { cls:=.type "tuple_iterator",data:=.fields #[.ref l,.int 0 0] }).objs.size)))
    { s with heap:=(s.heap.push { cls:=.type "tuple_iterator",data:=.fields #[.ref l,.int 0 0] }).push { cls:=.type "enumerate",data:=.fields #[.none,.bool false,.ref s.heap.objs.size,rawInt 0,.none,.none] } }) :=
 .of_wp fun prog w A R s h=>by
  obtain ⟨hp,g,d,tk,os⟩:=s;obtain ⟨hl,h⟩:=h;have hsub:=sub_enumerate;have hL:Heap.IsTuple (Shared.heap ⟨hp,g,d,tk,os⟩) l items:=⟨_,hl,rfl,n,rfl⟩
  wp_walk using wpAny_loadPart' hl
  refine wpAny_stack_any fun st=>zy9 ?_;split
  .rename_i c _ _ _ _ _;cases (c==Value.type "enumerate")
   .wp_walk using wpAny_loadPart' hl,ub7 hL
    exact ⟨_,rfl,h⟩
   .wp_walk using wpAny_loadPart' hl,ub7 hL
    exact ⟨_,rfl,h⟩
  .wp_walk using wpAny_loadPart' hl,ub7 hL
   exact ⟨_,rfl,h⟩
section
variable {prog:Program} {w:World} {A:Around} {E:Value->Shared->Prop} {s:Shared}
theorem zex (hL:s.heap.IsTuple l items)
  (h:∀ h',IsEnum h' (s.heap.objs.size+1) s.heap.objs.size 0 .none->h'.IsTupleIter s.heap.objs.size l 0->h'.objs.size=s.heap.objs.size+2 ->
   (∀ b o,s.heap.get? b=some o->h'.get? b=some o)->Q (.ref (s.heap.objs.size+1)) { s with heap:=h' }) :
  wpAny (model prog w) A (call (.type "enumerate") [.ref l]) Q E s:=by
 obtain ⟨⟨c,dct,dt,sl⟩,hl,hc,n,hd⟩:=hL;replace hc:c=.type "tuple":=hc;replace hd:dt=.seq items n:=hd;subst hc hd;refine callType_new F.called_enumerate (by decide) (F.typeCall_enumerate_1 _) (F.newCall_enumerate_1 _) (fun obj=>F.args_object_init_2 obj _) F.entry_enumerate_new
  (zej l items n dct sl) ⟨hl,?_⟩
 have hz:(s.heap.push { cls:=.type "tuple_iterator",data:=.fields #[.ref l,.int 0 0] }).objs.size=s.heap.objs.size+1:=zzh ..;show _/\_;rw [hz];have he:IsEnum ((s.heap.push { cls:=.type "tuple_iterator",data:=.fields #[.ref l,.int 0 0] }).push
   { cls:=.type "enumerate",data:=.fields #[.none,.bool false,.ref s.heap.objs.size,rawInt 0,.none,.none] }) (s.heap.objs.size+1) s.heap.objs.size 0 .none:=by
  have:=zy8 (s.heap.push { cls:=.type "tuple_iterator",data:=.fields #[.ref l,.int 0 0] })
   (o:={ cls:=.type "enumerate",data:=.fields #[.none,.bool false,.ref s.heap.objs.size,rawInt 0,.none,.none] }) rfl
  rw [hz] at this;exact this
 refine ⟨⟨_,he,rfl⟩,h _ he ⟨_,zyz _ (zy8 _ rfl),rfl,rfl⟩ (by rw [zzh,hz]) fun b o x=>zyz _ (zyz _ x)⟩
end
end
section
open PySem Spec PyProof.Rows
theorem zcx {env:PySem.Env}:∀ (names:List (Str × NameKind)) (x:Str),
  (names.map fun (n,k)=>if (k==NameKind.free&&env.scope.kind==.function&&env.kindOf n==some .cell) then (n,NameKind.cell) else (n,k)).lookup x =
   (match names.lookup x with | some .free=>if (env.scope.kind==.function&&env.kindOf x==some .cell) then some .cell else some .free | o=>o)
 | [],_=>rfl
 | (n,k)::r,x=>by
  rw [zy1];cases hx:x==n with
  | false =>
   have e:∀ k',List.lookup x ((n,k')::(r.map fun (n,k)=>if (k==NameKind.free&&env.scope.kind==.function&&env.kindOf n==some .cell) then (n,NameKind.cell) else (n,k)))=List.lookup x (r.map fun (n,k)=>if (k==NameKind.free&&env.scope.kind==.function&&env.kindOf n==some .cell) then (n,NameKind.cell) else (n,k)):=fun k'=>by rw [zzu,hx]
   have e2:List.lookup x ((n,k)::r)=List.lookup x r:=by rw [zzu,hx]
   rw [e2,<- zcx r x];show List.lookup x ((if (k==NameKind.free&&env.scope.kind==.function&&env.kindOf n==some .cell)=true then (n,NameKind.cell) else (n,k))::_)=_;by_cases hc:(k==NameKind.free&&env.scope.kind==.function&&env.kindOf n==some .cell)=true
   .rw [if_pos hc];exact e _
   .rw [if_neg hc];exact e _
  | true =>
   have en:x=n:=ue3.mp hx;subst en;have e2:List.lookup x ((x,k)::r)=some k:=by rw [zzu,ua8]
   rw [e2];have e:∀ k',List.lookup x ((x,k')::(r.map fun (n,k)=>if (k==NameKind.free&&env.scope.kind==.function&&env.kindOf n==some .cell) then (n,NameKind.cell) else (n,k)))=some k':=fun k'=>by rw [zzu,ua8]
   cases k<;>simp only [beq_self_eq_true,Bool.true_and,Bool.false_and,Bool.false_eq_true,if_false,show (NameKind.local==NameKind.free)=false from rfl,show (NameKind.cell==NameKind.free)=false from rfl,show (NameKind.globalExplicit==NameKind.free)=false from rfl,show (NameKind.globalImplicit==NameKind.free)=false from rfl]<;>first | exact e _ | (split<;>exact e _)
def yb1 (sc:Scope) (N:List Str):List Str:=N.filter fun y=>sc.names.lookup y==some .free
def yby (sc:Scope):List Str->St->St
 | x::N,o::O=>if sc.names.lookup x==some .free then o::yby sc N O else yby sc N O
 | _,_=>[]
theorem zjo (sc:Scope):∀ (N:List Str) (O:St),O.length=N.length->(yby sc N O).length=(yb1 sc N).length
 | [],[],_=>rfl
 | [],_::_,h=>by simp at h
 | _::_,[],h=>by simp at h
 | x::N,o::O,h=>by
  unfold yby yb1;rw [ua9];have ih:=zjo sc N O (by simpa using h);unfold yb1 at ih;split
  .simp [ih]
  .exact ih
theorem zne (sc:Scope) {x:Str} (hx:sc.names.lookup x=some .free):∀ (N:List Str) (O:St),O.length=N.length->∀ {j:Nat} {v:V},N[j]?=some x->O[j]?=some (some v)->∃ (i:Nat),(yb1 sc N)[i]?=some x/\(yby sc N O)[i]?=some (some v)
 | [],[],_,j,v,h1,h2=>by simp at h1
 | [],_::_,h,_,_,_,_=>by simp at h
 | _::_,[],h,_,_,_,_=>by simp at h
 | y::N,o::O,h,0,v,h1,h2=>by
  simp at h1 h2;subst h1 h2;refine ⟨0,?_,?_⟩
  .unfold yb1;rw [ua9,if_pos (by rw [hx];rfl)];rfl
  .unfold yby;rw [if_pos (by rw [hx];rfl)];rfl
 | y::N,o::O,h,j+1,v,h1,h2=>by
  obtain ⟨i,h3,h4⟩:=zne sc hx N O (by simpa using h) (j:=j) (v:=v) (by simpa using h1) (by simpa using h2);unfold yb1 at h3 ⊢;rw [ua9];unfold yby;split
  .exact ⟨i+1,by simpa using h3,by simpa using h4⟩
  .exact ⟨i,h3,h4⟩
theorem znd (sc:Scope):∀ (N:List Str) (O:St) {i:Nat} {x:Str} {v:V},(yb1 sc N)[i]?=some x->(yby sc N O)[i]?=some (some v)->O.length=N.length->sc.names.lookup x=some .free/\∃ (j:Nat),N[j]?=some x/\O[j]?=some (some v)
 | [],_,i,x,v,h1,_,_=>by unfold yb1 at h1;simp at h1
 | _::_,[],_,_,_,_,_,h=>by simp at h
 | y::N,o::O,i,x,v,h1,h2,h=>by
  unfold yb1 at h1;rw [ua9] at h1;unfold yby at h2;by_cases hy:(sc.names.lookup y==some .free)=true
  .rw [if_pos hy] at h1 h2;cases i with
   | zero =>simp at h1 h2;subst h1 h2;exact ⟨by simpa using hy,0,rfl,rfl⟩
   | succ i =>obtain ⟨h3,j,h4,h5⟩:=znd sc N O (i:=i) (by simpa [yb1] using h1) (by simpa using h2) (by simpa using h);exact ⟨h3,j+1,by simpa using h4,by simpa using h5⟩
  .rw [if_neg hy] at h1 h2;obtain ⟨h3,j,h4,h5⟩:=znd sc N O (i:=i) (by simpa [yb1] using h1) h2 (by simpa using h);exact ⟨h3,j+1,by simpa using h4,by simpa using h5⟩
def blk (X:Cx) (pj:List (Addr × Obj)) (scope:Scope) (xs:List Str) (fp:List Addr) (qz:Shared) (qy:Hp):Cx where
 prog:=X.prog
 w:=X.w
 K:=X.K
 mg:=X.mg
 base:=X.base
 A:=X.A
 N:=xs++yb1 scope X.N
 s₀:=qz
 H₀:=qy
 env:={ scope:=relabel scope X.env,locals:=qz.heap.objs.size,globals:=X.env.globals,cells:=cellsFrom (qz.heap.objs.size+1) scope.names (za1 X.env scope.names []),qual:=X.env.qual,func:=none,code:=X.env.code,frame:=X.env.frame,builtins:=X.env.builtins }
 outer:=X.stack
 stack:=X.stack
 ex:=fp
 fn:=fun x=>scope.names.lookup x==some .cell
 calm:=X.calm
 pn:=X.pn++pj
 xe:=fun _ _=>False
structure CompSc (X:Cx) (scope:Scope) (xs:List Str):Prop where
 kind:scope.kind=.function
 nd:xs.Nodup
 own:∀ x∈xs,scope.names.lookup x=some .local\/scope.names.lookup x=some .cell
 free:∀ y∈scope.names,y.2=.free->scope.names.lookup y.1=some .free/\(X.env.kindOf y.1=some .cell\/X.env.kindOf y.1=some .free)
 loc:∀ y∈scope.names,y.2=.local->scope.names.lookup y.1=some .local
 cel:∀ y∈scope.names,y.2=.cell->scope.names.lookup y.1=some .cell
section
variable {X:Cx} {pj:List (Addr × Obj)} {scope:Scope} {xs:List Str} {fp:List Addr} {qz:Shared} {qy:Hp} {O:St}
theorem CompSc.has (S:CompSc X scope xs) (ok:X.Ok):∀ y∈scope.names,y.2=.free->∃ c,X.env.cells.lookup y.1=some c:=fun y hy hf=>ok.has y.1 (S.free y hy hf).2
theorem zch (scope:Scope) (X:Cx) (pj:List (Addr × Obj)) (xs:List Str) (fp:List Addr) (qz:Shared) (qy:Hp) (x:Str):(blk X pj scope xs fp qz qy).env.scope.names.lookup x =
  (match scope.names.lookup x with | some .free=>if (X.env.scope.kind==.function&&X.env.kindOf x==some .cell) then some .cell else some .free | o=>o):=zcx scope.names x
theorem zcw (S:CompSc X scope xs) (ok:X.Ok) {x:Str} {c:Addr} (h:(blk X pj scope xs fp qz qy).env.cells.lookup x=some c) :
  (qz.heap.objs.size+1<=c/\(x,c)∈cellsFrom (qz.heap.objs.size+1) scope.names []/\(x,NameKind.cell)∈scope.names)\/((cellsFrom (qz.heap.objs.size+1) scope.names []).lookup x=none/\X.env.cells.lookup x=some c):=by
 rcases yda h with h | ⟨h1,h2⟩
 .obtain ⟨h1,h2⟩:=zdk scope.names _ h;exact .inl ⟨h1,h,h2⟩
 .exact .inr ⟨h1,zea scope.names [] (fun _ _ e=>by cases e) (S.has ok) x c h2⟩
theorem zbt {l:List (Str × NameKind)} {x:Str} {k:NameKind} (h:l.lookup x=some k):(x,k)∈l:=PySem.mem_of_lookup h
theorem zq9 (S:CompSc X scope xs) (I:Inv X pj O qy qz) (ff:∀ b∈fp,yb0 X pj qy b) (fl:∀ b∈fp,b<qz.heap.objs.size):(blk X pj scope xs fp qz qy).Ok where
 mod:=I.ok.mod
 kind:=S.kind
 glob:=I.ok.glob
 blt:=I.ok.blt
 above:=zza _
 inj:=fun x y c h1 h2=>by
  have up:∀ {z:Str} {c:Addr},X.env.cells.lookup z=some c->c<qz.heap.objs.size:=fun {z c} h=>by obtain ⟨v,q⟩:=I.cell z c h;exact q.lt
  rcases zcw S I.ok h1 with ⟨a1,a2,_⟩ | ⟨_,a2⟩<;>rcases zcw S I.ok h2 with ⟨b1,b2,_⟩ | ⟨_,b2⟩
  .have ok:=cellsFrom_ok scope.names (qz.heap.push { cls:=.type "dict",data:=.dict #[] }) (qz.heap.objs.size+1) [] ⟨fun _ _ hm=>(nomatch hm),List.Pairwise.nil⟩ (by rw [zzh];exact zza _);rw [zzh] at ok;exact name_of_addr ok.apart a2 b2
  .exact absurd (zzi (up b2) (Nat.le_of_succ_le a1)) (zz3 _)
  .exact absurd (zzi (up a2) (Nat.le_of_succ_le b1)) (zz3 _)
  .exact I.ok.inj x y c a2 b2
 has:=fun x h=>by
  have h':(blk X pj scope xs fp qz qy).env.scope.names.lookup x=some .cell\/(blk X pj scope xs fp qz qy).env.scope.names.lookup x=some .free:=h;rw [zch] at h';have key:(x,NameKind.cell)∈scope.names\/(x,NameKind.free)∈scope.names:=by
   cases e:scope.names.lookup x with
   | none=>rw [e] at h';rcases h' with h' | h'<;>cases h'
   | some k =>
    rw [e] at h';cases k with
    | cell=>exact .inl (zbt e)
    | free=>exact .inr (zbt e)
    | _=>rcases h' with h' | h'<;>cases h'
  refine Option.isSome_iff_exists.mp (zdl scope.names _ _ ?_);rcases key with k | k
  .exact .inl k
  .exact .inr (zeb scope.names [] (.inl k))
 cab:=fun x c hf h=>by
  have hf':scope.names.lookup x=some .cell:=by simpa [blk] using hf
  have hs:=zdl (x:=x) scope.names (qz.heap.objs.size+1) [] (.inl (zbt hf'));rcases zcw S I.ok h with ⟨a1,_⟩ | ⟨a1,_⟩
  .exact Nat.le_of_lt (zzi (Nat.lt_succ_self _) a1)
  .rw [a1] at hs;cases hs
 hd:=I.ok.hd
 frames:=I.ok.frames
 stk:=.inl rfl
 exf:=fun b hb=>⟨zzo (fl b hb),fun x c h=>by
  rcases zcw S I.ok h with ⟨a1,_⟩ | ⟨_,a2⟩
  .exact fun z=>by have h1:=fl b hb;rw [<- z] at h1;exact absurd (zzi h1 (Nat.le_of_succ_le a1)) (zz3 _)
  .exact (ff b hb).2.2.2.2.1 x c a2⟩
 bs:=I.bs
 bsz:=zzs I.ok.bsz I.sz
 noex:=fun b o e hb=>by
  obtain ⟨_,_,_,h4,_⟩:=ff b hb;rcases h4 with h4 | h4
  .exact I.ok.noex b o e h4
  .exact absurd (zzi (zzd (I.ok.bs b o e).1) h4) (zz3 _)
 exfs:=fun b hb hf=>by
  rcases omc (I.stkSub b hf) with z | z
  .exact (ff b hb).2.1 z
  .exact (ff b hb).2.2.1 z
 funs:=I.stack
 frf:=I.stkFree
def ye9 (scope:Scope) (xs:List Str) (N:List Str) (O:St):St:=List.replicate xs.length none++yby scope N O
theorem znh (S:CompSc X scope xs) (I:Inv X pj O qy qz) (ff:∀ b∈fp,yb0 X pj qy b) (fl:∀ b∈fp,b<qz.heap.objs.size) :
  Inv (blk X pj scope xs fp qz qy) [] (ye9 scope xs X.N O) qy { qz with heap:=pushCells (qz.heap.push { cls:=.type "dict",data:=.dict #[] }) scope.names }:=by
 have keep:∀ b o,qz.heap.get? b=some o->(pushCells (qz.heap.push { cls:=.type "dict",data:=.dict #[] }) scope.names).get? b=some o:=fun b o e=>pushCells_keeps _ _ b o (zyz _ e);have cok:=cellsFrom_ok scope.names (qz.heap.push { cls:=.type "dict",data:=.dict #[] }) (qz.heap.objs.size+1) [] ⟨fun _ _ hm=>(nomatch hm),List.Pairwise.nil⟩ (by rw [zzh];exact zza _);rw [zzh] at cok;have hlen:O.length=X.N.length:=I.len;refine ⟨zq9 S I ff fl,rfl,I.bare,Un.kept keep,⟨fun _=>none,(Heap.Ns.new qz.heap (.type "dict")).keeps (pushCells_keeps _ _),fun i x v e1 e2 e3=>?_⟩,fun x c h=>?_,I.fresh,fun x c h=>?_,fun p hp=>?_,I.hok.kept keep,?_⟩
 .have hi:xs.length<=i:=by refine Nat.le_of_not_lt fun hlt=>?_;unfold ye9 at e2;rw [uc4 (by simpa using hlt),List.getElem?_replicate] at e2;split at e2<;>cases e2
  have e1':(yb1 scope X.N)[i-xs.length]?=some x:=by have e1:(xs++yb1 scope X.N)[i]?=some x:=e1;rw [zz2 hi] at e1;exact e1
  have e2':(yby scope X.N O)[i-xs.length]?=some (some v):=by unfold ye9 at e2;rw [uc3 (by simpa using hi)] at e2;simpa using e2
  obtain ⟨hf,j,h1,h2⟩:=znd scope X.N O e1' e2' hlen;have hm:=zbt hf;have hk:=(S.free _ hm rfl).2;obtain ⟨m,hn,hl⟩:=I.loc;obtain ⟨u,r,l⟩:=hl j x v h1 h2 (hk.elim (fun z=>.inr (.inl z)) fun z=>.inr (.inr z));refine ⟨u,r,?_⟩;rcases l with ⟨k,_⟩ | ⟨k,c,hc,z⟩
  .rcases hk with hk | hk<;>rw [hk] at k<;>cases k
  .refine .inr ⟨?_,c,?_,?_⟩
   .show (blk X pj scope xs fp qz qy).env.scope.names.lookup x=_\/(blk X pj scope xs fp qz qy).env.scope.names.lookup x=_;rw [zch,hf];dsimp only;split
    .exact .inl rfl
    .exact .inr rfl
   .show (cellsFrom (qz.heap.objs.size+1) scope.names (za1 X.env scope.names [])).lookup x=some c;have e0:(cellsFrom (qz.heap.objs.size+1) scope.names []).lookup x=none:=by
     cases q:(cellsFrom (qz.heap.objs.size+1) scope.names []).lookup x with
     | none=>rfl
     | some d =>have:=S.cel _ (zdk scope.names _ (PySem.mem_of_lookup q)).2 rfl;rw [hf] at this;cases this
    rw [zca,List.lookup_append,e0,ydk (S.has I.ok) hm];exact hc
   .obtain ⟨o,ho,hd⟩:=z;exact ⟨o,keep c o ho,hd⟩
 .rcases zcw S I.ok h with ⟨_,a2,_⟩ | ⟨_,a2⟩
  .exact ⟨_,(cok.empty x c a2).1⟩
  .obtain ⟨v,o,ho,hd⟩:=I.cell x c a2;exact ⟨v,o,keep c o ho,hd⟩
 .rcases zcw S I.ok h with ⟨a1,_⟩ | ⟨_,a2⟩
  .exact I.hok.fresh (by lia)
  .exact I.freeC x c a2
 .have hp':p∈X.pn++pj:=by have hp:p∈(X.pn++pj)++[]:=hp;rw [zzm] at hp;exact hp
  obtain ⟨e,n,ne,nf,d⟩:=I.pin p hp';refine ⟨keep p.1 p.2 e,n,zzo (zzd e),fun z=>?_,d⟩;rcases omc (I.stkSub p.1 z) with q | q
  .exact ne q
  .exact nf q
 .unfold ye9;show _=(xs++yb1 scope X.N).length;rw [zy4,zy4,List.length_replicate,zjo scope X.N O hlen]
theorem zpl {elt iter tg:Expr} {ifs:List Expr} {pos:Pos} {J:It} {it:Addr} {tn:Nat->Heap->Prop} {H2:Hp} {s2:Shared} {E:Value->Shared->Prop} {g:Shared->Hp->TG} {tc:Shared->Hp->TT} {te:Shared->Hp->TE}
  (hc:X.calm=true) (S:CompSc X scope xs) (I2:Inv X pj O H2 s2) (T:Turn X.prog X.w X.K tg J fp it tn) (st2:tn 0 s2.heap) (f2:∀ b∈fp,yb0 X pj H2 b)
  (hg:∀ qz qy,(blk X pj scope xs fp qz qy).Ok->PG (blk X pj scope xs fp qz qy) tg (g qz qy))
  (hi:∀ qz qy,(blk X pj scope xs fp qz qy).Ok->∀ (pn:List (Addr × Obj)) (s:Shared) (O:St) (H:Hp) (Q:Bool->Hp->Prop),Inv (blk X pj scope xs fp qz qy) pn O H s->tc qz qy O H Q ->
   wpAny (model X.prog X.w) X.A (forIn ifs true fun c r=>if r=true then do let ok <- isTrue c (blk X pj scope xs fp qz qy).env (eval c (blk X pj scope xs fp qz qy).env);pure (ForInStep.yield ok) else pure (ForInStep.yield r)) (TP (blk X pj scope xs fp qz qy) pn O Q) (fun _ _=>False) s)
  (he:∀ qz qy,(blk X pj scope xs fp qz qy).Ok->PE (blk X pj scope xs fp qz qy) elt (te qz qy))
  (W:Addr->Nat->Nat->St->Hp->Prop) (R:Addr->Hp->Prop)
  (start:∀ D,H2 D=none->∃ m,W D 0 m (ye9 scope xs X.N O) (upd H2 D (.lst [])))
  (turn:∀ qz qy D i m O' H',(blk X pj scope xs fp qz qy).Ok->W D i m O' H'->(J.stop i H'/\R D H')\/(J.go i H'/\∃ N:St->Hp->Prop,(∀ O'' H'',N O'' H''->∃ m',m'<m/\W D (i+1) m' O'' H'') /\
   ∀ x H5,J.yld i H' x H5->g qz qy x O' H5 fun O2 H6=>tc qz qy O2 H6 fun ok H7=>if ok=true then te qz qy O2 H7 fun y H8=>∃ ys,H8 D=some (.lst ys)/\ys.length<sizeLine/\N O2 (upd H8 D (.lst (ys++[y]))) else N O2 H7)) :
  wpAny (model X.prog X.w) X.A (newList []) (fun acc qz=>wpAny (model X.prog X.w) X.A (newFunctionEnv scope X.env.globals (za1 X.env scope.names []) [] X.env.qual none .none (some X.env)) (fun cenv s₄ =>
   codeAny (model X.prog X.w) X.A (.compStart (.ListComp elt [⟨tg,iter,ifs,0⟩] scope pos) 0 (.ref it) acc { cenv with scope:=relabel scope X.env })
    (fun r s'=>r=.ok .next/\∃ D H',acc=.ref D/\Inv X pj O H' s'/\yb0 X pj H' cenv.locals/\(∃ m,s'.heap.Ns cenv.locals m)/\R D H') s₄) E qz) E s2:=by
 refine zz4 ?_ (by size_fits);have I3:Inv X pj O (upd H2 s2.heap.objs.size (.lst [])) { s2 with heap:=s2.heap.push { cls:=.type "list",data:=.seq ([]:List Value).toArray } }:=I2.lnew (t':=s2.toks) (ys:=[]) (qc:=[]) .nil (zzp _);have hD:H2 s2.heap.objs.size=none:=I2.fresh;have fl2:∀ b∈fp,b<s2.heap.objs.size:=fun b hb=>by obtain ⟨o,e,_⟩:=T.obj 0 _ st2 b hb;exact zzd e
 have hsz:(s2.heap.push { cls:=.type "list",data:=.seq ([]:List Value).toArray }).objs.size=s2.heap.objs.size+1:=zzh ..;have f3:∀ b∈fp,yb0 X pj (upd H2 s2.heap.objs.size (.lst [])) b:=fun b hb=>⟨by rw [zai (zzo (fl2 b hb))];exact (f2 b hb).1,(f2 b hb).2⟩;have fl3:∀ b∈fp,b<(s2.heap.push { cls:=.type "list",data:=.seq ([]:List Value).toArray }).objs.size:=fun b hb=>by rw [hsz];exact Nat.lt_succ_of_lt (fl2 b hb)
 refine zov ?_;generalize hs3:({ s2 with heap:=s2.heap.push { cls:=.type "list",data:=.seq ([]:List Value).toArray } }:Shared)=s3 at I3 fl3 ⊢;have fl3:∀ b∈fp,b<s3.heap.objs.size:=by rw [<- hs3];exact fl3
 have st3:tn 0 s3.heap:=T.keep 0 _ _ st2 fun b _ o e=>by rw [<- hs3];exact zyz _ e
 generalize hH3:upd H2 s2.heap.objs.size (.lst [])=H3 at I3 f3;obtain ⟨m0,w0⟩:=start s2.heap.objs.size hD;rw [hH3] at w0;generalize hDD:s2.heap.objs.size=D at w0;have BOk:=zq9 (fp:=fp) S I3 f3 fl3;have I4:=znh (fp:=fp) S I3 f3 fl3;have hg':=hg s3 H3 BOk;have hi':=hi s3 H3 BOk;have he':=he s3 H3 BOk;have st4:tn 0 (pushCells (s3.heap.push { cls:=.type "dict",data:=.dict #[] }) scope.names):=T.keep 0 _ _ st3 fun b _ o e=>pushCells_keeps _ _ b o (zyz _ e);have stat:∀ {H':Hp} {pn:List (Addr × Obj)},pn=[]->(∀ b∈fp,H' b=none)->∀ b∈fp,yb0 (blk X pj scope xs fp s3 H3) pn H' b:=fun {H' pn} hp hn b hb=>by subst hp;refine ⟨hn b hb,(BOk.exf b hb).1,BOk.exfs b hb,.inl hb,(BOk.exf b hb).2,fun p hp=>?_⟩;have hp:p∈(X.pn++pj)++[]:=hp;rw [zzm] at hp;exact (f3 b hb).2.2.2.2.2 p hp
 have loop:codeAny (model X.prog X.w) X.A (.compLoop (.ListComp elt [⟨tg,iter,ifs,0⟩] scope pos) 0 (.ref it) (.ref D) (blk X pj scope xs fp s3 H3).env)
   (fun r s'=>r=.ok .next/\∃ D' H',Value.ref D=.ref D'/\Inv X pj O H' s'/\yb0 X pj H' s3.heap.objs.size/\(∃ m,s'.heap.Ns s3.heap.objs.size m)/\R D' H') { s3 with heap:=pushCells (s3.heap.push { cls:=.type "dict",data:=.dict #[] }) scope.names }:=by
  refine codeAny_loop rfl (fun n s'=>∃ i O' H',Inv (blk X pj scope xs fp s3 H3) [] O' H' s'/\tn i s'.heap/\(∀ b∈fp,H' b=none)/\W D i n O' H') ?_ m0 ⟨0,_,_,I4,st4,fun b hb=>(f3 b hb).1,w0⟩;rintro n s5 ⟨i,O5,H5,I5,st5,fr5,w5⟩;show wpAny _ X.A ((compTurn (.ListComp elt [⟨tg,iter,ifs,0⟩] scope pos) 0 (.ref it) (.ref D) (blk X pj scope xs fp s3 H3).env).onRaise (fun x=>do noteFrame x (blk X pj scope xs fp s3 H3).env;theTreesLotGoes x)) _ _ s5;refine wpAny_noted ?_;rw [compTurn_list];refine zy2 (wpAny_standAt (zy2 ?_));rcases turn s3 H3 D i n O5 H5 BOk w5 with ⟨stop,q⟩ | ⟨go,N,hN,step⟩
  .refine thn (T.done (blk X pj scope xs fp s3 H3) rfl rfl rfl hc i [] s5 O5 H5 _ I5 (stat rfl fr5) st5 stop) fun r s6 ⟨hr,I6⟩=>?_;subst hr;refine zy9 ⟨rfl,D,H5,rfl,?_,?_,?_,q⟩
   .exact I3.call' I6.os I6.base I6.hok I6.bare fun b hb=>⟨(f3 b hb).2.2.2.1,(f3 b hb).2.1,(f3 b hb).2.2.2.2.1,(f3 b hb).2.2.2.2.2⟩
   .exact I3.fpOk (zza _) I6.free
   .obtain ⟨m,hn,_⟩:=I6.loc;exact ⟨m,hn⟩
  .refine thn (T.item (blk X pj scope xs fp s3 H3) rfl rfl rfl hc i [] s5 O5 H5 _ I5 (stat rfl fr5) st5 go) fun r s6 ⟨u,hr,h6⟩=>?_;subst hr;refine zy2 (thn h6 fun _ s7 ⟨x,H7,I7,r7,y7,st7,fr7⟩=>?_);have I7':=I7.pinned (stat rfl fr7) (T.obj _ _ st7);have hl:∀ {α:Type} {t:Sem α} {Q:α->Shared->Prop} {E':Value->Shared->Prop} {s:Shared},wpAny (model X.prog X.w) X.A t Q (fun _ _=>False) s->wpAny (model X.prog X.w) X.A t Q E' s:=fun h=>wpAny_mono h (fun _ _ q=>q) fun _ _ z=>False.elim z;refine zy2 (hl (thn (hg' _ s7 O5 H7 x u _ I7' r7 (step x H7 y7)) fun _ s8 ⟨O8,H8,I8,q8⟩=>?_));refine zy2 (hl (thn (hi' _ s8 O8 H8 _ I8 q8) fun ok s9 ⟨H9,I9,q9⟩=>?_));have again:∀ {O7:St} {H7':Hp} {s7':Shared},Inv (blk X pj scope xs fp s3 H3) ([]++yci fp s7.heap) O7 H7' s7'->N O7 H7'->∃ m,m<n/\∃ i O' H',Inv (blk X pj scope xs fp s3 H3) [] O' H' s7'/\tn i s7'.heap/\(∀ b∈fp,H' b=none)/\W D i m O' H':=fun {O7 H7' s7'} I8 n8=>by obtain ⟨m',hm,w8⟩:=hN O7 H7' n8;refine ⟨m',hm,i+1,O7,H7',I8.unpinned,T.keep _ _ _ st7 fun b hb o e=>(I8.pin (b,o) (zzy _ (zzy _ (zcv hb e)))).1,fun b hb=>?_,w8⟩;obtain ⟨o,e,d⟩:=T.obj _ _ st7 b hb;exact (I8.pin (b,o) (zzy _ (zzy _ (zcv hb e)))).2.1
   cases ok with
   | false =>rw [if_neg zzx] at q9;exact zy9 ⟨rfl,again I9 q9⟩
   | true =>rw [if_pos rfl] at q9;refine zy2 (zy2 (hl (thn (he' _ s9 O8 H9 _ I9 q9) fun y s10 ⟨yv,H10,I10,r10,ys,e10,z10,q10⟩=>?_)));refine zy2 (hl (thn (zgp (X:=blk X pj scope xs fp s3 H3) _ s10 O8 H10 (.ref D) [yv] (.ref D) [y] (fun _ H'=>N O8 H') I10 rfl (.cons r10 .nil) ⟨D,ys,yv,rfl,rfl,e10,z10,q10⟩) fun _ s11 ⟨_,H11,I11,_,q11⟩=>?_));exact zy9 (zy9 ⟨rfl,again I11 q11⟩)
 exact codeAny_compStart_list loop (T.self X.A 0 _ _ _ st4 loop)
end
end
section
open PySem Spec PyProof.Rows
variable {P:Program} {w:World} {K:W.Frag} {elts:List Expr} {kx:Nat} {pos:Pos}
section
variable {X:Cx} {pj:List (Addr × Obj)} {O:St} {H:Hp} {s:Shared} {h':Heap}
theorem Inv.turned2 {it e T:Addr} {xs:List V} {t':Nat} (I:Inv X pj O H s) (k:∀ b o,b≠e->b≠it->s.heap.get? b=some o->h'.get? b=some o) (fe:yb0 X pj H e) (fi:yb0 X pj H it)
  (hT:s.heap.objs.size<=T) (new:ObjOk X.prog X.w (upd H T (.tup xs)) h' T (.tup xs)):Inv X pj O (upd H T (.tup xs)) { s with heap:=h',toks:=t' }:=by
 have hn:H T=none:=I.hok.fresh hT;have nT:∀ {b:Addr} {o:Obj},s.heap.get? b=some o->b≠T:=fun {b o} q=>zzo (zzi (zzd q) hT);have nch:∀ {b:Addr},b∉[e,it]->b≠e/\b≠it:=fun {b} h=>⟨fun z=>h (by simp [z]),fun z=>h (by simp [z])⟩;have nfp:∀ {b:Addr} {u:HO},H b=some u->b≠e/\b≠it:=fun {b u} q=>⟨fun z=>(by rw [z,fe.1] at q;cases q),fun z=>(by rw [z,fi.1] at q;cases q)⟩;refine I.step (g':=s.gens) (d':=s.drawn) (ch:=[e,it]) (fun b hb=>?_) (fun b o _ _ hc q _=>k b o (nch hc).1 (nch hc).2 q) (fun b o _ _ hc q _=>⟨o.slots,k b o (nch hc).1 (nch hc).2 q⟩)
  (fun b o hc q z=>by rw [zai (nT q)];exact z) (fun b o hc q=>⟨o,k b o (nch hc).1 (nch hc).2 q⟩)
  (fun b ys q=>by rw [zai (zae q hn)];exact q) (fun b o u q=>by rw [zai (zae q hn)];exact q) (fun b ps q=>⟨#[],by rw [zai (zae q hn),q];simp⟩) (fun m hm=>?_) (fun b u q=>?_) I.bare
 .rcases omc hb with z | z
  .rw [z];exact ⟨fe.2.2.2.1,fe.2.1,fe.2.2.2.2.1,fe.2.2.2.2.2⟩
  .rw [omg z];exact ⟨fi.2.2.2.1,fi.2.1,fi.2.2.2.2.1,fi.2.2.2.2.2⟩
 .obtain ⟨o,es,ep,ho,r⟩:=hm;exact ⟨o,es,ep,k _ o (Ne.symm fe.2.1) (Ne.symm fi.2.1) ho,r⟩
 .by_cases hb:b=T
  .subst hb;rw [zam] at q;cases q;exact new
  .rw [zai hb] at q;refine (I.hok b u q).stay (fun c v hc z=>?_) (fun c z=>by rw [zai (zae z hn)];exact z) fun c ys z=>by rw [zai (zae z hn)];exact z
   rcases hc with rfl | hc
   .exact k c v (nfp q).1 (nfp q).2 z
   .exact k c v (nfp hc).1 (nfp hc).2 z
end
def Ite (sq:Hp->Addr->List V->Prop) (a:Addr):It :=
 ⟨fun i H=>∃ xs x,sq H a xs/\xs[i]?=some x,fun i H x H'=>∃ p v,H p=none/\x=.ref p/\H'=upd H p (.tup [.int (i:Int),v])/\∀ xs,sq H a xs->xs[i]?=some v,fun i H=>∃ xs,sq H a xs/\xs.length=i⟩
theorem zjv (a it e:Addr) (hei:e≠it) :
  Turn P w K (.Tuple elts kx pos) (Ite (SqL K) a) [e,it] e (fun i h=>(∃ old,IsEnum h e it (i:Int) old)/\h.IsListIter it a i) where
 mem:=by simp
 obj:=fun i h st b hb=>by
  obtain ⟨⟨old,he⟩,o,ho,hc,hd⟩:=st;rcases omc hb with z | z
  .rw [z];exact ⟨_,he,fun v q=>by cases q⟩
  .rw [omg z];exact ⟨o,ho,fun v q=>by rw [hd] at q;cases q⟩
 keep:=fun i h h' st k=>by obtain ⟨⟨old,he⟩,o,ho,r⟩:=st;exact ⟨⟨old,k e (by simp) _ he⟩,o,k it (by simp) o ho,r⟩
 item:=by
  intro X hP hw hK hc i pj s O H E I hf st hg;subst hP hw hK;obtain ⟨xs,x,hq,hx⟩:=hg;obtain ⟨⟨old,he⟩,hit⟩:=st;obtain ⟨qc,rv,p,hz⟩:=I.list hq;obtain ⟨u,hu,ru⟩:=rv.get hx;have fe:=hf e (by simp);have fi:=hf it (by simp);obtain ⟨ol,hol,hcl,_⟩:=id p.isList;obtain ⟨oi,hoi,hci,_⟩:=id hit;have hai:a≠it:=fun z=>by rw [z,hoi] at hol;cases hol;rw [hci] at hcl;exact absurd hcl (by decide +kernel)
  have hae:e≠a:=fun z=>by have he':s.heap.get? e=_:=he;rw [z,hol] at he';cases he';exact absurd hcl (by show Value.type "enumerate"≠Value.type "list";decide +kernel)
  have D:=Draws.list (prog:=X.prog) (w:=X.w) (A:=X.A.in1) (show X.A.in1.handled=none from I.ok.hd hc) it a hai qc.toArray;have hlt:i<qc.toArray.size:=by have:=rv.length;have h2:=(ome hx).1;rw [zy6];lia
  refine wpAny_pyNext_enum_itemD D he ⟨hit,p.isList⟩ hlt hei (fun z=>(omc z).elim hei fun q=>hae (omg q)) fun x' h1 tk hPx ho st1 hT hsz hk=>?_;refine ⟨_,rfl,wpAny_letOwnedTupleGo_enum ho fun h2 he2 hs2=>?_⟩;have hx':x'=u:=by
   have hPx:qc.toArray[i]?=some x':=hPx;have:qc[i]?=some x':=by simpa using hPx
   rw [hu] at this;exact (zzl this).symm
  subst hx';have hk2:∀ b o,b≠e->b≠it->s.heap.get? b=some o->h2.get? b=some o:=fun b o hbe hbi q=>(hs2.2 b hbe).trans (hk b o hbe hbi q);have hTe:s.heap.objs.size≠e:=Nat.ne_of_gt (zzd he);have I1:Inv X pj O (upd H s.heap.objs.size (.tup [.int (i:Int),x])) { s with heap:=h2,toks:=tk+1 }:=I.turned2 hk2 fe fi (zza _)
   ⟨by show 2<=sizeLine;decide,[.int (i:Int) tk,x'],.cons ⟨_,rfl⟩ (.cons ru .nil),⟨_,(hs2.2 _ hTe).trans hT,rfl,_,rfl⟩⟩
  refine ⟨.ref s.heap.objs.size,_,I1,rfl,⟨_,x,I.fresh,rfl,rfl,fun ys hy=>by rw [I.list_inj hy hq];exact hx⟩,⟨⟨_,by simpa using he2⟩,?_⟩,fun b hb=>?_⟩
  .obtain ⟨o,ho',r⟩:=st1.1;exact ⟨o,(hs2.2 it (Ne.symm hei)).trans ho',r⟩
  .have hb0:=(hf b hb).1;have hbl:b<s.heap.objs.size:=by
    rcases omc hb with z | z
    .rw [z];exact zzd he
    .rw [omg z];exact zzd hoi
   rw [zai (zzo hbl)];exact hb0
 done:=by
  intro X hP hw hK hc i pj s O H E I hf st hg;subst hP hw hK;obtain ⟨xs,hq,hx⟩:=hg;obtain ⟨⟨old,he⟩,hit⟩:=st;obtain ⟨qc,rv,p,hz⟩:=I.list hq;obtain ⟨ol,hol,hcl,_⟩:=id p.isList;obtain ⟨oi,hoi,hci,_⟩:=id hit;have hai:a≠it:=fun z=>by rw [z,hoi] at hol;cases hol;rw [hci] at hcl;exact absurd hcl (by decide +kernel)
  have D:=Draws.list (prog:=X.prog) (w:=X.w) (A:=X.A.in1) (show X.A.in1.handled=none from I.ok.hd hc) it a hai qc.toArray;have hl:qc.toArray.size=i:=by rw [zy6,<- rv.length];exact hx
  obtain ⟨f0,f1,f2,f3,f4,f5⟩:=hf it (by simp);refine wpAny_pyNext_enum_endD D he (by rw [hl];exact ⟨hit,p.isList⟩) fun h1 eb=>⟨rfl,I.turned (t':=s.toks) (fun b o hb q=>eb b o hb q) f0 f1 f3 f4 f5⟩
 self:=fun _ _ _ _ _ st h=>by obtain ⟨⟨old,he⟩,_⟩:=st;exact wpAny_pyIter_enum he h
theorem zju (a it e:Addr) (hei:e≠it) :
  Turn P w K (.Tuple elts kx pos) (Ite (SqT K) a) [e,it] e (fun i h=>(∃ old,IsEnum h e it (i:Int) old)/\h.IsTupleIter it a i) where
 mem:=by simp
 obj:=fun i h st b hb=>by
  obtain ⟨⟨old,he⟩,o,ho,hc,hd⟩:=st;rcases omc hb with z | z
  .rw [z];exact ⟨_,he,fun v q=>by cases q⟩
  .rw [omg z];exact ⟨o,ho,fun v q=>by rw [hd] at q;cases q⟩
 keep:=fun i h h' st k=>by obtain ⟨⟨old,he⟩,o,ho,r⟩:=st;exact ⟨⟨old,k e (by simp) _ he⟩,o,k it (by simp) o ho,r⟩
 item:=by
  intro X hP hw hK hc i pj s O H E I hf st hg;subst hP hw hK;obtain ⟨xs,x,hq,hx⟩:=hg;obtain ⟨⟨old,he⟩,hit⟩:=st;obtain ⟨qc,rv,p,hz⟩:=I.tuple hq;obtain ⟨u,hu,ru⟩:=rv.get hx;have fe:=hf e (by simp);have fi:=hf it (by simp);obtain ⟨ol,hol,hcl,_⟩:=id p;obtain ⟨oi,hoi,hci,_⟩:=id hit;have hai:a≠it:=fun z=>by rw [z,hoi] at hol;cases hol;rw [hci] at hcl;exact absurd hcl (by decide +kernel)
  have hae:e≠a:=fun z=>by have he':s.heap.get? e=_:=he;rw [z,hol] at he';cases he';exact absurd hcl (by show Value.type "enumerate"≠Value.type "tuple";decide +kernel)
  have D:=zc1 (prog:=X.prog) (w:=X.w) (A:=X.A.in1) (show X.A.in1.handled=none from I.ok.hd hc) it a hai qc.toArray;have hlt:i<qc.toArray.size:=by have:=rv.length;have h2:=(ome hx).1;rw [zy6];lia
  refine wpAny_pyNext_enum_itemD D he ⟨hit,(show s.heap.IsTuple a qc.toArray from p)⟩ hlt hei (fun z=>(omc z).elim hei fun q=>hae (omg q)) fun x' h1 tk hPx ho st1 hT hsz hk=>?_;refine ⟨_,rfl,wpAny_letOwnedTupleGo_enum ho fun h2 he2 hs2=>?_⟩;have hx':x'=u:=by
   have hPx:qc.toArray[i]?=some x':=hPx;have:qc[i]?=some x':=by simpa using hPx
   rw [hu] at this;exact (zzl this).symm
  subst hx';have hk2:∀ b o,b≠e->b≠it->s.heap.get? b=some o->h2.get? b=some o:=fun b o hbe hbi q=>(hs2.2 b hbe).trans (hk b o hbe hbi q);have hTe:s.heap.objs.size≠e:=Nat.ne_of_gt (zzd he);have I1:Inv X pj O (upd H s.heap.objs.size (.tup [.int (i:Int),x])) { s with heap:=h2,toks:=tk+1 }:=I.turned2 hk2 fe fi (zza _)
   ⟨by show 2<=sizeLine;decide,[.int (i:Int) tk,x'],.cons ⟨_,rfl⟩ (.cons ru .nil),⟨_,(hs2.2 _ hTe).trans hT,rfl,_,rfl⟩⟩
  refine ⟨.ref s.heap.objs.size,_,I1,rfl,⟨_,x,I.fresh,rfl,rfl,fun ys hy=>by rw [I.tuple_inj hy hq];exact hx⟩,⟨⟨_,by simpa using he2⟩,?_⟩,fun b hb=>?_⟩
  .obtain ⟨o,ho',r⟩:=st1.1;exact ⟨o,(hs2.2 it (Ne.symm hei)).trans ho',r⟩
  .have hb0:=(hf b hb).1;have hbl:b<s.heap.objs.size:=by
    rcases omc hb with z | z
    .rw [z];exact zzd he
    .rw [omg z];exact zzd hoi
   rw [zai (zzo hbl)];exact hb0
 done:=by
  intro X hP hw hK hc i pj s O H E I hf st hg;subst hP hw hK;obtain ⟨xs,hq,hx⟩:=hg;obtain ⟨⟨old,he⟩,hit⟩:=st;obtain ⟨qc,rv,p,hz⟩:=I.tuple hq;obtain ⟨ol,hol,hcl,_⟩:=id p;obtain ⟨oi,hoi,hci,_⟩:=id hit;have hai:a≠it:=fun z=>by rw [z,hoi] at hol;cases hol;rw [hci] at hcl;exact absurd hcl (by decide +kernel)
  have D:=zc1 (prog:=X.prog) (w:=X.w) (A:=X.A.in1) (show X.A.in1.handled=none from I.ok.hd hc) it a hai qc.toArray;have hl:qc.toArray.size=i:=by rw [zy6,<- rv.length];exact hx
  obtain ⟨f0,f1,f2,f3,f4,f5⟩:=hf it (by simp);refine wpAny_pyNext_enum_endD D he (by rw [hl];exact ⟨hit,(show s.heap.IsTuple a qc.toArray from p)⟩) fun h1 eb=>⟨rfl,I.turned (t':=s.toks) (fun b o hb q=>eb b o hb q) f0 f1 f3 f4 f5⟩
 self:=fun _ _ _ _ _ st h=>by obtain ⟨⟨old,he⟩,_⟩:=st;exact wpAny_pyIter_enum he h
section
variable {X:Cx} {tg:Expr}
def Its (x:Str):It:=⟨fun i _=>i<x.cps.size,fun i H v H'=>H'=H/\∃ c,x.cps[i]?=some c/\v=.str ⟨#[c]⟩,fun i _=>x.cps.size<=i⟩
theorem znz {tg:Expr} (x:Str) (t:Tok) (it:Addr):Turn P w K tg (Its x) [it] it (fun i h=>h.IsStrIter it "str_ascii_iterator" x t i) where
 mem:=by simp
 obj:=fun i h st b hb=>by
  have e:b=it:=by simpa using hb
  subst e;obtain ⟨o,e,cl,d⟩:=st;exact ⟨o,e,fun v z=>by rw [d] at z;cases z⟩
 keep:=fun i h h' st k=>by obtain ⟨o,ho,r⟩:=st;exact ⟨o,k it (by simp) o ho,r⟩
 item:=by
  intro X hP hw hK hc i pj s O H E I hf st hg;subst hP hw hK;have hlt:i<x.cps.size:=hg;have hx:x.cps[i]?=some x.cps[i]:=by simp [hlt]
  obtain ⟨f0,f1,f2,f3,f4,f5⟩:=hf it (by simp);refine wpAny_pyNext_ascii_item st hx fun h' st' sb=>?_;have I1:Inv X pj O H { s with heap:=h',toks:=s.toks+1 }:=I.turned (t':=s.toks+1) (fun b o hb e=>(sb.2 b hb).trans e) f0 f1 f3 f4 f5;obtain ⟨o,e,cl,d⟩:=id st';exact ⟨_,rfl,zpb (s:={ s with heap:=h',toks:=s.toks+1 }) e cl d (by decide) ⟨.str ⟨#[x.cps[i]]⟩,H,I1,⟨_,rfl⟩,⟨rfl,x.cps[i],hx,rfl⟩,st',fun b hb=>(hf b hb).1⟩⟩
 done:=by intro X hP hw hK hc i pj s O H E I hf st hg;subst hP hw hK;have hge:x.cps.size<=i:=hg;obtain ⟨f0,f1,f2,f3,f4,f5⟩:=hf it (by simp);exact wpAny_pyNext_ascii_end (I.ok.hd hc) st (by simp;lia) fun h' eb=>⟨rfl,I.turned (t':=s.toks) (fun b o hb e=>eb b o hb e) f0 f1 f3 f4 f5⟩
 self:=fun _ _ _ _ _ st h=>wpAny_pyIter_striter_ascii st h
theorem zu9 {l:Expr} {tl:TE} (hl:PE X l tl):PI X tg l (fun O H R=>tl O H fun x H1=>(∃ a,x=.ref a/\((∃ xs,SqL X.K H1 a xs/\R (Itl X.K a) H1)\/∃ xs,SqT X.K H1 a xs/\R (Itt X.K a) H1))\/∃ z,x=.str z/\z.cps.all (·<128)=true/\R (Its z) H1):=by
 intro pj s O H R I h;refine thn (hl pj s O H _ I h) fun v s1 ⟨x,H1,I1,r1,q1⟩=>?_;have fp:∀ b∈[s1.heap.objs.size],yb0 X pj H1 b:=fun b hb=>by
  have e:b=s1.heap.objs.size:=by simpa using hb
  subst e;exact I1.fpOk (zza _) (I1.hok.fresh (zza _))
 rcases q1 with ⟨a,e,q1⟩ | ⟨z,e,ha,q⟩
 .subst e;cases r1;rcases q1 with ⟨xs,hq,q⟩ | ⟨xs,hq,q⟩
  .obtain ⟨qc,rv,p,hz⟩:=I1.list hq;refine wpAny_pyIter_list p.isList ?_;exact ⟨s1.heap.objs.size,[s1.heap.objs.size],_,_,H1,rfl,I1.kept (t':=s1.toks) fun b o e=>zyz _ e,zkn a _,⟨_,zy8 _ rfl,rfl,rfl⟩,fp,q⟩
  .obtain ⟨qc,rv,p,hz⟩:=I1.tuple hq;refine ub7 (show s1.heap.IsTuple a qc.toArray from p) ?_;exact ⟨s1.heap.objs.size,[s1.heap.objs.size],_,_,H1,rfl,I1.kept (t':=s1.toks) fun b o e=>zyz _ e,zjs a _,⟨_,zy8 _ rfl,rfl,rfl⟩,fp,q⟩
 .subst e;obtain ⟨tk,rfl⟩:=r1;refine wpAny_pyIter_ascii ha ?_;exact ⟨s1.heap.objs.size,[s1.heap.objs.size],_,_,H1,rfl,I1.kept (t':=s1.toks) fun b o e=>zyz _ e,znz z tk _,⟨_,zy8 _ rfl,rfl,rfl⟩,fp,q⟩
theorem zsi {a:Expr} {ta:TA} {p p2:Pos} (hg:Gl X "enumerate") (hm:X.mg "enumerate"=none) (ha:PA X [a] ta) (hs:starEach [a] X.env=[(false,eval a X.env)]) :
  PI X (.Tuple elts kx p2) (.Call (.Name "enumerate" p) [a] [] pos) (fun O H R=>ta O H fun vs H1=>∃ a,vs=[.ref a]/\((∃ xs,SqL X.K H1 a xs/\R (Ite (SqL X.K) a) H1)\/∃ xs,SqT X.K H1 a xs/\R (Ite (SqT X.K) a) H1)):=by
 intro pj s O H R I h;refine Call_ (zfa I hg hm boot_enumerate (PyProof.Rows.callWith_type1 (thn (ha pos pj s O H _ I h) fun us s1 ⟨vs,H1,I1,r1,q1⟩=>?_) hs rfl));obtain ⟨l,e,q1⟩:=q1;subst e;obtain ⟨u,rfl,rx⟩:=ybb r1;cases rx;have fin:∀ {h':Heap} {J:It} {tn:Nat->Heap->Prop},(∀ b o,s1.heap.get? b=some o->h'.get? b=some o)->h'.objs.size=s1.heap.objs.size+2 ->
   Turn X.prog X.w X.K (.Tuple elts kx p2) J [s1.heap.objs.size+1,s1.heap.objs.size] (s1.heap.objs.size+1) tn->tn 0 h'->R J H1->PIE X pj O (.Tuple elts kx p2) R (.ref (s1.heap.objs.size+1)) { s1 with heap:=h' }:=fun {h' J tn} hk hsz T st q=>by
  refine ⟨s1.heap.objs.size+1,[s1.heap.objs.size+1,s1.heap.objs.size],tn,J,H1,rfl,I1.kept (t':=s1.toks) hk,T,st,fun b hb=>?_,q⟩;rcases omc hb with z | z
  .rw [z];exact I1.fpOk (Nat.le_succ _) (I1.hok.fresh (Nat.le_succ _))
  .rw [omg z];exact I1.fpOk (zza _) (I1.hok.fresh (zza _))
 have hne:s1.heap.objs.size+1≠s1.heap.objs.size:=Nat.succ_ne_self _;rcases q1 with ⟨xs,hq,q⟩ | ⟨xs,hq,q⟩
 .obtain ⟨qc,rv,pl,hz⟩:=I1.list hq;refine call_enumerate_list pl.isList fun h' he hit hsz hk=>?_;exact wpAny_pyIter_enum (s:={ s1 with heap:=h' }) he (fin hk hsz (zjv l s1.heap.objs.size (s1.heap.objs.size+1) hne) ⟨⟨_,by simpa using he⟩,hit⟩ q)
 .obtain ⟨qc,rv,pl,hz⟩:=I1.tuple hq;refine zex (show s1.heap.IsTuple l qc.toArray from pl) fun h' he hit hsz hk=>?_;exact wpAny_pyIter_enum (s:={ s1 with heap:=h' }) he (fin hk hsz (zju l s1.heap.objs.size (s1.heap.objs.size+1) hne) ⟨⟨_,by simpa using he⟩,hit⟩ q)
end
end
end L2
namespace Ev
open PySem PySem.W PyProof.Rows
section
variable {i j:Nat}
def ya4 {α:Type} (c:Nat->Nat->Bool):KasT α->α
 | .ret a=>a
 | .ask i j k=>ya4 c (k (c i j))
def kok {α:Type} (n:Nat) (c:Nat->Nat->Bool):KasT α->Bool
 | .ret _=>true
 | .ask i j k=>decide (i<n)&&decide (j<n)&&kok n c (k (c i j))
section
variable {n:Nat} {c:Nat->Nat->Bool}
theorem zb6 {α β:Type} {f:α->KasT β}:∀ t:KasT α,ya4 c (t.bind f)=ya4 c (f (ya4 c t))
 | .ret _=>rfl
 | .ask i j k=>zb6 (k (c i j))
theorem zcd {α β:Type} {f:α->KasT β}:∀ t:KasT α,kok n c t=true->kok n c (f (ya4 c t))=true->kok n c (t.bind f)=true
 | .ret _,_,h=>h
 | .ask i j k,h1,h2=>by rw [kok,zy7] at h1;show (decide (i<n)&&decide (j<n)&&kok n c ((k (c i j)).bind f))=true;rw [h1.1,zcd (k (c i j)) h1.2 h2];rfl
theorem zcj {α:Type} {k:Bool->KasT α} (hi:i<n) (hj:j<n) (h:kok n c (k (c i j))=true):kok n c (.ask i j k)=true:=by rw [kok,zzj hi,zzj hj,h];rfl
def Pm (n:Nat) (p:Array Nat):Prop:=p.toList.Perm (List.range n)
def at' (p:Array Nat) (i:Nat):Nat:=p.getD i 0
variable {p:Array Nat}
theorem Pm.size (h:Pm n p):p.size=n:=by
 have:=List.Perm.length_eq h
 rwa [zzt,zAd] at this
theorem zhd (h:i<p.size):p[i]?=some (at' p i):=by unfold at';rw [Array.getD_eq_getD_getElem?,ub1 h];rfl
theorem zxs {q:Array Nat} (h:q[i]?=p[j]?):at' q i=at' p j:=by unfold at';rw [Array.getD_eq_getD_getElem?,Array.getD_eq_getD_getElem?,h]
theorem Pm.lt (h:Pm n p) (hi:i<n):at' p i<n:=by have h1:=zhd (p:=p) (i:=i) (by rw [h.size];exact hi);rw [<- zz9] at h1;exact List.mem_range.mp ((List.Perm.mem_iff h).mp (zAf h1))
theorem Pm.ne (h:Pm n p) (hi:i<n) (hj:j<n) (hne:i≠j):at' p i≠at' p j:=fun e=>by have nd:p.toList.Nodup:=(List.Perm.nodup_iff h).mpr List.nodup_range;have h1:=zhd (p:=p) (i:=i) (by rw [h.size];exact hi);have h2:=zhd (p:=p) (i:=j) (by rw [h.size];exact hj);rw [<- zz9] at h1 h2;rw [e,<- h2] at h1;exact hne ((List.getElem?_inj (by rw [zzt,h.size];exact hi) nd).mp h1)
structure Tot (n:Nat) (c:Nat->Nat->Bool):Prop where
 tot:∀ i j,i<n->j<n->i≠j->c j i=!c i j
 tr:∀ i j k,i<n->j<n->k<n->c i j=true->c j k=true->c i k=true
def Asc (c:Nat->Nat->Bool) (p:Array Nat) (k:Nat):Prop:=∀ i j,i<j->j<k->c (at' p i) (at' p j)=true
def Dsc (c:Nat->Nat->Bool) (p:Array Nat) (k:Nat):Prop:=∀ i j,i<j->j<k->c (at' p j) (at' p i)=true
theorem Asc.grow (T:Tot n c) (P:Pm n p) {k:Nat} (h1:1<=k) (hk:k<n) (h:Asc c p k) (e:c (at' p (k-1)) (at' p k)=true):Asc c p (k+1):=fun i j hij hj=>by
 by_cases hjk:j<k
 .exact h i j hij hjk
 .obtain rfl:j=k:=by lia
  by_cases hi:i=j-1
  .rw [hi];exact e
  .exact T.tr _ _ _ (P.lt (by lia)) (P.lt (by lia)) (P.lt hk) (h i (j-1) (by lia) (by lia)) e
theorem Dsc.grow (T:Tot n c) (P:Pm n p) {k:Nat} (h1:1<=k) (hk:k<n) (h:Dsc c p k) (e:c (at' p k) (at' p (k-1))=true):Dsc c p (k+1):=fun i j hij hj=>by
 by_cases hjk:j<k
 .exact h i j hij hjk
 .obtain rfl:j=k:=by lia
  by_cases hi:i=j-1
  .rw [hi];exact e
  .exact T.tr _ _ _ (P.lt hk) (P.lt (by lia)) (P.lt (by lia)) e (h i (j-1) (by lia) (by lia))
theorem zia (T:Tot n c) (P:Pm n p):∀ (f k:Nat),1<=k->k+f<=n->Asc c p k->kok n c (kas_asc p f k)=true/\k<=ya4 c (kas_asc p f k)/\ya4 c (kas_asc p f k)<=k+f/\Asc c p (ya4 c (kas_asc p f k))/\(ya4 c (kas_asc p f k)<k+f->c (at' p (ya4 c (kas_asc p f k))) (at' p (ya4 c (kas_asc p f k)-1))=true)
 | 0,k,_,_,h=>⟨rfl,zza _,zza _,h,fun z=>absurd z (zz3 _)⟩
 | f+1,k,h1,hk,h=>by
  have l1:=P.lt (i:=k) (by lia);have l2:=P.lt (i:=k-1) (by lia);cases e:c (at' p k) (at' p (k-1)) with
  | true =>
   have er:ya4 c (kas_asc p (f+1) k)=k:=by show ya4 c (if c (at' p k) (at' p (k-1))=true then _ else _)=k;rw [e];rfl
   rw [er];refine ⟨zcj l1 l2 ?_,zza _,by lia,h,fun _=>e⟩;show kok n c (if c (at' p k) (at' p (k-1))=true then _ else _)=true;rw [e];rfl
  | false =>
   have e':c (at' p (k-1)) (at' p k)=true:=by rw [T.tot _ _ l1 l2 (P.ne (by lia) (by lia) (by lia)),e];rfl
   obtain ⟨a1,a2,a3,a4,a5⟩:=zia T P f (k+1) (by lia) (by lia) (h.grow T P h1 (by lia) e');have er:ya4 c (kas_asc p (f+1) k)=ya4 c (kas_asc p f (k+1)):=by show ya4 c (if c (at' p k) (at' p (k-1))=true then _ else _)=_;rw [e];rfl
   rw [er];refine ⟨zcj l1 l2 ?_,by lia,by lia,a4,fun z=>a5 (by lia)⟩;show kok n c (if c (at' p k) (at' p (k-1))=true then _ else _)=true;rw [e];exact a1
theorem zjk (T:Tot n c) (P:Pm n p):∀ (f k:Nat),1<=k->k+f<=n->Dsc c p k->kok n c (kas_desc f p k 0)=true/\∃ m,ya4 c (kas_desc f p k 0)=(p,m,0)/\k<=m/\m<=k+f/\Dsc c p m
 | 0,k,_,_,h=>⟨rfl,k,rfl,zza _,zza _,h⟩
 | f+1,k,h1,hk,h=>by
  have l1:=P.lt (i:=k) (by lia);have l2:=P.lt (i:=k-1) (by lia);cases e:c (at' p k) (at' p (k-1)) with
  | true =>
   obtain ⟨a1,m,a2,a3,a4,a5⟩:=zjk T P f (k+1) (by lia) (by lia) (h.grow T P h1 (by lia) e);refine ⟨zcj l1 l2 ?_,m,?_,by lia,by lia,a5⟩
   .show kok n c (if c (at' p k) (at' p (k-1))=true then _ else _)=true;rw [e];exact a1
   .show ya4 c (if c (at' p k) (at' p (k-1))=true then _ else _)=_;rw [e];exact a2
  | false =>
   have e':c (at' p (k-1)) (at' p k)=true:=by rw [T.tot _ _ l1 l2 (P.ne (by lia) (by lia) (by lia)),e];rfl
   refine ⟨zcj l1 l2 ?_,k,?_,zza _,by lia,h⟩
   .show kok n c (if c (at' p k) (at' p (k-1))=true then _ else _)=true;rw [e];refine zcj l2 l1 ?_;show kok n c (if c (at' p (k-1)) (at' p k)=true then _ else _)=true;rw [e'];rfl
   .show ya4 c (if c (at' p k) (at' p (k-1))=true then _ else _)=_;rw [e];show ya4 c (if c (at' p (k-1)) (at' p k)=true then _ else _)=_;rw [e'];rfl
theorem zuu (P:Pm n p) (m:Nat):Pm n (kas_rev p 0 m):=List.Perm.trans (Array.perm_iff_toList_perm.mp (mirror_perm p 0 m ((m-0)/2))) P
theorem zrz (P:Pm n p) {m:Nat} (hm:m<=n) (h:Dsc c p m):Asc c (kas_rev p 0 m) m:=fun i j hij hj=>by
 have hs:=P.size;have g:∀ i,i<m->at' (kas_rev p 0 m) i=at' p (m-1-i):=fun i hi=>zxs (by unfold kas_rev;rw [getElem?_mirror_all (by lia),if_pos ⟨zzp _,hi⟩,show 0+m-1-i=m-1-i by lia]);rw [g i (by lia),g j hj];exact h _ _ (by lia) (by lia)
theorem zna (T:Tot n c) (P:Pm n p) (h2:2<=n):kok n c (kas_count n p)=true/\∃ m q,ya4 c (kas_count n p)=(m,q)/\1<=m/\m<=n/\Pm n q/\Asc c q m:=by
 obtain ⟨a1,a2,a3,a4,a5⟩:=zia T P (n-1) 1 (zza _) (by lia) (fun i j hij hj=>by lia);unfold kas_count;rw [zb6];generalize hm:ya4 c (kas_asc p (n-1) 1)=m at *;have main:kok n c (if (m==n)=true then .ret (m,p) else if m>1 then .ask (p.getD 0 0) (p.getD (m-1) 0) fun d=>if d=true then .ret (m,p) else kas_descPart m n (kas_rev p 0 m) else kas_descPart m n p)=true/\∃ m' q,ya4 c (if (m==n)=true then .ret (m,p) else if m>1 then .ask (p.getD 0 0) (p.getD (m-1) 0) fun d=>if d=true then .ret (m,p) else kas_descPart m n (kas_rev p 0 m) else kas_descPart m n p)=(m',q)/\1<=m'/\m'<=n/\Pm n q/\Asc c q m':=by
  by_cases he:m=n
  .rw [if_pos (by simpa using he)];exact ⟨rfl,m,p,rfl,a2,by lia,P,a4⟩
  .rw [if_neg (by simpa using he)];by_cases h1:m>1
   .rw [if_pos h1];have e:c (at' p 0) (at' p (m-1))=true:=a4 0 (m-1) (by lia) (by lia);refine ⟨zcj (P.lt (i:=0) (by lia)) (P.lt (i:=m-1) (by lia)) ?_,m,p,?_,a2,by lia,P,a4⟩
    .show kok n c (if c (at' p 0) (at' p (m-1))=true then _ else _)=true;rw [e];rfl
    .show ya4 c (if c (at' p 0) (at' p (m-1))=true then _ else _)=_;rw [e];rfl
   .rw [if_neg h1];obtain rfl:m=1:=by lia
    have e:=a5 (by lia);obtain ⟨b1,k,b2,b3,b4,b5⟩:=zjk T P (n-(1+1)) (1+1) (by lia) (by lia) (fun i j hij hj=>by
     obtain rfl:j=1:=by lia
     obtain rfl:i=0:=by lia
     exact e)
    have P':=zuu P k;obtain ⟨d1,d2,d3,d4,_⟩:=zia T P' (n-k) k (by lia) (by lia) (zrz P (by lia) b5);unfold kas_descPart;rw [zb6,b2];refine ⟨zcd _ b1 ?_,ya4 c (kas_asc (kas_rev p 0 k) (n-k) k),kas_rev p 0 k,?_,by lia,by lia,P',d4⟩
    .rw [b2];exact zcd _ d1 rfl
    .show ya4 c ((kas_asc (kas_rev p 0 k) (n-k) k).bind _)=_;rw [zb6];rfl
 exact ⟨zcd _ a1 (by rw [hm];exact main.1),main.2⟩
theorem zeg (T:Tot n c) (P:Pm n p) {k:Nat} (hk:k<n) (h:Asc c p k):∀ (f l r:Nat),l<=r->r<=k->r-l<=f->(∀ i,i<l->c (at' p i) (at' p k)=true)->(∀ i,r<=i->i<k->c (at' p k) (at' p i)=true) ->
  kok n c (kas_place p k f l r)=true/\ya4 c (kas_place p k f l r)<=k/\(∀ i,i<ya4 c (kas_place p k f l r)->c (at' p i) (at' p k)=true)/\∀ i,ya4 c (kas_place p k f l r)<=i->i<k->c (at' p k) (at' p i)=true
 | 0,l,r,h1,h2,h3,h4,h5=>⟨rfl,by show l<=k;lia,h4,fun i hi hik=>h5 i (by have:l<=i:=hi;lia) hik⟩
 | f+1,l,r,h1,h2,h3,h4,h5=>by
  by_cases hlr:l>=r
  .have er:kas_place p k (f+1) l r=.ret l:=by rw [kas_place,if_pos hlr]
   rw [er];exact ⟨rfl,by show l<=k;lia,h4,fun i hi hik=>h5 i (by have:l<=i:=hi;lia) hik⟩
  .have er:kas_place p k (f+1) l r=.ask (at' p k) (at' p ((l+r)/2)) fun d=>if d=true then kas_place p k f l ((l+r)/2) else kas_place p k f ((l+r)/2+1) r:=by rw [kas_place,if_neg hlr];rfl
   rw [er];have hm:(l+r)/2<k:=by lia
   have l1:=P.lt hk;have l2:=P.lt (i:=(l+r)/2) (by lia);have eo:∀ (b:Bool),c (at' p k) (at' p ((l+r)/2))=b->ya4 c (.ask (at' p k) (at' p ((l+r)/2)) fun d=>if d=true then kas_place p k f l ((l+r)/2) else kas_place p k f ((l+r)/2+1) r)=ya4 c (if b=true then kas_place p k f l ((l+r)/2) else kas_place p k f ((l+r)/2+1) r):=fun b e=>by rw [ya4,e]
   cases e:c (at' p k) (at' p ((l+r)/2)) with
   | true =>
    obtain ⟨a1,a2,a3,a4⟩:=zeg T P hk h f l ((l+r)/2) (by lia) (by lia) (by lia) h4 fun i hi hik=>by
     by_cases q:i=(l+r)/2
     .rw [q];exact e
     .exact T.tr _ _ _ l1 l2 (P.lt (by lia)) e (h _ _ (by lia) hik)
    rw [eo _ e,if_pos rfl];exact ⟨zcj l1 l2 (by rw [e,if_pos rfl];exact a1),a2,a3,a4⟩
   | false =>
    have e':c (at' p ((l+r)/2)) (at' p k)=true:=by rw [T.tot _ _ l1 l2 (P.ne (by lia) (by lia) (by lia)),e];rfl
    obtain ⟨a1,a2,a3,a4⟩:=zeg T P hk h f ((l+r)/2+1) r (by lia) h2 (by lia) (fun i hi=>by
     by_cases q:i=(l+r)/2
     .rw [q];exact e'
     .exact T.tr _ _ _ (P.lt (by lia)) l2 l1 (h _ _ (by lia) hm) e') h5
    rw [eo _ e,if_neg (by simp)];exact ⟨zcj l1 l2 (by rw [e,if_neg (by simp)];exact a1),a2,a3,a4⟩
theorem znk (T:Tot n c):∀ (f:Nat) (p:Array Nat) (k:Nat),Pm n p->1<=k->k+f=n->Asc c p k->kok n c (kas_bin f p k)=true/\Pm n (ya4 c (kas_bin f p k))/\Asc c (ya4 c (kas_bin f p k)) n
 | 0,p,k,P,_,hk,h=>⟨rfl,P,by have:k=n:=hk;rw [<- this];exact h⟩
 | f+1,p,k,P,h1,hk,h=>by
  obtain ⟨a1,a2,a3,a4⟩:=zeg T P (k:=k) (by lia) h k 0 k (zzp _) (zza _) (by lia) (fun i hi=>by lia) fun i hi hik=>by lia
  have er:kas_bin (f+1) p k=(kas_place p k k 0 k).bind fun l=>kas_bin f (bubble p k (k-l)) (k+1):=rfl;rw [er,zb6];generalize hl:ya4 c (kas_place p k k 0 k)=l at *;have P':Pm n (bubble p k (k-l)):=List.Perm.trans (Array.perm_iff_toList_perm.mp (bubble_perm p k (k-l))) P;have hs:=P.size;have g:∀ i,i<k+1->at' (bubble p k (k-l)) i=at' p (if i<l then i else if i=l then k else i-1):=fun i hi=>zxs (by
   rw [getElem?_bubble (by lia) (k-l) (by lia),show k-(k-l)=l by lia];by_cases q1:i=l
   .rw [if_pos q1,if_neg (by lia),if_pos q1]
   .rw [if_neg q1];by_cases q2:i<l
    .rw [if_neg (by lia),if_pos q2]
    .rw [if_pos (by lia),if_neg q2,if_neg q1])
  obtain ⟨b1,b2,b3⟩:=znk T f (bubble p k (k-l)) (k+1) P' (by lia) (by lia) fun i j hij hj=>by
   rw [g i (by lia),g j hj];by_cases q1:j<l
   .rw [if_pos q1,if_pos (by lia)];exact h i j hij (by lia)
   .rw [if_neg q1];by_cases q2:j=l
    .rw [if_pos q2,if_pos (by lia)];exact a3 i (by lia)
    .rw [if_neg q2];by_cases q3:i<l
     .rw [if_pos q3];exact h i (j-1) (by lia) (by lia)
     .rw [if_neg q3];by_cases q4:i=l
      .rw [if_pos q4];exact a4 (j-1) (by lia) (by lia)
      .rw [if_neg q4];exact h (i-1) (j-1) (by lia) (by lia)
  exact ⟨zcd _ a1 (by rw [hl];exact b1),b2,b3⟩
theorem zti (h2:2<=n) (T:Tot n c):kok n c (kas_sort n)=true/\Pm n (ya4 c (kas_sort n))/\(ya4 c (kas_sort n)).toList.Pairwise fun x y=>c x y=true:=by
 have P0:Pm n (List.toArray (List.range n)):=List.Perm.refl _;obtain ⟨a1,m,q,a2,a3,a4,a5,a6⟩:=zna T P0 h2;have er:kas_sort n=(kas_count n (List.toArray (List.range n))).bind fun r=>if r.1<n then kas_bin (n-max r.1 1) r.2 (max r.1 1) else .ret r.2:=rfl
 have pw:∀ {q:Array Nat},Pm n q->Asc c q n->q.toList.Pairwise fun x y=>c x y=true:=fun {q} P h=>by rw [List.pairwise_iff_getElem];intro i j hi hj hij;rw [zzt,P.size] at hi hj;have e:=h i j hij hj;have g1:=zhd (p:=q) (i:=i) (by rw [P.size];exact hi);have g2:=zhd (p:=q) (i:=j) (by rw [P.size];exact hj);rw [ub1 (by rw [P.size];exact hi)] at g1;rw [ub1 (by rw [P.size];exact hj)] at g2;rw [Array.getElem_toList,Array.getElem_toList,zzl g1,zzl g2];exact e
 rw [er,zb6,a2];show kok n c _=true/\Pm n (ya4 c (if m<n then kas_bin (n-max m 1) q (max m 1) else .ret q))/\(ya4 c (if m<n then kas_bin (n-max m 1) q (max m 1) else .ret q)).toList.Pairwise _;by_cases hm:m<n
 .rw [if_pos hm,show max m 1=m by lia];obtain ⟨b1,b2,b3⟩:=znk T (n-m) q m a5 a3 (by lia) a6;exact ⟨zcd _ a1 (by rw [a2];show kok n c (if m<n then _ else _)=true;rw [if_pos hm,show max m 1=m by lia];exact b1),b2,pw b2 b3⟩
 .rw [if_neg hm];obtain rfl:m=n:=by lia
  exact ⟨zcd _ a1 (by rw [a2];show kok m c (if m<m then _ else _)=true;rw [if_neg hm];rfl),a5,pw a5 a6⟩
end
theorem zdw {α:Type} {cmp:Nat->Nat->(Bool->Shared->Prop)->Shared->Prop} {c:Nat->Nat->Bool} {I:Shared->Prop} {n:Nat} (h:∀ i j C s,i<n->j<n->I s->(∀ s',I s'->C (c i j) s')->cmp i j C s) {Q:α->Shared->Prop} :
  ∀ (t:KasT α) (s:Shared),kok n c t=true->I s->(∀ s',I s'->Q (ya4 c t) s')->t.kasWp cmp Q s
 | .ret _,s,_,hi,q=>q s hi
 | .ask i j k,s,hk,hi,q=>by rw [kok,zy7,zy7,zz7,zz7] at hk;exact h i j _ s hk.1.1 hk.1.2 hi fun s' hi'=>zdw h (k (c i j)) s' hk.2 hi' q
theorem zmi {n:Nat} (h2:2<=n) {c:Nat->Nat->Bool} (tot:∀ i j,i<j->j<n->c j i=!c i j) (tr:∀ i j k,i<n->j<n->k<n->c i j=true->c j k=true->c i k=true) :
  kok n c (kas_sort n)=true/\(ya4 c (kas_sort n)).toList.length=n/\(∀ i,i<n->i∈(ya4 c (kas_sort n)).toList)/\(∀ i∈(ya4 c (kas_sort n)).toList,i<n)/\(ya4 c (kas_sort n)).toList.Pairwise fun x y=>c x y=true:=by
 obtain ⟨a,b,d⟩:=zti (c:=c) h2 ⟨fun i j hi hj hne=>by
  rcases Nat.lt_or_gt_of_ne hne with h | h
  .exact tot i j h hj
  .rw [tot j i h hi,Bool.not_not],tr⟩
 exact ⟨a,by rw [zzt];exact b.size,fun i hi=>(List.Perm.mem_iff b).mpr (List.mem_range.mpr hi),fun i hi=>List.mem_range.mp ((List.Perm.mem_iff b).mp hi),d⟩
end
section
open PySem W Spec PyProof.Rows L2
section
variable {prog:Program} {w:World} {A:Around} {E:Value->Shared->Prop} {s:Shared} {b:Bool} {Q:Bool->Shared->Prop}
theorem zsw {x y:Key} {v u:Value} (rx:RelV (kV x) v) (ry:RelV (kV y) u) (hs:yce x y=true) (c:Bool) (h:Q (kLt x y) s):wpAny (model prog w) A (oneLt' c v u) Q E s:=by
 match x,y,hs with
 | .inl i,.inl j,_ =>
  obtain ⟨t,rfl⟩:=rx;obtain ⟨t',rfl⟩:=ry;cases c with
  | true=>exact kat_lt_int h
  | false=>exact kat_one _ _ (PyProof.Rows.lt_int h)
 | .inr (some i),.inr (some j),_ =>
  obtain ⟨t,rfl⟩:=rx;obtain ⟨t',rfl⟩:=ry;cases c with
  | true=>exact oneLt_str h
  | false=>exact kat_one _ _ (PyProof.Rows.lt_str h)
theorem zw9 {x y:Key} {v u:Value} (rx:RelV (kV x) v) (ry:RelV (kV y) u) (hs:yce x y=true) (h:Q (decide (x=y)) s):wpAny (model prog w) A (eqBool v u) Q E s:=by
 match x,y,hs with
 | .inl i,.inl j,_ =>
  obtain ⟨t,rfl⟩:=rx;obtain ⟨t',rfl⟩:=ry;refine wpAny_eqBool_int ?_;have e:(i==j)=decide ((Sum.inl i:Key)=Sum.inl j):=by
   by_cases q:i=j
   .subst q;simp
   .simp [q]
  rw [e];exact h
 | .inr (some i),.inr (some j),_ =>
  obtain ⟨t,rfl⟩:=rx;obtain ⟨t',rfl⟩:=ry;refine wpAny_eqBool_str ?_;have e:decide (i=j)=decide ((Sum.inr (some i):Key)=Sum.inr (some j)):=by
   by_cases q:i=j
   .subst q;simp
   .simp [q]
  rw [e];exact h
theorem zi4:∀ (ks ls:List Key) (vs us:List Value) (i:Nat),Vals (ks.map kV) vs->Vals (ls.map kV) us->alike ks ls=true->Q (ybp ks ls) s->KatLex prog w A b false Q (vs.zip us) i s
 | [],[],vs,us,i,hv,hu,_,h=>by cases hv;exact kat_nil h
 | x::ks,y::ls,vs,us,i,hv,hu,ha,h=>by
  rw [alike,zy7] at ha;cases hv with
  | cons rx hv =>
   cases hu with
   | cons ry hu =>
    rw [List.zip_cons_cons];refine kat_cons (zw9 rx ry ha.1 ?_);rw [ybp] at h;by_cases e:x=y
    .rw [if_pos e] at h;rw [zzj e];exact kat_yes (zi4 ks ls _ _ (i+1) hv hu ha.2 h)
    .rw [if_neg e] at h;rw [zzk e];exact kat_no (zsw rx ry ha.1 _ h)
 | [],_::_,_,_,_,_,_,ha,_=>by cases ha
 | _::_,[],_,_,_,_,_,ha,_=>by cases ha
end
end
section
open PySem L2
theorem zrl {a b:Str} (h:a.cps.toList=b.cps.toList):a=b:=by obtain ⟨⟨a⟩⟩:=a;obtain ⟨⟨b⟩⟩:=b;cases (show a=b from h);rfl
theorem ztk (x:Key):kLt x x=false:=by
 rcases x with a | _ | a
 .exact zzk (Int.lt_irrefl a)
 .rfl
 .exact zzk (List.lt_irrefl _)
theorem ztj {x y:Key} (hs:yce x y=true) (hn:x≠y):kLt y x=!kLt x y:=by
 match x,y,hs with
 | .inl a,.inl b,_ =>
  have:a≠b:=fun e=>hn (by rw [e]);by_cases h:a<b
  .rw [show kLt (.inl b) (.inl a)=false from zzk (by lia),show kLt (.inl a) (.inl b)=true from zzj h];rfl
  .rw [show kLt (.inl b) (.inl a)=true from zzj (by lia),show kLt (.inl a) (.inl b)=false from zzk h];rfl
 | .inr (some a),.inr (some b),_ =>
  have hne:a.cps.toList≠b.cps.toList:=fun e=>hn (by rw [zrl e]);by_cases h:a.cps.toList<b.cps.toList
  .rw [show kLt (.inr (some b)) (.inr (some a))=false from zzk (List.lt_asymm h),show kLt (.inr (some a)) (.inr (some b))=true from zzj h];rfl
  .have:b.cps.toList<a.cps.toList:=by
    rcases Nat.lt_trichotomy 0 0 with z | z | z
    .lia
    .exact Classical.byContradiction fun q=>hne (List.le_antisymm (List.not_lt.mp q) (List.not_lt.mp h))
    .lia
   rw [show kLt (.inr (some b)) (.inr (some a))=true from zzj this,show kLt (.inr (some a)) (.inr (some b))=false from zzk h];rfl
theorem zwv {x y z:Key} (h1:kLt x y=true) (h2:kLt y z=true):kLt x z=true:=by
 match x,y,z with
 | .inl a,.inl b,.inl c=>exact zzj (Int.lt_trans (zAc h1) (zAc h2))
 | .inr (some a),.inr (some b),.inr (some c)=>exact zzj (List.lt_trans (zAc h1) (zAc h2))
 | .inl _,.inr _,_=>cases h1
 | .inr none,.inl _,_=>cases h1
 | .inr (some _),.inl _,_=>cases h1
 | .inl _,.inl _,.inr _=>cases h2
 | .inr (some _),.inr (some _),.inl _=>cases h2
 | .inr none,.inr _,_=>cases h1
 | .inr (some _),.inr none,_=>cases h1
 | .inr (some _),.inr (some _),.inr none=>cases h2
theorem zfs:∀ ks:List Key,ybp ks ks=false
 | []=>rfl
 | x::ks=>by rw [ybp,if_pos rfl];exact zfs ks
theorem zd5:∀ {ks ls:List Key},alike ks ls=true->ks≠ls->ybp ls ks=!ybp ks ls
 | [],[],_,h=>absurd rfl h
 | x::ks,y::ls,ha,h=>by
  rw [alike,zy7] at ha;rw [ybp,ybp];by_cases e:x=y
  .subst e;rw [if_pos rfl,if_pos rfl];exact zd5 ha.2 fun q=>h (by rw [q])
  .rw [if_neg e,if_neg (Ne.symm e)];exact ztj ha.1 e
 | [],_::_,ha,_=>by cases ha
 | _::_,[],ha,_=>by cases ha
theorem zhx:∀ {a b c:List Key},alike a b=true->alike b c=true->ybp a b=true->ybp b c=true->ybp a c=true
 | x::a,y::b,z::c,h1,h2,l1,l2=>by
  rw [alike,zy7] at h1 h2;rw [ybp] at l1 l2 ⊢;by_cases e1:x=y
  .subst e1;rw [if_pos rfl] at l1;by_cases e2:x=z
   .subst e2;rw [if_pos rfl] at l2 ⊢;exact zhx h1.2 h2.2 l1 l2
   .rw [if_neg e2] at l2 ⊢;exact l2
  .rw [if_neg e1] at l1;by_cases e2:y=z
   .subst e2;rw [if_neg e1];exact l1
   .rw [if_neg e2] at l2;have l3:=zwv l1 l2;by_cases e3:x=z
    .subst e3;rw [ztk] at l3;cases l3
    .rw [if_neg e3];exact l3
 | [],_,_,_,_,l1,_=>by simp [ybp] at l1
 | _::_,[],_,_,_,l1,_=>by cases l1
 | _::_,_::_,[],_,_,_,l2=>by cases l2
end
section
open PySem W Spec PyProof.Rows L2
theorem zhz {prog:Program} {w:World} {A:Around} {s:Shared} {b:Bool} {vs:List Value} {kss:List (List Key)} {Q:Array Nat->Shared->Prop} (hl:vs.length=kss.length) (h2:2<=kss.length) (nd:kss.Nodup)
  (al:∀ x∈kss,∀ y∈kss,alike x y=true)
  (hp:∀ i,i<kss.length->∃ a o qc n,vs.getD i .none=.ref a/\s.heap.get? a=some o/\o.data=.seq qc n/\Vals ((kss.getD i []).map kV) qc.toList)
  (q:∀ p:Array Nat,p.toList.length=kss.length->(∀ i,i<kss.length->i∈p.toList)->(∀ i∈p.toList,i<kss.length)->(p.toList.Pairwise fun i j=>ybp (kss.getD i []) (kss.getD j [])=true)->Q p s) :
  (kas_sort vs.length).kasWp (kas_ask prog w A (tuples' b) vs) Q s:=by
 rw [hl];have mem:∀ i,i<kss.length->kss.getD i []∈kss:=fun i hi=>by rw [zzf,zy5 hi];exact ua5 hi
 have inj:∀ i j,i<kss.length->j<kss.length->kss.getD i []=kss.getD j []->i=j:=fun i j hi hj e=>by rw [zzf,zzf,zy5 hi,zy5 hj] at e;exact (List.getElem_inj nd).mp e
 have T:=zmi (c:=fun i j=>ybp (kss.getD i []) (kss.getD j [])) h2 (fun i j hij hj=>zd5 (al _ (mem i (by lia)) _ (mem j hj)) fun e=>by have:=inj i j (by lia) hj e;lia)
  fun i j k hi hj hk=>zhx (al _ (mem i hi) _ (mem j hj)) (al _ (mem j hj) _ (mem k hk))
 refine zdw (n:=kss.length) (c:=fun i j=>ybp (kss.getD i []) (kss.getD j [])) (I:=fun s'=>s'=s) (fun i j C s' hi hj hs hC=>?_) _ s T.1 rfl (fun s' hs=>by subst hs;exact q _ T.2.1 T.2.2.1 T.2.2.2.1 T.2.2.2.2);subst hs;obtain ⟨a,o,qc,n,e1,e2,e3,e4⟩:=hp i hi;obtain ⟨a',o',its',n',f1,f2,f3,f4⟩:=hp j hj;show wpAny (model prog w) A (keyLt' (tuples' b) (vs.getD i .none) (vs.getD j .none)) C (fun _ _=>False) s';rw [e1,f1];have hz:decide (qc.size<its'.size)=false:=by
  have l1:=e4.length;have l2:=f4.length;have l3:∀ {x y:List Key},alike x y=true->x.length=y.length:=fun {x}=>by
   induction x with
   | nil=>intro y h;cases y with | nil=>rfl | cons _ _=>cases h
   | cons p x ih=>intro y h;cases y with | nil=>cases h | cons r y=>rw [alike,Bool.and_eq_true] at h;simp [ih h.2]
  have:=l3 (al _ (mem i hi) _ (mem j hj));rw [zy3] at l1 l2;have s1:qc.toList.length=qc.size:=zzt;have s2:its'.toList.length=its'.size:=zzt;exact zzk (by rw [<- s1,<- s2,<- l1,<- l2,this];exact zz3 _)
 refine kat_lt e2 e3 f2 f3 ?_;rw [hz];exact zi4 _ _ _ _ 0 e4 f4 (al _ (mem i hi) _ (mem j hj)) (hC s' rfl)
end
section
open PySem L2
variable {l:List (List Kt)}
theorem zfr {x k:List Kt}:∀ {l:List (List Kt)},x∈ycd k l↔x=k\/x∈l
 | []=>by simp [ycd]
 | y::r=>by
  rw [ycd];split
  .simp
  .rw [ua1,zfr (l:=r),ua1];constructor
   .rintro (h | h | h)
    .exact .inr (.inl h)
    .exact .inl h
    .exact .inr (.inr h)
   .rintro (h | h | h)
    .exact .inr (.inl h)
    .exact .inl h
    .exact .inr (.inr h)
theorem zbi {x:List Kt}:∀ {l:List (List Kt)},x∈yav l↔x∈l
 | []=>by simp [yav]
 | y::r=>by rw [yav,zfr,zbi (l:=r),ua1]
theorem zi5 (k:List Kt):∀ l:List (List Kt),(ycd k l).length=l.length+1
 | []=>rfl
 | y::r=>by
  rw [ycd];split
  .rfl
  .rw [zzb,zi5 k r,zzb]
theorem zgs:∀ l:List (List Kt),(yav l).length=l.length
 | []=>rfl
 | y::r=>by rw [yav,zi5,zgs r,zzb]
theorem zk8 {k:List Kt}:∀ {l:List (List Kt)},(∀ x∈l,alike k x=true/\alike x k=true/\k≠x)->(∀ x∈l,∀ y∈l,alike x y=true)->(l.Pairwise fun x y=>ybp x y=true)->(ycd k l).Pairwise fun x y=>ybp x y=true
 | [],_,_,_=>by simp [ycd]
 | x::r,ha,hb,hp=>by
  rw [ycd];obtain ⟨h1,h2⟩:=ud2.mp hp;split
  .rename_i hk;refine ud2.mpr ⟨fun y hy=>?_,hp⟩;rcases omc hy with rfl | hy
   .exact hk
   .exact zhx (ha x (.head _)).1 (hb x (.head _) y (.tail _ hy)) hk (h1 y hy)
  .rename_i hk;refine ud2.mpr ⟨fun y hy=>?_,zk8 (fun z hz=>ha z (.tail _ hz)) (fun z hz u hu=>hb z (.tail _ hz) u (.tail _ hu)) h2⟩;rcases zfr.mp hy with rfl | hy
   .have:=zd5 (ha x (.head _)).1 (ha x (.head _)).2.2;rw [this];cases h:ybp y x with
    | true=>exact absurd h hk
    | false=>rfl
   .exact h1 y hy
theorem zin:∀ {l:List (List Kt)},l.Nodup->(∀ x∈l,∀ y∈l,alike x y=true)->(yav l).Pairwise fun x y=>ybp x y=true
 | [],_,_=>by simp [yav]
 | k::r,nd,ha=>by rw [yav];obtain ⟨h1,h2⟩:=ua6.mp nd;refine zk8 (fun x hx=>?_) (fun x hx y hy=>ha x (.tail _ (zbi.mp hx)) y (.tail _ (zbi.mp hy))) (zin h2 fun x hx y hy=>ha x (.tail _ hx) y (.tail _ hy));have hx:=zbi.mp hx;exact ⟨ha k (.head _) x (.tail _ hx),ha x (.tail _ hx) k (.head _),fun e=>h1 (by rw [e];exact hx)⟩
theorem zk6:∀ {l m:List (List Kt)},(∀ x,x∈l↔x∈m)->(∀ x∈l,∀ y∈l,alike x y=true)->(l.Pairwise fun x y=>ybp x y=true)->(m.Pairwise fun x y=>ybp x y=true)->l=m
 | [],[],_,_,_,_=>rfl
 | [],y::m,h,_,_,_=>absurd ((h y).mpr (.head _)) (by simp)
 | x::l,[],h,_,_,_=>absurd ((h x).mp (.head _)) (by simp)
 | x::l,y::m,h,ha,p1,p2=>by
  obtain ⟨a1,a2⟩:=ud2.mp p1;obtain ⟨b1,b2⟩:=ud2.mp p2;have e:x=y:=by refine Classical.byContradiction fun hne=>?_;have hx:x∈m:=(omc ((h x).mp (.head _))).resolve_left hne;have hy:y∈l:=(omc ((h y).mpr (.head _))).resolve_left (Ne.symm hne);have:=zd5 (ha x (.head _) y (.tail _ hy)) hne;rw [a1 y hy,b1 x hx] at this;cases this
  subst e;have ne1:∀ z∈l,z≠x:=fun z hz e=>by subst e;have:=a1 z hz;rw [zfs] at this;cases this
  have ne2:∀ z∈m,z≠x:=fun z hz e=>by subst e;have:=b1 z hz;rw [zfs] at this;cases this
  rw [zk6 (l:=l) (m:=m) (fun z=>⟨fun hz=>(omc ((h z).mp (.tail _ hz))).resolve_left (ne1 z hz),fun hz=>(omc ((h z).mpr (.tail _ hz))).resolve_left (ne2 z hz)⟩) (fun z hz u hu=>ha z (.tail _ hz) u (.tail _ hu)) a2 b2]
theorem zjw {r:List (List Kt)} (h:yd2 l=some r):l.length<=60/\l.Nodup/\(∀ x∈l,x≠[]/\∀ y∈l,alike x y=true)/\r=yav l:=by
 unfold yd2 at h;split at h
 .rename_i hc;obtain ⟨c1,c2,c3⟩:=hc;cases h;refine ⟨c1,c2,fun x hx=>?_,rfl⟩;have:=oml c3 x hx;rw [zy7] at this;refine ⟨fun e=>?_,fun y hy=>oml this.2 y hy⟩;rw [e] at this;exact absurd this.1 (by simp)
 .cases h
theorem yez (nd:l.Nodup) (al:∀ x∈l,∀ y∈l,alike x y=true) {p:List Nat} (h1:∀ i,i<l.length->i∈p) (h2:∀ i∈p,i<l.length) (h3:p.Pairwise fun i j=>ybp (l.getD i []) (l.getD j [])=true) :
  yav l=p.map fun i=>l.getD i []:=by
 have mem:∀ i,i<l.length->l.getD i []∈l:=fun i hi=>by rw [zzf,zy5 hi];exact ua5 hi
 refine zk6 (fun x=>?_) (fun x hx y hy=>al x (zbi.mp hx) y (zbi.mp hy)) (zin nd al) (List.pairwise_map.mpr h3);rw [zbi,ua0];constructor
 .intro hx;obtain ⟨i,hi,rfl⟩:=List.getElem_of_mem hx;exact ⟨i,h1 i hi,by rw [zzf,zy5 hi];rfl⟩
 .rintro ⟨i,hi,rfl⟩;exact mem i (h2 i hi)
end
section
open PySem W Spec PyProof.Rows L2
variable {Q:Option Value->Shared->Prop}
def RawD (g:Heap) (d:Addr) (en:Array DictEntry) (ep:Nat):Prop:=∃ o,g.get? d=some o/\o.ExactDict/\o.data=.dict en ep
section
variable {prog:Program} {w:World} {A:Around} {E:Value->Shared->Prop} {s:Shared} {d j:Addr} {en:Array DictEntry} {ep i:Nat}
theorem RawD.ty (r:RawD s.heap d en ep):s.TypeIs (.ref d) "dict":=let ⟨o,a,b,_⟩:=r;⟨o,a,b.1⟩
theorem RawD.to {g g':Heap} (r:RawD g d en ep) (k:∀ o,g.get? d=some o->g'.get? d=some o):RawD g' d en ep:=let ⟨o,a,b⟩:=r;⟨o,k o a,b⟩
theorem zof {Q:Value->Shared->Prop} (hm:(d==sysModules)=false) (r:RawD s.heap d en ep)
  (q:Q (.ref s.heap.objs.size) { s with heap:=s.heap.push { cls:=.type "dict_keyiterator",data:=.fields #[.ref d,.int 0 0,.int en.size 0,.int ep 0] } }):wpAny (model prog w) A (pyIter (.ref d)) Q E s:=by
 obtain ⟨o,a,b,c⟩:=id r;refine wpAny_pyIter_slot r.ty PySem.F.slot_dict_iter (zz5 PySem.F.slot_dict_iter r.ty PySem.F.entry_dict_iter ?_ (PySem.F.args_dict_iter_1 _));unfold Builtin.«dict.__iter__»;refine zy2 ?_;unfold Builtin.Dict.dictSlotNone;refine zy2 (wpAny_notOrdered_dict r.ty ?_);show wpAny _ _ (pure (Value.ref d)) _ _ s;refine zy9 (show wpAny _ _ (Builtin.Dict.showsAll d >>= _) _ _ s from ?_);unfold Builtin.Dict.showsAll;rw [if_neg (by rw [hm];exact zzx)];refine zy2 (zy9 (zy2 (uc6 a c (zy2 (wpAny_dictEpoch a c ?_)))));refine zy2 (zz4 (zy9 ⟨_,rfl, "dict_keyiterator",_,⟨_,zy8 _ rfl,rfl⟩,PySem.F.slot_dict_keyiterator_next.lookup,?_⟩));simpa [rawInt] using q
theorem zoe (t:s.heap.IsKeyIter j d i en.size ep) (r:RawD s.heap d en ep) (hi:i<en.size)
  (q:∀ g,g.IsKeyIter j d (i+1) en.size ep->Heap.SameBut j s.heap g->Q (some en[i].key) { s with heap:=g }):wpAny (model prog w) A (pyNext (.ref j)) Q E s:=by
 obtain ⟨o,a,b,c⟩:=id t;obtain ⟨od,ad,bd,cd⟩:=id r;unfold pyNext;refine zy2 (wpAny_attempt (zz1 (name:=Str.ofString "__next__") t.typeIs PySem.F.slot_dict_keyiterator_next (zz5 PySem.F.slot_dict_keyiterator_next t.typeIs PySem.F.entry_dict_keyiterator_next ?_ (PySem.F.args_dict_keyiterator_next_1 _))));refine zy2 (zy9 (zy2 (zy2 ?_)))
 first | refine zy2 (uc8 t.typeIs (zy9 (zy2 (ud0 a c ?_)))) | refine zy2 (wpAny_typeNameOf_keyiter t.typeIs (zy9 (zy2 (ud0 a c ?_))))
 simp only [show Builtin.Dict_items.ownsTuple "dict_keyiterator"=false by decide,zAb,if_false];refine (show wpAny _ _ (if (Value.ref d==Value.none)=true then _ else _) _ _ s from ?_);rw [if_neg (show ¬ ((Value.ref d==Value.none)=true) from zzx)];refine zy2 (zy9 (zy2 (uc6 ad cd ?_)));rw [if_neg (by simp)];refine zy2 (zy9 (zy2 (wpAny_dictEpoch ad cd ?_)));rw [if_neg (by simp)];refine zy9 ?_;simp only [show ¬ ((i:Int)<0) from by lia,if_false,Int.toNat_natCast,Array.getElem?_eq_getElem hi];refine zy2 ?_
 first | refine zy2 (uc8 t.typeIs (zy9 (zy2 (wpAny_isOneOf_keyiter t.typeIs ?_)))) | refine zy2 (wpAny_typeNameOf_keyiter t.typeIs (zy9 (zy2 (wpAny_isOneOf_keyiter t.typeIs ?_))))
 refine (show wpAny _ _ (setField (.ref j) 1 (rawInt ((i:Int)+1)) >>= _) _ _ s from wpAny_bind (wpAny_setField a c (by simp) ?_));have t':(s.heap.update j (Obj.mapFields (·.setIfInBounds 1 (rawInt ((i:Int)+1))))).IsKeyIter j d (i+1) en.size ep :=
  ⟨_,Heap.get?_update_self _ a (Obj.isFreed_of_fields (ud4 c _)),(Obj.cls_mapFields ..).trans b,by rw [ud4 c];simp [rawInt]⟩
 refine zy2 (uc1 (zy2 (wpAny_isOneOf_keyiter (s:={ s with heap:=s.heap.update j (Obj.mapFields (·.setIfInBounds 1 (rawInt ((i:Int)+1)))) }) t'.typeIs ?_)));show wpAny _ _ (pure en[i].key) _ _ _;exact zy9 (zy9 ⟨_,rfl,zy9 (q _ t' (ub2 ..))⟩)
theorem zr2 (hh:A.handled=none) (t:s.heap.IsKeyIter j d en.size en.size ep) (r:RawD s.heap d en ep) (q:∀ g,Heap.ExtBut j s.heap g->Q none { s with heap:=g }):wpAny (model prog w) A (pyNext (.ref j)) Q E s:=by
 obtain ⟨o,a,b,c⟩:=id t;obtain ⟨od,ad,bd,cd⟩:=id r;unfold pyNext;refine zy2 (wpAny_attempt (zz1 (name:=Str.ofString "__next__") t.typeIs PySem.F.slot_dict_keyiterator_next (zz5 PySem.F.slot_dict_keyiterator_next t.typeIs PySem.F.entry_dict_keyiterator_next ?_ (PySem.F.args_dict_keyiterator_next_1 _))));refine zy2 (zy9 (zy2 (zy2 ?_)))
 first | refine zy2 (uc8 t.typeIs (zy9 (zy2 (ud0 a c ?_)))) | refine zy2 (wpAny_typeNameOf_keyiter t.typeIs (zy9 (zy2 (ud0 a c ?_))))
 simp only [show Builtin.Dict_items.ownsTuple "dict_keyiterator"=false by decide,zAb,if_false];refine (show wpAny _ _ (if (Value.ref d==Value.none)=true then _ else _) _ _ s from ?_);rw [if_neg (show ¬ ((Value.ref d==Value.none)=true) from zzx)];refine zy2 (zy9 (zy2 (uc6 ad cd ?_)));rw [if_neg (by simp)];refine zy2 (zy9 (zy2 (wpAny_dictEpoch ad cd ?_)));rw [if_neg (by simp)];refine zy9 ?_;simp only [show ¬ ((en.size:Int)<0) from by lia,if_false,Int.toNat_natCast,Array.getElem?_eq_none (Nat.le_refl en.size)];refine zy2 ?_
 first | refine zy2 (uc8 t.typeIs (zy9 ?_)) | refine zy2 (wpAny_typeNameOf_keyiter t.typeIs (zy9 ?_))
 refine (show wpAny _ _ (setField (.ref j) 0 .none >>= _) _ _ s from wpAny_bind (wpAny_setField a c (by simp) ?_));refine (show wpAny _ _ (newExc (.type "StopIteration") [] >>= _) _ _ _ from zy2 ?_);simp only [newExc,newTuple];refine zy2 (zz4 ?_ (by size_fits));refine wpAny_bind (m:=firstArgMember _ _) (wpAny_of_eq (a:=Value.none) (by first | rfl | (simp only [firstArgMember];rfl)) (wpAny_newObj_type ?_ (by size_fits)));simp only [raiseNew];refine zy2 (wpAny_handled ?_);rw [show A.in1.handled=none from hh];refine zy2 (zy9 (wpAny_throw ?_));exact zy2 (wpAny_isInstance (T:="StopIteration") (b:=true) ⟨_,zy8 _ rfl,rfl⟩ isSubtype_stop (zy9 (q _ (((ub2 ..).extBut.push _).push _))))
theorem zk4 (hh:A.handled=none) (j d:Addr) (hne:d≠j) (en:Array DictEntry) (ep:Nat) :
  Walks prog w A j [j,d] [j] en.size (fun i v=>∃ e,en[i]?=some e/\v=e.key) (fun i h=>h.IsKeyIter j d i en.size ep/\RawD h d en ep) where
 sub:=fun b hb=>by simp at hb;simp [hb]
 frame:=fun _ _ _ st hk=>⟨st.1.at fun o e=>hk j (by simp) o e,st.2.to fun o e=>hk d (by simp) o e⟩
 item:=fun i s Q E hi st hQ=>zoe st.1 st.2 hi fun g t' hs=>hQ _ g s.toks ⟨en[i],by simp [hi],rfl⟩ ⟨t',st.2.to fun o e=>hs.extBut d o hne e⟩ fun b o hb e=>hs.extBut b o (fun h=>hb (by simp [h])) e
 done:=fun s Q E st hQ=>zr2 hh st.1 st.2 fun g he=>hQ g s.toks fun b o hb e=>he b o (fun h=>hb (by simp [h])) e
 self:=fun _ _ _ _ st hQ=>wpAny_pyIter_keyiter st.1 hQ
theorem zr0 (lo:(d==sysModules)=false):KdlSrc prog w "dict" d d en.size (fun i v=>∃ e,en[i]?=some e/\v=e.key) (fun h=>RawD h d en ep) where
 type:=fun _ r=>r.ty
 there:=fun _ r=>⟨let ⟨_,a,_⟩:=r;zzd a,let ⟨_,a,_⟩:=r;zzd a⟩
 keep:=fun _ _ r hk=>r.to fun o e=>hk d (.inl rfl) o e
 notList:=by decide
 notTuple:=by decide
 hint:=fun _ _ _ _ r hq=>kdl_hint_dict r.ty hq
 iter:=fun _ s hh r=>⟨_,_,(fun _ _ hq=>zof lo r hq),zk4 hh _ d (zzo (let ⟨_,a,_⟩:=r;zzd a)) en ep,⟨⟨_,zy8 _ rfl,rfl,rfl⟩,r.to fun o e=>zyz _ e⟩⟩
end
end
section
open PySem W Spec PyProof.Rows L2
variable {g:Heap} {vs:List Value} {a:Addr}
def KTup (g:Heap) (v:Value) (k:List Key):Prop:=∃ a o qc n,v=.ref a/\g.get? a=some o/\o.cls=.type "tuple"/\o.data=.seq qc n/\Vals (k.map kV) qc.toList
theorem KTup.to {g':Heap} {v:Value} {k:List Key} (h:KTup g v k) (q:∀ a o,v=.ref a->g.get? a=some o->g'.get? a=some o):KTup g' v k :=
 let ⟨a,o,qc,n,e,h1,h2⟩:=h;⟨a,o,qc,n,e,q a o e h1,h2⟩
abbrev KTups (g:Heap):List Value->List (List Key)->Prop:=Paired (KTup g)
theorem KTups.get {g:Heap}:∀ {vs:List Value} {ks:List (List Key)},KTups g vs ks->∀ i,i<ks.length->KTup g (vs.getD i .none) (ks.getD i [])
 | _,_,.nil,i,h=>by simp at h
 | _,_,.cons r t,0,_=>by simpa using r
 | _,_,.cons r t,i+1,h=>by simpa using KTups.get t i (by simpa using h)
theorem KTups.to {g g':Heap}:∀ {vs:List Value} {ks:List (List Key)},KTups g vs ks->(∀ a o,g.get? a=some o->Value.ref a∈vs->g'.get? a=some o)->KTups g' vs ks
 | _,_,.nil,_=>.nil
 | _,_,.cons r t,q=>.cons (r.to fun a o e h=>q a o h (by rw [e];exact .head _)) (KTups.to t fun a o h m=>q a o h (.tail _ m))
theorem KTups.len {ks:List (List Key)} (h:KTups g vs ks):vs.length=ks.length:=Paired.length h
theorem zkh:∀ vs:List Value,(vs.zip vs).map (·.2)=vs
 | []=>rfl
 | v::vs=>by rw [List.zip_cons_cons,zy1,zkh vs]
theorem zng {α:Type} (d:α) (l:List α):l=(List.range l.length).map fun i=>l.getD i d:=by
 apply List.ext_getElem?;intro i;rw [zzr];by_cases hi:i<l.length
 .rw [List.getElem?_range hi,zy5 hi];simp [List.getD_eq_getElem?_getD,hi]
 .rw [ud7 (by simpa using hi),ud7 (by simpa using hi)];rfl
def tyK:Key->Value
 | .inl _=>.type "int"
 | .inr (some _)=>.type "str"
 | .inr none=>.type "NoneType"
theorem zrc (k:Key):(tyK k==tyK k)=true:=by
 rcases k with _ | _ | _
 .show (Value.type "int"==Value.type "int")=true;decide
 .show (Value.type "NoneType"==Value.type "NoneType")=true;decide
 .show (Value.type "str"==Value.type "str")=true;decide
theorem znx {a b:Key} (h:yce a b=true):tyK a=tyK b:=by rcases a with a | _ | a<;>rcases b with b | _ | b<;>first | rfl | cases h
section
variable {prog:Program} {w:World} {A:Around} {E:Value->Shared->Prop} {s:Shared}
theorem zl3 {M:Model} {k:Key} {v:Value} (r:RelV (kV k) v):Looks M g (typeOf v) (tyK k):=by
 rcases k with i | _ | x
 .obtain ⟨t,rfl⟩:=r;exact .now
 .cases r;exact .now
 .obtain ⟨t,rfl⟩:=r;exact .now
theorem yei {g:Heap} {k0:Key}:∀ {vs:List Value} {ks:List (List Key)},KTups g vs ks->(∀ k∈ks,∃ a r,k=a::r/\yce k0 a=true)->∃ fs,KatTups g vs fs/\fs.length=ks.length/\∀ v∈fs,∃ a,RelV (kV a) v/\tyK a=tyK k0
 | _,_,.nil,_=>⟨[],KatTups.nil,rfl,fun _ h=>nomatch h⟩
 | _,k::ks,.cons r t,h=>by
  obtain ⟨a,o,qc,n,e,h1,h2,h3,h4⟩:=r;obtain ⟨b,q,rfl,hb⟩:=h k (.head _);obtain ⟨fs,f1,f2,f3⟩:=yei t fun k hk=>h k (.tail _ hk);rw [zy1] at h4;cases hi:qc.toList with
  | nil=>rw [hi] at h4;cases h4
  | cons u us =>
   rw [hi] at h4;cases h4 with
   | cons r0 _ =>
    subst e;refine ⟨u::fs,KatTups.cons h1 h2 h3 ?_ f1,by simp [f2],fun v hv=>?_⟩
    .have:qc.toList[0]?=some u:=by rw [hi];rfl
     rwa [zz9] at this
    .rcases omc hv with rfl | hv
     .exact ⟨b,r0,(znx hb).symm⟩
     .exact f3 v hv
theorem zez {n:Nat} {kss:List (List Key)} {P:PySem.Fin->Shared->Prop} (ho:s.heap.get? a=some (seqObj "list" vs.toArray n)) (hk:KTups s.heap vs kss) (ha':Value.ref a∉vs) (h5:kss.length<=60) (nd:kss.Nodup) (al:∀ x∈kss,x≠[]/\∀ y∈kss,alike x y=true)
  (h:∀ (out:List Value) (p:List Nat),(∀ i∈p,i<kss.length)->out=p.map (fun i=>vs.getD i .none)->yav kss=p.map (fun i=>kss.getD i [])->P (.done (.ret .none)) { s with heap:=sortedHeap s.heap a vs out.toArray }) :
  wpAny (model prog w) A (Builtin.«list.sort» ⟨[.ref a],[]⟩) P E s:=by
 rw [list_sort_plain];have hl:=hk.len;have ha:a<s.heap.objs.size:=zzd ho;have hz:vs.toArray.size<=sizeLine:=by rw [zy6,ub4];lia
 refine zy2 (listItems_at ho rfl (zy2 (listUpdate_at ho rfl ?_ hz (zzp _))));obtain ⟨e1,ho1⟩:∃ e1,(s.heap.update a (Obj.mapSeq fun _=>#[])).get? a=some (seqObj "list" #[] e1):=⟨_,get?_update_seq ho (fun _=>#[])⟩;refine zy2 (seqEpoch_at ho1 rfl (zy2 (wpAny_newTuple ?_ (by show vs.length<=_;rw [ub4];lia))));refine zy2 (wpAny_newList (uc1 ?_) (zzp _));have ho6:(((s.heap.update a (Obj.mapSeq fun _=>#[])).push (seqObj "tuple" vs.toArray 0)).push (seqObj "list" #[] 0)).get? a=some (seqObj "list" #[] e1):=zyz _ (zyz _ ho1);have kp:∀ b o,b≠a->s.heap.get? b=some o->(((s.heap.update a (Obj.mapSeq fun _=>#[])).push (seqObj "tuple" vs.toArray 0)).push (seqObj "list" #[] 0)).get? b=some o:=fun b o hb e =>zyz _ (zyz _ (by rw [uc7 _ _ _ _ hb];exact e));have hk':KTups (((s.heap.update a (Obj.mapSeq fun _=>#[])).push (seqObj "tuple" vs.toArray 0)).push (seqObj "list" #[] 0)) vs kss:=hk.to fun b o e m=>kp b o (fun z=>ha' (by rw [<- z];exact m)) e;show wpAny (model prog w) A _ P E { s with heap:=((s.heap.update a (Obj.mapSeq fun _=>#[])).push (seqObj "tuple" vs.toArray 0)).push (seqObj "list" #[] 0) };dsimp only;by_cases h2:vs.toArray.size<2
 .rw [if_pos h2,if_pos h2];refine zy2 (zy9 ?_);rw [StateT.run_pure];refine zy2 (zy9 ?_);dsimp only;refine zy2 (seqEpoch_at ho6 rfl ?_);have eo:(arrOf (SortSt.mk' general' (vs.toArray.zip vs.toArray) #[] 7 none)).map (·.2)=vs.toArray:=by show (vs.toArray.zip vs.toArray).map (·.2)=vs.toArray;apply Array.toList_inj.mp;rw [Array.toList_map,Array.toList_zip];exact zkh vs
  rw [eo];refine zy2 (listUpdate_at ho6 rfl ?_ (zzp _) (by show vs.toArray.size<=_;lia));simp only [bne_self_eq_false,Bool.false_eq_true,if_false];have hv2:vs.length<2:=by simpa using h2
  have er:vs=(List.range kss.length).map fun i=>vs.getD i .none:=by rw [<- hl];exact zng _ vs
  have es:yav kss=(List.range kss.length).map fun i=>kss.getD i []:=by
   match kss,hl with
   | [],_=>rfl
   | [k],_=>rfl
   | _::_::_,q=>rw [q] at hv2;simp at hv2;lia
  have:=h vs (List.range kss.length) (fun i hi=>by simpa using hi) er es;exact zy9 this
 .rw [if_neg h2,if_neg h2];have hn2:2<=kss.length:=by rw [zy6] at h2;lia
  obtain ⟨k0,hk0⟩:∃ k0:Key,∀ k∈kss,∃ b r,k=b::r/\yce k0 b=true:=by
   cases hks:kss with
   | nil=>rw [hks] at hn2;simp at hn2
   | cons x r =>
    have hx:x∈kss:=by rw [hks];exact .head _
    cases x with
    | nil=>exact absurd rfl (al _ hx).1
    | cons k0 x =>
     refine ⟨k0,fun k hk=>?_⟩;have q:=(al _ hx).2 k (by rw [hks];exact hk);cases k with
     | nil=>cases q
     | cons b r =>rw [alike,zy7] at q;exact ⟨b,r,rfl,q.1⟩
  obtain ⟨fs,f1,f2,f3⟩:=yei hk' hk0;refine zy2 (kat_kind (T:=tyK k0) f1 (by rw [f2];lia) (fun v hv=>by obtain ⟨b,r,e⟩:=f3 v hv;rw [<- e];exact zl3 r) (zrc k0) ?_);have ask:=zhz (prog:=prog) (w:=w) (A:=A) (s:={ s with heap:=((s.heap.update a (Obj.mapSeq fun _=>#[])).push (seqObj "tuple" vs.toArray 0)).push (seqObj "list" #[] 0) }) (b:=tyK k0 != Value.type "tuple") (vs:=vs) (kss:=kss)
   (Q:=fun p s'=>s'={ s with heap:=((s.heap.update a (Obj.mapSeq fun _=>#[])).push (seqObj "tuple" vs.toArray 0)).push (seqObj "list" #[] 0) }/\(∀ i∈p.toList,i<kss.length)/\yav kss=p.toList.map fun i=>kss.getD i []) hl hn2 nd (fun x hx y hy=>(al x hx).2 y hy)
   (fun i hi=>by obtain ⟨b,o,qc,m,e,g1,g2,g3,g4⟩:=hk'.get i hi;exact ⟨b,o,qc,m,e,g1,g3,g4⟩)
   (fun p p1 p2 p3 p4=>⟨rfl,p3,yez nd (fun x hx y hy=>(al x hx).2 y hy) p2 p3 p4⟩)
  refine zy2 (wpAny_mono (kat_run (Q:=fun st' s'=>∃ p:Array Nat,p.size=vs.length/\arrOf st'=p.map (kas_item (vs.toArray.zip vs.toArray))/\failedOf st'=none/\s'={ s with heap:=((s.heap.update a (Obj.mapSeq fun _=>#[])).push (seqObj "tuple" vs.toArray 0)).push (seqObj "list" #[] 0) }/\(∀ i∈p.toList,i<kss.length)/\yav kss=p.toList.map fun i=>kss.getD i [])
   rfl (by lia) (by lia) (fun p' st' s' a1 a2 a3 a4=>⟨p',a1,a2,a3,a4⟩) ask) ?_ fun _ _ e=>e)
  rintro ⟨⟨⟩,st'⟩ s' ⟨p,hp,har,hf,rfl,p1,p2⟩;dsimp only;have hout:=kat_snds rfl har;refine zy2 (seqEpoch_at ho6 rfl ?_);rw [hout];refine zy2 (listUpdate_at ho6 rfl ?_ (zzp _) (by show (List.toArray _).size<=_;rw [zy6,zy3,zzt,hp,ub4];lia));rw [hf];simp only [bne_self_eq_false,Bool.false_eq_true,if_false];exact zy9 (h _ p.toList p1 rfl p2)
theorem zks {n:Nat} (ho:g.get? a=some (seqObj "list" vs.toArray n)) (out:Array Value):∃ c,(sortedHeap g a vs out).get? a=some (seqObj "list" out c):=by obtain ⟨e1,ho1⟩:∃ e1,(g.update a (Obj.mapSeq fun _=>#[])).get? a=some (seqObj "list" #[] e1):=⟨_,get?_update_seq ho (fun _=>#[])⟩;have ho6:(((g.update a (Obj.mapSeq fun _=>#[])).push (seqObj "tuple" vs.toArray 0)).push (seqObj "list" #[] 0)).get? a=some (seqObj "list" #[] e1):=zyz _ (zyz _ ho1);exact ⟨_,get?_update_seq ho6 fun _=>out⟩
theorem zhi {out:Array Value} {b:Addr} {o:Obj} (hb:b≠a) (e:g.get? b=some o):(sortedHeap g a vs out).get? b=some o:=by unfold sortedHeap;rw [uc7 _ _ _ _ hb];exact zyz _ (zyz _ (by rw [uc7 _ _ _ _ hb];exact e))
theorem zqh {g:Heap}:∀ {vs:List Value} {ks:List (List Key)},KTups g vs ks->∀ b,Value.ref b∈vs->b<g.objs.size
 | _,_,.nil,_,h=>nomatch h
 | _,_,.cons r t,b,h=>by
  rcases omc h with e | h
  .obtain ⟨a,o,_,_,rfl,h1,_⟩:=r;cases e;exact zzd h1
  .exact zqh t b h
theorem zkr {r:Value} {Q:Value->Shared->Prop} (h:wpAny (model prog w) A.in1 (collect r) (fun vs s1=>∃ kss,KTups s1.heap vs kss/\kss.length<=60/\kss.Nodup/\(∀ x∈kss,x≠[]/\∀ y∈kss,alike x y=true) /\
   ∀ (out:List Value) (p:List Nat) (c:Nat) (g:Heap),(∀ i∈p,i<kss.length)->out=p.map (fun i=>vs.getD i .none)->yav kss=p.map (fun i=>kss.getD i [])->(∀ b o,s1.heap.get? b=some o->g.get? b=some o) ->
    g.get? s1.heap.objs.size=some { cls:=.type "list",data:=.seq out.toArray c }->Q (.ref s1.heap.objs.size) { s1 with heap:=g }) E s):wpAny (model prog w) A (call (.builtin "sorted") [r]) Q E s:=by
 refine Calls.call_function_entry kind_sorted plain_sorted entry_sorted (args_sorted1 _) ?_;unfold Builtin.«sorted»;refine zy2 (m:=checkCount "sorted" 1 1 _) (zy9 ?_);refine zy2 (wpAny_mono h (fun vs s1 x=>?_) fun _ _ e=>e);obtain ⟨kss,hk,h5,nd,al,q⟩:=x;have hl:=hk.len;refine zy2 (wpAny_newList ?_ (by rw [ub4];lia));have hoL:(s1.heap.push (seqObj "list" vs.toArray 0)).get? s1.heap.objs.size=some (seqObj "list" vs.toArray 0):=zy8 _ rfl;refine zy2 (uc1 (zz5 slot_list_sort ⟨_,hoL,rfl⟩ entry_list_sort ?_ (args_list_sort _)));refine zez (s:={ s1 with heap:=s1.heap.push (seqObj "list" vs.toArray 0) }) hoL (hk.to fun b o e _=>zyz _ e) (fun m=>zz3 _ (zqh hk _ m)) h5 nd al fun out p p1 p2 p3=>⟨_,rfl,?_⟩;obtain ⟨c,hc⟩:=zks hoL out.toArray;exact zy9 ⟨_,rfl,q out p c _ p1 p2 p3 (fun b o e=>zhi (zzo (zzd e)) (zyz _ e)) hc⟩
end
end
section
open PySem W Spec PyProof.Rows L2
variable {as:List Addr}
theorem zuv {K:W.Frag} {F:Hp} (k:Kt):Rep K F (kT k) (kV k):=by rcases k with _ | _ | _<;>rfl
theorem zk3 {K:W.Frag} {F:Hp}:∀ ks:List Kt,Reps K F (ks.map kT) (ks.map kV)
 | []=>rfl
 | k::ks=>⟨_,_,rfl,zuv k,zk3 ks⟩
theorem zef {K:W.Frag} {F:Hp} {as:List Addr} {kss:List (List Kt)} (hF:∀ i,i<kss.length->F (as.getD i 0)=some (.tup ((kss.getD i []).map kV))):∀ {p:List Nat},(∀ i∈p,i<kss.length) ->
  Reps K F ((p.map fun i=>kss.getD i []).map tkT) (p.map fun i=>V.ref (as.getD i 0))
 | [],_=>rfl
 | i::p,h=>⟨_,_,rfl,⟨_,_,rfl,hF i (h i (.head _)),zk3 _⟩,zef hF fun j hj=>h j (.tail _ hj)⟩
section
variable {X:Cx} {pj:List (Addr × Obj)} {O:L2.St} {F1 H1:Hp} {s1:Shared} {Q:VK}
theorem zka (I1:L2.Inv X pj O H1 s1) (fh:Same F1 H1) {kss:List (List Kt)} (hl:as.length=kss.length) (hF:∀ i,i<kss.length->F1 (as.getD i 0)=some (.tup ((kss.getD i []).map kV))) {p:List Nat} {out:List Value} {c:Nat} {g:Heap}
  (p1:∀ i∈p,i<kss.length) (p2:out=p.map (fun i=>(as.map Value.ref).getD i .none)) (p3:yav kss=p.map (fun i=>kss.getD i [])) (h5:kss.length<=60) (kp:∀ b o,s1.heap.get? b=some o->g.get? b=some o)
  (hD:g.get? s1.heap.objs.size=some { cls:=.type "list",data:=.seq out.toArray c }) (q:∀ v F' H',Step F1 H1 F' H'->Rep X.K F' (.lst ((yav kss).map tkT)) v->Q v H'):EP X pj O Q (.ref s1.heap.objs.size) { s1 with heap:=g }:=by
 have hn:H1 s1.heap.objs.size=none:=I1.hok.fresh (zza _);have hp:p.length=kss.length:=by rw [<- zgs kss,p3,zy3]
 have rv:Vals (p.map fun i=>V.ref (as.getD i 0)) out:=by
  subst p2;clear p3 hD hp
  induction p with
  | nil=>exact .nil
  | cons i p ih =>
   refine .cons ?_ (ih fun j hj=>p1 j (.tail _ hj));have hi:i<as.length:=by rw [hl];exact p1 i (.head _)
   show (as.map Value.ref).getD i .none=Value.ref (as.getD i 0);simp [hi]
 have I2:=I1.laid (a:=s1.heap.objs.size) (o:=.lst (p.map fun i=>V.ref (as.getD i 0))) (t':=s1.toks) kp (zza _) ⟨by rw [zy3,hp,ub4];lia,out,c,rv,hD⟩;have st:=(Step.refl fh).new (o:=.lst (p.map fun i=>V.ref (as.getD i 0))) hn;refine ⟨.ref s1.heap.objs.size,_,I2,rfl,q _ _ _ st ⟨_,_,rfl,Ls.of zam,?_⟩⟩;rw [p3];exact zef (fun i hi=>st.ff _ _ (hF i hi)) p1
theorem zgu {H:Hp}:∀ {ws:List (List Key × V)} {zs:List (List Key × Addr × Value)},KT H ws zs->∀ i,i<ws.length->H ((zs.map (·.2.1)).getD i 0)=some (.tup (((ws.map (·.1)).getD i []).map kV))
 | _,_,.nil,i,h=>by simp at h
 | _,_,.cons r t,0,_=>by simpa using r.2.1
 | _,_,.cons r t,i+1,h=>by simpa using zgu t i (by simpa using h)
theorem zi6 {P:Program} {w:World} {H:Hp} {g:Heap} (ok:∀ a xs,H a=some (.tup xs)->∃ qc:List Value,Vals xs qc/\IsTup g a qc.toArray):∀ {as:List Addr} {kss:List (List Kt)},as.length=kss.length->(∀ i,i<kss.length->H (as.getD i 0)=some (.tup ((kss.getD i []).map kV)))->KTups g (as.map Value.ref) kss
 | [],[],_,_=>.nil
 | a::as,k::ks,hl,h=>by refine .cons ?_ (zi6 (P:=P) (w:=w) ok (by simpa using hl) fun i hi=>by simpa using h (i+1) (by simpa using hi));obtain ⟨qc,rv,o,h1,h2,n,h3⟩:=ok a (k.map kV) (by simpa using h 0 (by simp));exact ⟨a,o,qc.toArray,n,rfl,h1,h2,h3,by simpa using rv⟩
theorem zkv {F H:Hp} (fh:Same F H) (h:∀ a∈as,∃ xs,H a=some (.tup xs)):∃ F1,Step F H F1 H/\∀ a∈as,F1 a=H a:=by
 refine ⟨fun b=>if b∈as then H b else F b,⟨SameT.refl H,fun b o e=>?_,fun b o e=>?_,fun b z=>?_⟩,fun a ha=>by simp [ha]⟩
 .by_cases hb:b∈as
  .simp [hb,fh b o e]
  .simp [hb,e]
 .by_cases hb:b∈as
  .simpa [hb] using e
  .simp [hb] at e;exact fh b o e
 .by_cases hb:b∈as
  .exact .inr (.inr (h b hb))
  .simp [hb] at z;exact .inl z
theorem zmw {i:Nat} (h:i<as.length):as.getD i 0∈as:=by rw [zzf,zy5 h];exact ua5 h
theorem zrg {X:Cx} {pj:List (Addr × Obj)} {O:L2.St} {H:Hp} {s:Shared} (I:L2.Inv X pj O H s) {g:Heap} (k:∀ b o,s.heap.get? b=some o->g.get? b=some o):∀ a xs,H a=some (.tup xs)->∃ qc:List Value,Vals xs qc/\IsTup g a qc.toArray:=fun a xs h=>by obtain ⟨_,qc,r,o,h1,h2⟩:=(show ObjOk X.prog X.w H s.heap a (.tup xs) from I.hok a _ h);exact ⟨qc,r,o,k a o h1,h2⟩
theorem zh6 (hu:X.A.units+100<cLine) (hcalm:X.calm=true):ybl X (.builtin "sorted") (fun xs H Q=>∃ F t1 t x,xs=[x]/\Same F H/\Rep X.K F t1 x/\ya3 .sorted t1=some t/\∀ v F' H',Step F H F' H'->Rep X.K F' t v->Q v H'):=by
 intro pj s O H xs us Q I r h;obtain ⟨F,t1,t,x,rfl,fh,r1,ht,q⟩:=h;obtain ⟨u,rfl,ru⟩:=ybb r;have hh:X.A.handled=none:=I.ok.hd hcalm;cases t1 with
 | dt ks ts =>
  obtain ⟨a,ws,rfl,g1,g2,g3⟩:=r1;cases ru;simp only [ya3,yd4] at ht;obtain ⟨l,hl,rfl⟩:=oms ht;obtain ⟨h5,nd,al,rfl⟩:=zjw hl;obtain ⟨z,lo,zs,rel,o,es,ep,e1,e2,e3,e4,e5,e6⟩:=ztq I.hok (fh _ _ g1);subst g2;have hlz:ws.length=zs.length:=Paired.length rel;have hle:es.size=zs.length:=by rw [<- zzt,e4,zy3]
  have hln:(zs.map (·.2.1)).length=(ws.map (·.1)).length:=by simp [hlz]
  have hA:∀ i,i<(ws.map (·.1)).length->H ((zs.map (·.2.1)).getD i 0)=some (.tup (((ws.map (·.1)).getD i []).map kV)):=fun i hi=>zgu rel i (by simpa using hi);refine zkr (kdu_collect (A:=X.A.in1) (zr0 (en:=es) (ep:=ep) lo) hh ⟨o,e1,e2,e3⟩ (by rw [hle,<- hlz];exact z) fun h' tk acc hk hacc=>?_);have ea:acc.toList=(zs.map (·.2.1)).map Value.ref:=by
   apply List.ext_getElem?;intro i;by_cases hi:i<zs.length
   .have hi':i<acc.size:=by rw [hacc.1,hle];exact hi
    obtain ⟨e,he,hv⟩:=hacc.2 i acc[i] (by simp [hi']);rw [zz9,ub1 hi',hv,zzn,zzr,zy5 hi];rw [<- zz9,e4,zzr,zy5 hi] at he;cases he;rfl
   .rw [ud7 (by rw [Array.length_toList,hacc.1,hle];lia),ud7 (by simp;lia)]
  refine ⟨ws.map (·.1),?_,h5,nd,al,fun out p c g p1 p2 p3 kp hD=>?_⟩
  .rw [ea];exact zi6 (P:=X.prog) (w:=X.w) (zrg I hk) hln hA
  .have I1:L2.Inv X pj O H { s with heap:=h',toks:=tk }:=I.kept hk;obtain ⟨F1,st,hF⟩:=zkv fh (as:=zs.map (·.2.1)) fun b hb=>by obtain ⟨i,hi,rfl⟩:=List.getElem_of_mem hb;have:=hA i (by rw [<- hln];exact hi);rw [zzf,zy5 hi] at this;exact ⟨_,this⟩
   rw [ea] at p2;exact zka (s1:={ s with heap:=h',toks:=tk }) I1 st.fh hln (fun i hi=>by rw [hF _ (zmw (by rw [hln];exact hi))];exact hA i hi) p1 p2 p3 h5 kp hD fun v F' H' st' r'=>q v F' H' (st.trans st') r'
 | _=>cases ht
end
end
section
open PySem W Spec PyProof.Rows L2
variable {xs:List (List Key × Addr × Value)}
abbrev tkd (prog:Program) (w:World):=tupleKind (zax prog w)
theorem zn0 {prog:Program} {w:World} {g g':Heap} {k:List Key} {a:Addr} (h:IsTupleKey (zax prog w) g k a) (q:∀ o,g.get? a=some o->g'.get? a=some o):IsTupleKey (zax prog w) g' k a :=
 let ⟨o,qc,n,h1,h2⟩:=h;⟨o,qc,n,q o h1,h2⟩
theorem zg2:entryFor table "dict.update.loop"=some Builtin.«dict.update.loop»:=entryFor_of_tree (by kernel_rfl)
theorem zdc:plainId "dict.update.loop"=true:=by decide +kernel
section
variable {prog:Program} {w:World} {A:Around} {R:Result->Shared->Prop} {I:Addr} {fp wr:List Addr} {G:Array GenState->Array GenState->Prop} {P:Nat->Value->Prop} {St:Nat->Shared->Prop}
def yca (ky:Nat->List Key) (ka:Nat->Addr) (us:Nat->Value):Nat->List (List Key × Addr × Value)
 | 0=>[]
 | i+1=>storedH (yca ky ka us i) (ky i) (ka i) (us i)
theorem zhh {k:List Key} {a:Addr} {v:Value}:(storedH xs k a v).length<=xs.length+1:=by unfold storedH;split<;>simp
theorem zgm {ky:Nat->List Key} {ka:Nat->Addr} {us:Nat->Value}:∀ i,(yca ky ka us i).length<=i
 | 0=>zza _
 | i+1=>zzs zhh (ue2 (zgm i))
theorem zdd {ky:Nat->List Key} {ka:Nat->Addr} {us:Nat->Value}:∀ i {x},x∈yca ky ka us i->∃ j,j<i/\x.1=ky j/\x.2.1=ka j
 | 0,_,h=>nomatch h
 | i+1,x,h=>by
  rw [yca] at h;unfold storedH at h;split at h
  .obtain ⟨y,hy,e⟩:=omm h;obtain ⟨j,hj,e1,e2⟩:=zdd i hy;refine ⟨j,by lia,?_⟩;unfold putAt at e;split at e<;>(subst e;exact ⟨e1,e2⟩)
  .rcases oma h with h | h
   .obtain ⟨j,hj,e⟩:=zdd i h;exact ⟨j,by lia,e⟩
   .rw [omg h];exact ⟨i,by lia,rfl,rfl⟩
theorem ztx {g g':Heap} {D:Addr} (h:g.DictOfH (tkd prog w) D xs) (hD:∀ o,g.get? D=some o->g'.get? D=some o) (hk:∀ x∈xs,∀ o,g.get? x.2.1=some o->g'.get? x.2.1=some o):g'.DictOfH (tkd prog w) D xs:=by obtain ⟨o,es,ep,ho,hc,hd,he,his,hn⟩:=h;exact ⟨o,es,ep,hD o ho,hc,hd,he,fun x hx=>zn0 (his x hx) fun o e=>hk x hx o e,hn⟩
theorem zm5 {n:Nat} {pr ka:Nat->Addr} {ky:Nat->List Key} {us:Nat->Value} (W:WalksS prog w A.in1 I fp wr G n P St) (D:Addr) (hf:D∉fp) (hv:∀ i,i<n->∀ v,P i v->v=.ref (pr i)) (hnw:∀ i,i<n->pr i∉wr/\ka i∉wr) (hnD:∀ i,i<n->pr i≠D/\ka i≠D) (hn:n<=1000) (hu:A.in1.units+1<cLine) :
  ∀ (k i:Nat) (s:Shared),n-i=k->i<=n->St i s->(∀ j,j<n->IsTup s.heap (pr j) #[.ref (ka j),us j]/\IsTupleKey (zax prog w) s.heap (ky j) (ka j))->s.heap.DictOfH (tkd prog w) D (yca ky ka us i) ->
   (∀ s',Moved (D::wr) G s s'->s'.heap.DictOfH (tkd prog w) D (yca ky ka us n)->R (.ok (.ret .none)) s')->codeAny (model prog w) A (.builtin "dict.update.loop" ⟨[.ref D,.ref I,rawInt i,.none],[]⟩) R s:=by
 have hw:D∉wr:=fun z=>hf (W.sub _ z);have hsu:∀ c∈wr,c∈D::wr:=fun c hc=>zzc _ hc;intro k
 induction k with
 | zero =>
  intro i s e1 e2 st ht hd r;have e3:i=n:=by lia
  subst e3;refine codeAny_builtin zg2 (show wpAny _ _ _ _ _ _ from ?_);rw [Around.under_plainId zdc _];show wpAny _ A.in1 (pyNext (.ref I) >>= _) _ _ s;refine zy2 (W.done s _ _ st fun s1 mv=>?_);show wpAny _ A.in1 (Builtin.Dict.addKeywords D [] >>= fun _=>ret Value.none) _ _ s1;refine zy2 (show wpAny _ _ (pure ()) _ _ _ from zy9 (zy9 (r s1 (mv.mono hsu) ?_)));exact ztx hd (fun o e=>mv.heap D o hw e) fun x hx=>by obtain ⟨j,hj,_,e⟩:=zdd _ hx;rw [e];exact fun o q=>mv.heap _ o (hnw j hj).2 q
 | succ k ih =>
  intro i s e1 e2 st ht hd r;have lt:i<n:=by lia
  refine codeAny_builtin zg2 (show wpAny _ _ _ _ _ _ from ?_);rw [Around.under_plainId zdc _];show wpAny _ A.in1 (pyNext (.ref I) >>= _) _ _ s;refine zy2 (W.item i s _ _ lt st fun v s1 hP st1 mv=>?_);obtain rfl:=hv i lt v hP;dsimp only;obtain ⟨⟨o,h1,h2,m,h3⟩,hk⟩:=ht i lt;have g1:s1.heap.get? (pr i)=some o:=mv.heap _ o (hnw i lt).1 h1;refine zy2 (uc1 (zy2 (wpAny_tryCatch ?_)));unfold Builtin.Dict.pairItems;refine zy2 (Looks.here (show Looks _ s1.heap (typeOf (.ref (pr i))) o.cls from (Looks.ld g1).andThen .now) ?_);rw [h2,if_pos (by decide)];refine zy2 (Looks.here (show Looks _ s1.heap (seqItems? (.ref (pr i))) (some #[.ref (ka i),us i]) from (Looks.ld g1).andThen (by rw [h3];exact .now)) (zy9 ?_));show wpAny _ _ (holding [.ref (ka i),us i] (dictSet D (.ref (ka i)) (us i))) _ _ s1;have hk1:∀ j,j<n->IsTupleKey (zax prog w) s1.heap (ky j) (ka j):=fun j hj=>zn0 (ht j hj).2 fun o e=>mv.heap _ o (hnw j hj).2 e;have hd1:s1.heap.DictOfH (tkd prog w) D (yca ky ka us i):=ztx hd (fun o e=>mv.heap D o hw e) fun x hx=>by obtain ⟨j,hj,_,e⟩:=zdd _ hx;rw [e];exact fun o q=>mv.heap _ o (hnw j (by lia)).2 q
  refine uc1 (wpAny_dictSet_heap (hsz:=by have:=zgm (ky:=ky) (ka:=ka) (us:=us) i;rw [ub4];lia) (tupleKind_room_in1 (by have:A.units+1+1<cLine:=hu;lia)) (hk1 i lt) hd1 fun h' dd' hs=>?_);refine zy9 ⟨plainId_quiet zdc _,ih (i+1) _ (by lia) lt ?_ (fun j hj=>⟨?_,?_⟩) dd' fun s2 mv2 d2=>r s2 ?_ d2⟩
  .exact W.frame _ s1 _ _ st1 (Nat.le_add_right _ _) fun c hc o e=>by show h'.get? c=some o;rw [hs.2 c fun z:c=D=>hf (by rw [<- z];exact hc)];exact e
  .obtain ⟨o',q1,q2,q3⟩:=(ht j hj).1;exact ⟨o',by show h'.get? (pr j)=some o';rw [hs.2 _ (hnD j hj).1];exact mv.heap _ o' (hnw j hj).1 q1,q2,q3⟩
  .exact zn0 (hk1 j hj) fun o e=>by show h'.get? (ka j)=some o;rw [hs.2 _ (hnD j hj).2];exact e
  .refine Moved.trans W.gtrans ((mv.mono hsu).then_heap (Nat.le_add_right _ _) fun c o hc e=>?_) mv2;rw [hs.2 c fun z:c=D=>hc (by rw [z];exact zzg)];exact e
end
end
section
open PySem W Spec PyProof.Rows L2
theorem zgr:typeLookup (.type "list") "keys"=pure none:=by rw [typeLookup_type,builtinLookup_eq_fast];kernel_rfl
theorem zek:typeLookup (.type "list") "__getattr__"=pure none:=by rw [typeLookup_type,builtinLookup_eq_fast];kernel_rfl
section
variable {prog:Program} {w:World} {A:Around} {E:Value->Shared->Prop} {a:Addr} {xs:Array Value} {n:Nat} {sl:Array (Option Value)}
theorem zme {s:Shared} {Q:Option Value->Shared->Prop} (hx:s.heap.get? a=some { cls:=.type "list",dict:=none,data:=.seq xs n,slots:=sl }) (hA:A.handled=none)
  (h:∀ h' tk,(∀ b o,s.heap.get? b=some o->h'.get? b=some o)->Q none { s with heap:=h',toks:=tk }):wpAny (model prog w) A (getAttr? (.ref a) "keys") Q E s:=by
 obtain ⟨hp,g,d,tk,os⟩:=s;have hT:∀ t,(⟨hp,g,d,t,os⟩:Shared).TypeIs (.ref a) "list":=fun t=>⟨_,hx,rfl⟩;have f1:=sub_AttributeError;have f3:=F.slot_list_getattribute.lookup;have f4:=F.slot_list_getattribute.bind (.ref a);have f5:=zek;unfold getAttr? getAttrBy? getAttrBy
 repeat (any_goals (first | assumption | exact hT _ | wp_step))
 refine codeAny_call_builtin F.slot_list_getattribute.plain F.entry_list_ga (F.slot_list_getattribute.check _ _ _ _ _ _ _ _ (hT _) (F.args_list_getattribute_2 _ _) ?_);have f6:=zgr;have hT':=hT (tk+1);unfold Builtin.«object.__getattribute__»
 repeat (any_goals (first | assumption | exact hT _ | wp_step))
 refine wpAny_raiseAttrError (by first | exact hA | simp [hA]) (fun h' tk' e hx'=>?_) (attrMsg_fits (by decide +kernel) (by rw [ub4];decide +kernel));obtain ⟨t',u',he⟩:=hx'.there;show wpAny _ _ (getattributeRaised _ _ _ _ _ _ _) _ _ _;unfold getattributeRaised
 repeat (any_goals (first | assumption | wp_step))
 exact h h' tk' hx'.keeps
end
end
section
open PySem W Spec PyProof.Rows L2
section
variable {prog:Program} {w:World} {A:Around} {E:Value->Shared->Prop} {sl:Array (Option Value)}
theorem zxk (h:Heap):(h.push { cls:=.type "dict",data:=.dict #[] }).DictOfH (tkd prog w) h.objs.size [] :=
 ⟨_,#[],0,zy8 _ rfl,⟨rfl,rfl,rfl⟩,rfl,rfl,fun x hx=>(nomatch hx),ud1⟩
theorem zkd {s:Shared} {l:Addr} {qc:Array Value} {m N:Nat} {pr ka:Nat->Addr} {ky:Nat->List Key} {us:Nat->Value} {Q:Value->Shared->Prop} (hh:A.handled=none) (hl:s.heap.get? l=some { cls:=.type "list",dict:=none,data:=.seq qc m,slots:=sl }) (hn:qc.size=N) (hN:N<=1000) (hu:A.units+10<cLine)
  (hp:∀ i,i<N->qc[i]?=some (.ref (pr i))) (ht:∀ i,i<N->IsTup s.heap (pr i) #[.ref (ka i),us i]/\IsTupleKey (zax prog w) s.heap (ky i) (ka i))
  (h:∀ g tk,(∀ b o,s.heap.get? b=some o->g.get? b=some o)->g.DictOfH (tkd prog w) s.heap.objs.size (yca ky ka us N)->Q (.ref s.heap.objs.size) { s with heap:=g,toks:=tk }) :
  wpAny (model prog w) A (call (.type "dict") [.ref l]) Q E s:=by
 refine callType_codes (Q₁:=fun obj s₁=>obj=.ref s.heap.objs.size/\s₁={ s with heap:=s.heap.push { cls:=.type "dict",data:=.dict #[] } }) F.kt_called_dict (F.kt_typeCall_dict_1 _) F.entry_dict_init (kt_code_dict_new _ ⟨rfl,rfl⟩) ?_;rintro obj s₁ ⟨rfl,rfl⟩;have hnew:(s.heap.push { cls:=.type "dict",data:=.dict #[] }).DictOfH (tkd prog w) s.heap.objs.size []:=zxk s.heap;have hty:({ s with heap:=s.heap.push { cls:=.type "dict",data:=.dict #[] } }:Shared).TypeIs (.ref s.heap.objs.size) "dict":=⟨_,zy8 _ rfl,rfl⟩;have hl1:(s.heap.push { cls:=.type "dict",data:=.dict #[] }).get? l=some { cls:=.type "list",dict:=none,data:=.seq qc m,slots:=sl }:=zyz _ hl;refine ⟨hty,F.args_dict_init_2 _ _,?_⟩;unfold Builtin.«dict.__init__»;refine zy2 ?_;unfold Builtin.Dict.selfAndRest;refine zy2 (wpAny_notOrdered_dict hty ?_);show wpAny _ _ (pure (s.heap.objs.size,[Value.ref l])) _ _ _;refine zy9 ?_;show wpAny _ _ (Builtin.Dict.updateFrom "dict.__init__" s.heap.objs.size (.ref l) [] .none) _ _ _;unfold Builtin.Dict.updateFrom;refine zy2 (wpAny_typeOf (show Shared.TypeIs _ (.ref l) "list" from ⟨_,hl1,rfl⟩) ?_);rw [if_pos (by decide)];refine wpAny_bind (zme hl1 (by simp [hh]) fun h' tk' kp=>?_);rw [if_pos (show (none:Option Value).isNone=true from rfl)];refine zy2 (wpAny_rule ?_);have hl2:h'.get? l=some { cls:=.type "list",dict:=none,data:=.seq qc m,slots:=sl }:=kp _ _ hl1;have hl3:h'.IsList l qc:=⟨_,hl2,rfl,m,rfl⟩;have kp':∀ b o,s.heap.get? b=some o->h'.get? b=some o:=fun b o e=>kp _ _ (zyz _ e);refine zy2 (wpAny_pyIter_list hl3 (zy9 ⟨plainId_quiet zdc _,?_⟩));have ll:l<h'.objs.size:=zzd hl2;have hD0:h'.get? s.heap.objs.size=some { cls:=.type "dict",data:=.dict #[] }:=kp _ _ (zy8 _ rfl);have lD:s.heap.objs.size<h'.objs.size:=zzd hD0;have ll0:l<s.heap.objs.size:=zzd hl;have W:=(Walks.list (prog:=prog) (w:=w) (A:=A.in1.in1) (by simp [hh]) h'.objs.size l (Nat.ne_of_lt ll) qc).toS;rw [hn] at W;have lp:∀ i,i<N->pr i<s.heap.objs.size:=fun i hi=>let ⟨o,e,_⟩:=(ht i hi).1;zzd e
 have lk:∀ i,i<N->ka i<s.heap.objs.size:=fun i hi=>let ⟨o,_,_,e,_⟩:=(ht i hi).2;zzd e
 refine zm5 (pr:=pr) (ka:=ka) (ky:=ky) (us:=us) W s.heap.objs.size ?_ (fun i hi v hP=>?_) (fun i hi=>?_) (fun i hi=>⟨zzo (lp i hi),zzo (lk i hi)⟩) hN (by show A.units+1+1+1<cLine;lia) (N-0) 0 _ rfl (zzp _) ?_ (fun j hj=>?_) ?_ fun s' mv dd=>?_
 .simp only [List.mem_cons,List.not_mem_nil,or_false,not_or];exact ⟨zzo lD,Nat.ne_of_gt ll0⟩
 .exact zzl (hP.symm.trans (hp i hi))
 .simp only [List.mem_cons,List.not_mem_nil,or_false];exact ⟨zzo (Nat.lt_trans (lp i hi) lD),zzo (Nat.lt_trans (lk i hi) lD)⟩
 .exact ⟨⟨_,zy8 _ rfl,rfl,rfl⟩,⟨_,zyz _ hl2,rfl,m,rfl⟩⟩
 .obtain ⟨o,q1,q2,q3⟩:=(ht j hj).1;exact ⟨⟨o,zyz _ (kp' _ _ q1),q2,q3⟩,zn0 (ht j hj).2 fun o e=>zyz _ (kp' _ _ e)⟩
 .exact ztx hnew (fun o e=>zyz _ (kp _ _ e)) fun x hx=>nomatch hx
 .obtain ⟨g3,gs3,d3,tk3,os3⟩:=s';have eg:gs3=s.gens:=mv.gens;have ed:d3=s.drawn:=mv.drawn;have eo:os3=s.os:=mv.os;subst eg;subst ed;subst eo;refine ⟨rfl,h g3 tk3 (fun b o e=>mv.heap b o ?_ (zyz _ (kp' _ _ e))) dd⟩;have hb:=zzd e;simp only [List.mem_cons,List.not_mem_nil,or_false,not_or];exact ⟨zzo hb,zzo (Nat.lt_trans hb lD)⟩
end
end
section
open PySem Spec PyProof.Rows L2
abbrev PRep {κ:Type} (K:W.Frag) (F:Hp):List (κ × T)->List (κ × V)->Prop:=Paired fun p q=>q.1=p.1/\Rep K F p.2 q.2
section
variable {κ:Type} [DecidableEq κ] {K:W.Frag} {F:Hp}
theorem PRep.of:∀ {qb:List (κ × T)} {ws:List (κ × V)},ws.map (·.1)=qb.map (·.1)->Reps K F (qb.map (·.2)) (ws.map (·.2))->PRep K F qb ws
 | [],[],_,_=>.nil
 | [],_::_,h,_=>by simp at h
 | _::_,[],h,_=>by simp at h
 | p::qb,q::ws,h,r=>by rw [zy1,zy1] at h;injection h with h1 h2;obtain ⟨v,vr,e,r1,r2⟩:=r;rw [zy1] at e;injection e with e1 e2;exact .cons ⟨h1,by rw [e1];exact r1⟩ (PRep.of h2 (by rw [e2];exact r2))
theorem PRep.keys {qb:List (κ × T)} {ws:List (κ × V)} (r:PRep K F qb ws):ws.map (·.1)=qb.map (·.1):=by
 induction r with
 | nil=>rfl
 | cons h t ih=>rw [zy1,zy1,ih,h.1]
theorem PRep.vals {qb:List (κ × T)} {ws:List (κ × V)} (r:PRep K F qb ws):Reps K F (qb.map (·.2)) (ws.map (·.2)):=by
 induction r with
 | nil=>rfl
 | cons h t ih=>exact ⟨_,_,rfl,h.2,ih⟩
theorem PRep.any {qb:List (κ × T)} {ws:List (κ × V)} (r:PRep K F qb ws) (k:κ):(ws.any fun kv=>decide (kv.1=k))=qb.any fun kv=>decide (kv.1=k):=by
 induction r with
 | nil=>rfl
 | cons h t ih=>rw [ub6,ub6,ih,h.1]
theorem PRep.put {qb:List (κ × T)} {ws:List (κ × V)} (r:PRep K F qb ws) (k:κ) {y:T} {v:V} (ry:Rep K F y v):PRep K F (yb3 qb k y) (yct ws k v):=by
 unfold yb3 yct;rw [r.any k];by_cases e:(qb.any fun kv=>decide (kv.1=k))=true
 .rw [if_pos e,if_pos e];clear e
  induction r with
  | nil=>exact .nil
  | @cons p q ps qs h t ih =>
   rw [zy1,zy1];refine .cons ?_ ih;by_cases e:p.1=k
   .rw [if_pos e,if_pos (h.1.trans e)];exact ⟨h.1,ry⟩
   .rw [if_neg e,if_neg (fun z=>e (h.1.symm.trans z))];exact h
 .rw [if_neg e,if_neg e];exact Paired.snoc r ⟨rfl,ry⟩
theorem PRep.val {qb:List (κ × T)} {ws:List (κ × V)} (r:PRep K F qb ws) (k:κ):(yfm qb k=none/\ycp ws k=none)\/∃ t v,yfm qb k=some t/\ycp ws k=some v/\Rep K F t v:=by
 induction r with
 | nil=>exact .inl ⟨rfl,rfl⟩
 | @cons p q ps qs h t ih =>
  rw [yfm];by_cases e:p.1=k
  .rw [if_pos e,zc8 (h.1.trans e)];exact .inr ⟨_,_,rfl,rfl,h.2⟩
  .rw [if_neg e,zc9 (fun z=>e (h.1.symm.trans z))];exact ih
end
end
section
open PySem W Spec PyProof.Rows L2
theorem ze6:∀ {xs:List T} {l:List (List Kt × T)},ybo xs=some l->xs.length=l.length/\∀ i (h:i<l.length),∃ x,xs[i]?=some x/\ydv x=some l[i]
 | [],l,h=>by cases h;exact ⟨rfl,fun i hi=>absurd hi (Nat.not_lt_zero _)⟩
 | x::r,l,h=>by
  obtain ⟨p,h1,h⟩:=obs h;obtain ⟨ps,h2,h⟩:=obs h;cases h;obtain ⟨e,g⟩:=ze6 h2;refine ⟨by simp [e],fun i hi=>?_⟩;cases i with
  | zero=>exact ⟨x,rfl,h1⟩
  | succ i=>exact g i (by simpa using hi)
section
variable {X:Cx}
theorem zso {pj:List (Addr × Obj)} {O:L2.St} {H F:Hp} {s:Shared} (I:Inv X pj O H s) (fh:Same F H) {x:T} {p:List Kt × T} {v:V} {u:Value} (h:ydv x=some p) (r:Rep X.K F x v) (ru:RelV v u) :
  ∃ (q c:Addr) (y:V) (z:Value),u=.ref q/\IsTup s.heap q #[.ref c,z]/\H c=some (.tup (p.1.map kV))/\F c=some (.tup (p.1.map kV))/\Rep X.K F p.2 y/\RelV y z:=by
 unfold ydv at h;split at h
 .rename_i ks w;obtain ⟨k,hk,rfl⟩:=oms h;obtain ⟨q,vs,qc,rfl,rfl,g1,g2,g3,g4⟩:=zcb I fh r ru;obtain ⟨v1,r1,rfl,k1,v2,r2,rfl,k2,rfl⟩:=g2;cases g3 with
  | cons a1 g3 =>
   cases g3 with
   | cons a2 g3 =>cases g3;obtain ⟨c,ws,rfl,m1,m2⟩:=k1;have:=zem m2 hk;subst this;cases a1;exact ⟨q,c,v2,_,rfl,g4,fh _ _ m1,m1,k2,a2⟩
 .cases h
theorem yc6 (hcalm:X.calm=true) (hu:X.A.units+100<cLine):ybl X (.type "dict") (fun zs H Q=>∃ F xs l x,zs=[x]/\Same F H/\Rep X.K F (.lst xs) x/\ybo xs=some l/\l.length<=1000/\∀ v F' H',Step F H F' H'->Rep X.K F' (.dt ((ybg l).map (·.1)) ((ybg l).map (·.2))) v->Q v H'):=by
 intro pj s O H zs us Q I r h;obtain ⟨F,xs,l,x,rfl,fh,r1,hp,h1000,q⟩:=h;obtain ⟨u,rfl,ru⟩:=ybb r;obtain ⟨a,vs,rfl,g1,g2⟩:=r1;cases ru;obtain ⟨z,qc,n,rv,ho⟩:=(Ls.same fh g1).ok I;obtain ⟨e1,hg⟩:=ze6 hp;have hl:qc.length=l.length:=by rw [<- rv.length,g2.length,e1]
 have ex:∀ i,∃ f:Addr × Addr × V × Value,i<l.length->qc[i]?=some (.ref f.1)/\IsTup s.heap f.1 #[.ref f.2.1,f.2.2.2]/\H f.2.1=some (.tup ((l.getD i ([],.non)).1.map kV))/\Rep X.K F (l.getD i ([],.non)).2 f.2.2.1/\RelV f.2.2.1 f.2.2.2:=fun i=>by
  by_cases hi:i<l.length
  .obtain ⟨x,hx,hpx⟩:=hg i hi;obtain ⟨v,hv,rv1⟩:=g2.get hx;obtain ⟨u,hu',ru⟩:=rv.get hv;obtain ⟨q,c,y,z,rfl,t1,t2,_,t3,t4⟩:=zso I fh hpx rv1 ru;have el:l.getD i ([],.non)=l[i]:=by rw [zzf,zy5 hi];rfl
   exact ⟨(q,c,y,z),fun _=>⟨hu',t1,by rw [el];exact t2,by rw [el];exact t3,t4⟩⟩
  .exact ⟨(0,0,.non,.none),fun z=>absurd z hi⟩
 obtain ⟨f,hf⟩:=Classical.axiomOfChoice ex;refine zkd (pr:=fun i=>(f i).1) (ka:=fun i=>(f i).2.1) (ky:=fun i=>(l.getD i ([],.non)).1) (us:=fun i=>(f i).2.2.2) (N:=l.length) (I.ok.hd hcalm) ho (by simpa using hl) h1000 (by lia) (fun i hi=>by simpa using (hf i hi).1) (fun i hi=>⟨(hf i hi).2.1,zfb I.hok (hf i hi).2.2.1⟩) fun g tk kp dd=>?_;have main:∀ i,i<=l.length->∃ ws:List (List Key × V),KT H ws (yca (fun i=>(l.getD i ([],.non)).1) (fun i=>(f i).2.1) (fun i=>(f i).2.2.2) i)/\PRep X.K F (ybg (l.take i)) ws/\ws.length<=i:=by
  intro i
  induction i with
  | zero=>exact fun _=>⟨[],.nil,.nil,zza _⟩
  | succ i ih =>
   intro hi;obtain ⟨ws,k1,k2,k3⟩:=ih (by lia);obtain ⟨t1,t2,t3,t4,t5⟩:=hf i (by lia);refine ⟨yct ws (l.getD i ([],.non)).1 (f i).2.2.1,k1.put _ t3 t5,?_,?_⟩
   .have e:l.take (i+1)=l.take i++[l.getD i ([],.non)]:=by rw [List.take_succ,zy5 (show i<l.length by lia),zzf,zy5 (show i<l.length by lia)];rfl
    have e2:ybg (l.take (i+1))=yb3 (ybg (l.take i)) (l.getD i ([],.non)).1 (l.getD i ([],.non)).2:=by unfold ybg;rw [e,List.foldl_append];rfl
    rw [e2];exact k2.put _ t4
   .have:=zcz ws (l.getD i ([],.non)).1 (f i).2.2.1;lia
 obtain ⟨ws,k1,k2,k3⟩:=main l.length (zza _);rw [List.take_length] at k2;have hn:H s.heap.objs.size=none:=I.hok.fresh (zza _);have hsys:(s.heap.objs.size==sysModules)=false:=by have:=I.big;simpa using Nat.ne_of_gt this
 obtain ⟨o,es,ep,d1,d2,d3,d4,d5,d6⟩:=dd;have I1:=I.laid (a:=s.heap.objs.size) (o:=.dT ws) (t':=tk) kp (zza _) ⟨by rw [ub4];lia,hsys,_,k1.keeps fun c ys ec=>by rw [zai (zae ec hn)];exact ec,o,es,ep,d1,d2,d3,d4,d6⟩;have st:=(Step.refl fh).new (o:=.dT ws) hn;exact ⟨.ref s.heap.objs.size,_,I1,rfl,q _ _ _ st ⟨_,ws,rfl,zam,k2.keys,k2.vals.mono st.ff⟩⟩
end
end
section
open PySem Spec PyProof.Rows L2
variable {f g:Env->Option T} {G:Glo} {k:Nat} {x:Str} {apos cpos:Pos} {o:Expr}
section
variable {X:Cx} {c:Tc} {a b:Expr} {pos p:Pos}
def BlS (X:Cx) (f:Value) (g:T->Option T):Prop :=
 ybl X f (fun xs H Q=>∃ F t1 t x,xs=[x]/\Same F H/\Rep X.K F t1 x/\g t1=some t/\∀ v F' H',Step F H F' H'->Rep X.K F' t v->Q v H')
theorem zxq:BlS X (.builtin "len") (ya3 .len):=by
 intro pj s O H xs us Q I r h;obtain ⟨F,t1,t,x,rfl,fh,r1,ht,q⟩:=h;cases t1 with
 | tup ts =>obtain ⟨l,vs,rfl,h1,h2⟩:=r1;cases ht;exact zdy pj s O H _ us Q I r ⟨l,vs,rfl,.inr (zaj fh h1),q _ F H (Step.refl fh) (by rw [h2.length];rfl)⟩
 | lst ts =>obtain ⟨l,vs,rfl,h1,h2⟩:=r1;cases ht;exact zdy pj s O H _ us Q I r ⟨l,vs,rfl,.inl (Ls.same fh h1).sq,q _ F H (Step.refl fh) (by rw [h2.length];rfl)⟩
 | str z =>
  cases r1;simp only [ya3] at ht;split at ht
  .rename_i hz;cases ht;exact ycf pj s O H _ us Q I r ⟨z,rfl,by rw [<- zey];exact hz,q _ F H (Step.refl fh) rfl⟩
  .cases ht
 | _=>cases ht
theorem zxr:BlS X (.type "int") (ya3 .toInt):=by
 intro pj s O H xs us Q I r h;obtain ⟨F,t1,t,x,rfl,fh,r1,ht,q⟩:=h;cases t1 with
 | int i=>cases r1;cases ht;exact zg7 pj s O H _ us Q I r (.inl ⟨i,rfl,q _ F H (Step.refl fh) rfl⟩)
 | bl k=>cases r1;cases ht;exact zg7 pj s O H _ us Q I r (.inr ⟨k,rfl,q _ F H (Step.refl fh) rfl⟩)
 | _=>cases ht
theorem zxo:BlS X (.type "str") (ya3 .toStr):=by
 intro pj s O H xs us Q I r h;obtain ⟨F,t1,t,x,rfl,fh,r1,ht,q⟩:=h;cases t1 with
 | str z =>cases r1;cases ht;obtain ⟨u,rfl,t,rfl⟩:=ybb r;exact PySem.P.str_of_str ⟨.str z,H,I,⟨_,rfl⟩,q _ F H (Step.refl fh) rfl⟩
 | int i =>
  cases r1;simp only [ya3] at ht;split at ht
  .rename_i hz;cases ht;exact ych pj s O H _ us Q I r ⟨i,rfl,hz,q _ F H (Step.refl fh) rfl⟩
  .cases ht
 | bl b =>cases r1;cases ht;obtain ⟨u,rfl,r2⟩:=ybb r;cases r2;exact PySem.P.str_of_bool ⟨.str _,H,I.tok _,⟨_,rfl⟩,q _ F H (Step.refl fh) rfl⟩
 | _=>cases ht
theorem zxp:BlS X (.builtin "ord") (ya3 .ord):=by
 intro pj s O H xs us Q I r h;obtain ⟨F,t1,t,x,rfl,fh,r1,ht,q⟩:=h;cases t1 with
 | str z =>
  cases r1;simp only [ya3] at ht;split at ht
  .rename_i hz;cases ht;obtain ⟨u,rfl,tk,rfl⟩:=ybb r;exact ord_of_one hz ⟨.int _,H,I.tok _,⟨_,rfl⟩,q _ F H (Step.refl fh) rfl⟩
  .cases ht
 | _=>cases ht
theorem zt2:BlS X (.type "list") (ya3 .toList):=by
 intro pj s O H xs us Q I r h;obtain ⟨F,t1,t,x,rfl,fh,r1,ht,q⟩:=h;have fin:∀ {vs:List V} {ts:List T},Reps X.K F ts vs->t=.lst ts->∀ l,H l=none->Q (.ref l) (upd H l (.lst vs)):=fun {vs ts} h2 e l hl=>by subst e;have st:=(Step.refl fh).new (o:=.lst vs) hl;exact q _ _ _ st ⟨l,vs,rfl,Ls.of zam,h2.mono st.ff⟩
 cases t1 with
 | tup ts =>obtain ⟨l,vs,rfl,h1,h2⟩:=r1;cases ht;exact zbz pj s O H _ us Q I r ⟨l,vs,rfl,.inr (zaj fh h1),fin h2 rfl⟩
 | lst ts =>obtain ⟨l,vs,rfl,h1,h2⟩:=r1;cases ht;exact zbz pj s O H _ us Q I r ⟨l,vs,rfl,.inl (Ls.same fh h1).sq,fin h2 rfl⟩
 | _=>cases ht
theorem zp0:BlS X (.type "tuple") (ya3 .toTuple):=by
 intro pj s O H xs us Q I r h;obtain ⟨F,t1,t,x,rfl,fh,r1,ht,q⟩:=h;cases t1 with
 | tup ts =>obtain ⟨l,vs,rfl,h1,h2⟩:=r1;cases ht;exact zdm pj s O H _ us Q I r ⟨l,vs,rfl,.inr ⟨zaj fh h1,q _ F H (Step.refl fh) ⟨l,vs,rfl,h1,h2⟩⟩⟩
 | lst ts =>obtain ⟨l,vs,rfl,h1,h2⟩:=r1;cases ht;refine zdm pj s O H _ us Q I r ⟨l,vs,rfl,.inl ⟨(Ls.same fh h1).sq,fun l' hl=>?_⟩⟩;have st:=(Step.refl fh).new (o:=.tup vs) hl;exact q _ _ _ st ⟨l',vs,rfl,zam,h2.mono st.ff⟩
 | _=>cases ht
theorem znj (hu:X.A.units+100<cLine) (hcalm:X.calm=true):BlS X (.builtin "sorted") (ya3 .sorted):=zh6 hu hcalm
theorem zbq (ha:Oke X c a f) (hs:starEach [a] X.env=[(false,eval a X.env)]):PA X [a] (spL X c fun r=>(f r).bind fun x=>some [x]):=by refine zhq (zhs ha zql hs) fun O H Q q=>?_;obtain ⟨r,F,ts,e,ht,q⟩:=q;exact ⟨r,F,ts,e,ht,q⟩
theorem zhu (gd:Gd X c G k) {id:String} {g:T->Option T} (hc:BlS X (.builtin id) g) (hb:x∈bnames) (hg:glB c.sc x=true) (hv:bootBuiltins x=some (.builtin id)) (hn:x≠"__name__") (hdb:(x==("__debug__":Str))=false)
  (ha:Oke X c a f) (hs:starEach [a] X.env=[(false,eval a X.env)]):Oke X c (.Call (.Name x p) [a] [] pos) (fun r=>(f r).bind fun x=>g x):=by
 refine zar (ziv hc (gd.gl x hg) (gd.nob x hb) hv (zbq ha hs) hn hdb hs rfl) fun O H Q q=>?_;obtain ⟨r,F,t,e,ht,q⟩:=q;obtain ⟨t1,e1,ht⟩:=obs ht;refine ⟨r,F,[t1],e,ud8.mpr ⟨t1,e1,rfl⟩,fun vs F' H' s1 r1=>?_⟩;obtain ⟨v,w,rfl,h1,h2⟩:=r1;cases h2;exact ⟨F',t1,t,v,rfl,s1.fh,h1,ht,fun v' F2 H2 s2 r2=>q v' F2 H2 (s1.trans s2) r2⟩
theorem zeh (gd:Gd X c G k) {ty:String} {g:T->Option T} (hc:BlS X (.type ty) g) (hb:x∈bnames) (hg:glB c.sc x=true) (hv:bootBuiltins x=some (.type ty)) (hn:x≠"__name__") (hdb:(x==("__debug__":Str))=false)
  (ha:Oke X c a f) (hs:starEach [a] X.env=[(false,eval a X.env)]):Oke X c (.Call (.Name x p) [a] [] pos) (fun r=>(f r).bind fun x=>g x):=by
 refine zar (zgn hc (gd.gl x hg) (gd.nob x hb) hv (zbq ha hs) hn hdb hs rfl) fun O H Q q=>?_;obtain ⟨r,F,t,e,ht,q⟩:=q;obtain ⟨t1,e1,ht⟩:=obs ht;refine ⟨r,F,[t1],e,ud8.mpr ⟨t1,e1,rfl⟩,fun vs F' H' s1 r1=>?_⟩;obtain ⟨v,w,rfl,h1,h2⟩:=r1;cases h2;exact ⟨F',t1,t,v,rfl,s1.fh,h1,ht,fun v' F2 H2 s2 r2=>q v' F2 H2 (s1.trans s2) r2⟩
theorem zt3 (hcalm:X.calm=true) (hu:X.A.units+100<cLine):BlS X (.type "dict") (ya3 .dict):=by
 intro pj s O H xs us Q I r h;obtain ⟨F,t1,t,x,rfl,fh,r1,ht,q⟩:=h;cases t1 with
 | lst ts =>
  obtain ⟨l,hl,ht⟩:=obs (show ((ybo ts).bind fun l=>if l.length<=1000 then some (T.dt ((ybg l).map (·.1)) ((ybg l).map (·.2))) else none)=some t from ht);split at ht
  .rename_i hz;cases ht;exact yc6 hcalm hu pj s O H _ _ Q I r ⟨F,ts,l,x,rfl,fh,r1,hl,hz,q⟩
  .cases ht
 | _=>cases ht
theorem zv6 (gd:Gd X c G k) {kb:Bn} (hk:yem x=some kb) (hg:glB c.sc x=true) (ha:Oke X c a f) (hs:starEach [a] X.env=[(false,eval a X.env)]) :
  Oke X c (.Call (.Name x p) [a] [] pos) (fun r=>(f r).bind fun x=>ya3 kb x):=by
 unfold yem at hk;split at hk
 .rename_i e;have e:=ua2 e;subst e;cases hk;exact zhu gd zxq (by decide +kernel) hg PySem.boot_len (by decide) (by decide) ha hs
 .split at hk
  .rename_i e;have e:=ua2 e;subst e;cases hk;exact zeh gd zxr (by decide +kernel) hg PyProof.Rows.boot_int (by decide) (by decide) ha hs
  .split at hk
   .rename_i e;have e:=ua2 e;subst e;cases hk;exact zeh gd zxo (by decide +kernel) hg PyProof.Rows.boot_str (by decide) (by decide) ha hs
   .split at hk
    .rename_i e;have e:=ua2 e;subst e;cases hk;exact zeh gd zt2 (by decide +kernel) hg PyProof.Rows.boot_list (by decide) (by decide) ha hs
    .split at hk
     .rename_i e;have e:=ua2 e;subst e;cases hk;exact zeh gd zp0 (by decide +kernel) hg PyProof.Rows.boot_tuple (by decide) (by decide) ha hs
     .split at hk
      .rename_i e;have e:=ua2 e;subst e;cases hk;exact zhu gd (znj (by have:=gd.room.un;lia) gd.calm) (by decide +kernel) hg (show bootBuiltins "sorted"=some (.builtin "sorted") by decide +kernel) (by decide) (by decide) ha hs
      .cases hk
theorem zyi (gd:Gd X c G k) {kb:Bn} (hk:yfn x=some kb) (hg:glB c.sc x=true) (ha:Oke X c a f) (hs:starEach [a] X.env=[(false,eval a X.env)]) :
  Oke X c (.Call (.Name x p) [a] [] pos) (fun r=>(f r).bind fun x=>ya3 kb x):=by
 unfold yfn at hk;split at hk
 .rename_i e;have e:=ua2 e;subst e;cases hk;exact zeh gd (zt3 gd.calm (by have:=gd.room.un;lia)) (by decide +kernel) hg PyProof.Rows.boot_dict (by decide) (by decide) ha hs
 .split at hk
  .rename_i e;have e:=ua2 e;subst e;cases hk;exact zhu gd zxp (by decide +kernel) hg PyProof.Rows.boot_ord (by decide) (by decide) ha hs
  .exact zv6 gd hk hg ha hs
def tyS:Ty->String
 | .tint=>"int" | .tstr=>"str"
theorem zpx:ybl X (.builtin "isinstance") (fun xs H Q=>∃ F t1 x k,xs=[x,.ty (tyS k)]/\Same F H/\Rep X.K F t1 x/\Q (.bl (yew t1 k)) H):=by
 intro pj s O H xs us Q I r h;obtain ⟨F,t1,x,k,rfl,fh,r1,q⟩:=h;obtain ⟨u,w',rfl,rx,ry⟩:=ye0 r;cases ry;have fT:∀ b,b=yew t1 k->EP X pj O Q (.bool b) s:=fun b e=>by subst e;exact ⟨.bl _,H,I,rfl,q⟩
 have fF:∀ b,b=yew t1 k->EP X pj O Q (.bool b) { s with toks:=s.toks+1 }:=fun b e=>by subst e;exact ⟨.bl _,H,I.tok _,rfl,q⟩
 cases t1 with
 | non =>
  cases r1;cases rx;cases k
  .exact IsiPair.NoneType_int (fF _ rfl)
  .exact IsiPair.NoneType_str (fF _ rfl)
 | bl b =>
  cases r1;cases rx;cases k
  .exact IsiPair.bool_int (fT _ rfl)
  .exact IsiPair.bool_str (fF _ rfl)
 | int b =>
  cases r1;obtain ⟨t,rfl⟩:=rx;cases k
  .exact IsiPair.int_int (fT _ rfl)
  .exact IsiPair.int_str (fF _ rfl)
 | str b =>
  cases r1;obtain ⟨t,rfl⟩:=rx;cases k
  .exact IsiPair.str_int (fF _ rfl)
  .exact IsiPair.str_str (fT _ rfl)
 | tup ts =>
  obtain ⟨l,vs,rfl,h1,h2⟩:=r1;cases rx;obtain ⟨qc,_,⟨o,ho,hc,_⟩,_⟩:=I.tuple (zaj fh h1);cases k
  .exact IsiPair.tuple_int ho hc (fF _ rfl)
  .exact IsiPair.tuple_str ho hc (fF _ rfl)
 | lst ts =>
  obtain ⟨l,vs,rfl,h1,h2⟩:=r1;cases rx;obtain ⟨qc,_,⟨o,ho,hc,_⟩,_⟩:=zhn I (Ls.same fh h1);cases k
  .exact IsiPair.list_int ho hc (fF _ rfl)
  .exact IsiPair.list_str ho hc (fF _ rfl)
 | dk ks ts =>
  obtain ⟨l,vs,rfl,h1,h2⟩:=r1;cases rx;obtain ⟨o,ho,hc⟩:=zd8 I (.inl ⟨_,fh _ _ h1⟩);cases k
  .exact IsiPair.dict_int ho hc (fF _ rfl)
  .exact IsiPair.dict_str ho hc (fF _ rfl)
 | dt ks ts =>
  obtain ⟨l,vs,rfl,h1,h2⟩:=r1;cases rx;obtain ⟨o,ho,hc⟩:=zd8 I (.inr ⟨_,fh _ _ h1⟩);cases k
  .exact IsiPair.dict_int ho hc (fF _ rfl)
  .exact IsiPair.dict_str ho hc (fF _ rfl)
theorem zrd {k:Ty} (h:ye4 x=some k):bootBuiltins x=some (.type (tyS k))/\x∈bnames/\x≠"__name__"/\(x==("__debug__":Str))=false:=by
 unfold ye4 at h;split at h
 .rename_i e;have e:=ua2 e;subst e;cases h;exact ⟨PyProof.Rows.boot_str,by decide +kernel,by decide,by decide⟩
 .split at h
  .rename_i e;have e:=ua2 e;subst e;cases h;exact ⟨PyProof.Rows.boot_int,by decide +kernel,by decide,by decide⟩
  .cases h
theorem zv0 (gd:Gd X c G k) {ty:Str} {kt:Ty} {p2:Pos} (hk:ye4 ty=some kt) (hg:glB c.sc "isinstance"=true) (hgt:glB c.sc ty=true) (ha:Oke X c a f)
  (hs:starEach [a,.Name ty p2] X.env=(false,eval a X.env)::starEach [.Name ty p2] X.env):Oke X c (.Call (.Name "isinstance" p) [a,.Name ty p2] [] pos) (fun r=>(f r).bind fun x=>some (.bl (yew x kt))):=by
 obtain ⟨h1,h2,h3,h4⟩:=zrd hk;have hb:PE X (.Name ty p2) (tC (.ty (tyS kt))):=zsn (gd.gl ty hgt) (gd.nob ty h2) h1 rfl h3 h4;refine zar (ziv zpx (gd.gl _ hg) (gd.nob _ (by decide +kernel)) boot_isinstance (zhr ha (zhr hb zqj rfl) hs) (by decide) (by decide) hs rfl) fun O H Q q=>?_;obtain ⟨r,F,t,e,ht,q⟩:=q;obtain ⟨t1,e1,ht⟩:=obs ht;cases ht;refine ⟨r,F,t1,e,e1,fun v F' H' s1 r1=>?_⟩;exact ⟨F',t1,v,kt,rfl,s1.fh,r1,q _ F' H' s1 rfl⟩
theorem zfj {K:W.Frag} {F:Hp}:∀ {ts:List T} {vs:List V} {qc:List Value} {ys:List Str},Reps K F ts vs->Vals vs qc->yeh ts=some ys->StrsAre qc ys
 | [],_,_,_,h,r,e=>by cases h;cases r;cases e;exact .nil
 | .str x::ts,_,_,_,h,r,e=>by
  obtain ⟨v,w,rfl,h1,h2⟩:=h;cases h1;cases r with
  | cons r1 r2 =>obtain ⟨t,rfl⟩:=r1;obtain ⟨zs,e1,rfl⟩:=oms e;exact .cons _ _ (zfj h2 r2 e1)
 | .non::ts,_,_,_,h,r,e=>by cases e
 | .bl _::ts,_,_,_,h,r,e=>by cases e
 | .int _::ts,_,_,_,h,r,e=>by cases e
 | .tup _::ts,_,_,_,h,r,e=>by cases e
 | .lst _::ts,_,_,_,h,r,e=>by cases e
theorem zs8:MtR X "str.join" (fun x xs H Q=>∃ F t1 t2 t y,xs=[y]/\Same F H/\Rep X.K F t1 x/\Rep X.K F t2 y/\ybj .join t1 t2=some t/\∀ v F' H',Step F H F' H'->Rep X.K F' t v->Q v H'):=by
 intro pj s O H x xs v us Q I rx rs h;obtain ⟨F,t1,t2,t,y,rfl,fh,r1,r2,ht,q⟩:=h;obtain ⟨u,rfl,ru⟩:=ybb rs;cases t1 with
 | str sep =>
  cases r1;obtain ⟨tk,rfl⟩:=rx;have fin:∀ {ts:List T},ybk sep ts=some t->∃ ys,yeh ts=some ys/\sep.length<=16/\(ys.map (·.length)).sum+ys.length<=1048576/\t=.str (Str.join sep ys):=fun {ts} h=>by
   unfold ybk at h;obtain ⟨ys,e1,h⟩:=obs h;split at h
   .rename_i hz;cases h;exact ⟨ys,e1,hz.1,hz.2,rfl⟩
   .cases h
  have ej:∀ ys:List Str,Txt.join sep ys=Str.join sep ys:=fun ys=>StrLaws.glued_eq_join ..;cases t2 with
  | tup ts =>obtain ⟨ys,e1,z1,z2,rfl⟩:=fin ht;obtain ⟨l,vs,rfl,h1,h2⟩:=r2;cases ru;obtain ⟨qc,r',p',_⟩:=I.tuple (zaj fh h1);refine join_tupleW p' (by simpa using zfj h2 r' e1) z1 z2 fun t' k=>⟨.str _,H,I.tok _,⟨_,rfl⟩,?_⟩;rw [ej];exact q _ F H (Step.refl fh) rfl
  | lst ts =>obtain ⟨ys,e1,z1,z2,rfl⟩:=fin ht;obtain ⟨l,vs,rfl,h1,h2⟩:=r2;cases ru;obtain ⟨qc,r',p',_⟩:=zhn I (Ls.same fh h1);refine join_listW p' (by simpa using zfj h2 r' e1) z1 z2 fun t' k=>⟨.str _,H,I.tok _,⟨_,rfl⟩,?_⟩;rw [ej];exact q _ F H (Step.refl fh) rfl
  | _=>cases ht
 | _=>cases t2<;>cases ht
theorem zpg {x y:T} (hx:flat x=true) (hy:flat y=true):dpP x y=0:=by cases x<;>cases y<;>first | (cases hx;done) | (cases hy;done) | rfl
theorem zph {y:T} {xs:List T} (hy:flat y=true) (hx:xs.all flat=true):dpI y xs=true:=by unfold dpI;rw [uc0] at hx ⊢;intro z hz;rw [zpg (hx z hz) hy];rfl
theorem zit:∀ {ts:List T} {x:T} {i:Nat},zbh x ts=some i->∃ t,ts[i]?=some t/\eqT t x=true/\∀ (j:Nat) u,j<i->ts[j]?=some u->eqT u x=false
 | [],_,_,h=>by cases h
 | y::ts,x,i,h=>by
  simp only [zbh] at h;split at h
  .rename_i e;cases h;exact ⟨y,rfl,e,fun j u hj=>absurd hj (Nat.not_lt_zero _)⟩
  .rename_i e;obtain ⟨k,e1,rfl⟩:=oms h;obtain ⟨t,h1,h2,h3⟩:=zit e1;refine ⟨t,by simpa using h1,h2,fun j u hj hu=>?_⟩;cases j with
   | zero =>simp only [xgz,Option.some.injEq] at hu;subst hu;simpa using e
   | succ j=>exact h3 j u (by lia) (by simpa using hu)
theorem zoy (hu:X.A.units+100<cLine):MtR X "list.index" (fun x xs H Q=>∃ F t1 t2 t y,xs=[y]/\Same F H/\Rep X.K F t1 x/\Rep X.K F t2 y/\ybj .index t1 t2=some t/\∀ v F' H',Step F H F' H'->Rep X.K F' t v->Q v H'):=by
 intro pj s O H x xs v us Q I rx rs h;obtain ⟨F,t1,t2,t,y,rfl,fh,r1,r2,ht,q⟩:=h;obtain ⟨u,rfl,ru⟩:=ybb rs;cases t1 with
 | lst ts =>
  simp only [ybj] at ht;split at ht
  .rename_i hf;have hf:dpI t2 ts=true:=by
    rw [Bool.or_eq_true] at hf;rcases hf with hf | hf
    .rw [zy7] at hf;exact zph hf.1 hf.2
    .exact hf
   obtain ⟨i,hi,rfl⟩:=oms ht;obtain ⟨l,vs,rfl,h1,h2⟩:=r1;cases rx;obtain ⟨t0,a1,a2,a3⟩:=zit hi;obtain ⟨z,qc,n,r,ho⟩:=(Ls.same fh h1).ok I;obtain ⟨e,e1,e2⟩:=zep I fh (A:=X.A.in1) (show X.A.units+1+30<cLine by lia) r2 ru hf h2 r;have hlt:i<ts.length:=(ome a1).1;have hlen:qc.length=ts.length:=by have:=congrArg List.length e2;simpa using this
   have hz:ts.length<=sizeLine:=by have:=(zhn I (Ls.same fh h1)).choose_spec.2.2;rw [h2.length] at this;exact this
   have get:∀ (m:Nat) (hm:m<qc.toArray.size),∃ tm,ts[m]?=some tm/\e qc.toArray[m]=eqT tm t2:=fun m hm=>by
    have hm':m<ts.length:=by rw [<- hlen];simpa using hm
    refine ⟨ts[m],zy5 hm',?_⟩;have:=zze (fun l:List Bool=>l[m]?) e2;simp only [List.getElem?_map] at this;rw [zy5 hm',zy5 (show m<qc.length by rw [hlen];exact hm')] at this;simpa using this
   have hj:i<qc.toArray.size:=by rw [zy6,hlen];exact hlt
   refine call_meets PySem.F.slot_list_index ⟨_,ho,rfl⟩ PySem.F.entry_list_index (PySem.F.args_list_index_2 _ _) (PySem.SeqAt.list_indexAt l qc.toArray n _ _ u e i hj (by unfold sizeLine at hz;lia) ?_ ?_) ⟨ho,?_,?_⟩
   .obtain ⟨tm,g1,g2⟩:=get i hj;rw [g2];rw [a1] at g1;cases g1;exact a2
   .intro m hm hmi;obtain ⟨tm,g1,g2⟩:=get m hm;rw [g2];exact a3 m tm hmi g1
   .exact fun y hy=>e1 y (by simpa using hy)
   .exact ⟨.int _,H,I.tok _,⟨_,rfl⟩,q _ F H (Step.refl fh) rfl⟩
  .cases ht
 | _=>cases t2<;>cases ht
theorem zoz (hu:X.A.units+100<cLine):MtR X "list.count" (fun x xs H Q=>∃ F t1 t2 t y,xs=[y]/\Same F H/\Rep X.K F t1 x/\Rep X.K F t2 y/\ybj .count t1 t2=some t/\∀ v F' H',Step F H F' H'->Rep X.K F' t v->Q v H'):=by
 intro pj s O H x xs v us Q I rx rs h;obtain ⟨F,t1,t2,t,y,rfl,fh,r1,r2,ht,q⟩:=h;obtain ⟨u,rfl,ru⟩:=ybb rs;cases t1 with
 | lst ts =>
  simp only [ybj] at ht;split at ht
  .rename_i hf;cases ht;obtain ⟨l,vs,rfl,h1,h2⟩:=r1;cases rx;obtain ⟨z,qc,n,r,ho⟩:=(Ls.same fh h1).ok I;obtain ⟨e,e1,e2⟩:=zep I fh (A:=X.A.in1) (show X.A.units+1+30<cLine by lia) r2 ru hf h2 r;refine call_meets PySem.F.slot_list_count ⟨_,ho,rfl⟩ PySem.F.entry_list_count (PySem.F.args_list_count_2 _ _) (PySem.SeqAt.list_countAt l qc.toArray n _ _ u e) ⟨ho,fun y hy=>e1 y (by simpa using hy),?_⟩;refine ⟨.int _,H,I.tok _,⟨_,rfl⟩,q _ F H (Step.refl fh) ?_⟩;show V.int _=V.int _;have e3:qc.countP e=(ts.filter fun z=>eqT z t2).length:=by have:=zze (fun l:List Bool=>l.countP id) e2;simp only [List.countP_map,Function.comp_def,id] at this;rw [show qc.countP e=qc.countP (fun x=>e x) from rfl,this,List.countP_eq_length_filter]
   rw [List.toList_toArray,e3]
  .cases ht
 | _=>cases t2<;>cases ht
theorem zou (hu:X.A.units+100<cLine) (ho:Oke X c o f) (ha:Oke X c a g) (hbase:attributeBase o "count" X.env (eval o X.env)=eval o X.env) (hs:starEach [a] X.env=[(false,eval a X.env)]) (hl:(apos.endLine==cpos.line)=true) :
  Oke X c (.Call (.Attribute o "count" apos) [a] [] cpos) (fun r=>(f r).bind fun x=>(g r).bind fun y=>ybj .count x y):=by
 refine zar (zjz F.plainAttrs_list F.slot_list_count F.type_list_count (zoz hu) ho (zbq ha hs) hbase (by rw [hs];rfl) hl hs rfl) fun O H Q q=>?_;obtain ⟨r,F,t,e,ht,q⟩:=q;obtain ⟨t1,e1,ht⟩:=obs ht;obtain ⟨t2,e2,ht⟩:=obs ht;refine ⟨r,F,t1,e,e1,fun v F' H' s1 r1=>⟨?_,r,F',[t2],e.step s1,ud8.mpr ⟨t2,e2,rfl⟩,fun vs F2 H2 s2 r2=>?_⟩⟩
 .cases t1 with
  | lst z=>obtain ⟨l,vs,rfl,h1,h2⟩:=r1;exact .inl ⟨rfl,_,(Ls.same s1.fh h1).sq⟩
  | _=>cases t2<;>cases ht
 .obtain ⟨w,z,rfl,h1,h2⟩:=r2;cases h2;exact ⟨F2,t1,t2,t,w,rfl,s2.fh,r1.mono s2.ff,h1,ht,fun v' F3 H3 s3 r3=>q v' F3 H3 (s1.trans (s2.trans s3)) r3⟩
theorem zot (hu:X.A.units+100<cLine) (ho:Oke X c o f) (ha:Oke X c a g) (hbase:attributeBase o "index" X.env (eval o X.env)=eval o X.env) (hs:starEach [a] X.env=[(false,eval a X.env)]) (hl:(apos.endLine==cpos.line)=true) :
  Oke X c (.Call (.Attribute o "index" apos) [a] [] cpos) (fun r=>(f r).bind fun x=>(g r).bind fun y=>ybj .index x y):=by
 refine zar (zjz F.plainAttrs_list F.slot_list_index F.type_list_index (zoy hu) ho (zbq ha hs) hbase (by rw [hs];rfl) hl hs rfl) fun O H Q q=>?_;obtain ⟨r,F,t,e,ht,q⟩:=q;obtain ⟨t1,e1,ht⟩:=obs ht;obtain ⟨t2,e2,ht⟩:=obs ht;refine ⟨r,F,t1,e,e1,fun v F' H' s1 r1=>⟨?_,r,F',[t2],e.step s1,ud8.mpr ⟨t2,e2,rfl⟩,fun vs F2 H2 s2 r2=>?_⟩⟩
 .cases t1 with
  | lst z=>obtain ⟨l,vs,rfl,h1,h2⟩:=r1;exact .inl ⟨rfl,_,(Ls.same s1.fh h1).sq⟩
  | _=>cases t2<;>cases ht
 .obtain ⟨w,z,rfl,h1,h2⟩:=r2;cases h2;exact ⟨F2,t1,t2,t,w,rfl,s2.fh,r1.mono s2.ff,h1,ht,fun v' F3 H3 s3 r3=>q v' F3 H3 (s1.trans (s2.trans s3)) r3⟩
theorem zox:MtR X "str.zfill" (fun x xs H Q=>∃ F t1 t2 t y,xs=[y]/\Same F H/\Rep X.K F t1 x/\Rep X.K F t2 y/\ybj .zfill t1 t2=some t/\∀ v F' H',Step F H F' H'->Rep X.K F' t v->Q v H'):=by
 intro pj s O H x xs v us Q I rx rs h;obtain ⟨F,t1,t2,t,y,rfl,fh,r1,r2,ht,q⟩:=h;obtain ⟨u,rfl,ru⟩:=ybb rs;cases t1 with
 | str z =>
  cases t2 with
  | int n =>
   cases r1;cases r2;obtain ⟨tk,rfl⟩:=rx;obtain ⟨tk',rfl⟩:=ru;simp only [ybj] at ht;split at ht
   .rename_i hz;cases ht;have hl:PySem.Builtin.Str.tooLong n.toNat=false:=by unfold PySem.Builtin.Str.tooLong;rw [decide_eq_false_iff_not];unfold sizeLine;lia
    refine call_gives PySem.F.slot_str_zfill (typeIs_str _ _ _) PySem.F.entry_str_zfill (PySem.F.args_str_zfill_2 _ _) (gives_str_zfill z n tk tk' (by rw [Bool.or_eq_false_iff,decide_eq_false_iff_not,decide_eq_false_iff_not];lia) hl) ?_;exact post_val_or_made (fits_zfilled hl) fun t' k=>⟨.str _,H,I.tok _,⟨_,rfl⟩,q _ F H (Step.refl fh) rfl⟩
   .cases ht
  | _=>cases ht
 | _=>cases t2<;>cases ht
theorem zor (ho:Oke X c o f) (ha:Oke X c a g) (hbase:attributeBase o "zfill" X.env (eval o X.env)=eval o X.env) (hs:starEach [a] X.env=[(false,eval a X.env)]) (hl:(apos.endLine==cpos.line)=true) :
  Oke X c (.Call (.Attribute o "zfill" apos) [a] [] cpos) (fun r=>(f r).bind fun x=>(g r).bind fun y=>ybj .zfill x y):=by
 refine zar (zjz F.plainAttrs_str F.slot_str_zfill F.type_str_zfill zox ho (zbq ha hs) hbase (by rw [hs];rfl) hl hs rfl) fun O H Q q=>?_;obtain ⟨r,F,t,e,ht,q⟩:=q;obtain ⟨t1,e1,ht⟩:=obs ht;obtain ⟨t2,e2,ht⟩:=obs ht;refine ⟨r,F,t1,e,e1,fun v F' H' s1 r1=>⟨?_,r,F',[t2],e.step s1,ud8.mpr ⟨t2,e2,rfl⟩,fun vs F2 H2 s2 r2=>?_⟩⟩
 .cases t1 with
  | str z=>cases r1;rfl
  | _=>cases t2<;>cases ht
 .obtain ⟨w,z,rfl,h1,h2⟩:=r2;cases h2;exact ⟨F2,t1,t2,t,w,rfl,s2.fh,r1.mono s2.ff,h1,ht,fun v' F3 H3 s3 r3=>q v' F3 H3 (s1.trans (s2.trans s3)) r3⟩
theorem zsz (ho:Oke X c o f) (ha:Oke X c a g) (hbase:attributeBase o "join" X.env (eval o X.env)=eval o X.env) (hs:starEach [a] X.env=[(false,eval a X.env)]) (hl:(apos.endLine==cpos.line)=true) :
  Oke X c (.Call (.Attribute o "join" apos) [a] [] cpos) (fun r=>(f r).bind fun x=>(g r).bind fun y=>ybj .join x y):=by
 refine zar (zjz F.plainAttrs_str F.slot_str_join F.type_str_join zs8 ho (zbq ha hs) hbase (by rw [hs];rfl) hl hs rfl) fun O H Q q=>?_;obtain ⟨r,F,t,e,ht,q⟩:=q;obtain ⟨t1,e1,ht⟩:=obs ht;obtain ⟨t2,e2,ht⟩:=obs ht;refine ⟨r,F,t1,e,e1,fun v F' H' s1 r1=>⟨?_,r,F',[t2],e.step s1,ud8.mpr ⟨t2,e2,rfl⟩,fun vs F2 H2 s2 r2=>?_⟩⟩
 .cases t1 with
  | str z=>cases r1;rfl
  | _=>cases t2<;>cases ht
 .obtain ⟨w,z,rfl,h1,h2⟩:=r2;cases h2;exact ⟨F2,t1,t2,t,w,rfl,s2.fh,r1.mono s2.ff,h1,ht,fun v' F3 H3 s3 r3=>q v' F3 H3 (s1.trans (s2.trans s3)) r3⟩
end
end
end Ev
namespace L2
open PySem Spec PyProof.Rows
section
variable {Q:Value->Shared->Prop} {l1 l2:Addr} {xs ys:Array Value}
structure ZAp (z TI TO j1 j2:Addr) (f1 f2:List Addr):Prop where
 nz:TI≠z/\TO≠z/\j1≠z/\j2≠z
 nT:TI≠TO/\TI≠j1/\TI≠j2
 nO:TO≠j1/\TO≠j2
 nj:j1≠j2
 fz:z∉f1/\z∉f2
 fO:TO∉f1/\TO∉f2
 fj:j2∉f1/\j1∉f2
section
variable {prog:Program} {w:World} {A:Around} {E:Value->Shared->Prop} {s:Shared}
variable {z TI TO j1 j2:Addr} {f1 f2:List Addr} {n1 n2 k:Nat} {P1 P2:Nat->Value->Prop} {S1 S2:Nat->Heap->Prop} {a b:Value}
theorem zki (D1:Draws prog w A j1 f1 n1 P1 S1) (D2:Draws prog w A j2 f2 n2 P2 S2) (ap:ZAp z TI TO j1 j2 f1 f2)
  (hz:IsZip s.heap z TI TO .none) (hI:IsPair s.heap TI (.ref j1) (.ref j2)) (hO:IsPair s.heap TO a b) (t1:S1 k s.heap) (t2:S2 k s.heap) (l1:k<n1) (l2:k<n2)
  (hQ:∀ x y g tk,P1 k x->P2 k y->IsZip g z TI TO (rawInt s.heap.objs.size)->IsPair g TO x y->S1 (k+1) g->S2 (k+1) g->IsPair g s.heap.objs.size x y->g.objs.size=s.heap.objs.size+1 ->
   (∀ c o,c≠z->c≠TO->c≠j1->c≠j2->s.heap.get? c=some o->g.get? c=some o)->Q (.ref s.heap.objs.size) { s with heap:=g,toks:=tk }) :
  wpAny (model prog w) A (Builtin.«zip.__next__» ⟨[.ref z],[]⟩) (fun e s'=>∃ v,e=.done (.ret v)/\Q v s') E s:=by
 show wpAny _ _ (field (.ref z) 2 >>= _) _ _ s;refine zy2 (ub3 (x:=.bool false) hz rfl rfl ?_);show wpAny _ _ (field (.ref z) 3 >>= _) _ _ s;refine zy2 (ub3 (x:=.ref TI) hz rfl rfl (zy2 (uc9 hI rfl ?_)));show wpAny _ _ (Builtin.SmallTypes.ownedTupleIsFree (.ref z) >>= _) _ _ s;refine zy2 (show wpAny _ _ (Builtin.SmallTypes.ownedTupleIsFree (.ref z)) _ _ s from ?_);unfold Builtin.SmallTypes.ownedTupleIsFree;refine zy2 (ub3 (x:=.none) hz rfl rfl (zy9 ?_));simp only [if_true];refine zy2 (wpAny_rule (zy2 (ub3 (x:=.ref TO) hz rfl rfl ?_)));refine wpAny_bind (ud3 hz (by simp) fun g1 hz1 e1=>?_);replace hz1:IsZip g1 z TI TO .ellipsis:=hz1;refine zy2 (show wpAny _ _ _ _ _ _ from ?_);simp only [List.zipIdx_nil,List.zipIdx_cons,List.forIn_nil,List.forIn_cons];refine zy2 (zy2 (wpAny_onRaise ?_));show wpAny _ _ (Builtin.SmallTypes.nextOf (.ref j1) >>= _) _ _ { s with heap:=g1 };have q1:S1 k g1:=D1.frame _ _ _ t1 fun c hc o e=>e1.extBut _ _ (fun y=>ap.fz.1 (y▸hc)) e;refine zy2 (D1.item k _ _ _ l1 q1 fun x g2 tk2 hx u1 e2=>zy9 ?_);have hO2:IsPair g2 TO a b:=e2.extBut _ _ ap.nO.1 (e1.extBut _ _ ap.nz.2.1 hO);refine zy2 (uc9 hO2 rfl (zy2 (wpAny_updateSeq_pair hO2 fun g3 hO3 e3=>?_)));replace hO3:IsPair g3 TO x b:=hO3;refine zy2 (wpAny_letGo (zy9 (zy2 (zy2 (wpAny_onRaise ?_)))));show wpAny _ _ (Builtin.SmallTypes.nextOf (.ref j2) >>= _) _ _ { s with heap:=g3,toks:=tk2 };have q2:S2 k g3:=D2.frame _ _ _ t2 fun c hc o e=>e3.extBut _ _ (fun y=>ap.fO.2 (y▸hc)) (e2.extBut _ _ (fun y=>ap.fj.2 (y▸hc)) (e1.extBut _ _ (fun y=>ap.fz.2 (y▸hc)) e));refine zy2 (D2.item k _ _ _ l2 q2 fun y g4 tk4 hy u2 e4=>zy9 ?_);have hO4:IsPair g4 TO x b:=e4.extBut _ _ ap.nO.2 hO3;refine zy2 (uc9 hO4 rfl (zy2 (wpAny_updateSeq_pair hO4 fun g5 hO5 e5=>?_)));replace hO5:IsPair g5 TO x y:=hO5;refine zy2 (wpAny_letGo (zy9 (zy9 (zy2 (uc9 hO5 rfl (zy2 (wpAny_newTuple ?_)))))));have sz:g5.objs.size=s.heap.objs.size:=by rw [e5.1,e4.1,e3.1,e2.1,e1.1]
 have hz5:IsZip g5 z TI TO .ellipsis:=e5.extBut _ _ (Ne.symm ap.nz.2.1) (e4.extBut _ _ (Ne.symm ap.nz.2.2.2) (e3.extBut _ _ (Ne.symm ap.nz.2.1) (e2.extBut _ _ (Ne.symm ap.nz.2.2.1) hz1)));have k5:∀ c o,c≠z->c≠TO->c≠j1->c≠j2->s.heap.get? c=some o->g5.get? c=some o:=fun c o c1 c2 c3 c4 e=>e5.extBut _ _ c2 (e4.extBut _ _ c4 (e3.extBut _ _ c2 (e2.extBut _ _ c3 (e1.extBut _ _ c1 e))));have v1:S1 (k+1) g5:=D1.frame _ _ _ u1 fun c hc o e=>e5.extBut _ _ (fun y=>ap.fO.1 (y▸hc)) (e4.extBut _ _ (fun y=>ap.fj.1 (y▸hc)) (e3.extBut _ _ (fun y=>ap.fO.1 (y▸hc)) e));have v2:S2 (k+1) g5:=D2.frame _ _ _ u2 fun c hc o e=>e5.extBut _ _ (fun y=>ap.fO.2 (y▸hc)) e;have ltz:z<g5.objs.size:=zzd hz5;show wpAny _ _ (Builtin.SmallTypes.ownedTupleHandOut (.ref z) (.ref g5.objs.size) >>= _) _ _ _;refine zy2 (show wpAny _ _ (Builtin.SmallTypes.ownedTupleHandOut (.ref z) (.ref g5.objs.size)) _ _ _ from ?_);unfold Builtin.SmallTypes.ownedTupleHandOut;have hz6:IsZip (g5.push { cls:=.type "tuple",data:=.seq #[x,y] }) z TI TO .ellipsis:=zyz _ hz5;refine wpAny_bind (ud3 hz6 (by simp) fun g7 hz7 e7=>?_);replace hz7:IsZip g7 z TI TO (rawInt g5.objs.size):=hz7;refine ud3 hz7 (by simp) fun g8 hz8 e8=>?_;replace hz8:IsZip g8 z TI TO (rawInt g5.objs.size):=hz8;have up:∀ c o,c≠z->g5.get? c=some o->g8.get? c=some o:=fun c o c1 e=>e8.extBut _ _ c1 (e7.extBut _ _ c1 (zyz _ e));have hT8:IsPair g8 g5.objs.size x y:=e8.extBut _ _ (Nat.ne_of_gt ltz) (e7.extBut _ _ (Nat.ne_of_gt ltz) (zy8 _ rfl));have sz8:g8.objs.size=g5.objs.size+1:=by rw [e8.1,e7.1,zzh]
 rw [sz] at hz8 hT8 sz8;refine zy9 ⟨_,rfl,?_⟩;show Q (.ref g5.objs.size) { s with heap:=g8,toks:=tk4 };rw [sz];exact hQ x y g8 tk4 hx hy hz8 (up _ _ ap.nz.2.1 hO5) (D1.frame _ _ _ v1 fun c hc o e=>up c o (fun y=>ap.fz.1 (y▸hc)) e) (D2.frame _ _ _ v2 fun c hc o e=>up c o (fun y=>ap.fz.2 (y▸hc)) e) hT8 sz8
  fun c o c1 c2 c3 c4 e=>up c o c1 (k5 c o c1 c2 c3 c4 e)
theorem zno {Q:Fin->Shared->Prop} (D1:Draws prog w A j1 f1 n1 P1 S1) (D2:Draws prog w A j2 f2 n2 P2 S2) (ap:ZAp z TI TO j1 j2 f1 f2)
  (hz:IsZip s.heap z TI TO .none) (hI:IsPair s.heap TI (.ref j1) (.ref j2)) (hO:IsPair s.heap TO a b) (t1:S1 k s.heap) (t2:S2 k s.heap) (hk:k=n1\/k<n1/\k=n2)
  (hE:∀ g e tk,(∀ c o,c≠z->c≠TO->c≠j1->c≠j2->s.heap.get? c=some o->g.get? c=some o)->(∃ o,g.get? e=some o/\o.cls=.type "StopIteration")->E (.ref e) { s with heap:=g,toks:=tk }) :
  wpAny (model prog w) A (Builtin.«zip.__next__» ⟨[.ref z],[]⟩) Q E s:=by
 show wpAny _ _ (field (.ref z) 2 >>= _) _ _ s;refine zy2 (ub3 (x:=.bool false) hz rfl rfl ?_);show wpAny _ _ (field (.ref z) 3 >>= _) _ _ s;refine zy2 (ub3 (x:=.ref TI) hz rfl rfl (zy2 (uc9 hI rfl ?_)));show wpAny _ _ (Builtin.SmallTypes.ownedTupleIsFree (.ref z) >>= _) _ _ s;refine zy2 (show wpAny _ _ (Builtin.SmallTypes.ownedTupleIsFree (.ref z)) _ _ s from ?_);unfold Builtin.SmallTypes.ownedTupleIsFree;refine zy2 (ub3 (x:=.none) hz rfl rfl (zy9 ?_));simp only [if_true];refine zy2 (wpAny_rule (zy2 (ub3 (x:=.ref TO) hz rfl rfl ?_)));refine wpAny_bind (ud3 hz (by simp) fun g1 hz1 e1=>?_);replace hz1:IsZip g1 z TI TO .ellipsis:=hz1;refine zy2 (show wpAny _ _ _ _ _ _ from ?_);simp only [List.zipIdx_nil,List.zipIdx_cons,List.forIn_nil,List.forIn_cons];refine zy2 (zy2 (wpAny_onRaise ?_));show wpAny _ _ (Builtin.SmallTypes.nextOf (.ref j1) >>= _) _ _ { s with heap:=g1 };have q1:S1 k g1:=D1.frame _ _ _ t1 fun c hc o e=>e1.extBut _ _ (fun y=>ap.fz.1 (y▸hc)) e;rcases hk with rfl | ⟨hlt,rfl⟩
 .refine zy2 (D1.done _ _ _ q1 fun g2 e e2 he=>?_);obtain ⟨oe,hoe,hce⟩:=he;have hz2:IsZip g2 z TI TO .ellipsis:=e2 _ _ (Ne.symm ap.nz.2.2.1) hz1;have ez:e≠z:=fun y=>by subst y;rw [hz2] at hoe;cases hoe;simp at hce
  exact ud3 hz2 (by simp) fun g3 _ e3=>hE g3 e s.toks (fun c o c1 _ c3 _ y=>e3.extBut _ _ c1 (e2 _ _ c3 (e1.extBut _ _ c1 y))) ⟨oe,e3.extBut _ _ ez hoe,hce⟩
 .refine zy2 (D1.item _ _ _ _ hlt q1 fun x g2 tk2 hx u1 e2=>zy9 ?_);have hO2:IsPair g2 TO a b:=e2.extBut _ _ ap.nO.1 (e1.extBut _ _ ap.nz.2.1 hO);refine zy2 (uc9 hO2 rfl (zy2 (wpAny_updateSeq_pair hO2 fun g3 hO3 e3=>?_)));refine zy2 (wpAny_letGo (zy9 (zy2 (zy2 (wpAny_onRaise ?_)))));show wpAny _ _ (Builtin.SmallTypes.nextOf (.ref j2) >>= _) _ _ { s with heap:=g3,toks:=tk2 };have q2:S2 k g3:=D2.frame _ _ _ t2 fun c hc o e=>e3.extBut _ _ (fun y=>ap.fO.2 (y▸hc)) (e2.extBut _ _ (fun y=>ap.fj.2 (y▸hc)) (e1.extBut _ _ (fun y=>ap.fz.2 (y▸hc)) e));refine zy2 (D2.done _ _ _ q2 fun g4 e e4 he=>?_);obtain ⟨oe,hoe,hce⟩:=he;have hz4:IsZip g4 z TI TO .ellipsis:=e4 _ _ (Ne.symm ap.nz.2.2.2) (e3.extBut _ _ (Ne.symm ap.nz.2.1) (e2.extBut _ _ (Ne.symm ap.nz.2.2.1) hz1));have ez:e≠z:=fun y=>by subst y;rw [hz4] at hoe;cases hoe;simp at hce
  exact ud3 hz4 (by simp) fun g5 _ e5=>hE g5 e tk2 (fun c o c1 c2 c3 c4 y=>e5.extBut _ _ c1 (e4 _ _ c4 (e3.extBut _ _ c2 (e2.extBut _ _ c3 (e1.extBut _ _ c1 y))))) ⟨oe,e5.extBut _ _ ez hoe,hce⟩
theorem zj2 {Q:Option Value->Shared->Prop} (D1:Draws prog w A.in1 j1 f1 n1 P1 S1) (D2:Draws prog w A.in1 j2 f2 n2 P2 S2) (ap:ZAp z TI TO j1 j2 f1 f2)
  (hz:IsZip s.heap z TI TO .none) (hI:IsPair s.heap TI (.ref j1) (.ref j2)) (hO:IsPair s.heap TO a b) (t1:S1 k s.heap) (t2:S2 k s.heap) (l1:k<n1) (l2:k<n2)
  (hQ:∀ x y g tk,P1 k x->P2 k y->IsZip g z TI TO (rawInt s.heap.objs.size)->IsPair g TO x y->S1 (k+1) g->S2 (k+1) g->IsPair g s.heap.objs.size x y->g.objs.size=s.heap.objs.size+1 ->
   (∀ c o,c≠z->c≠TO->c≠j1->c≠j2->s.heap.get? c=some o->g.get? c=some o)->Q (some (.ref s.heap.objs.size)) { s with heap:=g,toks:=tk }):wpAny (model prog w) A (pyNext (.ref z)) Q E s:=by
 have ty:s.TypeIs (.ref z) "zip":=⟨_,hz,rfl⟩;unfold pyNext;exact zy2 (wpAny_attempt (zz1 (name:=Str.ofString "__next__") ty F.slot_zip_next (zz5 F.slot_zip_next ty F.entry_zip_next
  (zki D1 D2 ap hz hI hO t1 t2 l1 l2 fun x y g tk b1 b2 b3 b4 b5 b6 b7 b8 b9=>zy9 (hQ x y g tk b1 b2 b3 b4 b5 b6 b7 b8 b9)) (F.args_zip_next_1 _))))
theorem zlo {Q:Option Value->Shared->Prop} (D1:Draws prog w A.in1 j1 f1 n1 P1 S1) (D2:Draws prog w A.in1 j2 f2 n2 P2 S2) (ap:ZAp z TI TO j1 j2 f1 f2)
  (hz:IsZip s.heap z TI TO .none) (hI:IsPair s.heap TI (.ref j1) (.ref j2)) (hO:IsPair s.heap TO a b) (t1:S1 k s.heap) (t2:S2 k s.heap) (hk:k=n1\/k<n1/\k=n2)
  (hQ:∀ g tk,(∀ c o,c≠z->c≠TO->c≠j1->c≠j2->s.heap.get? c=some o->g.get? c=some o)->Q none { s with heap:=g,toks:=tk }):wpAny (model prog w) A (pyNext (.ref z)) Q E s:=by
 have ty:s.TypeIs (.ref z) "zip":=⟨_,hz,rfl⟩;unfold pyNext;refine zy2 (wpAny_attempt (zz1 (name:=Str.ofString "__next__") ty F.slot_zip_next (zz5 F.slot_zip_next ty F.entry_zip_next
  (zno D1 D2 ap hz hI hO t1 t2 hk fun g e tk hc he=>?_) (F.args_zip_next_1 _))))
 obtain ⟨o,ho,hc2⟩:=he;exact zy2 (wpAny_isInstance (b:=true) (T:="StopIteration") ⟨o,ho,hc2⟩ isSubtype_stop (zy9 (hQ _ _ hc)))
end
abbrev yds (h:Heap) (l1:Addr):Heap:=h.push { cls:=.type "list_iterator",data:=.fields #[.ref l1,.int 0 0] }
abbrev yd7 (h:Heap) (l1 l2:Addr):Heap:=(yds h l1).push { cls:=.type "list_iterator",data:=.fields #[.ref l2,.int 0 0] }
abbrev ydl (h:Heap) (l1 l2:Addr):Heap:=(yd7 h l1 l2).push { cls:=.type "tuple",data:=.seq #[.ref h.objs.size,.ref (yds h l1).objs.size] }
abbrev yd3 (h:Heap) (l1 l2:Addr):Heap:=(ydl h l1 l2).push { cls:=.type "tuple",data:=.seq #[.none,.none] }
abbrev ycv (h:Heap) (l1 l2:Addr):Heap:=(yd3 h l1 l2).push { cls:=.type "zip",data:=.fields #[.none,.bool false,.bool false,.ref (yd7 h l1 l2).objs.size,.ref (ydl h l1 l2).objs.size] }
theorem zlz (l1 l2:Addr) (xs ys:Array Value):Meets (Builtin.«zip.__new__» ⟨[.type "zip",.ref l1,.ref l2],[]⟩) (fun _ R s=>s.heap.IsList l1 xs/\s.heap.IsList l2 ys /\
   R (.ok (.ret (.ref (yd3 s.heap l1 l2).objs.size))) { s with heap:=ycv s.heap l1 l2 }) :=
 .of_wp fun prog w A R s q=>by
  obtain ⟨hp,gs,dr,tk,os⟩:=s;obtain ⟨q1,q2,q⟩:=q;have hsub:=sub_zip;have y1:Heap.IsList (Shared.heap ⟨hp,gs,dr,tk,os⟩) l1 xs:=q1;have y2:Heap.IsList (Shared.heap ⟨hp.push { cls:=.type "list_iterator",data:=.fields #[.ref l1,.int 0 0] },gs,dr,tk,os⟩) l2 ys:=Heap.IsList.push q2 _
  wp_walk using wpAny_pyIter_list y1,wpAny_pyIter_list y2
  exact ⟨_,rfl,q⟩
theorem zpw {prog:Program} {w:World} {A:Around} {E:Value->Shared->Prop} {s:Shared} (q1:s.heap.IsList l1 xs) (q2:s.heap.IsList l2 ys)
  (q:∀ g,IsZip g (s.heap.objs.size+4) (s.heap.objs.size+2) (s.heap.objs.size+3) .none->IsPair g (s.heap.objs.size+2) (.ref s.heap.objs.size) (.ref (s.heap.objs.size+1))->IsPair g (s.heap.objs.size+3) .none .none ->
   g.IsListIter s.heap.objs.size l1 0->g.IsListIter (s.heap.objs.size+1) l2 0->g.objs.size=s.heap.objs.size+5->(∀ c o,s.heap.get? c=some o->g.get? c=some o)->Q (.ref (s.heap.objs.size+4)) { s with heap:=g }) :
  wpAny (model prog w) A (call (.type "zip") [.ref l1,.ref l2]) Q E s:=by
 refine callType_new F.called_zip (by decide) (F.typeCall_zip_2 _ _) (F.newCall_zip_2 _ _) (fun ob=>F.args_object_init_3 ob _ _) F.entry_zip_new (zlz l1 l2 xs ys) ⟨q1,q2,?_⟩;have a1:(yds s.heap l1).objs.size=s.heap.objs.size+1:=zzh ..;have a2:(yd7 s.heap l1 l2).objs.size=s.heap.objs.size+2:=by rw [zzh,a1]
 have a3:(ydl s.heap l1 l2).objs.size=s.heap.objs.size+3:=by rw [zzh,a2]
 have a4:(yd3 s.heap l1 l2).objs.size=s.heap.objs.size+4:=by rw [zzh,a3]
 have a5:(ycv s.heap l1 l2).objs.size=s.heap.objs.size+5:=by rw [zzh,a4]
 have b5:(ycv s.heap l1 l2).get? (yd3 s.heap l1 l2).objs.size=some _:=zy8 _ rfl;have b4:(ycv s.heap l1 l2).get? (ydl s.heap l1 l2).objs.size=some _:=zyz _ (zy8 _ rfl);have b3:(ycv s.heap l1 l2).get? (yd7 s.heap l1 l2).objs.size=some _:=zyz _ (zyz _ (zy8 _ rfl));have b2:(ycv s.heap l1 l2).get? (yds s.heap l1).objs.size=some _:=zyz _ (zyz _ (zyz _ (zy8 _ rfl)));have b1:(ycv s.heap l1 l2).get? s.heap.objs.size=some _:=zyz _ (zyz _ (zyz _ (zyz _ (zy8 _ rfl))));show _/\_;rw [a2,a3,a4] at b5;rw [a1,a2] at b3;rw [a3] at b4;rw [a1] at b2;rw [a4];exact ⟨⟨_,b5,rfl⟩,q _ b5 b3 b4 ⟨_,b1,rfl,rfl⟩ ⟨_,b2,rfl,rfl⟩ a5 fun c o y=>zyz _ (zyz _ (zyz _ (zyz _ (zyz _ y))))⟩
abbrev ydu (h:Heap) (l1:Addr):Heap:=h.push { cls:=.type "list_iterator",data:=.fields #[.ref l1,.int 0 0] }
abbrev ydr (h:Heap) (l1 l2:Addr):Heap:=(ydu h l1).push { cls:=.type "tuple_iterator",data:=.fields #[.ref l2,.int 0 0] }
abbrev ydw (h:Heap) (l1 l2:Addr):Heap:=(ydr h l1 l2).push { cls:=.type "tuple",data:=.seq #[.ref h.objs.size,.ref (ydu h l1).objs.size] }
abbrev ydy (h:Heap) (l1 l2:Addr):Heap:=(ydw h l1 l2).push { cls:=.type "tuple",data:=.seq #[.none,.none] }
abbrev ycs (h:Heap) (l1 l2:Addr):Heap:=(ydy h l1 l2).push { cls:=.type "zip",data:=.fields #[.none,.bool false,.bool false,.ref (ydr h l1 l2).objs.size,.ref (ydw h l1 l2).objs.size] }
theorem zly (l1 l2:Addr) (xs ys:Array Value):Meets (Builtin.«zip.__new__» ⟨[.type "zip",.ref l1,.ref l2],[]⟩) (fun _ R s=>s.heap.IsList l1 xs/\s.heap.IsTuple l2 ys /\
   R (.ok (.ret (.ref (ydy s.heap l1 l2).objs.size))) { s with heap:=ycs s.heap l1 l2 }) :=
 .of_wp fun prog w A R s q=>by
  obtain ⟨hp,gs,dr,tk,os⟩:=s;obtain ⟨q1,q2,q⟩:=q;have hsub:=sub_zip;have y1:Heap.IsList (Shared.heap ⟨hp,gs,dr,tk,os⟩) l1 xs:=q1;have y2:Heap.IsTuple (Shared.heap ⟨hp.push { cls:=.type "list_iterator",data:=.fields #[.ref l1,.int 0 0] },gs,dr,tk,os⟩) l2 ys:=let ⟨o,ho,r⟩:=q2;⟨o,zyz _ ho,r⟩
  wp_walk using wpAny_pyIter_list y1,ub7 y2
  exact ⟨_,rfl,q⟩
theorem zpv {prog:Program} {w:World} {A:Around} {E:Value->Shared->Prop} {s:Shared} (q1:s.heap.IsList l1 xs) (q2:s.heap.IsTuple l2 ys)
  (q:∀ g,IsZip g (s.heap.objs.size+4) (s.heap.objs.size+2) (s.heap.objs.size+3) .none->IsPair g (s.heap.objs.size+2) (.ref s.heap.objs.size) (.ref (s.heap.objs.size+1))->IsPair g (s.heap.objs.size+3) .none .none ->
   g.IsListIter s.heap.objs.size l1 0->g.IsTupleIter (s.heap.objs.size+1) l2 0->g.objs.size=s.heap.objs.size+5->(∀ c o,s.heap.get? c=some o->g.get? c=some o)->Q (.ref (s.heap.objs.size+4)) { s with heap:=g }) :
  wpAny (model prog w) A (call (.type "zip") [.ref l1,.ref l2]) Q E s:=by
 refine callType_new F.called_zip (by decide) (F.typeCall_zip_2 _ _) (F.newCall_zip_2 _ _) (fun ob=>F.args_object_init_3 ob _ _) F.entry_zip_new (zly l1 l2 xs ys) ⟨q1,q2,?_⟩;have a1:(ydu s.heap l1).objs.size=s.heap.objs.size+1:=zzh ..;have a2:(ydr s.heap l1 l2).objs.size=s.heap.objs.size+2:=by rw [zzh,a1]
 have a3:(ydw s.heap l1 l2).objs.size=s.heap.objs.size+3:=by rw [zzh,a2]
 have a4:(ydy s.heap l1 l2).objs.size=s.heap.objs.size+4:=by rw [zzh,a3]
 have a5:(ycs s.heap l1 l2).objs.size=s.heap.objs.size+5:=by rw [zzh,a4]
 have b5:(ycs s.heap l1 l2).get? (ydy s.heap l1 l2).objs.size=some _:=zy8 _ rfl;have b4:(ycs s.heap l1 l2).get? (ydw s.heap l1 l2).objs.size=some _:=zyz _ (zy8 _ rfl);have b3:(ycs s.heap l1 l2).get? (ydr s.heap l1 l2).objs.size=some _:=zyz _ (zyz _ (zy8 _ rfl));have b2:(ycs s.heap l1 l2).get? (ydu s.heap l1).objs.size=some _:=zyz _ (zyz _ (zyz _ (zy8 _ rfl)));have b1:(ycs s.heap l1 l2).get? s.heap.objs.size=some _:=zyz _ (zyz _ (zyz _ (zyz _ (zy8 _ rfl))));show _/\_;rw [a2,a3,a4] at b5;rw [a1,a2] at b3;rw [a3] at b4;rw [a1] at b2;rw [a4];exact ⟨⟨_,b5,rfl⟩,q _ b5 b3 b4 ⟨_,b1,rfl,rfl⟩ ⟨_,b2,rfl,rfl⟩ a5 fun c o y=>zyz _ (zyz _ (zyz _ (zyz _ (zyz _ y))))⟩
abbrev ydt (h:Heap) (l1:Addr):Heap:=h.push { cls:=.type "tuple_iterator",data:=.fields #[.ref l1,.int 0 0] }
abbrev yd0 (h:Heap) (l1 l2:Addr):Heap:=(ydt h l1).push { cls:=.type "list_iterator",data:=.fields #[.ref l2,.int 0 0] }
abbrev ydn (h:Heap) (l1 l2:Addr):Heap:=(yd0 h l1 l2).push { cls:=.type "tuple",data:=.seq #[.ref h.objs.size,.ref (ydt h l1).objs.size] }
abbrev ydp (h:Heap) (l1 l2:Addr):Heap:=(ydn h l1 l2).push { cls:=.type "tuple",data:=.seq #[.none,.none] }
abbrev ycu (h:Heap) (l1 l2:Addr):Heap:=(ydp h l1 l2).push { cls:=.type "zip",data:=.fields #[.none,.bool false,.bool false,.ref (yd0 h l1 l2).objs.size,.ref (ydn h l1 l2).objs.size] }
theorem zlx (l1 l2:Addr) (xs ys:Array Value):Meets (Builtin.«zip.__new__» ⟨[.type "zip",.ref l1,.ref l2],[]⟩) (fun _ R s=>s.heap.IsTuple l1 xs/\s.heap.IsList l2 ys /\
   R (.ok (.ret (.ref (ydp s.heap l1 l2).objs.size))) { s with heap:=ycu s.heap l1 l2 }) :=
 .of_wp fun prog w A R s q=>by
  obtain ⟨hp,gs,dr,tk,os⟩:=s;obtain ⟨q1,q2,q⟩:=q;have hsub:=sub_zip;have y1:Heap.IsTuple (Shared.heap ⟨hp,gs,dr,tk,os⟩) l1 xs:=q1;have y2:Heap.IsList (Shared.heap ⟨hp.push { cls:=.type "tuple_iterator",data:=.fields #[.ref l1,.int 0 0] },gs,dr,tk,os⟩) l2 ys:=Heap.IsList.push q2 _
  wp_walk using ub7 y1,wpAny_pyIter_list y2
  exact ⟨_,rfl,q⟩
theorem zpu {prog:Program} {w:World} {A:Around} {E:Value->Shared->Prop} {s:Shared} (q1:s.heap.IsTuple l1 xs) (q2:s.heap.IsList l2 ys)
  (q:∀ g,IsZip g (s.heap.objs.size+4) (s.heap.objs.size+2) (s.heap.objs.size+3) .none->IsPair g (s.heap.objs.size+2) (.ref s.heap.objs.size) (.ref (s.heap.objs.size+1))->IsPair g (s.heap.objs.size+3) .none .none ->
   g.IsTupleIter s.heap.objs.size l1 0->g.IsListIter (s.heap.objs.size+1) l2 0->g.objs.size=s.heap.objs.size+5->(∀ c o,s.heap.get? c=some o->g.get? c=some o)->Q (.ref (s.heap.objs.size+4)) { s with heap:=g }) :
  wpAny (model prog w) A (call (.type "zip") [.ref l1,.ref l2]) Q E s:=by
 refine callType_new F.called_zip (by decide) (F.typeCall_zip_2 _ _) (F.newCall_zip_2 _ _) (fun ob=>F.args_object_init_3 ob _ _) F.entry_zip_new (zlx l1 l2 xs ys) ⟨q1,q2,?_⟩;have a1:(ydt s.heap l1).objs.size=s.heap.objs.size+1:=zzh ..;have a2:(yd0 s.heap l1 l2).objs.size=s.heap.objs.size+2:=by rw [zzh,a1]
 have a3:(ydn s.heap l1 l2).objs.size=s.heap.objs.size+3:=by rw [zzh,a2]
 have a4:(ydp s.heap l1 l2).objs.size=s.heap.objs.size+4:=by rw [zzh,a3]
 have a5:(ycu s.heap l1 l2).objs.size=s.heap.objs.size+5:=by rw [zzh,a4]
 have b5:(ycu s.heap l1 l2).get? (ydp s.heap l1 l2).objs.size=some _:=zy8 _ rfl;have b4:(ycu s.heap l1 l2).get? (ydn s.heap l1 l2).objs.size=some _:=zyz _ (zy8 _ rfl);have b3:(ycu s.heap l1 l2).get? (yd0 s.heap l1 l2).objs.size=some _:=zyz _ (zyz _ (zy8 _ rfl));have b2:(ycu s.heap l1 l2).get? (ydt s.heap l1).objs.size=some _:=zyz _ (zyz _ (zyz _ (zy8 _ rfl)));have b1:(ycu s.heap l1 l2).get? s.heap.objs.size=some _:=zyz _ (zyz _ (zyz _ (zyz _ (zy8 _ rfl))));show _/\_;rw [a2,a3,a4] at b5;rw [a1,a2] at b3;rw [a3] at b4;rw [a1] at b2;rw [a4];exact ⟨⟨_,b5,rfl⟩,q _ b5 b3 b4 ⟨_,b1,rfl,rfl⟩ ⟨_,b2,rfl,rfl⟩ a5 fun c o y=>zyz _ (zyz _ (zyz _ (zyz _ (zyz _ y))))⟩
abbrev ydz (h:Heap) (l1:Addr):Heap:=h.push { cls:=.type "tuple_iterator",data:=.fields #[.ref l1,.int 0 0] }
abbrev yd9 (h:Heap) (l1 l2:Addr):Heap:=(ydz h l1).push { cls:=.type "tuple_iterator",data:=.fields #[.ref l2,.int 0 0] }
abbrev ydo (h:Heap) (l1 l2:Addr):Heap:=(yd9 h l1 l2).push { cls:=.type "tuple",data:=.seq #[.ref h.objs.size,.ref (ydz h l1).objs.size] }
abbrev yee (h:Heap) (l1 l2:Addr):Heap:=(ydo h l1 l2).push { cls:=.type "tuple",data:=.seq #[.none,.none] }
abbrev ycw (h:Heap) (l1 l2:Addr):Heap:=(yee h l1 l2).push { cls:=.type "zip",data:=.fields #[.none,.bool false,.bool false,.ref (yd9 h l1 l2).objs.size,.ref (ydo h l1 l2).objs.size] }
theorem zlw (l1 l2:Addr) (xs ys:Array Value):Meets (Builtin.«zip.__new__» ⟨[.type "zip",.ref l1,.ref l2],[]⟩) (fun _ R s=>s.heap.IsTuple l1 xs/\s.heap.IsTuple l2 ys /\
   R (.ok (.ret (.ref (yee s.heap l1 l2).objs.size))) { s with heap:=ycw s.heap l1 l2 }) :=
 .of_wp fun prog w A R s q=>by
  obtain ⟨hp,gs,dr,tk,os⟩:=s;obtain ⟨q1,q2,q⟩:=q;have hsub:=sub_zip;have y1:Heap.IsTuple (Shared.heap ⟨hp,gs,dr,tk,os⟩) l1 xs:=q1;have y2:Heap.IsTuple (Shared.heap ⟨hp.push { cls:=.type "tuple_iterator",data:=.fields #[.ref l1,.int 0 0] },gs,dr,tk,os⟩) l2 ys:=let ⟨o,ho,r⟩:=q2;⟨o,zyz _ ho,r⟩
  wp_walk using ub7 y1,ub7 y2
  exact ⟨_,rfl,q⟩
theorem zpt {prog:Program} {w:World} {A:Around} {E:Value->Shared->Prop} {s:Shared} (q1:s.heap.IsTuple l1 xs) (q2:s.heap.IsTuple l2 ys)
  (q:∀ g,IsZip g (s.heap.objs.size+4) (s.heap.objs.size+2) (s.heap.objs.size+3) .none->IsPair g (s.heap.objs.size+2) (.ref s.heap.objs.size) (.ref (s.heap.objs.size+1))->IsPair g (s.heap.objs.size+3) .none .none ->
   g.IsTupleIter s.heap.objs.size l1 0->g.IsTupleIter (s.heap.objs.size+1) l2 0->g.objs.size=s.heap.objs.size+5->(∀ c o,s.heap.get? c=some o->g.get? c=some o)->Q (.ref (s.heap.objs.size+4)) { s with heap:=g }) :
  wpAny (model prog w) A (call (.type "zip") [.ref l1,.ref l2]) Q E s:=by
 refine callType_new F.called_zip (by decide) (F.typeCall_zip_2 _ _) (F.newCall_zip_2 _ _) (fun ob=>F.args_object_init_3 ob _ _) F.entry_zip_new (zlw l1 l2 xs ys) ⟨q1,q2,?_⟩;have a1:(ydz s.heap l1).objs.size=s.heap.objs.size+1:=zzh ..;have a2:(yd9 s.heap l1 l2).objs.size=s.heap.objs.size+2:=by rw [zzh,a1]
 have a3:(ydo s.heap l1 l2).objs.size=s.heap.objs.size+3:=by rw [zzh,a2]
 have a4:(yee s.heap l1 l2).objs.size=s.heap.objs.size+4:=by rw [zzh,a3]
 have a5:(ycw s.heap l1 l2).objs.size=s.heap.objs.size+5:=by rw [zzh,a4]
 have b5:(ycw s.heap l1 l2).get? (yee s.heap l1 l2).objs.size=some _:=zy8 _ rfl;have b4:(ycw s.heap l1 l2).get? (ydo s.heap l1 l2).objs.size=some _:=zyz _ (zy8 _ rfl);have b3:(ycw s.heap l1 l2).get? (yd9 s.heap l1 l2).objs.size=some _:=zyz _ (zyz _ (zy8 _ rfl));have b2:(ycw s.heap l1 l2).get? (ydz s.heap l1).objs.size=some _:=zyz _ (zyz _ (zyz _ (zy8 _ rfl)));have b1:(ycw s.heap l1 l2).get? s.heap.objs.size=some _:=zyz _ (zyz _ (zyz _ (zyz _ (zy8 _ rfl))));show _/\_;rw [a2,a3,a4] at b5;rw [a1,a2] at b3;rw [a3] at b4;rw [a1] at b2;rw [a4];exact ⟨⟨_,b5,rfl⟩,q _ b5 b3 b4 ⟨_,b1,rfl,rfl⟩ ⟨_,b2,rfl,rfl⟩ a5 fun c o y=>zyz _ (zyz _ (zyz _ (zyz _ (zyz _ y))))⟩
end
section
variable {ch:List Addr} {xs:List V} {t:Bool} {elts:List Expr}
section
variable {X:Cx} {pj:List (Addr × Obj)} {O:St} {H:Hp} {s:Shared} {h':Heap}
theorem Inv.turnedC {t':Nat} (I:Inv X pj O H s) (k:∀ b o,b∉ch->s.heap.get? b=some o->h'.get? b=some o) (f:∀ b∈ch,yb0 X pj H b):Inv X pj O H { s with heap:=h',toks:=t' }:=by
 have nfp:∀ {b:Addr} {u:HO},H b=some u->b∉ch:=fun {b u} q z=>by rw [(f b z).1] at q;cases q
 refine I.step (g':=s.gens) (d':=s.drawn) (ch:=ch) (fun b hb=>⟨(f b hb).2.2.2.1,(f b hb).2.1,(f b hb).2.2.2.2.1,(f b hb).2.2.2.2.2⟩) (fun b o _ _ hc q _=>k b o hc q) (fun b o _ _ hc q _=>⟨o.slots,k b o hc q⟩)
  (fun b o hc q z=>z) (fun b o hc q=>⟨o,k b o hc q⟩) (fun b ys q=>q) (fun b o u q=>q) (fun b ps q=>⟨#[],by rw [q];simp⟩) (fun m hm=>?_) (fun b u q=>?_) I.bare
 .obtain ⟨o,es,ep,ho,r⟩:=hm;exact ⟨o,es,ep,k _ o (fun z=>(f _ z).2.1 rfl) ho,r⟩
 .refine (I.hok b u q).stay (fun c v hc z=>?_) (fun c z=>z) fun c ys z=>z;rcases hc with rfl | hc
  .exact k c v (nfp q) z
  .exact k c v (nfp hc) z
theorem Inv.turnedN {T:Addr} {t':Nat} (I:Inv X pj O H s) (k:∀ b o,b∉ch->s.heap.get? b=some o->h'.get? b=some o) (f:∀ b∈ch,yb0 X pj H b)
  (hT:s.heap.objs.size<=T) (new:ObjOk X.prog X.w (upd H T (.tup xs)) h' T (.tup xs)):Inv X pj O (upd H T (.tup xs)) { s with heap:=h',toks:=t' }:=by
 have hn:H T=none:=I.hok.fresh hT;have nT:∀ {b:Addr} {o:Obj},s.heap.get? b=some o->b≠T:=fun {b o} q=>zzo (zzi (zzd q) hT);have nfp:∀ {b:Addr} {u:HO},H b=some u->b∉ch:=fun {b u} q z=>by rw [(f b z).1] at q;cases q
 refine I.step (g':=s.gens) (d':=s.drawn) (ch:=ch) (fun b hb=>⟨(f b hb).2.2.2.1,(f b hb).2.1,(f b hb).2.2.2.2.1,(f b hb).2.2.2.2.2⟩) (fun b o _ _ hc q _=>k b o hc q) (fun b o _ _ hc q _=>⟨o.slots,k b o hc q⟩)
  (fun b o hc q z=>by rw [zai (nT q)];exact z) (fun b o hc q=>⟨o,k b o hc q⟩)
  (fun b ys q=>by rw [zai (zae q hn)];exact q) (fun b o u q=>by rw [zai (zae q hn)];exact q) (fun b ps q=>⟨#[],by rw [zai (zae q hn),q];simp⟩) (fun m hm=>?_) (fun b u q=>?_) I.bare
 .obtain ⟨o,es,ep,ho,r⟩:=hm;exact ⟨o,es,ep,k _ o (fun z=>(f _ z).2.1 rfl) ho,r⟩
 .by_cases hb:b=T
  .subst hb;rw [zam] at q;cases q;exact new
  .rw [zai hb] at q;refine (I.hok b u q).stay (fun c v hc z=>?_) (fun c z=>by rw [zai (zae z hn)];exact z) fun c ys z=>by rw [zai (zae z hn)];exact z
   rcases hc with rfl | hc
   .exact k c v (nfp q) z
   .exact k c v (nfp hc) z
end
def SqB (t:Bool) (K:W.Frag) (H:Hp) (a:Addr) (xs:List V):Prop:=if t then SqT K H a xs else SqL K H a xs
def ItB (t:Bool) (h:Heap) (j l:Addr) (i:Nat):Prop:=if t then h.IsTupleIter j l i else h.IsListIter j l i
def IsB (t:Bool) (h:Heap) (l:Addr) (qc:Array Value):Prop:=if t then h.IsTuple l qc else h.IsList l qc
theorem ItB.at {h h':Heap} {j l:Addr} {i:Nat} (x:ItB t h j l i) (k:∀ o,h.get? j=some o->h'.get? j=some o):ItB t h' j l i:=by
 cases t with
 | true=>obtain ⟨o,e,r⟩:=(show h.IsTupleIter j l i from x);exact (show h'.IsTupleIter j l i from ⟨o,k o e,r⟩)
 | false=>obtain ⟨o,e,r⟩:=(show h.IsListIter j l i from x);exact (show h'.IsListIter j l i from ⟨o,k o e,r⟩)
theorem ItB.obj {h:Heap} {j l:Addr} {i:Nat} (x:ItB t h j l i):∃ o,h.get? j=some o/\∀ v,o.data≠.cell v:=by
 cases t with
 | true=>obtain ⟨o,e,_,d⟩:=(show h.IsTupleIter j l i from x);exact ⟨o,e,fun v q=>by rw [d] at q;cases q⟩
 | false=>obtain ⟨o,e,_,d⟩:=(show h.IsListIter j l i from x);exact ⟨o,e,fun v q=>by rw [d] at q;cases q⟩
theorem Inv.sqB {X:Cx} {pj:List (Addr × Obj)} {O:St} {H:Hp} {s:Shared} {a:Addr} (I:Inv X pj O H s) (q:SqB t X.K H a xs):∃ qc:List Value,Vals xs qc/\IsB t s.heap a qc.toArray/\a<s.heap.objs.size:=by
 cases t with
 | true =>obtain ⟨qc,rv,p,_⟩:=I.tuple (show SqT X.K H a xs from q);obtain ⟨o,e,_⟩:=id p;exact ⟨qc,rv,p,zzd e⟩
 | false =>obtain ⟨qc,rv,p,_⟩:=I.list (show SqL X.K H a xs from q);obtain ⟨o,e,_⟩:=id p.isList;exact ⟨qc,rv,p.isList,zzd e⟩
theorem Inv.sqB_inj {X:Cx} {pj:List (Addr × Obj)} {O:St} {H:Hp} {s:Shared} {a:Addr} {ys:List V} (I:Inv X pj O H s) (q:SqB t X.K H a xs) (q':SqB t X.K H a ys):xs=ys:=by
 cases t with
 | true=>exact I.tuple_inj (show SqT X.K H a xs from q) q'
 | false=>exact I.list_inj (show SqL X.K H a xs from q) q'
theorem yc2 {prog:Program} {w:World} {A:Around} (t:Bool) (hh:A.handled=none) (j l:Addr) (hne:l≠j) (qc:Array Value):Draws prog w A j [j,l] qc.size (fun i v=>qc[i]?=some v) (fun i h=>ItB t h j l i/\IsB t h l qc):=by
 cases t with
 | true=>exact zc1 hh j l hne qc
 | false=>exact Draws.list hh j l hne qc
def Itz (K:W.Frag) (t1 t2:Bool) (l1 l2:Addr):It :=
 ⟨fun i H=>∃ xs ys x y,SqB t1 K H l1 xs/\SqB t2 K H l2 ys/\xs[i]?=some x/\ys[i]?=some y,
  fun i H v H'=>∃ p x y,H p=none/\v=.ref p/\H'=upd H p (.tup [x,y])/\(∀ xs,SqB t1 K H l1 xs->xs[i]?=some x)/\∀ ys,SqB t2 K H l2 ys->ys[i]?=some y,
  fun i H=>∃ xs ys,SqB t1 K H l1 xs/\SqB t2 K H l2 ys/\(i=xs.length\/i<xs.length/\i=ys.length)⟩
theorem ane {a b:Nat} (h:a<b\/b<a):(show Addr from a)≠(show Addr from b):=fun e=>by have e:a=b:=e;lia
theorem anm {z a b:Nat} (h1:z<a\/a<z) (h2:z<b\/b<z):(show Addr from z)∉[(show Addr from a),(show Addr from b)]:=fun e=>by
 rcases omc e with e | e
 .exact ane h1 e
 .exact ane h2 (omg e)
theorem zap {N l1 l2:Nat} (h1:l1<N) (h2:l2<N):ZAp (N+4) (N+2) (N+3) N (N+1) [N,l1] [N+1,l2] :=
 ⟨⟨ane (by lia),ane (by lia),ane (by lia),ane (by lia)⟩,⟨ane (by lia),ane (by lia),ane (by lia)⟩,⟨ane (by lia),ane (by lia)⟩,ane (by lia),⟨anm (by lia) (by lia),anm (by lia) (by lia)⟩,⟨anm (by lia) (by lia),anm (by lia) (by lia)⟩,⟨anm (by lia) (by lia),anm (by lia) (by lia)⟩⟩
theorem zny {P:Program} {w:World} {K:W.Frag} {kx:Nat} {pos:Pos} (t1 t2:Bool) (l1 l2 N:Nat) (h1:l1<N) (h2:l2<N) :
  Turn P w K (.Tuple elts kx pos) (Itz K t1 t2 l1 l2) [N+4,N+2,N+3,N,N+1] (N+4)
   (fun i h=>IsZip h (N+4) (N+2) (N+3) .none/\IsPair h (N+2) (.ref N) (.ref (N+1))/\(∃ a b,IsPair h (N+3) a b)/\ItB t1 h N l1 i/\ItB t2 h (N+1) l2 i) where
 mem:=by simp
 obj:=fun i h st b hb=>by
  obtain ⟨s1,s2,⟨a,c,s3⟩,s4,s5⟩:=st;simp only [List.mem_cons,List.not_mem_nil,or_false] at hb;rcases hb with rfl | rfl | rfl | rfl | rfl
  .exact ⟨_,s1,fun v q=>by cases q⟩
  .exact ⟨_,s2,fun v q=>by cases q⟩
  .exact ⟨_,s3,fun v q=>by cases q⟩
  .exact s4.obj
  .exact s5.obj
 keep:=fun i h h' st k=>by obtain ⟨s1,s2,⟨a,c,s3⟩,s4,s5⟩:=st;exact ⟨k _ (by simp) _ s1,k _ (by simp) _ s2,⟨a,c,k _ (by simp) _ s3⟩,s4.at fun o e=>k _ (by simp) o e,s5.at fun o e=>k _ (by simp) o e⟩
 item:=by
  intro X hP hw hK hc i pj s O H E I hf st hg;subst hP hw hK;obtain ⟨xs,ys,x,y,q1,q2,hx,hy⟩:=hg;obtain ⟨s1,s2,⟨a,c,s3⟩,s4,s5⟩:=st;obtain ⟨qc,rv,p,_⟩:=I.sqB q1;obtain ⟨jts,rw',p',_⟩:=I.sqB q2;obtain ⟨u,hu,ru⟩:=rv.get hx;obtain ⟨u',hu',ru'⟩:=rw'.get hy;have hd:X.A.in1.handled=none:=I.ok.hd hc;have D1:=yc2 (prog:=X.prog) (w:=X.w) (A:=X.A.in1) t1 hd N l1 (ane (.inl h1)) qc.toArray;have D2:=yc2 (prog:=X.prog) (w:=X.w) (A:=X.A.in1) t2 hd (N+1) l2 (ane (by lia)) jts.toArray;have lt1:i<qc.toArray.size:=by have:=(ome hu).1;rw [zy6];exact this
  have lt2:i<jts.toArray.size:=by have:=(ome hu').1;rw [zy6];exact this
  have zlt:N+4<s.heap.objs.size:=zzd s1;refine zj2 D1 D2 (zap h1 h2) s1 s2 s3 ⟨s4,p⟩ ⟨s5,p'⟩ lt1 lt2 fun v v' g tk hv hv' b3 b4 b5 b6 b7 b8 b9=>⟨_,rfl,wpAny_letOwnedTupleGo_zip b3 fun g2 z2 e2=>?_⟩;have ev:v=u:=by
   have z:qc[i]?=some v:=by simpa using hv
   rw [hu] at z;exact (zzl z).symm
  have ev':v'=u':=by
   have z:jts[i]?=some v':=by simpa using hv'
   rw [hu'] at z;exact (zzl z).symm
  subst ev ev';have up:∀ b o,b≠N+4->g.get? b=some o->g2.get? b=some o:=fun b o hb e=>(e2.2 b hb).trans e;have hk2:∀ b o,b∉[N+4,N+2,N+3,N,N+1]->s.heap.get? b=some o->g2.get? b=some o:=fun b o hb e=>by simp only [List.mem_cons,List.not_mem_nil,or_false,not_or] at hb;exact up b o hb.1 (b9 b o hb.1 hb.2.2.1 hb.2.2.2.1 hb.2.2.2.2 e)
  have nT:s.heap.objs.size≠N+4:=Nat.ne_of_gt zlt;have I1:Inv X pj O (upd H s.heap.objs.size (.tup [x,y])) { s with heap:=g2,toks:=tk }:=I.turnedN hk2 hf (zza _)
   ⟨by show 2<=sizeLine;decide,[v,v'],.cons ru (.cons ru' .nil),⟨_,up _ _ nT b7,rfl,_,rfl⟩⟩
  refine ⟨.ref s.heap.objs.size,_,I1,rfl,⟨_,x,y,I.fresh,rfl,rfl,fun zs hz=>by rw [I.sqB_inj hz q1];exact hx,fun zs hz=>by rw [I.sqB_inj hz q2];exact hy⟩,⟨z2,?_,⟨_,_,up _ _ (ane (a:=N+3) (b:=N+4) (by lia)) b4⟩,?_,?_⟩,fun b hb=>?_⟩
  .exact up _ _ (ane (a:=N+2) (b:=N+4) (by lia)) (b9 _ _ (ane (a:=N+2) (b:=N+4) (by lia)) (ane (a:=N+2) (b:=N+3) (by lia)) (ane (a:=N+2) (b:=N) (by lia)) (ane (a:=N+2) (b:=N+1) (by lia)) s2)
  .exact b5.1.at fun o e=>up _ o (ane (a:=N) (b:=N+4) (by lia)) e
  .exact b6.1.at fun o e=>up _ o (ane (a:=N+1) (b:=N+4) (by lia)) e
  .have hbl:b<s.heap.objs.size:=by have zl:N+4<s.heap.objs.size:=zlt;simp only [List.mem_cons,List.not_mem_nil,or_false] at hb;rcases hb with e | e | e | e | e<;>(rw [e];show (_:Nat)<_;lia)
   rw [zai (zzo hbl)];exact (hf b hb).1
 done:=by intro X hP hw hK hc i pj s O H E I hf st hg;subst hP hw hK;obtain ⟨xs,ys,q1,q2,hx⟩:=hg;obtain ⟨s1,s2,⟨a,c,s3⟩,s4,s5⟩:=st;obtain ⟨qc,rv,p,_⟩:=I.sqB q1;obtain ⟨jts,rw',p',_⟩:=I.sqB q2;have hd:X.A.in1.handled=none:=I.ok.hd hc;have D1:=yc2 (prog:=X.prog) (w:=X.w) (A:=X.A.in1) t1 hd N l1 (ane (.inl h1)) qc.toArray;have D2:=yc2 (prog:=X.prog) (w:=X.w) (A:=X.A.in1) t2 hd (N+1) l2 (ane (by lia)) jts.toArray;refine zlo D1 D2 (zap h1 h2) s1 s2 s3 ⟨s4,p⟩ ⟨s5,p'⟩ (k:=i) (by rw [zy6,zy6,<- rv.length,<- rw'.length];exact hx) fun g tk hk=>⟨rfl,I.turnedC (fun b o hb e=>?_) hf⟩;simp only [List.mem_cons,List.not_mem_nil,or_false,not_or] at hb;exact hk b o hb.1 hb.2.2.1 hb.2.2.2.1 hb.2.2.2.2 e
 self:=fun _ _ _ _ _ st q=>wpAny_pyIter_zip st.1 q
section
variable {X:Cx}
theorem zu8 {a b:Expr} {ta:TA} {p pos p2:Pos} {kx:Nat} (hg:Gl X "zip") (hm:X.mg "zip"=none) (ha:PA X [a,b] ta) (hs:starEach [a,b] X.env=[(false,eval a X.env),(false,eval b X.env)]) (hs2:starEach [b] X.env=[(false,eval b X.env)]) :
  PI X (.Tuple elts kx p2) (.Call (.Name "zip" p) [a,b] [] pos) (fun O H R=>ta O H fun vs H1=>∃ l1 l2 t1 t2 xs ys,vs=[.ref l1,.ref l2]/\SqB t1 X.K H1 l1 xs/\SqB t2 X.K H1 l2 ys/\R (Itz X.K t1 t2 l1 l2) H1):=by
 intro pj s O H R I h;refine Call_ (zfa I hg hm (show bootBuiltins "zip"=some (.type "zip") by decide +kernel) (PyProof.Rows.callWith_type1 (thn (ha pos pj s O H _ I h) fun us s1 ⟨vs,H1,I1,r1,q1⟩=>?_) (by rw [hs,hs2]) (by rw [hs2];rfl)));obtain ⟨l1,l2,t1,t2,xs,ys,e,q1,q2,q⟩:=q1;subst e;obtain ⟨u,u',rfl,rx,ry⟩:=ye0 r1;cases rx;cases ry;obtain ⟨qc,rv,b1,lt1⟩:=I1.sqB q1;obtain ⟨jts,rw',b2,lt2⟩:=I1.sqB q2;have fin:∀ {g:Heap},IsZip g (s1.heap.objs.size+4) (s1.heap.objs.size+2) (s1.heap.objs.size+3) .none->IsPair g (s1.heap.objs.size+2) (.ref s1.heap.objs.size) (.ref (s1.heap.objs.size+1))->IsPair g (s1.heap.objs.size+3) .none .none ->
   ItB t1 g s1.heap.objs.size l1 0->ItB t2 g (s1.heap.objs.size+1) l2 0->(∀ c o,s1.heap.get? c=some o->g.get? c=some o)->wpAny (model X.prog X.w) X.A (pyIter (.ref (s1.heap.objs.size+4))) (PIE X pj O (.Tuple elts kx p2) R) X.xe { s1 with heap:=g }:=fun {g} y1 y2 y3 y4 y5 k=>by
  refine wpAny_pyIter_zip (s:={ s1 with heap:=g }) y1 ⟨_,_,_,_,H1,rfl,I1.kept (t':=s1.toks) k,zny t1 t2 l1 l2 s1.heap.objs.size lt1 lt2,⟨y1,y2,⟨_,_,y3⟩,y4,y5⟩,fun b hb=>?_,q⟩;have le:s1.heap.objs.size<=b:=by simp only [List.mem_cons,List.not_mem_nil,or_false] at hb;rcases hb with e | e | e | e | e<;>(rw [e];show (_:Nat)<=_;lia)
  exact I1.fpOk le (I1.hok.fresh le)
 cases t1<;>cases t2
 .exact zpw b1 b2 fun g y1 y2 y3 y4 y5 _ k=>fin y1 y2 y3 y4 y5 k
 .exact zpv b1 b2 fun g y1 y2 y3 y4 y5 _ k=>fin y1 y2 y3 y4 y5 k
 .exact zpu b1 b2 fun g y1 y2 y3 y4 y5 _ k=>fin y1 y2 y3 y4 y5 k
 .exact zpt b1 b2 fun g y1 y2 y3 y4 y5 _ k=>fin y1 y2 y3 y4 y5 k
end
end
end L2
namespace Ev
open PySem Spec PyProof.Rows L2
section
variable {f:Env->Option T} {k:Nat} {es elts:List Expr} {g:Env->Option (List T)} {tg:Expr} {K:W.Frag} {F':Hp} {l:Addr} {vs:List V} {ts:List T} {G:Glo}
section
variable {X:Cx} {c:Tc} {a b:Expr} {pos p:Pos}
def spF (X:Cx) (c:Tc) (f:Env->Option T):TE:=fun O H Q=>∃ r F x,EnvE X c r F O H/\f r=some (.str x)/\x.length<=sizeLine/\∀ F' H',Step F H F' H'->Q (.str x) H'
theorem zyq (ha:Oke X c a f):PE X (.FormattedValue a (-1) none pos) (spF X c f):=by intro pj s O H Q I q;obtain ⟨r,F,x,e,ht,hz,q⟩:=q;refine FormattedValue_plain (thn (ha pj s O H (fun v H'=>v=.str x/\Q (.str x) H') I ⟨r,F,_,e,ht,fun v F' H' s1 r1=>⟨r1,q F' H' s1⟩⟩) fun u s1 ⟨v,H1,I1,r1,e1,q1⟩=>?_);subst e1;obtain ⟨t,rfl⟩:=r1;exact formatField_str (fun t' tk=>⟨.str x,H1,I1.tok _,⟨_,rfl⟩,q1⟩) hz
theorem zyr {x:Str}:PE X (.Constant (.str x) k pos) (spF X c fun _=>some (.str x)):=by refine zar zqi fun O H Q q=>?_;obtain ⟨r,F,y,e,ht,hz,q⟩:=q;cases ht;exact q F H (Step.refl e.fh)
inductive Fps (X:Cx) (c:Tc):List Expr->(Env->Option (List T))->Prop
 | nil:Fps X c [] (fun _=>some [])
 | cons {e:Expr} {es:List Expr} {f:Env->Option T} {g:Env->Option (List T)}:PE X e (spF X c f)->Fps X c es g->Fps X c (e::es) (fun r=>(f r).bind fun x=>(g r).bind fun xs=>some (x::xs))
theorem zj8 (h:Fps X c es g):∀ (out:Str) (ys:List Str) (ts:List T) (pj:List (Addr × Obj)) (s:Shared) (O:L2.St) (H:Hp) (Q:VK) (r:Env) (F:Hp),L2.Inv X pj O H s->EnvE X c r F O H->g r=some ts->yeh ts=some ys ->
  out.length+(ys.map (·.length)).sum<=sizeLine->(∀ F' H',Step F H F' H'->Q (.str (ys.foldl (·++·) out)) H')->wpAny (model X.prog X.w) X.A (joinParts out (evalEach es X.env)) (EP X pj O Q) X.xe s:=by
 induction h with
 | nil =>intro out ys ts pj s O H Q r F I e hg ht hz q;cases hg;cases ht;exact joinParts_nil ⟨.str out,H,I.tok _,⟨_,rfl⟩,q F H (Step.refl e.fh)⟩ (by simpa using hz)
 | cons hp hr ih =>
  intro out ys ts pj s O H Q r F I e hg ht hz q;obtain ⟨t,e1,hg⟩:=obs hg;obtain ⟨ts',e2,hg⟩:=obs hg;cases hg;cases t with
  | str x =>obtain ⟨ys',e3,rfl⟩:=oms ht;simp only [xmc,List.sum_cons] at hz;refine joinParts_cons (thn (hp pj s O H (fun v H'=>v=.str x/\∃ F',Step F H F' H') I ⟨r,F,x,e,e1,by lia,fun F' H' s1=>⟨rfl,F',s1⟩⟩) fun u s1 ⟨v,H1,I1,r1,ev,F1,s1'⟩=>?_);subst ev;obtain ⟨tk,rfl⟩:=r1;have hl:(out++x).length=out.length+x.length:=strLen_append ..;refine ⟨by rw [hl];lia,ih (out++x) ys' ts' pj s1 O H1 Q r F1 I1 (e.step s1') e2 e3 (by rw [hl];lia) fun F' H' s2=>q F' H' (s1'.trans s2)⟩
  | _=>cases ht
theorem zv3 {e1 e2:Expr} (h:Fps X c (e1::e2::es) g):Oke X c (.JoinedStr (e1::e2::es) pos) (fun r=>(g r).bind yfc):=by
 intro pj s O H Q I q;obtain ⟨r,F,t,e,ht,q⟩:=q;obtain ⟨ts,hg,ht⟩:=obs ht;unfold yfc at ht;obtain ⟨ys,hy,ht⟩:=obs ht;split at ht
 .rename_i hz;cases ht;refine JoinedStr_many (zj8 h Str.empty ys ts pj s O H Q r F I e hg hy ?_ fun F' H' s1=>q _ F' H' s1 rfl);show 0+_<=_;rw [Nat.zero_add,<- zey];exact hz
 .cases ht
structure Walk (K:W.Frag) (J:It) (ts:List T) (F':Hp):Prop where
 go:∀ (i:Nat) (H:Hp),i<ts.length->Same F' H->J.go i H
 yld:∀ (i:Nat) (H:Hp) (x:V) (H5 F:Hp) (t:T),ts[i]?=some t->Same F' F->Same F H->J.yld i H x H5->∃ F5,Step F H F5 H5/\Rep K F5 t x
 stop:∀ (H:Hp),Same F' H->J.stop ts.length H
def spI (X:Cx) (c:Tc) (f:Env->Option (List T)):TI:=fun O H R=>∃ r F ts,EnvE X c r F O H/\f r=some ts/\∀ J F' H',Step F H F' H'->Walk X.K J ts F'->R J H'
theorem zfp {it:Expr} {t t':TI} (h:PI X tg it t) (m:∀ O H R,t' O H R->t O H R):PI X tg it t':=fun pj s O H R I q=>h pj s O H R I (m O H R q)
theorem zkm (h1:Ls K F' l vs) (h2:Reps K F' ts vs):Walk K (Itl K l) ts F' where
 go:=fun i H hi sm=>by obtain ⟨v,hv,_⟩:=h2.get (zy5 hi);exact ⟨vs,v,(Ls.same sm h1).sq,hv⟩
 yld:=fun i H x H5 F t ht sF fh y=>by obtain ⟨rfl,y⟩:=y;obtain ⟨v,hv,hr⟩:=h2.get ht;have e:=y vs ((Ls.same fh (Ls.same sF h1)).sq);rw [hv] at e;cases e;exact ⟨F,Step.refl fh,hr.mono sF⟩
 stop:=fun H sm=>⟨vs,(Ls.same sm h1).sq,by rw [h2.length];exact zza _⟩
theorem zn3 {F:Hp} {a:Addr} {xs:List V} (e:Same F F') (h:SqT K F a xs):SqT K F' a xs:=by
 rcases h with h | h
 .exact .inl (zkz e h)
 .exact .inr h
theorem znt (h1:Tq K F' l vs) (h2:Reps K F' ts vs):Walk K (Itt K l) ts F' where
 go:=fun i H hi sm=>by obtain ⟨v,hv,_⟩:=h2.get (zy5 hi);exact ⟨vs,v,zaj sm h1,hv⟩
 yld:=fun i H x H5 F t ht sF fh y=>by obtain ⟨rfl,y⟩:=y;obtain ⟨v,hv,hr⟩:=h2.get ht;have e:=y vs (zaj (sF.trans fh) h1);rw [hv] at e;cases e;exact ⟨F,Step.refl fh,hr.mono sF⟩
 stop:=fun H sm=>⟨vs,zaj sm h1,by rw [h2.length];exact zza _⟩
theorem zk5 {n i:Nat} {t:T} (h:(ybi n)[i]?=some t):i<n/\t=.int (i:Int):=by unfold ybi at h;rw [zzr] at h;obtain ⟨j,hj,e⟩:=oms h;have:=ome hj;obtain ⟨h1,h2⟩:=this;rw [List.getElem_range] at h2;subst h2;exact ⟨by simpa using h1,e.symm⟩
theorem zjr (n:Nat):Walk K (Itr 0 n) (ybi n) F' where
 go:=fun i H hi _=>by
  have:i<n:=by simpa [ybi] using hi
  exact this
 yld:=fun i H x H5 F t ht _ fh y=>by obtain ⟨rfl,rfl⟩:=y;obtain ⟨_,rfl⟩:=zk5 ht;exact ⟨F,Step.refl fh,by show V.int (0+(i:Int))=V.int (i:Int);rw [Int.zero_add]⟩
 stop:=fun H _=>by show n<=(ybi n).length;simp [ybi]
theorem zji:∀ {ts:List T} {i j:Nat} {t:T},(ya6 ts j)[i]?=some t->∃ u,ts[i]?=some u/\t=.tup [.int ((j+i:Nat):Int),u]
 | [],_,_,_,h=>by simp [ya6] at h
 | u::ts,0,j,t,h=>by simp [ya6] at h;exact ⟨u,rfl,by rw [<- h];simp⟩
 | u::ts,i+1,j,t,h=>by simp only [ya6,xgs] at h;obtain ⟨w,h1,h2⟩:=zji (ts:=ts) (i:=i) (j:=j+1) h;exact ⟨w,by simpa using h1,by rw [h2,show j+1+i=j+(i+1) by lia]⟩
theorem zf5:∀ (ts:List T) (j:Nat),(ya6 ts j).length=ts.length
 | [],_=>rfl
 | _::ts,j=>by simp [ya6,zf5 ts (j+1)]
theorem zge {sq:Hp->Addr->List V->Prop} (mono:∀ {F G:Hp} {xs:List V},Same F G->sq F l xs->sq G l xs) (h1:sq F' l vs) (h2:Reps K F' ts vs):Walk K (Ite sq l) (ya6 ts 0) F' where
 go:=fun i H hi sm=>by rw [zf5] at hi;obtain ⟨v,hv,_⟩:=h2.get (zy5 hi);exact ⟨vs,v,mono sm h1,hv⟩
 yld:=fun i H x H5 F t ht sF fh y=>by obtain ⟨p,v,hp,rfl,rfl,y⟩:=y;obtain ⟨u,hu,rfl⟩:=zji ht;obtain ⟨w,hw,hr⟩:=h2.get hu;have e:=y vs (mono fh (mono sF h1));rw [hw] at e;cases e;have st:=(Step.refl fh).new (o:=.tup [.int (i:Int),v]) hp;refine ⟨_,st,p,_,rfl,zam,.int (i:Int),[v],rfl,?_,v,[],rfl,(hr.mono sF).mono st.ff,rfl⟩;show V.int (i:Int)=V.int ((0+i:Nat):Int);rw [Nat.zero_add]
 stop:=fun H sm=>⟨vs,mono sm h1,by rw [zf5,h2.length]⟩
theorem znu (x:Str):Walk K (Its x) (ybr x) F' where
 go:=fun i H hi _=>by
  have:i<x.cps.size:=by simpa [ybr] using hi
  exact this
 yld:=fun i H v H5 F t ht _ fh y=>by obtain ⟨rfl,c,hc,rfl⟩:=y;refine ⟨F,Step.refl fh,?_⟩;unfold ybr at ht;rw [zzr] at ht;obtain ⟨c',hc',rfl⟩:=oms ht;rw [zz9,hc] at hc';cases hc';rfl
 stop:=fun H _=>by show x.cps.size<=(ybr x).length;simp [ybr]
theorem zsx (ha:Oke X c a f):PI X tg a (spI X c fun r=>(f r).bind fun x=>items .plain [x]):=by
 refine zfp (zu9 ha) fun O H R q=>?_;obtain ⟨r,F,ts,e,ht,q⟩:=q;obtain ⟨t,e1,ht⟩:=obs ht;refine ⟨r,F,t,e,e1,fun v F' H' s1 r1=>?_⟩;cases t with
 | tup us =>cases ht;obtain ⟨l,vs,rfl,h1,h2⟩:=r1;exact .inl ⟨l,rfl,.inr ⟨vs,zaj s1.fh h1,q _ F' H' s1 (znt h1 h2)⟩⟩
 | lst us =>cases ht;obtain ⟨l,vs,rfl,h1,h2⟩:=r1;exact .inl ⟨l,rfl,.inl ⟨vs,(Ls.same s1.fh h1).sq,q _ F' H' s1 (zkm h1 h2)⟩⟩
 | str x =>
  cases r1;simp only [items] at ht;split at ht
  .rename_i ha;cases ht;exact .inr ⟨x,rfl,ha,q _ F' H' s1 (znu x)⟩
  .cases ht
 | _=>cases ht
theorem zos (gd:Gd X c G k) (hg:glB c.sc "range"=true) (ha:Oke X c a f) (hs:starEach [a] X.env=[(false,eval a X.env)]) :
  PI X tg (.Call (.Name "range" p) [a] [] pos) (spI X c fun r=>(f r).bind fun x=>items .range [x]):=by
 refine zfp (zli (gd.gl _ hg) (gd.nob _ (by decide +kernel)) (zbq ha hs) hs) fun O H R q=>?_;obtain ⟨r,F,ts,e,ht,q⟩:=q;obtain ⟨t,e1,ht⟩:=obs ht;refine ⟨r,F,[t],e,ud8.mpr ⟨t,e1,rfl⟩,fun vs F' H' s1 r1=>?_⟩;obtain ⟨v,w,rfl,h1,h2⟩:=r1;cases h2;cases t with
 | int n =>
  cases h1;simp only [items] at ht;split at ht
  .rename_i hz;cases ht;have e62:(2:Int) ^ 62=4611686018427387904:=by decide
   exact ⟨n,rfl,by rw [e62];exact hz.1,by rw [e62];exact hz.2,q _ F' H' s1 (zjr _)⟩
  .cases ht
 | _=>cases ht
theorem zs0 (gd:Gd X c G k) {kx:Nat} {p2:Pos} (hg:glB c.sc "enumerate"=true) (ha:Oke X c a f) (hs:starEach [a] X.env=[(false,eval a X.env)]) :
  PI X (.Tuple elts kx p2) (.Call (.Name "enumerate" p) [a] [] pos) (spI X c fun r=>(f r).bind fun x=>items .enum [x]):=by
 refine zfp (zsi (gd.gl _ hg) (gd.nob _ (by decide +kernel)) (zbq ha hs) hs) fun O H R q=>?_;obtain ⟨r,F,ts,e,ht,q⟩:=q;obtain ⟨t,e1,ht⟩:=obs ht;refine ⟨r,F,[t],e,ud8.mpr ⟨t,e1,rfl⟩,fun vs F' H' s1 r1=>?_⟩;obtain ⟨v,w,rfl,h1,h2⟩:=r1;cases h2;cases t with
 | tup us =>cases ht;obtain ⟨l,vs,rfl,h1,h2⟩:=h1;exact ⟨l,rfl,.inr ⟨vs,zaj s1.fh h1,q _ F' H' s1 (zge (sq:=SqT X.K) (fun e h=>zn3 e h) (SqT.of h1) h2)⟩⟩
 | lst us =>cases ht;obtain ⟨l,vs,rfl,h1,h2⟩:=h1;exact ⟨l,rfl,.inl ⟨vs,(Ls.same s1.fh h1).sq,q _ F' H' s1 (zge (sq:=SqL X.K) (fun e h=>e.seq h) h1.sq h2)⟩⟩
 | _=>cases ht
theorem zhf:∀ (xs ys:List T),(yb7 xs ys).length=min xs.length ys.length
 | [],_=>by simp [yb7]
 | _::_,[]=>by simp [yb7]
 | x::xs,y::ys=>by simp only [yb7,List.length_cons,zhf xs ys];lia
theorem zp6:∀ {xs ys:List T} {i:Nat} {t:T},(yb7 xs ys)[i]?=some t->∃ x y,xs[i]?=some x/\ys[i]?=some y/\t=.tup [x,y]
 | [],_,_,_,h=>by simp [yb7] at h
 | _::_,[],_,_,h=>by simp [yb7] at h
 | x::xs,y::ys,0,t,h=>by simp [yb7] at h;exact ⟨x,y,rfl,rfl,h.symm⟩
 | x::xs,y::ys,i+1,t,h=>by simp only [yb7,xgs] at h;obtain ⟨u,v,h1,h2,h3⟩:=zp6 h;exact ⟨u,v,by simpa using h1,by simpa using h2,h3⟩
theorem zqd {F:Hp} {t:T} {v:V} (h:yes t=some ts) (r:Rep K F t v):∃ b l vs,v=.ref l/\Reps K F ts vs/\∀ H,Same F H->SqB b K H l vs:=by
 cases t with
 | tup us=>cases h;obtain ⟨l,vs,rfl,h1,h2⟩:=r;exact ⟨true,l,vs,rfl,h2,fun H sm=>zaj sm h1⟩
 | lst us=>cases h;obtain ⟨l,vs,rfl,h1,h2⟩:=r;exact ⟨false,l,vs,rfl,h2,fun H sm=>(Ls.same sm h1).sq⟩
 | _=>cases h
theorem zns {b1 b2:Bool} {l1 l2:Addr} {ws:List V} {xs ys:List T} (q1:∀ H,Same F' H->SqB b1 K H l1 vs) (q2:∀ H,Same F' H->SqB b2 K H l2 ws) (h1:Reps K F' xs vs) (h2:Reps K F' ys ws):Walk K (Itz K b1 b2 l1 l2) (yb7 xs ys) F' where
 go:=fun i H hi sm=>by rw [zhf] at hi;obtain ⟨v,hv,_⟩:=h1.get (zy5 (show i<xs.length by lia));obtain ⟨u,hu,_⟩:=h2.get (zy5 (show i<ys.length by lia));exact ⟨vs,ws,v,u,q1 H sm,q2 H sm,hv,hu⟩
 yld:=fun i H x H5 F t ht sF fh y=>by obtain ⟨p,v,u,hp,rfl,rfl,y1,y2⟩:=y;obtain ⟨a,b,ha,hb,rfl⟩:=zp6 ht;obtain ⟨va,hva,ra⟩:=h1.get ha;obtain ⟨vb,hvb,rb⟩:=h2.get hb;have e1:=y1 vs (q1 H (sF.trans fh));have e2:=y2 ws (q2 H (sF.trans fh));rw [hva] at e1;rw [hvb] at e2;cases e1;cases e2;have st:=(Step.refl fh).new (o:=.tup [v,u]) hp;exact ⟨_,st,p,_,rfl,zam,v,[u],rfl,(ra.mono sF).mono st.ff,u,[],rfl,(rb.mono sF).mono st.ff,rfl⟩
 stop:=fun H sm=>⟨vs,ws,q1 H sm,q2 H sm,by rw [zhf,h1.length,h2.length];lia⟩
theorem zvt (gd:Gd X c G k) {b:Expr} {kx:Nat} {p2:Pos} {g:Env->Option T} (hg:glB c.sc "zip"=true) (ha:Oke X c a f) (hb:Oke X c b g) (hs:starEach [a,b] X.env=[(false,eval a X.env),(false,eval b X.env)]) (hs2:starEach [b] X.env=[(false,eval b X.env)]) :
  PI X (.Tuple elts kx p2) (.Call (.Name "zip" p) [a,b] [] pos) (spI X c fun r=>(f r).bind fun x=>(g r).bind fun y=>items .zip [x,y]):=by
 refine zfp (zu8 (gd.gl _ hg) (gd.nob _ (by decide +kernel)) (zhs ha (zbq hb hs2) (by rw [hs,hs2])) hs hs2) fun O H R q=>?_;obtain ⟨r,F,ts,e,ht,q⟩:=q;obtain ⟨t1,e1,ht⟩:=obs ht;obtain ⟨t2,e2,ht⟩:=obs ht;refine ⟨r,F,[t1,t2],e,ud8.mpr ⟨t1,e1,ud8.mpr ⟨[t2],ud8.mpr ⟨t2,e2,rfl⟩,rfl⟩⟩,fun vs F' H' s1 r1=>?_⟩;obtain ⟨v,w1,rfl,r1,w,w2,rfl,r2,r3⟩:=r1;cases r3;obtain ⟨xs,x1,ht⟩:=obs ht;obtain ⟨ys,y1,ht⟩:=obs ht;cases ht;obtain ⟨b1,l1,vs1,rfl,a1,a2⟩:=zqd x1 r1;obtain ⟨b2,l2,vs2,rfl,a3,a4⟩:=zqd y1 r2;exact ⟨l1,l2,b1,b2,vs1,vs2,rfl,a2 H' s1.fh,a4 H' s1.fh,q _ F' H' s1 (zns a2 a4 a1 a3)⟩
def yen:List Nat->List V->L2.St->L2.St
 | i::is,v::vs,O=>yen is vs (O.set i (some v))
 | _,_,O=>O
def gL:List Nat->TGs
 | []=>gNil
 | i::is=>yfk (yev i) (gL is)
theorem zw5:∀ {is:List Nat} {vs:List V} {O:L2.St} {H:Hp} {Q:L2.St->Hp->Prop},vs.length=is.length->Q (yen is vs O) H->gL is vs O H Q
 | [],[],_,_,_,_,q=>⟨rfl,q⟩
 | [],_::_,_,_,_,h,_=>by simp at h
 | _::_,[],_,_,_,h,_=>by simp at h
 | i::is,v::vs,O,H,Q,h,q=>⟨v,vs,rfl,zw5 (is:=is) (by simpa using h) q⟩
structure At (X:Cx) (x:Str) (i:Nat):Prop where
 ix:X.N[i]?=some x
 loc:Loc X.env.scope x
 fn:X.fn x=true\/X.env.scope.names.lookup x=some .local
inductive Ats (X:Cx):List Str->List Nat->Prop
 | nil:Ats X [] []
 | cons {x:Str} {i:Nat} {xs:List Str} {is:List Nat}:At X x i->Ats X xs is->Ats X (x::xs) (i::is)
theorem zi3 (hN:X.N.Nodup):∀ {es:List Expr} {xs:List Str} {is:List Nat},(es.mapM fun e=>match e with | .Name x _=>some x | _=>none)=some xs->Ats X xs is ->
  PGs X es (gL is)/\(assignEach es X.env).length=xs.length/\(assignEach es X.env).findIdx? (·.1)=none
 | [],xs,is,h,ha=>by
  have e:xs=[]:=by simpa using h.symm
  subst e;cases ha;exact ⟨zsj,rfl,rfl⟩
 | e::es,xs,is,h,ha=>by
  rw [List.mapM_cons] at h;obtain ⟨x,h1,h⟩:=obs h;obtain ⟨xs',h2,h⟩:=obs h;cases h;cases ha with
  | cons a1 a2 =>
   obtain ⟨q1,q2,q3⟩:=zi3 hN (es:=es) h2 a2;cases e with
   | Name y pos =>
    cases h1;refine ⟨zoo (zlj hN a1.ix a1.loc a1.fn) q1 rfl,?_,?_⟩
    .show (assignEach es X.env).length+1=xs'.length+1;rw [q2]
    .show List.findIdx? (·.1) ((false,_)::assignEach es X.env)=none;rw [List.findIdx?_cons];simp [q3]
   | _=>cases h1
def gT (K:W.Frag) (one:Bool) (is:List Nat):TG:=fun v O H Q =>
 match one,is with
 | true,[i]=>Q (O.set i (some v)) H
 | true,_=>False
 | false,is=>∃ a vs,v=.ref a/\SqT K H a vs/\vs.length=is.length/\Q (yen is vs O) H
theorem zh7:∀ {xs:List Str} {is:List Nat},Ats X xs is->xs.length=is.length
 | _,_,.nil=>rfl
 | _,_,.cons _ h=>by simp [zh7 h]
theorem zuh (hN:X.N.Nodup) (hc:X.calm=true) {xs:List Str} {is:List Nat} (h:zbs tg=some xs) (ha:Ats X xs is):PG X tg (gT X.K (!yap tg) is):=by
 cases tg with
 | Name x pos =>
  cases h;cases ha with
  | cons a1 a2 =>cases a2;exact zlj hN a1.ix a1.loc a1.fn
 | Tuple es k pos =>obtain ⟨q1,q2,q3⟩:=zi3 hN h ha;intro pj s O H v u Q I r hw;obtain ⟨a,vs,rfl,h1,h2,q⟩:=hw;exact zva hc q1 (q2.trans (zh7 ha)) q3 pj s O H _ u Q I r ⟨a,vs,rfl,h1,h2,zw5 h2 q⟩
 | _=>cases h
end
section
variable {M:Program} {W:World} {A:Around} {E:Value->Shared->Prop}
end
section
variable {X:Cx}
end
end
section
theorem za5:∀ {l:List Str} {x:Str} {i:Nat},yal l x=some i->l[i]?=some x
 | [],_,_,h=>by cases h
 | y::r,x,i,h=>by
  unfold yal at h;split at h
  .rename_i e;cases h;rw [ua2 e];rfl
  .obtain ⟨j,hj,rfl⟩:=oms h;simpa using za5 hj
theorem ze8:∀ {l r:List Str} {x:Str} {i:Nat},yal (l++r) x=some i->(yal l x=some i/\i<l.length)\/(x∉l/\l.length<=i/\yal r x=some (i-l.length))
 | [],r,x,i,h=>.inr ⟨by simp,Nat.zero_le _,by simpa using h⟩
 | y::l,r,x,i,h=>by
  rw [List.cons_append,yal] at h;split at h
  .rename_i e;cases h;left;rw [yal,if_pos e];exact ⟨rfl,by simp⟩
  .rename_i e;obtain ⟨j,hj,rfl⟩:=oms h;rcases ze8 hj with ⟨h1,h2⟩ | ⟨h1,h2,h3⟩
   .left;rw [yal,if_neg e,h1];exact ⟨rfl,by simpa using h2⟩
   .right;refine ⟨fun z=>?_,by simpa using h2,?_⟩
    .rcases omc z with q | q
     .exact e (by rw [q];exact ua8 _)
     .exact h1 q
    .rw [h3,zzb,show j+1-(l.length+1)=j-l.length by lia]
theorem zgo:∀ {xs:List Str},ycl xs=true->xs.Nodup
 | [],_=>ud1
 | x::r,h=>by simp only [ycl,Bool.and_eq_true,Bool.not_eq_true'] at h;refine ua6.mpr ⟨fun z=>?_,zgo h.2⟩;have:=h.1;rw [List.contains_iff_mem.mpr z] at this;cases this
structure CsB (out sc:Scope) (xs:List Str):Prop where
 kind:sc.kind=.function
 nd:xs.Nodup
 own:∀ x∈xs,zab x=true/\(sc.names.lookup x=some .local\/sc.names.lookup x=some .cell)
 free:∀ y∈sc.names,y.2=.free->sc.names.lookup y.1=some .free/\(out.names.lookup y.1=some .cell\/out.names.lookup y.1=some .free)
 loc:∀ y∈sc.names,y.2=.local->sc.names.lookup y.1=some .local/\(y.1∈xs\/y.1=".0")
 cel:∀ y∈sc.names,y.2=.cell->sc.names.lookup y.1=some .cell/\y.1∈xs
theorem zxl {out sc:Scope} {xs:List Str} (h:zcr out sc xs=true):CsB out sc xs:=by
 simp only [zcr,Bool.and_eq_true] at h;obtain ⟨⟨⟨h1,h2⟩,h3⟩,h4⟩:=h;have all:=oml h4;refine ⟨by simpa using h1,zgo h2,fun x hx=>?_,fun y hy e=>?_,fun y hy e=>?_,fun y hy e=>?_⟩
 .have:=oml h3 x hx;simp only [Bool.and_eq_true,Bool.or_eq_true,beq_iff_eq] at this;exact this
 .have:=all y hy;rw [e] at this;simp only [Bool.and_eq_true,Bool.or_eq_true,beq_iff_eq] at this;exact this
 .have:=all y hy;rw [e] at this;simp only [Bool.and_eq_true,Bool.or_eq_true,beq_iff_eq] at this;exact ⟨this.1,this.2.imp (fun z=>List.contains_iff_mem.mp z) id⟩
 .have:=all y hy;rw [e] at this;simp only [Bool.and_eq_true,beq_iff_eq] at this;exact ⟨this.1,List.contains_iff_mem.mp this.2⟩
section
variable {X:Cx} {c:Tc} {G:Glo} {k:Nat} {scope:Scope} {xs:List Str} {pj:List (Addr × Obj)} {fp:List Addr} {qz:Shared} {qy:Hp}
theorem CsB.sc (S:CsB c.sc scope xs) (gd:Gd X c G k):CompSc X scope xs :=
 ⟨S.kind,S.nd,fun x hx=>(S.own x hx).2,fun y hy e=>⟨(S.free y hy e).1,gd.cap y.1 (S.free y hy e).2⟩,fun y hy e=>(S.loc y hy e).1,fun y hy e=>(S.cel y hy e).1⟩
theorem zt0 {N:List Str} (h:N.Nodup):(yb1 scope N).Nodup:=h.sublist List.filter_sublist
theorem zxm (S:CsB c.sc scope xs) (gd:Gd X c G k):(xs++yb1 scope X.N).Nodup:=by
 refine List.nodup_append.mpr ⟨S.nd,zt0 gd.nd,fun x hx y hy e=>?_⟩;subst e;have h1:=(S.own x hx).2;have h2:scope.names.lookup x=some .free:=by have:=(ub8.mp hy).2;simpa using this
 rw [h2] at h1;rcases h1 with z | z<;>cases z
theorem zxn (S:CsB c.sc scope xs) (gd:Gd X c G k):Gd (blk X pj scope xs fp qz qy) ⟨scope,xs++c.nm⟩ G k where
 room:=gd.room
 calm:=gd.calm
 nob:=gd.nob
 call:=gd.call
 con:=gd.con
 vis:=fun x h=>by
  show (blk X pj scope xs fp qz qy).env.scope.names.lookup x=_\/(blk X pj scope xs fp qz qy).env.scope.names.lookup x=_\/(blk X pj scope xs fp qz qy).env.scope.names.lookup x=_;rw [zch];have h:ybq scope x=true:=h;unfold ybq at h;cases e:scope.names.lookup x with
  | none=>rw [e] at h;cases h
  | some q =>
   rw [e] at h;cases q with
   | «local»=>exact .inl rfl
   | cell=>exact .inr (.inl rfl)
   | free =>
    dsimp only;split
    .exact .inr (.inl rfl)
    .exact .inr (.inr rfl)
   | _=>cases h
 gl:=fun x h=>by
  show (blk X pj scope xs fp qz qy).env.scope.names.lookup x=_;rw [zch];have h:scope.names.lookup x=some .globalImplicit:=by simpa [glB] using h
  rw [h]
 cap:=fun x h=>by
  show (blk X pj scope xs fp qz qy).env.scope.names.lookup x=_\/(blk X pj scope xs fp qz qy).env.scope.names.lookup x=_;rw [zch];have h:scope.names.lookup x=some .cell\/scope.names.lookup x=some .free:=h;rcases h with h | h<;>rw [h]
  .exact .inl rfl
  .dsimp only;split
   .exact .inl rfl
   .exact .inr rfl
 nd:=zxm S gd
theorem zni (S:CsB c.sc scope xs):∀ (l:List Str) (n:Nat),(∀ (j:Nat) (x:Str),l[j]?=some x->xs[n+j]?=some x)->Ats (blk X pj scope xs fp qz qy) l (List.range' n l.length)
 | [],_,_=>.nil
 | x::l,n,h=>by
  have h0:xs[n]?=some x:=by simpa using h 0 x rfl
  have hx:x∈xs:=zAf h0;have own:=(S.own x hx).2;have hn:n<xs.length:=(ome h0).1;rw [zzb,List.range'_succ];refine .cons ⟨?_,?_,?_⟩ (zni S l (n+1) fun j y e=>by have:=h (j+1) y (by simpa using e);rwa [show n+(j+1)=n+1+j by lia] at this)
  .show (xs++yb1 scope X.N)[n]?=some x;rw [zzz hn];exact h0
  .show (blk X pj scope xs fp qz qy).env.scope.names.lookup x=_\/(blk X pj scope xs fp qz qy).env.scope.names.lookup x=_;rw [zch];rcases own with e | e<;>rw [e]
   .exact .inl rfl
   .exact .inr rfl
  .rcases own with e | e
   .right;rw [zch,e]
   .left;show (scope.names.lookup x==some .cell)=true;rw [e];rfl
theorem zt1 (S:CsB c.sc scope xs) {r:Env} {F:Hp} {O:L2.St} {H Hc:Hp} (e:EnvE X c r F O H) (hl:O.length=X.N.length) {ts:List T} {vs:List V} (ht:ts.length=xs.length) (rv:Reps X.K F ts vs) (fh:Same F Hc) (tb:Tbk X.K F Hc) :
  EnvE (blk X pj scope xs fp qz qy) ⟨scope,xs++c.nm⟩ (ts.map some++r) F (vs.map some++yby scope X.N O) Hc where
 fh:=fh
 tb:=tb
 get:=fun x i t hpn hi hv hr=>by
  have hvl:vs.length=xs.length:=by rw [rv.length,ht]
  have hv:ybq scope x=true:=hv;rcases ze8 (show yal (xs++c.nm) x=some i from hi) with ⟨h1,h2⟩ | ⟨h1,h2,h3⟩
  .have hi':i<ts.length:=by lia
   rw [uc4 (by simpa using hi'),List.getElem?_map] at hr;obtain ⟨t',ht',e'⟩:=oms hr;cases e';obtain ⟨v,hv1,hv2⟩:=rv.get ht';refine ⟨i,v,?_,?_,hv2⟩
   .show (xs++yb1 scope X.N)[i]?=some x;rw [zzz h2];exact za5 h1
   .rw [uc4 (by simp;lia),List.getElem?_map,hv1];rfl
  .rw [uc3 (by simp;lia)] at hr;have hr':r[i-xs.length]?=some (some t):=by simpa [ht] using hr
   have hfree:scope.names.lookup x=some .free:=by
    unfold ybq at hv;cases q:scope.names.lookup x with
    | none=>rw [q] at hv;cases hv
    | some kd =>
     rw [q] at hv;cases kd with
     | free=>rfl
     | «local» =>
      have:=(S.loc _ (zbt q) rfl).2;rcases this with z | z
      .exact absurd z h1
      .rw [show x=".0" from z] at hpn;exact absurd hpn (by decide +kernel)
     | cell=>exact absurd (S.cel _ (zbt q) rfl).2 h1
     | _=>cases hv
   have hout:ybq c.sc x=true:=by rcases (S.free _ (zbt hfree) rfl).2 with z | z<;>simp [ybq,z]
   obtain ⟨j,v,g1,g2,g3⟩:=e.get x (i-xs.length) t hpn h3 hout hr';obtain ⟨m,m1,m2⟩:=zne scope hfree X.N O hl g1 g2;refine ⟨xs.length+m,v,?_,?_,g3⟩
   .show (xs++yb1 scope X.N)[xs.length+m]?=some x;rw [zz2 (by lia)];simpa using m1
   .rw [uc3 (by simp;lia)];simpa [hvl] using m2
end
end
section
theorem ze2:∀ (vs:List V) (front pre rest:L2.St),pre.length=vs.length->yen (List.range' front.length vs.length) vs (front++pre++rest)=front++vs.map some++rest
 | [],front,pre,rest,h=>by
  cases pre with
  | nil=>simp [yen]
  | cons _ _=>simp at h
 | v::vs,front,pre,rest,h=>by
  cases pre with
  | nil=>simp at h
  | cons p pre =>
   rw [zzb,List.range'_succ,yen];have e:(front++(p::pre)++rest).set front.length (some v)=(front++[some v])++pre++rest:=by rw [zz8,List.set_append,if_neg (zz3 _)];simp
   have e2:(front++[some v]).length=front.length+1:=by simp
   rw [e,<- e2,ze2 vs (front++[some v]) pre rest (by simpa using h)];simp
def spC (X:Cx) (c:Tc) (fc:Env->Option Bool):TT:=fun O H Q=>∃ r F b,EnvE X c r F O H/\fc r=some b/\∀ F' H',Step F H F' H'->Q b H'
noncomputable def elM (n:Nat) (r:Env) (fc:Env->Option Bool) (fe:Env->Option T):T->Option (Option T):=fun x=>(bnd n x r).bind fun r'=>(fc r').bind fun b=>if b=true then (fe r').map some else some none
section
variable {X:Cx} {c:Tc} {G:Glo} {k:Nat} {scope:Scope} {xs:List Str}
theorem zg4 {elt iter tg:Expr} {ifs:List Expr} {pos:Pos} {fe:Env->Option T} {fc:Env->Option Bool} (gd:Gd X c G k) (S:CsB c.sc scope xs) (htg:zbs tg=some xs) (h2n:yap tg=true->2<=xs.length)
  (he:∀ pj fp qz qy,Gd (blk X pj scope xs fp qz qy) ⟨scope,xs++c.nm⟩ G k->Oke (blk X pj scope xs fp qz qy) ⟨scope,xs++c.nm⟩ elt fe)
  (hi:∀ pj fp qz qy,Gd (blk X pj scope xs fp qz qy) ⟨scope,xs++c.nm⟩ G k->∀ (pn:List (Addr × Obj)) (s:Shared) (O:L2.St) (H:Hp) (Q:Bool->Hp->Prop),L2.Inv (blk X pj scope xs fp qz qy) pn O H s->spC (blk X pj scope xs fp qz qy) ⟨scope,xs++c.nm⟩ fc O H Q ->
   wpAny (model X.prog X.w) X.A (forIn ifs true fun c r=>if r=true then do let ok <- isTrue c (blk X pj scope xs fp qz qy).env (eval c (blk X pj scope xs fp qz qy).env);pure (ForInStep.yield ok) else pure (ForInStep.yield r)) (TP (blk X pj scope xs fp qz qy) pn O Q) (fun _ _=>False) s)
  {pj:List (Addr × Obj)} {fp:List Addr} {O:L2.St} {H2 F2:Hp} {s2:Shared} {J:It} {it:Addr} {tn:Nat->Heap->Prop} {E:Value->Shared->Prop} {ts total:List T} {r:Env}
  (I2:L2.Inv X pj O H2 s2) (Tn:Turn X.prog X.w X.K tg J fp it tn) (st2:tn 0 s2.heap) (f2:∀ b∈fp,yb0 X pj H2 b) (wk:Walk X.K J ts F2) (e2:EnvE X c r F2 O H2) (hts:ts.length<=SZ) (hcm:ya8 (elM xs.length r fc fe) ts=some total) :
  wpAny (model X.prog X.w) X.A (newList []) (fun acc qz=>wpAny (model X.prog X.w) X.A (newFunctionEnv scope X.env.globals (za1 X.env scope.names []) [] X.env.qual none .none (some X.env)) (fun cenv s₄ =>
   codeAny (model X.prog X.w) X.A (.compStart (.ListComp elt [⟨tg,iter,ifs,0⟩] scope pos) 0 (.ref it) acc { cenv with scope:=relabel scope X.env })
    (fun r s'=>r=.ok .next/\∃ D H',acc=.ref D/\L2.Inv X pj O H' s'/\yb0 X pj H' cenv.locals/\(∃ m,s'.heap.Ns cenv.locals m) /\
     ∃ F vs,Step F2 H2 F H'/\F D=none/\H2 D=none/\H' D=some (.lst vs)/\Reps X.K F total vs) s₄) E qz) E s2:=by
 have hl:O.length=X.N.length:=I2.len;have gb:∀ qz qy,Gd (blk X pj scope xs fp qz qy) ⟨scope,xs++c.nm⟩ G k:=fun qz qy=>zxn S gd;have hat:∀ qz qy,Ats (blk X pj scope xs fp qz qy) xs (List.range' 0 xs.length):=fun qz qy=>zni S xs 0 fun j x e=>by rw [Nat.zero_add];exact e
 refine zpl (g:=fun _ _=>gT X.K (!yap tg) (List.range' 0 xs.length)) (tc:=fun qz qy=>spC (blk X pj scope xs fp qz qy) ⟨scope,xs++c.nm⟩ fc) (te:=fun qz qy=>spE (blk X pj scope xs fp qz qy) ⟨scope,xs++c.nm⟩ fe)
  gd.calm (S.sc gd) I2 Tn st2 f2 (fun qz qy _=>zuh (X:=blk X pj scope xs fp qz qy) (gb qz qy).nd gd.calm htg (hat qz qy)) (fun qz qy _=>hi pj fp qz qy (gb qz qy)) (fun qz qy _=>he pj fp qz qy (gb qz qy))
  (fun D i m O' H'=>i<=ts.length/\m=ts.length-i/\(∃ pre:L2.St,O'=pre++yby scope X.N O/\pre.length=xs.length)/\∃ F vs rs rest,Step F2 H2 F H'/\F D=none/\H2 D=none/\H' D=some (.lst vs)/\Reps X.K F rs vs/\vs.length<=i/\ya8 (elM xs.length r fc fe) (ts.drop i)=some rest/\rs++rest=total)
  (fun D H'=>∃ F vs,Step F2 H2 F H'/\F D=none/\H2 D=none/\H' D=some (.lst vs)/\Reps X.K F total vs) ?_ ?_
 .intro D hD;exact ⟨ts.length,Nat.zero_le _,rfl,⟨_,rfl,by simp⟩,F2,[],[],total,(Step.refl e2.fh).newH hD,e2.fh.free hD,hD,zam,rfl,Nat.le_refl _,hcm,rfl⟩
 .rintro qz qy D i m O' H' BOk ⟨hi1,rfl,⟨pre,rfl,hpre⟩,F,vs,rs,rest,st,hF,hH2,hH',hrs,hvl,hcr,htot⟩;have sm:Same F2 H':=st.ff.trans st.fh;by_cases hlt:i<ts.length
  .right;have hti:ts[i]?=some ts[i]:=zy5 hlt;generalize hT:ts[i]=t at hti;rw [List.drop_eq_getElem_cons hlt,hT,ya8] at hcr;obtain ⟨o,ho,hcr⟩:=obs hcr;obtain ⟨rest',hr',hcr⟩:=obs hcr;obtain ⟨r',hb,ho⟩:=obs (show (bnd xs.length t r).bind _=some o from ho);obtain ⟨bb,hfc,ho⟩:=obs ho;refine ⟨wk.go i H' hlt sm,fun O'' H''=>i+1<=ts.length/\(∃ pre:L2.St,O''=pre++yby scope X.N O/\pre.length=xs.length)/\∃ F vs rs rest,Step F2 H2 F H''/\F D=none/\H2 D=none/\H'' D=some (.lst vs)/\Reps X.K F rs vs/\vs.length<=i+1/\ya8 (elM xs.length r fc fe) (ts.drop (i+1))=some rest/\rs++rest=total,?_,?_⟩
   .rintro O'' H'' ⟨a1,a2,a3⟩;exact ⟨ts.length-(i+1),by lia,a1,rfl,a2,a3⟩
   .intro x H5 y;obtain ⟨F5,st5,r5⟩:=wk.yld i H' x H5 F t hti st.ff st.fh y;have cont:∀ (us:List T) (ws:List V),us.length=xs.length->Reps X.K F5 us ws->r'=us.map some++r->(spC (blk X pj scope xs fp qz qy) ⟨scope,xs++c.nm⟩ fc) (ws.map some++yby scope X.N O) H5 fun ok H7=>if ok=true then (spE (blk X pj scope xs fp qz qy) ⟨scope,xs++c.nm⟩ fe) (ws.map some++yby scope X.N O) H7 fun y H8=>∃ ys,H8 D=some (.lst ys)/\ys.length<sizeLine /\
      (i+1<=ts.length/\(∃ pre:L2.St,ws.map some++yby scope X.N O=pre++yby scope X.N O/\pre.length=xs.length)/\∃ F vs rs rest,Step F2 H2 F (upd H8 D (.lst (ys++[y])))/\F D=none/\H2 D=none/\upd H8 D (.lst (ys++[y])) D=some (.lst vs)/\Reps X.K F rs vs/\vs.length<=i+1/\ya8 (elM xs.length r fc fe) (ts.drop (i+1))=some rest/\rs++rest=total)
      else (i+1<=ts.length/\(∃ pre:L2.St,ws.map some++yby scope X.N O=pre++yby scope X.N O/\pre.length=xs.length)/\∃ F vs rs rest,Step F2 H2 F H7/\F D=none/\H2 D=none/\H7 D=some (.lst vs)/\Reps X.K F rs vs/\vs.length<=i+1/\ya8 (elM xs.length r fc fe) (ts.drop (i+1))=some rest/\rs++rest=total):=by
     intro us ws hul hrw hrr;have hwl:(ws.map some:L2.St).length=xs.length:=by rw [zy3,hrw.length,hul]
     have e5:=zt1 (pj:=pj) (fp:=fp) (qz:=qz) (qy:=qy) S (e2.step (st.trans st5)) hl hul hrw st5.fh (e2.tb.up (st.trans st5));rw [<- hrr] at e5;refine ⟨r',F5,bb,e5,hfc,fun F7 H7 s7=>?_⟩;have st7:=st5.trans s7;have hD7:H7 D=some (.lst vs):=st7.hh.st D _ hH' rfl;have nD:∀ {F8 H8:Hp},Step F H' F8 H8->F8 D=none:=fun {F8 H8} s8=>by
      cases q:F8 D with
      | none=>rfl
      | some o =>
       rcases s8.nw D (by rw [q];simp) with z | z | ⟨_,z⟩
       .exact absurd hF z
       .rw [hH'] at z;cases z
       .rw [hH'] at z;cases z
     cases bb with
     | false =>dsimp only at ho ⊢;rw [if_neg zzx] at ho ⊢;cases ho;cases hcr;exact ⟨hlt,⟨_,rfl,hwl⟩,F7,vs,rs,_,st.trans st7,nD st7,hH2,hD7,hrs.mono st7.ff,by lia,hr',htot⟩
     | true =>
      dsimp only at ho ⊢;rw [if_pos rfl] at ho ⊢;obtain ⟨yt,hye,rfl⟩:=oms ho;cases hcr;refine ⟨r',F7,yt,e5.step s7,hye,fun v F8 H8 s8 r8=>?_⟩;have st8:=st7.trans s8;have S8:=st.trans st8;have hF8:=nD st8;refine ⟨vs,st8.hh.st D _ hH' rfl,?_,hlt,⟨_,rfl,hwl⟩,F8,vs++[v],rs++[yt],_,⟨S8.hh.upd hH2 (st8.hh.st D _ hH' rfl) rfl (fun _ _ z=>nomatch z),S8.ff,fun b o q=>?_,S8.nw⟩,hF8,hH2,zam,(hrs.mono st8.ff).app ⟨v,[],rfl,r8,rfl⟩,by simp;lia,hr',by rw [List.append_assoc];exact htot⟩
      .rw [<- zey];lia
      .rw [zai (zae q hF8)];exact S8.fh b o q
    cases htup:yap tg with
    | false =>
     have hx1:∃ z,xs=[z]:=by
      cases tg with
      | Name z p=>cases htg;exact ⟨z,rfl⟩
      | Tuple _ _ _=>cases htup
      | _=>cases htg
     obtain ⟨z,rfl⟩:=hx1;have hb':some (some t::r)=some r':=hb;cases hb';obtain ⟨p0,rfl⟩:∃ p0,pre=[p0]:=by
      cases pre with
      | nil=>simp at hpre
      | cons p0 q=>cases q with
       | nil=>exact ⟨p0,rfl⟩
       | cons _ _=>simp at hpre
     exact cont [t] [x] rfl ⟨x,[],rfl,r5,rfl⟩ rfl
    | true =>
     have hn2:=h2n htup;unfold bnd at hb;rw [if_neg (by lia)] at hb;cases t with
     | tup us =>
      simp only at hb;split at hb
      .rename_i hul;cases hb;obtain ⟨a,ws,rfl,q1,q2⟩:=r5;refine ⟨a,ws,rfl,zaj st5.fh q1,by rw [List.length_range',q2.length,hul],?_⟩;have es:=ze2 ws [] pre (yby scope X.N O) (by rw [hpre,q2.length,hul]);rw [q2.length,hul] at es;simp only [List.length_nil,List.nil_append] at es;rw [es];exact cont us ws hul q2 rfl
      .cases hb
     | _=>cases hb
  .left;have hie:i=ts.length:=by lia
   subst hie;rw [List.drop_length] at hcr;cases hcr;rw [zzm] at htot;subst htot;exact ⟨wk.stop H' sm,F,vs,st,hF,hH2,hH',hrs⟩
end
end
section
section
variable {X:Cx} {c:Tc} {G:Glo} {k:Nat} {scope:Scope} {xs:List Str}
theorem zii {F H F2 H2 F3 H':Hp} {D:Addr} {vs:List V} (a:Step F H F2 H2) (b:Step F2 H2 F3 H') (h1:F3 D=none) (h2:H2 D=none) (h3:H' D=some (.lst vs)):Step F H (upd F3 D (.lst vs)) H' :=
 have S:=a.trans b
 ⟨S.hh,S.ff.trans (zbg h1),fun x o q=>by
  by_cases hx:x=D
  .subst hx;rw [zam] at q;cases q;exact h3
  .rw [zai hx] at q;exact S.fh x o q,fun x z=>by
  by_cases hx:x=D
  .subst hx;exact .inr (.inl (a.hh.free h2))
  .rw [zai hx] at z;exact S.nw x z⟩
noncomputable def yb8 (xs:List Str) (fi:Env->Option (List T)) (fc:Env->Option Bool) (fe:Env->Option T):Env->Option T :=
 fun r=>((fi r).bind fun qc=>if qc.length<=SZ then some qc else none).bind fun qc=>(ya8 (elM xs.length r fc fe) qc).map .lst
variable {elt iter tg:Expr} {ifs:List Expr} {pos:Pos} {fe:Env->Option T} {fc:Env->Option Bool} {fi:Env->Option (List T)}
theorem zg6 {r:Env} {t:T} (h:yb8 xs fi fc fe r=some t):∃ qc total,fi r=some qc/\qc.length<=SZ/\ya8 (elM xs.length r fc fe) qc=some total/\t=.lst total:=by
 unfold yb8 at h;obtain ⟨qc,h1,h⟩:=obs h;obtain ⟨its',h2,h1⟩:=obs h1;split at h1
 .rename_i hz;cases h1;obtain ⟨total,h3,rfl⟩:=oms h;exact ⟨qc,total,h2,hz,h3,rfl⟩
 .cases h1
theorem zht (gd:Gd X c G k) (S:CsB c.sc scope xs) (htg:zbs tg=some xs) (h2n:yap tg=true->2<=xs.length)
  (he:∀ pj fp qz qy,Gd (blk X pj scope xs fp qz qy) ⟨scope,xs++c.nm⟩ G k->Oke (blk X pj scope xs fp qz qy) ⟨scope,xs++c.nm⟩ elt fe)
  (hi:∀ pj fp qz qy,Gd (blk X pj scope xs fp qz qy) ⟨scope,xs++c.nm⟩ G k->∀ (pn:List (Addr × Obj)) (s:Shared) (O:L2.St) (H:Hp) (Q:Bool->Hp->Prop),L2.Inv (blk X pj scope xs fp qz qy) pn O H s->spC (blk X pj scope xs fp qz qy) ⟨scope,xs++c.nm⟩ fc O H Q ->
   wpAny (model X.prog X.w) X.A (forIn ifs true fun c r=>if r=true then do let ok <- isTrue c (blk X pj scope xs fp qz qy).env (eval c (blk X pj scope xs fp qz qy).env);pure (ForInStep.yield ok) else pure (ForInStep.yield r)) (TP (blk X pj scope xs fp qz qy) pn O Q) (fun _ _=>False) s)
  (hit:PI X tg iter (spI X c fi)) (hfs:∀ x,foldedSetIterable iter X.env x=pure x):Oke X c (.ListComp elt [⟨tg,iter,ifs,0⟩] scope pos) (yb8 xs fi fc fe):=by
 intro pj s O H Q I q;obtain ⟨r,F,t,e,ht,q⟩:=q;obtain ⟨qc,total,hf,hz,hcm,rfl⟩:=zg6 ht;rw [eval_ListComp];refine wpAny_comprehension_free (use:=none) rfl hfs (zdj ((S.sc gd).has I.ok)) S.kind (fun y hy e=>(S.loc y hy e).1)
  (thn (hit pj s O H (fun J H'=>∃ F',Step F H F' H'/\Walk X.K J qc F') I ⟨r,F,qc,e,hf,fun J F' H' s1 wk=>⟨F',s1,wk⟩⟩) fun v s1 h1=>thn h1 fun itv s2 h2=>?_)
 obtain ⟨it,fp,tn,J,H2,rfl,I2,T,st2,f2,F2,s12,wk⟩:=h2;refine thn (zg4 (E:=X.xe) gd S htg h2n he hi I2 T st2 f2 wk (e.step s12) hz hcm) fun acc s3 h3=>thn h3 fun cenv s4 h4=>codeAny_mono h4 fun res s' hres=>?_;obtain ⟨rfl,D,H',rfl,I',fC,⟨m,hm⟩,F3,vs,st3,d1,d2,d3,d4⟩:=hres;refine ⟨m,hm,fun h' hsb=>⟨.ref D,H',I'.turned (t':=s'.toks) (fun b o hb q=>(hsb.2 b hb).trans q) fC.1 fC.2.1 fC.2.2.2.1 fC.2.2.2.2.1 fC.2.2.2.2.2,rfl,?_⟩⟩;have S3:=zii s12 st3 d1 d2 d3;exact q _ _ _ S3 ⟨D,vs,rfl,Ls.of zam,d4.mono (zbg d1)⟩
def yel (X:Cx) (c:Tc) (i:Nat) (f:Env->Option T):TS:=fun D O H=>∃ r F t,EnvE X c r F O H/\f r=some t/\∀ v F' H',Step F H F' H'->Rep X.K F' t v->D.nx (O.set i (some v)) H'
theorem ze7 (gd:Gd X c G k) (S:CsB c.sc scope xs) (htg:zbs tg=some xs) (h2n:yap tg=true->2<=xs.length)
  (he:∀ pj fp qz qy,Gd (blk X pj scope xs fp qz qy) ⟨scope,xs++c.nm⟩ G k->Oke (blk X pj scope xs fp qz qy) ⟨scope,xs++c.nm⟩ elt fe)
  (hi:∀ pj fp qz qy,Gd (blk X pj scope xs fp qz qy) ⟨scope,xs++c.nm⟩ G k->∀ (pn:List (Addr × Obj)) (s:Shared) (O:L2.St) (H:Hp) (Q:Bool->Hp->Prop),L2.Inv (blk X pj scope xs fp qz qy) pn O H s->spC (blk X pj scope xs fp qz qy) ⟨scope,xs++c.nm⟩ fc O H Q ->
   wpAny (model X.prog X.w) X.A (forIn ifs true fun c r=>if r=true then do let ok <- isTrue c (blk X pj scope xs fp qz qy).env (eval c (blk X pj scope xs fp qz qy).env);pure (ForInStep.yield ok) else pure (ForInStep.yield r)) (TP (blk X pj scope xs fp qz qy) pn O Q) (fun _ _=>False) s)
  (hit:PI X tg iter (spI X c fi)) (hfs:∀ x,foldedSetIterable iter X.env x=pure x) {y:Str} {py spos:Pos} {i:Nat} (hy:At X y i):PS X (.Assign [.Name y py] (.ListComp elt [⟨tg,iter,ifs,0⟩] scope pos) spos) (yel X c i (yb8 xs fi fc fe)):=by
 obtain ⟨b,hb⟩:∃ b:Bool,swapsWith (.ListComp elt [⟨tg,iter,ifs,0⟩] scope pos) (some (.Name y py)) spos.line X.env=pure b:=⟨_,rfl⟩;cases b with
 | false =>refine zcc (ze3 gd.nd hy.ix hy.loc (zht gd S htg h2n he hi hit hfs) hb hy.fn) fun D O H q=>?_;exact q
 | true =>
  intro pj s O H Dn I q;obtain ⟨r,F,t,e,ht,q⟩:=q;obtain ⟨qc,total,hf,hz,hcm,rfl⟩:=zg6 ht;rw [exec_Assign_Name_used _ _ _ _ hb];refine zy2 (wpAny_standAt (zy2 ?_));show wpAny _ X.A (do let _ <- comprehension (.ListComp elt [⟨tg,iter,ifs,0⟩] scope pos) scope X.env _ (newList []) false (eval iter X.env) (some (assign (.Name y py) X.env))) _ _ s;refine zy2 (wpAny_mono (wpAny_comprehension_free (use:=some (assign (.Name y py) X.env)) (Q:=fun _ s'=>SP X pj Dn .next s') rfl hfs (zdj ((S.sc gd).has I.ok)) S.kind (fun y hy e=>(S.loc y hy e).1)
   (thn (hit pj s O H (fun J H'=>∃ F',Step F H F' H'/\Walk X.K J qc F') I ⟨r,F,qc,e,hf,fun J F' H' s1 wk=>⟨F',s1,wk⟩⟩) fun v s1 h1=>thn h1 fun itv s2 h2=>?_)) (fun _ s' hq=>zy9 (zy9 hq)) fun _ _ e=>e)
  obtain ⟨it,fp,tn,J,H2,rfl,I2,T,st2,f2,F2,s12,wk⟩:=h2;refine thn (zg4 (E:=X.xe) gd S htg h2n he hi I2 T st2 f2 wk (e.step s12) hz hcm) fun acc s3 h3=>thn h3 fun cenv s4 h4=>codeAny_mono h4 fun res s' hres=>?_;obtain ⟨rfl,D,H',rfl,I',fC,⟨m,hm⟩,F3,vs,st3,d1,d2,d3,d4⟩:=hres;show wpAny _ X.A (assign (.Name y py) X.env (.ref D)) _ _ s';refine wpAny_assign_Name (zgg I' gd.nd hy.ix hy.loc (v:=.ref D) (u:=.ref D) rfl (fun s'' I'' hsb=>?_) hy.fn);obtain ⟨a,hsb,ha⟩:=hsb;have hCa:cenv.locals≠a:=by
   rcases ha with z | z
   .rw [z];exact fC.2.1
   .exact Ne.symm (fC.2.2.2.2.1 y a z)
  refine ⟨m,hm.sameBut hsb hCa,fun h' hsb2=>⟨_,H',I''.turned (t':=s''.toks) (fun b o hb q=>(hsb2.2 b hb).trans q) fC.1 fC.2.1 fC.2.2.2.1 fC.2.2.2.2.1 fC.2.2.2.2.2,?_⟩⟩;have S3:=zii s12 st3 d1 d2 d3;exact q _ _ _ S3 ⟨D,vs,rfl,Ls.of zam,d4.mono (zbg d1)⟩
end
end
section
variable {e:Expr} {e':E}
theorem zdn {n:Nat} {c:Tc} (h:trV n c e=some e') (es:List Expr) (env:PySem.Env):starEach (e::es) env=(false,eval e env)::starEach es env:=by
 cases n with
 | zero=>cases h
 | succ n=>cases e<;>first | rfl | (cases h)
theorem zbc {n:Nat} {c:Tc} (h:trV n c e=some e') (env:PySem.Env):starEach [e] env=[(false,eval e env)]:=zdn h [] env
theorem zij {n:Nat} {c:Tc} (pos:Pos) (env:PySem.Env):∀ {es:List Expr} {xs:List E},ycx (trV n c) es=some xs->(backTo pos (starEach es env)).any (·.1)=false
 | [],_,_=>rfl
 | e::es,xs,h=>by obtain ⟨x,h1,h⟩:=obs h;obtain ⟨ys,h2,_⟩:=obs h;rw [zdn h1];have ih:=zij pos env h2;unfold backTo at ih ⊢;rw [zy1,ub6,ih];rfl
theorem zom {b:Expr} (h:ycg b=false):zib b:=by cases b<;>first | (intro o i;rfl) | (cases h)
theorem zgb {n:Nat} {c:Tc} {o:Expr} (h:trV n c o=some e') (m:Str) (env:PySem.Env) (w:Sem Value):attributeBase o m env w=w:=by
 cases n with
 | zero=>cases h
 | succ n =>
  cases o with
  | Call f args kws pos =>
   cases f with
   | Name id p =>
    cases args with
    | nil=>cases kws<;>(cases h;done)
    | cons _ _=>rfl
   | _=>rfl
  | _=>rfl
theorem zd6 {G:Glo}:∀ {xs:List E} {r:Env} {ts:List T},yac G xs r=some ts->ts.length=xs.length
 | [],_,_,h=>by rw [yac] at h;cases h;rfl
 | x::xs,r,ts,h=>by rw [yac] at h;obtain ⟨t,_,h⟩:=obs h;obtain ⟨us,h2,h⟩:=obs h;cases h;simp [zd6 h2]
def isBO:Expr->Bool
 | .BoolOp ..=>true
 | _=>false
structure Snd (G:Glo) (k n:Nat):Prop where
 v:∀ {X:Cx} {c:Tc} {e:Expr} {e':E},Gd X c G k->trV n c e=some e'->Oke X c e (evE G e')
 t:∀ {X:Cx} {c:Tc} {e:Expr} {e':E},Gd X c G k->trT n c e=some e'->Okt X c e (evE G e')/\(isBO e=true->Okw X c e (evE G e'))
 i:∀ {X:Cx} {c:Tc} {tg e:Expr} {ki:Ik × List E},Gd X c G k->trI n c e=some ki->(ki.1.pair=true->yap tg=true)->PI X tg e (spI X c fun r=>(yac G ki.2 r).bind fun xs=>items ki.1 xs)
 f:∀ {X:Cx} {c:Tc} {e:Expr} {e':E},Gd X c G k->trF n c e=some e'->PE X e (spF X c (evE G e'))
section
variable {G:Glo} {k n:Nat} {X:Cx} {c:Tc}
theorem Snd.l (S:Snd G k n) (gd:Gd X c G k):∀ {es:List Expr} {xs:List E},ycx (trV n c) es=some xs->PA X es (spL X c (yac G xs))
 | [],xs,h=>by
  cases h;have e:yac G []=fun _=>some []:=by funext r;rw [yac]
  rw [e];exact zql
 | a::es,xs,h=>by
  obtain ⟨x,h1,h⟩:=obs h;obtain ⟨ys,h2,h⟩:=obs h;cases h;have e:yac G (x::ys)=fun r=>(evE G x r).bind fun t=>(yac G ys r).bind fun ts=>some (t::ts):=by funext r;rw [yac]
  rw [e];exact zhs (S.v gd h1) (Snd.l S gd h2) (zdn h1 es X.env)
theorem Snd.fp (S:Snd G k n) (gd:Gd X c G k):∀ {es:List Expr} {xs:List E},ycx (trF n c) es=some xs->Fps X c es (yac G xs)
 | [],xs,h=>by
  cases h;have e:yac G []=fun _=>some []:=by funext r;rw [yac]
  rw [e];exact .nil
 | a::es,xs,h=>by
  obtain ⟨x,h1,h⟩:=obs h;obtain ⟨ys,h2,h⟩:=obs h;cases h;have e:yac G (x::ys)=fun r=>(evE G x r).bind fun t=>(yac G ys r).bind fun ts=>some (t::ts):=by funext r;rw [yac]
  rw [e];exact .cons (S.f gd h1) (Snd.fp S gd h2)
theorem Snd.o (S:Snd G k n) (gd:Gd X c G k) {e:Option Expr} {x:Option E} (h:yfy (trV n c) e=some x):PO X e (spO X c (evO G x)):=by
 cases e with
 | none =>
  cases h;have e:evO G none=fun _=>some none:=by funext r;rw [evO]
  rw [e];exact zj1
 | some a =>
  obtain ⟨y,h1,rfl⟩:=oms h;have e:evO G (some y)=fun r=>(evE G y r).map some:=by funext r;rw [evO]
  rw [e];exact zj0 (S.v gd h1)
theorem Gd.hu (gd:Gd X c G k):X.A.units+100<cLine:=by have:=gd.room.un;lia
theorem zx0 (S:Snd G k n) (gd:Gd X c G k) (h:trT (n+1) c e=some e'):Okt X c e (evE G e')/\(isBO e=true->Okw X c e (evE G e')):=by
 have tru:∀ {a:Expr} {x:E},(∀ whole,isTrue a X.env whole=(do let v <- whole;standAt a.pos;holding [v] (truthy v)))->trV n c a=some x->Okt X c a (evE G (.tru x)):=fun {a x} he h1=>by
  have e:evE G (.tru x)=fun r=>(evE G x r).bind fun t=>(ycn t).map .bl:=by funext r;rw [evE]
  rw [e];exact zxv (S.v gd h1) he
 cases e with
 | BoolOp op vs pos =>
  have key:Okw X c (.BoolOp op vs pos) (evE G e'):=by
   cases vs with
   | nil=>cases op<;>(cases h;done)
   | cons a r =>
    cases r with
    | nil =>
     cases op with
     | And=>exact zr5 (S.t gd h).1
     | Or=>exact zu0 (S.t gd h).1
    | cons b r =>
     cases op with
     | And =>
      obtain ⟨x,h1,h⟩:=obs h;obtain ⟨y,h2,h⟩:=obs h;cases h;have e:evE G (.land x y)=fun r=>(evE G x r).bind fun t=>match t with | .bl true=>evE G y r | .bl false=>some (.bl false) | _=>none:=by funext r;rw [evE];try rfl
      rw [e];exact zuf (S.t gd h1).1 ((S.t gd h2).2 rfl)
     | Or =>
      obtain ⟨x,h1,h⟩:=obs h;obtain ⟨y,h2,h⟩:=obs h;cases h;have e:evE G (.lor x y)=fun r=>(evE G x r).bind fun t=>match t with | .bl true=>some (.bl true) | .bl false=>evE G y r | _=>none:=by funext r;rw [evE];try rfl
      rw [e];exact zxu (S.t gd h1).1 ((S.t gd h2).2 rfl)
  exact ⟨key.pt,fun _=>key⟩
 | UnaryOp op a pos =>
  refine ⟨?_,fun z=>by cases z⟩;cases op with
  | Not =>
   obtain ⟨x,h1,h⟩:=obs h;cases h;have e:evE G (.lnot x)=fun r=>(evE G x r).bind fun t=>match t with | .bl b=>some (.bl (!b)) | _=>none:=by funext r;rw [evE];try rfl
   rw [e];exact zxw (S.t gd h1).1
  | _=>(cases h;done)
 | Compare a ops bs pos =>
  refine ⟨?_,fun z=>by cases z⟩
  match ops,bs,h with
  | [op],[b],h =>
   obtain ⟨o,h0,h⟩:=obs h;obtain ⟨x,h1,h⟩:=obs h;obtain ⟨y,h2,h⟩:=obs h;cases h;obtain ⟨q1,q2⟩:=zqk (X:=X) gd.hu h0;have e:evE G (.cmp o x y)=fun r=>(evE G x r).bind fun s=>(evE G y r).bind fun t=>yau o s t:=by funext r;rw [evE]
   rw [e];exact zs1 q1 (S.v gd h1) (S.v gd h2) q2
  | [op,op'],[b,d],h=>(cases h;done)
  | [],_,h=>(cases h;done)
  | [_],[],h=>(cases h;done)
  | [_],_::_::_,h=>(cases h;done)
  | [_,_],[],h=>(cases h;done)
  | [_,_],[_],h=>(cases h;done)
  | [_,_],_::_::_::_,h=>(cases h;done)
  | _::_::_::_,_,h=>(cases h;done)
 | Name x pos =>refine ⟨?_,fun z=>by cases z⟩;obtain ⟨y,h1,h⟩:=obs h;cases h;exact tru (fun _=>rfl) h1
 | Call f es ks pos =>refine ⟨?_,fun z=>by cases z⟩;obtain ⟨y,h1,h⟩:=obs h;cases h;exact tru (fun _=>rfl) h1
 | Subscript a b pos =>refine ⟨?_,fun z=>by cases z⟩;obtain ⟨y,h1,h⟩:=obs h;cases h;exact tru (fun _=>rfl) h1
 | _=>(cases h;done)
theorem zx2 (S:Snd G k n) (gd:Gd X c G k) (h:trF (n+1) c e=some e'):PE X e (spF X c (evE G e')):=by
 cases e with
 | FormattedValue a cv fs pos =>
  cases fs with
  | some _=>cases h
  | none =>
   have h:(if cv = -1 then trV n c a else none)=some e':=h;by_cases hcv:cv = -1
   .subst hcv;rw [if_pos rfl] at h;exact zyq (S.v gd h)
   .rw [if_neg hcv] at h;cases h
 | Constant cst q pos =>
  cases cst with
  | str x =>
   have h:trV n c (.Constant (.str x) q pos)=some e':=h;cases n with
   | zero=>cases h
   | succ n =>
    have h':e'=.cst (.str x):=by have z:(some (.cst (.str x)):Option E)=some e':=h;cases z;rfl
    subst h';have e:evE G (.cst (.str x))=fun _=>some (.str x):=by funext r;rw [evE]
    rw [e];exact zyr
  | _=>(cases h;done)
 | _=>(cases h;done)
theorem zx1 (S:Snd G k n) {tg:Expr} {ki:Ik × List E} (gd:Gd X c G k) (h:trI (n+1) c e=some ki) (ht:ki.1.pair=true->yap tg=true):PI X tg e (spI X c fun r=>(yac G ki.2 r).bind fun xs=>items ki.1 xs):=by
 have one:∀ (x:E) (kk:Ik),(fun r=>(yac G [x] r).bind fun xs=>items kk xs)=fun r=>(evE G x r).bind fun t=>items kk [t]:=fun x kk=>by funext r;rw [yac,yac];cases evE G x r<;>rfl
 have plain:∀ {a:Expr},((trV n c a).bind fun x=>some (Ik.plain,[x]))=some ki->PI X tg a (spI X c fun r=>(yac G ki.2 r).bind fun xs=>items ki.1 xs):=fun {a} h=>by obtain ⟨x,h1,h⟩:=obs h;cases h;rw [one];exact zsx (S.v gd h1)
 have call:∀ {f:Str} {p pos:Pos} {a:Expr},trI (n+1) c (.Call (.Name f p) [a] [] pos)=some ki->PI X tg (.Call (.Name f p) [a] [] pos) (spI X c fun r=>(yac G ki.2 r).bind fun xs=>items ki.1 xs):=fun {f p pos a} h=>by
  unfold trI at h;split at h
  .rename_i hr;rw [zy7] at hr;have hf:=ua2 hr.1;subst hf;obtain ⟨x,h1,h⟩:=obs h;cases h;rw [one];exact zos gd hr.2 (S.v gd h1) (zbc h1 X.env)
  .split at h
   .rename_i hr;rw [zy7] at hr;have hf:=ua2 hr.1;subst hf;obtain ⟨x,h1,h⟩:=obs h;cases h;have htt:=ht rfl;cases tg with
    | Tuple es kx p2 =>rw [one];exact zs0 gd hr.2 (S.v gd h1) (zbc h1 X.env)
    | _=>cases htt
   .exact plain h
 cases e with
 | Call f args kws pos =>
  cases f with
  | Name id p =>
   match args,kws,h with
   | [a],[],h=>exact call h
   | [],kws,h=>exact plain h
   | [_],_::_,h=>exact plain h
   | [a,b],[],h =>
    replace h:(if id==("zip":Str)&&glB c.sc id then (trV n c a).bind fun x=>(trV n c b).bind fun y=>some (Ik.zip,[x,y]) else (trV n c (.Call (.Name id p) [a,b] [] pos)).bind fun x=>some (Ik.plain,[x]))=some ki:=h;split at h
    .rename_i hr;rw [zy7] at hr;obtain ⟨x,h1,g1⟩:=obs h;obtain ⟨y,h2,g2⟩:=obs g1;cases g2;have hf:=ua2 hr.1;subst hf;have htt:=ht rfl;cases tg with
     | Tuple es kx p2 =>
      have two:(fun r=>(yac G [x,y] r).bind fun xs=>items Ik.zip xs)=fun r=>(evE G x r).bind fun s=>(evE G y r).bind fun t=>items Ik.zip [s,t]:=by funext r;rw [yac,yac,yac];cases evE G x r<;>cases evE G y r<;>rfl
      show PI X _ _ (spI X c fun r=>(yac G [x,y] r).bind fun xs=>items Ik.zip xs);rw [two];exact zvt gd hr.2 (S.v gd h1) (S.v gd h2) (by rw [zdn h1,zbc h2]) (zbc h2 X.env)
     | _=>cases htt
    .exact plain h
   | [_,_],_::_,h=>exact plain h
   | _::_::_::_,kws,h=>exact plain h
  | _=>exact plain h
 | _=>exact plain h
end
end
section
variable {m:Nat} {fe:Env->Option T} {scope:Scope} {pos:Pos}
section
variable {G:Glo} {k n:Nat} {X:Cx} {c:Tc}
theorem zg0 {e:Expr} {ki:Ik × List E} (h:trI m c e=some ki) (env:PySem.Env):∀ x,foldedSetIterable e env x=pure x:=by
 intro x;cases e with
 | Set es k p =>
  exfalso;cases m with
  | zero=>cases h
  | succ m =>
   have h:((trV m c (.Set es k p)).bind fun x=>some (Ik.plain,[x]))=some ki:=h;cases m with
   | zero=>cases h
   | succ m=>cases h
 | _=>rfl
structure CompParts (G:Glo) (n:Nat) (c:Tc) (elt tg iter:Expr) (ifs:List Expr) (scope:Scope) (e':E) (xs:List Str) (fi:Env->Option (List T)) (fc:Env->Option Bool) (fe:Env->Option T):Prop where
 htg:zbs tg=some xs
 cs:CsB c.sc scope xs
 h2:yap tg=true->2<=xs.length
 ev:evE G e'=yb8 xs fi fc fe
theorem zty {r:Env}:(fun x=>(bnd m x r).bind fun r'=>((some none:Option (Option T))).bind fun c=>match c with
    | none=>(fe r').map some
    | some (.bl true)=>(fe r').map some
    | some (.bl false)=>some none
    | some _=>none)=elM m r (fun _=>some true) fe:=by
 funext x;unfold elM;cases bnd m x r<;>rfl
theorem zpm {r:Env} {f1:Env->Option T}:(fun x=>(bnd m x r).bind fun r'=>((f1 r').map some).bind fun c=>match c with
    | none=>(fe r').map some
    | some (.bl true)=>(fe r').map some
    | some (.bl false)=>some none
    | some _=>none)=elM m r (fun r'=>(f1 r').bind fun t=>match t with | .bl b=>some b | _=>none) fe:=by
 funext x;unfold elM;cases bnd m x r with
 | none=>rfl
 | some r' =>
  simp only [xbs];cases f1 r' with
  | none=>rfl
  | some t=>cases t<;>first | rfl | (rename_i b;cases b<;>rfl)
theorem zjm {n:Nat} {c:Tc} {elt:Expr} {gens:List Comprehension} {e':E} (h:trV (n+1) c (.ListComp elt gens scope pos)=some e') :
  ∃ tg iter ifs,gens=[⟨tg,iter,ifs,0⟩]/\∃ xs ki,zbs tg=some xs/\trI n c iter=some ki/\(zcr c.sc scope xs&&(!ki.1.pair||yap tg)&&(!yap tg||decide (2<=xs.length)))=true /\
   (match ifs with
   | []=>(trV n ⟨scope,xs++c.nm⟩ elt).bind fun x=>some (.comp x xs.length ki.1 ki.2 none)
   | [t]=>(trV n ⟨scope,xs++c.nm⟩ elt).bind fun x=>(trT n ⟨scope,xs++c.nm⟩ t).bind fun y=>some (.comp x xs.length ki.1 ki.2 (some y))
   | _=>none)=some e':=by
 match gens,h with
 | [⟨tg,iter,ifs,.ofNat 0⟩],h =>
  obtain ⟨xs,h0,h⟩:=obs (show ((zbs tg).bind fun xs=>(trI n c iter).bind fun ki=>if zcr c.sc scope xs&&(!ki.1.pair||yap tg)&&(!yap tg||decide (2<=xs.length)) then
   (match ifs with
   | []=>(trV n ⟨scope,xs++c.nm⟩ elt).bind fun x=>some (.comp x xs.length ki.1 ki.2 none)
   | [t]=>(trV n ⟨scope,xs++c.nm⟩ elt).bind fun x=>(trT n ⟨scope,xs++c.nm⟩ t).bind fun y=>some (.comp x xs.length ki.1 ki.2 (some y))
   | _=>none) else none)=some e' from h)
  obtain ⟨ki,h1,h⟩:=obs h;split at h
  .rename_i hc;exact ⟨tg,iter,ifs,rfl,xs,ki,h0,h1,hc,h⟩
  .cases h
 | [⟨tg,iter,ifs,.ofNat (a+1)⟩],h=>cases h
 | [⟨tg,iter,ifs,.negSucc a⟩],h=>cases h
 | [],h=>cases h
 | g1::g2::gs,h =>obtain ⟨t1,i1,f1,a1⟩:=g1;rcases a1 with (_ | _) | _<;>cases h
theorem zik (S:Snd G k n) (gd:Gd X c G k) {elt:Expr} {gens:List Comprehension} {e':E} (h:trV (n+1) c (.ListComp elt gens scope pos)=some e') :
  Oke X c (.ListComp elt gens scope pos) (evE G e')/\∀ {y:Str} {py spos:Pos} {i:Nat},At X y i->PS X (.Assign [.Name y py] (.ListComp elt gens scope pos) spos) (yel X c i (evE G e')):=by
 obtain ⟨tg,iter,ifs,rfl,xs,ki,h0,h1,hcs,hr⟩:=zjm h;simp only [Bool.and_eq_true,Bool.or_eq_true,Bool.not_eq_true',decide_eq_true_eq] at hcs;have CS:=zxl hcs.1.1;have h2n:yap tg=true->2<=xs.length:=fun z=>hcs.2.elim (fun q=>by rw [q] at z;cases z) id;have hen:ki.1.pair=true->yap tg=true:=fun z=>hcs.1.2.elim (fun q=>by rw [q] at z;cases z) id;have hit:=S.i (tg:=tg) gd h1 hen;have hfs:=zg0 h1 X.env
 match ifs,hr with
 | [],hr =>
  obtain ⟨x,h3,hr⟩:=obs hr;cases hr;have he:∀ pj fp qz qy,Gd (blk X pj scope xs fp qz qy) ⟨scope,xs++c.nm⟩ G k->Oke (blk X pj scope xs fp qz qy) ⟨scope,xs++c.nm⟩ elt (evE G x):=fun pj fp qz qy g=>S.v g h3;have hi:∀ pj fp qz qy,Gd (blk X pj scope xs fp qz qy) ⟨scope,xs++c.nm⟩ G k->∀ (pn:List (Addr × Obj)) (s:Shared) (O:L2.St) (H:Hp) (Q:Bool->Hp->Prop),L2.Inv (blk X pj scope xs fp qz qy) pn O H s->spC (blk X pj scope xs fp qz qy) ⟨scope,xs++c.nm⟩ (fun _=>some true) O H Q ->
   wpAny (model X.prog X.w) X.A (forIn ([]:List Expr) true fun c r=>if r=true then do let ok <- isTrue c (blk X pj scope xs fp qz qy).env (eval c (blk X pj scope xs fp qz qy).env);pure (ForInStep.yield ok) else pure (ForInStep.yield r)) (TP (blk X pj scope xs fp qz qy) pn O Q) (fun _ _=>False) s:=fun pj fp qz qy g pn s O H Q I q=>by
   obtain ⟨r,F,b,e,hb,q⟩:=q;cases hb;exact wpAny_tests_nil ⟨H,I,q F H (Step.refl e.fh)⟩
  have e:evE G (.comp x xs.length ki.1 ki.2 none)=yb8 xs (fun r=>(yac G ki.2 r).bind fun xs=>items ki.1 xs) (fun _=>some true) (evE G x):=by
   funext r;rw [evE];unfold yb8 yae;rw [<- zty];dsimp only;cases yac G ki.2 r with
   | none=>rfl
   | some ys=>simp only [xbs,evO]
  rw [e];exact ⟨zht gd CS h0 h2n he hi hit hfs,fun {y py spos i} hy=>ze7 gd CS h0 h2n he hi hit hfs hy⟩
 | [t],hr =>
  obtain ⟨x,h3,hr⟩:=obs hr;obtain ⟨y1,h4,hr⟩:=obs hr;cases hr;have he:∀ pj fp qz qy,Gd (blk X pj scope xs fp qz qy) ⟨scope,xs++c.nm⟩ G k->Oke (blk X pj scope xs fp qz qy) ⟨scope,xs++c.nm⟩ elt (evE G x):=fun pj fp qz qy g=>S.v g h3;have hi:∀ pj fp qz qy,Gd (blk X pj scope xs fp qz qy) ⟨scope,xs++c.nm⟩ G k->∀ (pn:List (Addr × Obj)) (s:Shared) (O:L2.St) (H:Hp) (Q:Bool->Hp->Prop),L2.Inv (blk X pj scope xs fp qz qy) pn O H s->spC (blk X pj scope xs fp qz qy) ⟨scope,xs++c.nm⟩ (fun r'=>(evE G y1 r').bind fun t=>match t with | .bl b=>some b | _=>none) O H Q ->
   wpAny (model X.prog X.w) X.A (forIn [t] true fun c r=>if r=true then do let ok <- isTrue c (blk X pj scope xs fp qz qy).env (eval c (blk X pj scope xs fp qz qy).env);pure (ForInStep.yield ok) else pure (ForInStep.yield r)) (TP (blk X pj scope xs fp qz qy) pn O Q) (fun _ _=>False) s:=fun pj fp qz qy g pn s O H Q I q=>by
   obtain ⟨r,F,b,e,hb,q⟩:=q;obtain ⟨tt,ht,hb⟩:=obs hb;cases tt with
   | bl b' =>cases hb;exact wpAny_tests_one ((S.t g h4).1 pn s O H Q I ⟨r,F,b,e,ht,q⟩)
   | _=>cases hb
  have e:evE G (.comp x xs.length ki.1 ki.2 (some y1))=yb8 xs (fun r=>(yac G ki.2 r).bind fun xs=>items ki.1 xs) (fun r'=>(evE G y1 r').bind fun t=>match t with | .bl b=>some b | _=>none) (evE G x):=by
   funext r;rw [evE];unfold yb8 yae;rw [<- zpm];dsimp only;cases yac G ki.2 r with
   | none=>rfl
   | some ys=>simp only [xbs,evO];try rfl
  rw [e];exact ⟨zht gd CS h0 h2n he hi hit hfs,fun {y py spos i} hy=>ze7 gd CS h0 h2n he hi hit hfs hy⟩
 | _::_::_,hr=>cases hr
theorem zfl (S:Snd G k n) (gd:Gd X c G k) {f:Str} {a:Expr} {es:List Expr} {p:Pos} {xs:List E} (hg:glB c.sc f=true) (hp:zab f=true) (h:ycx (trV n c) (a::es)=some xs):Oke X c (.Call (.Name f p) (a::es) [] pos) (evE G (.call f xs)):=by
 have e:evE G (.call f xs)=fun r=>(yac G xs r).bind fun ys=>G.call f ys:=by funext r;rw [evE]
 rw [e];obtain ⟨x,h1,h'⟩:=obs h;obtain ⟨ys,h2,_⟩:=obs h';exact zs2 gd hg hp (S.l gd h) (zdn h1 es X.env) (zij pos X.env h2)
theorem zuj (S:Snd G k n) {e:Expr} {e':E} (gd:Gd X c G k) (h:trV (n+1) c e=some e'):Oke X c e (evE G e'):=by
 have cst:∀ {t:T} {v:V} {a:Expr},PE X a (tC v)->(∀ F,Rep X.K F t v)->Oke X c a (evE G (.cst t)):=fun {t v a} h1 h2=>by
  have e:evE G (.cst t)=fun _=>some t:=by funext r;rw [evE]
  rw [e];exact zv4 h1 h2
 cases e with
 | Constant cs q pos =>
  cases cs with
  | none=>cases (show some (E.cst .non)=some e' from h);exact cst zvf fun _=>rfl
  | bool b=>cases (show some (E.cst (.bl b))=some e' from h);exact cst zyc fun _=>rfl
  | int i=>cases (show some (E.cst (.int i))=some e' from h);exact cst zvh fun _=>rfl
  | str x=>cases (show some (E.cst (.str x))=some e' from h);exact cst zqi fun _=>rfl
  | _=>(cases h;done)
 | Name x pos =>
  replace h:(if zab x then (if ybq c.sc x then (yal c.nm x).map E.var else if glB c.sc x&&!bnames.contains x then some (.glb x) else none) else none)=some e':=h;split at h
  .rename_i hp;split at h
   .rename_i hv;obtain ⟨i,hi,rfl⟩:=oms h;have e:evE G (.var i)=fun r=>(r[i]?).join:=by funext r;rw [evE]
    rw [e];exact zvu gd hp hv hi
   .split at h
    .rename_i hg;cases h;rw [zy7] at hg;have e:evE G (.glb x)=fun _=>G.con x:=by funext r;rw [evE]
     rw [e];exact zv2 gd hp hg.1
    .cases h
  .cases h
 | BinOp a op b pos =>
  obtain ⟨o,h0,h⟩:=obs h;obtain ⟨x,h1,h⟩:=obs h;obtain ⟨y,h2,h⟩:=obs h;cases h;have e:evE G (.bin o x y)=fun r=>(evE G x r).bind fun s=>(evE G y r).bind fun t=>yaz o s t:=by funext r;rw [evE]
  rw [e];exact zyh (zvp h0) (S.v gd h1) (S.v gd h2)
 | UnaryOp op a pos =>
  cases op with
  | Not =>
   obtain ⟨x,h1,h⟩:=obs h;cases h;have e:evE G (.lnot x)=fun r=>(evE G x r).bind fun t=>match t with | .bl b=>some (.bl (!b)) | _=>none:=by funext r;rw [evE];try rfl
   rw [e];exact zvx (S.v gd h1)
  | USub =>
   obtain ⟨x,h1,h⟩:=obs h;cases h;have e:evE G (.neg x)=fun r=>(evE G x r).bind fun t=>match t with | .int b=>some (.int (-b)) | _=>none:=by funext r;rw [evE];try rfl
   rw [e];exact zvy (S.v gd h1)
  | _=>(cases h;done)
 | BoolOp op vs pos =>
  cases vs with
  | nil=>cases op<;>(cases h;done)
  | cons a r =>
   cases r with
   | nil=>exact zvd (S.v gd h)
   | cons b r =>
    cases op with
    | And =>
     obtain ⟨x,h1,h⟩:=obs h;obtain ⟨y,h2,h⟩:=obs h;cases h;have e:evE G (.land x y)=fun r=>(evE G x r).bind fun t=>match t with | .bl true=>evE G y r | .bl false=>some (.bl false) | _=>none:=by funext r;rw [evE];try rfl
     rw [e];exact zv7 (S.v gd h1) (S.v gd h2)
    | Or =>
     obtain ⟨x,h1,h⟩:=obs h;obtain ⟨y,h2,h⟩:=obs h;cases h;have e:evE G (.lor x y)=fun r=>(evE G x r).bind fun t=>match t with | .bl true=>some (.bl true) | .bl false=>evE G y r | _=>none:=by funext r;rw [evE];try rfl
     rw [e];exact zyg (S.v gd h1) (S.v gd h2)
 | Compare a ops bs pos =>
  match ops,bs,h with
  | [op],[b],h =>
   obtain ⟨o,h0,h⟩:=obs h;obtain ⟨x,h1,h⟩:=obs h;obtain ⟨y,h2,h⟩:=obs h;cases h;obtain ⟨q1,q2⟩:=zqk (X:=X) gd.hu h0;have e:evE G (.cmp o x y)=fun r=>(evE G x r).bind fun s=>(evE G y r).bind fun t=>yau o s t:=by funext r;rw [evE]
   rw [e];exact zv5 q1 (S.v gd h1) (S.v gd h2) q2
  | [op,op'],[b,d],h=>(cases h;done)
  | [],_,h=>(cases h;done)
  | [_],[],h=>(cases h;done)
  | [_],_::_::_,h=>(cases h;done)
  | [_,_],[],h=>(cases h;done)
  | [_,_],[_],h=>(cases h;done)
  | [_,_],_::_::_::_,h=>(cases h;done)
  | _::_::_::_,_,h=>(cases h;done)
 | Tuple es q pos =>
  obtain ⟨xs,h1,h⟩:=obs h;cases h;have e:evE G (.tup xs)=fun r=>if xs.length<=1000 then (yac G xs r).map .tup else none:=by funext r;rw [evE]
  rw [e];exact zvv (S.l gd h1) fun r ts q=>zd6 q
 | List es pos =>
  obtain ⟨xs,h1,h⟩:=obs h;cases h;have e:evE G (.lst xs)=fun r=>if xs.length<=1000 then (yac G xs r).map .lst else none:=by funext r;rw [evE]
  rw [e];exact zvz (S.l gd h1) fun r ts q=>zd6 q
 | Subscript a b pos =>
  have idx:ycg b=false->((trV n c a).bind fun x=>(trV n c b).bind fun y=>some (E.idx x y))=some e'->Oke X c (.Subscript a b pos) (evE G e'):=fun hs h=>by
   obtain ⟨x,h1,h⟩:=obs h;obtain ⟨y,h2,h⟩:=obs h;cases h;have e:evE G (.idx x y)=fun r=>(evE G x r).bind fun s=>(evE G y r).bind fun t=>yah s t:=by funext r;rw [evE]
   rw [e];exact zv1 (by have:=gd.hu;lia) (S.v gd h1) (S.v gd h2) (zom hs)
  cases b with
  | Slice lo hi st p2 =>
   cases st with
   | some st =>replace h:(none:Option E)=some e':=h;cases h
   | none =>
    obtain ⟨x,h1,h⟩:=obs h;obtain ⟨l,h2,h⟩:=obs h;obtain ⟨u,h3,h⟩:=obs h;cases h;have e:evE G (.sli x l u)=fun r=>(evE G x r).bind fun s=>(evO G l r).bind fun l1=>(evO G u r).bind fun u1=>(asI l1).bind fun l2=>(asI u1).bind fun u2=>ycc s l2 u2:=by funext r;rw [evE]
    rw [e];exact zvw (S.v gd h1) (S.o gd h2) (S.o gd h3)
  | Tuple _ _ _=>cases h
  | Starred _ _=>cases h
  | _=>exact idx rfl h
 | Call f args kws pos =>
  cases f with
  | Name f p =>
   match args,kws,h with
   | [],kws,h=>(cases h;done)
   | [a],[],h =>
    replace h:(if glB c.sc f&&zab f then (match yfn f with
  | some k=>(trV n c a).bind fun x=>some (.blt k x)
  | none=>if bnames.contains f then none else (trV n c a).bind fun x=>some (.call f [x])) else none)=some e':=h
    split at h
    .rename_i hg;rw [zy7] at hg;split at h
     .rename_i kb hk;obtain ⟨x,h1,h⟩:=obs h;cases h;have e:evE G (.blt kb x)=fun r=>(evE G x r).bind fun t=>ya3 kb t:=by funext r;rw [evE]
      rw [e];exact zyi gd hk hg.1 (S.v gd h1) (zbc h1 X.env)
     .split at h
      .cases h
      .obtain ⟨x,h1,h⟩:=obs h;cases h;exact zfl S gd hg.1 hg.2 (by show (trV n c a).bind _=_;rw [h1];rfl)
    .cases h
   | [a,b],[],h =>
    replace h:(if f==("isinstance":Str) then
   (match b with
   | .Name ty _=>if glB c.sc f&&glB c.sc ty then (ye4 ty).bind fun k=>(trV n c a).bind fun x=>some (.isi x k) else none
   | _=>none)
  else if glB c.sc f&&zab f&&!bnames.contains f then (ycx (trV n c) [a,b]).bind fun xs=>some (.call f xs) else none)=some e':=h
    split at h
    .rename_i hf;have hf:=ua2 hf;subst hf;cases b with
     | Name ty p2 =>
      simp only at h;split at h
      .rename_i hg;rw [zy7] at hg;obtain ⟨kt,hk,h⟩:=obs h;obtain ⟨x,h1,h⟩:=obs h;cases h;have e:evE G (.isi x kt)=fun r=>(evE G x r).bind fun t=>some (.bl (yew t kt)):=by funext r;rw [evE]
       rw [e];exact zv0 gd hk hg.1 hg.2 (S.v gd h1) (zdn h1 _ X.env)
      .cases h
     | _=>cases h
    .split at h
     .rename_i hg;simp only [Bool.and_eq_true] at hg;obtain ⟨xs,h1,h⟩:=obs h;cases h;exact zfl S gd hg.1.1 hg.1.2 h1
     .cases h
   | a::b::d::es,[],h =>
    replace h:(if glB c.sc f&&zab f&&!bnames.contains f then (ycx (trV n c) (a::b::d::es)).bind fun xs=>some (.call f xs) else none)=some e':=h;split at h
    .rename_i hg;simp only [Bool.and_eq_true] at hg;obtain ⟨xs,h1,h⟩:=obs h;cases h;exact zfl S gd hg.1.1 hg.1.2 h1
    .cases h
   | _::bs,_::_,h=>rcases bs with _ | ⟨_,_ | ⟨_,_⟩⟩<;>cases h
  | Attribute o m apos =>
   match args,kws,h with
   | [a],[],h =>
    replace h:(if apos.endLine==pos.line then (yf9 m).bind fun k=>(trV n c o).bind fun x=>(trV n c a).bind fun y=>some (.mth k x y) else none)=some e':=h;split at h
    .rename_i hl;obtain ⟨km,hm,h⟩:=obs h;obtain ⟨x,h1,h⟩:=obs h;obtain ⟨y,h2,h⟩:=obs h;cases h;unfold yf9 at hm;split at hm
     .rename_i hj;have hj:=ua2 hj;subst hj;cases hm;have e:evE G (.mth .join x y)=fun r=>(evE G x r).bind fun s=>(evE G y r).bind fun t=>ybj .join s t:=by funext r;rw [evE]
      rw [e];exact zsz (S.v gd h1) (S.v gd h2) (zgb h1 _ _ _) (zbc h2 X.env) hl
     .split at hm
      .rename_i hj;have hj:=ua2 hj;subst hj;cases hm;have e:evE G (.mth .index x y)=fun r=>(evE G x r).bind fun s=>(evE G y r).bind fun t=>ybj .index s t:=by funext r;rw [evE]
       rw [e];exact zot gd.hu (S.v gd h1) (S.v gd h2) (zgb h1 _ _ _) (zbc h2 X.env) hl
      .split at hm
       .rename_i hj;have hj:=ua2 hj;subst hj;cases hm;have e:evE G (.mth .count x y)=fun r=>(evE G x r).bind fun s=>(evE G y r).bind fun t=>ybj .count s t:=by funext r;rw [evE]
        rw [e];exact zou gd.hu (S.v gd h1) (S.v gd h2) (zgb h1 _ _ _) (zbc h2 X.env) hl
       .split at hm
        .rename_i hj;have hj:=ua2 hj;subst hj;cases hm;have e:evE G (.mth .zfill x y)=fun r=>(evE G x r).bind fun s=>(evE G y r).bind fun t=>ybj .zfill s t:=by funext r;rw [evE]
         rw [e];exact zor (S.v gd h1) (S.v gd h2) (zgb h1 _ _ _) (zbc h2 X.env) hl
        .cases hm
    .cases h
   | [],_,h=>(cases h;done)
   | [_],_::_,h=>(cases h;done)
   | [a,b],[],h=>cases h
   | [_,_],_::_,h=>cases h
   | _::_::_::_,_,h=>cases h
  | _=>(cases h;done)
 | ListComp elt gens scope pos=>exact (zik S gd h).1
 | JoinedStr es pos =>
  match es,h with
  | [],h=>(cases h;done)
  | [_],h=>(cases h;done)
  | a::b::es,h =>
   obtain ⟨xs,h1,h⟩:=obs h;cases h;have e:evE G (.fst xs)=fun r=>(yac G xs r).bind yfc:=by funext r;rw [evE]
   rw [e];exact zv3 (S.fp gd h1)
 | _=>(cases h;done)
end
theorem zb0 (G:Glo) (k:Nat):∀ n,Snd G k n
 | 0=>⟨fun _ h=>(by cases h),fun _ h=>(by cases h),fun _ h=>(by cases h),fun _ h=>(by cases h)⟩
 | n+1 =>
  have S:=zb0 G k n
  ⟨fun gd h=>zuj S gd h,fun gd h=>zx0 S gd h,fun gd h ht=>zx1 S gd h ht,fun gd h=>zx2 S gd h⟩
end
section
variable {K:W.Frag} {s:Sl} {o:HO} {a:Addr} {i:Nat}
def Sl.isOwn:Sl->Bool
 | .own _=>true
 | .dk _=>true
 | _=>false
def Own (K:W.Frag) (F:Hp):Sl->HO->Prop
 | .own ts,o=>∃ vs,o=.lst vs/\Reps K F ts vs
 | .dk qb,o=>∃ ws:List (Key × V),o=.dK ws/\ws.map (·.1)=qb.map (·.1)/\Reps K F (qb.map (·.2)) (ws.map (·.2))
 | _,_=>False
theorem Own.mono {K:W.Frag} {F F':Hp} {s:Sl} {o:HO} (e:Same F F') (h:Own K F s o):Own K F' s o:=by
 cases s with
 | own ts=>obtain ⟨vs,h1,h2⟩:=h;exact ⟨vs,h1,h2.mono e⟩
 | dk qb=>obtain ⟨ws,h1,h2,h3⟩:=h;exact ⟨ws,h1,h2,h3.mono e⟩
 | _=>exact h
theorem Own.noTup {F:Hp} {xs:List V} (h:Own K F s o):o≠.tup xs:=by
 cases s with
 | own ts=>obtain ⟨vs,rfl,_⟩:=h;exact fun z=>nomatch z
 | dk qb=>obtain ⟨ws,rfl,_⟩:=h;exact fun z=>nomatch z
 | _=>exact h.elim
theorem Own.noTbl {F:Hp} (h:Own K F s o):yed o=false:=by
 cases s with
 | own ts=>obtain ⟨vs,rfl,_⟩:=h;rfl
 | dk qb=>obtain ⟨ws,rfl,_⟩:=h;rfl
 | _=>exact h.elim
theorem Own.noFrz {F:Hp} (h:Own K F s o):∀ p u,o≠.frz p u:=by
 cases s with
 | own ts=>obtain ⟨vs,rfl,_⟩:=h;exact fun _ _ z=>nomatch z
 | dk qb=>obtain ⟨ws,rfl,_⟩:=h;exact fun _ _ z=>nomatch z
 | _=>exact h.elim
theorem Own.frz {K:W.Frag} {F:Hp} {s:Sl} {o:HO} {a:Addr} (h:Own K F s o) (ha:F a=some o):∃ t,s.frz=.val t/\Rep K F t (.ref a):=by
 cases s with
 | own ts=>obtain ⟨vs,rfl,h2⟩:=h;exact ⟨_,rfl,a,vs,rfl,Ls.of ha,h2⟩
 | dk qb=>obtain ⟨ws,rfl,h2,h3⟩:=h;exact ⟨_,rfl,a,ws,rfl,ha,h2,h3⟩
 | _=>exact h.elim
structure EnvS (X:Cx) (F0 H0:Hp) (τ:List Sl) (O:L2.St) (F H:Hp):Prop where
 st:Step F0 H0 F H
 t0:Tbk X.K F0 H0
 len:τ.length=O.length
 val:∀ (i:Nat) (t:T),τ[i]?=some (.val t)->∃ v,O[i]?=some (some v)/\Rep X.K F t v
 ownG:∀ (i:Nat) (s:Sl),τ[i]?=some s->s.isOwn=true->∃ a o,O[i]?=some (some (.ref a))/\H a=some o/\F a=none/\H0 a=none/\Own X.K F s o
 disG:∀ (i j:Nat) (s u:Sl) (a:Addr),i≠j->τ[i]?=some s->τ[j]?=some u->s.isOwn=true->u.isOwn=true->O[i]?=some (some (.ref a))->O[j]?≠some (some (.ref a))
section
variable {X:Cx} {c:Tc} {F0 H0:Hp} {τ:List Sl} {O:L2.St} {F H F' H':Hp}
theorem EnvS.own (e:EnvS X F0 H0 τ O F H) (i:Nat) (ts:List T) (h:τ[i]?=some (.own ts)):∃ a vs,O[i]?=some (some (.ref a))/\H a=some (.lst vs)/\F a=none/\H0 a=none/\Reps X.K F ts vs:=by obtain ⟨a,o,h1,h2,h3,h4,vs,rfl,h5⟩:=e.ownG i _ h rfl;exact ⟨a,vs,h1,h2,h3,h4,h5⟩
theorem EnvS.env (e:EnvS X F0 H0 τ O F H) (hN:X.N=c.nm):EnvE X c (ygm τ) F O H :=
 ⟨e.st.fh,e.t0.up e.st,fun x i t _ hi _ hr=>by
  unfold ygm at hr;rw [zzr] at hr;obtain ⟨s,hs,hg⟩:=oms hr;cases s with
  | val u =>cases hg;obtain ⟨v,h1,h2⟩:=e.val i t hs;exact ⟨i,v,by rw [hN];exact za5 hi,h1,h2⟩
  | _=>cases hg⟩
theorem Step.off {F H F' H':Hp} (s:Step F H F' H') (h3:F a=none) (h2:H a=some o) (ht:∀ xs,o≠.tup xs):F' a=none:=by
 cases q:F' a with
 | none=>rfl
 | some o' =>
  rcases s.nw a (by rw [q];simp) with z | z | ⟨xs,z⟩
  .exact absurd h3 z
  .rw [h2] at z;cases z
  .rw [h2] at z;exact absurd (zzl z) (ht xs)
theorem EnvS.step (e:EnvS X F0 H0 τ O F H) (s:Step F H F' H'):EnvS X F0 H0 τ O F' H':=by
 refine ⟨e.st.trans s,e.t0,e.len,fun i t h=>let ⟨v,h1,h2⟩:=e.val i t h;⟨v,h1,h2.mono s.ff⟩,fun i sl h ho=>?_,e.disG⟩
 .obtain ⟨a,o,h1,h2,h3,h4,h5⟩:=e.ownG i sl h ho;exact ⟨a,o,h1,s.hh.st a _ h2 h5.noTbl,s.off h3 h2 fun xs=>h5.noTup,h4,h5.mono s.ff⟩
theorem EnvS.back (e:EnvS X F0 H0 τ O F H) (hh:SameT H H') (fh:Same F H'):EnvS X F0 H0 τ O F H':=by
 refine ⟨⟨e.st.hh.trans hh,e.st.ff,fh,e.st.nw⟩,e.t0,e.len,e.val,fun i sl h ho=>?_,e.disG⟩
 .obtain ⟨a,o,h1,h2,h3,h4,h5⟩:=e.ownG i sl h ho;exact ⟨a,o,h1,hh.st a _ h2 h5.noTbl,h3,h4,h5⟩
theorem zms (τ:List Sl) (i j:Nat):(τ.modify i Sl.frz)[j]?=if i=j then (τ[j]?).map Sl.frz else τ[j]?:=by
 rw [List.getElem?_modify];by_cases h:i=j
 .simp only [h,if_true];cases τ[j]?<;>rfl
 .simp only [h,if_false];cases τ[j]?<;>rfl
theorem EnvS.frz1 (e:EnvS X F0 H0 τ O F H) (i:Nat):∃ F',EnvS X F0 H0 (τ.modify i Sl.frz) O F' H/\Same F F':=by
 by_cases ho:∃ s,τ[i]?=some s/\s.isOwn=true
 .obtain ⟨sl,ho,hw⟩:=ho;obtain ⟨a,ob,h1,h2,h3,h4,h5⟩:=e.ownG i sl ho hw;have hs:Same F (upd F a ob):=zbg h3;obtain ⟨t0,ef,r0⟩:=(h5.mono hs).frz (a:=a) zam;have get:∀ (j:Nat) (s:Sl),(τ.modify i Sl.frz)[j]?=some s->(j=i/\s=.val t0)\/(j≠i/\τ[j]?=some s):=fun j s h=>by
   rw [zms] at h;by_cases hj:i=j
   .subst hj;rw [if_pos rfl,ho] at h;rw [<- ef];exact .inl ⟨rfl,(zzl h).symm⟩
   .rw [if_neg hj] at h;exact .inr ⟨Ne.symm hj,h⟩
  refine ⟨upd F a ob,⟨⟨e.st.hh,e.st.ff.trans hs,fun b o q=>?_,fun b z=>?_⟩,e.t0,by rw [List.length_modify];exact e.len,fun j t h=>?_,fun j u h hu=>?_,fun j l u w b hjl hj hl hu hw'=>?_⟩,hs⟩
  .by_cases hb:b=a
   .subst hb;rw [zam] at q;cases q;exact h2
   .rw [zai hb] at q;exact e.st.fh b o q
  .by_cases hb:b=a
   .subst hb;exact .inr (.inl h4)
   .rw [zai hb] at z;exact e.st.nw b z
  .rcases get j _ h with ⟨rfl,q⟩ | ⟨_,q⟩
   .cases q;exact ⟨.ref a,h1,r0⟩
   .obtain ⟨v,q1,q2⟩:=e.val j t q;exact ⟨v,q1,q2.mono hs⟩
  .rcases get j _ h with ⟨rfl,q⟩ | ⟨hj,q⟩
   .subst q;cases hu
   .obtain ⟨b,o,q1,q2,q3,q4,q5⟩:=e.ownG j u q hu;have hne:b≠a:=fun z=>by subst z;exact e.disG i j sl u b (Ne.symm hj) ho q hw hu h1 q1
    exact ⟨b,o,q1,q2,by rw [zai hne];exact q3,q4,q5.mono hs⟩
  .rcases get j _ hj with ⟨_,q⟩ | ⟨_,q⟩
   .subst q;cases hu
   .rcases get l _ hl with ⟨_,q'⟩ | ⟨_,q'⟩
    .subst q';cases hw'
    .exact e.disG j l u w b hjl q q' hu hw'
 .refine ⟨F,?_,Same.refl F⟩;have:τ.modify i Sl.frz=τ:=by
   apply List.ext_getElem?;intro j;rw [zms];by_cases hj:i=j
   .subst hj;rw [if_pos rfl];cases q:τ[i]? with
    | none=>rfl
    | some s =>
     cases s with
     | own ts=>exact absurd ⟨_,q,rfl⟩ ho
     | dk ts=>exact absurd ⟨_,q,rfl⟩ ho
     | _=>rfl
   .rw [if_neg hj]
  rw [this];exact e
theorem EnvS.frz:∀ (is:List Nat) {τ:List Sl} {F:Hp},EnvS X F0 H0 τ O F H->∃ F',EnvS X F0 H0 (yaf is τ) O F' H/\Same F F'
 | [],_,F,e=>⟨F,e,Same.refl F⟩
 | i::is,τ,F,e=>by obtain ⟨F1,e1,s1⟩:=e.frz1 i;obtain ⟨F2,e2,s2⟩:=EnvS.frz is e1;exact ⟨F2,e2,s1.trans s2⟩
theorem yax {α:Type} {l:List α} {j:Nat} {x y:α} (h:(l.set i x)[j]?=some y):(j=i/\y=x)\/(j≠i/\l[j]?=some y):=by
 rw [List.getElem?_set] at h;split at h
 .rename_i hj;split at h
  .cases h;exact .inl ⟨hj.symm,rfl⟩
  .cases h
 .rename_i hj;exact .inr ⟨Ne.symm hj,h⟩
theorem EnvS.setV1 (e:EnvS X F0 H0 τ O F H) (i:Nat) {t:T} {v:V} (r:Rep X.K F t v):EnvS X F0 H0 (τ.set i (.val t)) (O.set i (some v)) F H:=by
 refine ⟨e.st,e.t0,by rw [ub0,ub0];exact e.len,fun j u h=>?_,fun j u h hu=>?_,fun j l u w b hjl hj hl hu hw=>?_⟩
 .rcases yax h with ⟨rfl,q⟩ | ⟨hj,q⟩
  .cases q;refine ⟨v,?_,r⟩;have hlt:j<(τ.set j (.val t)).length:=(ome h).1;rw [ub0,e.len] at hlt;rw [ua4 hlt]
  .obtain ⟨w,q1,q2⟩:=e.val j u q;exact ⟨w,by rw [zzw (Ne.symm hj)];exact q1,q2⟩
 .rcases yax h with ⟨rfl,q⟩ | ⟨hj,q⟩
  .subst q;cases hu
  .obtain ⟨a,o,q1,q2⟩:=e.ownG j u q hu;exact ⟨a,o,by rw [zzw (Ne.symm hj)];exact q1,q2⟩
 .rcases yax hj with ⟨_,q⟩ | ⟨hji,q⟩
  .subst q;cases hu
  .rcases yax hl with ⟨_,q'⟩ | ⟨hli,q'⟩
   .subst q';cases hw
   .rw [zzw (Ne.symm hji),zzw (Ne.symm hli)];exact e.disG j l u w b hjl q q' hu hw
theorem EnvS.setG (e:EnvS X F0 H0 τ O F H) (i:Nat) {p:Addr} (hp:H p=none) (r:Own X.K F s o):EnvS X F0 H0 (τ.set i s) (O.set i (some (.ref p))) F (upd H p o):=by
 have hs:Same H (upd H p o):=zbg hp;have nop:∀ {j:Nat} {u:Sl} {a:Addr},τ[j]?=some u->u.isOwn=true->O[j]?=some (some (.ref a))->a≠p:=fun {j u a} q hu q1=>by obtain ⟨a',o',g1,g2,_⟩:=e.ownG j u q hu;rw [q1] at g1;cases g1;exact zae g2 hp
 refine ⟨e.st.newH hp,e.t0,by rw [ub0,ub0];exact e.len,fun j u h=>?_,fun j u h hu=>?_,fun j l u w b hjl hj hl hu hw=>?_⟩
 .rcases yax h with ⟨_,q⟩ | ⟨hj,q⟩
  .subst q;exact r.elim
  .obtain ⟨w,q1,q2⟩:=e.val j u q;exact ⟨w,by rw [zzw (Ne.symm hj)];exact q1,q2⟩
 .rcases yax h with ⟨rfl,q⟩ | ⟨hj,q⟩
  .subst q;have hlt:j<(τ.set j u).length:=(ome h).1;rw [ub0,e.len] at hlt;exact ⟨p,o,by rw [ua4 hlt],zam,e.st.fh.free hp,e.st.hh.free hp,r⟩
  .obtain ⟨a,o',q1,q2,q3⟩:=e.ownG j u q hu;exact ⟨a,o',by rw [zzw (Ne.symm hj)];exact q1,hs a _ q2,q3⟩
 .intro hb hb';rcases yax hj with ⟨rfl,q⟩ | ⟨hji,q⟩
  .rcases yax hl with ⟨rfl,q'⟩ | ⟨hli,q'⟩
   .exact hjl rfl
   .rw [zzw (Ne.symm hli)] at hb';have hlt:j<O.length:=by have:=(ome hj).1;rw [ub0,e.len] at this;exact this
    rw [ua4 hlt] at hb;cases hb;exact nop q' hw hb' rfl
  .rw [zzw (Ne.symm hji)] at hb;rcases yax hl with ⟨rfl,q'⟩ | ⟨hli,q'⟩
   .have hlt:l<O.length:=by have:=(ome hl).1;rw [ub0,e.len] at this;exact this
    rw [ua4 hlt] at hb';cases hb';exact nop q hu hb rfl
   .rw [zzw (Ne.symm hli)] at hb';exact e.disG j l u w b hjl q q' hu hw hb hb'
theorem EnvS.setO (e:EnvS X F0 H0 τ O F H) (i:Nat) {ts:List T} {p:Addr} {vs:List V} (hp:H p=none) (r:Reps X.K F ts vs):EnvS X F0 H0 (τ.set i (.own ts)) (O.set i (some (.ref p))) F (upd H p (.lst vs)):=e.setG i hp ⟨vs,rfl,r⟩
theorem EnvS.growG (e:EnvS X F0 H0 τ O F H) {s':Sl} (ho:τ[i]?=some s) (hs:s.isOwn=true) (ha:O[i]?=some (some (.ref a))) (h3:F a=none) (h4:H0 a=none) (r:Own X.K F s' o):EnvS X F0 H0 (τ.set i s') O F (upd H a o):=by
 refine ⟨⟨(by obtain ⟨a2,o2,g1,g2,_,_,g5⟩:=e.ownG i s ho hs;rw [ha] at g1;cases g1;exact e.st.hh.upd h4 g2 g5.noTbl g5.noFrz),e.st.ff,fun b u q=>by rw [zai (zae q h3)];exact e.st.fh b u q,e.st.nw⟩,e.t0,by rw [ub0];exact e.len,fun j u h=>?_,fun j w h hw=>?_,fun j l w z b hjl hj hl hw hz=>?_⟩
 .rcases yax h with ⟨_,q⟩ | ⟨hj,q⟩
  .subst q;exact r.elim
  .exact e.val j u q
 .rcases yax h with ⟨rfl,q⟩ | ⟨hj,q⟩
  .subst q;exact ⟨a,o,ha,zam,h3,h4,r⟩
  .obtain ⟨b,z,q1,q2,q3,q4,q5⟩:=e.ownG j w q hw;have hne:b≠a:=fun z=>by subst z;exact e.disG i j s w b (Ne.symm hj) ho q hs hw ha q1
   exact ⟨b,z,q1,by rw [zai hne];exact q2,q3,q4,q5⟩
 .rcases yax hj with ⟨rfl,q⟩ | ⟨hji,q⟩
  .rcases yax hl with ⟨rfl,q'⟩ | ⟨hli,q'⟩
   .exact absurd rfl hjl
   .exact e.disG j l s z b hjl ho q' hs hz
  .rcases yax hl with ⟨rfl,q'⟩ | ⟨hli,q'⟩
   .exact e.disG j l w s b hjl q ho hw hs
   .exact e.disG j l w z b hjl q q' hw hz
theorem EnvS.grow (e:EnvS X F0 H0 τ O F H) {ts us:List T} {vs:List V} (ho:τ[i]?=some (.own ts)) (ha:O[i]?=some (some (.ref a))) (h3:F a=none) (h4:H0 a=none) (r:Reps X.K F us vs):EnvS X F0 H0 (τ.set i (.own us)) O F (upd H a (.lst vs)):=e.growG ho rfl ha h3 h4 ⟨vs,rfl,r⟩
theorem EnvS.setAll (hN:X.N=c.nm):∀ {is:List Nat} {us:List T} {vs:List V} {τ τ':List Sl} {O:L2.St},EnvS X F0 H0 τ O F H->Reps X.K F us vs->setAll is us τ=some τ'->EnvS X F0 H0 τ' (yen is vs O) F H/\vs.length=is.length
 | [],[],_,τ,τ',O,e,r,h=>by cases r;cases h;exact ⟨e,rfl⟩
 | [],_::_,_,_,_,_,_,_,h=>by cases h
 | _::_,[],_,_,_,_,_,_,h=>by cases h
 | i::is,u::us,vs,τ,τ',O,e,r,h=>by obtain ⟨v,ws,rfl,r1,r2⟩:=r;obtain ⟨q1,q2⟩:=EnvS.setAll hN (is:=is) (e.setV1 i r1) r2 h;exact ⟨q1,by simp [q2]⟩
end
def wantO (X:Cx) (F0 H0 F:Hp) (D:Ends):Out->Prop
 | .nx τ'=>∀ O' F' H',EnvS X F0 H0 τ' O' F' H'->Same F F'->D.nx O' H'
 | .rt t=>∀ v F' H',Step F0 H0 F' H'->Rep X.K F' t v->D.rt v H'
def spS (X:Cx) (F0 H0:Hp) (f:List Sl->Option Out):TS:=fun D O H=>∃ τ F o,EnvS X F0 H0 τ O F H/\f τ=some o/\wantO X F0 H0 F D o
theorem wantO.up {X:Cx} {F0 H0 F F':Hp} {D:Ends} {o:Out} (s:Same F F') (h:wantO X F0 H0 F D o):wantO X F0 H0 F' D o:=by
 cases o with
 | nx τ=>exact fun O' G' H' e s'=>h O' G' H' e (s.trans s')
 | rt t=>exact h
end
section
structure Fx (X:Cx) (c:Tc):Prop where
 hN:X.N=c.nm
 loc:∀ x,(c.sc.names.lookup x=some .local\/c.sc.names.lookup x=some .cell)->Loc X.env.scope x
 fn:∀ x,X.fn x=true
 xe:X.xe=fun _ _=>False
section
variable {X:Cx} {c:Tc} {G:Glo} {k n:Nat} {F0 H0:Hp}
theorem Fx.at (fx:Fx X c) {x:Str} {i:Nat} (hl:c.sc.names.lookup x=some .local\/c.sc.names.lookup x=some .cell) (hi:yal c.nm x=some i):At X x i:=⟨by rw [fx.hN];exact za5 hi,fx.loc x hl,.inl (fx.fn x)⟩
theorem Fx.ats (fx:Fx X c):∀ {xs:List Str} {is:List Nat},(xs.all fun x=>zab x&&(c.sc.names.lookup x==some .local||c.sc.names.lookup x==some .cell))=true->ycx (yal c.nm) xs=some is->Ats X xs is
 | [],_,_,h=>by cases h;exact .nil
 | x::xs,is,hl,h=>by rw [List.all_cons,zy7] at hl;obtain ⟨i,h1,h⟩:=obs h;obtain ⟨js,h2,h⟩:=obs h;cases h;have q:=hl.1;simp only [Bool.and_eq_true,Bool.or_eq_true,beq_iff_eq] at q;exact .cons (fx.at q.2 h1) (fx.ats hl.2 h2)
theorem zec {e:Expr} {e':E} (h:trV n c e=some e') (hl:∀ a b s p,e≠.ListComp a b s p) (t:Option Expr) (l:Nat) (env:PySem.Env):swapsWith e t l env=pure false:=by
 cases n with
 | zero=>cases h
 | succ n =>
  cases e with
  | ListComp a b s p=>exact absurd rfl (hl a b s p)
  | SetComp _ _ _ _=>cases h
  | DictComp _ _ _ _ _=>cases h
  | _=>rfl
theorem zj4:MtM X "list.extend" (fun x vs H Q=>∃ l b xs zs,x=.ref l/\vs=[.ref b]/\H l=some (.lst xs)/\Ls X.K H b zs/\xs.length+zs.length<=sizeLine/\Q .non (upd H l (.lst (xs++zs)))):=by
 intro pj s O H x vs v us Q I rx rv h;obtain ⟨l,b,xs,zs,rfl,rfl,hH,hB,hz,q⟩:=h;cases rx;obtain ⟨u,rfl,ru⟩:=rv.one;cases ru;obtain ⟨z,qc,n,r,hl,e⟩:=I.lstM hH;obtain ⟨z2,its2,n2,r2,e2⟩:=hB.ok I;have hl2:=r2.length;have hsz:qc.toArray.size+its2.toArray.size<=sizeLine:=by rw [zy6,zy6];lia
 have hlong:¬ (!qc.toArray.isEmpty&&Builtin.List.listTooLong (qc.toArray.size+its2.toArray.size))=true:=by rw [ziw hsz,Bool.and_false];exact zzx
 refine call_meets F.slot_list_extend ⟨_,e,rfl⟩ F.entry_list_extend (F.args_list_extend_2 _ _)
  (AutoSeq1.list_extend_list_list_0 l qc.toArray n b its2.toArray n2 hlong (by rw [zy6];lia) (by lia)) ⟨e,e2,?_⟩
 refine ⟨.non,_,I.lset (its':=qc++its2) hH e (by simp) (r.append r2) ?_,rfl,q⟩;rw [zy4];lia
theorem zs3 {a b:Expr} {pos:Pos} {f g:Env->Option T} (ha:Oke X c a f) (hb:Oke X c b g):PE X (.BinOp a .Add b pos) (spN X c (fun r=>(f r).bind fun x=>(g r).bind fun y=>ya2 x y)):=by
 refine zar (zvc ydg ha hb) fun O H Q q=>?_;obtain ⟨r,F,ts,e,ht,q⟩:=q;obtain ⟨t1,e1,ht⟩:=obs ht;obtain ⟨t2,e2,ht⟩:=obs ht;refine ⟨r,F,t1,e,e1,fun v1 F1 H1 s1 r1=>⟨r,F1,t2,e.step s1,e2,fun v2 F2 H2 s2 r2=>?_⟩⟩;have key:∃ us ws,t1=.lst us/\t2=.lst ws/\us.length+ws.length<=SZ/\ts=us++ws:=by
  cases t1 with
  | lst us =>
   cases t2 with
   | lst ws =>
    simp only [ya2] at ht;split at ht
    .rename_i hz;cases ht;exact ⟨_,_,rfl,rfl,hz,rfl⟩
    .cases ht
   | _=>simp [ya2] at ht
  | _=>cases t2<;>simp only [ya2] at ht<;>(try split at ht)<;>cases ht
 obtain ⟨us,ws,rfl,rfl,hz,rfl⟩:=key;obtain ⟨l,vs,rfl,g1,g2⟩:=r1;obtain ⟨l',vs',rfl,g3,g4⟩:=r2;refine ⟨l,l',vs,vs',rfl,rfl,Ls.same (s2.ff.trans s2.fh) g1,Ls.same s2.fh g3,by rw [g2.length,g4.length,<- zey];exact hz,fun p hp=>?_⟩;exact q p _ F2 H2 (s1.trans s2) hp ((g2.mono s2.ff).app g4)
theorem zd2 {y:E} {t:T} (h:fresh y=false\/∀ ts,t≠.lst ts):yan y t=.val t:=by
 unfold yan;rcases h with h | h
 .rw [h]
 .cases fresh y with
  | false=>rfl
  | true=>cases t with
   | lst ts=>exact absurd rfl (h ts)
   | _=>rfl
theorem zn8 {y:E} {ts:List T} (h:fresh y=true):yan y (.lst ts)=.own ts:=by unfold yan;rw [h]
theorem zrs (gd:Gd X c G k) (fx:Fx X c) {x:Str} {e:Expr} {y:E} {py pos:Pos} {i:Nat} (hl:c.sc.names.lookup x=some .local\/c.sc.names.lookup x=some .cell) (hi:yal c.nm x=some i) (h:trV (n+1) c e=some y) (hfl:fresh y=true->yfp e=true) :
  PS X (.Assign [.Name x py] e pos) (spS X F0 H0 (evS G (.asg i y))):=by
 have S:=zb0 G k n;have at_:=fx.at hl hi;intro pj s O H D I q;obtain ⟨τ,F,o,en,hf,hw⟩:=q;rw [evS] at hf;obtain ⟨F1,e1,s1⟩:=en.frz (yaj y);obtain ⟨t,ht,hf⟩:=obs hf;cases hf;have val:yan y t=.val t->yel X c i (evE G y) D O H:=fun hs=>⟨_,F1,t,e1.env fx.hN,ht,fun v F' H' st r=>hw _ F' H' (by rw [hs];exact (e1.step st).setV1 i r) (s1.trans st.ff)⟩;have valN:yan y t=.val t->(∀ a b s p,e≠.ListComp a b s p)->wpAny (model X.prog X.w) X.A (exec (.Assign [.Name x py] e pos) X.env) (SP X pj D) X.xe s:=fun hs hne =>
  ze3 gd.nd at_.ix at_.loc (zuj S gd h) (zec h hne _ _ _) at_.fn pj s O H D I (by obtain ⟨r,F2,t2,a1,a2,a3⟩:=val hs;exact ⟨r,F2,t2,a1,a2,a3⟩)
 have own:∀ {ts:List T},t=.lst ts->fresh y=true->(∀ a b s p,e≠.ListComp a b s p)->PE X e (spN X c (evE G y))->wpAny (model X.prog X.w) X.A (exec (.Assign [.Name x py] e pos) X.env) (SP X pj D) X.xe s:=fun {ts} et hfr hne hp=>by subst et;refine ze3 gd.nd at_.ix at_.loc hp (zec h hne _ _ _) at_.fn pj s O H D I ⟨_,F1,ts,e1.env fx.hN,ht,fun p vs F' H1 st hp r=>hw _ F' _ ?_ (s1.trans st.ff)⟩;rw [zn8 hfr];exact (e1.step st).setO i hp r
 cases e with
 | ListComp a b sc p =>
  have hy:fresh y=false:=by
   obtain ⟨tg,iter,ifs,rfl,xs,ki,h0,h1,hcs,hr⟩:=zjm h
   match ifs,hr with
   | [],hr =>obtain ⟨z,h2,hr⟩:=obs hr;cases hr;rfl
   | [t],hr =>obtain ⟨z,h2,hr⟩:=obs hr;obtain ⟨w,h3,hr⟩:=obs hr;cases hr;rfl
   | _::_::_,hr=>cases hr
  exact (zik S gd h).2 at_ pj s O H D I (val (zd2 (.inl hy)))
 | List es p =>
  have h':=h;obtain ⟨zs,h1,h'⟩:=obs h';cases h';have ee:evE G (.lst zs)=fun r=>if zs.length<=1000 then (yac G zs r).map .lst else none:=by funext r;rw [evE]
  have hlst:∃ ts,t=.lst ts:=by
   rw [ee] at ht;dsimp only at ht;split at ht
   .obtain ⟨ts,_,rfl⟩:=oms ht;exact ⟨ts,rfl⟩
   .cases ht
  obtain ⟨ts,rfl⟩:=hlst;exact own rfl rfl (fun _ _ _ _ z=>by cases z) (by rw [ee];exact zll (S.l gd h1) fun r ts q=>zd6 q)
 | BinOp a op b p =>
  have h':=h;obtain ⟨o,h0,h'⟩:=obs h';obtain ⟨x1,h1,h'⟩:=obs h';obtain ⟨y1,h2,h'⟩:=obs h';cases h';by_cases hadd:op=.Add
  .subst hadd;cases h0;by_cases hlst:∃ ts,t=.lst ts
   .obtain ⟨ts,rfl⟩:=hlst;have ee:evE G (.bin .add x1 y1)=fun r=>(evE G x1 r).bind fun s=>(evE G y1 r).bind fun t=>ya2 s t:=by funext r;rw [evE];try rfl
    exact own rfl rfl (fun _ _ _ _ z=>by cases z) (by rw [ee];exact zs3 (S.v gd h1) (S.v gd h2))
   .exact valN (zd2 (.inr fun ts z=>hlst ⟨ts,z⟩)) (fun _ _ _ _ z=>by cases z)
  .refine valN (zd2 (.inl ?_)) (fun _ _ _ _ z=>by cases z);cases op<;>first | exact absurd rfl hadd | (cases h0;done) | (cases h0;rfl)
 | _ =>
  refine valN (zd2 (.inl ?_)) (fun _ _ _ _ z=>by cases z);cases hfr:fresh y with
  | false=>rfl
  | true=>cases hfl hfr
end
end
section
variable {x:Str} {a:Expr} {pos:Pos} {b:List S} {body:List Stmt} {xs:List Str} {is:List Nat}
section
variable {X:Cx} {c:Tc} {G:Glo} {k n:Nat} {F0 H0:Hp}
theorem zba (h:zab x=true):(x==("__debug__":Str))=false/\(x==("__classdict__":Str))=false:=by unfold zab at h;simp only [Bool.and_eq_true,Bool.not_eq_true'] at h;exact ⟨h.1.1.1,h.1.1.2⟩
theorem zrt (gd:Gd X c G k) (fx:Fx X c) {y:E} {px apos cpos:Pos} {i:Nat} (hv:ybq c.sc x=true) (hp:zab x=true) (hi:yal c.nm x=some i) (h:trV n c a=some y) (hl:(apos.endLine==cpos.line)=true) :
  PS X (.Expr (.Call (.Attribute (.Name x px) "append" apos) [a] [] cpos) pos) (spS X F0 H0 (evS G (.app i y))):=by
 have S:=zb0 G k n;have hN:X.N[i]?=some x:=by rw [fx.hN];exact za5 hi
 have hs:=zbc h X.env;refine zcc (zla (zjz F.plainAttrs_list F.slot_list_append F.type_list_append zgp (ze4 hN (gd.vis x hv) (zba hp).1 (zba hp).2) (zbq (S.v gd h) hs) rfl (by rw [hs];rfl) hl hs rfl) rfl) fun D O H q=>?_;obtain ⟨τ,F,o,en,hf,hw⟩:=q;rw [evS] at hf;obtain ⟨F1,e1,s1⟩:=en.frz (yaj y);obtain ⟨t,ht,hf⟩:=obs hf;split at hf
 .rename_i ts ho;split at hf
  .rename_i hz;cases hf;obtain ⟨b,vs,q1,q2,q3,q4,q5⟩:=e1.own i ts ho;refine ⟨.ref b,q1,.inl ⟨rfl,_,SqL.of q2⟩,_,F1,[t],e1.env fx.hN,ud8.mpr ⟨t,ht,rfl⟩,fun ws F' H' st r=>?_⟩;obtain ⟨v,r',rfl,r1,r2⟩:=r;cases r2;have e2:=e1.step st;obtain ⟨b',vs',p1,p2,p3,p4,p5⟩:=e2.own i ts ho;rw [q1] at p1;cases p1;refine ⟨b,vs',v,rfl,rfl,p2,by rw [p5.length,<- zey];exact hz,?_⟩;exact hw O F' _ (e2.grow ho q1 p3 p4 (p5.app (.cons r1 rfl))) (s1.trans st.ff)
  .cases hf
 .cases hf
theorem zrq (gd:Gd X c G k) (fx:Fx X c) {y:E} {px apos cpos:Pos} {i:Nat} (hv:ybq c.sc x=true) (hp:zab x=true) (hi:yal c.nm x=some i) (h:trV n c a=some y) (hl:(apos.endLine==cpos.line)=true) :
  PS X (.Expr (.Call (.Attribute (.Name x px) "extend" apos) [a] [] cpos) pos) (spS X F0 H0 (evS G (.ext i y))):=by
 have S:=zb0 G k n;have hN:X.N[i]?=some x:=by rw [fx.hN];exact za5 hi
 have hs:=zbc h X.env;refine zcc (zla (zjz F.plainAttrs_list F.slot_list_extend F.type_list_extend zj4 (ze4 hN (gd.vis x hv) (zba hp).1 (zba hp).2) (zbq (S.v gd h) hs) rfl (by rw [hs];rfl) hl hs rfl) rfl) fun D O H q=>?_;obtain ⟨τ,F,o,en,hf,hw⟩:=q;rw [evS] at hf;obtain ⟨F1,e1,s1⟩:=en.frz (yaj y);obtain ⟨t,ht,hf⟩:=obs hf;split at hf
 .rename_i us ts ho;split at hf
  .rename_i hz;cases hf;obtain ⟨b,vs,q1,q2,q3,q4,q5⟩:=e1.own i ts ho;refine ⟨.ref b,q1,.inl ⟨rfl,_,SqL.of q2⟩,_,F1,[.lst us],e1.env fx.hN,ud8.mpr ⟨_,ht,rfl⟩,fun ws F' H' st r=>?_⟩;obtain ⟨v,r',rfl,r1,r2⟩:=r;cases r2;obtain ⟨l,zs,rfl,g1,g2⟩:=r1;have e2:=e1.step st;obtain ⟨b',vs',p1,p2,p3,p4,p5⟩:=e2.own i ts ho;rw [q1] at p1;cases p1;refine ⟨b,l,vs',zs,rfl,rfl,p2,Ls.same st.fh g1,by rw [p5.length,g2.length,<- zey];exact hz,?_⟩;exact hw O F' _ (e2.grow ho q1 p3 p4 (p5.app g2)) (s1.trans st.ff)
  .cases hf
 .cases hf
theorem zrn (gd:Gd X c G k) (fx:Fx X c) {y:E} (h:trV n c a=some y):PS X (.Return (some a) pos) (spS X F0 H0 (evS G (.ret y))):=by have S:=zb0 G k n;refine zcc (zu4 (S.v gd h)) fun D O H q=>?_;obtain ⟨τ,F,o,en,hf,hw⟩:=q;rw [evS] at hf;obtain ⟨F1,e1,s1⟩:=en.frz (yaj y);obtain ⟨t,ht,rfl⟩:=oms hf;exact ⟨_,F1,t,e1.env fx.hN,ht,fun v F' H' st r=>hw v F' H' (e1.st.trans st) r⟩
theorem zrr {j:Nat} {p:Pos}:PS X (.Expr (.Constant (.str x) j p) pos) (spS X F0 H0 (evS G .pass)):=by refine zcc zu6 fun D O H q=>?_;obtain ⟨τ,F,o,en,hf,hw⟩:=q;rw [evS] at hf;cases hf;exact hw _ F H en (Same.refl F)
theorem zul (gd:Gd X c G k) (fx:Fx X c) {t:Expr} {a b:List Stmt} {z:E} {x y:List S} (h:trT n c t=some z) (ha:PSs X a (spS X F0 H0 (yab G x))) (hb:PSs X b (spS X F0 H0 (yab G y))):PS X (.If t a b pos) (spS X F0 H0 (evS G (.ite z x y))):=by
 have S:=zb0 G k n;refine zcc (zx8 (S.t gd h).1 ha hb) fun D O H q=>?_;obtain ⟨τ,F,o,en,hf,hw⟩:=q;rw [evS] at hf;obtain ⟨F1,e1,s1⟩:=en.frz (yaj z);obtain ⟨t,ht,hf⟩:=obs hf;cases t with
 | bl d =>
  refine ⟨_,F1,d,e1.env fx.hN,ht,fun F' H' st=>?_⟩;cases d with
  | true=>exact ⟨_,F,o,en.back st.hh ((s1.trans st.ff).trans st.fh),hf,hw⟩
  | false=>exact ⟨_,F,o,en.back st.hh ((s1.trans st.ff).trans st.fh),hf,hw⟩
 | _=>cases hf
theorem zkt (gd:Gd X c G k) (fx:Fx X c) {t:Expr} {z:E} (h:trT n c t=some z) (hb:PSs X body (spS X F0 H0 (yab G b))):PS X (.While t body [] pos) (spS X F0 H0 (evS G (.wloop z b))):=by
 have S:=zb0 G k n;refine zcc (zol (by rw [fx.xe];exact PassesOwn.never) (S.t gd h).1 hb) fun D O H q=>?_;obtain ⟨τ,F,o,en,hf,hw⟩:=q;rw [evS] at hf;refine ⟨fun m O' H'=>∃ τ' F',EnvS X F0 H0 τ' O' F' H'/\Same F F'/\ybn (fun τ=>yab G b τ) (fun τ=>evE G z (ygm (yaf (yaj z) τ))) m τ'=some o,⟨1000,τ,F,en,Same.refl F,hf⟩,?_⟩;rintro m O' H' ⟨τ',F',e',s',hlo⟩;cases m with
 | zero=>cases hlo
 | succ m =>
  rw [ybn] at hlo;obtain ⟨t,ht,hlo⟩:=obs hlo;obtain ⟨F1,e1,s1⟩:=e'.frz (yaj z);cases t with
  | bl d =>
   refine ⟨_,F1,d,e1.env fx.hN,ht,fun F2 H2 st=>?_⟩;have e2:=e'.back st.hh ((s1.trans st.ff).trans st.fh);cases d with
   | false =>cases hlo;exact ye5 (hw _ F' H2 e2 s')
   | true =>
    obtain ⟨o1,ho1,hlo⟩:=obs hlo;refine yex ⟨fun O'' H''=>∃ τ'' F'',EnvS X F0 H0 τ'' O'' F'' H''/\Same F F''/\ybn (fun τ=>yab G b τ) (fun τ=>evE G z (ygm (yaf (yaj z) τ))) m τ''=some o,fun O'' H'' hN=>⟨m,Nat.lt_succ_self _,hN⟩,τ',F',o1,e2,ho1,?_⟩;cases o1 with
    | nx τ2=>exact fun O7 F7 H7 e7 s7=>⟨τ2,F7,e7,s'.trans s7,hlo⟩
    | rt t =>cases hlo;exact hw.up s'
  | _=>cases hlo
theorem zpd (fx:Fx X c) {tg:Expr} (h1:zbs tg=some xs) (h2n:yap tg=true->2<=xs.length) (hat:Ats X xs is) {J:It} {qc:List T} {τ2:List Sl} {O:L2.St} {F2 H2:Hp} {D:Ends} {o:Out}
  (e2:EnvS X F0 H0 τ2 O F2 H2) (wk:Walk X.K J qc F2) (hf:yas (fun x τ=>(ya0 is x τ).bind fun τ'=>yab G b τ') qc τ2=some o) (hw:wantO X F0 H0 F2 D o) :
  ∃ W:Nat->Nat->L2.St->Hp->Prop,(∃ m,W 0 m O H2)/\∀ i m O H,W i m O H ->
 (J.stop i H/\D.nx O H)\/(J.go i H/\∃ N:L2.St->Hp->Prop,(∀ O' H',N O' H'->∃ m',m'<m/\W (i+1) m' O' H')/\∀ x H',J.yld i H x H'->gT X.K (!yap tg) is x O H' fun O2 H2=>spS X F0 H0 (yab G b) { D with nx:=N,ct:=N,bk:=D.nx } O2 H2):=by
 refine ⟨fun i m O' H'=>i<=qc.length/\m=qc.length-i/\∃ τ' F',EnvS X F0 H0 τ' O' F' H'/\Same F2 F'/\yas (fun x τ=>(ya0 is x τ).bind fun τ'=>yab G b τ') (qc.drop i) τ'=some o,⟨qc.length,zzp _,rfl,_,F2,e2,Same.refl F2,hf⟩,?_⟩;rintro i m O' H' ⟨hle,rfl,τ',F',e',s',hlo⟩;have sm:Same F2 H':=s'.trans e'.st.fh;have wup:wantO X F0 H0 F' D o:=hw.up s';by_cases hlt:i<qc.length
 .refine .inr ⟨wk.go i H' hlt sm,?_⟩;rw [List.drop_eq_getElem_cons hlt,yas] at hlo;obtain ⟨o1,ho1,hlo⟩:=obs hlo;obtain ⟨τ1,hb1,ho1⟩:=obs ho1;refine ⟨fun O'' H''=>∃ τ'' F'',EnvS X F0 H0 τ'' O'' F'' H''/\Same F2 F''/\yas (fun x τ=>(ya0 is x τ).bind fun τ'=>yab G b τ') (qc.drop (i+1)) τ''=some o,fun O'' H'' hN=>⟨qc.length-(i+1),by lia,hlt,rfl,hN⟩,fun x H5 hy=>?_⟩;obtain ⟨F5,st5,r5⟩:=wk.yld i H' x H5 F' qc[i] (by simp [hlt]) s' e'.st.fh hy;have e5:=e'.step st5;have fin:∀ O6,EnvS X F0 H0 τ1 O6 F5 H5->spS X F0 H0 (yab G b) { D with nx:=fun O'' H''=>∃ τ'' F'',EnvS X F0 H0 τ'' O'' F'' H''/\Same F2 F''/\yas (fun x τ=>(ya0 is x τ).bind fun τ'=>yab G b τ') (qc.drop (i+1)) τ''=some o,ct:=fun O'' H''=>∃ τ'' F'',EnvS X F0 H0 τ'' O'' F'' H''/\Same F2 F''/\yas (fun x τ=>(ya0 is x τ).bind fun τ'=>yab G b τ') (qc.drop (i+1)) τ''=some o,bk:=D.nx } O6 H5:=fun O6 e6=>by
   refine ⟨τ1,F5,o1,e6,ho1,?_⟩;cases o1 with
   | nx τ2=>exact fun O7 F7 H7 e7 s7=>⟨τ2,F7,e7,s'.trans (st5.ff.trans s7),hlo⟩
   | rt t =>cases hlo;exact wup
  have hlen:=zh7 hat;cases htup:yap tg with
  | false =>
   have one:∃ i0,is=[i0]:=by
    cases tg with
    | Name y p =>
     cases h1
     match is,hlen with
     | [i0],_=>exact ⟨i0,rfl⟩
    | Tuple _ _ _=>cases htup
    | _=>cases h1
   obtain ⟨i0,rfl⟩:=one;cases hb1;exact fin _ (e5.setV1 i0 r5)
  | true =>
   have h2n:=h2n htup;have hb2:∃ ts,qc[i]=.tup ts/\setAll is ts τ'=some τ1:=by
    match is,hlen,hb1 with
    | [],hl,_=>rw [hl] at h2n;simp at h2n
    | [_],hl,_=>rw [hl] at h2n;simp at h2n
    | i0::i1::ir,_,hb1 =>
     cases hq:qc[i] with
     | tup ts=>rw [hq] at hb1;exact ⟨ts,rfl,hb1⟩
     | _=>rw [hq] at hb1;cases hb1
   obtain ⟨ts,et,hb2⟩:=hb2;rw [et] at r5;obtain ⟨a,vs,rfl,q1,q2⟩:=r5;obtain ⟨e6,hl6⟩:=e5.setAll fx.hN q2 hb2;exact ⟨a,vs,rfl,zaj st5.fh q1,hl6,fin _ e6⟩
 .have e:i=qc.length:=by lia
  subst e;rw [List.drop_length,yas] at hlo;cases hlo;exact .inl ⟨wk.stop H' sm,wup O' F' H' e' (Same.refl F')⟩
theorem zrp (gd:Gd X c G k) (fx:Fx X c) {tg iter:Expr} {ki:Ik × List E} (h1:zbs tg=some xs) (h2:ycx (yal c.nm) xs=some is) (h3:trI n c iter=some ki)
  (ht:ki.1.pair=true->yap tg=true) (h2n:yap tg=true->2<=xs.length) (hat:Ats X xs is) (hb:PSs X body (spS X F0 H0 (yab G b))):PS X (.For tg iter body [] pos) (spS X F0 H0 (evS G (.loop is ki.1 ki.2 b))):=by
 have S:=zb0 G k n;refine zcc (zu5 (by rw [fx.xe];exact PassesOwn.never) gd.calm (S.i gd h3 ht) (zuh gd.nd gd.calm h1 hat) hb (zg0 h3 X.env)) fun D O H q=>?_;obtain ⟨τ,F,o,en,hf,hw⟩:=q;rw [evS] at hf;obtain ⟨F1,e1,s1⟩:=en.frz (yao ki.2);obtain ⟨us,hu,hf⟩:=obs hf;obtain ⟨qc,hi,hf⟩:=obs hf;refine ⟨_,F1,qc,e1.env fx.hN,ud8.mpr ⟨us,hu,hi⟩,fun J F2 H2 st wk=>?_⟩;have e2:=e1.step st;exact zpd fx h1 h2n hat e2 wk hf (hw.up (s1.trans st.ff))
end
end
section
variable {i:Nat} {pos:Pos} {x:Str}
theorem zim {K:W.Frag} {F:Hp}:∀ {ts:List T} {vs:List V} {i:Nat} {t:T},Reps K F ts vs->ts[i]?=some t->∃ v,vs[i]?=some v/\Rep K F t v
 | [],_,i,t,_,h=>by simp at h
 | u::ts,_,0,t,r,h=>by obtain ⟨v,vr,rfl,r1,r2⟩:=r;cases h;exact ⟨v,rfl,r1⟩
 | u::ts,_,i+1,t,r,h=>by obtain ⟨v,vr,rfl,r1,r2⟩:=r;exact zim (i:=i) r2 (by simpa using h)
theorem zdb {K:W.Frag} {F:Hp}:∀ {ts:List T} {vs:List V},Reps K F ts vs->Reps K F ts.dropLast vs.dropLast
 | [],_,r=>by cases r;rfl
 | [u],_,r=>by obtain ⟨v,vr,rfl,r1,r2⟩:=r;cases r2;rfl
 | u::t::ts,_,r=>by obtain ⟨v,vr,rfl,r1,r2⟩:=r;obtain ⟨v',vr',rfl,r3,r4⟩:=id r2;exact ⟨v,_,rfl,r1,zdb r2⟩
theorem zil {K:W.Frag} {F:Hp} {t:T} {v:V} (r:Rep K F t v):∀ {ts:List T} {vs:List V} (i:Nat),Reps K F ts vs->Reps K F (ts.set i t) (vs.set i v)
 | [],_,i,h=>by cases h;rfl
 | u::ts,_,0,h=>by obtain ⟨w,vr,rfl,r1,r2⟩:=h;exact ⟨v,vr,rfl,r,r2⟩
 | u::ts,_,i+1,h=>by obtain ⟨w,vr,rfl,r1,r2⟩:=h;exact ⟨w,_,rfl,r1,zil r i r2⟩
def yf6 (td ty tv:TE):TS:=fun D O H=>tv O H fun v H1=>td O H1 fun x H2=>ty O H2 fun y H3=>yfa x y v H3 fun H4=>D.nx O H4
section
variable {X:Cx} {c:Tc} {G:Glo} {k n:Nat} {F0 H0:Hp}
theorem zsc {o i value:Expr} {td ty tv:TE} {pos':Pos} (ho:PE X o td) (hi:PE X i ty) (hv:PE X value tv) (hs:swapsWith value (some (.Subscript o i pos')) pos.line X.env=pure false) :
  PS X (.Assign [.Subscript o i pos'] value pos) (yf6 td ty tv):=by
 intro pj s O H D I h;refine wpAny_Assign_Subscript (thn (hv pj s O H _ I h) fun r s1 z=>?_) hs;obtain ⟨v,H1,I1,rv,q1⟩:=z;refine thn (ho pj s1 O H1 _ I1 q1) fun u s2 z=>?_;obtain ⟨x,H2,I2,rx,q2⟩:=z;refine thn (hi pj s2 O H2 _ I2 q2) fun iv s3 z=>?_;obtain ⟨y,H3,I3,ry,q3⟩:=z;exact thn (yd8 pj s3 O H3 x y v u iv r _ I3 rx ry rv q3) fun _ s4 ⟨H4,I4,q4⟩=>⟨O,H4,I4,q4⟩
theorem zl1 {ke ve:Expr} {px tp:Pos} {fk fv:Env->Option T} (gd:Gd X c G k) (fx:Fx X c) (hv:ybq c.sc x=true) (hp:zab x=true) (hi:yal c.nm x=some i) (hk:Oke X c ke fk) (hve:Oke X c ve fv) (hs:swapsWith ve (some (.Subscript (.Name x px) ke tp)) pos.line X.env=pure false)
  {pj:List (Addr × Obj)} {s:Shared} {O:L2.St} {H:Hp} {D:Ends} (I:L2.Inv X pj O H s) {τ:List Sl} {F:Hp} (e1:EnvS X F0 H0 τ O F H) {kt vt:T} {s':Sl} {ts:List T} (hvt:fv (ygm τ)=some vt) (hkt:fk (ygm τ)=some kt) (hsl:τ[i]?=some (.own ts)) (hput:setS (some (.own ts)) kt vt=some s')
  (hw:∀ O' F' H',EnvS X F0 H0 (τ.set i s') O' F' H'->Same F F'->D.nx O' H'):wpAny (model X.prog X.w) X.A (exec (.Assign [.Subscript (.Name x px) ke tp] ve pos) X.env) (SP X pj D) X.xe s:=by
 have hN:X.N[i]?=some x:=by rw [fx.hN];exact za5 hi
 cases kt with
 | int m =>obtain ⟨j,hj,rfl⟩:=oms (show (ixI ts.length m).map (fun j=>Sl.own (ts.set j vt))=some s' from hput);refine zsc (ze4 (pos:=px) hN (gd.vis x hv) (zba hp).1 (zba hp).2) hk hve hs pj s O H D I ⟨_,F,vt,e1.env fx.hN,hvt,fun v F2 H2 st2 rv=>?_⟩;have e3:=e1.step st2;obtain ⟨b,ob,q1,q2,q3,q4,q5⟩:=e3.ownG i _ hsl rfl;refine ⟨.ref b,q1,_,F2,_,e3.env fx.hN,hkt,fun u F3 H3 st3 rk=>?_⟩;have e4:=e3.step st3;obtain ⟨b',ob',p1,p2,p3,p4,ws,rfl,w1⟩:=e4.ownG i _ hsl rfl;rw [q1] at p1;cases p1;cases rk;refine ⟨b,ws,m,j,rfl,rfl,p2,by rw [w1.length];exact hj,?_⟩;exact hw _ _ _ (e4.growG (s':=.own (ts.set j vt)) hsl rfl q1 p3 p4 ⟨_,rfl,zil (rv.mono st3.ff) j w1⟩) (st2.ff.trans st3.ff)
 | _=>cases hput
theorem zn4 (gd:Gd X c G k) (fx:Fx X c) {y:Str} {py p1 apos cpos:Pos} {j:Nat} (hl:c.sc.names.lookup x=some .local\/c.sc.names.lookup x=some .cell) (hi:yal c.nm x=some i) (hv:ybq c.sc y=true) (hp:zab y=true) (hj:yal c.nm y=some j) (hln:(apos.endLine==cpos.line)=true) :
  PS X (.Assign [.Name x py] (.Call (.Attribute (.Name y p1) "pop" apos) [] [] cpos) pos) (spS X F0 H0 (evS G (.lpop i j))):=by
 have at_:=fx.at hl hi;have hN:X.N[j]?=some y:=by rw [fx.hN];exact za5 hj
 refine zcc (ze3 gd.nd at_.ix at_.loc (zvi PySem.F.plainAttrs_list PySem.F.slot_list_pop PySem.F.type_list_pop zwc (ze4 (pos:=p1) hN (gd.vis y hv) (zba hp).1 (zba hp).2) rfl hln) rfl at_.fn) fun D O H q=>?_;obtain ⟨τ,F,o,en,hf,hw⟩:=q;rw [evS] at hf;split at hf
 .rename_i ts ho;split at hf
  .rename_i t ht;split at hf
   .cases hf
   .cases hf;obtain ⟨b,vs,q1,q2,q3,q4,q5⟩:=en.own j ts ho;obtain ⟨v,hv',rv⟩:=zim q5 ht;rw [<- q5.length] at hv';exact ⟨.ref b,q1,.inl ⟨rfl,_,SqL.of q2⟩,b,vs,v,rfl,rfl,q2,hv',hw _ F _ ((en.growG (s':=.own ts.dropLast) ho rfl q1 q3 q4 ⟨_,rfl,zdb q5⟩).setV1 i rv) (Same.refl F)⟩
  .cases hf
 .cases hf
theorem zow {e:Expr} (h:ye6 x e=true):(∃ p a q,e=.Call (.Name "list" p) [a] [] q)\/∃ p lo hi p2 q,e=.Subscript (.Name x p) (.Slice lo hi none p2) q:=by
 cases e with
 | Call f es ks q =>
  cases f with
  | Name g p =>
   rcases es with _ | ⟨a,_ | ⟨_,_⟩⟩
   .cases h
   .rcases ks with _ | ⟨_,_⟩
    .have e:=ua2 (show (g==("list":Str))=true from h);subst e;exact .inl ⟨p,a,q,rfl⟩
    .cases h
   .cases h
  | _=>cases h
 | Subscript a b q =>
  cases a with
  | Name y p =>
   cases b with
   | Slice lo hi st p2 =>
    replace h:(st.isNone&&y==x)=true:=h;rw [zy7] at h;have e:=ua2 h.2;subst e;cases st with
    | none=>exact .inr ⟨p,lo,hi,p2,q,rfl⟩
    | some _=>cases h.1
   | _=>cases h
  | _=>cases h
 | _=>cases h
theorem zsy {a:Expr} {lo hi:Option Expr} {f:Env->Option T} {g h:Env->Option (Option T)} {p2:Pos} (ha:Oke X c a f) (hl:PO X lo (spO X c g)) (hh:PO X hi (spO X c h)) :
  PE X (.Subscript a (.Slice lo hi none p2) pos) (spN X c (fun r=>(f r).bind fun x=>(g r).bind fun l=>(h r).bind fun u=>(asI l).bind fun l'=>(asI u).bind fun u'=>ycc x l' u')):=by
 refine zar (ziu zku ha hl hh) fun O H Q q=>?_;obtain ⟨r,F,ts,e,ht,q⟩:=q;obtain ⟨t1,e1,ht⟩:=obs ht;obtain ⟨l,e2,ht⟩:=obs ht;obtain ⟨u,e3,ht⟩:=obs ht;obtain ⟨l',e4,ht⟩:=obs ht;obtain ⟨u',e5,ht⟩:=obs ht;refine ⟨r,F,t1,e,e1,fun v1 F1 H1 s1 r1=>⟨r,F1,l',e.step s1,ud8.mpr ⟨l,e2,e4⟩,fun F2 H2 s2=>⟨r,F2,u',e.step (s1.trans s2),ud8.mpr ⟨u,e3,e5⟩,fun F3 H3 s3=>?_⟩⟩⟩;cases t1 with
 | lst us =>simp only [ycc] at ht;cases ht;obtain ⟨p,vs,rfl,h1,h2⟩:=r1;refine ⟨p,vs,rfl,(Ls.same ((s2.trans s3).ff.trans s3.fh) h1).sq,fun p' hp=>?_⟩;exact q p' _ F3 H3 (s1.trans (s2.trans s3)) hp ((zfn h2 l' u').mono (s2.trans s3).ff)
 | _=>simp [ycc] at ht
theorem zp1:ybl X (.type "list") (fun xs H Q=>∃ F t1 ts x,xs=[x]/\Same F H/\Rep X.K F t1 x/\ya3 .toList t1=some (.lst ts)/\∀ p vs,H p=none->Reps X.K F ts vs->Q (.ref p) (upd H p (.lst vs))):=by
 intro pj s O H xs us Q I r h;obtain ⟨F,t1,ts,x,rfl,fh,r1,ht,q⟩:=h;cases t1 with
 | tup ts =>obtain ⟨l,vs,rfl,h1,h2⟩:=r1;cases ht;exact zbz pj s O H _ us Q I r ⟨l,vs,rfl,.inr (zaj fh h1),fun p hp=>q p vs hp h2⟩
 | lst ts =>obtain ⟨l,vs,rfl,h1,h2⟩:=r1;cases ht;exact zbz pj s O H _ us Q I r ⟨l,vs,rfl,.inl (Ls.same fh h1).sq,fun p hp=>q p vs hp h2⟩
 | _=>cases ht
theorem zuk (gd:Gd X c G k) (fx:Fx X c) {e:Expr} {y:E} {py:Pos} (hl:c.sc.names.lookup x=some .local\/c.sc.names.lookup x=some .cell) (hi:yal c.nm x=some i) (h:trV (n+1) c e=some y) (hn:ye6 x e=true) :
  PS X (.Assign [.Name x py] e pos) (spS X F0 H0 (evS G (.nw i y))):=by
 have S:=zb0 G k n;have at_:=fx.at hl hi;have P:PE X e (spN X c (evE G y)):=by
  rcases zow hn with ⟨p,a,q,rfl⟩ | ⟨p,lo,hi',p2,q,rfl⟩
  .replace h:(if glB c.sc ("list":Str)&&zab ("list":Str) then (trV n c a).bind fun x=>some (E.blt .toList x) else none)=some y:=h;split at h
   .rename_i hg;rw [zy7] at hg;obtain ⟨z,h1,h⟩:=obs h;cases h;have hs:=zbc h1 X.env;refine zar (zgn zp1 (gd.gl _ hg.1) (gd.nob _ (by decide +kernel)) PyProof.Rows.boot_list (zbq (S.v gd h1) hs) (by decide) (by decide) hs rfl) fun O H Q q=>?_;obtain ⟨r,F,ts,e,ht,q⟩:=q;rw [evE] at ht;obtain ⟨t1,e1,ht⟩:=obs ht;refine ⟨r,F,[t1],e,ud8.mpr ⟨t1,e1,rfl⟩,fun vs F' H' s1 r1=>?_⟩;obtain ⟨v,w,rfl,g1,g2⟩:=r1;cases g2;exact ⟨F',t1,ts,v,rfl,s1.fh,g1,ht,fun p vs hp r=>q p vs F' H' s1 hp r⟩
   .cases h
  .obtain ⟨z,h1,h⟩:=obs h;obtain ⟨l,h2,h⟩:=obs h;obtain ⟨u,h3,h⟩:=obs h;cases h;have ee:evE G (.sli z l u)=fun r=>(evE G z r).bind fun s=>(evO G l r).bind fun l1=>(evO G u r).bind fun u1=>(asI l1).bind fun l2=>(asI u1).bind fun u2=>ycc s l2 u2:=by funext r;rw [evE]
   rw [ee];exact zsy (S.v gd h1) (S.o gd h2) (S.o gd h3)
 intro pj s O H D I q;obtain ⟨τ,F,o,en,hf,hw⟩:=q;rw [evS] at hf;obtain ⟨F1,e1,s1⟩:=en.frz (yaj y);obtain ⟨t,ht,hf⟩:=obs hf;cases t with
 | lst ts =>cases hf;refine ze3 gd.nd at_.ix at_.loc P (zec h (fun a b s p z=>by subst z;cases hn) _ _ _) at_.fn pj s O H D I ⟨_,F1,ts,e1.env fx.hN,ht,fun p vs F' H1 st hp r=>hw _ F' _ ?_ (s1.trans st.ff)⟩;exact (e1.step st).setO i hp r
 | _=>cases hf
end
end
section
variable {x:Str} {pos:Pos} {i:Nat}
section
variable {X:Cx} {c:Tc} {G:Glo} {k n:Nat} {F0 H0:Hp}
theorem zn6 (gd:Gd X c G k) (fx:Fx X c) {py dp:Pos} (hl:c.sc.names.lookup x=some .local\/c.sc.names.lookup x=some .cell) (hi:yal c.nm x=some i) :
  PS X (.Assign [.Name x py] (.Dict [] [] dp) pos) (spS X F0 H0 (evS G (.dnew i))):=by
 have at_:=fx.at hl hi;intro pj s O H D I q;obtain ⟨τ,F,o,en,hf,hw⟩:=q;rw [evS] at hf;cases hf;exact ze3 gd.nd at_.ix at_.loc yea rfl at_.fn pj s O H D I fun p hp=>hw _ F _ (en.setG i hp ⟨[],rfl,rfl,rfl⟩) (Same.refl F)
theorem zoh {ke ve:Expr} {px tp:Pos} {fk:Env->Option T} (gd:Gd X c G k) (fx:Fx X c) (hv:ybq c.sc x=true) (hp:zab x=true) (hi:yal c.nm x=some i) (hk:Oke X c ke fk) {tv:TE} (hve:PE X ve tv) (hs:swapsWith ve (some (.Subscript (.Name x px) ke tp)) pos.line X.env=pure false)
  {pj:List (Addr × Obj)} {s:Shared} {O:L2.St} {H:Hp} {D:Ends} (I:L2.Inv X pj O H s) {τ:List Sl} {F:Hp} (e1:EnvS X F0 H0 τ O F H) {kt y:T} {s':Sl} (ht:fk (ygm τ)=some kt) (hput:yfz τ[i]? kt y=some s')
  (hval:∀ Q:VK,(∀ v F2 H2,Step F H F2 H2->Rep X.K F2 y v->Q v H2)->tv O H Q)
  (hw:∀ O' F' H',EnvS X F0 H0 (τ.set i s') O' F' H'->Same F F'->D.nx O' H'):wpAny (model X.prog X.w) X.A (exec (.Assign [.Subscript (.Name x px) ke tp] ve pos) X.env) (SP X pj D) X.xe s:=by
 have hu:X.A.units+1<cLine:=by have:=gd.hu;lia
 have hN:X.N[i]?=some x:=by rw [fx.hN];exact za5 hi
 have P:=zsd (pos:=pos) hu (ze4 (pos:=px) hN (gd.vis x hv) (zba hp).1 (zba hp).2) hk hve hs;cases hsl:τ[i]? with
 | none=>rw [hsl] at hput;cases hput
 | some sl =>
  rw [hsl] at hput;cases sl with
  | dk qb =>
   obtain ⟨q,hkk,hput⟩:=obs (show ((yep kt).bind fun q=>if qb.length<SZ then some (Sl.dk (yb3 qb q y)) else none)=some s' from hput);split at hput
   .rename_i hz;cases hput;refine P pj s O H D I (hval _ fun v F2 H2 st2 rv=>?_);have e3:=e1.step st2;obtain ⟨b,ob,q1,q2,q3,q4,q5⟩:=e3.ownG i _ hsl rfl;refine ⟨.ref b,q1,_,F2,kt,e3.env fx.hN,ht,fun u F3 H3 st3 rk=>?_⟩;have e4:=e3.step st3;obtain ⟨b',ob',p1,p2,p3,p4,ws,rfl,w1,w2⟩:=e4.ownG i _ hsl rfl;rw [q1] at p1;cases p1;have ek:=zfw rk hkk;subst ek;have rel:=PRep.of w1 w2;have hl:ws.length=qb.length:=by have:=congrArg List.length w1;simpa using this
    refine ⟨b,_,rfl,DPut.k p2 (by rw [hl,<- zey];exact hz),?_⟩;have rel2:=rel.put q (rv.mono st3.ff);exact hw _ _ _ (e4.growG (s':=.dk (yb3 qb q y)) (o:=.dK (yct ws q v)) hsl rfl q1 p3 p4 ⟨_,rfl,rel2.keys,rel2.vals⟩) (st2.ff.trans st3.ff)
   .cases hput
  | _=>cases hput
theorem zn5 (gd:Gd X c G k) (fx:Fx X c) {ke ve:Expr} {y z:E} {px tp:Pos} (hv:ybq c.sc x=true) (hp:zab x=true) (hi:yal c.nm x=some i) (h1:trV n c ke=some y) (h2:trV n c ve=some z) (hc:zh2 ve=false) :
  PS X (.Assign [.Subscript (.Name x px) ke tp] ve pos) (spS X F0 H0 (evS G (.dput i y z))):=by
 have S:=zb0 G k n;intro pj s O H D I q;obtain ⟨τ,F,o,en,hf,hw⟩:=q;rw [evS] at hf;obtain ⟨F1,e1,s1⟩:=en.frz (yaj z++yaj y);obtain ⟨vt,g1,hf⟩:=obs hf;obtain ⟨kt,g2,hf⟩:=obs hf;obtain ⟨s',g3,rfl⟩:=oms hf;by_cases hown:∃ ts,(yaf (yaj z++yaj y) τ)[i]?=some (.own ts)
 .obtain ⟨ts,hsl⟩:=hown;exact zl1 gd fx hv hp hi (S.v gd h1) (S.v gd h2) (zec h2 (fun a b s p z=>by subst z;cases hc) _ _ _) I e1 g1 g2 hsl (by rw [hsl] at g3;exact g3) fun O' F' H' e' s'=>hw O' F' H' e' (s1.trans s')
 replace g3:yfz (yaf (yaj z++yaj y) τ)[i]? kt vt=some s':=by
  cases hsl:(yaf (yaj z++yaj y) τ)[i]? with
  | none=>rw [hsl] at g3;exact g3
  | some sl =>
   rw [hsl] at g3;cases sl with
   | own ts=>exact absurd ⟨ts,hsl⟩ hown
   | _=>exact g3
 exact zoh gd fx hv hp hi (S.v gd h1) (S.v gd h2) (zec h2 (fun a b s p z=>by subst z;cases hc) _ _ _) I e1 g2 g3 (fun Q hQ=>⟨_,F1,vt,e1.env fx.hN,g1,hQ⟩) fun O' F' H' e' s'=>hw O' F' H' e' (s1.trans s')
end
end
section
end
section
variable {e:Expr}
section
variable {X:Cx} {c:Tc} {G:Glo} {k:Nat} {F0 H0:Hp}
theorem zro:PSs X [] (spS X F0 H0 (yab G [])):=by refine zio zsb fun D O H q=>?_;obtain ⟨τ,F,o,en,hf,hw⟩:=q;rw [yab] at hf;cases hf;exact hw _ F H en (Same.refl F)
theorem zn7 {st:Stmt} {rest:List Stmt} {s:S} {ss:List S} (h1:PS X st (spS X F0 H0 (evS G s))) (h2:PSs X rest (spS X F0 H0 (yab G ss))):PSs X (st::rest) (spS X F0 H0 (yab G (s::ss))):=by
 refine zio (zok h1 h2) fun D O H q=>?_;obtain ⟨τ,F,o,en,hf,hw⟩:=q;rw [yab] at hf;obtain ⟨o1,ho1,hf⟩:=obs hf;refine ⟨τ,F,o1,en,ho1,?_⟩;cases o1 with
 | nx τ'=>exact fun O' F' H' e s'=>⟨τ',F',o,e,hf,hw.up s'⟩
 | rt t=>cases hf;exact hw
theorem zm6 (h:zfz e=true):∃ p,e=.Dict [] [] p:=by
 cases e with
 | Dict ks vs p =>
  match ks,vs,h with
  | [],[],_=>exact ⟨p,rfl⟩
  | _::_,_,h=>cases h
  | [],_::_,h=>cases h
 | _=>cases h
theorem zlv {x:Str × Str × Pos × Pos × List Expr × Pos} (h:ye3 e=some x):e=.Call (.Attribute (.Name x.1 x.2.2.1) x.2.1 x.2.2.2.1) x.2.2.2.2.1 [] x.2.2.2.2.2:=by
 cases e with
 | Call f es ks cpos =>
  cases f with
  | Attribute o m apos =>
   cases o with
   | Name y p =>
    cases ks with
    | nil=>cases h;rfl
    | cons _ _=>cases h
   | _=>cases h
  | _=>cases h
 | _=>cases h
theorem zl2 {y:Str} (h:yet e=some y):∃ p1 apos cpos,e=.Call (.Attribute (.Name y p1) "pop" apos) [] [] cpos/\(apos.endLine==cpos.line)=true:=by
 obtain ⟨⟨z,m,p,apos,es,cpos⟩,h1,h⟩:=obs h;have e:=zlv h1;subst e;rcases es with _ | ⟨_,_⟩
 .replace h:(if m==("pop":Str)&&apos.endLine==cpos.line then some z else none)=some y:=h;split at h
  .rename_i hc;rw [zy7] at hc;cases h;have e:=ua2 hc.1;subst e;exact ⟨_,_,_,rfl,hc.2⟩
  .cases h
 .cases h
theorem zgh (gd:Gd X c G k) (fx:Fx X c):∀ n,(∀ st s,trS n c st=some s->PS X st (spS X F0 H0 (evS G s)))/\(∀ sts ss,ydj n c sts=some ss->PSs X sts (spS X F0 H0 (yab G ss)))
 | 0=>⟨fun _ _ h=>(by (cases h;done)),fun _ _ h=>(by (cases h;done))⟩
 | n+1=>by
  obtain ⟨i1,i2⟩:=zgh gd fx n;refine ⟨fun st s h=>?_,fun sts ss h=>?_⟩
  .cases st with
   | Assign tgs e pos =>
    match tgs,h with
    | [],h=>(cases h;done)
    | t::_::_,h =>
     cases t with
     | Subscript o _ _=>cases o<;>(cases h;done)
     | _=>(cases h;done)
    | [t],h =>
     cases t with
     | Name x px =>
      replace h:(if zab x&&(c.sc.names.lookup x==some .local||c.sc.names.lookup x==some .cell) then (yal c.nm x).bind fun i=>if zfz e then some (S.dnew i) else (match yet e with
   | some y=>if ybq c.sc y&&zab y then (yal c.nm y).bind fun j=>some (S.lpop i j) else none
   | none=>if ye6 x e then (trV n c e).bind fun y=>some (S.nw i y) else (trV n c e).bind fun y=>if fresh y&&!yfp e then none else some (S.asg i y)) else none)=some s:=h
      split at h
      .rename_i hc;simp only [Bool.and_eq_true,Bool.or_eq_true,beq_iff_eq] at hc;obtain ⟨i,h1,g1⟩:=obs h;clear h;by_cases hd:zfz e=true
       .rw [if_pos hd] at g1;cases g1;obtain ⟨dp,rfl⟩:=zm6 hd;exact zn6 gd fx hc.2 h1
       .rw [if_neg hd] at g1;split at g1
        .rename_i y hpp;split at g1
         .rename_i hvp;rw [zy7] at hvp;obtain ⟨j,h2,g2⟩:=obs g1;cases g2;obtain ⟨p1,ap,cp,rfl,hln⟩:=zl2 hpp;exact zn4 gd fx hc.2 h1 hvp.1 hvp.2 h2 hln
         .cases g1
        .by_cases hnw:ye6 x e=true
         .rw [if_pos hnw] at g1;obtain ⟨y,h2,g2⟩:=obs g1;cases g2;cases n with
          | zero=>cases h2
          | succ m=>exact zuk gd fx hc.2 h1 h2 hnw
         .rw [if_neg hnw] at g1;obtain ⟨y,h2,g2⟩:=obs g1;clear g1;by_cases hfl:(fresh y&&!yfp e)=true
          .rw [if_pos hfl] at g2;cases g2
          .rw [if_neg hfl] at g2;cases g2;cases n with
           | zero=>cases h2
           | succ m =>
            exact zrs gd fx hc.2 h1 h2 fun hfr=>by rw [hfr,Bool.true_and] at hfl;simpa using hfl
      .cases h
     | Subscript o ke tp =>
      cases o with
      | Name x px =>
       replace h:(if ybq c.sc x&&zab x&&!ycg ke then (yal c.nm x).bind fun i=>(trV n c ke).bind fun y=>if zh2 e then none else (trV n c e).bind fun z=>some (S.dput i y z) else none)=some s:=h;split at h
       .rename_i hc;simp only [Bool.and_eq_true] at hc;obtain ⟨i,h1,g1⟩:=obs h;obtain ⟨y,h2,g2⟩:=obs g1;clear g1 h;split at g2
        .cases g2
        .rename_i hcomp;obtain ⟨z,h3,g3⟩:=obs g2;cases g3;exact zn5 gd fx hc.1.1 hc.1.2 h1 h2 h3 (by simpa using hcomp)
       .cases h
      | _=>(cases h;done)
     | _=>(cases h;done)
   | Expr e pos =>
    cases e with
    | Constant cst kk p =>
     cases cst with
     | str x=>cases (show some S.pass=some s from h);exact zrr
     | _=>(cases h;done)
    | Call f es ks cpos =>
     cases f with
     | Attribute o m apos =>
      match es,ks,h with
      | [a],[],h =>
       cases o with
       | Name x px =>
         replace h:(if apos.endLine==cpos.line&&ybq c.sc x&&zab x then (yal c.nm x).bind fun i=>(trV n c a).bind fun y=>(if m==("append":Str) then some (S.app i y) else if m==("extend":Str) then some (S.ext i y) else none) else none)=some s:=h;split at h
         .rename_i hc;simp only [Bool.and_eq_true] at hc;obtain ⟨i,h1,g1⟩:=obs h;obtain ⟨y,h2,g2⟩:=obs g1;clear g1 h;by_cases hm:(m==("append":Str))=true
          .rw [if_pos hm] at g2;have hm:=ua2 hm;subst hm;cases g2;exact zrt gd fx hc.1.2 hc.2 h1 h2 hc.1.1
          .rw [if_neg hm] at g2;by_cases hm:(m==("extend":Str))=true
           .rw [if_pos hm] at g2;have hm:=ua2 hm;subst hm;cases g2;exact zrq gd fx hc.1.2 hc.2 h1 h2 hc.1.1
           .rw [if_neg hm] at g2;cases g2
         .cases h
       | _=>(cases h;done)
      | [],_,h=>cases o<;>(cases h;done)
      | [_],_::_,h=>cases o<;>(cases h;done)
      | _::_::_,_,h=>cases o<;>(cases h;done)
     | _=>(cases h;done)
    | _=>(cases h;done)
   | Return e pos =>
    cases e with
    | none=>(cases h;done)
    | some e =>obtain ⟨y,h2,g⟩:=obs h;cases g;exact zrn gd fx h2
   | If t a b pos =>obtain ⟨z,h1,g⟩:=obs h;obtain ⟨x,h2,g⟩:=obs g;obtain ⟨y,h3,g⟩:=obs g;cases g;exact zul gd fx h1 (i2 _ _ h2) (i2 _ _ h3)
   | While t body els pos =>
    cases els with
    | cons _ _=>(cases h;done)
    | nil =>obtain ⟨z,h1,g⟩:=obs h;obtain ⟨b,h2,g⟩:=obs g;cases g;exact zkt gd fx h1 (i2 _ _ h2)
   | For tg iter body els pos =>
    cases els with
    | cons _ _=>(cases h;done)
    | nil =>
     obtain ⟨xs,h1,g⟩:=obs h;obtain ⟨is,h2,g⟩:=obs g;obtain ⟨ki,h3,g⟩:=obs g;obtain ⟨b,h4,g⟩:=obs g;split at g
     .rename_i hc;simp only [Bool.and_eq_true] at hc;obtain ⟨⟨⟨c1,c2⟩,c3⟩,c4⟩:=hc;cases g;refine zrp gd fx h1 h2 h3 (fun e=>?_) (fun e=>?_) (fx.ats c4 h2) (i2 _ _ h4)
      .rw [e] at c1;simpa using c1
      .rw [e] at c2;simpa using c2
     .cases g
   | _=>(cases h;done)
  .cases sts with
   | nil=>cases (show some ([]:List S)=some ss from h);exact zro
   | cons st rest =>obtain ⟨x,h1,h⟩:=obs h;obtain ⟨xs,h2,h⟩:=obs h;cases h;exact zn7 (i1 _ _ h1) (i2 _ _ h2)
end
section
variable {P:Program} {w:World} {K:W.Frag} {mg:Str->Option Value} {base:Heap} {R:Pr}
structure FnD (K:W.Frag) (mg:Str->Option Value) (f:Str) (D:Fd) (st:Stmt) (a:Addr) (fd:FuncData) (ps:List Str):Prop where
 qu:∃ x qual,Fun K x qual st a fd
 sc:FnScope (za9 (zaa st)) ps (zaa st)
 np:ps.length=D.np
 ns:(za9 (zaa st)).length=D.ns
 tr:ydj 60 ⟨zaa st,za9 (zaa st)⟩ (zbl st)=some D.body
 mg:mg f=some (.ref a)
 kp:W.keepIn K (.ref a)=true
 bi:Binds K fd ps []
theorem zn2 {X:Cx} {D:Fd} {N:List Str} {ts:List T} {vs:List V} {F H:Hp} (hN:N.length=D.ns) (fh:Same F H) (tb:Tbk X.K F H) (r:Reps X.K F ts vs):EnvS X F H (yam D ts) (L2.start N vs) F H:=by
 have hl:=r.length;have none:∀ i s,(yam D ts)[i]?=some s->¬ i<ts.length->s=.no:=fun i s h hi=>by
  unfold yam at h;rw [uc3 (by simpa using hi)] at h;rw [List.getElem?_replicate] at h;split at h
  .cases h;rfl
  .cases h
 have some':∀ i s,(yam D ts)[i]?=some s->i<ts.length->∃ t,ts[i]?=some t/\s=.val t:=fun i s h hi=>by unfold yam at h;rw [uc4 (by simpa using hi),List.getElem?_map] at h;obtain ⟨t,h1,h2⟩:=oms h;exact ⟨t,h1,h2.symm⟩
 have noown:∀ i (u:Sl),(yam D ts)[i]?=some u->u.isOwn=true->False:=fun i u h hu=>by
  by_cases hi:i<ts.length
  .obtain ⟨t,_,e⟩:=some' i _ h hi;subst e;cases hu
  .have:=none i _ h hi;subst this;cases hu
 refine ⟨Step.refl fh,tb,?_,fun i t h=>?_,fun i u h hu=>(noown i u h hu).elim,fun i j u _ a _ h _ hu=>(noown i u h hu).elim⟩
 .unfold yam L2.start;simp only [List.length_append,List.length_map,List.length_replicate];rw [hl,hN]
 .by_cases hi:i<ts.length
  .obtain ⟨u,h1,e⟩:=some' i _ h hi;cases e;obtain ⟨v,h2,h3⟩:=r.get h1;refine ⟨v,?_,h3⟩;unfold L2.start;rw [zzz (by rw [zy3,hl];exact hi),zzr,h2];rfl
  .cases none i _ h hi
def Kn (P:Program) (w:World) (K:W.Frag) (mg:Str->Option Value) (base:Heap) (R:Pr) (n:Nat) (f:Str):Prop :=
 ∃ (a:Addr) (fd:FuncData) (ps:List Str),FnOk P w K mg base CX0 n a fd ps (spT K (run R n f))/\mg f=some (.ref a)/\W.keepIn K (.ref a)=true/\Binds K fd ps []
abbrev yeb (P:Program) (w:World) (K:W.Frag) (mg:Str->Option Value) (base:Heap) (R:Pr) (n:Nat):Prop:=∀ m,m<=n->∀ f D,yc5 f=true->R.fn f=some D->Kn P w K mg base R m f
theorem zmx {a:Addr} {fd:FuncData} {ps:List Str} {f:Str}:FnOk P w K mg base CX0 0 a fd ps (spT K (run R 0 f)):=by
 have no:∀ vs H Q E,¬ spT K (run R 0 f) vs H Q E:=fun vs H Q E h=>by obtain ⟨F,ts,t,_,_,_,h,_⟩:=h;cases h
 exact ⟨fun vs H Q E h=>absurd h (no vs H Q E),fun A outer s H args us vs Q E _ _ _ _ h=>absurd h (no vs H Q E)⟩
theorem zyn {n:Nat} (ih:yeb P w K mg base R n) (nob:∀ x∈bnames,mg x=none) (con:∀ x t,R.con x=some t->∃ u v,mg x=some u/\RelV v u/\∀ F,Rep K F t v)
  {st:Stmt} {ps:List Str} (sc:FnScope (za9 (zaa st)) ps (zaa st)) {qual:Str} {a:Addr} {cdv:Value} {A:Around} {outer:List PySem.Env} {s:Shared} {H:Hp} {E:XK} (hr:Room n (A.deeper (envOfC qual (zaa st) s.heap.objs.size a cdv))) :
  Gd (yej CX0 P w K mg base (za9 (zaa st)) qual (zaa st) a cdv A outer s H E).nox ⟨zaa st,za9 (zaa st)⟩ (glo R (run R n)) n:={
   room:=hr
   calm:=rfl
   nob:=nob
   call:=fun g ts t hp hg=>by
    have hD:∃ D',R.fn g=some D':=by
     cases n with
     | zero=>cases hg
     | succ m =>have hg:run R (m+1) g ts=some t:=hg;rw [run] at hg;obtain ⟨D',h1,_⟩:=obs hg;exact ⟨D',h1⟩
    obtain ⟨D',hD⟩:=hD;exact ih n (zza n) g D' hp hD
   con:=con
   vis:=fun x h=>by
    show (zaa st).names.lookup x=_\/(zaa st).names.lookup x=_\/(zaa st).names.lookup x=_;have h:ybq (zaa st) x=true:=h;unfold ybq at h;cases e:(zaa st).names.lookup x with
    | none=>rw [e] at h;cases h
    | some q =>
     rw [e] at h;cases q with
     | «local»=>exact .inl rfl
     | cell=>exact .inr (.inl rfl)
     | free=>exact .inr (.inr rfl)
     | _=>cases h
   gl:=fun x h=>by show (zaa st).names.lookup x=_;simpa [glB] using h
   cap:=fun x h=>h
   nd:=sc.nd }
theorem zq0 {n:Nat} (ih:yeb P w K mg base R n) (nob:∀ x∈bnames,mg x=none) (con:∀ x t,R.con x=some t->∃ u v,mg x=some u/\RelV v u/\∀ F,Rep K F t v)
  {f:Str} {D:Fd} {st:Stmt} {a:Addr} {fd:FuncData} {ps:List Str} (hf:R.fn f=some D) (d:FnD K mg f D st a fd ps):FnOk P w K mg base CX0 (n+1) a fd ps (spT K (run R (n+1) f)):=by
  obtain ⟨x,qual,FU⟩:=d.qu;have inv:∀ {ts:List T} {t:T},run R (n+1) f ts=some t->ts.length=D.np/\zad (yab (glo R (run R n)) D.body (yam D ts))=some t:=fun {ts t} h=>by
   rw [run,hf] at h;simp only [xbs] at h;split at h
   .rename_i e;exact ⟨e,h⟩
   .cases h
  refine FU.ok d.sc (fun vs H Q E h=>?_) (fun cdv A outer s H vs Q E hr h=>?_)
  .obtain ⟨F,ts,t,fh,tb,r,h,_⟩:=h;rw [r.length,(inv h).1,d.np]
  obtain ⟨F,ts,t,fh,tb,r,h,q⟩:=h;obtain ⟨hl,he⟩:=inv h;have gd:=zyn (outer:=outer) (H:=H) (E:=E) ih nob con d.sc hr;have fx:Fx (yej CX0 P w K mg base (za9 (zaa st)) qual (zaa st) a cdv A outer s H E).nox ⟨zaa st,za9 (zaa st)⟩:=⟨rfl,fun x h=>h,fun _=>rfl,rfl⟩;refine ⟨_,(zgh (F0:=F) (H0:=H) gd fx 60).2 _ _ d.tr,?_⟩;cases ho:yab (glo R (run R n)) D.body (yam D ts) with
  | none=>rw [ho] at he;cases he
  | some o =>
   refine ⟨yam D ts,F,o,zn2 d.ns fh tb r,ho,?_⟩;rw [ho] at he;cases o with
   | nx τ=>cases he;exact fun O' F' H' e _=>q .non F' H' e.st rfl
   | rt t=>cases he;exact fun v F' H' s r=>q v F' H' s r
theorem zq1 (L:∀ f D,yc5 f=true->R.fn f=some D->(∃ st a fd ps,FnD K mg f D st a fd ps) \/
   ∃ (a:Addr) (fd:FuncData) (ps:List Str),mg f=some (.ref a)/\W.keepIn K (.ref a)=true/\Binds K fd ps []/\∀ n,yeb P w K mg base R n->FnOk P w K mg base CX0 (n+1) a fd ps (spT K (run R (n+1) f)))
  (nob:∀ x∈bnames,mg x=none) (con:∀ x t,R.con x=some t->∃ u v,mg x=some u/\RelV v u/\∀ F,Rep K F t v):∀ n,yeb P w K mg base R n
 | 0=>fun m hm f D hp hf=>by
  obtain rfl:m=0:=by lia
  rcases L f D hp hf with ⟨st,a,fd,ps,d⟩ | ⟨a,fd,ps,h1,h2,h3,_⟩
  .exact ⟨a,fd,ps,zmx,d.mg,d.kp,d.bi⟩
  .exact ⟨a,fd,ps,zmx,h1,h2,h3⟩
 | n+1=>fun m hm f D hp hf=>by
  have ih:=zq1 L nob con n;by_cases hmn:m<=n
  .exact ih m hmn f D hp hf
  .obtain rfl:m=n+1:=by lia
   rcases L f D hp hf with ⟨st,a,fd,ps,d⟩ | ⟨a,fd,ps,h1,h2,h3,h4⟩
   .exact ⟨a,fd,ps,zq0 ih nob con hf d,d.mg,d.kp,d.bi⟩
   .exact ⟨a,fd,ps,h4 n ih,h1,h2,h3⟩
end
end
section
theorem zmc {P:Program} {w:World} {K:W.Frag} {mg mb:Str->Option Value} {CX:CXT} {k:Nat} {fa a:Addr} {fd:FuncData} {x:Str} {sp:Sp} {s₁:Shared} {vs:List Value} {ns:List Int}
  (KX:K.In s₁.heap) (hns:s₁.heap.Ns mainGlobals mg) (hb:s₁.heap.Ns builtinsNs mb) (hbb:∀ x:Str,x≠"__name__"->mb x=bootBuiltins x) (hlim:s₁.heap.NoLimit) (hg:s₁.gens=#[])
  (ha:s₁.heap.get? a=some { cls:=.type "list",data:=.seq vs.toArray }) (hi:IntsAre vs ns) (hl:ns.length<=sizeLine) (hr:Room k callerA)
  (F:∀ base:Heap,K.In base->base.Ns mainGlobals mg->FnOk P w K mg base CX k fa fd [x] sp) (hbind:∀ (s:Shared) (u:Value),BindsTo s fd ⟨[u],[]⟩ [(x,u)])
  (hsp:∀ H:Hp,Only H->Ls K H a (ns.map V.int)->sp [.ref a] H (fun v _=>v=.bl true) fun _ _ _=>False)
  (hCX:∀ H e s',CX [] H s₁ (fun _ _ _=>False) e s'->False) :
  codeAny (model P w) callerA (.call (.ref fa) ⟨[.ref a],[]⟩) (fun r s'=>r=.ok (.ret (.bool true))/\OldK s₁.heap s'.heap/\s'.os=s₁.os/\AllBare s'.gens) s₁:=by
 have rv:=zgf hi;have lenV:=hi.length;have core:∀ H:Hp,Only H->Ls K H a (ns.map V.int)->HOk P w H s₁.heap->(∀ b,H b≠none->b=a)->(H a≠none->K.lookup a=none) ->
   codeAny (model P w) callerA (.call (.ref fa) ⟨[.ref a],[]⟩) (fun r s'=>r=.ok (.ret (.bool true))/\OldK s₁.heap s'.heap/\s'.os=s₁.os/\AllBare s'.gens) s₁:=by
  intro H hO hS hok hA hK;have base_of:∀ {b:Addr} {o:Obj},s₁.heap.get? b=some o->H b=none->(ydm s₁.heap H).get? b=some o:=fun e n=>zo9 e n;have noA:∀ {b:Addr} {o:Obj} {es:Array DictEntry} {ep:Nat},s₁.heap.get? b=some o->o.data=.dict es ep->H b=none:=fun {b o es ep} e d=>by
   cases q:H b with
   | none=>rfl
   | some u =>have e':b=a:=hA b (by rw [q];simp);subst e';rw [ha] at e;cases e;have d':Data.seq vs.toArray _=Data.dict es ep:=d;cases d'
  have nsK:∀ {b:Addr} {m:Str->Option Value},s₁.heap.Ns b m->(ydm s₁.heap H).Ns b m:=fun {b m} ⟨o,es,ep,e,d,r⟩=>⟨o,es,ep,base_of e (noA e d),d,r⟩;have hKb:K.In (ydm s₁.heap H):=fun b o e=>base_of (KX b o e) (by
   cases q:H b with
   | none=>rfl
   | some u =>have e':b=a:=hA b (by rw [q];simp);subst e';rw [hK (by rw [q];simp)] at e;cases e)
  have hM:Mod K mg (ydm s₁.heap H):=⟨hKb,nsK hns,⟨mb,nsK hb,hbb⟩,let ⟨mc,h1,h2⟩:=hlim;⟨mc,nsK h1,h2⟩⟩;have e0:Env0 P w K mg (ydm s₁.heap H) callerA [] s₁ H:=⟨rfl,hM,fun b o e=>zs4 e,Nat.le_of_eq (zmp _ _),trivial,fun b hb=>absurd (show b∈([]:List Addr) from hb) (by simp),hok,.of_eq hg⟩;refine codeAny_mono ((F _ hKb (nsK hns)).run callerA [] s₁ H ⟨[.ref a],[]⟩ [.ref a] [.ref a] _ _ hr e0 (hbind s₁ (.ref a)) (.cons rfl .nil) (hsp H hO hS)) fun r s' h=>?_;cases r with
  | error e=>exact (hCX H e s' h).elim
  | ok fl =>
   cases fl with
   | next=>exact False.elim h
   | brk=>exact False.elim h
   | cont=>exact False.elim h
   | ret u =>
    obtain ⟨v,H',os,bare,un,hok',r',q⟩:=h;have q':v=.bl true:=q;subst q';obtain rfl:u=Value.bool true:=r';refine ⟨rfl,OldK.of_keep fun b o e=>?_,os,bare⟩;cases q:H b with
    | none=>exact un.keep b o e q (by intro z;exact absurd (show b∈([]:List Addr) from z) (by simp)) (by simp)
    | some u =>
     rcases hO b with z | ⟨ob,xs,z⟩
     .rw [q] at z;cases z
     .have z2:=un.frzs b ob _ z;obtain ⟨e1,_⟩:=hok b _ z;obtain ⟨e2,_⟩:=hok' b _ z2;rw [e] at e1;cases e1;exact e2
 cases hk:K.lookup a with
 | some o =>have e:=KX a o hk;rw [ha] at e;cases e;refine core (fun _=>none) (fun _=>.inl rfl) (.inr ⟨vs.toArray,_,hk,by rw [ua3,lenV];exact hl,by simpa using rv⟩) (fun b u z=>by have z':(none:Option HO)=some u:=z;cases z') (fun b z=>absurd rfl z) fun z=>absurd rfl z
 | none =>
  refine core (fun b=>if b=a then some (.frz { cls:=.type "list",data:=.seq vs.toArray } (.lst (ns.map V.int))) else none) (fun b=>?_) (.inl (.inr ⟨{ cls:=.type "list",data:=.seq vs.toArray },if_pos rfl⟩)) (fun b u z=>?_) (fun b z=>?_) fun _=>hk
  .by_cases hb:b=a
   .exact .inr ⟨_,_,if_pos hb⟩
   .exact .inl (if_neg hb)
  .by_cases hb:b=a
   .have z':=(if_pos hb).symm.trans z;cases z';subst hb;exact ⟨ha,by rw [zy3];exact hl,vs,_,rv,ha⟩
   .have z':=(if_neg hb).symm.trans z;cases z'
  .by_cases hb:b=a
   .exact hb
   .exact absurd (if_neg hb) z
end
section
variable {h:Heap} {x:Str} {st:Stmt} {fs:List (Str × Stmt)} {bs:List Str} {cs:List (Str × T)} {mg:Str->Option Value}
def ycq (h:Heap) (ns:Addr) (x:Str):Option (Option Value):=match h.get? ns with
 | some ⟨_,_,.dict es _,_⟩=>(match es.toList.find? (·.key.isStr x) with
   | some e=>some (some e.val)
   | none=>if es.toList.any (·.refKey) then none else some none)
 | _=>none
structure FnV where
 name:Str
 qual:Str
 params:Arguments
 body:FuncBody
 scope:Scope
 globals:Addr
 closure:List (Str × Addr)
 defaults:Value
 builtins:Addr
def fnV (f:FuncData):FnV:=⟨f.name,f.qualname,f.params,f.body,f.scope,f.globals,f.closure,f.defaults,f.builtins⟩
def ydx (x:Str) (st:Stmt):FnV:=fnV (W.fnOf x x (zce st) (zbl st) (zaa st) .none .none .none .none none .none .none)
def zhk (h:Heap) (cd:Value) (q:Str):Bool:=match cd with
 | .ref c=>(match h.get? c with
   | some ⟨_,_,.fields vs,_⟩=>(match vs.toList with | _::.str n _::_=>n==q | _=>false)
   | _=>false)
 | _=>false
def yd1 (h:Heap) (x:Str):Option (FnV × Bool):=match ycq h mainGlobals x with
 | some (some (.ref a))=>(match h.get? a with
   | some ⟨_,_,.func f,_⟩=>some (fnV f,zhk h f.code x)
   | _=>none)
 | _=>none
def seeT (h:Heap):Nat->Value->Option T
 | _,.none=>some .non
 | _,.bool b=>some (.bl b)
 | _,.int i _=>some (.int i)
 | _,.str x _=>some (.str x)
 | _,_=>none
def yft (h:Heap) (x:Str):Option T:=match ycq h mainGlobals x with
 | some (some v)=>seeT h 4 v
 | _=>none
def ybc (fs bs cs:List Str) (h:Heap):List (Option (FnV × Bool)) × List (Option (Option Value)) × List (Option T):=(fs.map (yd1 h),bs.map (ycq h mainGlobals),cs.map (yft h))
def ya9 (fs:List (Str × Stmt)) (bs:List Str) (cs:List (Str × T)):List (Option (FnV × Bool)) × List (Option (Option Value)) × List (Option T):=(fs.map fun p=>some (ydx p.1 p.2,true),bs.map fun _=>some none,cs.map fun p=>some p.2)
def zkx (fs:List (Str × Stmt)) (bs:List Str) (cs:List (Str × T)):PySem.W.Hook :=
 ⟨_,fun s=>ybc (fs.map (·.1)) bs (cs.map (·.1)) s.heap,fun _=>ya9 fs bs cs,fun _ h=>∃ h0:Heap,(∀ b o,h0.get? b=some o->h.get? b=some o)/\ybc (fs.map (·.1)) bs (cs.map (·.1)) h0=ya9 fs bs cs,
  fun _ s e=>⟨s.heap,fun _ _ e=>e,e⟩,fun _ _ _ ⟨h0,a,b⟩ k=>⟨h0,fun c o e=>k c o (a c o e),b⟩⟩
def KH (h:Heap):W.Frag:=(List.range h.objs.size).filterMap fun a=>(h.get? a).map fun o=>(a,o)
theorem zw4 {a:Addr} {o:Obj} (e:h.get? a=some o):a<h.objs.size:=by
 by_cases hl:a<h.objs.size
 .exact hl
 .have:h.objs[a]?=none:=Array.getElem?_eq_none (Nat.le_of_not_lt hl);unfold Heap.get? at e;rw [this] at e;cases e
theorem zl5 {f:Addr->Option Obj} {a:Addr}:∀ l:List Addr,((l.filterMap fun b=>(f b).map fun o=>(b,o)).lookup a)=if a∈l then f a else none
 | []=>rfl
 | b::l=>by
  have ih:=zl5 (f:=f) (a:=a) l;rw [zzv];by_cases hab:a=b
  .subst hab;cases hf:f a with
   | none=>simp only [Option.map_none];rw [ih,hf];simp
   | some o=>simp only [xms];rw [List.lookup_cons];simp
  .cases hf:f b with
   | none=>simp only [Option.map_none];rw [ih];simp [hab]
   | some o =>simp only [xms];rw [List.lookup_cons,show (a==b)=false by simpa using hab,ih];simp [hab]
theorem zft (h:Heap) (a:Addr):(KH h).lookup a=h.get? a:=by
 unfold KH;rw [zl5];split
 .rfl
 .rename_i hn;cases e:h.get? a with
  | none=>rfl
  | some o=>exact absurd (List.mem_range.mpr (zw4 e)) hn
theorem zyk {h':Heap} (k:∀ b o,h.get? b=some o->h'.get? b=some o):(KH h).In h':=fun a o e=>k a o (by rw [<- zft];exact e)
theorem zo5 {ns:Addr}:W.nsIn (KH h) ns x=ycq h ns x:=by unfold W.nsIn ycq;rw [zft];rfl
theorem ztf {cd:Value} {q:Str}:W.codeIn (KH h) cd q=zhk h cd q:=by
 unfold W.codeIn zhk;cases cd with
 | ref c=>simp only [zft];rfl
 | _=>rfl
theorem zkw (e:yd1 h x=some (ydx x st,true)):∃ f fd,W.nsIn (KH h) mainGlobals x=some (some (.ref f))/\Fun (KH h) x x st f fd:=by
 unfold yd1 at e;split at e
 .rename_i a ha;split at e
  .rename_i oc od f sl ho;have e:=zzl e;have e1:=zze Prod.fst e;have e2:=zze Prod.snd e;dsimp only at e1 e2;obtain ⟨n,q,p,b,sc,g,cl,df,kd,doc,pm,an,cd,ct,bi⟩:=f;unfold ydx fnV at e1;dsimp only [W.fnOf] at e1;obtain ⟨rfl,rfl,rfl,rfl,rfl,rfl,rfl,rfl,rfl⟩:=FnV.mk.inj e1;have hl:(KH h).lookup a=some ⟨oc,od,.func (W.fnOf q q (zce st) (zbl st) (zaa st) .none kd doc pm an cd ct),sl⟩:=by rw [zft];exact ho
   refine ⟨a,_,by rw [zo5];exact ha,zw6 hl (by rw [ztf];exact e2) ?_⟩;simp only [W.keepIn,hl]
  .cases e
 .cases e
theorem zqg (e:ybc (fs.map (·.1)) bs (cs.map (·.1)) h=ya9 fs bs cs) {p:Str × Stmt} (hp:p∈fs):yd1 h p.1=some (ydx p.1 p.2,true):=by have e1:=zze Prod.fst e;unfold ybc ya9 at e1;dsimp only at e1;rw [zzn] at e1;exact List.map_inj_left.mp e1 p hp
theorem zun (e:ybc (fs.map (·.1)) bs (cs.map (·.1)) h=ya9 fs bs cs) (hx:x∈bs):ycq h mainGlobals x=some none:=by have e1:=zze (fun p=>p.2.1) e;unfold ybc ya9 at e1;dsimp only at e1;exact List.map_inj_left.mp e1 x hx
theorem zx3 (e:ybc (fs.map (·.1)) bs (cs.map (·.1)) h=ya9 fs bs cs) {p:Str × T} (hp:p∈cs):yft h p.1=some p.2:=by have e1:=zze (fun p=>p.2.2) e;unfold ybc ya9 at e1;dsimp only at e1;rw [zzn] at e1;exact List.map_inj_left.mp e1 p hp
theorem zru:∀ (n:Nat) (v:Value) (t:T),seeT h n v=some t->∃ x,RelV x v/\∀ F,Rep (KH h) F t x
 | n,.none,t,e=>by cases n<;>(cases e;exact ⟨.non,rfl,fun _=>rfl⟩)
 | n,.bool b,t,e=>by cases n<;>(cases e;exact ⟨.bl b,rfl,fun _=>rfl⟩)
 | n,.int i k,t,e=>by cases n<;>(cases e;exact ⟨.int i,⟨k,rfl⟩,fun _=>rfl⟩)
 | n,.str x k,t,e=>by cases n<;>(cases e;exact ⟨.str x,⟨k,rfl⟩,fun _=>rfl⟩)
 | n,.ref a,t,e=>by cases n<;>cases e
 | n,.float ..,t,e=>by cases n<;>cases e
 | n,.ellipsis,t,e=>by cases n<;>cases e
 | n,.notImplemented,t,e=>by cases n<;>cases e
 | n,.bytes ..,t,e=>by cases n<;>cases e
 | n,.type ..,t,e=>by cases n<;>cases e
 | n,.builtin ..,t,e=>by cases n<;>cases e
theorem zrv {h0:Heap} {t:T} (KX:(KH h0).In h) (G:h.Ns mainGlobals mg) (e:yft h0 x=some t):∃ u v,mg x=some u/\RelV v u/\∀ F,Rep (KH h0) F t v:=by
 unfold yft at e;split at e
 .rename_i v hv;obtain ⟨y,a,b⟩:=zru _ _ _ e;exact ⟨v,y,W.mg_of KX G (by rw [zo5];exact hv),a,b⟩
 .cases e
structure St (x:Str) (D:Fd) (st:Stmt) (ps:List Str):Prop where
 sc:FnScope (za9 (zaa st)) ps (zaa st)
 np:ps.length=D.np
 ns:(za9 (zaa st)).length=D.ns
 tr:ydj 60 ⟨zaa st,za9 (zaa st)⟩ (zbl st)=some D.body
 bi:∀ (kV doc pm:Value) (an:Option Addr) (cdv ct:Value) (us:List Value),us.length=ps.length->bindArgs (W.fnOf x x (zce st) (zbl st) (zaa st) .none kV doc pm an cdv ct) ⟨us,[]⟩=pure (ps.zip us)
abbrev Tab:=List (Str × Fd × Stmt × List Str)
def Tab.fns (t:Tab):List (Str × Fd):=t.map fun p=>(p.1,p.2.1)
def Tab.sts (t:Tab):List (Str × Stmt):=t.map fun p=>(p.1,p.2.2.1)
def Tab.pr (t:Tab) (cs:List (Str × T)):Pr:=⟨fun f=>t.fns.lookup f,fun x=>cs.lookup x⟩
theorem zfq {α:Type}:∀ {l:List (Str × α)} {f:Str} {D:α},l.lookup f=some D->(f,D)∈l
 | [],_,_,h=>by cases h
 | (g,E)::l,f,D,h=>by
  rw [zzu] at h;split at h
  .rename_i e;cases h;rw [ua2 e];exact zzg
  .exact zzc _ (zfq h)
theorem zv8 {F H:Hp} (e:ycq h mainGlobals "_law_spoilt"=some none):Tbk (KH h) F H:=fun p q=>by unfold yfl at q;rw [zo5,e] at q;cases q
theorem znv {l:PySem.W.OpenLaw} {n k:Nat} {q:Program} {loose:List Str} {XP:(Str->Option Value)->Heap->Prop} {d:DefRec} {R:Pr}
  (hn:l.most=some n) (hn2:n<=sizeLine) (hdf:d.params.defaults=[]) (hr:Room k callerA)
  (F:∀ (w:World) (mg:Str->Option Value) (fa:Addr) (h0 h:Heap),(KH h0).In h->ybc (fs.map (·.1)) bs (cs.map (·.1)) h0=ya9 fs bs cs->h.Ns mainGlobals mg->mg d.name=some (.ref fa) ->
   ∃ fd:FuncData,(∀ (s:Shared) (u:Value),BindsTo s fd ⟨[u],[]⟩ [(x,u)])/\∀ base:Heap,(KH h0).In base->base.Ns mainGlobals mg->FnOk l.prog w (KH h0) mg base CX0 k fa fd [x] (spT (KH h0) (run R k "law")))
  (hsp:("_law_spoilt":Str)∈bs) (law:∀ ns:List Int,ns.length<=n->run R k "law" [.lst (ns.map .int)]=some (.bl true)) :
  PySem.W.WalkO q loose XP (zkx fs bs cs).says l.row.toRowW d [] (fun f vs=>PySem.call f vs):=by
 refine Att.attach_call hn hdf fun w s₀ s₁ mg mb fa o pm cd doc a vs ns G Y ho hd hcd hmg hobj hints hlen hg=>?_;obtain ⟨h0,k0,e0⟩:=Y;have KX:=zyk k0;obtain ⟨fd,hb,hF⟩:=F w mg fa h0 _ KX e0 G.T.g hmg;exact zmc KX G.T.g G.T.b G.T.builtins G.T.nolimit hg hobj hints (zzs hlen hn2) hr hF hb (fun H hO hS=>by
  have ri:∀ ns:List Int,Reps (KH h0) H (ns.map .int) (ns.map V.int):=fun ns=>by
   induction ns with
   | nil=>exact rfl
   | cons i r ih=>exact ⟨_,_,rfl,rfl,ih⟩
  exact ⟨H,[.lst (ns.map .int)],.bl true,Same.refl H,zv8 (zun e0 hsp),⟨_,_,rfl,⟨a,_,rfl,hS,ri ns⟩,rfl⟩,law ns hlen,fun v F' H' _ r=>r⟩) fun H e s' z=>z
theorem zt4 {P:Program} {w:World} {fa:Addr} {h0:Heap} {tab:Tab} {D:Fd} {k:Nat} (hst:∀ p∈tab,St p.1 p.2.1 p.2.2.1 p.2.2.2) (KX:(KH h0).In h)
  (e0:ybc (tab.sts.map (·.1)) ("_law_spoilt"::bnames) (cs.map (·.1)) h0=ya9 tab.sts ("_law_spoilt"::bnames) cs) (G:h.Ns mainGlobals mg) (hfa:mg "law"=some (.ref fa)) (hl:(("law":Str),D,st,[x])∈tab) (hD:tab.fns.lookup ("law":Str)=some D) :
  ∃ fd:FuncData,(∀ (s:Shared) (u:Value),BindsTo s fd ⟨[u],[]⟩ [(x,u)])/\∀ base:Heap,(KH h0).In base->base.Ns mainGlobals mg->FnOk P w (KH h0) mg base CX0 (k+1) fa fd [x] (spT (KH h0) (run (tab.pr cs) (k+1) "law")):=by
 have nob:∀ x∈bnames,mg x=none:=fun x hx=>PySem.W.mg_none_of KX G (by rw [zo5];exact zun e0 (zzc _ hx));have C:∀ x t,(tab.pr cs).con x=some t->∃ u v,mg x=some u/\RelV v u/\∀ F,Rep (KH h0) F t v:=fun x t h=>zrv KX G (zx3 (p:=(x,t)) e0 (zfq h));have one:∀ p∈tab,∃ a fd,FnD (KH h0) mg p.1 p.2.1 p.2.2.1 a fd p.2.2.2:=fun p hp=>by obtain ⟨f,fd,h1,F⟩:=zkw (zqg (p:=(p.1,p.2.2.1)) e0 (ua0.mpr ⟨p,hp,rfl⟩));have S:=hst p hp;exact ⟨f,fd,⟨_,_,F⟩,S.sc,S.np,S.ns,S.tr,W.mg_of KX G h1,F.kp,F.binds S.bi⟩
 have L:∀ f D,(tab.pr cs).fn f=some D->∃ st a fd ps,FnD (KH h0) mg f D st a fd ps:=fun f D hf=>by obtain ⟨p,hp,e⟩:=omm (zfq (show tab.fns.lookup f=some D from hf));cases e;obtain ⟨a,fd,M⟩:=one p hp;exact ⟨_,_,_,_,M⟩
 obtain ⟨f,fd,h1,F⟩:=zkw (zqg (p:=(("law":Str),st)) e0 (ua0.mpr ⟨(("law":Str),D,st,[x]),hl,rfl⟩));have hm:=W.mg_of KX G h1;rw [hfa] at hm;cases hm;have S:=hst _ hl;have M:FnD (KH h0) mg "law" D st fa fd [x]:=⟨⟨_,_,F⟩,S.sc,S.np,S.ns,S.tr,hfa,F.kp,F.binds S.bi⟩;refine ⟨fd,fun s u=>?_,fun base _ _=>zq0 (zq1 (fun f D _ hf=>.inl (L f D hf)) nob C k) nob C hD M⟩;obtain ⟨oc,od,kV,doc,pm,an,cdv,ct,osl,rfl,_,_⟩:=F.ex;exact .of_eq (S.bi kV doc pm an cdv ct [u] rfl)
theorem zic:∀ (ps:List Str) (us:List Value),us.length=ps.length->∀ n∈ps,((ps.zip us).lookup n).isNone=false
 | p::ps,u::us,hl,n,hn=>by
  rw [List.zip_cons_cons,zzu];cases e:n==p with
  | true=>rfl
  | false=>exact zic ps us (by simpa using hl) n ((omc hn).resolve_left fun z=>by subst z;simp at e)
theorem zp5:∀ (ps:List Str) (us:List Value),us.length=ps.length->ps.Nodup->ps.filterMap (fun n=>((ps.zip us).lookup n).map (n,·))=ps.zip us
 | [],us,_,_=>by cases us<;>rfl
 | p::ps,u::us,hl,hn=>by
  rw [ua6] at hn;rw [List.zip_cons_cons,zzv,zzu,ua8];simp only [xms];congr 1;refine Eq.trans (zjg fun n h=>?_) (zp5 ps us (by simpa using hl) hn.2);rw [zzu];cases e:n==p with
  | true=>rw [ua2 e] at h;exact absurd h hn.1
  | false=>rfl
theorem zke {fd:FuncData} {as:List Arg} {us:List Value} (h:fd.params=⟨[],as,none,[],[],none,[]⟩) (hd:fd.defaults=.none) (hn:(as.map (·.arg)).Nodup) (hl:us.length=(as.map (·.arg)).length):bindArgs fd ⟨us,[]⟩=pure ((as.map (·.arg)).zip us):=by
 have e1:((as.map (·.arg)).filter fun n=>(((as.map (·.arg)).zip us).lookup n).isNone)=[]:=List.filter_eq_nil_iff.mpr fun n hn=>by rw [zic _ us hl n hn];simp
 have e2:=zp5 _ us hl hn;have e3:seqItems? Value.none=(pure none:Sem _):=rfl;unfold bindArgs;rw [h,hd];dsimp only;generalize as.map (·.arg)=ps at hn hl e1 e2 ⊢;simp only [xmn,List.nil_append,List.append_nil,List.forIn_nil,pure_bind,e3,Option.getD_none,List.length_nil,hl,gt_iff_lt,Nat.lt_irrefl,decide_false,Bool.false_and,Bool.false_eq_true,if_false,Nat.zero_sub,List.drop_zero,Nat.sub_zero,List.take_length,e1,List.isEmpty_nil,Bool.not_true,List.drop_length,List.zip_nil_left,e2]
 done
noncomputable def yf4 (D:Fd) (st:Stmt) (ps:List Str):Bool :=
 (zaa st).kind==.function&&!(zaa st).isCoroutine&&!(zaa st).isGenerator&&decide ((za9 (zaa st)).Nodup)&&decide ((za9 (zaa st)).take ps.length=ps) &&
 (ps.all fun x=>(zaa st).names.lookup x==some .local||(zaa st).names.lookup x==some .cell)&&((zaa st).names.all fun y=>!(y.2==.free)) &&
 decide (ps.length=D.np)&&decide ((za9 (zaa st)).length=D.ns) &&
 (match zce st with | ⟨[],as,none,[],[],none,[]⟩=>decide (as.map (·.arg)=ps) | _=>false)
theorem zxz {D:Fd} {ps:List Str} (h:yf4 D st ps=true) (tr:ydj 60 ⟨zaa st,za9 (zaa st)⟩ (zbl st)=some D.body):St x D st ps:=by
 unfold yf4 at h;simp only [Bool.and_eq_true,Bool.not_eq_true',decide_eq_true_eq,beq_iff_eq] at h;obtain ⟨⟨⟨⟨⟨⟨⟨⟨⟨h1,h2⟩,h3⟩,h4⟩,h5⟩,h6⟩,h7⟩,h8⟩,h9⟩,h10⟩:=h;have hnd:ps.Nodup:=by rw [<- h5];exact h4.sublist (List.take_sublist _ _)
 refine ⟨⟨h1,h2,h3,h4,h5,fun y hy=>by simpa using oml h6 y hy,fun y hy=>by simpa using oml h7 y hy⟩,h8,h9,tr,fun kV doc pm an cdv ct us hl=>?_⟩;split at h10
 .rename_i as ha;rw [zz7] at h10;subst h10;exact zke ha rfl hnd hl
 .cases h10
end
end Ev
namespace Ev.K04
open PySem
section
variable {P:Pr}
noncomputable def za6:Fd:=⟨2,2,[.ite (.cmp .lt (.var 1) (.blt .len (.var 0))) [.ret (.idx (.var 0) (.var 1))] [],
  .ret (.cst (.int 0))]⟩
noncomputable def zcf:Fd:=⟨2,3,[.asg 2 (.bin .mod (.bin .mul (.bin .add (.bin .add (.call "_law_cell_at" [.var 0,.var 1]) (.bin .mul (.cst (.int 7919)) (.var 1))) (.cst (.int 1))) (.cst (.int 48271))) (.cst (.int 2147483647))),
  .ret (.bin .mod (.bin .add (.bin .add (.bin .mul (.var 2) (.var 2)) (.bin .mul (.cst (.int 7)) (.var 2))) (.var 1)) (.cst (.int 2147483629)))]⟩
noncomputable def zas:Fd:=⟨2,3,[.asg 2 (.bin .mod (.bin .mul (.bin .add (.bin .add (.var 0) (.bin .mul (.cst (.int 104729)) (.var 1))) (.cst (.int 17))) (.cst (.int 69621))) (.cst (.int 2147483647))),
  .ret (.bin .mod (.bin .add (.bin .add (.bin .mul (.var 2) (.var 2)) (.bin .mul (.cst (.int 3)) (.var 2))) (.var 1)) (.cst (.int 2147483629)))]⟩
noncomputable def zbm:Fd:=⟨1,1,[.ret (.comp (.idx (.var 0) (.cst (.int 0))) 1 .plain [.idx (.var 0) (.cst (.int 1))] none)]⟩
noncomputable def zct:List S:=[.ret (.idx (.comp (.var 0) 1 .plain [.var 0] (some (.cmp .eq (.idx (.var 0) (.cst (.int 0))) (.var 2)))) (.cst (.int 0)))]
noncomputable def zc2:Fd:=⟨2,2,zct⟩
noncomputable def zcn:Fd:=⟨2,2,[.ret (.blt .toTuple (.comp (.idx (.var 2) (.mth .index (.call "_law_names" [.var 1]) (.var 0))) 1 .plain [.idx (.var 0) (.cst (.int 2))] none))]⟩
noncomputable def zbo:Fd:=⟨3,4,[.asg 3 (.blt .toTuple (.comp (.idx (.var 2) (.mth .index (.call "_law_names" [.var 1]) (.var 0))) 1 .plain [.var 2] none)),
  .ret (.idx (.lst [.var 3,.cst .non]) (.blt .toInt (.cmp .isin (.cst .non) (.var 3))))]⟩
noncomputable def zc6:List S:=[.ret (.idx (.var 1) (.mth .index (.comp (.idx (.var 0) (.cst (.int 0))) 1 .plain [.var 0] none) (.var 2)))]
noncomputable def zdr:Fd:=⟨3,3,zc6⟩
noncomputable def ycz:List S:=[.asg 6 (.bin .fdiv (.call "_law_drawn" [.var 1,.bin .add (.cst (.int 10)) (.var 4)]) (.cst (.int 4))),
  .ite (.cmp .gt (.bin .mod (.var 6) (.cst (.int 4))) (.cst (.int 0))) [.app 3 (.tup [.var 5,.idx (.var 2) (.bin .mod (.bin .fdiv (.var 6) (.cst (.int 4))) (.cst (.int 6))),.cmp .gt (.bin .mod (.bin .fdiv (.var 6) (.cst (.int 32))) (.cst (.int 3))) (.cst (.int 0))])] []]
noncomputable def za7:Fd:=⟨2,10,[.asg 2 (.tup [.cst (.str "whole"),.cst (.str "whole"),.cst (.str "text"),.cst (.str "whole"),.cst (.str "text"),.cst (.str "whole")]),
  .asg 3 (.lst [.tup [.cst (.str "id"),.idx (.var 2) (.bin .mod (.var 1) (.cst (.int 6))),.cst (.bl false)]]),
  .loop [4,5] .enum [.tup [.cst (.str "n"),.cst (.str "t"),.cst (.str "u")]] ycz,
  .asg 7 (.comp (.idx (.var 0) (.cst (.int 0))) 1 .plain [.var 3] (some (.lnot (.tru (.idx (.var 0) (.cst (.int 2))))))),
  .asg 8 (.tup [.cst (.str "id")]),
  .ite (.land (.cmp .eq (.bin .mod (.bin .fdiv (.var 1) (.cst (.int 8))) (.cst (.int 4))) (.cst (.int 0))) (.cmp .gt (.blt .len (.var 7)) (.cst (.int 1)))) [.asg 8 (.idx (.lst [.tup [.cst (.str "id"),.idx (.var 7) (.cst (.int 1))],.tup [.idx (.var 7) (.cst (.int 1)),.cst (.str "id")]]) (.bin .mod (.bin .fdiv (.var 1) (.cst (.int 32))) (.cst (.int 2))))] [],
  .asg 9 (.bin .mod (.bin .fdiv (.var 1) (.cst (.int 64))) (.blt .len (.var 3))),
  .ret (.tup [.var 0,.blt .toTuple (.bin .add (.sli (.var 3) (some (.var 9)) none) (.sli (.var 3) none (some (.var 9)))),.var 8,.tup []])]⟩
noncomputable def za3:Fd:=⟨2,6,[.asg 2 (.lst [.tup []]),
  .loop [3] .plain [.var 1] [.asg 4 (.lst []),
  .loop [5] .plain [.var 2] [.asg 4 (.bin .add (.var 4) (.comp (.bin .add (.var 6) (.tup [.idx (.var 0) (.cst (.int 0))])) 1 .plain [.idx (.var 0) (.cst (.int 1))] (some (.land (.cmp .eq (.idx (.var 0) (.cst (.int 1))) (.var 4)) (.cmp .notin (.idx (.var 0) (.cst (.int 0))) (.var 6))))))],
  .asg 2 (.var 4)],
  .ret (.var 2)]⟩
noncomputable def za0:Fd:=⟨3,11,[.asg 3 (.idx (.var 0) (.bin .mod (.bin .fdiv (.var 2) (.cst (.int 8))) (.blt .len (.var 0)))),
  .asg 4 (.comp (.idx (.comp (.idx (.var 0) (.cst (.int 1))) 1 .plain [.idx (.var 4) (.cst (.int 1))] (some (.cmp .eq (.idx (.var 0) (.cst (.int 0))) (.var 1)))) (.cst (.int 0))) 1 .plain [.idx (.var 3) (.cst (.int 2))] none),
  .asg 5 (.call "_law_pairs" [.var 1,.var 4]),
  .ite (.land (.cmp .lt (.bin .mod (.var 2) (.cst (.int 8))) (.cst (.int 5))) (.cmp .ne (.var 5) (.lst []))) [.asg 6 (.idx (.var 5) (.bin .mod (.bin .fdiv (.var 2) (.cst (.int 64))) (.blt .len (.var 5)))),
  .asg 7 (.idx (.tup [.cst (.str "along"),.cst (.str "stop"),.cst (.str "late"),.cst (.str "gap"),.cst (.str "along"),.cst (.str "gap")]) (.bin .mod (.bin .fdiv (.var 2) (.cst (.int 1024))) (.cst (.int 6)))),
  .asg 8 (.comp (.var 0) 1 .plain [.idx (.var 1) (.cst (.int 1))] (some (.land (.cmp .isin (.idx (.var 0) (.cst (.int 0))) (.var 7)) (.lnot (.tru (.idx (.var 0) (.cst (.int 2)))))))),
  .ite (.land (.cmp .ne (.var 8) (.lst [])) (.cmp .eq (.var 7) (.cst (.str "gap")))) [.asg 7 (.cst (.str "late"))] [],
  .ret (.tup [.cst (.str "refers"),.var 6,.idx (.var 3) (.cst (.int 0)),.var 7])] [],
  .asg 9 (.comp (.idx (.var 0) (.cst (.int 0))) 1 .plain [.idx (.var 1) (.cst (.int 1))] none),
  .ite (.cmp .eq (.bin .mod (.var 2) (.cst (.int 8))) (.cst (.int 5))) [.asg 10 (.bin .mod (.bin .fdiv (.var 2) (.cst (.int 64))) (.blt .len (.var 9))),
  .ret (.tup [.cst (.str "unlike"),.sli (.bin .add (.sli (.var 9) (some (.var 10)) none) (.sli (.var 9) none (some (.var 10)))) none (some (.bin .add (.cst (.int 1)) (.bin .mod (.bin .fdiv (.var 2) (.cst (.int 1024))) (.cst (.int 2)))))])] [],
  .ret (.tup [.cst (.str "check"),.tup [.cst (.str "not"),.tup [.cst (.str "empty"),.idx (.var 9) (.bin .mod (.bin .fdiv (.var 2) (.cst (.int 64))) (.blt .len (.var 9)))]]])]⟩
noncomputable def zby:Fd:=⟨1,11,[.asg 1 (.lst [.cst (.str "item"),.cst (.str "user"),.cst (.str "box"),.cst (.str "log")]),
  .asg 2 (.bin .mod (.var 0) (.cst (.int 4))),
  .asg 1 (.sli (.bin .add (.sli (.var 1) (some (.var 2)) none) (.sli (.var 1) none (some (.var 2)))) none (some (.idx (.tup [.cst (.int 2),.cst (.int 1),.cst (.int 3),.cst (.int 4),.cst (.int 2),.cst (.int 3)]) (.bin .mod (.bin .fdiv (.var 0) (.cst (.int 4))) (.cst (.int 6)))))),
  .asg 4 (.comp (.call "_law_bare" [.var 1,.bin .fdiv (.call "_law_drawn" [.var 2,.var 0]) (.cst (.int 4))]) 2 .enum [.var 1] none),
  .asg 5 (.tup []),
  .loop [3,6] .enum [.var 4] [.asg 7 (.bin .fdiv (.call "_law_drawn" [.var 0,.bin .add (.cst (.int 20)) (.var 3)]) (.cst (.int 4))),
  .asg 8 (.lst []),
  .loop [9] .range [.idx (.tup [.cst (.int 1),.cst (.int 2),.cst (.int 0),.cst (.int 1),.cst (.int 3)]) (.bin .mod (.var 7) (.cst (.int 5)))] [.app 8 (.call "_law_rule" [.var 4,.var 6,.bin .fdiv (.call "_law_drawn" [.var 7,.var 9]) (.cst (.int 4))])],
  .asg 10 (.blt .toTuple (.comp (.bin .add (.tup [.idx (.var 0) (.cst (.int 0)),.blt .toTuple (.idx (.var 0) (.cst (.int 1)))]) (.sli (.var 0) (some (.cst (.int 2))) none)) 1 .plain [.var 8] none)),
  .asg 5 (.bin .add (.var 5) (.tup [.bin .add (.sli (.var 6) none (some (.cst (.int 3)))) (.tup [.var 10])]))],
  .ret (.var 5)]⟩
noncomputable def zal:Fd:=⟨2,2,[.ite (.land (.tru (.idx (.var 0) (.cst (.int 2)))) (.cmp .eq (.bin .mod (.var 1) (.cst (.int 4))) (.cst (.int 0)))) [.ret (.cst .non)] [],
  .ite (.cmp .eq (.idx (.var 0) (.cst (.int 1))) (.cst (.str "text"))) [.ret (.idx (.lst [.cst (.str "a"),.cst (.str "b"),.cst (.str ""),.cst (.str "ab"),.cst (.str "a"),.cst (.str "x9")]) (.bin .mod (.bin .fdiv (.var 1) (.cst (.int 4))) (.cst (.int 6))))] [],
  .ret (.idx (.lst [.cst (.int 0),.cst (.int 1),.cst (.int 2),.cst (.int 3),.cst (.int 1),.cst (.int 2),.cst (.int 4),.neg (.cst (.int 5))]) (.bin .mod (.bin .fdiv (.var 1) (.cst (.int 4))) (.cst (.int 8))))]⟩
noncomputable def zdv:List S:=[.ret (.blt .toTuple (.comp (.call "_law_worth" [.var 1,.bin .fdiv (.call "_law_drawn" [.var 3,.var 0]) (.cst (.int 4))]) 2 .enum [.idx (.var 0) (.cst (.int 1))] none))]
noncomputable def zet:Fd:=⟨2,2,zdv⟩
theorem zav {n:Nat} {f:Str} {D:Fd} {ts:List T} (h:P.fn f=some D) (hl:ts.length=D.np):run P (n+1) f ts=zad (yab (glo P (run P n)) D.body (yam D ts)):=by rw [run,h];simp [hl]
noncomputable def yak (a k:Int):Int:=((a+104729*k+17)*69621%2147483647*((a+104729*k+17)*69621%2147483647)+3*((a+104729*k+17)*69621%2147483647)+k)%2147483629
noncomputable def ybw (a k:Int):Int:=((a+7919*k+1)*48271%2147483647*((a+7919*k+1)*48271%2147483647)+7*((a+7919*k+1)*48271%2147483647)+k)%2147483629
theorem zee {a:Int} (h0:0<=a) (h1:a<2147483647):yb6 a=true:=by unfold yb6;rw [zzj (by lia),zzj (by lia)];rfl
theorem zgi (a:Int):yb6 (a%2147483647)=true:=zee (uc5 _ (by decide)) (ub9 _ (by decide))
theorem zbu (h:P.fn "_law_drawn"=some zas) (n:Nat) (a k:Int):run P (n+1) "_law_drawn" [.int a,.int k]=some (.int (yak a k)):=by rw [zav h rfl];simp [zas,yab,evS,evE,yam,ygm,yaf,yaj,Sl.get,Sl.frz,yaz,ya2,ycm,ybe,yan,fresh,zad,glo,SZ,zgi,zee,yak]
noncomputable def ybt (ns:List Int) (k:Nat):Int:=ns.getD k 0
theorem zbj {xs:List T} {k:Nat} {t:T} (h:xs[k]?=some t):ybd xs (k:Int)=some t:=by have hk:k<xs.length:=(ome h).1;unfold ybd ixI;rw [if_pos (by lia),if_pos (by lia)];simpa using h
theorem zps (h:P.fn "_law_cell_at"=some za6) (n:Nat) (ns:List Int) (k:Nat):run P (n+1) "_law_cell_at" [.lst (ns.map .int),.int (k:Int)]=some (.int (ybt ns k)):=by
 rw [zav h rfl];by_cases hk:k<ns.length
 .have e:ybd (ns.map T.int) (k:Int)=some (.int (ybt ns k)):=zbj (by simp [ybt,hk]);have hd:decide ((k:Int)<(ns.length:Int))=true:=zzj (by lia);simp [za6,yab,evS,evE,yam,ygm,yaf,yaj,Sl.get,Sl.frz,zad,yau,yah,ya3,glo,SZ,hk,e]
 .have e:ybt ns k=0:=by simp [ybt,List.getD_eq_getElem?_getD,List.getElem?_eq_none (Nat.le_of_not_lt hk)]
  simp [za6,yab,evS,evE,yam,ygm,yaf,yaj,Sl.get,Sl.frz,zad,yau,yah,ya3,glo,SZ,hk,e]
theorem zb4 (hc:P.fn "_law_cell_at"=some za6) (h:P.fn "_law_mixed"=some zcf) (n:Nat) (ns:List Int) (k:Nat):run P (n+2) "_law_mixed" [.lst (ns.map .int),.int (k:Int)]=some (.int (ybw (ybt ns k) k)):=by rw [zav h rfl];have e:=zps hc n ns k;simp [zcf,yab,evS,evE,yac,yam,ygm,yaf,yaj,yao,Sl.get,Sl.frz,yaz,ya2,ycm,ybe,yan,fresh,zad,glo,SZ,zgi,zee,ybw,e]
structure Col where
 n:Str
 k:Str
 g:Bool
noncomputable def Col.t (c:Col):T:=.tup [.str c.n,.str c.k,.bl c.g]
noncomputable def kinds6:List Str:=["whole", "whole", "text", "whole", "text", "whole"]
noncomputable def yat (i:Int):Str:=kinds6.getD (i%6).toNat "whole"
theorem zpc {xs:List T} {m:Nat} (hm:xs.length=m) (h0:0<m) (i:Int):ybd xs (i%(m:Int))=some (xs.getD (i%(m:Int)).toNat .non):=by have h1:0<=i%(m:Int):=uc5 _ (by lia);have h2:i%(m:Int)<(m:Int):=ub9 _ (by lia);unfold ybd ixI;rw [if_pos h1,if_pos (by lia)];simp only [xbs,List.getD_eq_getElem?_getD];rw [zy5 (by lia)];rfl
theorem zfd (i:Int):ybd [.str "whole",.str "whole",.str "text",.str "whole",.str "text",.str "whole"] (i%6)=some (.str (yat i)):=by
 have h1:0<=i%6:=uc5 _ (by decide);have h2:i%6<6:=ub9 _ (by decide);have e:=zpc (xs:=[.str "whole",.str "whole",.str "text",.str "whole",.str "text",.str "whole"]) (m:=6) rfl (by decide) i;have e':((6:Nat):Int)=6:=rfl;rw [e'] at e;rw [e,yat,kinds6];have:(i%6).toNat=0\/(i%6).toNat=1\/(i%6).toNat=2\/(i%6).toNat=3\/(i%6).toNat=4\/(i%6).toNat=5:=by lia
 rcases this with z | z | z | z | z | z<;>rw [z]<;>rfl
noncomputable def ybh (k j:Int) (nm:Str):List Col:=if 0<yak k (10+j)/4%4 then [⟨nm,yat (yak k (10+j)/4/4),decide (0<yak k (10+j)/4/32%3)⟩] else []
noncomputable def yad (k:Int):List Col:=[⟨"id",yat k,false⟩]++(ybh k 0 "n"++(ybh k 1 "t"++ybh k 2 "u"))
end
section
variable {G:Glo} {ss:List S} {τ:List Sl} {t:T}
theorem zan {s:S} {τ':List Sl} (h:evS G s τ=some (.nx τ')):yab G (s::ss) τ=yab G ss τ':=by rw [yab,h];rfl
theorem zbe {s:S} (h:evS G s τ=some (.rt t)):yab G (s::ss) τ=some (.rt t):=by rw [yab,h];rfl
theorem zah {i:Nat} {e:E} {τ':List Sl} (h0:yaf (yaj e) τ=τ) (h1:evE G e (ygm τ)=some t) (h2:τ.set i (yan e t)=τ'):yab G (.asg i e::ss) τ=yab G ss τ':=zan (by rw [evS,h0,h1,<- h2];rfl)
theorem za8 {e:E} (h0:yaf (yaj e) τ=τ) (h1:evE G e (ygm τ)=some t):yab G (.ret e::ss) τ=some (.rt t):=zbe (by rw [evS,h0,h1];rfl)
theorem zau {c:E} {a:List S} (h0:yaf (yaj c) τ=τ) (h1:evE G c (ygm τ)=some (.bl false)):yab G (.ite c a []::ss) τ=yab G ss τ:=zan (by rw [evS,h0,h1];rfl)
theorem zb7 {c:E} {a b:List S} (h0:yaf (yaj c) τ=τ) (h1:evE G c (ygm τ)=some (.bl true)) (h2:yab G a τ=some (.rt t)):yab G (.ite c a b::ss) τ=some (.rt t):=zbe (by rw [evS,h0,h1];exact h2)
theorem za4 {α:Type} {enc:α->T} {f:T->Option (Option T)} (g:α->Option T):∀ {l:List α},(∀ a∈l,f (enc a)=some (g a))->ya8 f (l.map enc)=some (l.filterMap g)
 | [],_=>rfl
 | a::l,h=>by rw [zy1,ya8,h a zzg,za4 g fun b hb=>h b (zzc _ hb),zzv];cases g a<;>rfl
noncomputable def za2 (cs:List Col):List Str:=cs.filterMap fun c=>if c.g then none else some c.n
noncomputable def ybs (k:Int) (cs:List Col):List Str:=if k/8%4=0/\1<(za2 cs).length then (if k/32%2=0 then ["id",(za2 cs).getD 1 "id"] else [(za2 cs).getD 1 "id", "id"]) else ["id"]
noncomputable def yb4 {α:Type} (cs:List α) (b:Nat):List α:=cs.drop b++cs.take b
theorem zcs (k j:Int) (nm:Str):(ybh k j nm).length<=1:=by unfold ybh;split<;>simp
theorem zdz (k:Int):1<=(yad k).length/\(yad k).length<=4:=by have h1:=zcs k 0 "n";have h2:=zcs k 1 "t";have h3:=zcs k 2 "u";unfold yad;simp only [List.length_append,List.length_cons,List.length_nil];lia
theorem zd9 (xs:List T) (b:Nat) (h:b<=xs.length):cut xs (some (b:Int)) none=xs.drop b:=by
 unfold cut yc1;have e:min ((b:Int)).toNat xs.length=b:=by lia
 simp only [show ¬ ((b:Int)<0) by lia,if_false,e];rw [List.take_of_length_le];simp
theorem zjl (xs:List T) (b:Nat) (h:b<=xs.length):cut xs none (some (b:Int))=xs.take b:=by
 unfold cut yc1;have e:min ((b:Int)).toNat xs.length=b:=by lia
 simp only [show ¬ ((b:Int)<0) by lia,if_false,e];simp
noncomputable def ybf (nm:Str) (cs:List Col) (key:List Str) (rules:List T):T:=.tup [.str nm,.tup (cs.map Col.t),.tup (key.map .str),.tup rules]
abbrev kd6:T:=.tup [.str "whole",.str "whole",.str "text",.str "whole",.str "text",.str "whole"]
theorem znm {nm:T} {k j:Int} {x:Str} {cs:List Col} {s4 s5 s6:Sl} (e:G.call "_law_drawn" [.int k,.int (10+j)]=some (.int (yak k (10+j)))) (hl:cs.length<=10) :
  ((ya0 [4,5] (.tup [.int j,.str x]) [.val nm,.val (.int k),.val kd6,.own (cs.map Col.t),s4,s5,s6,.no,.no,.no]).bind fun τ'=>yab G ycz τ') =
   some (.nx [.val nm,.val (.int k),.val kd6,.own ((cs++ybh k j x).map Col.t),.val (.int j),.val (.str x),.val (.int (yak k (10+j)/4)),.no,.no,.no]):=by
 show yab G ycz [.val nm,.val (.int k),.val kd6,.own (cs.map Col.t),.val (.int j),.val (.str x),s6,.no,.no,.no]=_;generalize hq:yak k (10+j)=q at e;refine (zah (t:=.int (q/4)) (τ':=[.val nm,.val (.int k),.val kd6,.own (cs.map Col.t),.val (.int j),.val (.str x),.val (.int (q/4)),.no,.no,.no]) rfl (by simp [evE,yac,ygm,Sl.get,yaz,ya2,yay,e]) rfl).trans ?_;unfold ybh;rw [hq];have hc:evE G (.cmp .gt (.bin .mod (.var 6) (.cst (.int 4))) (.cst (.int 0))) (ygm [.val nm,.val (.int k),.val kd6,.own (cs.map Col.t),.val (.int j),.val (.str x),.val (.int (q/4)),.no,.no,.no])=some (.bl (decide (0<q/4%4))):=rfl;by_cases h:0<q/4%4
 .rw [if_pos h];have hz:(cs.map Col.t).length<16777216:=by rw [zy3];lia
  have e3:evE G (.tup [.var 5,.idx (.var 2) (.bin .mod (.bin .fdiv (.var 6) (.cst (.int 4))) (.cst (.int 6))),.cmp .gt (.bin .mod (.bin .fdiv (.var 6) (.cst (.int 32))) (.cst (.int 3))) (.cst (.int 0))]) (ygm [.val nm,.val (.int k),.val kd6,.own (cs.map Col.t),.val (.int j),.val (.str x),.val (.int (q/4)),.no,.no,.no])=some (Col.t ⟨x,yat (q/4/4),decide (0<q/4/32%3)⟩):=by simp [evE,yac,ygm,Sl.get,yaz,ybe,yay,yah,zfd,yau,Col.t]
  have e4:yab G [.app 3 (.tup [.var 5,.idx (.var 2) (.bin .mod (.bin .fdiv (.var 6) (.cst (.int 4))) (.cst (.int 6))),.cmp .gt (.bin .mod (.bin .fdiv (.var 6) (.cst (.int 32))) (.cst (.int 3))) (.cst (.int 0))])] [.val nm,.val (.int k),.val kd6,.own (cs.map Col.t),.val (.int j),.val (.str x),.val (.int (q/4)),.no,.no,.no]=some (.nx [.val nm,.val (.int k),.val kd6,.own ((cs++[(⟨x,yat (q/4/4),decide (0<q/4/32%3)⟩:Col)]).map Col.t),.val (.int j),.val (.str x),.val (.int (q/4)),.no,.no,.no]):=by refine (zan (τ':=[.val nm,.val (.int k),.val kd6,.own ((cs++[(⟨x,yat (q/4/4),decide (0<q/4/32%3)⟩:Col)]).map Col.t),.val (.int j),.val (.str x),.val (.int (q/4)),.no,.no,.no]) ?_).trans rfl;rw [evS];refine Eq.trans (zze (fun o=>Option.bind o _) e3) ?_;show (if (cs.map Col.t).length<SZ then _ else none)=_;rw [if_pos hz,zzq];rfl
  exact (zan (τ':=[.val nm,.val (.int k),.val kd6,.own ((cs++[(⟨x,yat (q/4/4),decide (0<q/4/32%3)⟩:Col)]).map Col.t),.val (.int j),.val (.str x),.val (.int (q/4)),.no,.no,.no]) (by rw [evS];refine Eq.trans (zze (fun o=>Option.bind o _) (hc.trans (by rw [zzj h]))) ?_;exact e4)).trans rfl
 .rw [if_neg h,zzm];exact (zau rfl (hc.trans (by rw [zzk h]))).trans rfl
theorem znn {P:Pr} (hd:P.fn "_law_drawn"=some zas) (n:Nat) (nm:T) (k:Int) :
  ∃ a b c,yas (fun x τ=>(ya0 [4,5] x τ).bind fun τ'=>yab (glo P (run P (n+1))) ycz τ')
   [.tup [.int 0,.str "n"],.tup [.int 1,.str "t"],.tup [.int 2,.str "u"]]
   [.val nm,.val (.int k),.val kd6,.own [Col.t ⟨"id",yat k,false⟩],.no,.no,.no,.no,.no,.no] =
   some (.nx [.val nm,.val (.int k),.val kd6,.own ((yad k).map Col.t),.val a,.val b,.val c,.no,.no,.no]):=by
 have c0:=zcs k 0 "n";have c1:=zcs k 1 "t";have st:=fun (j:Int) (x:Str) (cs:List Col) (s4 s5 s6:Sl) (hl:cs.length<=10)=>znm (G:=glo P (run P (n+1))) (nm:=nm) (k:=k) (j:=j) (x:=x) (cs:=cs) (s4:=s4) (s5:=s5) (s6:=s6) (zbu hd n k (10+j)) hl;refine ⟨.int 2,.str "u",.int (yak k (10+2)/4),?_⟩;rw [yas,show [Col.t ⟨"id",yat k,false⟩]=([⟨"id",yat k,false⟩]:List Col).map Col.t from rfl,st 0 "n" _ _ _ _ (by simp)];dsimp only [xbs];rw [yas,st 1 "t" _ _ _ _ (by simp;lia)];dsimp only [xbs];rw [yas,st 2 "u" _ _ _ _ (by simp;lia)];dsimp only [xbs];rw [yas,yad,zz8,zz8]
end
section
theorem zlg (cs:List Col):(cs.filterMap fun c=>if c.g then none else some (T.str c.n))=(za2 cs).map T.str:=by
 unfold za2
 induction cs with
 | nil=>rfl
 | cons c cs ih=>simp only [List.filterMap_cons];cases c.g<;>simp [ih]
theorem yaq (a:T) (r:List T):ybd (a::r) 0=some a:=by simp [ybd,ixI]
theorem yaw (a b:T) (r:List T):ybd (a::b::r) 1=some b:=by have:=zbj (xs:=a::b::r) (k:=1) (t:=b) rfl;exact this
theorem ya5 (a b c:T) (r:List T):ybd (a::b::c::r) 2=some c:=by have:=zbj (xs:=a::b::c::r) (k:=2) (t:=c) rfl;exact this
theorem yec (a b c d:T) (r:List T):ybd (a::b::c::d::r) 3=some d:=by have:=zbj (xs:=a::b::c::d::r) (k:=3) (t:=d) rfl;exact this
theorem zrf (i:Int):i%2=0\/i%2=1:=by lia
theorem zh9 {G:Glo} {i:Nat} {e:E} {ss:List S} {τ τ0 τ':List Sl} {t:T} (h0:yaf (yaj e) τ=τ0) (h1:evE G e (ygm τ0)=some t) (h2:τ0.set i (yan e t)=τ'):yab G (.asg i e::ss) τ=yab G ss τ':=zan (by rw [evS,h0,h1,<- h2];rfl)
noncomputable def bareT2:List S:=za7.body.drop 3
section
variable {G:Glo} {nm CL KT PL:T} {k:Int} {s4 s5 s6:Sl} {l p:Nat}
theorem znl {by_:Nat} {cs:List T} {id1:Str} {key:List Str} (hcs:CL=.lst cs) (hl:0<cs.length) (hz:cs.length<=1000) (hb:k/64%(cs.length:Int)=(by_:Int)) (hbl:by_<=cs.length)
  (lp:ya3 .len PL=some (.int (p:Int))) (ip:1<p->yah PL (.int 1)=some (.str id1)) (hk:key=if k/8%4=0/\1<p then (if k/32%2=0 then ([("id":Str),id1]:List Str) else ([id1, "id"]:List Str)) else (["id"]:List Str)) :
  yab G (bareT2.drop 1) [.val nm,.val (.int k),.val KT,.val CL,s4,s5,s6,.val PL,.no,.no]=some (.rt (.tup [nm,.tup (cs.drop by_++cs.take by_),.tup (key.map .str),.tup []])):=by
 refine (zah (t:=.tup [.str "id"]) (τ':=[.val nm,.val (.int k),.val KT,.val CL,s4,s5,s6,.val PL,.val (.tup [.str "id"]),.no]) rfl (by simp [evE,yac]) rfl).trans ?_;have hc:evE G (.land (.cmp .eq (.bin .mod (.bin .fdiv (.var 1) (.cst (.int 8))) (.cst (.int 4))) (.cst (.int 0))) (.cmp .gt (.blt .len (.var 7)) (.cst (.int 1)))) (ygm [.val nm,.val (.int k),.val KT,.val CL,s4,s5,s6,.val PL,.val (.tup [.str "id"]),.no])=some (.bl (decide (k/8%4=0/\1<p))):=by
  have e1:evE G (.cmp .eq (.bin .mod (.bin .fdiv (.var 1) (.cst (.int 8))) (.cst (.int 4))) (.cst (.int 0))) (ygm [.val nm,.val (.int k),.val KT,.val CL,s4,s5,s6,.val PL,.val (.tup [.str "id"]),.no])=some (.bl (k/8%4==0)):=rfl;rw [evE,e1];by_cases h1:k/8%4=0
  .rw [show (k/8%4==0)=true by simpa using h1];simp [evE,ygm,Sl.get,lp,yau,h1];lia
  .rw [show (k/8%4==0)=false by simpa using h1];simp [h1]
 have mid:yab G (bareT2.drop 2) [.val nm,.val (.int k),.val KT,.val CL,s4,s5,s6,.val PL,.val (.tup [.str "id"]),.no]=yab G (bareT2.drop 3) [.val nm,.val (.int k),.val KT,.val CL,s4,s5,s6,.val PL,.val (.tup (key.map .str)),.no]:=by
  by_cases h:k/8%4=0/\1<p
  .rw [if_pos h] at hk;have i1:=ip h.2;have e8:evE G (.idx (.lst [.tup [.cst (.str "id"),.idx (.var 7) (.cst (.int 1))],.tup [.idx (.var 7) (.cst (.int 1)),.cst (.str "id")]]) (.bin .mod (.bin .fdiv (.var 1) (.cst (.int 32))) (.cst (.int 2)))) (ygm [.val nm,.val (.int k),.val KT,.val CL,s4,s5,s6,.val PL,.val (.tup [.str "id"]),.no])=ybd [.tup [.str "id",.str id1],.tup [.str id1,.str "id"]] (k/32%2):=by have il:∀ l i,yah (.lst l) (.int i)=ybd l i:=fun _ _=>rfl;simp [evE,yac,ygm,Sl.get,i1,yaz,ybe,yay,il]
   refine zan ?_;rw [evS];refine Eq.trans (zze (fun o=>Option.bind o _) (hc.trans (by rw [zzj h]))) ?_;refine (zah (t:=.tup (key.map .str)) rfl (e8.trans ?_) rfl).trans rfl;rw [hk];rcases zrf (k/32) with z | z
   .rw [z,if_pos rfl];exact yaq _ _
   .rw [z,if_neg (by decide)];exact yaw _ _ _
  .rw [if_neg h] at hk;subst hk;exact zau rfl (hc.trans (by rw [zzk h]))
 refine (show yab G (bareT2.drop 2) _=_ from mid).trans ?_;subst hcs;refine (zah (t:=.int (by_:Int)) (τ':=[.val nm,.val (.int k),.val KT,.val (.lst cs),s4,s5,s6,.val PL,.val (.tup (key.map .str)),.val (.int (by_:Int))]) rfl (by have lc:ya3 .len (.lst cs)=some (.int (cs.length:Int)):=rfl;simp [evE,ygm,Sl.get,lc,yaz,ybe,yay,hl,hb]) rfl).trans (za8 rfl ?_);have hz1:cs.length-by_+min by_ cs.length<=16777216:=by lia
 simp [evE,yac,evO,ygm,Sl.get,asI,ycc,zd9 _ _ hbl,zjl _ _ hbl,yaz,ya2,SZ,hz1,ya3]
end
theorem zp2 {P:Pr} (hd:P.fn "_law_drawn"=some zas) (hb:P.fn "_law_bare"=some za7) (n:Nat) (nm:Str) (k:Int) :
  run P (n+2) "_law_bare" [.str nm,.int k]=some (ybf nm (yb4 (yad k) (k/64%((yad k).length:Int)).toNat) (ybs k (yad k)) []):=by
 rw [zav hb rfl];obtain ⟨a,b,c,el⟩:=znn hd n (.str nm) k;show zad (yab (glo P (run P (n+1))) za7.body [.val (.str nm),.val (.int k),.no,.no,.no,.no,.no,.no,.no,.no])=_;generalize glo P (run P (n+1))=G at *;have hlen:=zdz k;have hm0:0<=k/64%((yad k).length:Int):=uc5 _ (by lia);have hm1:k/64%((yad k).length:Int)<((yad k).length:Int):=ub9 _ (by lia);generalize hby:(k/64%((yad k).length:Int)).toNat=by_ at *;have hbi:k/64%((yad k).length:Int)=(by_:Int):=by lia
 generalize hC:yad k=cs at *;have hbl:by_<=cs.length:=by rw [hbi] at hm1;lia
 have p1:yab G za7.body [.val (.str nm),.val (.int k),.no,.no,.no,.no,.no,.no,.no,.no]=yab G (za7.body.drop 2) [.val (.str nm),.val (.int k),.val kd6,.own [Col.t ⟨"id",yat k,false⟩],.no,.no,.no,.no,.no,.no] :=
  (zah (t:=kd6) (τ':=[.val (.str nm),.val (.int k),.val kd6,.no,.no,.no,.no,.no,.no,.no]) rfl (by simp [evE,yac,kd6]) rfl).trans (zah (t:=.lst [Col.t ⟨"id",yat k,false⟩]) rfl (by simp [evE,yac,ygm,Sl.get,kd6,yaz,ybe,yah,zfd,Col.t]) rfl)
 have p2:yab G (za7.body.drop 2) [.val (.str nm),.val (.int k),.val kd6,.own [Col.t ⟨"id",yat k,false⟩],.no,.no,.no,.no,.no,.no]=yab G bareT2 [.val (.str nm),.val (.int k),.val kd6,.own (cs.map Col.t),.val a,.val b,.val c,.no,.no,.no]:=zan (by rw [evS];simp only [yao,yaj,List.append_nil,yaf,yac,evE,List.length_cons,List.length_nil];simp only [Nat.reduceAdd,Nat.reduceLeDiff,if_true,xms,xbs,items,ya6];exact el);have e7:evE G (.comp (.idx (.var 0) (.cst (.int 0))) 1 .plain [.var 3] (some (.lnot (.tru (.idx (.var 0) (.cst (.int 2))))))) (ygm [.val (.str nm),.val (.int k),.val kd6,.val (.lst (cs.map Col.t)),.val a,.val b,.val c,.no,.no,.no])=some (.lst ((za2 cs).map .str)):=by
  have hz':cs.length<=16777216:=by lia
  simp [evE,yac,evO,ygm,Sl.get,items,yae,bnd,SZ,hz'];rw [za4 (enc:=Col.t) (fun c=>if c.g then none else some (T.str c.n)) (fun c _=>by cases hg:c.g<;>simp [Col.t,hg,yah,yaq,ya5,ycn]),zlg]
 have p3:yab G bareT2 [.val (.str nm),.val (.int k),.val kd6,.own (cs.map Col.t),.val a,.val b,.val c,.no,.no,.no]=yab G (bareT2.drop 1) [.val (.str nm),.val (.int k),.val kd6,.val (.lst (cs.map Col.t)),.val a,.val b,.val c,.val (.lst ((za2 cs).map .str)),.no,.no]:=zh9 rfl e7 rfl;rw [p1,p2,p3];have hk:=znl (G:=G) (nm:=.str nm) (KT:=kd6) (CL:=.lst (cs.map Col.t)) (cs:=cs.map Col.t) (PL:=.lst ((za2 cs).map .str)) (k:=k) (s4:=.val a) (s5:=.val b) (s6:=.val c) (p:=(za2 cs).length) (by_:=by_) (id1:=(za2 cs).getD 1 "id") (key:=ybs k cs) rfl (by rw [List.length_map];lia) (by rw [List.length_map];lia) (by rw [List.length_map];exact hbi) (by rw [List.length_map];exact hbl) (by simp [ya3]) (fun h2=>zbj (xs:=(za2 cs).map T.str) (k:=1) (by rw [List.getElem?_map,List.getElem?_eq_getElem h2,List.getD_eq_getElem?_getD,List.getElem?_eq_getElem h2];rfl)) rfl;rw [hk,ybf,yb4,zzq,List.map_drop,List.map_take];rfl
end
section
theorem ze9 {α:Type} {enc:α->T} {f:T->List Sl->Option Out} (I:List α->List Sl->Prop):∀ (l done:List α) (τ:List Sl),I done τ ->
  (∀ l1 a l2,l=l1++a::l2->∀ τ,I (done++l1) τ->∃ τ',f (enc a) τ=some (.nx τ')/\I (done++l1++[a]) τ')->∃ τ',yas f (l.map enc) τ=some (.nx τ')/\I (done++l) τ'
 | [],done,τ,h,_=>⟨τ,rfl,by rw [zzm];exact h⟩
 | a::l,done,τ,h,hs=>by
  obtain ⟨τ1,e1,h1⟩:=hs [] a l rfl τ (by rw [zzm];exact h);rw [zzm] at h1;obtain ⟨τ2,e2,h2⟩:=ze9 I l (done++[a]) τ1 h1 fun l1 b l2 e τ hd=>by have:=hs (a::l1) b l2 (by rw [e];rfl) τ (by simpa using hd);simpa using this
  refine ⟨τ2,?_,by rw [zz8] at h2;exact h2⟩;rw [zy1,yas,e1];exact e2
theorem zak {α:Type} {enc:α->T} {f:T->List Sl->Option Out} (I:List α->List Sl->Prop) (l:List α) (τ:List Sl) (h:I [] τ)
  (hs:∀ l1 a l2,l=l1++a::l2->∀ τ,I l1 τ->∃ τ',f (enc a) τ=some (.nx τ')/\I (l1++[a]) τ'):∃ τ',yas f (l.map enc) τ=some (.nx τ')/\I l τ':=by
 have:=ze9 I l [] τ h fun l1 a l2 e τ hd=>by have:=hs l1 a l2 e τ (by simpa using hd);simpa using this
 simpa using this
theorem zbd {α:Type} {enc:α->T} {cs:List α} (h:cs≠[]) (i:Int):∃ c∈cs,ybd (cs.map enc) (i%(cs.length:Int))=some (enc c):=by
 have hl:0<cs.length:=by cases cs with | nil=>exact absurd rfl h | cons _ _=>simp
 have h1:0<=i%(cs.length:Int):=uc5 _ (by lia);have h2:i%(cs.length:Int)<(cs.length:Int):=ub9 _ (by lia);obtain ⟨j,hj⟩:∃ j:Nat,i%(cs.length:Int)=(j:Int):=⟨(i%(cs.length:Int)).toNat,by lia⟩;rw [hj] at h2 ⊢;have hj':j<cs.length:=by lia
 refine ⟨cs[j],ua5 _,zbj ?_⟩;rw [zzr,zy5 hj'];rfl
inductive Tst where
 | emp (c:Str) | bel (a b:Str) | isI (c:Str) (i:Int) | isS (c x:Str) | neg (t:Tst) | cnj (a b:Tst) | dsj (a b:Tst)
noncomputable def Tst.t:Tst->T
 | .emp c=>.tup [.str "empty",.str c]
 | .bel a b=>.tup [.str "below",.str a,.str b]
 | .isI c i=>.tup [.str "is",.str c,.int i]
 | .isS c x=>.tup [.str "is",.str c,.str x]
 | .neg t=>.tup [.str "not",t.t]
 | .cnj a b=>.tup [.str "and",a.t,b.t]
 | .dsj a b=>.tup [.str "or",a.t,b.t]
noncomputable def ye1:List Int:=[0,1,2,3,-5,999]
noncomputable def Tst.ok:Nat->Tst->Prop
 | d,.emp c=>1<=d/\c.length<=6
 | d,.bel a b=>1<=d/\a.length<=6/\b.length<=6
 | d,.isI c i=>1<=d/\c.length<=6 /\ -1000<i/\i<1000/\i∈ye1
 | d,.isS c x=>1<=d/\c.length<=6/\x.length<=6/\yai x=true
 | d+1,.neg t=>t.ok d
 | d+1,.cnj a b=>a.ok d/\b.ok d
 | d+1,.dsj a b=>a.ok d/\b.ok d
 | 0,_=>False
noncomputable def Tst.fit:Nat->Tst->Prop
 | d,.emp _=>1<=d/\True
 | d,.bel _ _=>1<=d/\True
 | d,.isI _ _=>1<=d/\True
 | d,.isS _ _=>1<=d/\True
 | d+1,.neg t=>t.fit d
 | d+1,.cnj a b=>a.fit d/\b.fit d
 | d+1,.dsj a b=>a.fit d/\b.fit d
 | 0,_=>False
theorem Tst.ok.fit:∀ {d:Nat} {t:Tst},t.ok d->t.fit d
 | d+1,.emp _,h=>⟨ue2 (zzp d),trivial⟩
 | 0,.emp _,h=>absurd h.1 (by lia)
 | d+1,.bel _ _,h=>⟨ue2 (zzp d),trivial⟩
 | 0,.bel _ _,h=>absurd h.1 (by lia)
 | d+1,.isI _ _,h=>⟨ue2 (zzp d),trivial⟩
 | 0,.isI _ _,h=>absurd h.1 (by lia)
 | d+1,.isS _ _,h=>⟨ue2 (zzp d),trivial⟩
 | 0,.isS _ _,h=>absurd h.1 (by lia)
 | d+1,.neg t,h=>Tst.ok.fit (t:=t) h
 | d+1,.cnj a b,h=>⟨Tst.ok.fit h.1,Tst.ok.fit h.2⟩
 | d+1,.dsj a b,h=>⟨Tst.ok.fit h.1,Tst.ok.fit h.2⟩
 | 0,.neg _,h=>nomatch h
 | 0,.cnj _ _,h=>nomatch h
 | 0,.dsj _ _,h=>nomatch h
noncomputable def Tst.inn (cs:List Col):Tst->Prop
 | .emp c=>∃ o∈cs,o.n=c
 | .bel a b=>∃ o∈cs,∃ p∈cs,o.n=a/\p.n=b/\o.k=p.k
 | .isI c _=>∃ o∈cs,o.n=c/\(o.k==("text":Str))=false
 | .isS c _=>∃ o∈cs,o.n=c/\(o.k==("text":Str))=true
 | .neg t=>t.inn cs
 | .cnj a b=>a.inn cs/\b.inn cs
 | .dsj a b=>a.inn cs/\b.inn cs
noncomputable def Sh (x:Str):Prop:=x.length<=6/\yai x=true
noncomputable def yc0 (cs:List Col):Prop:=cs≠[]/\cs.length<=4/\∀ c∈cs,Sh c.n/\c.k.length<=6
noncomputable def alike (cs:List Col) (c:Col):List Str:=cs.filterMap fun o=>if o.k==c.k then some o.n else none
end
section
noncomputable def yco (nm:T) (cs:List Col) (key rules:T):T:=.tup [nm,.tup (cs.map Col.t),key,rules]
end
section
variable {cs:List Col}
noncomputable def yar (xs:List Str):T:=.tup (xs.map .str)
noncomputable def ydq (xs:List Str):Prop:=∀ x∈xs,Sh x
noncomputable def CSh (cs:List Col) (xs:List Str):Prop:=∀ x∈xs,Sh x/\∃ c∈cs,c.n=x
theorem zqc {x:Str}:∀ (xs:List Str),(xs.map T.str).any (fun z=>eqT z (.str x))=xs.any fun y=>y==x
 | []=>rfl
 | y::ys=>by rw [zy1,ub6,ub6,zqc ys,eqT]
theorem zxc (y x:Str):dpP (.str y) (.str x)=0:=rfl
theorem zts (x:Str) (xs:List Str):dpI (.str x) (xs.map .str)=true:=by unfold dpI;rw [uc0];intro z hz;obtain ⟨y,_,rfl⟩:=omm hz;rw [zxc];rfl
theorem zf1 (x:Str) (xs:List Str):inC (.str x) (.tup (xs.map .str))=some (xs.any fun y=>y==x):=by simp only [inC,zts,if_true,zqc]
noncomputable def ydc (cs:List Col) (kd:Str) (row:List Str):List (List Str):=cs.filterMap fun o=>if (o.k==kd)&&!(row.any fun y=>y==o.n) then some (row++[o.n]) else none
theorem zo0 (cs:List Col) (kd:Str) (row:List Str):(cs.filterMap fun o=>if (o.k==kd)&&!(row.any fun y=>y==o.n) then some (yar (row++[o.n])) else none)=(ydc cs kd row).map yar:=by unfold ydc;rw [List.map_filterMap];congr;funext o;split<;>rfl
theorem zo1 (cs:List Col) (kd:Str) (row:List Str):(ydc cs kd row).length<=cs.length:=List.length_filterMap_le _ _
theorem zj5 (hc:yc0 cs) {kd:Str} {row r:List Str} (hr:CSh cs row) (h:r∈ydc cs kd row):CSh cs r/\r.length=row.length+1:=by
 unfold ydc at h;obtain ⟨o,ho,e⟩:=ud6.mp h;split at e
 .cases e;refine ⟨fun x hx=>?_,by simp⟩;rcases oma hx with q | q
  .exact hr x q
  .rw [omg q];exact ⟨(hc.2.2 o ho).1,o,ho,rfl⟩
 .cases e
noncomputable def Rows (cs:List Col) (j:Nat) (ps:List (List Str)):Prop:=ps.length<=4 ^ j/\∀ p∈ps,CSh cs p/\p.length=j
theorem zhp {G:Glo} (hc:yc0 cs) (nm key rules kt s2:T) (kd:Str) (j:Nat) (hj:j<=1) (ps:List (List Str)) (hp:Rows cs j ps) (s3:Sl) :
  ∃ (qs:List (List Str)) (s5:Sl),yas (fun x τ=>(ya0 [5] x τ).bind fun τ'=>yab G [.asg 4 (.bin .add (.var 4) (.comp (.bin .add (.var 6) (.tup [.idx (.var 0) (.cst (.int 0))])) 1 .plain [.idx (.var 0) (.cst (.int 1))] (some (.land (.cmp .eq (.idx (.var 0) (.cst (.int 1))) (.var 4)) (.cmp .notin (.idx (.var 0) (.cst (.int 0))) (.var 6))))))] τ')
   (ps.map yar) [.val (yco nm cs key rules),.val kt,.val s2,.val (.str kd),.own [],s3] =
   some (.nx [.val (yco nm cs key rules),.val kt,.val s2,.val (.str kd),.own (qs.map yar),s5])/\Rows cs (j+1) qs:=by
 have hl4:=hc.2.1;have hl:cs.length<=16777216:=by lia
 have h4j:4 ^ j<=4:=by rcases (by lia:j=0\/j=1) with rfl | rfl<;>decide
 have hpl:ps.length<=4:=zzs hp.1 h4j;obtain ⟨τ',e,qs,s5,rfl,h1,h2⟩:=zak (enc:=yar) (f:=fun x τ=>(ya0 [5] x τ).bind fun τ'=>yab G [.asg 4 (.bin .add (.var 4) (.comp (.bin .add (.var 6) (.tup [.idx (.var 0) (.cst (.int 0))])) 1 .plain [.idx (.var 0) (.cst (.int 1))] (some (.land (.cmp .eq (.idx (.var 0) (.cst (.int 1))) (.var 4)) (.cmp .notin (.idx (.var 0) (.cst (.int 0))) (.var 6))))))] τ')
  (fun done τ=>∃ qs s5,τ=[.val (yco nm cs key rules),.val kt,.val s2,.val (.str kd),.own (qs.map yar),s5]/\qs.length<=4*done.length/\∀ q∈qs,CSh cs q/\q.length=j+1)
  ps [.val (yco nm cs key rules),.val kt,.val s2,.val (.str kd),.own [],s3] ⟨[],s3,rfl,by simp,fun q hq=>by cases hq⟩ (by
   rintro done row rest hsp τ ⟨qs,s5,rfl,h1,h2⟩;have hrow:row∈ps:=by rw [hsp];simp
   have hdl:done.length<=ps.length:=by rw [hsp];simp
   have hrs:=(hp.2 row hrow).1;have hml:=zo1 cs kd row;have hz:qs.length+(ydc cs kd row).length<=16777216:=by lia
   have hrl:row.length+1<=16777216:=by rw [(hp.2 row hrow).2];lia
   refine ⟨[.val (yco nm cs key rules),.val kt,.val s2,.val (.str kd),.own ((qs++ydc cs kd row).map yar),.val (yar row)],?_,qs++ydc cs kd row,_,rfl,?_,?_⟩
   .simp [yab,evS,evE,yac,evO,ygm,yaf,yaj,yao,yb9,Sl.get,Sl.frz,yaz,ya2,yan,fresh,yau,yah,items,yae,ya0,bnd,SZ,yco,yaw,hl];rw [za4 (enc:=Col.t) (fun o=>if (o.k==kd)&&!(row.any fun y=>y==o.n) then some (yar (row++[o.n])) else none) (fun o _=>by
     cases hk:(o.k==kd) with
     | false=>simp [Col.t,yaq,yaw,eqC,dpP,eqT,hk]
     | true =>have hin:=zf1 o.n row;cases ha:(row.any fun y=>y==o.n)<;>rw [ha] at hin<;>simp [Col.t,yaq,yaw,eqC,dpP,eqT,hk,yar,hin,hrl]),zo0]
    simp [hz]
   .simp only [List.length_append,List.length_cons,List.length_nil];lia
   .intro q hq;rcases oma hq with z | z
    .exact h2 q z
    .have:=zj5 hc hrs z;exact ⟨this.1,by rw [this.2,(hp.2 row hrow).2]⟩)
 refine ⟨qs,s5,e,?_,h2⟩;have:=hp.1;rw [Nat.pow_succ];lia
end
section
theorem zlk {P:Pr} (h:P.fn "_law_pairs"=some za3) (n:Nat) {cs:List Col} (hc:yc0 cs) (nm key rules:T) (ks:List Str) (hk:ks.length<=2) :
  ∃ ps,run P (n+1) "_law_pairs" [yco nm cs key rules,.lst (ks.map .str)]=some (.lst (ps.map yar))/\Rows cs ks.length ps:=by
 rw [zav h rfl];unfold za3;dsimp only;rw [zan (τ':=[.val (yco nm cs key rules),.val (.lst (ks.map .str)),.own ([[]].map yar),.no,.no,.no]) (by simp [evS,evE,yac,yam,yaf,yaj,yao,yan,fresh,yar])];obtain ⟨τ',e,ps,s2,s3,s4,s5,rfl,h1,h2⟩:=zak (enc:=T.str) (f:=fun x τ=>(ya0 [3] x τ).bind fun τ'=>yab (glo P (run P n)) [.asg 4 (.lst []),
  .loop [5] .plain [.var 2] [.asg 4 (.bin .add (.var 4) (.comp (.bin .add (.var 6) (.tup [.idx (.var 0) (.cst (.int 0))])) 1 .plain [.idx (.var 0) (.cst (.int 1))] (some (.land (.cmp .eq (.idx (.var 0) (.cst (.int 1))) (.var 4)) (.cmp .notin (.idx (.var 0) (.cst (.int 0))) (.var 6))))))],
  .asg 2 (.var 4)] τ')
  (fun done τ=>∃ ps s2 s3 s4 s5,τ=[.val (yco nm cs key rules),.val (.lst (ks.map .str)),s2,s3,s4,s5]/\(s2=.own (ps.map yar)\/s2=.val (.lst (ps.map yar)))/\Rows cs done.length ps)
  ks [.val (yco nm cs key rules),.val (.lst (ks.map .str)),.own ([[]].map yar),.no,.no,.no] ⟨[[]],_,_,_,_,rfl,.inl rfl,by simp,fun p hp=>by rw [omg hp];exact ⟨fun x hx=>(by cases hx),rfl⟩⟩ (by
   rintro done kd rest hsp τ ⟨ps,s2,s3,s4,s5,rfl,h1,h2⟩;have hdl:done.length<=1:=by rw [hsp] at hk;simp at hk;lia
   have hfz:Sl.frz s2=.val (.lst (ps.map yar)):=by rcases h1 with rfl | rfl<;>rfl
   obtain ⟨qs,s5',el,hq⟩:=zhp (G:=glo P (run P n)) hc nm key rules (.lst (ks.map .str)) (.lst (ps.map yar)) kd done.length hdl ps h2 s5;refine ⟨[.val (yco nm cs key rules),.val (.lst (ks.map .str)),.val (.lst (qs.map yar)),.val (.str kd),.val (.lst (qs.map yar)),s5'],?_,qs,_,_,_,_,rfl,.inr rfl,by rw [zy4];exact hq⟩;simp only [ya0,xbs,xss,xsz];rw [zan (τ':=[.val (yco nm cs key rules),.val (.lst (ks.map .str)),s2,.val (.str kd),.own [],s5]) (by simp [evS,evE,yac,yaf,yaj,yao,yan,fresh])];rw [zan (s:=.loop _ _ _ _) (τ':=[.val (yco nm cs key rules),.val (.lst (ks.map .str)),.val (.lst (ps.map yar)),.val (.str kd),.own (qs.map yar),s5']) (by rw [evS];simp only [yao,yaj,List.append_nil,yaf,yac,evE,ygm,List.modify_succ_cons,List.modify_zero_cons,hfz,xmc,Sl.get,xmn];simp only [xgs,xgz,xjs,xbs,items];exact el)];simp [yab,evS,evE,ygm,yaf,yaj,Sl.get,Sl.frz,yan,fresh])
 rw [zan (s:=.loop _ _ _ _) (τ':=[.val (yco nm cs key rules),.val (.lst (ks.map .str)),s2,s3,s4,s5]) (by rw [evS];simp only [yao,yaj,List.append_nil,yaf,yac,evE,ygm,List.modify_succ_cons,List.modify_zero_cons,xmc,Sl.get,Sl.frz,xmn];simp only [xgs,xgz,xjs,xbs,items];exact e)];refine ⟨ps,?_,h2⟩;rcases h1 with rfl | rfl<;>simp [yab,evS,evE,ygm,yaf,yaj,Sl.get,Sl.frz,zad]
end
section
variable {cs:List Col}
structure Bt where
 nm:Str
 cs:List Col
 key:List Str
 rs:List T
noncomputable def Bt.t (b:Bt):T:=ybf b.nm b.cs b.key b.rs
noncomputable def ya7:List Str:=["id", "n", "t", "u"]
structure Bt.ok (b:Bt):Prop where
 nm:b.nm.length<=6
 cs:yc0 b.cs
 k1:b.key.length<=2
 ks:ydq b.key
 inn:∀ x∈b.key,∃ c∈b.cs,c.n=x
 kn:b.key≠[]
 nd:(b.cs.map (·.n)).Nodup
 kk:∀ c∈b.cs,c.k="whole"\/c.k="text"
 as:∀ c∈b.cs,c.n∈ya7
 na:yai b.nm=true
 kg:∀ x∈b.key,∃ c∈b.cs,c.n=x/\c.g=false
inductive Rl where
 | ref (cs:List Str) (t w:Str) | unl (cs:List Str) | chk (t:Tst)
noncomputable def Rl.raw:Rl->T
 | .ref cs t w=>.tup [.str "refers",yar cs,.str t,.str w]
 | .unl cs=>.tup [.str "unlike",.lst (cs.map .str)]
 | .chk t=>.tup [.str "check",t.t]
noncomputable def Rl.t:Rl->T
 | .ref cs t w=>.tup [.str "refers",yar cs,.str t,.str w]
 | .unl cs=>.tup [.str "unlike",yar cs]
 | .chk t=>.tup [.str "check",t.t]
noncomputable def Rl.ok:Rl->Prop
 | .ref cs t w=>ydq cs/\cs.length<=4/\t.length<=6/\w.length<=6
 | .unl cs=>ydq cs/\cs.length<=4
 | .chk t=>t.ok 3/\∃ c,t=.neg (.emp c)
noncomputable def Rl.asc:Rl->Prop
 | .ref _ t w=>yai t=true/\yai w=true
 | .unl _=>True
 | .chk t=>∃ cs:List Col,(∀ c∈cs,c.n∈ya7)/\t.inn cs
noncomputable def Rl.fits (ns:List Str) (cs:List Col):Rl->Prop
 | .ref ks t w=>(∀ x∈ks,∃ c∈cs,c.n=x/\(w="gap"->c.g=true))/\t∈ns
 | .unl ks=>∀ x∈ks,∃ c∈cs,c.n=x
 | .chk t=>t.inn cs
noncomputable def zb1 (cs:List Col) (x:Str):List Str:=cs.filterMap fun c=>if c.n==x then some c.k else none
theorem zhy (cs:List Col) (x:Str):(cs.filterMap fun c=>if c.n==x then some (T.str c.k) else none)=(zb1 cs x).map T.str:=by unfold zb1;rw [List.map_filterMap];congr;funext o;split<;>rfl
theorem zj7 {x:Str} (h:∃ c∈cs,c.n=x):∃ y r,zb1 cs x=y::r:=by
 obtain ⟨c,hc,rfl⟩:=h;have:c.k∈zb1 cs c.n:=ud6.mpr ⟨c,hc,by simp⟩;cases q:zb1 cs c.n with
 | nil=>rw [q] at this;cases this
 | cons y r=>exact ⟨y,r,rfl⟩
noncomputable def ydf:List Str:=["along", "stop", "late", "gap", "along", "gap"]
theorem znr:∀ x∈ydf,yai x=true:=by decide +kernel
theorem zo4:yai "late"=true:=by decide +kernel
theorem znq:∀ x∈ydf,x.length<=6:=by decide +kernel
theorem zo3:("late":Str).length<=6:=by decide +kernel
theorem zmt (k:Int):∃ x∈ydf,ybd [.str "along",.str "stop",.str "late",.str "gap",.str "along",.str "gap"] (k%6)=some (.str x):=by obtain ⟨c,hc,e⟩:=zbd (enc:=T.str) (cs:=ydf) (by simp [ydf]) k;exact ⟨c,hc,e⟩
noncomputable def ybv (cs:List Col) (p:List Str):List Col:=cs.filterMap fun c=>if (p.any fun y=>y==c.n)&&!c.g then some c else none
theorem zkq (cs:List Col) (p:List Str):(cs.filterMap fun c=>if (p.any fun y=>y==c.n)&&!c.g then some c.t else none)=(ybv cs p).map Col.t:=by unfold ybv;rw [List.map_filterMap];congr;funext o;split<;>rfl
theorem zyo {p:List Str} {c:Col} {w:Str} (hc:c∈cs) (hx:c.n∈p) (h:(if (!(ybv cs p).isEmpty)&&(w=="gap") then ("late":Str) else w)="gap"):c.g=true:=by
 cases hg:c.g with
 | true=>rfl
 | false =>
  have hs:c∈ybv cs p:=by unfold ybv;refine ud6.mpr ⟨c,hc,?_⟩;rw [if_pos];rw [hg,Bool.not_false,Bool.and_true,List.any_eq_true];exact ⟨c.n,hx,ua8 _⟩
  have he:(ybv cs p).isEmpty=false:=by
   cases e:ybv cs p with
   | nil=>rw [e] at hs;cases hs
   | cons _ _=>rfl
  rw [he] at h;split at h
  .exact absurd h (by decide +kernel)
  .rename_i h1;rw [h] at h1;exact absurd rfl h1
theorem zcl {α:Type} (f:α->T) (l:List α):yb2 (l.map f) []=l.isEmpty:=by cases l<;>rfl
theorem zpo (cs:List Col):(cs.filterMap fun c=>some (T.str c.n))=(cs.map (·.n)).map T.str:=by
 induction cs with
 | nil=>rfl
 | cons c cs ih=>simp [ih]
theorem zf9 (xs:List T) (j:Nat):cut xs none (some (j:Int))=xs.take j:=by
 unfold cut yc1;simp only [show ¬ ((j:Int)<0) by lia,if_false,Int.toNat_natCast,Nat.sub_zero,List.drop_zero];by_cases h:j<=xs.length
 .rw [Nat.min_eq_left h]
 .rw [Nat.min_eq_right (by lia),List.take_of_length_le (by lia),List.take_of_length_le (by lia)]
theorem Tst.up:∀ {d:Nat} {t:Tst},t.ok d->t.ok (d+1)
 | 0,_,h=>by cases ‹Tst›<;>simp [Tst.ok] at h
 | d+1,.emp c,h=>⟨by lia,h.2⟩
 | d+1,.bel a b,h=>⟨by lia,h.2⟩
 | d+1,.isI c i,h=>⟨by lia,h.2⟩
 | d+1,.isS c x,h=>⟨by lia,h.2⟩
 | d+1,.neg t,h=>Tst.up (d:=d) (t:=t) h
 | d+1,.cnj a b,h=>⟨Tst.up (d:=d) (t:=a) h.1,Tst.up (d:=d) (t:=b) h.2⟩
 | d+1,.dsj a b,h=>⟨Tst.up (d:=d) (t:=a) h.1,Tst.up (d:=d) (t:=b) h.2⟩
theorem zc0 {G:Glo} {c:E} {a b ss:List S} {τ τ':List Sl} (h0:yaf (yaj c) τ=τ) (h1:evE G c (ygm τ)=some (.bl true)) (h2:yab G a τ=some (.nx τ')):yab G (.ite c a b::ss) τ=yab G ss τ':=zan (by rw [evS,h0,h1];exact h2)
section
variable {G:Glo} {BL bt gt KL PL NL ST pt:T} {k:Int} {s6 s7 s8 s9 s10:Sl}
noncomputable def ruD:List S:=za0.body.drop 3
noncomputable def ruE:List S:=za0.body.drop 4
theorem zx4:evE G (.cmp .lt (.bin .mod (.var 2) (.cst (.int 8))) (.cst (.int 5))) (ygm [.val BL,.val bt,.val (.int k),.val gt,.val KL,.val PL,s6,s7,s8,s9,s10])=some (.bl (decide (k%8<5))):=rfl
theorem zut:evE G (.cmp .eq (.bin .mod (.var 2) (.cst (.int 8))) (.cst (.int 5))) (ygm [.val BL,.val bt,.val (.int k),.val gt,.val KL,.val PL,s6,s7,s8,s9,s10])=some (.bl (k%8==5)):=rfl
theorem zus {w w' gn:Str} {cl:Nat} (hc:evE G (.land (.cmp .lt (.bin .mod (.var 2) (.cst (.int 8))) (.cst (.int 5))) (.cmp .ne (.var 5) (.lst []))) (ygm [.val BL,.val bt,.val (.int k),.val gt,.val KL,.val PL,.no,.no,.no,.no,.no])=some (.bl true))
  (l5:ya3 .len PL=some (.int (cl:Int))) (hcl:0<cl) (i5:yah PL (.int (k/64%(cl:Int)))=some pt) (iw:ybd [.str "along",.str "stop",.str "late",.str "gap",.str "along",.str "gap"] (k/1024%6)=some (.str w))
  (e8:evE G (.comp (.var 0) 1 .plain [.idx (.var 1) (.cst (.int 1))] (some (.land (.cmp .isin (.idx (.var 0) (.cst (.int 0))) (.var 7)) (.lnot (.tru (.idx (.var 0) (.cst (.int 2))))))))  (ygm [.val BL,.val bt,.val (.int k),.val gt,.val KL,.val PL,.val pt,.val (.str w),.no,.no,.no])=some ST)
  (v:Bool) (hne:neC ST (.lst [])=some (.bl v)) (hw:w'=if v&&(w=="gap") then ("late":Str) else w) (ig:yah gt (.int 0)=some (.str gn)) :
  yab G ruD [.val BL,.val bt,.val (.int k),.val gt,.val KL,.val PL,.no,.no,.no,.no,.no]=some (.rt (.tup [.str "refers",pt,.str gn,.str w'])):=by
 refine zb7 rfl hc ?_;refine (zah (t:=pt) (τ':=[.val BL,.val bt,.val (.int k),.val gt,.val KL,.val PL,.val pt,.no,.no,.no,.no]) rfl (by simp [evE,ygm,Sl.get,l5,yaz,ybe,yay,hcl,i5]) rfl).trans ?_;refine (zah (t:=.str w) (τ':=[.val BL,.val bt,.val (.int k),.val gt,.val KL,.val PL,.val pt,.val (.str w),.no,.no,.no]) rfl (by simp [evE,yac,ygm,Sl.get,yaz,ybe,yay,yah,iw]) rfl).trans ?_;refine (zah (t:=ST) (τ':=[.val BL,.val bt,.val (.int k),.val gt,.val KL,.val PL,.val pt,.val (.str w),.val ST,.no,.no]) rfl e8 rfl).trans ?_;have hcd:evE G (.land (.cmp .ne (.var 8) (.lst [])) (.cmp .eq (.var 7) (.cst (.str "gap")))) (ygm [.val BL,.val bt,.val (.int k),.val gt,.val KL,.val PL,.val pt,.val (.str w),.val ST,.no,.no])=some (.bl (v&&(w=="gap"))):=by cases v<;>simp [evE,yac,ygm,Sl.get,yau,hne,eqC,dpP,eqT]
 cases q:(v&&(w==("gap":Str))) with
 | true =>rw [q] at hw hcd;subst hw;exact (zc0 (τ':=[.val BL,.val bt,.val (.int k),.val gt,.val KL,.val PL,.val pt,.val (.str "late"),.val ST,.no,.no]) rfl hcd (zah (t:=.str "late") rfl rfl rfl)).trans (za8 rfl (by simp [evE,yac,ygm,Sl.get,ig]))
 | false =>rw [q] at hw hcd;subst hw;exact (zau rfl hcd).trans (za8 rfl (by simp [evE,yac,ygm,Sl.get,ig]))
end
theorem zoc {P:Pr} (hd:P.fn "_law_drawn"=some zas) (hp:P.fn "_law_pairs"=some za3) (h:P.fn "_law_rule"=some za0) (n:Nat)
  {bs:List Bt} (hb:∀ b∈bs,b.ok) {b:Bt} (hm:b∈bs) (k:Int):∃ r:Rl,run P (n+6) "_law_rule" [.lst (bs.map Bt.t),b.t,.int k]=some r.raw/\r.ok/\r.asc/\r.fits (bs.map (·.nm)) b.cs:=by
 rw [zav h rfl];show ∃ r:Rl,zad (yab (glo P (run P (n+5))) za0.body [.val (.lst (bs.map Bt.t)),.val b.t,.val (.int k),.no,.no,.no,.no,.no,.no,.no,.no])=_/\_;have hne:bs≠[]:=by intro e;rw [e] at hm;cases hm
 obtain ⟨g,hg,eg⟩:=zbd (enc:=Bt.t) hne (k/8);have hbo:=hb b hm;have hgo:=hb g hg;have hbl:0<bs.length:=by cases bs with | nil=>exact absurd rfl hne | cons _ _=>simp
 have hgl:g.cs.length<=16777216:=by have:=hgo.cs.2.1;lia
 have hbcl:b.cs.length<=16777216:=by have:=hbo.cs.2.1;lia
 have hkl:g.key.length<=16777216:=by have:=hgo.k1;lia
 have hb0:0<b.cs.length:=by have:=hbo.cs.1;cases q:b.cs with | nil=>exact absurd q this | cons _ _=>simp
 obtain ⟨ps,ep,hps⟩:=zlk hp (n+4) hbo.cs (.str b.nm) (.tup (b.key.map .str)) (.tup b.rs) (g.key.map fun x=>(zb1 g.cs x).headD "") (by rw [zy3];exact hgo.k1);have ep:(glo P (run P (n+5))).call "_law_pairs" [b.t,.lst ((g.key.map fun x=>(zb1 g.cs x).headD "").map .str)]=some (.lst (ps.map yar)):=ep;generalize glo P (run P (n+5))=G at *;have lB:ya3 .len (.lst (bs.map Bt.t))=some (.int (bs.length:Int)):=by simp [ya3]
 have iB:yah (.lst (bs.map Bt.t)) (.int (k/8%(bs.length:Int)))=some g.t:=eg;have ib1:yah b.t (.int 1)=some (.tup (b.cs.map Col.t)):=by simp [Bt.t,ybf,yah,yaw]
 have ig0:yah g.t (.int 0)=some (.str g.nm):=by simp [Bt.t,ybf,yah,yaq]
 have ig1:yah g.t (.int 1)=some (.tup (g.cs.map Col.t)):=by simp [Bt.t,ybf,yah,yaw]
 have ig2:yah g.t (.int 2)=some (.tup (g.key.map .str)):=by simp [Bt.t,ybf,yah,ya5]
 generalize T.lst (bs.map Bt.t)=BL at *;generalize b.t=bt at *;generalize g.t=gt at *;have e4:evE G (.comp (.idx (.comp (.idx (.var 0) (.cst (.int 1))) 1 .plain [.idx (.var 4) (.cst (.int 1))] (some (.cmp .eq (.idx (.var 0) (.cst (.int 0))) (.var 1)))) (.cst (.int 0))) 1 .plain [.idx (.var 3) (.cst (.int 2))] none) (ygm [.val BL,.val bt,.val (.int k),.val gt,.no,.no,.no,.no,.no,.no,.no])=some (.lst ((g.key.map fun x=>(zb1 g.cs x).headD "").map .str)):=by
  simp [evE,yac,evO,ygm,Sl.get,items,yae,bnd,SZ,yau,ig1,ig2,hkl];rw [za4 (enc:=T.str) (fun x=>some (T.str ((zb1 g.cs x).headD ""))) (fun x hx=>by
   obtain ⟨y,r,ey⟩:=zj7 (hgo.inn x hx);simp [hgl];rw [za4 (enc:=Col.t) (fun c=>if c.n==x then some (T.str c.k) else none) (fun c _=>by cases hk:(c.n==x)<;>simp [Col.t,yah,yaq,yaw,eqC,dpP,eqT,hk]),zhy,ey];simp [yah,yaq])]
  simp [List.filterMap_eq_map']
 generalize T.lst ((g.key.map fun x=>(zb1 g.cs x).headD "").map T.str)=KL at *;have pre:∀ PL:T,G.call "_law_pairs" [bt,KL]=some PL->yab G za0.body [.val BL,.val bt,.val (.int k),.no,.no,.no,.no,.no,.no,.no,.no]=yab G ruD [.val BL,.val bt,.val (.int k),.val gt,.val KL,.val PL,.no,.no,.no,.no,.no]:=fun PL hPL =>
  (zah (t:=gt) (τ':=[.val BL,.val bt,.val (.int k),.val gt,.no,.no,.no,.no,.no,.no,.no]) rfl (by simp [evE,ygm,Sl.get,lB,yaz,ybe,yay,hbl,iB]) rfl).trans
   ((zah (t:=KL) (τ':=[.val BL,.val bt,.val (.int k),.val gt,.val KL,.no,.no,.no,.no,.no,.no]) rfl e4 rfl).trans (zah (t:=PL) rfl (by simp [evE,yac,ygm,Sl.get,hPL]) rfl))
 rw [pre _ ep];have hcd:evE G (.land (.cmp .lt (.bin .mod (.var 2) (.cst (.int 8))) (.cst (.int 5))) (.cmp .ne (.var 5) (.lst []))) (ygm [.val BL,.val bt,.val (.int k),.val gt,.val KL,.val (.lst (ps.map yar)),.no,.no,.no,.no,.no])=some (.bl (decide (k%8<5)&&!ps.isEmpty)):=by
  rw [evE,zx4];cases decide (k%8<5) with
  | false=>rfl
  | true=>cases ps<;>simp [evE,yac,ygm,Sl.get,yau,neC,dpP,ycj,eqT,yb2]
 cases hw:(decide (k%8<5)&&!ps.isEmpty) with
 | true =>
  rw [hw] at hcd;rw [zy7] at hw;have hpn:ps≠[]:=by intro e;rw [e] at hw;simp at hw
  obtain ⟨p,hp',epi⟩:=zbd (enc:=yar) hpn (k/64);have hpl:0<ps.length:=by cases q:ps with | nil=>exact absurd q hpn | cons _ _=>simp
  obtain ⟨w,hwm,ew⟩:=zmt (k/1024);have hpo:=hps.2 p hp';have e8:evE G (.comp (.var 0) 1 .plain [.idx (.var 1) (.cst (.int 1))] (some (.land (.cmp .isin (.idx (.var 0) (.cst (.int 0))) (.var 7)) (.lnot (.tru (.idx (.var 0) (.cst (.int 2))))))))  (ygm [.val BL,.val bt,.val (.int k),.val gt,.val KL,.val (.lst (ps.map yar)),.val (yar p),.val (.str w),.no,.no,.no])=some (.lst ((ybv b.cs p).map Col.t)):=by
   simp [evE,yac,evO,ygm,Sl.get,items,yae,bnd,SZ,yau,ib1,hbcl];rw [za4 (enc:=Col.t) (fun c=>if (p.any fun y=>y==c.n)&&!c.g then some c.t else none) (fun c _=>by have hin:=zf1 c.n p;cases ha:(p.any fun y=>y==c.n)<;>rw [ha] at hin<;>cases hgg:c.g<;>simp [Col.t,yah,yaq,ya5,yar,hin,hgg,ycn]),zkq]
  have hne2:neC (.lst ((ybv b.cs p).map Col.t)) (.lst [])=some (.bl (!(ybv b.cs p).isEmpty)):=by unfold neC;rw [if_pos (by simp [dpP,ycj]),eqT,zcl]
  have key:=zus (G:=G) (w:=w) hcd (by simp [ya3]) hpl epi ew e8 _ hne2 rfl ig0;refine ⟨.ref p g.nm (if (!(ybv b.cs p).isEmpty)&&(w=="gap") then ("late":Str) else w),zze zad key,⟨fun x hx=>(hpo.1 x hx).1,?_,hgo.nm,?_⟩,⟨hgo.na,?_⟩,fun x hx=>by obtain ⟨c,hc,e⟩:=(hpo.1 x hx).2;exact ⟨c,hc,e,zyo hc (by rw [e];exact hx)⟩,ua0.mpr ⟨g,hg,rfl⟩⟩
  .rw [hpo.2,zy3];have:=hgo.k1;lia
  .split
   .exact zo3
   .exact znq w hwm
  .split
   .exact zo4
   .exact znr w hwm
 | false =>
  rw [hw] at hcd;generalize T.lst (ps.map yar)=PL at *;have e9:evE G (.comp (.idx (.var 0) (.cst (.int 0))) 1 .plain [.idx (.var 1) (.cst (.int 1))] none) (ygm [.val BL,.val bt,.val (.int k),.val gt,.val KL,.val PL,.no,.no,.no,.no,.no])=some (.lst ((b.cs.map (·.n)).map .str)):=by simp [evE,yac,evO,ygm,Sl.get,items,yae,bnd,SZ,ib1,hbcl];rw [za4 (enc:=Col.t) (fun c=>some (T.str c.n)) (fun c _=>by simp [Col.t,yah,yaq]),zpo];simp
  have pre2:yab G ruD [.val BL,.val bt,.val (.int k),.val gt,.val KL,.val PL,.no,.no,.no,.no,.no]=yab G (ruE.drop 1) [.val BL,.val bt,.val (.int k),.val gt,.val KL,.val PL,.no,.no,.no,.val (.lst ((b.cs.map (·.n)).map .str)),.no] :=
   (zau rfl hcd).trans (zah rfl e9 rfl)
  rw [pre2];by_cases h5:k%8=5
  .obtain ⟨j,hj⟩:∃ j:Nat,k/64%(b.cs.length:Int)=(j:Int):=⟨(k/64%(b.cs.length:Int)).toNat,by have:=uc5 (k/64) (show (b.cs.length:Int)≠0 by lia);lia⟩;have hx1:k/64%(b.cs.length:Int)<(b.cs.length:Int):=ub9 _ (by lia);obtain ⟨m,hm2⟩:∃ m:Nat,1+k/1024%2=(m:Int):=⟨(1+k/1024%2).toNat,by lia⟩;have hjl:j<=((b.cs.map (·.n)).map T.str).length:=by simp;lia
   have hz:b.cs.length-j+min j b.cs.length<=16777216:=by lia
   have e10:evE G (.tup [.cst (.str "unlike"),.sli (.bin .add (.sli (.var 9) (some (.var 10)) none) (.sli (.var 9) none (some (.var 10)))) none (some (.bin .add (.cst (.int 1)) (.bin .mod (.bin .fdiv (.var 2) (.cst (.int 1024))) (.cst (.int 2)))))]) (ygm [.val BL,.val bt,.val (.int k),.val gt,.val KL,.val PL,.no,.no,.no,.val (.lst ((b.cs.map (·.n)).map .str)),.val (.int (j:Int))])=some (Rl.unl ((yb4 (b.cs.map (·.n)) j).take m)).raw:=by have q1:=zd9 _ _ hjl;have q2:=zjl _ _ hjl;simp only [List.map_map] at q1 q2;simp [evE,yac,evO,ygm,Sl.get,yaz,ya2,ybe,yay,asI,ycc,hm2,q1,q2,SZ,hz,zf9,Rl.raw,yb4]
   refine ⟨.unl ((yb4 (b.cs.map (·.n)) j).take m),congrArg zad (zb7 rfl (zut.trans (by rw [h5];rfl)) ((zah (t:=.int (j:Int)) (τ':=[.val BL,.val bt,.val (.int k),.val gt,.val KL,.val PL,.no,.no,.no,.val (.lst ((b.cs.map (·.n)).map .str)),.val (.int (j:Int))]) rfl (by simp [evE,ygm,Sl.get,ya3,yaz,ybe,yay,hb0,hj]) rfl).trans (za8 rfl e10))),⟨fun x hx=>?_,?_⟩,trivial,fun x hx=>?_⟩
   .have hx':=ub5 hx;unfold yb4 at hx';have hx2:x∈b.cs.map (·.n):=by
     rcases oma hx' with z | z
     .exact List.mem_of_mem_drop z
     .exact ub5 z
    obtain ⟨c,hc,rfl⟩:=omm hx2;exact (hbo.cs.2.2 c hc).1
   .unfold yb4;simp only [List.length_take,List.length_append,List.length_drop,List.length_map];have:=hbo.cs.2.1;lia
   .have hx':=ub5 hx;unfold yb4 at hx';have hx2:x∈b.cs.map (·.n):=by
     rcases oma hx' with z | z
     .exact List.mem_of_mem_drop z
     .exact ub5 z
    exact omm hx2
  .have hcn:b.cs.map (·.n)≠[]:=by intro e;rw [List.map_eq_nil_iff] at e;exact hbo.cs.1 e
   obtain ⟨x,hx,ex⟩:=zbd (enc:=T.str) hcn (k/64);rw [zy3] at ex;obtain ⟨c,hc,rfl⟩:=omm hx;refine ⟨.chk (.neg (.emp c.n)),congrArg zad ((zau rfl (zut.trans (by rw [show (k%8==5)=false by simpa using h5]))).trans (za8 rfl ?_)),?_,⟨b.cs,hbo.as,?_⟩,?_⟩
   .have lN:ya3 .len (.lst ((b.cs.map (·.n)).map T.str))=some (.int (b.cs.length:Int)):=by simp [ya3]
    have iN:yah (.lst ((b.cs.map (·.n)).map T.str)) (.int (k/64%(b.cs.length:Int)))=some (.str c.n):=ex;generalize T.lst ((b.cs.map (·.n)).map T.str)=NL at *;simp [evE,yac,ygm,Sl.get,yaz,ybe,yay,lN,iN,hb0,Rl.raw,Tst.t]
   .exact ⟨⟨by decide,(hbo.cs.2.2 c hc).1.1⟩,c.n,rfl⟩
   .exact ⟨c,hc,rfl⟩
   .exact ⟨c,hc,rfl⟩
end
section
variable {cs:List Col}
structure Tb where
 nm:Str
 cs:List Col
 key:List Str
 rs:List Rl
noncomputable def Tb.t (b:Tb):T:=ybf b.nm b.cs b.key (b.rs.map Rl.t)
structure Tb.ok (b:Tb):Prop where
 nm:b.nm.length<=6
 cl:b.cs.length<=4
 cs:∀ c∈b.cs,Sh c.n/\c.k.length<=6
 k1:b.key.length<=2
 ks:ydq b.key
 rl:b.rs.length<=4
 rs:∀ r∈b.rs,r.ok
 kn:b.key≠[]
 cn:b.cs≠[]
 nd:(b.cs.map (·.n)).Nodup
 kk:∀ c∈b.cs,c.k="whole"\/c.k="text"
 as:∀ c∈b.cs,c.n∈ya7
 na:yai b.nm=true
 inn:∀ x∈b.key,∃ c∈b.cs,c.n=x
 ra:∀ r∈b.rs,r.asc
 kg:∀ x∈b.key,∃ c∈b.cs,c.n=x/\c.g=false
theorem zi8 (i:Int):(yat i).length<=6:=by
 have all:∀ x∈kinds6,x.length<=6:=by decide +kernel
 unfold yat;rw [zzf];cases e:kinds6[(i%6).toNat]? with
 | none=>decide +kernel
 | some x=>exact all x (zAf e)
theorem zdt (k:Int):∀ c∈yad k,c.n.length<=6/\c.k.length<=6:=by
 have hc:∀ (j:Int) (nm:Str),nm.length<=6->∀ c∈ybh k j nm,c.n.length<=6/\c.k.length<=6:=fun j nm hn c h=>by
  unfold ybh at h;split at h
  .rw [omg h];exact ⟨hn,zi8 _⟩
  .cases h
 intro c h;unfold yad at h;rcases oma h with h | h
 .rw [omg h];exact ⟨(by decide +kernel:("id":Str).length<=6),zi8 _⟩
 .rcases oma h with h | h
  .exact hc _ _ (by decide +kernel) c h
  .rcases oma h with h | h
   .exact hc _ _ (by decide +kernel) c h
   .exact hc _ _ (by decide +kernel) c h
theorem zbr {α:Type} {l:List α} {b:Nat} {x:α}:x∈yb4 l b↔x∈l:=by
 unfold yb4;rw [ud9];constructor
 .rintro (h | h)
  .exact List.mem_of_mem_drop h
  .exact ub5 h
 .intro h;rw [<- List.take_append_drop b l,ud9] at h;exact h.symm
theorem zd3 {α:Type} (l:List α) (b:Nat):(yb4 l b).length=l.length:=by unfold yb4;simp only [List.length_append,List.length_drop,List.length_take];lia
theorem zlf {x:Str} (h:x∈za2 cs):∃ c∈cs,c.n=x:=by
 unfold za2 at h;obtain ⟨c,hc,e⟩:=ud6.mp h;split at e
 .cases e
 .cases e;exact ⟨c,hc,rfl⟩
theorem zw3 (k:Int):∃ c∈yad k,c.n="id":=⟨⟨"id",yat k,false⟩,by unfold yad;simp,rfl⟩
noncomputable def mkB (nm:Str) (k:Int):Bt:=⟨nm,yb4 (yad k) (k/64%((yad k).length:Int)).toNat,ybs k (yad k),[]⟩
theorem zmf (k:Int):∀ x∈ybs k (yad k),∃ c∈yad k,c.n=x:=by
 intro x hx;have hid:=zw3 k;unfold ybs at hx;split at hx
 .rename_i h;have hg:∃ c∈yad k,c.n=(za2 (yad k)).getD 1 "id":=by refine zlf ?_;rw [zzf,zy5 h.2];exact ua5 _
  split at hx<;>simp only [List.mem_cons,List.not_mem_nil,or_false] at hx<;>rcases hx with rfl | rfl<;>assumption
 .rw [omg hx];exact hid
theorem zsg {x:Str} (h:x∈za2 cs):∃ c∈cs,c.n=x/\c.g=false:=by
 unfold za2 at h;obtain ⟨c,hc,e⟩:=ud6.mp h;cases hg:c.g with
 | true=>rw [hg] at e;cases e
 | false=>rw [hg] at e;exact ⟨c,hc,zzl e,hg⟩
theorem zyl (k:Int):∀ x∈ybs k (yad k),∃ c∈yad k,c.n=x/\c.g=false:=by
 intro x hx;have hid:∃ c∈yad k,c.n="id"/\c.g=false:=⟨⟨"id",yat k,false⟩,by unfold yad;simp,rfl,rfl⟩;unfold ybs at hx;split at hx
 .rename_i h;have hg:∃ c∈yad k,c.n=(za2 (yad k)).getD 1 "id"/\c.g=false:=by refine zsg ?_;rw [zzf,zy5 h.2];exact ua5 _
  split at hx<;>simp only [List.mem_cons,List.not_mem_nil,or_false] at hx<;>rcases hx with rfl | rfl<;>assumption
 .rw [omg hx];exact hid
theorem ztg (k:Int) (cs:List Col):(ybs k cs).length<=2:=by unfold ybs;split<;>(try split)<;>simp
theorem ztz (k:Int):((yad k).map (·.n)).Nodup:=by
 have e1:(("id":Str)=="n")=false/\(("id":Str)=="t")=false/\(("id":Str)=="u")=false/\(("n":Str)=="t")=false/\(("n":Str)=="u")=false/\(("t":Str)=="u")=false:=by decide +kernel
 obtain ⟨a1,a2,a3,a4,a5,a6⟩:=e1;have b1:=ne_of_beq_false a1;have b2:=ne_of_beq_false a2;have b3:=ne_of_beq_false a3;have b4:=ne_of_beq_false a4;have b5:=ne_of_beq_false a5;have b6:=ne_of_beq_false a6;unfold yad ybh;split<;>split<;>split<;>simp [b1,b2,b3,b4,b5,b6]
theorem zi7 (i:Int):yat i="whole"\/yat i="text":=by
 have all:∀ x∈kinds6,(x==("whole":Str))=true\/(x==("text":Str))=true:=by decide +kernel
 unfold yat;rw [zzf];cases e:kinds6[(i%6).toNat]? with
 | none=>exact .inl rfl
 | some x =>
  rcases all x (zAf e) with h | h
  .exact .inl (ua2 h)
  .exact .inr (ua2 h)
theorem zpn (k:Int):∀ c∈yad k,c.k="whole"\/c.k="text":=by
 have one:∀ (j:Int) (nm:Str),∀ c∈ybh k j nm,c.k="whole"\/c.k="text":=by
  intro j nm c hc;unfold ybh at hc;split at hc
  .rw [omg hc];exact zi7 _
  .cases hc
 intro c hc;unfold yad at hc;rcases oma hc with h | h
 .rw [omg h];exact zi7 _
 .rcases oma h with h | h
  .exact one _ _ c h
  .rcases oma h with h | h
   .exact one _ _ c h
   .exact one _ _ c h
theorem zh5 (k:Int):∀ c∈yad k,c.n∈ya7:=by
 have one:∀ (j:Int) (nm:Str),nm∈ya7->∀ c∈ybh k j nm,c.n∈ya7:=by
  intro j nm hn c hc;unfold ybh at hc;split at hc
  .rw [omg hc];exact hn
  .cases hc
 intro c hc;unfold yad at hc;rcases oma hc with h | h
 .rw [omg h];simp [ya7]
 .rcases oma h with h | h
  .exact one _ _ (by simp [ya7]) c h
  .rcases oma h with h | h
   .exact one _ _ (by simp [ya7]) c h
   .exact one _ _ (by simp [ya7]) c h
theorem zq7:∀ x∈ya7,yai x=true:=by decide +kernel
theorem zwd (nm:Str) (hn:nm.length<=6) (ha:yai nm=true) (k:Int):(mkB nm k).ok where
 kg:=fun x hx=>by obtain ⟨c,hc,e⟩:=zyl k x hx;exact ⟨c,zbr.mpr hc,e⟩
 nm:=hn
 cs:=by have h:=zdz k;refine ⟨fun e=>?_,by show (yb4 _ _).length<=4;rw [zd3];exact h.2,fun c hc=>⟨⟨(zdt k c (zbr.mp hc)).1,zq7 _ (zh5 k c (zbr.mp hc))⟩,(zdt k c (zbr.mp hc)).2⟩⟩;have e':(yb4 (yad k) (k/64%((yad k).length:Int)).toNat).length=([]:List Col).length:=zze List.length e;rw [zd3] at e';simp at e';rw [e'] at h;simp at h
 k1:=ztg k _
 ks:=fun x hx=>by obtain ⟨c,hc,rfl⟩:=zmf k x hx;exact ⟨(zdt k c hc).1,zq7 _ (zh5 k c hc)⟩
 inn:=fun x hx=>by obtain ⟨c,hc,e⟩:=zmf k x hx;exact ⟨c,zbr.mpr hc,e⟩
 kn:=by show ybs k (yad k)≠[];unfold ybs;split<;>(try split)<;>simp
 nd:=by show ((yb4 (yad k) _).map (·.n)).Nodup;have h:=ztz k;unfold yb4;rw [zzq];rw [<- List.take_append_drop (k/64%((yad k).length:Int)).toNat (yad k),zzq] at h;exact (List.perm_append_comm.nodup_iff).mp h
 kk:=fun c hc=>zpn k c (zbr.mp hc)
 as:=fun c hc=>zh5 k c (zbr.mp hc)
 na:=ha
theorem zdh {α:Type} (enc:α->T):∀ (l:List α) (i:Nat),ya6 (l.map enc) i=(l.zipIdx i).map fun p=>.tup [.int (p.2:Int),enc p.1]
 | [],_=>rfl
 | a::l,i=>by rw [zy1,ya6,zdh enc l (i+1),List.zipIdx_cons,zy1]
theorem zer:∀ (l:List T) (i:Nat),(ya6 l i).length=l.length
 | [],_=>rfl
 | a::l,i=>by rw [ya6,zzb,zzb,zer l (i+1)]
theorem zk1 {G:Glo} (r:Rl) (e:Env):evE G (.bin .add (.tup [.idx (.var 0) (.cst (.int 0)),.blt .toTuple (.idx (.var 0) (.cst (.int 1)))]) (.sli (.var 0) (some (.cst (.int 2))) none)) (some r.raw::e)=some r.t:=by
 cases r with
 | ref cs t w=>simp [evE,yac,evO,yaz,ya2,yah,ya3,asI,ycc,SZ,Rl.raw,Rl.t,yaq,yaw,cut,yc1,yar]
 | unl cs=>simp [evE,yac,evO,yaz,ya2,yah,ya3,asI,ycc,SZ,Rl.raw,Rl.t,yaq,yaw,cut,yc1,yar]
 | chk t=>cases t<;>simp [evE,yac,evO,yaz,ya2,yah,ya3,asI,ycc,SZ,Rl.raw,Rl.t,Tst.t,yaq,yaw,cut,yc1]
theorem zjx {P:Pr} (hd:P.fn "_law_drawn"=some zas) (hp:P.fn "_law_pairs"=some za3) (hr:P.fn "_law_rule"=some za0) (n:Nat)
  {bs:List Bt} (hb:∀ b∈bs,b.ok) {b:Bt} (hm:b∈bs) (k d c:Int) (s1 s2 s3 s5:T) (m:Nat) (hm3:m<=3) (s9 s10:Sl) :
  ∃ (rs:List Rl) (s9':Sl),yas (fun x τ=>(ya0 [9] x τ).bind fun τ'=>yab (glo P (run P (n+6))) [.app 8 (.call "_law_rule" [.var 4,.var 6,.bin .fdiv (.call "_law_drawn" [.var 7,.var 9]) (.cst (.int 4))])] τ')
   ((List.range m).map fun (i:Nat)=>T.int (i:Int)) [.val (.int k),.val s1,.val s2,.val s3,.val (.lst (bs.map Bt.t)),.val s5,.val b.t,.val (.int d),.own [],s9,s10] =
   some (.nx [.val (.int k),.val s1,.val s2,.val s3,.val (.lst (bs.map Bt.t)),.val s5,.val b.t,.val (.int d),.own (rs.map Rl.raw),s9',s10])/\rs.length=m/\∀ r∈rs,r.ok/\r.asc/\r.fits (bs.map (·.nm)) b.cs:=by
 obtain ⟨τ',e,rs,s9',rfl,h1,h2⟩:=zak (enc:=fun (i:Nat)=>T.int (i:Int)) (f:=fun x τ=>(ya0 [9] x τ).bind fun τ'=>yab (glo P (run P (n+6))) [.app 8 (.call "_law_rule" [.var 4,.var 6,.bin .fdiv (.call "_law_drawn" [.var 7,.var 9]) (.cst (.int 4))])] τ')
  (fun done τ=>∃ rs s9',τ=[.val (.int k),.val s1,.val s2,.val s3,.val (.lst (bs.map Bt.t)),.val s5,.val b.t,.val (.int d),.own (rs.map Rl.raw),s9',s10]/\rs.length=done.length/\∀ r∈rs,r.ok/\r.asc/\r.fits (bs.map (·.nm)) b.cs)
  (List.range m) [.val (.int k),.val s1,.val s2,.val s3,.val (.lst (bs.map Bt.t)),.val s5,.val b.t,.val (.int d),.own [],s9,s10] ⟨[],s9,rfl,rfl,fun r h=>by cases h⟩ (by
   rintro done i rest hsp τ ⟨rs,s9',rfl,h1,h2⟩;obtain ⟨r,er,hro⟩:=zoc hd hp hr n hb hm (yak d i/4);have ed:=zbu hd (n+5) d i;have hdl:done.length<=3:=by have:=zze List.length hsp;simp at this;lia
   have hz:rs.length<16777216:=by lia
   refine ⟨[.val (.int k),.val s1,.val s2,.val s3,.val (.lst (bs.map Bt.t)),.val s5,.val b.t,.val (.int d),.own ((rs++[r]).map Rl.raw),.val (.int i),s10],?_,rs++[r],_,rfl,by simp [h1],fun q hq=>?_⟩
   .simp [yab,evS,evE,yac,ygm,yaf,yaj,yao,Sl.get,Sl.frz,yaz,yay,ya0,glo,SZ,ed,er,hz]
   .rcases oma hq with z | z
    .exact h2 q z
    .rw [omg z];exact hro)
 exact ⟨rs,s9',e,by rw [h1];simp,h2⟩
end
section
noncomputable def names4:List Str:=["item", "user", "box", "log"]
theorem zj3:∀ x∈names4,x.length<=6:=by decide +kernel
theorem zls:∀ x∈names4,yai x=true:=by decide +kernel
noncomputable def yfs:List Int:=[2,1,3,4,2,3]
noncomputable def yfq:List Int:=[1,2,0,1,3]
theorem zpp:∀ c∈yfs,1<=c/\c<=4:=by decide
theorem zpq:∀ c∈yfq,0<=c/\c<=3:=by decide
theorem zmu (k:Int):∃ i∈yfs,ybd [.int 2,.int 1,.int 3,.int 4,.int 2,.int 3] (k%6)=some (.int i):=by obtain ⟨c,hc,e⟩:=zbd (enc:=T.int) (cs:=yfs) (by simp [yfs]) k;exact ⟨c,hc,e⟩
theorem zmv (k:Int):∃ i∈yfq,ybd [.int 1,.int 2,.int 0,.int 1,.int 3] (k%5)=some (.int i):=by obtain ⟨c,hc,e⟩:=zbd (enc:=T.int) (cs:=yfq) (by simp [yfq]) k;exact ⟨c,hc,e⟩
theorem zfk {α β:Type} (f:α->β) (l:List α):(l.filterMap fun a=>some (f a))=l.map f:=by
 induction l with
 | nil=>rfl
 | cons a l ih=>simp [ih]
theorem zf3 (G:Glo) (elt:E) (n:Nat) (k:Ik) (src:List E) (cond:Option E) (r:Env):evE G (.comp elt n k src cond) r=(yac G src r).bind fun xs=>(yae k xs).bind fun qc =>
   (ya8 (fun x=>(bnd n x r).bind fun r'=>(evO G cond r').bind fun c=>match c with
    | none=>(evE G elt r').map some
    | some (.bl true)=>(evE G elt r').map some
    | some (.bl false)=>some none
    | some _=>none) qc).map .lst:=by rw [evE];try rfl
theorem ztp (G:Glo) (i:Nat) (r:Env):evE G (.var i) r=(r[i]?).join:=by rw [evE]
theorem zbk (G:Glo) (f:Bn) (a:E) (r:Env):evE G (.blt f a) r=(evE G a r).bind fun x=>ya3 f x:=by rw [evE]
theorem zh0 (q:Nat) (h:q<=3):items .range [.int (q:Int)]=some ((List.range q).map fun (i:Nat)=>T.int (i:Int)):=by simp only [items,ybi,Int.toNat_natCast];rw [if_pos (by lia)]
theorem zao {G:Glo} {is:List Nat} {k:Ik} {src:List E} {body:List S} {τ τ0:List Sl} {xs qc:List T} {o:Out} (h0:yaf (yao src) τ=τ0) (h1:yac G src (ygm τ0)=some xs) (h2:items k xs=some qc)
  (h3:yas (fun x τ=>(ya0 is x τ).bind fun τ'=>yab G body τ') qc τ0=some o):evS G (.loop is k src body) τ=some o:=by
 rw [evS,h0,h1,zyx,h2,zyx];exact h3
noncomputable def yek:List S:=[.asg 7 (.bin .fdiv (.call "_law_drawn" [.var 0,.bin .add (.cst (.int 20)) (.var 3)]) (.cst (.int 4))),
  .asg 8 (.lst []),
  .loop [9] .range [.idx (.tup [.cst (.int 1),.cst (.int 2),.cst (.int 0),.cst (.int 1),.cst (.int 3)]) (.bin .mod (.var 7) (.cst (.int 5)))] [.app 8 (.call "_law_rule" [.var 4,.var 6,.bin .fdiv (.call "_law_drawn" [.var 7,.var 9]) (.cst (.int 4))])],
  .asg 10 (.blt .toTuple (.comp (.bin .add (.tup [.idx (.var 0) (.cst (.int 0)),.blt .toTuple (.idx (.var 0) (.cst (.int 1)))]) (.sli (.var 0) (some (.cst (.int 2))) none)) 1 .plain [.var 8] none)),
  .asg 5 (.bin .add (.var 5) (.tup [.bin .add (.sli (.var 6) none (some (.cst (.int 3)))) (.tup [.var 10])]))]
set_option maxRecDepth 1000000 in
theorem zhl {P:Pr} (hd:P.fn "_law_drawn"=some zas) (hp:P.fn "_law_pairs"=some za3) (hr:P.fn "_law_rule"=some za0) (n:Nat)
  {bs:List Bt} (hbo:∀ b∈bs,b.ok) {b:Bt} (hbm:b∈bs) (k:Int) (s1:T) (s2:Int) (i:Nat) (S:List Tb) (hS:S.length<=4) (s7 s8 s9 s10:Sl) :
  ∃ (rs:List Rl) (s9':Sl),yab (glo P (run P (n+6))) yek [.val (.int k),.val s1,.val (.int s2),.val (.int (i:Int)),.val (.lst (bs.map Bt.t)),.val (.tup (S.map Tb.t)),.val b.t,s7,s8,s9,s10] =
   some (.nx [.val (.int k),.val s1,.val (.int s2),.val (.int (i:Int)),.val (.lst (bs.map Bt.t)),.val (.tup ((S++[(⟨b.nm,b.cs,b.key,rs⟩:Tb)]).map Tb.t)),.val b.t,.val (.int (yak k (20+i)/4)),.val (.lst (rs.map Rl.raw)),s9',.val (.tup (rs.map Rl.t))])/\rs.length<=3/\∀ r∈rs,r.ok/\r.asc/\r.fits (bs.map (·.nm)) b.cs:=by
 have e1:=zbu hd (n+5) k (20+i);obtain ⟨c,hc,ecn⟩:=zmv (yak k (20+i)/4);have hcm:=zpq c hc;obtain ⟨q,rfl⟩:∃ q:Nat,c=(q:Int):=⟨c.toNat,by lia⟩;have hq3:q<=3:=by lia
 obtain ⟨rs,s9',el,hrl,hro⟩:=zjx hd hp hr n hbo hbm k (yak k (20+i)/4) 0 s1 (.int s2) (.int (i:Int)) (.tup (S.map Tb.t)) q hq3 s9 s10;have hz1:rs.length<=16777216:=by lia
 have hz2:S.length+1<=16777216:=by lia
 refine ⟨rs,s9',?_,by lia,hro⟩;unfold yek;rw [zan (τ':=[.val (.int k),.val s1,.val (.int s2),.val (.int (i:Int)),.val (.lst (bs.map Bt.t)),.val (.tup (S.map Tb.t)),.val b.t,.val (.int (yak k (20+i)/4)),s8,s9,s10]) (by simp [evS,evE,yac,ygm,yaf,yaj,yao,Sl.get,Sl.frz,yaz,ya2,yay,yan,fresh,glo,SZ,e1])];rw [zan (τ':=[.val (.int k),.val s1,.val (.int s2),.val (.int (i:Int)),.val (.lst (bs.map Bt.t)),.val (.tup (S.map Tb.t)),.val b.t,.val (.int (yak k (20+i)/4)),.own [],s9,s10]) (by simp [evS,evE,yac,yaf,yaj,yao,yan,fresh])];rw [zan (s:=.loop _ _ _ _) (τ':=[.val (.int k),.val s1,.val (.int s2),.val (.int (i:Int)),.val (.lst (bs.map Bt.t)),.val (.tup (S.map Tb.t)),.val b.t,.val (.int (yak k (20+i)/4)),.own (rs.map Rl.raw),s9',s10]) (by refine zao (qc:=(List.range q).map fun (i:Nat)=>T.int (i:Int)) (xs:=[.int (q:Int)]) (τ0:=[.val (.int k),.val s1,.val (.int s2),.val (.int (i:Int)),.val (.lst (bs.map Bt.t)),.val (.tup (S.map Tb.t)),.val b.t,.val (.int (yak k (20+i)/4)),.own [],s9,s10]) (by simp [yao,yaj,yaf,Sl.frz]) ?_ (zh0 q hq3) el;simp [evE,yac,ygm,Sl.get,yaz,ybe,yah,ecn])];rw [zan (τ':=[.val (.int k),.val s1,.val (.int s2),.val (.int (i:Int)),.val (.lst (bs.map Bt.t)),.val (.tup (S.map Tb.t)),.val b.t,.val (.int (yak k (20+i)/4)),.val (.lst (rs.map Rl.raw)),s9',.val (.tup (rs.map Rl.t))]) (by
  simp only [evS,ygm,yaf,yaj,yao,yb9,List.append_nil,List.nil_append,List.cons_append,List.filterMap_cons,List.filterMap_nil,Nat.reduceLeDiff,if_false,List.modify_succ_cons,List.modify_zero_cons,Sl.frz,xmc,xmn,Sl.get];rw [zbk,zf3];simp only [yac,ztp,xgs,xgz,xjs,xbs,yae,items,List.length_map,SZ,hz1,if_true];rw [za4 (enc:=Rl.raw) (fun r=>some r.t) (fun r _=>by simp only [bnd,if_true,xbs,evO];rw [zk1];rfl),zfk];simp [yan,fresh,ya3])]
 simp [yab,evS,evE,yac,evO,ygm,yaf,yaj,yao,yb9,Sl.get,Sl.frz,yaz,ya2,yan,fresh,asI,ycc,SZ,Bt.t,ybf,cut,yc1,hz2,Tb.t]
theorem zhm {P:Pr} (hd:P.fn "_law_drawn"=some zas) (hp:P.fn "_law_pairs"=some za3) (hr:P.fn "_law_rule"=some za0)
  (hb:P.fn "_law_bare"=some za7) (h:P.fn "_law_schema"=some zby) (n:Nat) (k:Int) :
  ∃ S:List Tb,run P (n+7) "_law_schema" [.int k]=some (.tup (S.map Tb.t))/\S.length<=4/\(∀ b∈S,b.ok)/\0<S.length/\(S.map (·.nm)).Nodup/\∀ b∈S,b.rs.length<=3/\∀ r∈b.rs,r.fits (S.map (·.nm)) b.cs:=by
 rw [zav h rfl];obtain ⟨c,hc,ec⟩:=zmu (k/4);have hc':=zpp c hc;obtain ⟨m,rfl⟩:∃ m:Nat,c=(m:Int):=⟨c.toNat,by lia⟩;have hk0:0<=k%4:=uc5 _ (by decide);have hk1:k%4<4:=ub9 _ (by decide);obtain ⟨j,hj⟩:∃ j:Nat,k%4=(j:Int):=⟨(k%4).toNat,by lia⟩;have hjl:j<=(names4.map T.str).length:=by simp [names4];lia
 generalize hN:(yb4 names4 j).take m=N;have hNl:N.length<=4:=by rw [<- hN,List.length_take,zd3];simp [names4];lia
 have hNp:0<N.length:=by rw [<- hN,List.length_take,zd3];simp [names4];lia
 have hNs:∀ x∈N,x.length<=6:=fun x hx=>by rw [<- hN] at hx;exact zj3 x (zbr.mp (ub5 hx))
 have hNa:∀ x∈N,yai x=true:=fun x hx=>by rw [<- hN] at hx;exact zls x (zbr.mp (ub5 hx))
 unfold zby;dsimp only;rw [zan (τ':=[.val (.int k),.own (names4.map .str),.no,.no,.no,.no,.no,.no,.no,.no,.no]) (by simp [evS,evE,yac,yam,yaf,yaj,yao,yan,fresh,names4])];rw [zan (τ':=[.val (.int k),.own (names4.map .str),.val (.int (j:Int)),.no,.no,.no,.no,.no,.no,.no,.no]) (by simp [evS,evE,ygm,yaf,yaj,Sl.get,Sl.frz,yaz,ybe,yan,fresh,hj])];rw [zan (τ':=[.val (.int k),.val (.lst (N.map .str)),.val (.int (j:Int)),.no,.no,.no,.no,.no,.no,.no,.no]) (by
  have hz:(names4.map T.str).length-j+min j (names4.map T.str).length<=16777216:=by simp [names4];lia
  have hz':names4.length-j+min j names4.length<=16777216:=by simpa using hz
  simp only [evS,evE,yac,evO,ygm,yaf,yaj,yao,yb9,List.append_nil,List.nil_append,List.cons_append,List.modify_succ_cons,List.modify_zero_cons,Sl.frz,xmc,xmn,Sl.get,xgs,xgz,xjs,xbs,xms,asI,ycc,zd9 _ _ hjl,zjl _ _ hjl];simp [yaz,ya2,ybe,yay,yan,fresh,yah,SZ,hz',ec,zf9,yb4,<- hN])]
 generalize hB:(N.zipIdx 0).map (fun p=>mkB p.1 (yak k p.2/4))=bs;have hbl:bs.length=N.length:=by rw [<- hB];simp
 have hbo:∀ b∈bs,b.ok:=fun b hb'=>by
  rw [<- hB] at hb';obtain ⟨p,hp',rfl⟩:=omm hb';have hmm:p.1∈N:=by have:=List.mem_zipIdx' hp';rw [this.2];exact ua5 _
  exact zwd _ (hNs _ hmm) (hNa _ hmm) _
 rw [zan (τ':=[.val (.int k),.val (.lst (N.map .str)),.val (.int (j:Int)),.no,.val (.lst (bs.map Bt.t)),.no,.no,.no,.no,.no,.no]) (by
  have hz:N.length<=16777216:=by lia
  simp only [evS,evE,yac,evO,ygm,yaf,yaj,yao,yb9,List.append_nil,List.nil_append,List.cons_append,List.filterMap_cons,List.filterMap_nil,Nat.reduceLeDiff,if_true,if_false,Nat.reduceSub,List.modify_succ_cons,List.modify_zero_cons,Sl.frz,xmc,xmn,Sl.get,xgs,xgz,xjs,xbs,yae,items,zer,List.length_map,SZ,hz];rw [zdh T.str N 0,za4 (enc:=fun (p:Str × Nat)=>T.tup [.int (p.2:Int),.str p.1]) (fun p=>some (mkB p.1 (yak k p.2/4)).t) (fun p _=>by have e1:=zbu hd (n+5) k p.2;have e2:=zp2 hd hb (n+4) p.1 (yak k p.2/4);simp [bnd,yaz,yay,glo,e1,e2,mkB,Bt.t]),zfk];simp [yan,fresh,<- hB])]
 rw [zan (τ':=[.val (.int k),.val (.lst (N.map .str)),.val (.int (j:Int)),.no,.val (.lst (bs.map Bt.t)),.val (.tup []),.no,.no,.no,.no,.no]) (by simp [evS,evE,yac,yaf,yaj,yao,yan,fresh])];obtain ⟨τ',e,S,s3,s6,s7,s8,s9,s10,rfl,h1,h2,h3,h4⟩:=zak (enc:=fun (p:Bt × Nat)=>T.tup [.int (p.2:Int),p.1.t]) (f:=fun x τ=>(ya0 [3,6] x τ).bind fun τ'=>yab (glo P (run P (n+6))) yek τ')
  (fun done τ=>∃ (S:List Tb),∃ s3 s6 s7 s8 s9 s10,τ=[.val (.int k),.val (.lst (N.map .str)),.val (.int (j:Int)),s3,.val (.lst (bs.map Bt.t)),.val (.tup (S.map Tb.t)),s6,s7,s8,s9,s10]/\S.length=done.length/\(∀ b∈S,b.ok)/\S.map (·.nm)=done.map (·.1.nm)/\∀ b∈S,b.rs.length<=3/\∀ r∈b.rs,r.fits (bs.map (·.nm)) b.cs)
  (bs.zipIdx 0) [.val (.int k),.val (.lst (N.map .str)),.val (.int (j:Int)),.no,.val (.lst (bs.map Bt.t)),.val (.tup []),.no,.no,.no,.no,.no] ⟨[],_,_,_,_,_,_,rfl,rfl,(fun b hb'=>by cases hb'),rfl,fun b hb'=>by cases hb'⟩ (by
   rintro done ⟨b,i⟩ rest hsp τ ⟨S,s3,s6,s7,s8,s9,s10,rfl,h1,h2,h3,h4⟩;have hbm:b∈bs:=by
    have:(b,i)∈bs.zipIdx 0:=by rw [hsp];simp
    have:=List.mem_zipIdx' this;rw [this.2];exact ua5 _
   have hdl:done.length<=4:=by have:=zze List.length hsp;simp at this;lia
   obtain ⟨rs,s9',est,hrl,hro⟩:=zhl hd hp hr n hbo hbm k (.lst (N.map .str)) (j:Int) i S (by lia) s7 s8 s9 s10;refine ⟨[.val (.int k),.val (.lst (N.map .str)),.val (.int (j:Int)),.val (.int (i:Int)),.val (.lst (bs.map Bt.t)),.val (.tup ((S++[(⟨b.nm,b.cs,b.key,rs⟩:Tb)]).map Tb.t)),.val b.t,.val (.int (yak k (20+i)/4)),.val (.lst (rs.map Rl.raw)),s9',.val (.tup (rs.map Rl.t))],?_,S++[(⟨b.nm,b.cs,b.key,rs⟩:Tb)],_,_,_,_,_,_,rfl,by simp [h1],fun x hx=>?_,by simp [h3],fun x hx=>?_⟩
   .simp only [ya0,setAll,xbs,xss,xsz];exact est
   .rcases oma hx with z | z
    .exact h2 x z
    .rw [omg z];have bo:=hbo b hbm;exact ⟨bo.nm,bo.cs.2.1,bo.cs.2.2,bo.k1,bo.ks,by show rs.length<=4;lia,fun r hr=>(hro r hr).1,bo.kn,bo.cs.1,bo.nd,bo.kk,bo.as,bo.na,bo.inn,fun r hr=>(hro r hr).2.1,bo.kg⟩
   .rcases oma hx with z | z
    .exact h4 x z
    .rw [omg z];exact ⟨by show rs.length<=3;lia,fun r hr=>(hro r hr).2.2⟩)
 rw [zan (s:=.loop _ _ _ _) (τ':=[.val (.int k),.val (.lst (N.map .str)),.val (.int (j:Int)),s3,.val (.lst (bs.map Bt.t)),.val (.tup (S.map Tb.t)),s6,s7,s8,s9,s10]) (by rw [evS];simp only [yao,yaj,List.append_nil,yaf,yac,evE,ygm,List.modify_succ_cons,List.modify_zero_cons,xmc,Sl.get,Sl.frz,xmn];simp only [xgs,xgz,xjs,xbs,items,zdh];exact e)];refine ⟨S,by simp [yab,evS,evE,ygm,yaf,yaj,Sl.get,Sl.frz,zad],by rw [h1];simp;lia,h2,by rw [h1];simp;lia,?_,?_⟩
 .have e1:(bs.zipIdx 0).map (·.1.nm)=N:=by
   have z:(bs.zipIdx 0).map (·.1.nm)=((bs.zipIdx 0).map Prod.fst).map (·.nm):=by rw [zzn];rfl
   rw [z,List.zipIdx_map_fst,<- hB,zzn];have y:(N.zipIdx 0).map ((·.nm)∘fun p=>mkB p.1 (yak k p.2/4))=(N.zipIdx 0).map Prod.fst:=rfl;rw [y,List.zipIdx_map_fst]
  rw [h3,e1,<- hN];have all:∀ j:Fin 4,∀ m:Fin 5,((yb4 names4 j.val).take m.val).Nodup:=by decide +kernel
  exact all ⟨j,by lia⟩ ⟨m,by lia⟩
 .have e2:S.map (·.nm)=bs.map (·.nm):=by
   have z:(bs.zipIdx 0).map (·.1.nm)=((bs.zipIdx 0).map Prod.fst).map (·.nm):=by rw [zzn];rfl
   rw [h3,z,List.zipIdx_map_fst]
  rw [e2];exact h4
end
section
noncomputable def Wok (c:Col) (w:T):Prop:=w=.non\/((c.k==("text":Str))=true/\∃ x,w=.str x)\/((c.k==("text":Str))=false/\∃ i,w=.int i)
noncomputable def yfh:List Str:=["a", "b", "", "ab", "a", "x9"]
noncomputable def ye7:List Int:=[0,1,2,3,1,2,4,-5]
theorem zgx (k:Int):∃ x,ybd [.str "a",.str "b",.str "",.str "ab",.str "a",.str "x9"] (k%6)=some (.str x):=by obtain ⟨c,_,e⟩:=zbd (enc:=T.str) (cs:=yfh) (by simp [yfh]) k;exact ⟨c,e⟩
theorem zgy (k:Int):∃ x,ybd [.int 0,.int 1,.int 2,.int 3,.int 1,.int 2,.int 4,.int (-5)] (k%8)=some (.int x):=by obtain ⟨c,_,e⟩:=zbd (enc:=T.int) (cs:=ye7) (by simp [ye7]) k;exact ⟨c,e⟩
theorem zgc {P:Pr} (h:P.fn "_law_worth"=some zal) (n:Nat) (c:Col) (k:Int):∃ w,run P (n+1) "_law_worth" [c.t,.int k]=some w/\Wok c w:=by
 rw [zav h rfl];obtain ⟨x,ex⟩:=zgx (k/4);obtain ⟨i,ei⟩:=zgy (k/4);cases hg:c.g with
 | true =>
  cases h4:(k%4==0) with
  | true=>exact ⟨.non,by simp [zal,yab,evS,evE,yac,yam,ygm,yaf,yaj,yao,Sl.get,Sl.frz,yaz,ybe,yay,zad,yau,yah,ycn,glo,Col.t,ya5,hg,h4,eqC,dpP,eqT],.inl rfl⟩
  | false =>
   cases ht:(c.k==("text":Str)) with
   | true=>exact ⟨.str x,by simp [zal,yab,evS,evE,yac,yam,ygm,yaf,yaj,yao,Sl.get,Sl.frz,yaz,ybe,yay,zad,yau,yah,ycn,glo,Col.t,yaw,ya5,hg,h4,eqC,dpP,eqT,ht,ex],.inr (.inl ⟨ht,x,rfl⟩)⟩
   | false=>exact ⟨.int i,by simp [zal,yab,evS,evE,yac,yam,ygm,yaf,yaj,yao,Sl.get,Sl.frz,yaz,ybe,yay,zad,yau,yah,ycn,glo,Col.t,yaw,ya5,hg,h4,eqC,dpP,eqT,ht,ei],.inr (.inr ⟨ht,i,rfl⟩)⟩
 | false =>
  cases ht:(c.k==("text":Str)) with
  | true=>exact ⟨.str x,by simp [zal,yab,evS,evE,yac,yam,ygm,yaf,yaj,yao,Sl.get,Sl.frz,yaz,ybe,yay,zad,yau,yah,ycn,glo,Col.t,yaw,ya5,hg,eqC,dpP,eqT,ht,ex],.inr (.inl ⟨ht,x,rfl⟩)⟩
  | false=>exact ⟨.int i,by simp [zal,yab,evS,evE,yac,yam,ygm,yaf,yaj,yao,Sl.get,Sl.frz,yaz,ybe,yay,zad,yau,yah,ycn,glo,Col.t,yaw,ya5,hg,eqC,dpP,eqT,ht,ei],.inr (.inr ⟨ht,i,rfl⟩)⟩
theorem zaq (G:Glo) (elt:E) (n:Nat) (k:Ik) (src:List E) (r:Env):evE G (.comp elt n k src none) r=(yac G src r).bind fun xs=>(yae k xs).bind fun qc =>
   (ya8 (fun x=>(bnd n x r).bind fun r'=>(evE G elt r').map some) qc).map .lst:=by
 rw [zf3];simp only [evO,xbs]
noncomputable def nmT (p:Col × T):T:=.str p.1.n
theorem zis:∀ {ps:List (Col × T)} {p:Col × T},p∈ps->(ps.map (·.1.n)).Nodup->∃ i:Nat,zbh (.str p.1.n) (ps.map nmT)=some i/\(ps.map (·.2))[i]?=some p.2
 | [],_,h,_=>by cases h
 | q::ps,p,h,hn=>by
  rw [zy1,ua6] at hn;by_cases hq:q.1.n=p.1.n
  .have:q=p:=by
    rcases omc h with e | hp
    .exact e.symm
    .exact absurd (ua0.mpr ⟨p,hp,hq.symm⟩) hn.1
   subst this;refine ⟨0,?_,rfl⟩;simp [zbh,nmT,eqT]
  .rcases omc h with e | hp
   .exact absurd (by rw [e]) hq
   .obtain ⟨i,e1,e2⟩:=zis hp hn.2;refine ⟨i+1,?_,by simpa using e2⟩;have hb:(q.1.n==p.1.n)=false:=by simpa using hq
    simp [zbh,nmT,eqT,hb];simpa [nmT] using e1
theorem zs6:∀ ps:List (Col × T),(ps.map nmT).all flat=true
 | []=>rfl
 | p::ps=>by simp [nmT,flat]
theorem zjq {ps:List (Col × T)} {p:Col × T} (h:p∈ps) (hn:(ps.map (·.1.n)).Nodup):∃ i:Int,ybj .index (.lst (ps.map nmT)) (.str p.1.n)=some (.int i)/\ybd (ps.map (·.2)) i=some p.2:=by obtain ⟨i,e1,e2⟩:=zis h hn;refine ⟨(i:Int),?_,zbj e2⟩;simp only [ybj];rw [if_pos (by rw [zs6];rfl),e1];rfl
theorem zaf {α:Type} {enc:α->T} {f:T->Option (Option T)} (g:α->T) {l:List α} (h:∀ a∈l,f (enc a)=some (some (g a))):ya8 f (l.map enc)=some (l.map g):=by rw [za4 (fun a=>some (g a)) h,zfk]
noncomputable def yff (nm:T) (ps:List (Col × T)) (key rules:T):T:=yco nm (ps.map (·.1)) key rules
theorem zei {P:Pr} (h:P.fn "_law_names"=some zbm) (n:Nat) (ps:List (Col × T)) (hl:ps.length<=4) (nm key rules:T):run P (n+1) "_law_names" [yff nm ps key rules]=some (.lst (ps.map nmT)):=by
 rw [zav h rfl];have hl':ps.length<=16777216:=by lia
 have e:=zaf (enc:=fun p:Col × T=>p.1.t) (f:=fun x=>(yah x (.int 0)).map some) nmT (l:=ps) (fun p _=>by simp [Col.t,yah,yaq,nmT]);simp [zbm,yab,evS,evE,yac,evO,yam,ygm,yaf,yaj,yao,yb9,Sl.get,Sl.frz,zad,yah,items,yae,bnd,glo,SZ,yff,yco,yaw,hl',Function.comp_def] at e ⊢;simp [e]
end
section
noncomputable def val (ps:List (Col × T)) (x:Str):T:=match ps.find? (fun p=>p.1.n==x) with | some p=>p.2 | none=>.non
theorem ze0:∀ {ps:List (Col × T)} {p:Col × T},p∈ps->(ps.map (·.1.n)).Nodup->val ps p.1.n=p.2
 | [],_,h,_=>by cases h
 | q::ps,p,h,hn=>by
  rw [zy1,ua6] at hn;by_cases hq:q.1.n=p.1.n
  .have:q=p:=by
    rcases omc h with e | hp
    .exact e.symm
    .exact absurd (ua0.mpr ⟨p,hp,hq.symm⟩) hn.1
   subst this;simp [val]
  .rcases omc h with e | hp
   .exact absurd (by rw [e]) hq
   .have e:=ze0 hp hn.2;have hb:(q.1.n==p.1.n)=false:=by simpa using hq
    unfold val at e ⊢;rw [List.find?_cons,hb];exact e
noncomputable def ybz:T->Bool
 | .non=>true
 | _=>false
noncomputable def ltV:T->T->Bool
 | .int a,.int b=>decide (a<b)
 | .str a,.str b=>decide (a.cps.toList<b.cps.toList)
 | _,_=>false
noncomputable def and3:Option Bool->Option Bool->Option Bool
 | some false,_=>some false
 | none,some false=>some false
 | none,_=>none
 | some true,b=>b
noncomputable def or3:Option Bool->Option Bool->Option Bool
 | some true,_=>some true
 | none,some true=>some true
 | none,_=>none
 | some false,b=>b
noncomputable def hv (ps:List (Col × T)):Tst->Option Bool
 | .emp c=>some (ybz (val ps c))
 | .bel a b=>if ybz (val ps a)||ybz (val ps b) then none else some (ltV (val ps a) (val ps b))
 | .isI c i=>if ybz (val ps c) then none else some (eqT (val ps c) (.int i))
 | .isS c x=>if ybz (val ps c) then none else some (eqT (val ps c) (.str x))
 | .neg t=>(hv ps t).map not
 | .cnj a b=>and3 (hv ps a) (hv ps b)
 | .dsj a b=>or3 (hv ps a) (hv ps b)
theorem eqs (a b:Str):eqC (.str a) (.str b)=some (.bl (a==b)):=rfl
theorem Wok.flat {c:Col} {w:T} (h:Wok c w):Ev.flat w=true:=by rcases h with rfl | ⟨_,x,rfl⟩ | ⟨_,x,rfl⟩<;>rfl
section
variable {G:Glo} {X tt R:T} {w:Str}
end
end
section
variable {P:Pr} {c:Col} {b:Tb} {ps:List (Col × T)}
noncomputable def Sml:T->Prop
 | .non=>True
 | .str x=>x.length<=2/\yai x=true
 | .int i => -9<=i/\i<=9
 | _=>False
theorem zrw:∀ x∈yfh,Sml (.str x):=by unfold Sml;decide +kernel
theorem zrx:∀ i∈ye7,Sml (.int i):=by unfold Sml;decide +kernel
theorem zkj (h:P.fn "_law_worth"=some zal) (n:Nat) (c:Col) (k:Int):∃ w,run P (n+1) "_law_worth" [c.t,.int k]=some w/\Sml w:=by
 rw [zav h rfl];obtain ⟨x,hx,ex⟩:=zbd (enc:=T.str) (cs:=yfh) (by simp [yfh]) (k/4);obtain ⟨i,hi,ei⟩:=zbd (enc:=T.int) (cs:=ye7) (by simp [ye7]) (k/4);have ex:ybd [.str "a",.str "b",.str "",.str "ab",.str "a",.str "x9"] (k/4%6)=some (.str x):=ex;have ei:ybd [.int 0,.int 1,.int 2,.int 3,.int 1,.int 2,.int 4,.int (-5)] (k/4%8)=some (.int i):=ei;have last:∃ w,zad (yab (glo P (run P n)) (zal.body.drop 1) [.val c.t,.val (.int k)])=some w/\Sml w:=by
  cases ht:(c.k==("text":Str)) with
  | true=>exact ⟨.str x,by simp [zal,yab,evS,evE,yac,ygm,yaf,yaj,yao,Sl.get,Sl.frz,yaz,ybe,yay,zad,yau,yah,glo,Col.t,yaw,eqC,dpP,eqT,ht,ex],zrw x hx⟩
  | false=>exact ⟨.int i,by simp [zal,yab,evS,evE,yac,ygm,yaf,yaj,yao,Sl.get,Sl.frz,yaz,ybe,yay,zad,yau,yah,glo,Col.t,yaw,eqC,dpP,eqT,ht,ei],zrx i hi⟩
 cases hg:(c.g&&(k%4==0)) with
 | true =>rw [zy7] at hg;exact ⟨.non,by simp [zal,yab,evS,evE,yac,yam,ygm,yaf,yaj,yao,Sl.get,Sl.frz,yaz,ybe,yay,zad,yau,yah,ycn,glo,Col.t,ya5,hg.1,hg.2,eqC,dpP,eqT],trivial⟩
 | false =>
  obtain ⟨w,e,hw⟩:=last;refine ⟨w,?_,hw⟩;rw [<- e];refine zze zad (zau rfl ?_);cases h1:c.g with
  | false=>simp [evE,yam,ygm,Sl.get,yaz,ybe,yau,yah,ycn,Col.t,ya5,h1]
  | true =>rw [h1,Bool.true_and] at hg;simp [evE,yam,ygm,Sl.get,yaz,ybe,yau,yah,ycn,Col.t,ya5,h1,eqC,dpP,eqT,hg]
structure RowOk (b:Tb) (ps:List (Col × T)):Prop where
 cs:ps.map (·.1)=b.cs
 wk:∀ p∈ps,Wok p.1 p.2
 ng:∀ p∈ps,p.1.g=false->p.2≠.non
 sm:∀ p∈ps,Sml p.2
noncomputable def yag (ps:List (Col × T)):T:=.tup (ps.map (·.2))
noncomputable def kk (t:T):Kt:=(yep t).getD (.inl 0)
noncomputable def ya1 (b:Tb) (ps:List (Col × T)):List Kt:=b.key.map fun x=>kk (val ps x)
theorem zte {w:T} (h:Wok c w):yep w=some (kk w)/\kT (kk w)=w:=by rcases h with rfl | ⟨_,x,rfl⟩ | ⟨_,i,rfl⟩<;>exact ⟨rfl,rfl⟩
theorem ztd {w u:T} (h1:Wok c w) (h2:Wok c u) (n1:w≠.non) (n2:u≠.non):yce (kk w) (kk u)=true:=by
 rcases h1 with rfl | ⟨e1,x,rfl⟩ | ⟨e1,i,rfl⟩
 .exact absurd rfl n1
 .rcases h2 with rfl | ⟨e2,y,rfl⟩ | ⟨e2,j,rfl⟩
  .exact absurd rfl n2
  .rfl
  .rw [e1] at e2;cases e2
 .rcases h2 with rfl | ⟨e2,y,rfl⟩ | ⟨e2,j,rfl⟩
  .exact absurd rfl n2
  .rw [e1] at e2;cases e2
  .rfl
theorem zkk (h:P.fn "_law_worth"=some zal) (n:Nat) (c:Col) (k:Int) (hg:c.g=false):∃ w,run P (n+1) "_law_worth" [c.t,.int k]=some w/\w≠.non:=by
 rw [zav h rfl];obtain ⟨x,ex⟩:=zgx (k/4);obtain ⟨i,ei⟩:=zgy (k/4);cases ht:(c.k==("text":Str)) with
 | true=>exact ⟨.str x,by simp [zal,yab,evS,evE,yac,yam,ygm,yaf,yaj,yao,Sl.get,Sl.frz,yaz,ybe,yay,zad,yau,yah,ycn,glo,Col.t,yaw,ya5,hg,eqC,dpP,eqT,ht,ex],by simp⟩
 | false=>exact ⟨.int i,by simp [zal,yab,evS,evE,yac,yam,ygm,yaf,yaj,yao,Sl.get,Sl.frz,yaz,ybe,yay,zad,yau,yah,ycn,glo,Col.t,yaw,ya5,hg,eqC,dpP,eqT,ht,ei],by simp⟩
theorem zg5 {Q:Col->T->Prop} {f:T->Option (Option T)}:∀ (cs:List Col) (i:Nat),(∀ c∈cs,∀ j:Nat,∃ w,f (.tup [.int (j:Int),c.t])=some (some w)/\Q c w) ->
  ∃ ps:List (Col × T),ps.map (·.1)=cs/\ya8 f (ya6 (cs.map Col.t) i)=some (ps.map (·.2))/\∀ p∈ps,Q p.1 p.2
 | [],_,_=>⟨[],rfl,rfl,fun p h=>by cases h⟩
 | c::cs,i,h=>by
  obtain ⟨w,e,hw⟩:=h c zzg i;obtain ⟨ps,e1,e2,h2⟩:=zg5 cs (i+1) fun c hc=>h c (zzc _ hc);refine ⟨(c,w)::ps,by simp [e1],?_,fun p hp=>?_⟩
  .simp only [xmc,ya6,ya8,e,e2,xbs]
  .rcases omc hp with rfl | hp
   .exact hw
   .exact h2 p hp
theorem zk2 (hd:P.fn "_law_drawn"=some zas) (hw:P.fn "_law_worth"=some zal) (h:P.fn "_law_row"=some zet) (n:Nat) (hb:b.ok) (k:Int) :
  ∃ ps,run P (n+2) "_law_row" [b.t,.int k]=some (yag ps)/\RowOk b ps:=by
 rw [zav h rfl];have hl:b.cs.length<=16777216:=by have:=hb.cl;lia
 obtain ⟨ps,e1,e2,h2⟩:=zg5 (Q:=fun c w=>Wok c w/\(c.g=false->w≠.non)/\Sml w) (f:=fun x=>(bnd 2 x (ygm [Sl.val b.t,Sl.val (.int k)])).bind fun r'=>(evE (glo P (run P (n+1))) (.call "_law_worth" [.var 1,.bin .fdiv (.call "_law_drawn" [.var 3,.var 0]) (.cst (.int 4))]) r').map some) b.cs 0 (fun c _ j=>by
  have e1:=zbu hd n k (j:Int);obtain ⟨w,e2,hw'⟩:=zgc hw n c (yak k (j:Int)/4);obtain ⟨w2,e4,hs⟩:=zkj hw n c (yak k (j:Int)/4);rw [e2] at e4;cases e4;refine ⟨w,?_,hw',fun hg=>?_,hs⟩
  .simp [bnd,evE,yac,ygm,Sl.get,glo,e1,e2,yaz,yay]
  .obtain ⟨u,e3,hu⟩:=zkk hw n c (yak k (j:Int)/4) hg;rw [e2] at e3;cases e3;exact hu)
 refine ⟨ps,?_,e1,fun p hp=>(h2 p hp).1,fun p hp=>(h2 p hp).2.1,fun p hp=>(h2 p hp).2.2⟩;show zad (yab (glo P (run P (n+1))) zdv [Sl.val b.t,Sl.val (.int k)])=_;unfold zdv;rw [za8 (t:=yag ps) rfl (by
  rw [zbk,zaq];have s1:yac (glo P (run P (n+1))) [.idx (.var 0) (.cst (.int 1))] (ygm [Sl.val b.t,Sl.val (.int k)])=some [.tup (b.cs.map Col.t)]:=by simp [yac,evE,ygm,Sl.get,yah,Tb.t,ybf,yaw]
  have s2:yae .enum [.tup (b.cs.map Col.t)]=some (ya6 (b.cs.map Col.t) 0):=by simp [yae,items,zer,hl]
  rw [s1,zyx,s2,zyx,e2];rfl)]
 rfl
theorem zfv {ps:List (Col × T)}:∀ {ks:List Str},(∀ k∈ks,∃ p∈ps,p.1.n=k)->∃ qs:List (Col × T),qs.map nmT=ks.map .str/\qs.map (·.1.n)=ks/\(∀ q∈qs,q∈ps)/\qs.length=ks.length
 | [],_=>⟨[],rfl,rfl,fun q h=>absurd h (by simp),rfl⟩
 | k::ks,h=>by
  obtain ⟨p,hp,e⟩:=h k zzg;obtain ⟨qs,e1,e0,e2,e3⟩:=zfv fun k hk=>h k (zzc _ hk);refine ⟨p::qs,by simp [nmT,e,e1],by simp [e,e0],fun q hq=>?_,by simp [e3]⟩;rcases omc hq with rfl | hq
  .exact hp
  .exact e2 q hq
theorem RowOk.col (h:RowOk b ps) (hc:c∈b.cs):∃ p∈ps,p.1=c:=by rw [<- h.cs] at hc;obtain ⟨p,hp,e⟩:=omm hc;exact ⟨p,hp,e⟩
theorem RowOk.nd {b:Tb} {ps:List (Col × T)} (h:RowOk b ps) (hb:b.ok):(ps.map (·.1.n)).Nodup:=by have:=hb.nd;rw [<- h.cs,zzn] at this;exact this
theorem RowOk.len (h:RowOk b ps) (hb:b.ok):ps.length<=4:=by have:=zze List.length h.cs;rw [zy3] at this;rw [this];exact hb.cl
theorem RowOk.tab (h:RowOk b ps):b.t=yff (.str b.nm) ps (.tup (b.key.map .str)) (.tup (b.rs.map Rl.t)):=by rw [yff,h.cs];rfl
theorem zo6 (hn:P.fn "_law_names"=some zbm) (h:P.fn "_law_key"=some zcn) (n:Nat) (hb:b.ok) (hp:RowOk b ps):run P (n+2) "_law_key" [b.t,yag ps]=some (tkT (ya1 b ps)):=by
 have hl:=hp.len hb;have hnd:=hp.nd hb;obtain ⟨qs,q1,q0,q2,q3⟩:=zfv (ps:=ps) (ks:=b.key) fun x hx=>by obtain ⟨c,hc,e⟩:=hb.inn x hx;obtain ⟨p,hp',rfl⟩:=hp.col hc;exact ⟨p,hp',e⟩
 have hz:qs.length<=16777216:=by have:=hb.k1;lia
 rw [zav h rfl];show zad (yab (glo P (run P (n+1))) zcn.body [.val b.t,.val (yag ps)])=_;have i2:yah b.t (.int 2)=some (.tup (qs.map nmT)):=by rw [q1,Tb.t,ybf,yah,ya5]
 have cn:(glo P (run P (n+1))).call "_law_names" [b.t]=some (.lst (ps.map nmT)):=by rw [hp.tab];exact zei hn n ps hl _ _ _
 have ek:ya1 b ps=qs.map fun q=>kk q.2:=by unfold ya1;rw [<- q0,zzn];exact ua7 fun q hq=>by show kk (val ps q.1.n)=kk q.2;rw [ze0 (q2 q hq) hnd]
 have et:tkT (ya1 b ps)=.tup (qs.map (·.2)):=by unfold tkT;rw [ek,zzn];exact zze T.tup (ua7 fun q hq=>(zte (hp.wk q (q2 q hq))).2)
 rw [et];generalize b.t=X at *;unfold zcn;dsimp only;rw [za8 (t:=.tup (qs.map (·.2))) rfl (by
  rw [zbk,zaq];have s1:yac (glo P (run P (n+1))) [.idx (.var 0) (.cst (.int 2))] (ygm [Sl.val X,Sl.val (yag ps)])=some [.tup (qs.map nmT)]:=by simp [yac,evE,ygm,Sl.get,i2]
  have s2:yae .plain [.tup (qs.map nmT)]=some (qs.map nmT):=by simp [yae,items,hz]
  rw [s1,zyx,s2,zyx,zaf (fun q=>q.2) fun q hq'=>by obtain ⟨i,e1,e2⟩:=zjq (q2 q hq') hnd;simp only [bnd,if_true,xbs,evE,yac,ygm,Sl.get,xmc,xmn,xgs,xgz,xjs,cn];rw [show nmT q=.str q.1.n from rfl,e1];simp only [xbs,yag,yah,e2,xms]];rfl)]
 rfl
theorem zkf (hb:b.ok) {qs:List (Col × T)} (hp:RowOk b ps) (hq:RowOk b qs):Ev.alike (ya1 b ps) (ya1 b qs)=true:=by
 have:∀ ks:List Str,(∀ x∈ks,∃ c∈b.cs,c.n=x/\c.g=false)->Ev.alike (ks.map fun x=>kk (val ps x)) (ks.map fun x=>kk (val qs x))=true:=by
  intro ks
  induction ks with
  | nil=>intro _;rfl
  | cons x ks ih =>
   intro h;obtain ⟨c,hc,e,hg⟩:=h x zzg;obtain ⟨p,hp1,hp2⟩:=hp.col hc;obtain ⟨q,hq1,hq2⟩:=hq.col hc;have v1:val ps x=p.2:=by rw [<- e,<- hp2];exact ze0 hp1 (hp.nd hb)
   have v2:val qs x=q.2:=by rw [<- e,<- hq2];exact ze0 hq1 (hq.nd hb)
   rw [zy1,zy1,Ev.alike,zy7,v1,v2];have w1:=hp.wk p hp1;have w2:=hq.wk q hq1;rw [hp2] at w1;rw [hq2] at w2;exact ⟨ztd w1 w2 (hp.ng p hp1 (by rw [hp2];exact hg)) (hq.ng q hq1 (by rw [hq2];exact hg)),ih fun y hy=>h y (zzc _ hy)⟩
 exact this b.key hb.kg
theorem zws (hb:b.ok) (ps:List (Col × T)):ya1 b ps≠[]:=by unfold ya1;intro e;exact hb.kn (List.map_eq_nil_iff.mp e)
theorem zfu:∀ ks:List Kt,yck (ks.map kT)=some ks
 | []=>rfl
 | k::ks=>by rw [zy1,yck,zfu ks];rcases k with _ | _ | _<;>rfl
end
section
variable {qb:List (List Kt × T)} {k:List Kt}
theorem zr7 {v:T} {p:List Kt × T} (h:p∈yb3 qb k v):p∈qb\/p=(k,v):=by
 unfold yb3 at h;split at h
 .obtain ⟨q,hq,rfl⟩:=omm h;by_cases e:q.1=k
  .rw [if_pos e,e];exact .inr rfl
  .rw [if_neg e];exact .inl hq
 .rcases oma h with h | h
  .exact .inl h
  .exact .inr (omg h)
theorem zu2 {v:T} (h:(qb.map (·.1)).Nodup):((yb3 qb k v).map (·.1)).Nodup:=by
 unfold yb3;split
 .rw [zzn];have:(qb.map ((·.1)∘fun kv=>if kv.1=k then (kv.1,v) else kv))=qb.map (·.1):=ua7 fun q _=>by show (if q.1=k then (q.1,v) else q).1=q.1;split<;>rfl
  rw [this];exact h
 .rename_i hn;rw [zzq];refine List.nodup_append.mpr ⟨h,by simp,fun a ha c hc e=>?_⟩;have hc:c=k:=omg hc;subst hc;subst e;obtain ⟨q,hq,rfl⟩:=omm ha;exact hn (List.any_eq_true.mpr ⟨q,hq,by simp⟩)
theorem zr8 {v:T}:(yb3 qb k v).length<=qb.length+1:=by
 unfold yb3;split
 .rw [zy3];lia
 .rw [ud5];simp
theorem zl4:∀ {qb:List (List Kt × T)} {k:List Kt},k∈qb.map (·.1)->∃ v,ycr (qb.map (·.1)) (qb.map (·.2)) k=some v/\(k,v)∈qb
 | p::qb,k,h=>by
  rw [zy1,zy1,ycr];by_cases e:p.1=k
  .rw [if_pos e,<- e];exact ⟨p.2,rfl,zzg⟩
  .rw [if_neg e];obtain ⟨v,h1,h2⟩:=zl4 (qb:=qb) ((omc h).resolve_left fun z=>e z.symm);exact ⟨v,h1,zzc _ h2⟩
structure Book (b:Tb) (qb:List (List Kt × T)):Prop where
 nd:(qb.map (·.1)).Nodup
 rw:∀ p∈qb,∃ ps,RowOk b ps/\p=(ya1 b ps,yag ps)
theorem Book.srt {b:Tb} (hb:b.ok) (h:Book b qb) (h5:qb.length<=60):ya3 .sorted (.dt (qb.map (·.1)) (qb.map (·.2)))=some (.lst ((yav (qb.map (·.1))).map tkT)):=by
 show yd4 (qb.map (·.1))=_;unfold yd4 yd2;rw [if_pos]
 .rfl
 .refine ⟨by rw [zy3];lia,h.nd,uc0.mpr fun x hx=>?_⟩;obtain ⟨q,hq,rfl⟩:=omm hx;obtain ⟨ps,h1,rfl⟩:=h.rw q hq;rw [zy7];constructor
  .cases e:ya1 b ps with
   | nil=>exact absurd e (zws hb ps)
   | cons _ _=>rfl
  .refine uc0.mpr fun y hy=>?_;obtain ⟨q',hq',rfl⟩:=omm hy;obtain ⟨ps',h2,rfl⟩:=h.rw q' hq';exact zkf hb h1 h2
theorem Book.get {b:Tb} (h:Book b qb) (hk:k∈yav (qb.map (·.1))):∃ w,yah (.dt (qb.map (·.1)) (qb.map (·.2))) (tkT k)=some w/\∃ ps,RowOk b ps/\w=yag ps/\ya1 b ps=k:=by have hk:=zbi.mp hk;obtain ⟨v,h1,h2⟩:=zl4 hk;obtain ⟨ps,h3,e⟩:=h.rw _ h2;injection e with e1 e2;refine ⟨v,?_,ps,h3,e2,e1.symm⟩;show (yck (k.map kT)).bind _=_;rw [zfu];exact h1
theorem zag (G:Glo) (o:Bo) (a b:E) (r:Env):evE G (.bin o a b) r=(evE G a r).bind fun x=>(evE G b r).bind fun y=>yaz o x y:=by rw [evE]
end
section
abbrev Zt:=Tb × List (List (Col × T))
noncomputable def yaa (Z:List Zt):T:=.tup (Z.map fun z=>z.1.t)
noncomputable def rwT (z:Zt):T:=.tup (z.2.map yag)
noncomputable def stT (Z:List Zt):T:=.tup (Z.map rwT)
theorem zrb:∀ Z:List Zt,yb7 (Z.map fun z=>z.1.t) (Z.map rwT)=Z.map fun z=>.tup [z.1.t,rwT z]
 | []=>rfl
 | z::Z=>by rw [zy1,zy1,zy1,yb7,zrb Z]
theorem t0 (b:Tb):yah b.t (.int 0)=some (.str b.nm):=by rw [Tb.t,ybf,yah,yaq]
theorem t1 (b:Tb):yah b.t (.int 1)=some (.tup (b.cs.map Col.t)):=by rw [Tb.t,ybf,yah,yaw]
theorem zd7 (G:Glo) (a b:E) (r:Env):evE G (.idx a b) r=(evE G a r).bind fun x=>(evE G b r).bind fun y=>yah x y:=by rw [evE]
theorem zf2 (G:Glo) (m:Mt) (a b:E) (r:Env):evE G (.mth m a b) r=(evE G a r).bind fun x=>(evE G b r).bind fun y=>ybj m x y:=by rw [evE]
theorem zlh {z:Zt}:∀ {Z:List Zt},z∈Z->(Z.map (·.1.nm)).Nodup->∃ i:Nat,zbh (.str z.1.nm) (Z.map fun z=>T.str z.1.nm)=some i/\(Z.map rwT)[i]?=some (rwT z)
 | y::Z,h,nd=>by
  rw [zy1] at nd;obtain ⟨n1,n2⟩:=ua6.mp nd;rw [zy1,zbh];by_cases e:y.1.nm=z.1.nm
  .rcases omc h with rfl | h
   .exact ⟨0,by simp [eqT],rfl⟩
   .exact absurd (ua0.mpr ⟨z,h,e.symm⟩) n1
  .rcases omc h with rfl | h
   .exact absurd rfl e
   .obtain ⟨i,h1,h2⟩:=zlh h n2;refine ⟨i+1,?_,by simpa using h2⟩;rw [h1];simp [eqT,e]
theorem zl0 {P:Pr} (h:P.fn "_law_rows"=some zdr) (n:Nat) {Z:List Zt} (h4:Z.length<=4) {z:Zt} (hz:z∈Z) (nd:(Z.map (·.1.nm)).Nodup):run P (n+1) "_law_rows" [yaa Z,stT Z,.str z.1.nm]=some (rwT z):=by
 rw [zav h rfl];obtain ⟨i,h1,h2⟩:=zlh hz nd;have hz':Z.length<=16777216:=by lia
 show zad (yab (glo P (run P n)) zc6 [.val (yaa Z),.val (stT Z),.val (.str z.1.nm)])=_;unfold zc6;have ec:evE (glo P (run P n)) (.comp (.idx (.var 0) (.cst (.int 0))) 1 .plain [.var 0] none) (ygm [Sl.val (yaa Z),.val (stT Z),.val (.str z.1.nm)])=some (.lst (Z.map fun z=>T.str z.1.nm)):=by
  rw [zaq];have s1:yac (glo P (run P n)) [.var 0] (ygm [Sl.val (yaa Z),.val (stT Z),.val (.str z.1.nm)])=some [yaa Z]:=by simp [yac,evE,ygm,Sl.get]
  have s2:yae .plain [yaa Z]=some (Z.map fun z=>z.1.t):=by simp [yae,items,yaa,hz']
  rw [s1,zyx,s2,zyx,zaf (fun z:Zt=>T.str z.1.nm) fun a _=>by simp [bnd,evE,ygm,Sl.get,t0]];rfl
 have hf:((Z.map fun z=>T.str z.1.nm).all flat)=true:=by rw [uc0];intro t ht;obtain ⟨a,_,rfl⟩:=omm ht;rfl
 have em:ybj .index (.lst (Z.map fun z=>T.str z.1.nm)) (.str z.1.nm)=some (.int (i:Int)):=by simp only [ybj];rw [if_pos (by rw [hf];rfl),h1];rfl
 rw [za8 (t:=rwT z) rfl (by rw [zd7,zf2,ec];simp only [evE,ygm,xmc,xmn,Sl.get,xgs,xgz,xjs,xbs,em];show ybd (Z.map rwT) (i:Int)=_;exact zbj h2)];rfl
end
section
variable {qa:List Str}
theorem zwu (a b:Kt):eqT (kT a) (kT b)=decide (a=b):=by
 rcases a with i | _ | x<;>rcases b with j | _ | y<;>simp only [kT,eqT]
 all_goals first | (simp;done) | (by_cases e:i=j<;>simp [e]) | (by_cases e:x=y<;>simp [e])
theorem zqt:∀ a b:List Kt,yb2 (a.map kT) (b.map kT)=decide (a=b)
 | [],[]=>by rw [List.map_nil,yb2];rfl
 | [],_::_=>by rw [List.map_cons,List.map_nil,yb2]<;>simp
 | _::_,[]=>by rw [List.map_cons,List.map_nil,yb2]<;>simp
 | x::a,y::b=>by rw [zy1,zy1,yb2,zwu,zqt a b];by_cases e:x=y<;>by_cases f:a=b<;>simp [e,f]
theorem zn1 (a b:List Kt):eqT (tkT a) (tkT b)=decide (a=b):=by rw [tkT,tkT,eqT,zqt]
theorem zyt (a b:Kt):dpP (kT a) (kT b)=0:=by rcases a with _ | _ | _<;>rcases b with _ | _ | _<;>rfl
theorem zq5:∀ a b:List Kt,ycj (a.map kT) (b.map kT)=0
 | [],_=>by rw [List.map_nil,ycj];simp
 | _::_,[]=>by rw [List.map_nil,ycj];simp
 | x::a,y::b=>by rw [zy1,zy1,ycj,zyt,zq5 a b];rfl
theorem zkc (a b:List Kt):dpP (tkT a) (tkT b)=1:=by rw [tkT,tkT,dpP,zq5]
abbrev Row:=List (Col × T)
noncomputable def wK (qa:List Str) (ps:Row):List Kt:=qa.map fun x=>kk (val ps x)
noncomputable def ydi (k:List Kt):Bool:=k.any fun x=>decide (x=.inr none)
noncomputable def kyT (b:Tb) (ps:Row):T:=tkT (ya1 b ps)
noncomputable def woT (qa:List Str) (ps:Row):T:=if ydi (wK qa ps)=true then .non else tkT (wK qa ps)
theorem zw2 (k:List Kt):inC .non (tkT k)=some (ydi k):=by
 have h1:dpI .non (k.map kT)=true:=by unfold dpI;rw [List.all_map];exact uc0.mpr fun x _=>by rcases x with _ | _ | _<;>rfl
 have h2:((k.map kT).any fun z=>eqT z .non)=ydi k:=by rw [List.any_map,ydi];congr;funext x;exact zwu x (.inr none)
 show (if dpI .non (k.map kT)=true then some ((k.map kT).any fun z=>eqT z .non) else none)=_;rw [if_pos h1,h2]
theorem zsh {b:Tb} (hb:b.ok) {ps:Row} (hp:RowOk b ps) (hc:∀ x∈qa,∃ c∈b.cs,c.n=x):∃ qs:Row,qs.map nmT=qa.map .str/\(∀ q∈qs,q∈ps)/\qs.length=qa.length/\T.tup (qs.map (·.2))=tkT (wK qa ps):=by
 have hnd:=hp.nd hb;obtain ⟨qs,q1,q0,q2,q3⟩:=zfv (ps:=ps) (ks:=qa) fun x hx=>by obtain ⟨c,hc,e⟩:=hc x hx;obtain ⟨p,hp',rfl⟩:=hp.col hc;exact ⟨p,hp',e⟩
 refine ⟨qs,q1,q2,q3,?_⟩;have ek:wK qa ps=qs.map fun q=>kk q.2:=by unfold wK;rw [<- q0,zzn];exact ua7 fun q hq=>by show kk (val ps q.1.n)=kk q.2;rw [ze0 (q2 q hq) hnd]
 unfold tkT;rw [ek,zzn];exact zze T.tup (ua7 fun q hq=>((zte (hp.wk q (q2 q hq))).2).symm)
theorem zw7 {α β:Type} (c:α->Bool) (f:α->β):∀ l:List α,(l.filterMap fun a=>if c a=true then some (f a) else none)=(l.filter c).map f
 | []=>rfl
 | a::l=>by rw [zzv,ua9,zw7 c f l];cases c a<;>rfl
theorem zga {G:Glo} {elt cond:E} {src:List E} {r:Env} {n:Nat} {α:Type} {enc:α->T} {R:List α} (c:α->Bool) (f:α->T) {xs:List T} (h1:yac G src r=some xs) (h2:yae .plain xs=some (R.map enc))
  (hb:∀ a∈R,∃ r',bnd n (enc a) r=some r'/\evE G cond r'=some (.bl (c a))/\(c a=true->evE G elt r'=some (f a))):evE G (.comp elt n .plain src (some cond)) r=some (.lst ((R.filter c).map f)):=by
 rw [zf3,h1,zyx,h2,zyx,za4 (enc:=enc) (fun a=>if c a=true then some (f a) else none) fun a ha=>by
  obtain ⟨r',e1,e2,e3⟩:=hb a ha;rw [e1,zyx,evO,e2,Option.map_some,zyx];cases hc:c a with
  | true=>rw [if_pos rfl];simp only [e3 hc,xms]
  | false=>rfl]
 rw [zw7];rfl
theorem ze5 (b:Tb):∀ R:List Row,ybo (R.map fun ps=>.tup [kyT b ps,yag ps])=some (R.map fun ps=>(ya1 b ps,yag ps))
 | []=>rfl
 | ps::R=>by rw [zy1,ybo,ze5 b R];show ((yck ((ya1 b ps).map kT)).map fun k=>(k,yag ps)).bind _=_;rw [zfu];rfl
theorem zwe {P:Pr} (hn:P.fn "_law_names"=some zbm) (h:P.fn "_law_worths"=some zbo) (n:Nat) {b:Tb} (hb:b.ok) {ps:Row} (hp:RowOk b ps) (hc:∀ x∈qa,∃ c∈b.cs,c.n=x) (h4:qa.length<=4):run P (n+2) "_law_worths" [b.t,yag ps,yar qa]=some (woT qa ps):=by
 obtain ⟨qs,q1,q2,q3,q4⟩:=zsh hb hp hc;have hnd:=hp.nd hb;have hz:qs.length<=16777216:=by lia
 rw [zav h rfl];have cn:(glo P (run P (n+1))).call "_law_names" [b.t]=some (.lst (ps.map nmT)):=by rw [hp.tab];exact zei hn n ps (hp.len hb) _ _ _
 show zad (yab (glo P (run P (n+1))) zbo.body [.val b.t,.val (yag ps),.val (yar qa),.no])=_;generalize glo P (run P (n+1))=G at *;generalize b.t=X at *;unfold zbo;dsimp only;rw [zah (t:=tkT (wK qa ps)) (τ':=[.val X,.val (yag ps),.val (yar qa),.val (tkT (wK qa ps))]) rfl (by
  rw [zbk,zaq];have s1:yac G [.var 2] (ygm [Sl.val X,.val (yag ps),.val (yar qa),.no])=some [.tup (qs.map nmT)]:=by simp only [evE,yac,ygm,Sl.get,xmc,xmn,xgs,xgz,xjs,xbs,yar,q1]
  have s2:yae .plain [.tup (qs.map nmT)]=some (qs.map nmT):=by simp [yae,items,hz]
  rw [s1,zyx,s2,zyx,zaf (fun q=>q.2) fun q hq'=>by obtain ⟨i,e1,e2⟩:=zjq (q2 q hq') hnd;simp only [bnd,if_true,xbs,evE,yac,ygm,Sl.get,xmc,xmn,xgs,xgz,xjs,cn];rw [show nmT q=.str q.1.n from rfl,e1];simp only [xbs,yag,yah,e2,xms]];show some (T.tup (qs.map (·.2)))=_;rw [q4]) rfl]
 rw [za8 (t:=woT qa ps) rfl (by
  simp only [evE,yac,ygm,Sl.get,xmc,xmn,xgs,xgz,xjs,xbs,yau,zw2,xms,ya3,List.length_cons,List.length_nil,Nat.zero_add,Nat.reduceAdd,Nat.reduceLeDiff,if_true];unfold woT;cases ydi (wK qa ps) with
  | true=>rw [if_pos rfl,if_pos rfl,yah,yaw]
  | false=>rw [if_neg (by simp),if_neg (by simp),yah,yaq])]
 rfl
theorem yef {g:Zt}:∀ {Z:List Zt},g∈Z->(Z.map (·.1.nm)).Nodup->(Z.filter fun z=>z.1.nm==g.1.nm)=[g]
 | y::Z,h,nd=>by
  rw [zy1] at nd;obtain ⟨n1,n2⟩:=ua6.mp nd;rw [ua9];by_cases e:y.1.nm=g.1.nm
  .rcases omc h with rfl | h
   .rw [if_pos (ue3.mpr rfl),List.filter_eq_nil_iff.mpr fun z hz q=>n1 (ua0.mpr ⟨z,hz,ua2 q⟩)]
   .exact absurd (ua0.mpr ⟨g,h,e.symm⟩) n1
  .rw [if_neg (by simpa using e)];rcases omc h with rfl | h
   .exact absurd rfl e
   .exact yef h n2
theorem yfg {P:Pr} (h:P.fn "_law_table"=some zc2) (n:Nat) {Z:List Zt} (l4:Z.length<=4) (nd:(Z.map (·.1.nm)).Nodup) {g:Zt} (hg:g∈Z):run P (n+1) "_law_table" [yaa Z,.str g.1.nm]=some g.1.t:=by
 rw [zav h rfl];show zad (yab (glo P (run P n)) zct [.val (yaa Z),.val (.str g.1.nm)])=_;unfold zct;generalize glo P (run P n)=G;have ec:=zga (G:=G) (elt:=.var 0) (cond:=.cmp .eq (.idx (.var 0) (.cst (.int 0))) (.var 2)) (src:=[.var 0]) (r:=ygm [.val (yaa Z),.val (.str g.1.nm)]) (n:=1) (enc:=fun z:Zt=>z.1.t) (R:=Z) (fun z=>z.1.nm==g.1.nm) (fun z=>z.1.t) (xs:=[yaa Z]) (by
  simp only [evE,yac,ygm,Sl.get,xmc,xmn,xgz,xjs,xbs]) (by
  have hz:Z.length<=16777216:=by lia
  simp [yae,items,yaa,hz]) fun z _=>⟨some z.1.t::ygm [.val (yaa Z),.val (.str g.1.nm)],rfl,by
   simp only [evE,ygm,Sl.get,xmc,xmn,xgs,xgz,xjs,xbs,t0,yau,eqs],fun _=>by
   simp only [evE,xgz,xjs]⟩
 rw [yef hg nd] at ec;rw [za8 (t:=g.1.t) rfl (by rw [zd7,ec,evE,zyx,zyx];show ybd [g.1.t] 0=_;rw [yaq])];rfl
end
section
noncomputable def bkL:List S:=[.asg 10 (.land (.cmp .notN (.var 9) (.cst .non)) (.cmp .gt (.mth .count (.var 7) (.var 9)) (.cst (.int 1)))),
  .ite (.land (.cmp .eq (.idx (.var 3) (.cst (.int 0))) (.cst (.str "refers"))) (.cmp .notN (.var 9) (.cst .non))) [.asg 11 (.call "_law_table" [.var 0,.idx (.var 3) (.cst (.int 2))]),
  .asg 10 (.cmp .notin (.var 9) (.comp (.call "_law_key" [.var 12,.var 0]) 1 .plain [.call "_law_rows" [.var 0,.var 1,.idx (.var 3) (.cst (.int 2))]] none))] [],
  .ite (.tru (.var 10)) [.app 8 (.call "_law_key" [.var 2,.var 6])] []]
noncomputable def zbp:Fd:=⟨4,12,[.asg 4 (.call "_law_rows" [.var 0,.var 1,.idx (.var 2) (.cst (.int 0))]),
  .ite (.cmp .eq (.idx (.var 3) (.cst (.int 0))) (.cst (.str "check"))) [.asg 5 (.mth .index (.call "_law_names" [.var 2]) (.idx (.idx (.idx (.var 3) (.cst (.int 1))) (.cst (.int 1))) (.cst (.int 1)))),
  .ret (.comp (.call "_law_key" [.var 3,.var 0]) 1 .plain [.var 4] (some (.cmp .isN (.idx (.var 0) (.var 6)) (.cst .non))))] [],
  .asg 7 (.comp (.call "_law_worths" [.var 3,.var 0,.idx (.var 4) (.cst (.int 1))]) 1 .plain [.var 4] none),
  .asg 8 (.lst []),
  .loop [6,9] .zip [.var 4,.var 7] bkL,
  .ret (.var 8)]⟩
noncomputable def lnC:List S:=[.asg 7 (.call "_law_worths" [.var 4,.var 6,.idx (.var 5) (.cst (.int 1))]),
  .app 3 (.tup [.tup [.idx (.var 4) (.cst (.int 0)),.call "_law_key" [.var 4,.var 6]],.idx (.var 5) (.cst (.int 1)),.tup [.idx (.var 5) (.cst (.int 2)),.var 7]])]
noncomputable def lnB:List S:=[.ite (.land (.cmp .eq (.idx (.var 5) (.cst (.int 0))) (.cst (.str "refers"))) (.cmp .eq (.idx (.var 5) (.cst (.int 3))) (.var 2))) [.loop [6] .plain [.call "_law_rows" [.var 0,.var 1,.idx (.var 4) (.cst (.int 0))]] lnC] []]
noncomputable def lnA:List S:=[.loop [5] .plain [.idx (.var 4) (.cst (.int 3))] lnB]
noncomputable def zc4:Fd:=⟨3,8,[.asg 3 (.lst []),
  .loop [4] .plain [.var 0] lnA,
  .ret (.var 3)]⟩
noncomputable def goI:List S:=[.ite (.land (.cmp .eq (.var 10) (.var 7)) (.cmp .notin (.var 8) (.var 5))) [.app 5 (.var 8),.app 6 (.var 8)] []]
noncomputable def goW:List S:=[.lpop 7 6,.loop [8,9,10] .plain [.call "_law_links" [.var 0,.var 1,.cst (.str "along")]] goI]
noncomputable def goS:List S:=[.ite (.land (.cmp .isin (.var 10) (.var 5)) (.cmp .notin (.var 8) (.var 5))) [.ret (.cst (.int 5))] []]
noncomputable def zbn:Fd:=⟨4,12,[.asg 4 (.call "_law_table" [.var 0,.var 2]),
  .ite (.cmp .notin (.var 3) (.comp (.call "_law_key" [.var 5,.var 0]) 1 .plain [.call "_law_rows" [.var 0,.var 1,.var 2]] none)) [.ret (.cst (.int 1))] [],
  .asg 5 (.lst [.tup [.var 2,.var 3]]),
  .asg 6 (.lst [.tup [.var 2,.var 3]]),
  .wloop (.cmp .ne (.var 6) (.lst [])) goW,
  .loop [8,9,10] .plain [.call "_law_links" [.var 0,.var 1,.cst (.str "stop")]] goS,
  .asg 11 (.comp (.var 0) 1 .plain [.call "_law_links" [.var 0,.var 1,.cst (.str "gap")]] (some (.land (.cmp .isin (.idx (.var 0) (.cst (.int 2))) (.var 6)) (.cmp .notin (.idx (.var 0) (.cst (.int 0))) (.var 6))))),
  .ret (.tup [.var 5,.var 11])]⟩
noncomputable def zeu:Fd:=⟨4,7,[.asg 4 (.call "_law_table" [.var 0,.var 2]),
  .asg 5 (.blt .dict (.comp (.tup [.call "_law_key" [.var 5,.var 0],.var 0]) 1 .plain [.var 3] none)),
  .asg 6 (.blt .toTuple (.comp (.idx (.var 6) (.var 0)) 1 .plain [.blt .sorted (.var 5)] none)),
  .ret (.blt .toTuple (.comp (.idx (.lst [.var 1,.var 8]) (.blt .toInt (.cmp .eq (.idx (.var 0) (.cst (.int 0))) (.var 4)))) 2 .zip [.var 0,.var 1] none))]⟩
noncomputable def wiB:List S:=[.dput 3 (.mth .index (.call "_law_names" [.var 0]) (.var 4)) (.var 5)]
noncomputable def zdq:Fd:=⟨3,6,[.nw 3 (.blt .toList (.var 1)),
  .loop [4,5] .plain [.var 2] wiB,
  .ret (.blt .toTuple (.var 3))]⟩
noncomputable def drC:List S:=[.ite (.cmp .eq (.var 8) (.var 7)) [.asg 6 (.call "_law_with" [.var 4,.var 6,.comp (.tup [.var 0,.cst .non]) 1 .plain [.var 9] none])] []]
noncomputable def zcg:Fd:=⟨4,11,[.loop [4] .plain [.var 0] [.asg 5 (.lst []),
  .loop [6] .plain [.call "_law_rows" [.var 0,.var 1,.idx (.var 4) (.cst (.int 0))]] [.asg 7 (.tup [.idx (.var 4) (.cst (.int 0)),.call "_law_key" [.var 4,.var 6]]),
  .loop [8,9,10] .plain [.var 3] drC,
  .asg 5 (.bin .add (.var 5) (.bin .mul (.lst [.var 6]) (.blt .toInt (.cmp .notin (.var 7) (.var 2)))))],
  .asg 1 (.call "_law_put" [.var 0,.var 1,.idx (.var 4) (.cst (.int 0)),.var 5])],
  .ret (.var 1)]⟩
noncomputable def zcm:Fd:=⟨3,9,[.asg 3 (.idx (.var 2) (.cst (.int 1))),
  .asg 4 (.call "_law_table" [.var 0,.var 3]),
  .asg 5 (.call "_law_rows" [.var 0,.var 1,.var 3]),
  .asg 6 (.comp (.call "_law_key" [.var 5,.var 0]) 1 .plain [.var 5] none),
  .ite (.cmp .eq (.idx (.var 2) (.cst (.int 0))) (.cst (.str "add"))) [.ite (.cmp .isin (.call "_law_key" [.var 4,.idx (.var 2) (.cst (.int 2))]) (.var 6)) [.ret (.cst (.int 2))] [],
  .ret (.call "_law_put" [.var 0,.var 1,.var 3,.bin .add (.blt .toList (.var 5)) (.lst [.idx (.var 2) (.cst (.int 2))])])] [],
  .ite (.cmp .eq (.idx (.var 2) (.cst (.int 0))) (.cst (.str "drop"))) [.asg 7 (.call "_law_going" [.var 0,.var 1,.var 3,.idx (.var 2) (.cst (.int 2))]),
  .ite (.tru (.isi (.var 7) .tint)) [.ret (.var 7)] [],
  .ret (.call "_law_dropped" [.var 0,.var 1,.idx (.var 7) (.cst (.int 0)),.idx (.var 7) (.cst (.int 1))])] [],
  .ite (.cmp .notin (.idx (.var 2) (.cst (.int 2))) (.var 6)) [.ret (.cst (.int 1))] [],
  .asg 8 (.mth .index (.var 6) (.idx (.var 2) (.cst (.int 2)))),
  .ret (.call "_law_put" [.var 0,.var 1,.var 3,.bin .add (.bin .add (.sli (.var 5) none (some (.var 8))) (.tup [.call "_law_with" [.var 4,.idx (.var 5) (.var 8),.idx (.var 2) (.cst (.int 3))]])) (.sli (.var 5) (some (.bin .add (.var 8) (.cst (.int 1)))) none)])]⟩
noncomputable def dnB:List S:=[.ite (.land (.cmp .ne (.idx (.var 6) (.neg (.cst (.int 1)))) (.cst (.str "late"))) (.cmp .ne (.call "_law_broken" [.var 0,.var 3,.var 5,.var 6]) (.lst []))) [.dput 4 (.idx (.var 6) (.cst (.int 0))) (.cst (.bl true))] []]
noncomputable def dnF:List S:=[.ite (.cmp .isin (.var 8) (.var 4)) [.ret (.var 7)] []]
noncomputable def zb8:Fd:=⟨3,9,[.asg 3 (.call "_law_raw" [.var 0,.var 1,.var 2]),
  .ite (.tru (.isi (.var 3) .tint)) [.ret (.var 3)] [],
  .dnew 4,
  .loop [5] .plain [.var 0] [.loop [6] .plain [.idx (.var 5) (.cst (.int 3))] dnB],
  .loop [7,8] .plain [.tup [.tup [.cst (.int 2),.cst (.str "unlike")],.tup [.cst (.int 3),.cst (.str "check")],.tup [.cst (.int 4),.cst (.str "refers")]]] dnF,
  .ret (.var 3)]⟩
noncomputable def ltB:List S:=[.ite (.cmp .ne (.call "_law_broken" [.var 0,.var 1,.var 2,.var 3]) (.lst [])) [.ret (.cst (.bl true))] []]
noncomputable def zds:Fd:=⟨2,4,[.loop [2] .plain [.var 0] [.loop [3] .plain [.idx (.var 2) (.cst (.int 3))] ltB],
  .ret (.cst (.bl false))]⟩
noncomputable def ddL:List S:=[.asg 13 (.bin .fdiv (.call "_law_drawn" [.var 2,.bin .add (.cst (.int 30)) (.var 12)]) (.cst (.int 4))),
  .ite (.lor (.cmp .eq (.bin .mod (.var 13) (.cst (.int 2))) (.cst (.int 0))) (.cmp .eq (.var 12) (.cst (.int 0)))) [.app 11 (.tup [.idx (.var 9) (.cst (.int 0)),.call "_law_worth" [.var 9,.bin .fdiv (.var 13) (.cst (.int 4))]])] []]
noncomputable def zb9:Fd:=⟨3,14,[.asg 3 (.idx (.var 0) (.bin .mod (.var 2) (.blt .len (.var 0)))),
  .asg 4 (.call "_law_rows" [.var 0,.var 1,.idx (.var 3) (.cst (.int 0))]),
  .asg 5 (.bin .add (.comp (.call "_law_key" [.var 4,.var 0]) 1 .plain [.var 4] none) (.lst [.call "_law_key" [.var 3,.call "_law_row" [.var 3,.bin .fdiv (.var 2) (.cst (.int 64))]]])),
  .asg 6 (.bin .sub (.blt .len (.var 5)) (.blt .toInt (.land (.cmp .gt (.blt .len (.var 5)) (.cst (.int 1))) (.cmp .gt (.bin .mod (.bin .fdiv (.var 2) (.cst (.int 4096))) (.cst (.int 8))) (.cst (.int 0)))))),
  .asg 7 (.idx (.var 5) (.bin .mod (.bin .fdiv (.var 2) (.cst (.int 4))) (.var 6))),
  .asg 8 (.bin .mod (.bin .fdiv (.var 2) (.cst (.int 65536))) (.cst (.int 8))),
  .asg 10 (.comp (.var 0) 1 .plain [.idx (.var 3) (.cst (.int 1))] (some (.cmp .notin (.idx (.var 0) (.cst (.int 0))) (.idx (.var 4) (.cst (.int 2)))))),
  .ite (.lor (.cmp .lt (.var 8) (.cst (.int 4))) (.land (.cmp .eq (.var 8) (.cst (.int 7))) (.cmp .eq (.var 10) (.lst [])))) [.ret (.tup [.cst (.str "add"),.idx (.var 3) (.cst (.int 0)),.call "_law_row" [.var 3,.bin .fdiv (.call "_law_drawn" [.var 2,.cst (.int 7)]) (.cst (.int 4))]])] [],
  .ite (.lor (.cmp .lt (.var 8) (.cst (.int 6))) (.cmp .eq (.var 10) (.lst []))) [.ret (.tup [.cst (.str "drop"),.idx (.var 3) (.cst (.int 0)),.var 7])] [],
  .asg 11 (.lst []),
  .loop [12,9] .enum [.sli (.var 10) none (some (.cst (.int 3)))] ddL,
  .ret (.tup [.cst (.str "set"),.idx (.var 3) (.cst (.int 0)),.var 7,.blt .toTuple (.var 11)])]⟩
noncomputable def stB:List S:=[.asg 5 (.call "_law_done" [.var 0,.var 3,.call "_law_deed" [.var 0,.var 3,.bin .fdiv (.call "_law_drawn" [.var 1,.bin .add (.cst (.int 100)) (.var 4)]) (.cst (.int 4))]]),
  .ite (.land (.lnot (.tru (.isi (.var 5) .tint))) (.lnot (.tru (.call "_law_late" [.var 0,.var 5])))) [.asg 3 (.var 5)] []]
noncomputable def zc3:Fd:=⟨3,6,[.asg 3 (.blt .toTuple (.comp (.tup []) 1 .plain [.var 0] none)),
  .loop [4] .range [.var 2] stB,
  .ret (.var 3)]⟩
noncomputable def dsB:List S:=[.asg 6 (.bin .fdiv (.call "_law_drawn" [.var 2,.bin .add (.cst (.int 60)) (.var 5)]) (.cst (.int 4))),
  .asg 7 (.call "_law_deed" [.var 0,.var 1,.bin .fdiv (.var 6) (.cst (.int 16))]),
  .ite (.cmp .eq (.bin .mod (.var 6) (.cst (.int 8))) (.cst (.int 0))) [.asg 7 (.tup [.cst (.str "mark"),.idx (.tup [.cst (.str "x"),.cst (.str "y")]) (.bin .mod (.bin .fdiv (.var 6) (.cst (.int 8))) (.cst (.int 2)))])] [],
  .ite (.land (.cmp .eq (.bin .mod (.var 6) (.cst (.int 16))) (.cst (.int 1))) (.cmp .eq (.bin .mod (.bin .fdiv (.var 2) (.cst (.int 64))) (.cst (.int 2))) (.cst (.int 1)))) [.asg 7 (.tup [.cst (.str "back"),.idx (.tup [.cst (.str "x"),.cst (.str "y")]) (.bin .mod (.bin .fdiv (.var 6) (.cst (.int 16))) (.cst (.int 2)))])] [],
  .app 4 (.var 7),
  .ite (.cmp .isin (.idx (.var 7) (.cst (.int 0))) (.tup [.cst (.str "add"),.cst (.str "drop"),.cst (.str "set")])) [.asg 8 (.call "_law_done" [.var 0,.var 1,.var 7]),
  .ite (.tru (.isi (.var 8) .tint)) [.nw 4 (.sli (.var 4) none (some (.bin .sub (.blt .len (.var 4)) (.blt .toInt (.cmp .gt (.bin .mod (.bin .fdiv (.var 6) (.cst (.int 4096))) (.cst (.int 8))) (.cst (.int 0)))))))] [.asg 1 (.var 8)]] []]
noncomputable def zc5:Fd:=⟨4,9,[.asg 4 (.lst []),
  .loop [5] .range [.bin .mod (.var 2) (.bin .add (.var 3) (.cst (.int 1)))] dsB,
  .ret (.blt .toTuple (.var 4))]⟩
noncomputable def smB:List S:=[.asg 1 (.bin .mod (.bin .add (.bin .mul (.cst (.int 31)) (.var 1)) (.blt .ord (.var 2))) (.cst (.int 9973)))]
noncomputable def zf7:Fd:=⟨1,3,[.asg 1 (.cst (.int 0)),
  .loop [2] .plain [.var 0] smB,
  .ret (.mth .zfill (.blt .toStr (.var 1)) (.cst (.int 4)))]⟩
noncomputable def zbw:Fd:=⟨1,1,[.ret (.mth .join (.cst (.str "")) (.comp (.fst [.var 0,.cst (.str "\n")]) 1 .plain [.var 0] none))]⟩
noncomputable def zbv:Fd:=⟨1,1,[.ite (.cmp .isN (.var 0) (.cst .non)) [.ret (.cst (.str "?"))] [],
  .ite (.tru (.isi (.var 0) .tstr)) [.ret (.bin .add (.cst (.str "'")) (.var 0))] [],
  .ret (.blt .toStr (.var 0))]⟩
noncomputable def wbB:List S:=[.ext 2 (.comp (.tup [.cst (.str "add"),.idx (.var 4) (.cst (.int 0)),.var 0]) 1 .plain [.var 4] none)]
noncomputable def zb3:Fd:=⟨2,5,[.asg 2 (.lst []),
  .loop [3,4] .zip [.var 0,.var 1] wbB,
  .ret (.call "written_part" [.cst (.str "base"),.var 2])]⟩
noncomputable def zcy:Fd:=⟨1,1,[.ret (.call "written_part" [.cst (.str "deal"),.var 0])]⟩
noncomputable def zb2:Fd:=⟨2,3,[.asg 2 (.call "with_row_ends" [.bin .add (.lst [.var 0]) (.comp (.call "written_deed" [.var 0]) 1 .plain [.var 1] none)]),
  .ret (.bin .add (.var 2) (.call "with_row_ends" [.lst [.call "written_end" [.var 2]]]))]⟩
noncomputable def zdi:Fd:=⟨1,1,[.ret (.bin .add (.cst (.str "end ")) (.call "sum_of" [.var 0]))]⟩
noncomputable def wdL:List S:=[.ext 2 (.lst [.var 3,.call "written_worth" [.var 1]])]
noncomputable def zaz:Fd:=⟨1,4,[.ite (.lor (.cmp .eq (.idx (.var 0) (.cst (.int 0))) (.cst (.str "mark"))) (.cmp .eq (.idx (.var 0) (.cst (.int 0))) (.cst (.str "back")))) [.ret (.mth .join (.cst (.str " ")) (.var 0))] [],
  .asg 2 (.bin .add (.lst [.idx (.var 0) (.cst (.int 0)),.idx (.var 0) (.cst (.int 1))]) (.comp (.call "written_worth" [.var 0]) 1 .plain [.idx (.var 0) (.cst (.int 2))] none)),
  .ite (.cmp .eq (.idx (.var 0) (.cst (.int 0))) (.cst (.str "set"))) [.app 2 (.cst (.str ":")),
  .loop [3,1] .plain [.idx (.var 0) (.cst (.int 3))] wdL] [],
  .ret (.mth .join (.cst (.str " ")) (.var 2))]⟩
noncomputable def slB:List S:=[.asg 1 (.bin .mod (.bin .add (.bin .mul (.cst (.int 31)) (.var 1)) (.idx (.lst [.blt .ord (.var 2),.cst (.int 10)]) (.blt .toInt (.cmp .eq (.var 2) (.cst (.str "\n")))))) (.cst (.int 9973)))]
noncomputable def zes:Fd:=⟨1,3,[.asg 1 (.cst (.int 0)),
  .loop [2] .plain [.var 0] slB,
  .ret (.bin .add (.bin .mul (.cst (.str "0")) (.bin .sub (.cst (.int 4)) (.blt .len (.blt .toStr (.var 1))))) (.blt .toStr (.var 1)))]⟩
noncomputable def zdp:Fd:=⟨1,1,[.ite (.cmp .isN (.var 0) (.cst .non)) [.ret (.cst (.str "?"))] [],
  .ret (.bin .add (.bin .mul (.cst (.str "'")) (.blt .toInt (.isi (.var 0) .tstr))) (.blt .toStr (.var 0)))]⟩
noncomputable def roL:List S:=[.asg 2 (.bin .add (.var 2) (.lst [.var 3,.call "_law_word" [.var 1]]))]
noncomputable def zbf:Fd:=⟨1,4,[.ite (.cmp .eq (.blt .len (.var 0)) (.cst (.int 2))) [.ret (.mth .join (.cst (.str " ")) (.var 0))] [],
  .asg 2 (.bin .add (.lst [.idx (.var 0) (.cst (.int 0)),.idx (.var 0) (.cst (.int 1))]) (.comp (.call "_law_word" [.var 0]) 1 .plain [.idx (.var 0) (.cst (.int 2))] none)),
  .ite (.cmp .eq (.idx (.var 0) (.cst (.int 0))) (.cst (.str "set"))) [.app 2 (.cst (.str ":")),
  .loop [3,1] .plain [.idx (.var 0) (.cst (.int 3))] roL] [],
  .ret (.mth .join (.cst (.str " ")) (.var 2))]⟩
noncomputable def clB:List S:=[.asg 1 (.bin .add (.bin .add (.var 1) (.var 2)) (.cst (.str "\n")))]
noncomputable def zcq:Fd:=⟨1,3,[.asg 1 (.cst (.str "")),
  .loop [2] .plain [.var 0] clB,
  .ret (.bin .add (.var 0) (.lst [.bin .add (.cst (.str "end ")) (.call "_law_sum" [.var 1])]))]⟩
noncomputable def zcp:Fd:=⟨1,1,[.ret (.call "_law_closed" [.bin .add (.lst [.cst (.str "deal")]) (.comp (.call "_law_row_of" [.var 0]) 1 .plain [.var 0] none)])]⟩
noncomputable def yga:List S:=[.asg 2 (.bin .add (.var 2) (.comp (.call "_law_row_of" [.tup [.cst (.str "add"),.idx (.var 4) (.cst (.int 0)),.var 0]]) 1 .plain [.var 4] none))]
noncomputable def zbx:Fd:=⟨2,5,[.asg 2 (.lst [.cst (.str "base")]),
  .loop [3,4] .zip [.var 0,.var 1] yga,
  .ret (.call "_law_closed" [.var 2])]⟩
noncomputable def zco:Fd:=⟨1,1,[.ret (.mth .join (.cst (.str "")) (.comp (.bin .add (.var 0) (.cst (.str "\n"))) 1 .plain [.var 0] none))]⟩
noncomputable def txB:List S:=[.asg 4 (.bin .add (.var 4) (.idx (.cst (.str "abz09 '?~:\n")) (.bin .mod (.call "_law_mixed" [.var 0,.bin .add (.cst (.int 5)) (.var 5)]) (.cst (.int 11)))))]
noncomputable def zf8:Fd:=⟨1,6,[.asg 1 (.call "_law_schema" [.call "_law_mixed" [.var 0,.cst (.int 0)]]),
  .asg 2 (.call "_law_store" [.var 1,.call "_law_mixed" [.var 0,.cst (.int 1)],.bin .mod (.call "_law_mixed" [.var 0,.cst (.int 2)]) (.cst (.int 14))]),
  .asg 3 (.call "_law_deeds" [.var 1,.var 2,.call "_law_mixed" [.var 0,.cst (.int 3)],.cst (.int 9)]),
  .ite (.cmp .ne (.call "written_deal" [.var 3]) (.call "_law_joined" [.call "_law_deal_rows" [.var 3]])) [.ret (.cst (.bl false))] [],
  .ite (.cmp .ne (.call "written_base" [.var 1,.var 2]) (.call "_law_joined" [.call "_law_base_rows" [.var 1,.var 2]])) [.ret (.cst (.bl false))] [],
  .asg 4 (.cst (.str "")),
  .loop [5] .range [.bin .mod (.call "_law_mixed" [.var 0,.cst (.int 4)]) (.cst (.int 30))] txB,
  .ret (.cmp .eq (.call "sum_of" [.var 4]) (.call "_law_sum" [.var 4]))]⟩
structure Sch (B:List Tb):Prop where
 l4:B.length<=4
 ps:0<B.length
 nd:(B.map (·.nm)).Nodup
 ok:∀ b∈B,b.ok
 fit:∀ b∈B,∀ r∈b.rs,r.fits (B.map (·.nm)) b.cs
noncomputable def Rws (b:Tb) (R:List Row):Prop:=(∀ ps∈R,RowOk b ps)/\(R.map (ya1 b)).Nodup
structure Stn (B:List Tb) (m:Nat) (Z:List Zt):Prop where
 tb:Z.map (·.1)=B
 rw:∀ z∈Z,z.2.length<=m/\Rws z.1 z.2
section
variable {B:List Tb} {m:Nat} {Z:List Zt}
theorem Stn.len (h:Stn B m Z):Z.length=B.length:=by rw [<- h.tb,zy3]
theorem Stn.nms (h:Stn B m Z):Z.map (·.1.nm)=B.map (·.nm):=by rw [<- h.tb,zzn];rfl
theorem Stn.mem (h:Stn B m Z) {z:Zt} (hz:z∈Z):z.1∈B:=by rw [<- h.tb];exact ua0.mpr ⟨z,hz,rfl⟩
theorem Stn.of (h:Stn B m Z) {b:Tb} (hb:b∈B):∃ R,(b,R)∈Z:=by rw [<- h.tb] at hb;obtain ⟨z,hz,rfl⟩:=omm hb;exact ⟨z.2,hz⟩
theorem Stn.sch (h:Stn B m Z):yaa Z=.tup (B.map Tb.t):=by rw [yaa,<- h.tb,zzn];rfl
theorem Stn.up (h:Stn B m Z) {k:Nat} (hk:m<=k):Stn B k Z:=⟨h.tb,fun z hz=>⟨zzs (h.rw z hz).1 hk,(h.rw z hz).2⟩⟩
end
theorem zln:∀ {B:List Tb},(B.map (·.nm)).Nodup->∀ {a b:Tb},a∈B->b∈B->a.nm=b.nm->a=b
 | [],_,_,_,h,_,_=>by cases h
 | c::B,nd,a,b,ha,hb,e=>by
  rw [zy1] at nd;obtain ⟨n1,n2⟩:=ua6.mp nd;rcases omc ha with e1 | ha1
  .rcases omc hb with e2 | hb1
   .exact e1.trans e2.symm
   .exact (n1 (ua0.mpr ⟨b,hb1,by rw [<- e,e1]⟩)).elim
  .rcases omc hb with e2 | hb1
   .exact (n1 (ua0.mpr ⟨a,ha1,by rw [e,e2]⟩)).elim
   .exact zln n2 ha1 hb1 e
noncomputable def ydb (Z:List Zt) (x:Str) (R:List Row):List Zt:=Z.map fun z=>if z.1.nm==x then (z.1,R) else z
theorem zr9 (Z:List Zt) (x:Str) (R:List Row):(ydb Z x R).map (·.1)=Z.map (·.1):=by unfold ydb;rw [zzn];exact ua7 fun z _=>by show (if z.1.nm==x then (z.1,R) else z).1=z.1;split<;>rfl
theorem zk9 {B:List Tb} {m:Nat} {Z:List Zt} (h:Stn B m Z) (nd:(B.map (·.nm)).Nodup) {b:Tb} (hb:b∈B) {R:List Row} {k:Nat} (hk:m<=k) (hl:R.length<=k) (hR:Rws b R):Stn B k (ydb Z b.nm R):=by
 refine ⟨(zr9 Z b.nm R).trans h.tb,fun z hz=>?_⟩;obtain ⟨y,hy,rfl⟩:=omm hz;by_cases e:y.1.nm=b.nm
 .rw [if_pos (ue3.mpr e)];have:y.1=b:=zln nd (h.mem hy) hb e;exact ⟨hl,by rw [this];exact hR⟩
 .rw [if_neg (by simpa using e)];exact ⟨zzs (h.rw y hy).1 hk,(h.rw y hy).2⟩
theorem zg3 {b:Tb}:∀ {R:List Row} {acc:List (List Kt × T)},(∀ ps∈R,RowOk b ps)->Book b acc->Book b ((R.map fun ps=>(ya1 b ps,yag ps)).foldl (fun acc p=>yb3 acc p.1 p.2) acc)/\((R.map fun ps=>(ya1 b ps,yag ps)).foldl (fun acc p=>yb3 acc p.1 p.2) acc).length<=acc.length+R.length
 | [],acc,_,h=>⟨h,by simp⟩
 | ps::R,acc,hR,h=>by
  have h1:Book b (yb3 acc (ya1 b ps) (yag ps)):=⟨zu2 h.nd,fun p hp=>by
   rcases zr7 hp with hp | rfl
   .exact h.rw p hp
   .exact ⟨ps,hR ps zzg,rfl⟩⟩
  obtain ⟨h2,h3⟩:=zg3 (fun q hq=>hR q (zzc _ hq)) h1;refine ⟨h2,?_⟩;have:=zr8 (qb:=acc) (k:=ya1 b ps) (v:=yag ps);rw [zzb];exact zzs h3 (by lia)
theorem zg8 {b:Tb} {qb:List (List Kt × T)} (h:Book b qb):∀ {ks:List (List Kt)},(∀ k∈ks,k∈yav (qb.map (·.1)))->∃ R:List Row,R.map (ya1 b)=ks/\(∀ ps∈R,RowOk b ps)/\ks.map (fun k=>(yah (.dt (qb.map (·.1)) (qb.map (·.2))) (tkT k)).getD .non)=R.map yag
 | [],_=>⟨[],rfl,(fun _ h=>absurd h (by simp)),rfl⟩
 | k::ks,hk=>by
  obtain ⟨w,e,ps,h1,h2,h3⟩:=Book.get h (hk k zzg);obtain ⟨R,r1,r2,r3⟩:=zg8 h fun q hq=>hk q (zzc _ hq);refine ⟨ps::R,by rw [zy1,r1,h3],fun q hq=>?_,by rw [zy1,zy1,r3,e,<- h2];rfl⟩;rcases omc hq with rfl | hq
  .exact h1
  .exact r2 q hq
theorem zjd (k:List Kt):∀ l:List (List Kt),(ycd k l).length=l.length+1
 | []=>rfl
 | x::l=>by
  rw [ycd];split
  .rfl
  .rw [zzb,zjd k l,zzb]
theorem zed:∀ l:List (List Kt),(yav l).length=l.length
 | []=>rfl
 | k::l=>by rw [yav,zjd,zed l];rfl
theorem zjc {k x:List Kt}:∀ {l:List (List Kt)},x∈ycd k l->x=k\/x∈l
 | [],h=>by simpa [ycd] using h
 | y::l,h=>by
  rw [ycd] at h;split at h
  .simpa using h
  .rcases omc h with rfl | h
   .exact .inr zzg
   .rcases zjc h with h | h
    .exact .inl h
    .exact .inr (zzc _ h)
theorem zmo {k:List Kt}:∀ {l:List (List Kt)},k∉l->l.Nodup->(ycd k l).Nodup
 | [],_,_=>by simp [ycd]
 | x::l,h1,h2=>by
  obtain ⟨h3,h4⟩:=ua6.mp h2;have h5:=h1;rw [ua1,not_or] at h1;rw [ycd];split
  .exact ua6.mpr ⟨h5,h2⟩
  .refine ua6.mpr ⟨fun z=>?_,zmo h1.2 h4⟩;rcases zjc z with z | z
   .exact h1.1 z.symm
   .exact h3 z
theorem yc4:∀ {l:List (List Kt)},l.Nodup->(yav l).Nodup
 | [],_=>ud1
 | k::l,h=>by obtain ⟨h1,h2⟩:=ua6.mp h;rw [yav];exact zmo (fun z=>h1 (zbi.mp z)) (yc4 h2)
theorem zra (Z:List Zt) (x:Str) (R:List Row):(Z.map fun z=>if z.1.nm==x then T.tup (R.map yag) else rwT z)=(ydb Z x R).map rwT:=by unfold ydb;rw [zzn];exact ua7 fun z _=>by show _=rwT (if z.1.nm==x then (z.1,R) else z);split<;>rfl
theorem zx7 {G:Glo} {Z:List Zt} {z:Zt} {R:List Row} {A:T} (hb:z.1.ok) (l4:Z.length<=4) (hR:∀ ps∈R,RowOk z.1 ps) (hl:R.length<=60) (hA:items .plain [A]=some (R.map yag)) (ct:G.call "_law_table" [yaa Z,.str z.1.nm]=some z.1.t) (ck:∀ ps∈R,G.call "_law_key" [z.1.t,yag ps]=some (kyT z.1 ps)) :
  ∃ R':List Row,yab G zeu.body [.val (yaa Z),.val (stT Z),.val (.str z.1.nm),.val A,.no,.no,.no]=some (.rt (stT (ydb Z z.1.nm R')))/\R'.length<=R.length/\Rws z.1 R':=by
 have hz:R.length<=16777216:=by lia
 obtain ⟨hB,hBl⟩:=zg3 (b:=z.1) (acc:=[]) hR ⟨ud1,fun p h=>absurd h (by simp)⟩;rw [List.length_nil,Nat.zero_add] at hBl;have e5:evE G (.blt .dict (.comp (.tup [.call "_law_key" [.var 5,.var 0],.var 0]) 1 .plain [.var 3] none)) (ygm [.val (yaa Z),.val (stT Z),.val (.str z.1.nm),.val A,.val z.1.t,.no,.no])=some (.dt ((ybg (R.map fun ps=>(ya1 z.1 ps,yag ps))).map (·.1)) ((ybg (R.map fun ps=>(ya1 z.1 ps,yag ps))).map (·.2))):=by
  rw [zbk,zaq];have s1:yac G [.var 3] (ygm [.val (yaa Z),.val (stT Z),.val (.str z.1.nm),.val A,.val z.1.t,.no,.no])=some [A]:=rfl;have s2:yae .plain [A]=some (R.map yag):=by unfold yae;rw [hA,zyx,if_pos (by rw [zy3];exact hz)]
  rw [s1,zyx,s2,zyx,zaf (enc:=yag) (fun ps=>T.tup [kyT z.1 ps,yag ps]) fun ps hp=>by have:=ck ps hp;simp [bnd,evE,yac,ygm,Sl.get,this]];show (ybo (R.map fun ps=>T.tup [kyT z.1 ps,yag ps])).bind _=_;rw [ze5,zyx,if_pos (by rw [zy3];lia)]
 have hB:Book z.1 (ybg (R.map fun ps=>(ya1 z.1 ps,yag ps))):=hB;have hBl:(ybg (R.map fun ps=>(ya1 z.1 ps,yag ps))).length<=R.length:=hBl;generalize ybg (R.map fun ps=>(ya1 z.1 ps,yag ps))=qb at *;obtain ⟨R',r1,r2,r3⟩:=zg8 hB (ks:=yav (qb.map (·.1))) fun k h=>h;have hl':R'.length=qb.length:=by rw [<- zy3 (f:=ya1 z.1),r1,zed,zy3]
 refine ⟨R',?_,by lia,r2,by rw [r1];exact yc4 hB.nd⟩;have e6:evE G (.blt .toTuple (.comp (.idx (.var 6) (.var 0)) 1 .plain [.blt .sorted (.var 5)] none)) (ygm [.val (yaa Z),.val (stT Z),.val (.str z.1.nm),.val A,.val z.1.t,.val (.dt (qb.map (·.1)) (qb.map (·.2))),.no])=some (.tup (R'.map yag)):=by
  rw [zbk,zaq];have s1:yac G [.blt .sorted (.var 5)] (ygm [.val (yaa Z),.val (stT Z),.val (.str z.1.nm),.val A,.val z.1.t,.val (.dt (qb.map (·.1)) (qb.map (·.2))),.no])=some [.lst ((yav (qb.map (·.1))).map tkT)]:=by have:=Book.srt hb hB (by lia);simp only [yac,evE,ygm,Sl.get,xmc,xmn,xgs,xgz,xjs,xbs,this]
  have s2:yae .plain [.lst ((yav (qb.map (·.1))).map tkT)]=some ((yav (qb.map (·.1))).map tkT):=by
   have:qb.length<=16777216:=by lia
   simp [yae,items,zed,this]
  rw [s1,zyx,s2,zyx,zaf (enc:=tkT) (fun k=>(yah (.dt (qb.map (·.1)) (qb.map (·.2))) (tkT k)).getD .non) fun k hk=>by obtain ⟨w,e,_⟩:=Book.get hB hk;simp only [bnd,if_true,xbs,evE,ygm,Sl.get,xmc,xmn,xgs,xgz,xjs,e,xms,Option.getD_some],r3];rfl
 have e7:evE G (.blt .toTuple (.comp (.idx (.lst [.var 1,.var 8]) (.blt .toInt (.cmp .eq (.idx (.var 0) (.cst (.int 0))) (.var 4)))) 2 .zip [.var 0,.var 1] none)) (ygm [.val (yaa Z),.val (stT Z),.val (.str z.1.nm),.val A,.val z.1.t,.val (.dt (qb.map (·.1)) (qb.map (·.2))),.val (.tup (R'.map yag))])=some (stT (ydb Z z.1.nm R')):=by
  rw [zbk,zaq];have s1:yac G [.var 0,.var 1] (ygm [.val (yaa Z),.val (stT Z),.val (.str z.1.nm),.val A,.val z.1.t,.val (.dt (qb.map (·.1)) (qb.map (·.2))),.val (.tup (R'.map yag))])=some [yaa Z,stT Z]:=rfl;have s2:yae .zip [yaa Z,stT Z]=some (Z.map fun z=>T.tup [z.1.t,rwT z]):=by
   show (some (yb7 (Z.map fun z=>z.1.t) (Z.map rwT))).bind _=_;rw [zrb,zyx,if_pos];rw [zy3];have:(4:Nat)<=SZ:=by decide
   lia
  rw [s1,zyx,s2,zyx,zaf (enc:=fun z:Zt=>T.tup [z.1.t,rwT z]) (fun y=>if y.1.nm==z.1.nm then T.tup (R'.map yag) else rwT y) fun y _=>by
   rw [show bnd 2 (T.tup [y.1.t,rwT y]) (ygm [.val (yaa Z),.val (stT Z),.val (.str z.1.nm),.val A,.val z.1.t,.val (.dt (qb.map (·.1)) (qb.map (·.2))),.val (.tup (R'.map yag))])=some [some y.1.t,some (rwT y),some (yaa Z),some (stT Z),some (.str z.1.nm),some A,some z.1.t,some (.dt (qb.map (·.1)) (qb.map (·.2))),some (.tup (R'.map yag))] from rfl];cases hn:y.1.nm==z.1.nm with
   | true =>simp only [evE,yac,xgs,xgz,xjs,xbs,t0,yau,eqs,hn,ya3,if_true,List.length_cons,List.length_nil,Nat.zero_add,Nat.reduceAdd,Nat.reduceLeDiff,xms];rw [yah,yaw];rfl
   | false =>simp only [evE,yac,xgs,xgz,xjs,xbs,t0,yau,eqs,hn,ya3,if_true,List.length_cons,List.length_nil,Nat.zero_add,Nat.reduceAdd,Nat.reduceLeDiff,xms,Bool.false_eq_true,if_false];rw [yah,yaq];rfl]
  rw [zra];rfl
 exact (zah rfl (by simp [evE,yac,ygm,Sl.get,ct]) rfl).trans ((zah rfl e5 rfl).trans ((zah rfl e6 rfl).trans (za8 rfl e7)))
end
section
variable {m:Nat} {way:Str}
theorem znb {c:Col}:∀ {cs:List Col},c∈cs->(cs.map (·.n)).Nodup->∃ j:Nat,zbh (.str c.n) (cs.map fun c=>T.str c.n)=some j/\cs[j]?=some c
 | y::cs,h,nd=>by
  rw [zy1] at nd;obtain ⟨n1,n2⟩:=ua6.mp nd;rw [zy1,zbh];by_cases e:y.n=c.n
  .rcases omc h with e1 | h1
   .exact ⟨0,by simp [eqT,e],by rw [e1];rfl⟩
   .exact (n1 (ua0.mpr ⟨c,h1,e.symm⟩)).elim
  .rcases omc h with e1 | h1
   .exact absurd (by rw [e1]) e
   .obtain ⟨j,h2,h3⟩:=znb h1 n2;refine ⟨j+1,?_,by simpa using h3⟩;rw [if_neg (by simpa [eqT] using e),h2];rfl
theorem zi0 (cs:List Col):((cs.map fun c=>T.str c.n).all flat)=true:=by rw [List.all_map];exact uc0.mpr fun c _=>rfl
noncomputable def Prs (b:Tb) (L:List (Str × T)):Prop:=∀ p∈L,∃ c∈b.cs,c.n=p.1/\Wok c p.2/\(c.g=false->p.2≠.non)/\Sml p.2
noncomputable def prT (p:Str × T):T:=.tup [.str p.1,p.2]
theorem zqv {n j:Nat} (h:j<n):ixI n (j:Int)=some j:=by unfold ixI;rw [if_pos (by lia),if_pos (by lia)];simp
theorem RowOk.set {b:Tb} {qs:Row} (h:RowOk b qs) {j:Nat} {c:Col} {w:T} (hj:b.cs[j]?=some c) (h1:Wok c w) (h2:c.g=false->w≠.non) (h3:Sml w):RowOk b (qs.set j (c,w))/\(qs.set j (c,w)).map (·.2)=(qs.map (·.2)).set j w:=by
 refine ⟨⟨?_,fun p hp=>?_,fun p hp=>?_,fun p hp=>?_⟩,by rw [List.map_set]⟩
 .rw [List.map_set,h.cs];exact List.ext_getElem? fun i=>by
   rw [List.getElem?_set];split
   .rename_i e;subst e;rw [hj];split
    .rfl
    .rename_i hn;exact absurd (ome hj).1 hn
   .rfl
 .rcases List.mem_or_eq_of_mem_set hp with hp | rfl
  .exact h.wk p hp
  .exact h1
 .rcases List.mem_or_eq_of_mem_set hp with hp | rfl
  .exact h.ng p hp
  .exact h2
 .rcases List.mem_or_eq_of_mem_set hp with hp | rfl
  .exact h.sm p hp
  .exact h3
theorem zpf {G:Glo} {i:Nat} {k v:E} {τ:List Sl} {ts:List T} {j:Nat} {w:T} {ss:List S} (h0:yaf (yaj v++yaj k) τ=τ) (h1:evE G v (ygm τ)=some w) (h2:evE G k (ygm τ)=some (.int (j:Int))) (h3:τ[i]?=some (.own ts)) (h4:j<ts.length):yab G (.dput i k v::ss) τ=yab G ss (τ.set i (.own (ts.set j w))) :=
 zan (by rw [evS,h0,h1,zyx,h2,zyx,h3];show Option.map _ (Option.map _ (ixI ts.length (j:Int)))=_;rw [zqv h4];rfl)
theorem zt9 {G:Glo} {b:Tb} (hb:b.ok) {ps:Row} (hp:RowOk b ps) {L:List (Str × T)} (hL:Prs b L) {A:T} (hA:items .plain [A]=some (L.map prT)) (cn:G.call "_law_names" [b.t]=some (.lst (b.cs.map fun c=>T.str c.n))) :
  ∃ qs,yab G zdq.body [.val b.t,.val (yag ps),.val A,.no,.no,.no]=some (.rt (yag qs))/\RowOk b qs:=by
 obtain ⟨τ',el,qs,s4,s5,rfl,hq⟩:=zak (enc:=prT) (f:=fun x τ=>(ya0 [4,5] x τ).bind fun τ'=>yab G wiB τ') (I:=fun _ τ=>∃ (qs:Row) (s4 s5:Sl),τ=[.val b.t,.val (yag ps),.val A,.own (qs.map (·.2)),s4,s5]/\RowOk b qs) L [.val b.t,.val (yag ps),.val A,.own (ps.map (·.2)),.no,.no] ⟨ps,_,_,rfl,hp⟩ fun l1 p l2 e τ h=>by
  obtain ⟨qs,s4,s5,rfl,hq⟩:=h;obtain ⟨c,hc,e1,h1,h2,h3⟩:=hL p (by rw [e];simp);obtain ⟨j,g1,g2⟩:=znb hc hb.nd;obtain ⟨q1,q2⟩:=hq.set g2 h1 h2 h3;refine ⟨[.val b.t,.val (yag ps),.val A,.own ((qs.set j (c,p.2)).map (·.2)),.val (.str p.1),.val p.2],?_,_,_,_,rfl,q1⟩;show yab G wiB [.val b.t,.val (yag ps),.val A,.own (qs.map (·.2)),.val (.str p.1),.val p.2]=_;have hk:evE G (.mth .index (.call "_law_names" [.var 0]) (.var 4)) (ygm [.val b.t,.val (yag ps),.val A,.own (qs.map (·.2)),.val (.str p.1),.val p.2])=some (.int (j:Int)):=by rw [zf2];simp only [evE,yac,ygm,Sl.get,xmc,xmn,xgs,xgz,xjs,xbs,cn];simp only [ybj];rw [<- e1,if_pos (by rw [zi0];rfl),g1];rfl
  have hlt:j<(qs.map (·.2)).length:=by rw [zy3,<- zy3 (f:=(·.1)),hq.cs];exact (ome g2).1
  refine (zpf (ts:=qs.map (·.2)) rfl rfl hk rfl hlt).trans ?_;rw [q2];rfl
 refine ⟨qs,?_,hq⟩;have e1:evS G (.nw 3 (.blt .toList (.var 1))) [.val b.t,.val (yag ps),.val A,.no,.no,.no]=some (.nx [.val b.t,.val (yag ps),.val A,.own (ps.map (·.2)),.no,.no]):=rfl;refine (zan e1).trans ((zan (zao rfl rfl hA el)).trans ?_);show yab G [.ret (.blt .toTuple (.var 3))] [.val b.t,.val (yag ps),.val A,.own (qs.map (·.2)),s4,s5]=_;exact zbe rfl
noncomputable def lkT (b:Tb) (qa:List Str) (g:Str) (ps:Row):T:=.tup [.tup [.str b.nm,kyT b ps],yar qa,.tup [.str g,woT qa ps]]
structure Lk where
 b:Tb
 qa:List Str
 g:Str
 ps:Row
noncomputable def Lk.t (l:Lk):T:=lkT l.b l.qa l.g l.ps
noncomputable def lkR (way:Str) (z:Zt):Rl->List Lk
 | .ref qa g w=>if w==way then z.2.map fun ps=>⟨z.1,qa,g,ps⟩ else []
 | _=>[]
noncomputable def lks (way:Str) (Z:List Zt):List Lk:=Z.flatMap fun z=>z.1.rs.flatMap (lkR way z)
structure Lk.ok (B:List Tb) (way:Str) (l:Lk):Prop where
 b:l.b∈B
 r:Rl.ref l.qa l.g way∈l.b.rs
 p:RowOk l.b l.ps
theorem zqp {B:List Tb} {Z:List Zt} (h:Stn B m Z) {l:Lk} (hl:l∈lks way Z):l.ok B way/\∃ z∈Z,z.1=l.b/\l.ps∈z.2:=by
 obtain ⟨z,hz,hl⟩:=ue1.mp hl;obtain ⟨r,hr,hl⟩:=ue1.mp hl;cases r with
 | ref qa g w =>
  have hl':l∈(if w==way then z.2.map (fun ps=>(⟨z.1,qa,g,ps⟩:Lk)) else []):=hl;clear hl;split at hl'
  .rename_i hw;obtain ⟨ps,hps,rfl⟩:=omm hl';have hw:=ua2 hw;subst hw;exact ⟨⟨h.mem hz,hr,(h.rw z hz).2.1 ps hps⟩,z,hz,rfl,hps⟩
  .cases hl'
 | unl _=>cases hl
 | chk _=>cases hl
theorem zdf {α β:Type} {f:α->List β} {k:Nat}:∀ {l:List α},(∀ a∈l,(f a).length<=k)->(l.flatMap f).length<=l.length*k
 | [],_=>by simp
 | a::l,h=>by rw [List.flatMap_cons,zy4,zzb,Nat.add_mul,Nat.one_mul];have h1:=h a zzg;have h2:=zdf (l:=l) fun x hx=>h x (zzc _ hx);lia
theorem zl8 {z:Zt} (h:z.2.length<=m) (r:Rl):(lkR way z r).length<=m:=by
 cases r with
 | ref qa g w =>
  show (if w==way then z.2.map (fun ps=>(⟨z.1,qa,g,ps⟩:Lk)) else []).length<=m;split
  .rw [zy3];exact h
  .exact zzp _
 | _=>simp [lkR]
theorem zl7 {z:Zt} (hb:z.1.ok) (h:z.2.length<=m):(z.1.rs.flatMap (lkR way z)).length<=4*m :=
 zzs (zdf fun r _=>zl8 h r) (Nat.mul_le_mul_right _ hb.rl)
theorem zs9 {B:List Tb} {Z:List Zt} (H:Sch B) (h:Stn B m Z) (way:Str):(lks way Z).length<=16*m:=by
 have h1:=zdf (l:=Z) (f:=fun z=>z.1.rs.flatMap (lkR way z)) (k:=4*m) fun z hz=>zl7 (H.ok _ (h.mem hz)) (h.rw z hz).1;have h2:=Nat.mul_le_mul_right (4*m) (show Z.length<=4 by rw [h.len];exact H.l4);have:4*(4*m)=16*m:=by lia
 unfold lks;lia
end
section
structure Cls (G:Glo) (B:List Tb) (Z:List Zt):Prop where
 tb:∀ b∈B,G.call "_law_table" [yaa Z,.str b.nm]=some b.t
 ky:∀ b∈B,∀ ps,RowOk b ps->G.call "_law_key" [b.t,yag ps]=some (kyT b ps)
 nm:∀ b∈B,G.call "_law_names" [b.t]=some (.lst (b.cs.map fun c=>T.str c.n))
 rw:∀ z∈Z,G.call "_law_rows" [yaa Z,stT Z,.str z.1.nm]=some (rwT z)
 wo:∀ b∈B,∀ ps,RowOk b ps->∀ qa:List Str,(∀ x∈qa,∃ c∈b.cs,c.n=x)->qa.length<=4->G.call "_law_worths" [b.t,yag ps,yar qa]=some (woT qa ps)
theorem t3 (b:Tb):yah b.t (.int 3)=some (.tup (b.rs.map Rl.t)):=by rw [Tb.t,ybf,yah,yec]
theorem t2 (b:Tb):yah b.t (.int 2)=some (yar b.key):=by rw [Tb.t,ybf,yah,ya5];rfl
noncomputable def ygd:Rl->Bool
 | .ref _ _ _=>true
 | _=>false
theorem r0 (r:Rl):∃ w:Str,yah r.t (.int 0)=some (.str w)/\(w==("refers":Str))=ygd r:=by
 cases r with
 | ref cs t w=>exact ⟨"refers",by rw [Rl.t,yah,yaq],show (("refers":Str)=="refers")=true by decide +kernel⟩
 | unl cs=>exact ⟨"unlike",by rw [Rl.t,yah,yaq],show (("unlike":Str)=="refers")=false by decide +kernel⟩
 | chk t=>exact ⟨"check",by rw [Rl.t,yah,yaq],show (("check":Str)=="refers")=false by decide +kernel⟩
theorem rf1 (cs:List Str) (t w:Str):yah (Rl.ref cs t w).t (.int 1)=some (yar cs):=by rw [Rl.t,yah,yaw]
theorem rf2 (cs:List Str) (t w:Str):yah (Rl.ref cs t w).t (.int 2)=some (.str t):=by rw [Rl.t,yah,ya5]
theorem rf3 (cs:List Str) (t w:Str):yah (Rl.ref cs t w).t (.int 3)=some (.str w):=by rw [Rl.t,yah,yec]
theorem zci {G:Glo} {a b:E} {r:Env} (h:evE G a r=some (.bl false)):evE G (.land a b) r=some (.bl false):=by rw [evE,h];rfl
theorem zb5 {G:Glo} {a b:E} {r:Env} (h:evE G a r=some (.bl true)):evE G (.land a b) r=evE G b r:=by rw [evE,h];rfl
theorem zhe {G:Glo} {i:Nat} {e:E} {τ:List Sl} {ts:List T} {t:T} {ss:List S} (h0:yaf (yaj e) τ=τ) (h1:evE G e (ygm τ)=some t) (h2:τ[i]?=some (.own ts)) (h3:ts.length<SZ):yab G (.app i e::ss) τ=yab G ss (τ.set i (.own (ts++[t]))) :=
 zan (by rw [evS,h0,h1,zyx,h2];show (if ts.length<SZ then _ else _)=_;rw [if_pos h3])
theorem zac (l:List T):items .plain [.tup l]=some l:=rfl
theorem zbb (l:List T):items .plain [.lst l]=some l:=rfl
theorem zat:100000<SZ:=by decide
theorem zg1 {ns:List Str} {cs:List Col} {ks:List Str} {t w:Str} (h:(Rl.ref ks t w).fits ns cs):∀ x∈ks,∃ c∈cs,c.n=x:=fun x hx=>by obtain ⟨c,hc,e,_⟩:=h.1 x hx;exact ⟨c,hc,e⟩
section
variable {G:Glo} {B:List Tb} {m:Nat} {Z:List Zt} (H:Sch B) (h:Stn B m Z) (C:Cls G B Z) (hm:m<=60) (way:Str)
include H h C hm
theorem ln_c {z:Zt} (hz:z∈Z) {qa:List Str} {g:Str} (hr:Rl.ref qa g way∈z.1.rs) (L:List T) (hL:L.length<=960) (s6 s7:Sl) :
  ∃ s6' s7',yas (fun x τ=>(ya0 [6] x τ).bind fun τ'=>yab G lnC τ') (z.2.map yag) [.val (yaa Z),.val (stT Z),.val (.str way),.own L,.val z.1.t,.val (Rl.ref qa g way).t,s6,s7]=some (.nx [.val (yaa Z),.val (stT Z),.val (.str way),.own (L++z.2.map fun ps=>lkT z.1 qa g ps),.val z.1.t,.val (Rl.ref qa g way).t,s6',s7']):=by
 have hb:=H.ok _ (h.mem hz);have hfit:=H.fit _ (h.mem hz) _ hr;have hc4:qa.length<=4:=(hb.rs _ hr).2.1;obtain ⟨τ',el,s6',s7',rfl⟩:=zak (enc:=yag) (f:=fun x τ=>(ya0 [6] x τ).bind fun τ'=>yab G lnC τ') (I:=fun done τ=>∃ s6 s7:Sl,τ=[.val (yaa Z),.val (stT Z),.val (.str way),.own (L++done.map fun ps=>lkT z.1 qa g ps),.val z.1.t,.val (Rl.ref qa g way).t,s6,s7]) z.2 [.val (yaa Z),.val (stT Z),.val (.str way),.own L,.val z.1.t,.val (Rl.ref qa g way).t,s6,s7] ⟨_,_,by rw [List.map_nil,zzm]⟩ fun l1 ps l2 e τ hI=>by
  obtain ⟨s6,s7,rfl⟩:=hI;have hps:ps∈z.2:=by rw [e];simp
  have hp:=(h.rw z hz).2.1 ps hps;have c1:=C.wo _ (h.mem hz) ps hp qa (zg1 hfit) hc4;have c2:=C.ky _ (h.mem hz) ps hp;have hl1:l1.length<=m:=by have:=(h.rw z hz).1;rw [e,zy4] at this;lia
  refine ⟨_,?_,.val (yag ps),.val (woT qa ps),rfl⟩;show yab G lnC [.val (yaa Z),.val (stT Z),.val (.str way),.own (L++l1.map fun ps=>lkT z.1 qa g ps),.val z.1.t,.val (Rl.ref qa g way).t,.val (yag ps),s7]=_;refine (zah (t:=woT qa ps) rfl (by simp only [evE,yac,ygm,Sl.get,xmc,xmn,xgs,xgz,xjs,xbs,rf1,c1]) rfl).trans ?_;refine (zhe (t:=lkT z.1 qa g ps) (ts:=L++l1.map fun ps=>lkT z.1 qa g ps) rfl (by simp only [evE,yac,ygm,Sl.get,xmc,xmn,xss,xsz,xgs,xgz,xjs,xbs,rf1,rf2,c2,t0,List.length_cons,List.length_nil,Nat.zero_add,Nat.reduceAdd,Nat.reduceLeDiff,if_true,xms];rfl) rfl (by rw [zy4,zy3];have:=zat;lia)).trans ?_;rw [zzq,zz8];rfl
 exact ⟨s6',s7',el⟩
theorem ln_b {z:Zt} (hz:z∈Z) (L:List T) (hL:L.length<=720) (s5 s6 s7:Sl) :
  ∃ s5' s6' s7',yas (fun x τ=>(ya0 [5] x τ).bind fun τ'=>yab G lnB τ') (z.1.rs.map Rl.t) [.val (yaa Z),.val (stT Z),.val (.str way),.own L,.val z.1.t,s5,s6,s7]=some (.nx [.val (yaa Z),.val (stT Z),.val (.str way),.own (L++(z.1.rs.flatMap (lkR way z)).map Lk.t),.val z.1.t,s5',s6',s7']):=by
 have hb:=H.ok _ (h.mem hz);obtain ⟨τ',el,s5',s6',s7',rfl⟩:=zak (enc:=Rl.t) (f:=fun x τ=>(ya0 [5] x τ).bind fun τ'=>yab G lnB τ') (I:=fun done τ=>∃ s5 s6 s7:Sl,τ=[.val (yaa Z),.val (stT Z),.val (.str way),.own (L++(done.flatMap (lkR way z)).map Lk.t),.val z.1.t,s5,s6,s7]) z.1.rs [.val (yaa Z),.val (stT Z),.val (.str way),.own L,.val z.1.t,s5,s6,s7] ⟨_,_,_,by rw [List.flatMap_nil,List.map_nil,zzm]⟩ fun l1 r l2 e τ hI=>by
  obtain ⟨s5,s6,s7,rfl⟩:=hI;have hr:r∈z.1.rs:=by rw [e];simp
  have hl1:(l1.flatMap (lkR way z)).length<=4*m:=by
   have h1:=zdf (l:=l1) (f:=lkR way z) (k:=m) fun r _=>zl8 (h.rw z hz).1 r;have h2:l1.length<=4:=by have:=hb.rl;rw [e,zy4] at this;lia
   exact zzs h1 (Nat.mul_le_mul_right _ h2)
  obtain ⟨w0,i0,hw0⟩:=r0 r;have c1:evE G (.cmp .eq (.idx (.var 5) (.cst (.int 0))) (.cst (.str "refers"))) (ygm [.val (yaa Z),.val (stT Z),.val (.str way),.own (L++(l1.flatMap (lkR way z)).map Lk.t),.val z.1.t,.val r.t,s6,s7])=some (.bl (w0=="refers")):=by simp only [evE,ygm,Sl.get,xmc,xmn,xgs,xgz,xjs,xbs,i0,yau,eqs]
  have fm:(l1++[r]).flatMap (lkR way z)=l1.flatMap (lkR way z)++lkR way z r:=by simp
  rw [fm,zzq,<- zz8];have no:lkR way z r=[]->evE G (.land (.cmp .eq (.idx (.var 5) (.cst (.int 0))) (.cst (.str "refers"))) (.cmp .eq (.idx (.var 5) (.cst (.int 3))) (.var 2))) (ygm [.val (yaa Z),.val (stT Z),.val (.str way),.own (L++(l1.flatMap (lkR way z)).map Lk.t),.val z.1.t,.val r.t,s6,s7])=some (.bl false)->∃ τ',((ya0 [5] r.t [.val (yaa Z),.val (stT Z),.val (.str way),.own (L++(l1.flatMap (lkR way z)).map Lk.t),.val z.1.t,s5,s6,s7]).bind fun τ'=>yab G lnB τ')=some (.nx τ')/\∃ s5 s6 s7:Sl,τ'=[.val (yaa Z),.val (stT Z),.val (.str way),.own (L++(l1.flatMap (lkR way z)).map Lk.t++(lkR way z r).map Lk.t),.val z.1.t,s5,s6,s7]:=fun e1 e2=>by refine ⟨_,(zau (τ:=[.val (yaa Z),.val (stT Z),.val (.str way),.own (L++(l1.flatMap (lkR way z)).map Lk.t),.val z.1.t,.val r.t,s6,s7]) rfl e2).trans rfl,.val r.t,s6,s7,?_⟩;rw [e1,List.map_nil,zzm]
  cases r with
  | unl cs=>exact no rfl (zci (c1.trans (zze (fun b=>some (T.bl b)) hw0)))
  | chk t=>exact no rfl (zci (c1.trans (zze (fun b=>some (T.bl b)) hw0)))
  | ref qa g w =>
   have c2:evE G (.cmp .eq (.idx (.var 5) (.cst (.int 3))) (.var 2)) (ygm [.val (yaa Z),.val (stT Z),.val (.str way),.own (L++(l1.flatMap (lkR way z)).map Lk.t),.val z.1.t,.val (Rl.ref qa g w).t,s6,s7])=some (.bl (w==way)):=by simp only [evE,ygm,Sl.get,xmc,xmn,xgs,xgz,xjs,xbs,rf3,yau,eqs]
   cases hw:(w==way) with
   | false=>exact no (by show (if w==way then _ else _)=_;rw [hw];rfl) ((zb5 (c1.trans (zze (fun b=>some (T.bl b)) hw0))).trans (c2.trans (zze (fun b=>some (T.bl b)) hw)))
   | true =>
    have ew:=ua2 hw;subst ew;obtain ⟨s6',s7',ec⟩:=ln_c H h C hm w hz hr (L++(l1.flatMap (lkR w z)).map Lk.t) (by rw [zy4,zy3];lia) s6 s7;have er:yac G [.call "_law_rows" [.var 0,.var 1,.idx (.var 4) (.cst (.int 0))]] (ygm [.val (yaa Z),.val (stT Z),.val (.str w),.own (L++(l1.flatMap (lkR w z)).map Lk.t),.val z.1.t,.val (Rl.ref qa g w).t,s6,s7])=some [rwT z]:=by have:=C.rw z hz;simp only [evE,yac,ygm,Sl.get,xmc,xmn,xgs,xgz,xjs,xbs,t0,this]
    refine ⟨_,(zc0 (τ:=[.val (yaa Z),.val (stT Z),.val (.str w),.own (L++(l1.flatMap (lkR w z)).map Lk.t),.val z.1.t,.val (Rl.ref qa g w).t,s6,s7]) rfl ((zb5 (c1.trans (zze (fun b=>some (T.bl b)) hw0))).trans (c2.trans (zze (fun b=>some (T.bl b)) hw))) ((zan (zao (xs:=[rwT z]) rfl er (zac _) ec)).trans rfl)).trans rfl,.val (Rl.ref qa g w).t,s6',s7',?_⟩;have:lkR w z (.ref qa g w)=z.2.map fun ps=>(⟨z.1,qa,g,ps⟩:Lk):=by show (if w==w then _ else _)=_;rw [hw];rfl
    rw [this,zzn];rfl
 exact ⟨s5',s6',s7',el⟩
theorem zta:yab G zc4.body [.val (yaa Z),.val (stT Z),.val (.str way),.no,.no,.no,.no,.no]=some (.rt (.lst ((lks way Z).map Lk.t))):=by
 obtain ⟨τ',el,s4,s5,s6,s7,rfl⟩:=zak (enc:=fun z:Zt=>z.1.t) (f:=fun x τ=>(ya0 [4] x τ).bind fun τ'=>yab G lnA τ') (I:=fun done τ=>∃ s4 s5 s6 s7:Sl,τ=[.val (yaa Z),.val (stT Z),.val (.str way),.own ((lks way done).map Lk.t),s4,s5,s6,s7]) Z [.val (yaa Z),.val (stT Z),.val (.str way),.own [],.no,.no,.no,.no] ⟨_,_,_,_,rfl⟩ fun l1 z l2 e τ hI=>by
  obtain ⟨s4,s5,s6,s7,rfl⟩:=hI;have hz:z∈Z:=by rw [e];simp
  have hlen:(lks way l1).length<=720:=by
   have h1:=zdf (l:=l1) (f:=fun z=>z.1.rs.flatMap (lkR way z)) (k:=4*m) fun y hy=>by
    have hy:y∈Z:=by rw [e];simp [hy]
    exact zl7 (H.ok _ (h.mem hy)) (h.rw y hy).1
   have h2:l1.length<=3:=by have h3:=h.len;have:=H.l4;rw [e,zy4,zzb] at h3;lia
   have h3:=Nat.mul_le_mul h2 (show 4*m<=240 by lia);unfold lks;lia
  obtain ⟨s5',s6',s7',eb⟩:=ln_b H h C hm way hz ((lks way l1).map Lk.t) (by rw [zy3];exact hlen) s5 s6 s7;have er:yac G [.idx (.var 4) (.cst (.int 3))] (ygm [.val (yaa Z),.val (stT Z),.val (.str way),.own ((lks way l1).map Lk.t),.val z.1.t,s5,s6,s7])=some [.tup (z.1.rs.map Rl.t)]:=by simp only [evE,yac,ygm,Sl.get,xmc,xmn,xgs,xgz,xjs,xbs,t3]
  refine ⟨_,(zan (zao (τ:=[.val (yaa Z),.val (stT Z),.val (.str way),.own ((lks way l1).map Lk.t),.val z.1.t,s5,s6,s7]) (xs:=[.tup (z.1.rs.map Rl.t)]) rfl er (zac _) eb)).trans rfl,.val z.1.t,s5',s6',s7',?_⟩;have:lks way (l1++[z])=lks way l1++z.1.rs.flatMap (lkR way z):=by unfold lks;simp
  rw [this,zzq]
 exact (zah rfl rfl rfl).trans ((zan (zao (xs:=[yaa Z]) rfl rfl (zac _) el)).trans (zbe rfl))
end
end
section
variable {a ss:List S} {τ:List Sl}
theorem zjb {G:Glo} {c:E} (h1:evE G c (ygm (yaf (yaj c) τ))=some (.bl false)):yab G (.ite c a []::ss) τ=yab G ss τ:=zan (by rw [evS,h1];rfl)
theorem zwz {G:Glo} {c:E} {b:List S} {τ':List Sl} (h1:evE G c (ygm (yaf (yaj c) τ))=some (.bl true)) (h2:yab G a τ=some (.nx τ')):yab G (.ite c a b::ss) τ=yab G ss τ':=zan (by rw [evS,h1];exact h2)
theorem zqw {G:Glo} {c:E} {b:List S} {t:T} (h1:evE G c (ygm (yaf (yaj c) τ))=some (.bl true)) (h2:yab G a τ=some (.rt t)):yab G (.ite c a b::ss) τ=some (.rt t):=zbe (by rw [evS,h1];exact h2)
theorem zgd {f:List Sl->Option Out} {g:List Sl->Option T} (I:Nat->List Sl->Prop) (hs:∀ k τ,I k τ->g τ=some (.bl false)\/∃ k' τ',k=k'+1/\g τ=some (.bl true)/\f τ=some (.nx τ')/\I k' τ') :
  ∀ n k τ,I k τ->k<n->∃ k' τ',ybn f g n τ=some (.nx τ')/\I k' τ'/\g τ'=some (.bl false)
 | 0,_,_,_,h=>absurd h (Nat.not_lt_zero _)
 | n+1,k,τ,h,hk=>by
  rcases hs k τ h with e | ⟨k',τ',rfl,e1,e2,h2⟩
  .exact ⟨k,τ,by rw [ybn,e];rfl,h,e⟩
  .obtain ⟨k2,τ2,e3,h3,h4⟩:=zgd I hs n k' τ' h2 (by lia);exact ⟨k2,τ2,by rw [ybn,e1,zyx];show Option.bind (f τ) _=_;rw [e2];exact e3,h3,h4⟩
theorem zde {α:Type} {enc:α->T} {f:T->List Sl->Option Out} {I:List Sl->Prop} {V:T->Prop}:∀ (l:List α) (τ:List Sl),I τ->(∀ a∈l,∀ τ,I τ->(∃ τ',f (enc a) τ=some (.nx τ')/\I τ')\/∃ v,f (enc a) τ=some (.rt v)/\V v) ->
  (∃ τ',yas f (l.map enc) τ=some (.nx τ')/\I τ')\/∃ v,yas f (l.map enc) τ=some (.rt v)/\V v
 | [],τ,h,_=>.inl ⟨τ,rfl,h⟩
 | a::l,τ,h,hs=>by
  rcases hs a zzg τ h with ⟨τ',e,h'⟩ | ⟨v,e,hv⟩
  .rcases zde l τ' h' fun b hb=>hs b (zzc _ hb) with ⟨τ2,e2,h2⟩ | ⟨v,e2,hv⟩
   .exact .inl ⟨τ2,by rw [zy1,yas,e];exact e2,h2⟩
   .exact .inr ⟨v,by rw [zy1,yas,e];exact e2,hv⟩
  .exact .inr ⟨v,by rw [zy1,yas,e];rfl,hv⟩
abbrev Pl:=Str × List Kt
noncomputable def plT (p:Pl):T:=.tup [.str p.1,tkT p.2]
noncomputable def Lk.pl (l:Lk):Pl:=(l.b.nm,ya1 l.b l.ps)
noncomputable def Lk.gl (l:Lk):T:=.tup [.str l.g,woT l.qa l.ps]
theorem Lk.t_eq (l:Lk):l.t=.tup [plT l.pl,yar l.qa,l.gl]:=rfl
theorem zw8 (a b:Pl):eqT (plT a) (plT b)=decide (a=b):=by show (eqT (.str a.1) (.str b.1)&&(eqT (tkT a.2) (tkT b.2)&&true))=_;rw [zn1,Bool.and_true];show ((a.1==b.1)&&_)=_;rcases a with ⟨a1,a2⟩;rcases b with ⟨b1,b2⟩;by_cases e1:a1=b1<;>by_cases e2:a2=b2<;>simp [e1,e2]
theorem zxd (a b:Pl):dpP (plT a) (plT b)=2:=by show max 0 (max (dpP (tkT a.2) (tkT b.2)) 0)+1=2;rw [zkc];rfl
theorem zys (qa:List Str) (ps:Row) (k:List Kt):dpP (woT qa ps) (tkT k)<=1/\dpP (tkT k) (woT qa ps)<=1:=by
 unfold woT;split
 .exact ⟨zzp _,zzp _⟩
 .rw [zkc,zkc];exact ⟨zza _,zza _⟩
theorem zxe (l:Lk) (p:Pl):dpP l.gl (plT p)<=30/\dpP (plT p) l.gl<=30:=by
 have h:=zys l.qa l.ps p.2;constructor
 .show max 0 (max (dpP (woT l.qa l.ps) (tkT p.2)) 0)+1<=30;lia
 .show max 0 (max (dpP (tkT p.2) (woT l.qa l.ps)) 0)+1<=30;lia
theorem zo7 (a:Pl) (g:List Pl):inC (plT a) (.lst (g.map plT))=some (g.any fun x=>decide (x=a)):=by
 show (if dpI (plT a) (g.map plT)=true then some ((g.map plT).any fun z=>eqT z (plT a)) else none)=_;rw [if_pos,List.any_map]
 .congr 2;funext x;exact zw8 x a
 .unfold dpI;rw [List.all_map];exact uc0.mpr fun x _=>zzj (by show dpP (plT x) (plT a)<=30;rw [zxd];decide)
theorem zw0 (l:Lk) (g:List Pl):∃ b,inC l.gl (.lst (g.map plT))=some b:=by refine ⟨(g.map plT).any fun z=>eqT z l.gl,?_⟩;show (if dpI l.gl (g.map plT)=true then _ else none)=_;rw [if_pos];unfold dpI;rw [List.all_map];exact uc0.mpr fun x _=>zzj (zxe l x).2
theorem zf0 (b:Tb) (R:List Row) (k:List Kt):inC (tkT k) (.lst (R.map (kyT b)))=some (R.any fun ps=>decide (ya1 b ps=k)):=by
 show (if dpI (tkT k) (R.map (kyT b)) then some ((R.map (kyT b)).any fun z=>eqT z (tkT k)) else none)=_;rw [if_pos,List.any_map]
 .congr 2;funext ps;exact zn1 _ _
 .unfold dpI;rw [List.all_map];exact uc0.mpr fun ps _=>zzj (by show dpP (tkT _) (tkT k)<=30;rw [zkc];decide)
noncomputable def pls (Z:List Zt):List Pl:=Z.flatMap fun z=>z.2.map fun ps=>(z.1.nm,ya1 z.1 ps)
theorem zle {B:List Tb} {m:Nat} {Z:List Zt} (H:Sch B) (h:Stn B m Z):(pls Z).length<=4*m:=by
 have h1:=zdf (l:=Z) (f:=fun z=>z.2.map fun ps=>(z.1.nm,ya1 z.1 ps)) (k:=m) fun z hz=>by rw [zy3];exact (h.rw z hz).1
 exact zzs h1 (Nat.mul_le_mul_right _ (by rw [h.len];exact H.l4))
theorem zwh {B:List Tb} {m:Nat} {Z:List Zt} (h:Stn B m Z) {way:Str} {l:Lk} (hl:l∈lks way Z):l.pl∈pls Z:=by obtain ⟨_,z,hz,e,hp⟩:=zqp h hl;exact ue1.mpr ⟨z,hz,ua0.mpr ⟨l.ps,hp,by rw [e];rfl⟩⟩
theorem zi2 {α:Type} [DecidableEq α]:∀ {l u:List α},l.Nodup->(∀ x∈l,x∈u)->l.length<=u.length
 | [],_,_,_=>zzp _
 | x::l,u,nd,h=>by obtain ⟨n1,n2⟩:=ua6.mp nd;have hx:=h x zzg;have:=zi2 (u:=u.erase x) n2 fun y hy=>(List.mem_erase_of_ne fun e=>n1 (by rw [<- e];exact hy)).mpr (h y (zzc _ hy));rw [List.length_erase_of_mem hx] at this;have:=List.length_pos_of_mem hx;rw [zzb];lia
structure Gst (U gone todo:List Pl):Prop where
 nd:gone.Nodup
 su:∀ p∈gone,p∈U
 le:todo.length<=gone.length
section
variable {G:Glo} {B:List Tb} {m:Nat} {Z:List Zt} (H:Sch B) (h:Stn B m Z) (hm:m<=60) (cl:∀ way:Str,G.call "_law_links" [yaa Z,stT Z,.str way]=some (.lst ((lks way Z).map Lk.t)))
variable (X0 X1 X2 X3 X4:T) (s11:Sl)
include H h hm in
theorem zym {here:Pl} {gone todo:List Pl} (g:Gst (pls Z) gone todo) (s8 s9 s10:Sl) :
  ∃ gone' todo' s8' s9' s10',yas (fun x τ=>(ya0 [8,9,10] x τ).bind fun τ'=>yab G goI τ') ((lks "along" Z).map Lk.t) [.val X0,.val X1,.val X2,.val X3,.val X4,.own (gone.map plT),.own (todo.map plT),.val (plT here),s8,s9,s10,s11]=some (.nx [.val X0,.val X1,.val X2,.val X3,.val X4,.own (gone'.map plT),.own (todo'.map plT),.val (plT here),s8',s9',s10',s11])/\Gst (pls Z) gone' todo'/\gone'.length+todo.length=gone.length+todo'.length:=by
 have hU:=zle H h;obtain ⟨τ',el,gone',todo',s8',s9',s10',rfl,g',e'⟩:=zak (enc:=Lk.t) (f:=fun x τ=>(ya0 [8,9,10] x τ).bind fun τ'=>yab G goI τ') (I:=fun _ τ=>∃ (gone' todo':List Pl) (s8 s9 s10:Sl),τ=[.val X0,.val X1,.val X2,.val X3,.val X4,.own (gone'.map plT),.own (todo'.map plT),.val (plT here),s8,s9,s10,s11]/\Gst (pls Z) gone' todo'/\gone'.length+todo.length=gone.length+todo'.length) (lks "along" Z) [.val X0,.val X1,.val X2,.val X3,.val X4,.own (gone.map plT),.own (todo.map plT),.val (plT here),s8,s9,s10,s11] ⟨gone,todo,_,_,_,rfl,g,rfl⟩ fun l1 l l2 e τ hI=>by
  obtain ⟨gone',todo',s8,s9,s10,rfl,g',e'⟩:=hI;have hl:l∈lks "along" Z:=by rw [e];simp
  have hgl:=zi2 g'.nd g'.su;have hsz:=zat;show ∃ τ',yab G goI [.val X0,.val X1,.val X2,.val X3,.val X4,.own (gone'.map plT),.own (todo'.map plT),.val (plT here),.val (plT l.pl),.val (yar l.qa),.val l.gl,s11]=some (.nx τ')/\_;have c1:evE G (.cmp .eq (.var 10) (.var 7)) (ygm [.val X0,.val X1,.val X2,.val X3,.val X4,.val (.lst (gone'.map plT)),.own (todo'.map plT),.val (plT here),.val (plT l.pl),.val (yar l.qa),.val l.gl,s11])=some (.bl (eqT l.gl (plT here))):=by show eqC l.gl (plT here)=_;unfold eqC;rw [if_pos (zxe l here).1]
  have c2:evE G (.cmp .notin (.var 8) (.var 5)) (ygm [.val X0,.val X1,.val X2,.val X3,.val X4,.val (.lst (gone'.map plT)),.own (todo'.map plT),.val (plT here),.val (plT l.pl),.val (yar l.qa),.val l.gl,s11])=some (.bl (!(gone'.any fun x=>decide (x=l.pl)))):=by show (inC (plT l.pl) (.lst (gone'.map plT))).map _=_;rw [zo7];rfl
  have no:evE G (.land (.cmp .eq (.var 10) (.var 7)) (.cmp .notin (.var 8) (.var 5))) (ygm [.val X0,.val X1,.val X2,.val X3,.val X4,.val (.lst (gone'.map plT)),.own (todo'.map plT),.val (plT here),.val (plT l.pl),.val (yar l.qa),.val l.gl,s11])=some (.bl false)->∃ τ',yab G goI [.val X0,.val X1,.val X2,.val X3,.val X4,.own (gone'.map plT),.own (todo'.map plT),.val (plT here),.val (plT l.pl),.val (yar l.qa),.val l.gl,s11]=some (.nx τ')/\∃ (gone'_1 todo'_1:List Pl) (s8 s9 s10:Sl),τ'=[.val X0,.val X1,.val X2,.val X3,.val X4,.own (gone'_1.map plT),.own (todo'_1.map plT),.val (plT here),s8,s9,s10,s11]/\Gst (pls Z) gone'_1 todo'_1/\gone'_1.length+todo.length=gone.length+todo'_1.length:=fun hc =>⟨_,(zjb (τ:=[.val X0,.val X1,.val X2,.val X3,.val X4,.own (gone'.map plT),.own (todo'.map plT),.val (plT here),.val (plT l.pl),.val (yar l.qa),.val l.gl,s11]) hc).trans rfl,gone',todo',_,_,_,rfl,g',e'⟩;cases q1:eqT l.gl (plT here) with
  | false=>exact no (zci (c1.trans (zze (fun b=>some (T.bl b)) q1)))
  | true =>
   have c3:=(zb5 (c1.trans (zze (fun b=>some (T.bl b)) q1))).trans c2;cases q2:(gone'.any fun x=>decide (x=l.pl)) with
   | true=>exact no (c3.trans (zze (fun b=>some (T.bl (!b))) q2))
   | false =>
    have hnot:l.pl∉gone':=fun hin=>by rw [List.any_eq_false] at q2;exact q2 _ hin (zzj rfl)
    refine ⟨[.val X0,.val X1,.val X2,.val X3,.val X4,.own ((gone'++[l.pl]).map plT),.own ((todo'++[l.pl]).map plT),.val (plT here),.val (plT l.pl),.val (yar l.qa),.val l.gl,s11],?_,gone'++[l.pl],todo'++[l.pl],_,_,_,rfl,⟨?_,fun p hp=>?_,?_⟩,?_⟩
    .refine (zwz (τ:=[.val X0,.val X1,.val X2,.val X3,.val X4,.own (gone'.map plT),.own (todo'.map plT),.val (plT here),.val (plT l.pl),.val (yar l.qa),.val l.gl,s11]) (c3.trans (zze (fun b=>some (T.bl (!b))) q2)) ?_).trans rfl;refine (zhe (ts:=gone'.map plT) (t:=plT l.pl) rfl rfl rfl (by rw [zy3];lia)).trans ((zhe (ts:=todo'.map plT) (t:=plT l.pl) rfl rfl rfl (by rw [zy3];have:=g'.le;lia)).trans ?_);rw [zzq,zzq];rfl
    .rw [List.nodup_append];exact ⟨g'.nd,by simp,fun a ha b hb=>by rw [ue0] at hb;rw [hb];exact fun e=>hnot (by rw [<- e];exact ha)⟩
    .rcases oma hp with hp | hp
     .exact g'.su p hp
     .rw [omg hp];exact zwh h hl
    .have:=g'.le;simp;lia
    .simp;lia
 exact ⟨gone',todo',s8',s9',s10',el,g',e'⟩
end
end
section
noncomputable def Gng (Z:List Zt) (t:T):Prop:=(∃ i:Int,t=.int i)\/∃ (gone:List Pl) (gaps:List Lk),t=.tup [.lst (gone.map plT),.lst (gaps.map Lk.t)]/\∀ l∈gaps,l∈lks "gap" Z
theorem zqm {α:Type} (f:α->T) (l:List α):neC (.lst (l.map f)) (.lst [])=some (.bl (!l.isEmpty)):=by unfold neC;rw [if_pos (by simp [dpP,ycj]),eqT,zcl]
section
variable {G:Glo} {B:List Tb} {m:Nat} {Z:List Zt} (H:Sch B) (h:Stn B m Z) (hm:m<=60) (cl:∀ way:Str,G.call "_law_links" [yaa Z,stT Z,.str way]=some (.lst ((lks way Z).map Lk.t)))
variable (X2 X3 X4:T)
include H h hm cl
theorem zpa {gone todo:List Pl} (g:Gst (pls Z) gone todo):∃ (gone' todo':List Pl) (s7 s8 s9 s10:Sl),evS G (.wloop (.cmp .ne (.var 6) (.lst [])) goW) [.val (yaa Z),.val (stT Z),.val X2,.val X3,.val X4,.own (gone.map plT),.own (todo.map plT),.no,.no,.no,.no,.no]=some (.nx [.val (yaa Z),.val (stT Z),.val X2,.val X3,.val X4,.own (gone'.map plT),.own (todo'.map plT),s7,s8,s9,s10,.no]):=by
 have hU:=zle H h;have hgl:=zi2 g.nd g.su;have key:=zgd (f:=fun τ=>yab G goW τ) (g:=fun τ=>evE G (.cmp .ne (.var 6) (.lst [])) (ygm (yaf (yaj (.cmp .ne (.var 6) (.lst []))) τ)))
  (I:=fun k τ=>∃ (gone todo:List Pl) (s7 s8 s9 s10:Sl),τ=[.val (yaa Z),.val (stT Z),.val X2,.val X3,.val X4,.own (gone.map plT),.own (todo.map plT),s7,s8,s9,s10,.no]/\Gst (pls Z) gone todo/\(pls Z).length+todo.length=gone.length+k) (fun k τ hI=>by
   obtain ⟨gone,todo,s7,s8,s9,s10,rfl,g,e⟩:=hI;have hc:evE G (.cmp .ne (.var 6) (.lst [])) (ygm (yaf (yaj (.cmp .ne (.var 6) (.lst []))) [.val (yaa Z),.val (stT Z),.val X2,.val X3,.val X4,.own (gone.map plT),.own (todo.map plT),s7,s8,s9,s10,.no]))=some (.bl (!todo.isEmpty)):=zqm plT todo;rcases List.eq_nil_or_concat todo with rfl | ⟨t1,p,rfl⟩
   .exact .inl hc
   .have hgl:=zi2 g.nd g.su;have hle:=g.le;rw [List.concat_eq_append] at *;rw [zy4,zz0] at e hle;obtain ⟨gone',todo',s8',s9',s10',e1,g',e2⟩:=zym (G:=G) H h hm (yaa Z) (stT Z) X2 X3 X4 .no (here:=p) (gone:=gone) (todo:=t1) ⟨g.nd,g.su,by lia⟩ s8 s9 s10;refine .inr ⟨k-1,[.val (yaa Z),.val (stT Z),.val X2,.val X3,.val X4,.own (gone'.map plT),.own (todo'.map plT),.val (plT p),s8',s9',s10',.no],by lia,hc.trans (by cases t1<;>rfl),?_,gone',todo',_,_,_,_,rfl,g',by lia⟩;have e3:evS G (.lpop 7 6) [.val (yaa Z),.val (stT Z),.val X2,.val X3,.val X4,.own (gone.map plT),.own ((t1++[p]).map plT),s7,s8,s9,s10,.no]=some (.nx [.val (yaa Z),.val (stT Z),.val X2,.val X3,.val X4,.own (gone.map plT),.own (t1.map plT),.val (plT p),s8,s9,s10,.no]):=by
     rw [evS];show (match ((t1++[p]).map plT)[((t1++[p]).map plT).length-1]? with | some t=>_ | none=>_)=_;have i1:((t1++[p]).map plT)[((t1++[p]).map plT).length-1]?=some (plT p):=by simp
     have i2:((t1++[p]).map plT).dropLast=t1.map plT:=by simp
     rw [i1,i2];rfl
    have er:yac G [.call "_law_links" [.var 0,.var 1,.cst (.str "along")]] (ygm [.val (yaa Z),.val (stT Z),.val X2,.val X3,.val X4,.own (gone.map plT),.own (t1.map plT),.val (plT p),s8,s9,s10,.no])=some [.lst ((lks "along" Z).map Lk.t)]:=by simp only [evE,yac,ygm,Sl.get,xmc,xmn,xgs,xgz,xjs,xbs,cl]
    exact (zan e3).trans ((zan (zao (xs:=[.lst ((lks "along" Z).map Lk.t)]) rfl er (zbb _) e1)).trans rfl))
 generalize hn:1000=N at key;obtain ⟨k',τ',e,⟨gone',todo',s7,s8,s9,s10,rfl,_⟩,_⟩:=key N ((pls Z).length+todo.length-gone.length) _ ⟨gone,todo,.no,.no,.no,.no,rfl,g,by lia⟩ (by have:=g.le;lia);refine ⟨gone',todo',s7,s8,s9,s10,?_⟩;rw [evS,hn];exact e
theorem zto {gone:List Pl} (s6 s7 s8 s9 s10:Sl) :
  (∃ s8' s9' s10',evS G (.loop [8,9,10] .plain [.call "_law_links" [.var 0,.var 1,.cst (.str "stop")]] goS) [.val (yaa Z),.val (stT Z),.val X2,.val X3,.val X4,.own (gone.map plT),s6,s7,s8,s9,s10,.no]=some (.nx [.val (yaa Z),.val (stT Z),.val X2,.val X3,.val X4,.own (gone.map plT),s6,s7,s8',s9',s10',.no])) \/
  evS G (.loop [8,9,10] .plain [.call "_law_links" [.var 0,.var 1,.cst (.str "stop")]] goS) [.val (yaa Z),.val (stT Z),.val X2,.val X3,.val X4,.own (gone.map plT),s6,s7,s8,s9,s10,.no]=some (.rt (.int 5)):=by
 have er:yac G [.call "_law_links" [.var 0,.var 1,.cst (.str "stop")]] (ygm [.val (yaa Z),.val (stT Z),.val X2,.val X3,.val X4,.own (gone.map plT),s6,s7,s8,s9,s10,.no])=some [.lst ((lks "stop" Z).map Lk.t)]:=by simp only [evE,yac,ygm,Sl.get,xmc,xmn,xgs,xgz,xjs,xbs,cl]
 rcases zde (enc:=Lk.t) (f:=fun x τ=>(ya0 [8,9,10] x τ).bind fun τ'=>yab G goS τ') (I:=fun τ=>∃ s8 s9 s10:Sl,τ=[.val (yaa Z),.val (stT Z),.val X2,.val X3,.val X4,.own (gone.map plT),s6,s7,s8,s9,s10,.no]) (V:=fun v=>v=.int 5) (lks "stop" Z) _ ⟨s8,s9,s10,rfl⟩ (fun l _ τ hI=>by
  obtain ⟨s8,s9,s10,rfl⟩:=hI;obtain ⟨b1,i1⟩:=zw0 l gone;have c1:evE G (.cmp .isin (.var 10) (.var 5)) (ygm [.val (yaa Z),.val (stT Z),.val X2,.val X3,.val X4,.val (.lst (gone.map plT)),s6,s7,.val (plT l.pl),.val (yar l.qa),.val l.gl,.no])=some (.bl b1):=by show (inC l.gl (.lst (gone.map plT))).map _=_;rw [i1];rfl
  have c2:evE G (.cmp .notin (.var 8) (.var 5)) (ygm [.val (yaa Z),.val (stT Z),.val X2,.val X3,.val X4,.val (.lst (gone.map plT)),s6,s7,.val (plT l.pl),.val (yar l.qa),.val l.gl,.no])=some (.bl (!(gone.any fun x=>decide (x=l.pl)))):=by show (inC (plT l.pl) (.lst (gone.map plT))).map _=_;rw [zo7];rfl
  show (∃ τ',yab G goS [.val (yaa Z),.val (stT Z),.val X2,.val X3,.val X4,.own (gone.map plT),s6,s7,.val (plT l.pl),.val (yar l.qa),.val l.gl,.no]=some (.nx τ')/\_)\/∃ v,yab G goS [.val (yaa Z),.val (stT Z),.val X2,.val X3,.val X4,.own (gone.map plT),s6,s7,.val (plT l.pl),.val (yar l.qa),.val l.gl,.no]=some (.rt v)/\_;cases b1 with
  | false=>exact .inl ⟨_,(zjb (τ:=[.val (yaa Z),.val (stT Z),.val X2,.val X3,.val X4,.own (gone.map plT),s6,s7,.val (plT l.pl),.val (yar l.qa),.val l.gl,.no]) (zci c1)).trans rfl,_,_,_,rfl⟩
  | true =>
   cases q:(gone.any fun x=>decide (x=l.pl)) with
   | true=>exact .inl ⟨_,(zjb (τ:=[.val (yaa Z),.val (stT Z),.val X2,.val X3,.val X4,.own (gone.map plT),s6,s7,.val (plT l.pl),.val (yar l.qa),.val l.gl,.no]) ((zb5 c1).trans (c2.trans (zze (fun b=>some (T.bl (!b))) q)))).trans rfl,_,_,_,rfl⟩
   | false=>exact .inr ⟨.int 5,zqw (τ:=[.val (yaa Z),.val (stT Z),.val X2,.val X3,.val X4,.own (gone.map plT),s6,s7,.val (plT l.pl),.val (yar l.qa),.val l.gl,.no]) ((zb5 c1).trans (c2.trans (zze (fun b=>some (T.bl (!b))) q))) (zbe rfl),rfl⟩) with ⟨τ',e,s8',s9',s10',rfl⟩ | ⟨v,e,rfl⟩
 .exact .inl ⟨s8',s9',s10',zao rfl er (zbb _) e⟩
 .exact .inr (zao rfl er (zbb _) e)
theorem ztn (C:Cls G B Z) {z:Zt} (hz:z∈Z) (k:List Kt):∃ t,yab G zbn.body [.val (yaa Z),.val (stT Z),.val (.str z.1.nm),.val (tkT k),.no,.no,.no,.no,.no,.no,.no,.no]=some (.rt t)/\Gng Z t:=by
 have ct:=C.tb _ (h.mem hz);have cr:=C.rw z hz;have hR:=(h.rw z hz).2.1;have hl:z.2.length<=16777216:=by have:=(h.rw z hz).1;lia
 refine (fun q=>by
  obtain ⟨t,e,g⟩:=q;exact ⟨t,(zah (t:=z.1.t) (τ':=[.val (yaa Z),.val (stT Z),.val (.str z.1.nm),.val (tkT k),.val z.1.t,.no,.no,.no,.no,.no,.no,.no]) rfl (by simp only [evE,yac,ygm,Sl.get,xmc,xmn,xgs,xgz,xjs,xbs,ct]) rfl).trans e,g⟩ :
  (∃ t,yab G (zbn.body.drop 1) [.val (yaa Z),.val (stT Z),.val (.str z.1.nm),.val (tkT k),.val z.1.t,.no,.no,.no,.no,.no,.no,.no]=some (.rt t)/\Gng Z t)->_) ?_
 have ec:evE G (.comp (.call "_law_key" [.var 5,.var 0]) 1 .plain [.call "_law_rows" [.var 0,.var 1,.var 2]] none) (ygm [.val (yaa Z),.val (stT Z),.val (.str z.1.nm),.val (tkT k),.val z.1.t,.no,.no,.no,.no,.no,.no,.no])=some (.lst (z.2.map (kyT z.1))):=by
  rw [zaq];have s1:yac G [.call "_law_rows" [.var 0,.var 1,.var 2]] (ygm [.val (yaa Z),.val (stT Z),.val (.str z.1.nm),.val (tkT k),.val z.1.t,.no,.no,.no,.no,.no,.no,.no])=some [rwT z]:=by simp only [evE,yac,ygm,Sl.get,xmc,xmn,xgs,xgz,xjs,xbs,cr]
  have s2:yae .plain [rwT z]=some (z.2.map yag):=by unfold yae;rw [rwT,zac,zyx,if_pos (by rw [zy3];exact hl)]
  rw [s1,zyx,s2,zyx,zaf (enc:=yag) (kyT z.1) fun ps hp=>by have:=C.ky _ (h.mem hz) ps (hR ps hp);simp only [bnd,if_true,xbs,evE,yac,ygm,Sl.get,xmc,xmn,xgs,xgz,xjs,this,xms]];rfl
 have hc:evE G (.cmp .notin (.var 3) (.comp (.call "_law_key" [.var 5,.var 0]) 1 .plain [.call "_law_rows" [.var 0,.var 1,.var 2]] none)) (ygm [.val (yaa Z),.val (stT Z),.val (.str z.1.nm),.val (tkT k),.val z.1.t,.no,.no,.no,.no,.no,.no,.no])=some (.bl (!(z.2.any fun ps=>decide (ya1 z.1 ps=k)))):=by rw [evE,ec];show (inC (tkT k) (.lst (z.2.map (kyT z.1)))).map _=_;rw [zf0];rfl
 cases q:(z.2.any fun ps=>decide (ya1 z.1 ps=k)) with
 | false=>exact ⟨.int 1,zb7 rfl (hc.trans (zze (fun b=>some (T.bl (!b))) q)) (zbe rfl),.inl ⟨1,rfl⟩⟩
 | true =>
  have hmem:(z.1.nm,k)∈pls Z:=by obtain ⟨ps,hps,e⟩:=List.any_eq_true.mp q;exact ue1.mpr ⟨z,hz,ua0.mpr ⟨ps,hps,by rw [zAc e]⟩⟩
  obtain ⟨gone,todo,s7,s8,s9,s10,ew⟩:=zpa H h hm cl (.str z.1.nm) (tkT k) z.1.t (gone:=[(z.1.nm,k)]) (todo:=[(z.1.nm,k)]) ⟨by simp,fun p hp=>by rw [omg hp];exact hmem,Nat.le_refl _⟩;have pre:yab G (zbn.body.drop 1) [.val (yaa Z),.val (stT Z),.val (.str z.1.nm),.val (tkT k),.val z.1.t,.no,.no,.no,.no,.no,.no,.no]=yab G (zbn.body.drop 5) [.val (yaa Z),.val (stT Z),.val (.str z.1.nm),.val (tkT k),.val z.1.t,.own (gone.map plT),.own (todo.map plT),s7,s8,s9,s10,.no] :=
   (zau rfl (hc.trans (zze (fun b=>some (T.bl (!b))) q))).trans ((zah (t:=.lst [plT (z.1.nm,k)]) (τ':=[.val (yaa Z),.val (stT Z),.val (.str z.1.nm),.val (tkT k),.val z.1.t,.own [plT (z.1.nm,k)],.no,.no,.no,.no,.no,.no]) rfl rfl rfl).trans ((zah (t:=.lst [plT (z.1.nm,k)]) (τ':=[.val (yaa Z),.val (stT Z),.val (.str z.1.nm),.val (tkT k),.val z.1.t,.own [plT (z.1.nm,k)],.own [plT (z.1.nm,k)],.no,.no,.no,.no,.no]) rfl rfl rfl).trans (zan ew)))
  rw [pre];rcases zto H h hm cl (.str z.1.nm) (tkT k) z.1.t (gone:=gone) (.own (todo.map plT)) s7 s8 s9 s10 with ⟨s8',s9',s10',es⟩ | es
  .have eg:evE G (.comp (.var 0) 1 .plain [.call "_law_links" [.var 0,.var 1,.cst (.str "gap")]] (some (.land (.cmp .isin (.idx (.var 0) (.cst (.int 2))) (.var 6)) (.cmp .notin (.idx (.var 0) (.cst (.int 0))) (.var 6))))) (ygm [.val (yaa Z),.val (stT Z),.val (.str z.1.nm),.val (tkT k),.val z.1.t,.val (.lst (gone.map plT)),.own (todo.map plT),s7,s8',s9',s10',.no])=some (.lst (((lks "gap" Z).filter fun l=>(inC l.gl (.lst (gone.map plT))==some true)&&!(gone.any fun x=>decide (x=l.pl))).map Lk.t)):=by
    refine zga (enc:=Lk.t) (R:=lks "gap" Z) (fun l=>(inC l.gl (.lst (gone.map plT))==some true)&&!(gone.any fun x=>decide (x=l.pl))) Lk.t (xs:=[.lst ((lks "gap" Z).map Lk.t)]) ?_ ?_ fun l hl=>?_
    .simp only [evE,yac,ygm,Sl.get,xmc,xmn,xgs,xgz,xjs,xbs,cl]
    .unfold yae;rw [zbb,zyx,if_pos (by rw [zy3];have:=zs9 H h "gap";have:=zat;lia)]
    .obtain ⟨b1,i1⟩:=zw0 l gone;have g2:yah l.t (.int 2)=some l.gl:=by rw [Lk.t_eq,yah,ya5]
     have g0:yah l.t (.int 0)=some (plT l.pl):=by rw [Lk.t_eq,yah,yaq]
     refine ⟨_,rfl,?_,fun _=>rfl⟩;have c1:evE G (.cmp .isin (.idx (.var 0) (.cst (.int 2))) (.var 6)) (some l.t::ygm [.val (yaa Z),.val (stT Z),.val (.str z.1.nm),.val (tkT k),.val z.1.t,.val (.lst (gone.map plT)),.own (todo.map plT),s7,s8',s9',s10',.no])=some (.bl b1):=by simp only [evE,ygm,Sl.get,xmc,xmn,xgs,xgz,xjs,xbs,g2,yau,i1,xms]
     have c2:evE G (.cmp .notin (.idx (.var 0) (.cst (.int 0))) (.var 6)) (some l.t::ygm [.val (yaa Z),.val (stT Z),.val (.str z.1.nm),.val (tkT k),.val z.1.t,.val (.lst (gone.map plT)),.own (todo.map plT),s7,s8',s9',s10',.no])=some (.bl (!(gone.any fun x=>decide (x=l.pl)))):=by simp only [evE,ygm,Sl.get,xmc,xmn,xgs,xgz,xjs,xbs,g0,yau,zo7,xms]
     rw [i1];cases b1 with
     | false=>exact zci c1
     | true=>exact (zb5 c1).trans c2
   refine ⟨.tup [.lst (gone.map plT),.lst (((lks "gap" Z).filter fun l=>(inC l.gl (.lst (gone.map plT))==some true)&&!(gone.any fun x=>decide (x=l.pl))).map Lk.t)],(zan es).trans ((zh9 (τ0:=[.val (yaa Z),.val (stT Z),.val (.str z.1.nm),.val (tkT k),.val z.1.t,.val (.lst (gone.map plT)),.own (todo.map plT),s7,s8',s9',s10',.no]) rfl eg rfl).trans (zbe rfl)),.inr ⟨gone,_,rfl,fun l hl=>(ub8.mp hl).1⟩⟩
  .exact ⟨.int 5,zbe es,.inl ⟨5,rfl⟩⟩
end
end
section
structure Cal (G:Glo) (B:List Tb) (m:Nat):Prop where
 cl:∀ Z,Stn B m Z->Cls G B Z
 wi:∀ b∈B,∀ ps,RowOk b ps->∀ (L:List (Str × T)) (A:T),Prs b L->items .plain [A]=some (L.map prT)->∃ qs,G.call "_law_with" [b.t,yag ps,A]=some (yag qs)/\RowOk b qs
 pu:∀ Z,Stn B m Z->∀ z∈Z,∀ (R:List Row) (A:T),(∀ ps∈R,RowOk z.1 ps)->R.length<=60->items .plain [A]=some (R.map yag)->∃ R',G.call "_law_put" [yaa Z,stT Z,.str z.1.nm,A]=some (stT (ydb Z z.1.nm R'))/\R'.length<=R.length/\Rws z.1 R'
noncomputable def drB:List S:=[.asg 7 (.tup [.idx (.var 4) (.cst (.int 0)),.call "_law_key" [.var 4,.var 6]]),
  .loop [8,9,10] .plain [.var 3] drC,
  .asg 5 (.bin .add (.var 5) (.bin .mul (.lst [.var 6]) (.blt .toInt (.cmp .notin (.var 7) (.var 2)))))]
noncomputable def drA:List S:=[.asg 5 (.lst []),
  .loop [6] .plain [.call "_law_rows" [.var 0,.var 1,.idx (.var 4) (.cst (.int 0))]] drB,
  .asg 1 (.call "_law_put" [.var 0,.var 1,.idx (.var 4) (.cst (.int 0)),.var 5])]
section
variable {G:Glo} {B:List Tb} {m:Nat} (H:Sch B) (C:Cal G B m) (hm:m<=60) {gone:List Pl} {gaps:List Lk} (hg:∀ l∈gaps,l.ok B "gap")
include H C hg
theorem dr_c {b:Tb} (hb:b∈B) {ps:Row} (hp:RowOk b ps) (k:List Kt) (X0 X1 X2:T) (s5 s8 s9 s10:Sl) :
  ∃ qs s8' s9' s10',yas (fun x τ=>(ya0 [8,9,10] x τ).bind fun τ'=>yab G drC τ') (gaps.map Lk.t) [.val X0,.val X1,.val X2,.val (.lst (gaps.map Lk.t)),.val b.t,s5,.val (yag ps),.val (plT (b.nm,k)),s8,s9,s10]=some (.nx [.val X0,.val X1,.val X2,.val (.lst (gaps.map Lk.t)),.val b.t,s5,.val (yag qs),.val (plT (b.nm,k)),s8',s9',s10'])/\RowOk b qs:=by
 obtain ⟨τ',el,qs,s8',s9',s10',rfl,hq⟩:=zak (enc:=Lk.t) (f:=fun x τ=>(ya0 [8,9,10] x τ).bind fun τ'=>yab G drC τ') (I:=fun _ τ=>∃ (qs:Row) (s8 s9 s10:Sl),τ=[.val X0,.val X1,.val X2,.val (.lst (gaps.map Lk.t)),.val b.t,s5,.val (yag qs),.val (plT (b.nm,k)),s8,s9,s10]/\RowOk b qs) gaps [.val X0,.val X1,.val X2,.val (.lst (gaps.map Lk.t)),.val b.t,s5,.val (yag ps),.val (plT (b.nm,k)),s8,s9,s10] ⟨ps,_,_,_,rfl,hp⟩ fun l1 l l2 e τ hI=>by
  obtain ⟨qs,s8,s9,s10,rfl,hq⟩:=hI;have hl:=hg l (by rw [e];simp);show ∃ τ',yab G drC [.val X0,.val X1,.val X2,.val (.lst (gaps.map Lk.t)),.val b.t,s5,.val (yag qs),.val (plT (b.nm,k)),.val (plT l.pl),.val (yar l.qa),.val l.gl]=some (.nx τ')/\_;have c1:evE G (.cmp .eq (.var 8) (.var 7)) (ygm [.val X0,.val X1,.val X2,.val (.lst (gaps.map Lk.t)),.val b.t,s5,.val (yag qs),.val (plT (b.nm,k)),.val (plT l.pl),.val (yar l.qa),.val l.gl])=some (.bl (decide (l.pl=(b.nm,k)))):=by show eqC (plT l.pl) (plT (b.nm,k))=_;unfold eqC;rw [zxd,if_pos (by decide),zw8]
  by_cases ep:l.pl=(b.nm,k)
  .have eb:l.b=b:=zln H.nd hl.b hb (zze Prod.fst ep);have hr:=hl.r;rw [eb] at hr;have hf:=(H.fit b hb _ hr).1;have hc4:l.qa.length<=4:=((H.ok b hb).rs _ hr).2.1;obtain ⟨qs',cw,hq'⟩:=C.wi b hb qs hq (l.qa.map fun x=>(x,.non)) (.lst ((l.qa.map fun x=>(x,T.non)).map prT)) (fun p hp=>by obtain ⟨x,hx,rfl⟩:=omm hp;obtain ⟨c,hc,e1,e2⟩:=hf x hx;exact ⟨c,hc,e1,.inl rfl,(fun z=>by rw [e2 rfl] at z;cases z),trivial⟩) rfl;have ec:evE G (.comp (.tup [.var 0,.cst .non]) 1 .plain [.var 9] none) (ygm [.val X0,.val X1,.val X2,.val (.lst (gaps.map Lk.t)),.val b.t,s5,.val (yag qs),.val (plT (b.nm,k)),.val (plT l.pl),.val (yar l.qa),.val l.gl])=some (.lst ((l.qa.map fun x=>(x,T.non)).map prT)):=by
    rw [zaq];have s1:yac G [.var 9] (ygm [.val X0,.val X1,.val X2,.val (.lst (gaps.map Lk.t)),.val b.t,s5,.val (yag qs),.val (plT (b.nm,k)),.val (plT l.pl),.val (yar l.qa),.val l.gl])=some [yar l.qa]:=rfl;have s2:yae .plain [yar l.qa]=some (l.qa.map T.str):=by unfold yae;rw [yar,zac,zyx,if_pos (by rw [zy3];have:=zat;lia)]
    rw [s1,zyx,s2,zyx,zaf (enc:=T.str) (fun x=>prT (x,.non)) fun x _=>rfl,zzn];rfl
   refine ⟨_,(zc0 (τ:=[.val X0,.val X1,.val X2,.val (.lst (gaps.map Lk.t)),.val b.t,s5,.val (yag qs),.val (plT (b.nm,k)),.val (plT l.pl),.val (yar l.qa),.val l.gl]) rfl (c1.trans (by rw [zzj ep])) ((zah (t:=yag qs') rfl (by
    rw [show evE G (.call "_law_with" [.var 4,.var 6,.comp (.tup [.var 0,.cst .non]) 1 .plain [.var 9] none])=fun r=>(yac G [.var 4,.var 6,.comp (.tup [.var 0,.cst .non]) 1 .plain [.var 9] none] r).bind fun xs=>G.call "_law_with" xs from funext fun r=>by rw [evE]];dsimp only;rw [show yac G [.var 4,.var 6,.comp (.tup [.var 0,.cst .non]) 1 .plain [.var 9] none] (ygm [.val X0,.val X1,.val X2,.val (.lst (gaps.map Lk.t)),.val b.t,s5,.val (yag qs),.val (plT (b.nm,k)),.val (plT l.pl),.val (yar l.qa),.val l.gl])=some [b.t,yag qs,.lst ((l.qa.map fun x=>(x,T.non)).map prT)] by simp only [yac,ec,xbs];rfl];exact cw) rfl).trans rfl)).trans rfl,qs',_,_,_,rfl,hq'⟩
  .exact ⟨_,(zau (τ:=[.val X0,.val X1,.val X2,.val (.lst (gaps.map Lk.t)),.val b.t,s5,.val (yag qs),.val (plT (b.nm,k)),.val (plT l.pl),.val (yar l.qa),.val l.gl]) rfl (c1.trans (by rw [zzk ep]))).trans rfl,qs,_,_,_,rfl,hq⟩
 exact ⟨qs,s8',s9',s10',el,hq⟩
include hm
theorem dr_b {Z:List Zt} (h:Stn B m Z) {z:Zt} (hz:z∈Z) (X0 X1:T) (s6 s7 s8 s9 s10:Sl) :
  ∃ (R:List Row) (s6' s7' s8' s9' s10':Sl),yas (fun x τ=>(ya0 [6] x τ).bind fun τ'=>yab G drB τ') (z.2.map yag) [.val X0,.val X1,.val (.lst (gone.map plT)),.val (.lst (gaps.map Lk.t)),.val z.1.t,.own [],s6,s7,s8,s9,s10]=some (.nx [.val X0,.val X1,.val (.lst (gone.map plT)),.val (.lst (gaps.map Lk.t)),.val z.1.t,.own (R.map yag),s6',s7',s8',s9',s10'])/\R.length<=z.2.length/\∀ ps∈R,RowOk z.1 ps:=by
 have hb:=h.mem hz;have hlen:=(h.rw z hz).1;obtain ⟨τ',el,R,s6',s7',s8',s9',s10',rfl,hR1,hR2⟩:=zak (enc:=yag) (f:=fun x τ=>(ya0 [6] x τ).bind fun τ'=>yab G drB τ') (I:=fun done τ=>∃ (R:List Row) (s6 s7 s8 s9 s10:Sl),τ=[.val X0,.val X1,.val (.lst (gone.map plT)),.val (.lst (gaps.map Lk.t)),.val z.1.t,.own (R.map yag),s6,s7,s8,s9,s10]/\R.length<=done.length/\∀ ps∈R,RowOk z.1 ps) z.2 [.val X0,.val X1,.val (.lst (gone.map plT)),.val (.lst (gaps.map Lk.t)),.val z.1.t,.own [],s6,s7,s8,s9,s10] ⟨[],_,_,_,_,_,rfl,Nat.le_refl _,fun _ h=>absurd h (by simp)⟩ fun l1 ps l2 e τ hI=>by
  obtain ⟨R,s6,s7,s8,s9,s10,rfl,h1,h2⟩:=hI;have hp:=(h.rw z hz).2.1 ps (by rw [e];simp);have hl1:l1.length<=60:=by rw [e,zy4] at hlen;lia
  have ck:=(C.cl Z h).ky _ hb ps hp;obtain ⟨qs,s8',s9',s10',ec,hq⟩:=dr_c H C hg hb hp (ya1 z.1 ps) X0 X1 (.lst (gone.map plT)) (.own (R.map yag)) s8 s9 s10;have e7:evE G (.tup [.idx (.var 4) (.cst (.int 0)),.call "_law_key" [.var 4,.var 6]]) (ygm [.val X0,.val X1,.val (.lst (gone.map plT)),.val (.lst (gaps.map Lk.t)),.val z.1.t,.own (R.map yag),.val (yag ps),s7,s8,s9,s10])=some (plT (z.1.nm,ya1 z.1 ps)):=by simp only [evE,yac,ygm,Sl.get,xmc,xmn,xgs,xgz,xjs,xbs,t0,ck,List.length_cons,List.length_nil,Nat.zero_add,Nat.reduceAdd,Nat.reduceLeDiff,if_true,xms];rfl
  have e5:evE G (.bin .add (.var 5) (.bin .mul (.lst [.var 6]) (.blt .toInt (.cmp .notin (.var 7) (.var 2))))) (ygm [.val X0,.val X1,.val (.lst (gone.map plT)),.val (.lst (gaps.map Lk.t)),.val z.1.t,.val (.lst (R.map yag)),.val (yag qs),.val (plT (z.1.nm,ya1 z.1 ps)),s8',s9',s10'])=some (.lst ((R++(if (gone.any fun x=>decide (x=(z.1.nm,ya1 z.1 ps))) then [] else [qs])).map yag)):=by
   have c1:evE G (.cmp .notin (.var 7) (.var 2)) (ygm [.val X0,.val X1,.val (.lst (gone.map plT)),.val (.lst (gaps.map Lk.t)),.val z.1.t,.val (.lst (R.map yag)),.val (yag qs),.val (plT (z.1.nm,ya1 z.1 ps)),s8',s9',s10'])=some (.bl (!(gone.any fun x=>decide (x=(z.1.nm,ya1 z.1 ps))))):=by show (inC (plT _) (.lst (gone.map plT))).map _=_;rw [zo7];rfl
   have hz:R.length+1<=SZ:=by have:=zat;lia
   have hz0:R.length<=SZ:=by lia
   rw [zag,zag,zbk,c1];cases (gone.any fun x=>decide (x=(z.1.nm,ya1 z.1 ps))) with
   | true =>show ya2 (.lst (R.map yag)) (.lst [])=_;simp only [ya2];rw [if_pos (by rw [zy3,List.length_nil];exact hz0)];simp
   | false =>show ya2 (.lst (R.map yag)) (.lst [yag qs])=_;simp only [ya2];rw [if_pos (by rw [zy3];exact hz)];simp
  refine ⟨_,((zah (τ:=[.val X0,.val X1,.val (.lst (gone.map plT)),.val (.lst (gaps.map Lk.t)),.val z.1.t,.own (R.map yag),.val (yag ps),s7,s8,s9,s10]) rfl e7 rfl).trans ((zan (zao (xs:=[.lst (gaps.map Lk.t)]) rfl rfl (zbb _) ec)).trans (zh9 rfl e5 rfl))).trans rfl,_,_,_,_,_,_,rfl,?_,fun q hq'=>?_⟩
  .rw [zy4,zy4,zz0];split<;>simp<;>lia
  .rcases oma hq' with hq' | hq'
   .exact h2 q hq'
   .split at hq'
    .cases hq'
    .rw [omg hq'];exact hq
 exact ⟨R,s6',s7',s8',s9',s10',el,hR1,hR2⟩
theorem zm2 {Z:List Zt} (h:Stn B m Z):∃ Z',yab G zcg.body [.val (yaa Z),.val (stT Z),.val (.lst (gone.map plT)),.val (.lst (gaps.map Lk.t)),.no,.no,.no,.no,.no,.no,.no]=some (.rt (stT Z'))/\Stn B m Z':=by
 have hS:∀ {Y:List Zt},Stn B m Y->yaa Y=yaa Z:=fun hY=>hY.sch.trans h.sch.symm;obtain ⟨τ',el,Y,s4,s5,s6,s7,s8,s9,s10,rfl,hY⟩:=zak (enc:=Tb.t) (f:=fun x τ=>(ya0 [4] x τ).bind fun τ'=>yab G drA τ') (I:=fun _ τ=>∃ (Y:List Zt) (s4 s5 s6 s7 s8 s9 s10:Sl),τ=[.val (yaa Z),.val (stT Y),.val (.lst (gone.map plT)),.val (.lst (gaps.map Lk.t)),s4,s5,s6,s7,s8,s9,s10]/\Stn B m Y) B [.val (yaa Z),.val (stT Z),.val (.lst (gone.map plT)),.val (.lst (gaps.map Lk.t)),.no,.no,.no,.no,.no,.no,.no] ⟨Z,_,_,_,_,_,_,_,rfl,h⟩ fun l1 b l2 e τ hI=>by
  obtain ⟨Y,s4,s5,s6,s7,s8,s9,s10,rfl,hY⟩:=hI;have hb:b∈B:=by rw [e];simp
  obtain ⟨R0,hz⟩:=hY.of hb;have cr:=(C.cl Y hY).rw _ hz;rw [hS hY] at cr;obtain ⟨R,s6',s7',s8',s9',s10',eb,hR1,hR2⟩:=dr_b (gone:=gone) H C hm hg hY hz (yaa Z) (stT Y) s6 s7 s8 s9 s10;have hl:=(hY.rw _ hz).1;obtain ⟨R',cp,hR3,hR4⟩:=C.pu Y hY _ hz R (.lst (R.map yag)) hR2 (by lia) (zbb _);rw [hS hY] at cp;have er:yac G [.call "_law_rows" [.var 0,.var 1,.idx (.var 4) (.cst (.int 0))]] (ygm [.val (yaa Z),.val (stT Y),.val (.lst (gone.map plT)),.val (.lst (gaps.map Lk.t)),.val b.t,.own [],s6,s7,s8,s9,s10])=some [rwT (b,R0)]:=by simp only [evE,yac,ygm,Sl.get,xmc,xmn,xgs,xgz,xjs,xbs,t0,cr]
  have e1:evE G (.call "_law_put" [.var 0,.var 1,.idx (.var 4) (.cst (.int 0)),.var 5]) (ygm [.val (yaa Z),.val (stT Y),.val (.lst (gone.map plT)),.val (.lst (gaps.map Lk.t)),.val b.t,.val (.lst (R.map yag)),s6',s7',s8',s9',s10'])=some (stT (ydb Y b.nm R')):=by simp only [evE,yac,ygm,Sl.get,xmc,xmn,xgs,xgz,xjs,xbs,t0,cp]
  refine ⟨[.val (yaa Z),.val (stT (ydb Y b.nm R')),.val (.lst (gone.map plT)),.val (.lst (gaps.map Lk.t)),.val b.t,.val (.lst (R.map yag)),s6',s7',s8',s9',s10'],?_,ydb Y b.nm R',_,_,_,_,_,_,_,rfl,?_⟩
  .show yab G drA [.val (yaa Z),.val (stT Y),.val (.lst (gone.map plT)),.val (.lst (gaps.map Lk.t)),.val b.t,s5,s6,s7,s8,s9,s10]=_;exact (zah (t:=.lst []) (τ':=[.val (yaa Z),.val (stT Y),.val (.lst (gone.map plT)),.val (.lst (gaps.map Lk.t)),.val b.t,.own [],s6,s7,s8,s9,s10]) rfl rfl rfl).trans ((zan (zao (xs:=[rwT (b,R0)]) rfl er (zac _) eb)).trans ((zh9 (τ0:=[.val (yaa Z),.val (stT Y),.val (.lst (gone.map plT)),.val (.lst (gaps.map Lk.t)),.val b.t,.val (.lst (R.map yag)),s6',s7',s8',s9',s10']) rfl e1 rfl).trans rfl))
  exact zk9 hY H.nd hb (zza _) (zzs hR3 (zzs hR1 hl)) hR4
 refine ⟨Y,?_,hY⟩;have hi:items .plain [yaa Z]=some (B.map Tb.t):=by rw [h.sch];rfl
 exact (zan (zao (xs:=[yaa Z]) rfl rfl hi el)).trans (zbe rfl)
end
end
section
inductive Dd where
 | add (b:Tb) (ps:Row) | drp (b:Tb) (k:List Kt) | set (b:Tb) (k:List Kt) (L:List (Str × T))
noncomputable def Dd.b:Dd->Tb
 | .add b _=>b
 | .drp b _=>b
 | .set b _ _=>b
noncomputable def Dd.t:Dd->T
 | .add b ps=>.tup [.str "add",.str b.nm,yag ps]
 | .drp b k=>.tup [.str "drop",.str b.nm,tkT k]
 | .set b k L=>.tup [.str "set",.str b.nm,tkT k,.tup (L.map prT)]
noncomputable def kS (k:List Kt):Prop:=k.length<=2/\∀ x∈k,Sml (kT x)
theorem zth {b:Tb} (hb:b.ok) {ps:Row} (hp:RowOk b ps):kS (ya1 b ps):=by
 refine ⟨by unfold ya1;rw [zy3];exact hb.k1,fun x hx=>?_⟩;obtain ⟨y,hy,rfl⟩:=omm hx;obtain ⟨c,hc,e⟩:=hb.inn y hy;obtain ⟨p,hp1,hp2⟩:=hp.col hc;have v1:val ps y=p.2:=by rw [<- e,<- hp2];exact ze0 hp1 (hp.nd hb)
 show Sml (kT (kk (val ps y)));rw [v1,(zte (hp.wk p hp1)).2];exact hp.sm p hp1
structure Dd.ok (B:List Tb) (d:Dd):Prop where
 b:d.b∈B
 p:match d with
  | .add b ps=>RowOk b ps
  | .drp _ k=>kS k
  | .set b k L=>kS k/\Prs b L/\L.length<=4
theorem zir (k:List Kt):∀ {b:Tb} {R:List Row},(R.any fun ps=>decide (ya1 b ps=k))=true->∃ j:Nat,zbh (tkT k) (R.map (kyT b))=some j/\j<R.length
 | b,[],h=>by cases h
 | b,ps::R,h=>by
  rw [zy1,zbh];by_cases e:ya1 b ps=k
  .exact ⟨0,by rw [if_pos (by show eqT (tkT _) (tkT k)=true;rw [zn1];exact decide_eq_true e)],by simp⟩
  .rw [ub6,zzk e,Bool.false_or] at h;obtain ⟨j,h1,h2⟩:=zir k h;refine ⟨j+1,?_,by simpa using h2⟩;rw [if_neg (by show ¬ eqT (tkT _) (tkT k)=true;rw [zn1];simpa using e),h1];rfl
theorem zo8 (b:Tb) (R:List Row) (k:List Kt) {j:Nat} (h:zbh (tkT k) (R.map (kyT b))=some j):ybj .index (.lst (R.map (kyT b))) (tkT k)=some (.int (j:Int)):=by
 simp only [ybj];rw [if_pos,h]
 .rfl
 .rw [Bool.or_eq_true];right;unfold dpI;rw [List.all_map];exact uc0.mpr fun ps _=>zzj (by show dpP (tkT _) (tkT k)<=30;rw [zkc];decide)
noncomputable def Tld (B:List Tb) (m:Nat) (t:T):Prop:=(∃ i:Int,t=.int i)\/∃ Z,t=stT Z/\Stn B m Z
structure Cal2 (G:Glo) (B:List Tb) (m:Nat):Prop extends Cal G B m where
 go:∀ Z,Stn B m Z->∀ z∈Z,∀ k:List Kt,∃ t,G.call "_law_going" [yaa Z,stT Z,.str z.1.nm,tkT k]=some t/\Gng Z t
 dr:∀ Z,Stn B m Z->∀ (gone:List Pl) (gaps:List Lk),(∀ l∈gaps,l.ok B "gap")->∃ Z',G.call "_law_dropped" [yaa Z,stT Z,.lst (gone.map plT),.lst (gaps.map Lk.t)]=some (stT Z')/\Stn B m Z'
theorem yf2 (d:Dd):yah d.t (.int 1)=some (.str d.b.nm):=by cases d<;>rw [Dd.t,yah,yaw]<;>rfl
theorem zrk:(("add":Str)=="add")=true/\(("drop":Str)=="add")=false/\(("set":Str)=="add")=false/\(("drop":Str)=="drop")=true/\(("set":Str)=="drop")=false:=by decide +kernel
section
variable {G:Glo} {B:List Tb} {m:Nat} (H:Sch B) (C:Cal2 G B m) (hm:m<=50) {Z:List Zt} (h:Stn B m Z)
include H C hm h
theorem zx5 {d:Dd} (hd:d.ok B):∃ t,yab G zcm.body [.val (yaa Z),.val (stT Z),.val d.t,.no,.no,.no,.no,.no,.no]=some (.rt t)/\Tld B (m+1) t:=by
 obtain ⟨R,hz⟩:=h.of hd.b;have hb:=hd.b;have c:=C.cl Z h;have ct:=c.tb _ hb;have cr:=c.rw _ hz;have hR:=(h.rw _ hz).2.1;have hl:R.length<=m:=(h.rw _ hz).1;have hsz:=zat;have e6:evE G (.comp (.call "_law_key" [.var 5,.var 0]) 1 .plain [.var 5] none) (ygm [.val (yaa Z),.val (stT Z),.val d.t,.val (.str d.b.nm),.val d.b.t,.val (rwT (d.b,R)),.no,.no,.no])=some (.lst (R.map (kyT d.b))):=by
  rw [zaq];have s1:yac G [.var 5] (ygm [.val (yaa Z),.val (stT Z),.val d.t,.val (.str d.b.nm),.val d.b.t,.val (rwT (d.b,R)),.no,.no,.no])=some [rwT (d.b,R)]:=rfl;have s2:yae .plain [rwT (d.b,R)]=some (R.map yag):=by unfold yae;rw [rwT,zac,zyx,if_pos (by rw [zy3];show R.length<=SZ;lia)]
  rw [s1,zyx,s2,zyx,zaf (enc:=yag) (kyT d.b) fun ps hp=>by have:=c.ky _ hb ps (hR ps hp);simp only [bnd,if_true,xbs,evE,yac,ygm,Sl.get,xmc,xmn,xgs,xgz,xjs,this,xms]];rfl
 have pre:yab G zcm.body [.val (yaa Z),.val (stT Z),.val d.t,.no,.no,.no,.no,.no,.no]=yab G (zcm.body.drop 4) [.val (yaa Z),.val (stT Z),.val d.t,.val (.str d.b.nm),.val d.b.t,.val (rwT (d.b,R)),.val (.lst (R.map (kyT d.b))),.no,.no] :=
  (zah (t:=.str d.b.nm) (τ':=[.val (yaa Z),.val (stT Z),.val d.t,.val (.str d.b.nm),.no,.no,.no,.no,.no]) rfl (by simp only [evE,ygm,Sl.get,xmc,xmn,xgs,xgz,xjs,xbs,yf2]) rfl).trans
   ((zah (t:=d.b.t) (τ':=[.val (yaa Z),.val (stT Z),.val d.t,.val (.str d.b.nm),.val d.b.t,.no,.no,.no,.no]) rfl (by simp only [evE,yac,ygm,Sl.get,xmc,xmn,xgs,xgz,xjs,xbs,ct]) rfl).trans
    ((zah (t:=rwT (d.b,R)) (τ':=[.val (yaa Z),.val (stT Z),.val d.t,.val (.str d.b.nm),.val d.b.t,.val (rwT (d.b,R)),.no,.no,.no]) rfl (by simp only [evE,yac,ygm,Sl.get,xmc,xmn,xgs,xgz,xjs,xbs,cr]) rfl).trans (zah rfl e6 rfl)))
 rw [pre];have put:∀ (R1:List Row) (A:T),(∀ ps∈R1,RowOk d.b ps)->R1.length<=m+1->items .plain [A]=some (R1.map yag)->∃ t,G.call "_law_put" [yaa Z,stT Z,.str d.b.nm,A]=some t/\Tld B (m+1) t:=fun R1 A h1 h2 h3=>by obtain ⟨R',e,h4,h5⟩:=C.pu Z h _ hz R1 A h1 (by lia) h3;exact ⟨_,e,.inr ⟨_,rfl,zk9 h H.nd hb (by lia) (by lia) h5⟩⟩
 have w0:∀ (x w:Str) (b:Bool),yah d.t (.int 0)=some (.str x)->(x==w)=b->∀ s7 s8:Sl,evE G (.cmp .eq (.idx (.var 2) (.cst (.int 0))) (.cst (.str w))) (ygm [.val (yaa Z),.val (stT Z),.val d.t,.val (.str d.b.nm),.val d.b.t,.val (rwT (d.b,R)),.val (.lst (R.map (kyT d.b))),s7,s8])=some (.bl b):=fun x w b i e s7 s8=>by rw [<- e];simp only [evE,ygm,Sl.get,xmc,xmn,xgs,xgz,xjs,xbs,i,yau,eqs]
 obtain ⟨n1,n2,n3,n4,n5⟩:=zrk;cases d with
 | add b ps =>
  have hp:RowOk b ps:=hd.p;have i0:yah (Dd.add b ps).t (.int 0)=some (.str "add"):=by rw [Dd.t,yah,yaq]
  have i2:yah (Dd.add b ps).t (.int 2)=some (yag ps):=by rw [Dd.t,yah,ya5]
  have ck:=c.ky b hb ps hp;have c1:evE G (.cmp .isin (.call "_law_key" [.var 4,.idx (.var 2) (.cst (.int 2))]) (.var 6)) (ygm [.val (yaa Z),.val (stT Z),.val (Dd.add b ps).t,.val (.str b.nm),.val b.t,.val (rwT (b,R)),.val (.lst (R.map (kyT b))),.no,.no])=some (.bl (R.any fun q=>decide (ya1 b q=ya1 b ps))):=by simp only [evE,yac,ygm,Sl.get,xmc,xmn,xgs,xgz,xjs,xbs,i2,ck,yau];rw [kyT,zf0];rfl
  cases q:(R.any fun q=>decide (ya1 b q=ya1 b ps)) with
  | true=>exact ⟨.int 2,zb7 rfl (w0 "add" "add" true i0 n1 .no .no) (zb7 rfl (c1.trans (zze (fun b=>some (T.bl b)) q)) (zbe rfl)),.inl ⟨2,rfl⟩⟩
  | false =>
   obtain ⟨t,e,ht⟩:=put (R++[ps]) (.lst ((R++[ps]).map yag)) (fun q hq=>by
    rcases oma hq with hq | hq
    .exact hR q hq
    .rw [omg hq];exact hp) (by simp;exact hl) (zbb _)
   refine ⟨t,zb7 rfl (w0 "add" "add" true i0 n1 .no .no) ((zau rfl (c1.trans (zze (fun b=>some (T.bl b)) q))).trans (za8 rfl ?_)),ht⟩;have ea:evE G (.bin .add (.blt .toList (.var 5)) (.lst [.idx (.var 2) (.cst (.int 2))])) (ygm [.val (yaa Z),.val (stT Z),.val (Dd.add b ps).t,.val (.str b.nm),.val b.t,.val (rwT (b,R)),.val (.lst (R.map (kyT b))),.no,.no])=some (.lst ((R++[ps]).map yag)):=by rw [zag];simp only [evE,yac,ygm,Sl.get,xmc,xmn,xgs,xgz,xjs,xbs,i2,List.length_cons,List.length_nil,Nat.zero_add,Nat.reduceLeDiff,if_true,xms];show ya2 (.lst (R.map yag)) (.lst [yag ps])=_;simp only [ya2];rw [if_pos (by rw [zy3];show R.length+1<=SZ;lia),zzq];rfl
   rw [evE];simp only [yac,ea,xbs];exact e
 | drp b k =>
  have i0:yah (Dd.drp b k).t (.int 0)=some (.str "drop"):=by rw [Dd.t,yah,yaq]
  have i2:yah (Dd.drp b k).t (.int 2)=some (tkT k):=by rw [Dd.t,yah,ya5]
  obtain ⟨t,eg,hg⟩:=C.go Z h _ hz k;have e7:evE G (.call "_law_going" [.var 0,.var 1,.var 3,.idx (.var 2) (.cst (.int 2))]) (ygm [.val (yaa Z),.val (stT Z),.val (Dd.drp b k).t,.val (.str b.nm),.val b.t,.val (rwT (b,R)),.val (.lst (R.map (kyT b))),.no,.no])=some t:=by simp only [evE,yac,ygm,Sl.get,xmc,xmn,xgs,xgz,xjs,xbs,i2];exact eg
  rcases hg with ⟨i,rfl⟩ | ⟨gone,gaps,rfl,hgp⟩
  .exact ⟨.int i,(zau rfl (w0 "drop" "add" false i0 n2 .no .no)).trans (zb7 rfl (w0 "drop" "drop" true i0 n4 .no .no) ((zah rfl e7 rfl).trans (zb7 rfl rfl (zbe rfl)))),.inl ⟨i,rfl⟩⟩
  .obtain ⟨Z',ed,hZ'⟩:=C.dr Z h gone gaps fun l hl=>(zqp h (hgp l hl)).1;refine ⟨stT Z',(zau rfl (w0 "drop" "add" false i0 n2 .no .no)).trans (zb7 rfl (w0 "drop" "drop" true i0 n4 .no .no) ((zah rfl e7 rfl).trans ((zau rfl rfl).trans (za8 rfl ?_)))),.inr ⟨Z',rfl,hZ'.up (by lia)⟩⟩;simp only [evE,yac,ygm,Sl.get,yan,fresh,xss,xsz,xmc,xmn,xgs,xgz,xjs,xbs,yah,yaq,yaw];exact ed
 | set b k L =>
  have hL:Prs b L:=hd.p.2.1;have i0:yah (Dd.set b k L).t (.int 0)=some (.str "set"):=by rw [Dd.t,yah,yaq]
  have i2:yah (Dd.set b k L).t (.int 2)=some (tkT k):=by rw [Dd.t,yah,ya5]
  have i3:yah (Dd.set b k L).t (.int 3)=some (.tup (L.map prT)):=by rw [Dd.t,yah,yec]
  have c1:evE G (.cmp .notin (.idx (.var 2) (.cst (.int 2))) (.var 6)) (ygm [.val (yaa Z),.val (stT Z),.val (Dd.set b k L).t,.val (.str b.nm),.val b.t,.val (rwT (b,R)),.val (.lst (R.map (kyT b))),.no,.no])=some (.bl (!(R.any fun q=>decide (ya1 b q=k)))):=by simp only [evE,ygm,Sl.get,xmc,xmn,xgs,xgz,xjs,xbs,i2,yau];rw [zf0];rfl
  cases q:(R.any fun q=>decide (ya1 b q=k)) with
  | false=>exact ⟨.int 1,(zau rfl (w0 "set" "add" false i0 n3 .no .no)).trans ((zau rfl (w0 "set" "drop" false i0 n5 .no .no)).trans (zb7 rfl (c1.trans (zze (fun b=>some (T.bl (!b))) q)) (zbe rfl))),.inl ⟨1,rfl⟩⟩
  | true =>
   obtain ⟨j,hj,hjl⟩:=zir k q;have e8:evE G (.mth .index (.var 6) (.idx (.var 2) (.cst (.int 2)))) (ygm [.val (yaa Z),.val (stT Z),.val (Dd.set b k L).t,.val (.str b.nm),.val b.t,.val (rwT (b,R)),.val (.lst (R.map (kyT b))),.no,.no])=some (.int (j:Int)):=by simp only [evE,ygm,Sl.get,xmc,xmn,xgs,xgz,xjs,xbs,i2];exact zo8 b R k hj
   have hps:R[j]?=some R[j]:=zy5 hjl;obtain ⟨qs,ew,hq⟩:=C.wi b hb R[j] (hR _ (ua5 hjl)) L (.tup (L.map prT)) hL (zac _);obtain ⟨t,e,ht⟩:=put (R.take j++[qs]++R.drop (j+1)) (.tup ((R.take j++[qs]++R.drop (j+1)).map yag)) (fun p hp=>by
    rcases oma hp with hp | hp
    .rcases oma hp with hp | hp
     .exact hR p (ub5 hp)
     .rw [omg hp];exact hq
    .exact hR p (List.mem_of_mem_drop hp)) (by simp;lia) (zac _)
   refine ⟨t,(zau rfl (w0 "set" "add" false i0 n3 .no .no)).trans ((zau rfl (w0 "set" "drop" false i0 n5 .no .no)).trans ((zau rfl (c1.trans (zze (fun b=>some (T.bl (!b))) q))).trans ((zah (τ':=[.val (yaa Z),.val (stT Z),.val (Dd.set b k L).t,.val (.str b.nm),.val b.t,.val (rwT (b,R)),.val (.lst (R.map (kyT b))),.no,.val (.int (j:Int))]) rfl e8 rfl).trans (za8 rfl ?_)))),ht⟩;have gx:ybd (R.map yag) (j:Int)=some (yag R[j]):=zbj (by rw [zzr,hps];rfl);have ec:evE G (.call "_law_with" [.var 4,.idx (.var 5) (.var 8),.idx (.var 2) (.cst (.int 3))]) (ygm [.val (yaa Z),.val (stT Z),.val (Dd.set b k L).t,.val (.str b.nm),.val b.t,.val (rwT (b,R)),.val (.lst (R.map (kyT b))),.no,.val (.int (j:Int))])=some (yag qs):=by have gx':yah (rwT (b,R)) (.int (j:Int))=some (yag R[j]):=gx;simp only [evE,yac,ygm,Sl.get,xmc,xmn,xgs,xgz,xjs,xbs,i3,gx'];exact ew
   have ea:evE G (.bin .add (.bin .add (.sli (.var 5) none (some (.var 8))) (.tup [.call "_law_with" [.var 4,.idx (.var 5) (.var 8),.idx (.var 2) (.cst (.int 3))]])) (.sli (.var 5) (some (.bin .add (.var 8) (.cst (.int 1)))) none)) (ygm [.val (yaa Z),.val (stT Z),.val (Dd.set b k L).t,.val (.str b.nm),.val b.t,.val (rwT (b,R)),.val (.lst (R.map (kyT b))),.no,.val (.int (j:Int))])=some (.tup ((R.take j++[qs]++R.drop (j+1)).map yag)):=by
    have x1:evE G (.sli (.var 5) none (some (.var 8))) (ygm [.val (yaa Z),.val (stT Z),.val (Dd.set b k L).t,.val (.str b.nm),.val b.t,.val (rwT (b,R)),.val (.lst (R.map (kyT b))),.no,.val (.int (j:Int))])=some (.tup ((R.take j).map yag)):=by show some (T.tup (cut (R.map yag) none (some (j:Int))))=_;rw [zjl _ _ (by rw [zy3];lia),List.map_take]
    have x2:evE G (.sli (.var 5) (some (.bin .add (.var 8) (.cst (.int 1)))) none) (ygm [.val (yaa Z),.val (stT Z),.val (Dd.set b k L).t,.val (.str b.nm),.val b.t,.val (rwT (b,R)),.val (.lst (R.map (kyT b))),.no,.val (.int (j:Int))])=some (.tup ((R.drop (j+1)).map yag)):=by show some (T.tup (cut (R.map yag) (some (((j+1:Nat):Int))) none))=_;rw [zd9 _ _ (by rw [zy3];lia),List.map_drop]
    have x3:evE G (.tup [.call "_law_with" [.var 4,.idx (.var 5) (.var 8),.idx (.var 2) (.cst (.int 3))]]) (ygm [.val (yaa Z),.val (stT Z),.val (Dd.set b k L).t,.val (.str b.nm),.val b.t,.val (rwT (b,R)),.val (.lst (R.map (kyT b))),.no,.val (.int (j:Int))])=some (.tup [yag qs]):=by rw [evE];simp only [yac,ec,xbs,List.length_cons,List.length_nil,Nat.zero_add,Nat.reduceLeDiff,if_true,xms]
    rw [zag,zag,x1,x2,x3];show (ya2 (.tup ((R.take j).map yag)) (.tup [yag qs])).bind (fun x=>ya2 x (.tup ((R.drop (j+1)).map yag)))=_;simp only [ya2];rw [if_pos (by simp;lia),Option.bind_some];simp only [];rw [if_pos (by simp;lia)];simp
   rw [evE];simp only [yac,ea,xbs];exact e
end
end
section
theorem zp3 (qa:List Str):∀ R:List Row,yb7 (R.map yag) (R.map (woT qa))=R.map fun ps=>.tup [yag ps,woT qa ps]
 | []=>rfl
 | ps::R=>by rw [zy1,zy1,zy1,yb7,zp3 qa R]
theorem zs5 (qa:List Str) (ps:Row):yau .notN (woT qa ps) .non=some (.bl (!ydi (wK qa ps))):=by unfold woT;cases ydi (wK qa ps)<;>rfl
theorem zxf (qa:List Str) (R:List Row) (ps:Row):dpI (woT qa ps) (R.map (woT qa))=true:=by unfold dpI;rw [List.all_map];refine uc0.mpr fun q _=>zzj ?_;show dpP (woT qa q) (woT qa ps)<=30;unfold woT;split<;>split<;>first | (rw [zkc];decide) | exact zzp _
theorem zry (r:Rl) (h:∀ t,r≠.chk t):∃ qa,yah r.t (.int 1)=some (yar qa)/\(r=.unl qa\/∃ g w,r=.ref qa g w):=by
 cases r with
 | ref cs t w=>exact ⟨cs,rf1 cs t w,.inr ⟨t,w,rfl⟩⟩
 | unl cs=>exact ⟨cs,by rw [Rl.t,yah,yaw],.inl rfl⟩
 | chk t=>exact absurd rfl (h t)
noncomputable def yf5:Rl->Bool
 | .chk _=>true
 | _=>false
theorem r0c (r:Rl):∃ w:Str,yah r.t (.int 0)=some (.str w)/\(w==("check":Str))=yf5 r/\(w==("refers":Str))=ygd r:=by
 cases r with
 | ref cs t w=>exact ⟨"refers",by rw [Rl.t,yah,yaq],show (("refers":Str)=="check")=false by decide +kernel,show (("refers":Str)=="refers")=true by decide +kernel⟩
 | unl cs=>exact ⟨"unlike",by rw [Rl.t,yah,yaq],show (("unlike":Str)=="check")=false by decide +kernel,show (("unlike":Str)=="refers")=false by decide +kernel⟩
 | chk t=>exact ⟨"check",by rw [Rl.t,yah,yaq],show (("check":Str)=="check")=true by decide +kernel,show (("check":Str)=="refers")=false by decide +kernel⟩
theorem ztm (w:T):yau .isN w .non=some (.bl (ybz w)):=by cases w<;>rfl
section
variable {G:Glo} {B:List Tb} {m:Nat} (H:Sch B) {Z:List Zt} (h:Stn B m Z) (C:Cls G B Z) (hm:m<=60)
include H h C hm
theorem zgt {b:Tb} {R:List Row} (hz:(b,R)∈Z) {e:E} {ρ:Env} (i:Nat) (he:yac G [e] ρ=some [rwT (b,R)]) (hi:((ρ)[i]?).join=some b.t):evE G (.comp (.call "_law_key" [.var (i+1),.var 0]) 1 .plain [e] none) ρ=some (.lst (R.map (kyT b))):=by
 rw [zaq,he,zyx];have hl:R.length<=m:=(h.rw _ hz).1;have s2:yae .plain [rwT (b,R)]=some (R.map yag):=by unfold yae;rw [rwT,zac,zyx,if_pos (by rw [zy3];show R.length<=SZ;have:=zat;lia)]
 rw [s2,zyx,zaf (enc:=yag) (kyT b) fun ps hp=>by
  have:=C.ky _ (h.mem hz) ps ((h.rw _ hz).2.1 ps hp);have hv:evE G (.var (i+1)) (some (yag ps)::ρ)=some b.t:=by rw [evE,zy0];exact hi
  have h0:evE G (.var 0) (some (yag ps)::ρ)=some (yag ps):=by rw [evE];rfl
  rw [show bnd 1 (yag ps) ρ=some (some (yag ps)::ρ) from rfl,zyx,evE];simp only [yac,hv,h0,xbs,this,xms]]
 rfl
theorem zpz {b:Tb} {R:List Row} (hz:(b,R)∈Z) {r:Rl} (hr:r∈b.rs):∃ L,yab G zbp.body [.val (yaa Z),.val (stT Z),.val b.t,.val r.t,.no,.no,.no,.no,.no,.no,.no,.no]=some (.rt (.lst L)):=by
 have hb:=h.mem hz;have hbo:=H.ok _ hb;have hl:R.length<=m:=(h.rw _ hz).1;have hR:∀ ps∈R,RowOk b ps:=(h.rw _ hz).2.1;have hsz:=zat;have cr:=C.rw _ hz;have hfit:=H.fit b hb r hr;have hok:=hbo.rs r hr;obtain ⟨w0,i0,hw1,hw2⟩:=r0c r;have pre:yab G zbp.body [.val (yaa Z),.val (stT Z),.val b.t,.val r.t,.no,.no,.no,.no,.no,.no,.no,.no]=yab G (zbp.body.drop 1) [.val (yaa Z),.val (stT Z),.val b.t,.val r.t,.val (rwT (b,R)),.no,.no,.no,.no,.no,.no,.no] :=
  zah (t:=rwT (b,R)) rfl (by simp only [evE,yac,ygm,Sl.get,xmc,xmn,xgs,xgz,xjs,xbs,t0];exact cr) rfl
 rw [pre];have c1:evE G (.cmp .eq (.idx (.var 3) (.cst (.int 0))) (.cst (.str "check"))) (ygm [.val (yaa Z),.val (stT Z),.val b.t,.val r.t,.val (rwT (b,R)),.no,.no,.no,.no,.no,.no,.no])=some (.bl (yf5 r)):=by rw [<- hw1];simp only [evE,ygm,Sl.get,xmc,xmn,xgs,xgz,xjs,xbs,i0,yau,eqs]
 by_cases hc:∃ t,r=.chk t
 .obtain ⟨t,rfl⟩:=hc;obtain ⟨_,x,rfl⟩:=hok;obtain ⟨c,hc,rfl⟩:∃ o∈b.cs,o.n=x:=hfit;obtain ⟨j,g1,g2⟩:=znb hc hbo.nd;have e5:evE G (.mth .index (.call "_law_names" [.var 2]) (.idx (.idx (.idx (.var 3) (.cst (.int 1))) (.cst (.int 1))) (.cst (.int 1)))) (ygm [.val (yaa Z),.val (stT Z),.val b.t,.val (Rl.chk (.neg (.emp c.n))).t,.val (rwT (b,R)),.no,.no,.no,.no,.no,.no,.no])=some (.int (j:Int)):=by have cn:=C.nm b hb;simp only [evE,yac,ygm,Sl.get,xmc,xmn,xgs,xgz,xjs,xbs,cn,Rl.t,Tst.t,yah,yaw];simp only [ybj];rw [if_pos (by rw [zi0];rfl),g1];rfl
  refine ⟨_,zb7 rfl c1 ((zah rfl e5 rfl).trans (za8 rfl (zga (enc:=yag) (R:=R) (fun ps=>ybz ((ybd (ps.map (·.2)) (j:Int)).getD .non)) (kyT b) (xs:=[rwT (b,R)]) rfl (by unfold yae;rw [rwT,zac,zyx,if_pos (by rw [zy3];show R.length<=SZ;lia)]) fun ps hp=>?_)))⟩;have hp:=hR ps hp;have hj:j<ps.length:=by rw [<- zy3 (f:=(·.1)),hp.cs];exact (ome g2).1
  have gx:ybd (ps.map (·.2)) (j:Int)=some (ps[j]).2:=zbj (by rw [zzr,zy5 hj];rfl);have ck:=C.ky b hb ps hp;refine ⟨_,rfl,?_,fun _=>?_⟩
  .have gx':yah (yag ps) (.int (j:Int))=some (ps[j]).2:=gx;rw [gx,Option.getD_some];simp only [evE,ygm,Sl.get,yan,fresh,xss,xsz,xmc,xmn,xgs,xgz,xjs,xbs,gx',ztm]
  .simp only [evE,yac,ygm,Sl.get,yan,fresh,xss,xsz,xmc,xmn,xgs,xgz,xjs,xbs,ck]
 .obtain ⟨qa,i1,hcase⟩:=zry r fun t e=>hc ⟨t,e⟩;have hck:yf5 r=false:=by rcases hcase with rfl | ⟨g,w,rfl⟩<;>rfl
  rw [hck] at c1;have hcols:∀ x∈qa,∃ c∈b.cs,c.n=x:=by
   rcases hcase with rfl | ⟨g,w,rfl⟩
   .exact hfit
   .exact zg1 hfit
  have hc4:qa.length<=4:=by
   rcases hcase with rfl | ⟨g,w,rfl⟩
   .exact hok.2
   .exact hok.2.1
  have e7:evE G (.comp (.call "_law_worths" [.var 3,.var 0,.idx (.var 4) (.cst (.int 1))]) 1 .plain [.var 4] none) (ygm [.val (yaa Z),.val (stT Z),.val b.t,.val r.t,.val (rwT (b,R)),.no,.no,.no,.no,.no,.no,.no])=some (.lst (R.map (woT qa))):=by
   rw [zaq];have s1:yac G [.var 4] (ygm [.val (yaa Z),.val (stT Z),.val b.t,.val r.t,.val (rwT (b,R)),.no,.no,.no,.no,.no,.no,.no])=some [rwT (b,R)]:=rfl;have s2:yae .plain [rwT (b,R)]=some (R.map yag):=by unfold yae;rw [rwT,zac,zyx,if_pos (by rw [zy3];show R.length<=SZ;lia)]
   rw [s1,zyx,s2,zyx,zaf (enc:=yag) (woT qa) fun ps hp=>by have:=C.wo b hb ps (hR ps hp) qa hcols hc4;simp only [bnd,if_true,xbs,evE,yac,ygm,Sl.get,xmc,xmn,xgs,xgz,xjs,i1,this,xms]];rfl
  obtain ⟨τ',el,L,s6,s9,s10,s11,rfl,_⟩:=zak (enc:=fun ps:Row=>T.tup [yag ps,woT qa ps]) (f:=fun x τ=>(ya0 [6,9] x τ).bind fun τ'=>yab G bkL τ') (I:=fun done τ=>∃ (L:List T) (s6 s9 s10 s11:Sl),τ=[.val (yaa Z),.val (stT Z),.val b.t,.val r.t,.val (rwT (b,R)),.no,s6,.val (.lst (R.map (woT qa))),.own L,s9,s10,s11]/\L.length<=done.length) R [.val (yaa Z),.val (stT Z),.val b.t,.val r.t,.val (rwT (b,R)),.no,.no,.val (.lst (R.map (woT qa))),.own [],.no,.no,.no] ⟨[],_,_,_,_,rfl,zza _⟩ fun l1 ps l2 e τ hI=>by
   obtain ⟨L,s6,s9,s10,s11,rfl,hLl⟩:=hI;have hp:=hR ps (by rw [e];simp);have hl1:l1.length<=60:=by rw [e,zy4] at hl;lia
   have ck:=C.ky b hb ps hp;show ∃ τ',yab G bkL [.val (yaa Z),.val (stT Z),.val b.t,.val r.t,.val (rwT (b,R)),.no,.val (yag ps),.val (.lst (R.map (woT qa))),.own L,.val (woT qa ps),s10,s11]=some (.nx τ')/\_;have cN:∀ s10 s11:Sl,evE G (.cmp .notN (.var 9) (.cst .non)) (ygm [.val (yaa Z),.val (stT Z),.val b.t,.val r.t,.val (rwT (b,R)),.no,.val (yag ps),.val (.lst (R.map (woT qa))),.own L,.val (woT qa ps),s10,s11])=some (.bl (!ydi (wK qa ps))):=fun _ _=>zs5 qa ps;obtain ⟨b1,e10⟩:∃ b1,evE G (.land (.cmp .notN (.var 9) (.cst .non)) (.cmp .gt (.mth .count (.var 7) (.var 9)) (.cst (.int 1)))) (ygm [.val (yaa Z),.val (stT Z),.val b.t,.val r.t,.val (rwT (b,R)),.no,.val (yag ps),.val (.lst (R.map (woT qa))),.own L,.val (woT qa ps),s10,s11])=some (.bl b1):=by
    cases hN:ydi (wK qa ps) with
    | true=>exact ⟨false,zci ((cN s10 s11).trans (by rw [hN];rfl))⟩
    | false =>
     refine ⟨decide ((1:Int)<(((R.map (woT qa)).filter fun z=>eqT z (woT qa ps)).length:Nat)),(zb5 ((cN s10 s11).trans (by rw [hN];rfl))).trans ?_⟩
     .show (ybj .count (.lst (R.map (woT qa))) (woT qa ps)).bind _=_;simp only [ybj];rw [if_pos (zxf qa R ps)];rfl
   have mid:∃ (b2:Bool) (s11':Sl),yab G bkL [.val (yaa Z),.val (stT Z),.val b.t,.val r.t,.val (rwT (b,R)),.no,.val (yag ps),.val (.lst (R.map (woT qa))),.own L,.val (woT qa ps),s10,s11]=yab G (bkL.drop 2) [.val (yaa Z),.val (stT Z),.val b.t,.val r.t,.val (rwT (b,R)),.no,.val (yag ps),.val (.lst (R.map (woT qa))),.own L,.val (woT qa ps),.val (.bl b2),s11']:=by
    have p1:yab G bkL [.val (yaa Z),.val (stT Z),.val b.t,.val r.t,.val (rwT (b,R)),.no,.val (yag ps),.val (.lst (R.map (woT qa))),.own L,.val (woT qa ps),s10,s11]=yab G (bkL.drop 1) [.val (yaa Z),.val (stT Z),.val b.t,.val r.t,.val (rwT (b,R)),.no,.val (yag ps),.val (.lst (R.map (woT qa))),.own L,.val (woT qa ps),.val (.bl b1),s11]:=zah rfl e10 rfl;have cR:evE G (.cmp .eq (.idx (.var 3) (.cst (.int 0))) (.cst (.str "refers"))) (ygm [.val (yaa Z),.val (stT Z),.val b.t,.val r.t,.val (rwT (b,R)),.no,.val (yag ps),.val (.lst (R.map (woT qa))),.own L,.val (woT qa ps),.val (.bl b1),s11])=some (.bl (ygd r)):=by rw [<- hw2];simp only [evE,ygm,Sl.get,xmc,xmn,xgs,xgz,xjs,xbs,i0,yau,eqs]
    rcases hcase with rfl | ⟨g,w,rfl⟩
    .exact ⟨b1,s11,p1.trans (zau rfl (zci cR))⟩
    .cases hN:ydi (wK qa ps) with
     | true=>exact ⟨b1,s11,p1.trans (zau rfl ((zb5 cR).trans ((cN _ _).trans (by rw [hN];rfl))))⟩
     | false =>
      obtain ⟨b',hb',hg⟩:=omm hfit.2;obtain ⟨R',hz'⟩:=h.of hb';have ct:=C.tb b' hb';have cr':=C.rw _ hz';have i2:=rf2 qa g w;rw [hg] at ct;have cr':G.call "_law_rows" [yaa Z,stT Z,.str g]=some (rwT (b',R')):=by rw [<- hg];exact cr'
      refine ⟨!(R'.any fun q=>decide (ya1 b' q=wK qa ps)),.val b'.t,p1.trans (zc0 rfl ((zb5 cR).trans ((cN _ _).trans (by rw [hN];rfl))) ((zah (t:=b'.t) (τ':=[.val (yaa Z),.val (stT Z),.val b.t,.val (Rl.ref qa g w).t,.val (rwT (b,R)),.no,.val (yag ps),.val (.lst (R.map (woT qa))),.own L,.val (woT qa ps),.val (.bl b1),.val b'.t]) rfl (by simp only [evE,yac,ygm,Sl.get,xmc,xmn,xgs,xgz,xjs,xbs,i2,ct]) rfl).trans ((zah rfl ?_ rfl).trans rfl)))⟩;have ek:=zgt (ρ:=ygm [.val (yaa Z),.val (stT Z),.val b.t,.val (Rl.ref qa g w).t,.val (rwT (b,R)),.no,.val (yag ps),.val (.lst (R.map (woT qa))),.own L,.val (woT qa ps),.val (.bl b1),.val b'.t]) (e:=.call "_law_rows" [.var 0,.var 1,.idx (.var 3) (.cst (.int 2))]) H h C hm hz' 11 (by simp only [evE,yac,ygm,Sl.get,xmc,xmn,xgs,xgz,xjs,xbs,i2,cr']) rfl;rw [evE,ek];have ew:woT qa ps=tkT (wK qa ps):=by unfold woT;rw [hN];rfl
      show (inC (woT qa ps) (.lst (R'.map (kyT b')))).map _=_;rw [ew,zf0];rfl
   obtain ⟨b2,s11',em⟩:=mid;rw [em];cases b2 with
   | false=>exact ⟨_,(zau rfl rfl).trans rfl,L,_,_,_,_,rfl,by rw [zy4];lia⟩
   | true =>
    refine ⟨[.val (yaa Z),.val (stT Z),.val b.t,.val r.t,.val (rwT (b,R)),.no,.val (yag ps),.val (.lst (R.map (woT qa))),.own (L++[kyT b ps]),.val (woT qa ps),.val (.bl true),s11'],(zc0 rfl rfl ((zhe (t:=kyT b ps) rfl (by simp only [evE,yac,ygm,Sl.get,xmc,xmn,xgs,xgz,xjs,xbs,ck]) rfl (by lia)).trans rfl)).trans rfl,_,_,_,_,_,rfl,by rw [ud5,ud5,List.length_singleton,List.length_singleton];lia⟩
  refine ⟨L,(zau rfl c1).trans ((zah rfl e7 rfl).trans ((zah (t:=.lst []) (τ':=[.val (yaa Z),.val (stT Z),.val b.t,.val r.t,.val (rwT (b,R)),.no,.no,.val (.lst (R.map (woT qa))),.own [],.no,.no,.no]) rfl rfl rfl).trans ((zan (zao (xs:=[rwT (b,R),.lst (R.map (woT qa))]) rfl rfl ?_ el)).trans (zbe rfl))))⟩;show some (yb7 (R.map yag) (R.map (woT qa)))=_;rw [zp3]
end
end
section
theorem zlq (L:List T):neC (.lst L) (.lst [])=some (.bl (!L.isEmpty)):=by
 have:=zqm id L
 rwa [List.map_id] at this
theorem zwn (r:Rl):∃ x,yah r.t (.int (-1))=some x/\dpP x (.str "late")<=30:=by
 cases r with
 | ref cs t w=>exact ⟨.str w,rfl,zzp _⟩
 | unl cs=>exact ⟨yar cs,rfl,zzp _⟩
 | chk t=>exact ⟨t.t,rfl,by cases t<;>exact zzp _⟩
theorem zoi {β:Type} {qb:List (Kt × β)} {k:Kt} {v:β}:(yb3 qb k v).length<=qb.length+1:=by
 unfold yb3;split
 .rw [zy3];lia
 .rw [zy4];exact zza _
theorem ztr {G:Glo} {i:Nat} {k v:E} {τ:List Sl} {qb:List (Kt × T)} {x:Str} {w:T} {ss:List S} (h0:yaf (yaj v++yaj k) τ=τ) (h1:evE G v (ygm τ)=some w) (h2:evE G k (ygm τ)=some (.str x)) (h3:τ[i]?=some (.dk qb)) (h4:qb.length<SZ):yab G (.dput i k v::ss) τ=yab G ss (τ.set i (.dk (yb3 qb (.inr (some x)) w))) :=
 zan (by rw [evS,h0,h1,zyx,h2,zyx,h3];show Option.map _ (if qb.length<SZ then some (Sl.dk (yb3 qb (.inr (some x)) w)) else none)=_;rw [if_pos h4];rfl)
noncomputable def dnK:List (Int × Str):=[(2, "unlike"),(3, "check"),(4, "refers")]
noncomputable def dkT (p:Int × Str):T:=.tup [.int p.1,.str p.2]
section
variable {G:Glo} {B:List Tb} {m:Nat} (H:Sch B) {Z:List Zt} (h:Stn B m Z) (cb:∀ b R,(b,R)∈Z->∀ r∈b.rs,∃ L,G.call "_law_broken" [yaa Z,stT Z,b.t,r.t]=some (.lst L))
include H h cb
theorem zyu {b:Tb} {R:List Row} (hz:(b,R)∈Z) (X1 X2:T) (qb:List (Kt × T)) (hk:qb.length<=100) (s6 s7 s8:Sl):∃ (kvs':List (Kt × T)) (s6':Sl),yas (fun x τ=>(ya0 [6] x τ).bind fun τ'=>yab G dnB τ') (b.rs.map Rl.t) [.val (yaa Z),.val X1,.val X2,.val (stT Z),.dk qb,.val b.t,s6,s7,s8]=some (.nx [.val (yaa Z),.val X1,.val X2,.val (stT Z),.dk kvs',.val b.t,s6',s7,s8])/\kvs'.length<=qb.length+4:=by
 have hrl:=(H.ok b (h.mem hz)).rl;obtain ⟨τ',el,kvs',s6',rfl,hl⟩:=zak (enc:=Rl.t) (f:=fun x τ=>(ya0 [6] x τ).bind fun τ'=>yab G dnB τ') (I:=fun done τ=>∃ (kvs':List (Kt × T)) (s6:Sl),τ=[.val (yaa Z),.val X1,.val X2,.val (stT Z),.dk kvs',.val b.t,s6,s7,s8]/\kvs'.length<=qb.length+done.length) b.rs [.val (yaa Z),.val X1,.val X2,.val (stT Z),.dk qb,.val b.t,s6,s7,s8] ⟨qb,_,rfl,zza _⟩ fun l1 r l2 e τ hI=>by
  obtain ⟨kvs',s6,rfl,hl⟩:=hI;have hl1:l1.length<=4:=by rw [e,zy4] at hrl;lia
  obtain ⟨L,eL⟩:=cb b R hz r (by rw [e];simp);obtain ⟨x,ex,dx⟩:=zwn r;obtain ⟨w0,i0,_⟩:=r0 r;show ∃ τ',yab G dnB [.val (yaa Z),.val X1,.val X2,.val (stT Z),.dk kvs',.val b.t,.val r.t,s7,s8]=some (.nx τ')/\_;have c1:evE G (.cmp .ne (.idx (.var 6) (.neg (.cst (.int 1)))) (.cst (.str "late"))) (ygm [.val (yaa Z),.val X1,.val X2,.val (stT Z),.dk kvs',.val b.t,.val r.t,s7,s8])=some (.bl (!eqT x (.str "late"))):=by simp only [evE,ygm,Sl.get,xmc,xmn,xgs,xgz,xjs,xbs,ex,yau];unfold neC;rw [if_pos dx]
  have c2:evE G (.cmp .ne (.call "_law_broken" [.var 0,.var 3,.var 5,.var 6]) (.lst [])) (ygm [.val (yaa Z),.val X1,.val X2,.val (stT Z),.dk kvs',.val b.t,.val r.t,s7,s8])=some (.bl (!L.isEmpty)):=by simp only [evE,yac,ygm,Sl.get,xmc,xmn,xgs,xgz,xjs,xbs,eL,yau,List.length_nil,Nat.zero_le,if_true,xms];exact zlq L
  have no:evE G (.land (.cmp .ne (.idx (.var 6) (.neg (.cst (.int 1)))) (.cst (.str "late"))) (.cmp .ne (.call "_law_broken" [.var 0,.var 3,.var 5,.var 6]) (.lst []))) (ygm [.val (yaa Z),.val X1,.val X2,.val (stT Z),.dk kvs',.val b.t,.val r.t,s7,s8])=some (.bl false)->∃ τ',yab G dnB [.val (yaa Z),.val X1,.val X2,.val (stT Z),.dk kvs',.val b.t,.val r.t,s7,s8]=some (.nx τ')/\∃ (kvs'_1:List (Kt × T)) (s6:Sl),τ'=[.val (yaa Z),.val X1,.val X2,.val (stT Z),.dk kvs'_1,.val b.t,s6,s7,s8]/\kvs'_1.length<=qb.length+(l1++[r]).length:=fun hc =>⟨_,(zau rfl hc).trans rfl,kvs',_,rfl,by rw [zy4];lia⟩;cases q1:eqT x (.str "late") with
  | true=>exact no (zci (c1.trans (zze (fun b=>some (T.bl (!b))) q1)))
  | false =>
   have c3:=(zb5 (c1.trans (zze (fun b=>some (T.bl (!b))) q1))).trans c2;cases q2:L.isEmpty with
   | true=>exact no (c3.trans (zze (fun b=>some (T.bl (!b))) q2))
   | false =>
    refine ⟨_,(zc0 rfl (c3.trans (zze (fun b=>some (T.bl (!b))) q2)) ((ztr (qb:=kvs') (x:=w0) (w:=.bl true) rfl rfl (by simp only [evE,ygm,Sl.get,xmc,xmn,xgs,xgz,xjs,xbs,i0]) rfl (by have:=zat;lia)).trans rfl)).trans rfl,_,_,rfl,?_⟩;have:=zoi (qb:=kvs') (k:=.inr (some w0)) (v:=T.bl true);rw [zy4,zz0];lia
 exact ⟨kvs',s6',el,by lia⟩
theorem zxg (X1 X2:T):∃ (qb:List (Kt × T)) (s5 s6:Sl),evS G (.loop [5] .plain [.var 0] [.loop [6] .plain [.idx (.var 5) (.cst (.int 3))] dnB]) [.val (yaa Z),.val X1,.val X2,.val (stT Z),.dk [],.no,.no,.no,.no]=some (.nx [.val (yaa Z),.val X1,.val X2,.val (stT Z),.dk qb,s5,s6,.no,.no]):=by
 obtain ⟨τ',el,qb,s5,s6,rfl,hl⟩:=zak (enc:=fun z:Zt=>z.1.t) (f:=fun x τ=>(ya0 [5] x τ).bind fun τ'=>yab G [.loop [6] .plain [.idx (.var 5) (.cst (.int 3))] dnB] τ') (I:=fun done τ=>∃ (qb:List (Kt × T)) (s5 s6:Sl),τ=[.val (yaa Z),.val X1,.val X2,.val (stT Z),.dk qb,s5,s6,.no,.no]/\qb.length<=4*done.length) Z [.val (yaa Z),.val X1,.val X2,.val (stT Z),.dk [],.no,.no,.no,.no] ⟨[],_,_,rfl,zzp _⟩ fun l1 z l2 e τ hI=>by
  obtain ⟨qb,s5,s6,rfl,hl⟩:=hI;have hz:(z.1,z.2)∈Z:=by rw [e];simp
  have hl1:l1.length<=4:=by have h3:=h.len;have:=H.l4;rw [e,zy4] at h3;lia
  obtain ⟨kvs',s6',ei,hk⟩:=zyu H h cb hz X1 X2 qb (by lia) s6 .no .no;refine ⟨_,(zan (zao (τ:=[.val (yaa Z),.val X1,.val X2,.val (stT Z),.dk qb,.val z.1.t,s6,.no,.no]) (xs:=[.tup (z.1.rs.map Rl.t)]) rfl (show yac G [.idx (.var 5) (.cst (.int 3))] (ygm [.val (yaa Z),.val X1,.val X2,.val (stT Z),.dk qb,.val z.1.t,s6,.no,.no])=_ by simp only [evE,yac,ygm,Sl.get,xmc,xmn,xgs,xgz,xjs,xbs,t3]) (zac _) ei)).trans rfl,kvs',.val z.1.t,s6',rfl,by rw [ud5,List.length_singleton];lia⟩
 exact ⟨qb,s5,s6,zao (xs:=[yaa Z]) rfl rfl (zac _) el⟩
theorem zm3 (X1 X2:T):∃ t,yab G (zb8.body.drop 2) [.val (yaa Z),.val X1,.val X2,.val (stT Z),.no,.no,.no,.no,.no]=some (.rt t)/\((∃ i:Int,t=.int i)\/t=stT Z):=by
 obtain ⟨qb,s5,s6,eo⟩:=zxg H h cb X1 X2;have e1:evS G (.dnew 4) [.val (yaa Z),.val X1,.val X2,.val (stT Z),.no,.no,.no,.no,.no]=some (.nx [.val (yaa Z),.val X1,.val X2,.val (stT Z),.dk [],.no,.no,.no,.no]):=rfl;rcases zde (enc:=dkT) (f:=fun x τ=>(ya0 [7,8] x τ).bind fun τ'=>yab G dnF τ') (I:=fun τ=>∃ s7 s8:Sl,τ=[.val (yaa Z),.val X1,.val X2,.val (stT Z),.dk qb,s5,s6,s7,s8]) (V:=fun v=>∃ i:Int,v=.int i) dnK [.val (yaa Z),.val X1,.val X2,.val (stT Z),.dk qb,s5,s6,.no,.no] ⟨_,_,rfl⟩ (fun p _ τ hI=>by
  obtain ⟨s7,s8,rfl⟩:=hI;show (∃ τ',yab G dnF [.val (yaa Z),.val X1,.val X2,.val (stT Z),.dk qb,s5,s6,.val (.int p.1),.val (.str p.2)]=some (.nx τ')/\_)\/∃ v,yab G dnF [.val (yaa Z),.val X1,.val X2,.val (stT Z),.dk qb,s5,s6,.val (.int p.1),.val (.str p.2)]=some (.rt v)/\_;have c1:evE G (.cmp .isin (.var 8) (.var 4)) (ygm (yaf (yaj (.cmp .isin (.var 8) (.var 4))) [.val (yaa Z),.val X1,.val X2,.val (stT Z),.dk qb,s5,s6,.val (.int p.1),.val (.str p.2)]))=some (.bl ((qb.map (·.1)).any fun q=>decide (q=.inr (some p.2)))):=rfl;cases q:((qb.map (·.1)).any fun q=>decide (q=.inr (some p.2))) with
  | false=>exact .inl ⟨_,(zjb (c1.trans (zze (fun b=>some (T.bl b)) q))).trans rfl,_,_,rfl⟩
  | true=>exact .inr ⟨.int p.1,zqw (c1.trans (zze (fun b=>some (T.bl b)) q)) (zbe rfl),_,rfl⟩) with ⟨τ',el,s7,s8,rfl⟩ | ⟨v,el,hv⟩
 .exact ⟨stT Z,(zan e1).trans ((zan eo).trans ((zan (zao (xs:=[.tup (dnK.map dkT)]) rfl rfl (zac _) el)).trans (zbe rfl))),.inr rfl⟩
 .exact ⟨v,(zan e1).trans ((zan eo).trans (zbe (zao (xs:=[.tup (dnK.map dkT)]) rfl rfl (zac _) el))),.inl hv⟩
theorem zwm:∃ b,yab G zds.body [.val (yaa Z),.val (stT Z),.no,.no]=some (.rt (.bl b)):=by
 rcases zde (enc:=fun z:Zt=>z.1.t) (f:=fun x τ=>(ya0 [2] x τ).bind fun τ'=>yab G [.loop [3] .plain [.idx (.var 2) (.cst (.int 3))] ltB] τ') (I:=fun τ=>∃ s2 s3:Sl,τ=[.val (yaa Z),.val (stT Z),s2,s3]) (V:=fun v=>v=.bl true) Z [.val (yaa Z),.val (stT Z),.no,.no] ⟨_,_,rfl⟩ (fun z hz τ hI=>by
  obtain ⟨s2,s3,rfl⟩:=hI;have er:yac G [.idx (.var 2) (.cst (.int 3))] (ygm [.val (yaa Z),.val (stT Z),.val z.1.t,s3])=some [.tup (z.1.rs.map Rl.t)]:=by simp only [evE,yac,ygm,Sl.get,xmc,xmn,xgs,xgz,xjs,xbs,t3]
  show (∃ τ',yab G [.loop [3] .plain [.idx (.var 2) (.cst (.int 3))] ltB] [.val (yaa Z),.val (stT Z),.val z.1.t,s3]=some (.nx τ')/\_)\/∃ v,yab G [.loop [3] .plain [.idx (.var 2) (.cst (.int 3))] ltB] [.val (yaa Z),.val (stT Z),.val z.1.t,s3]=some (.rt v)/\_;rcases zde (enc:=Rl.t) (f:=fun x τ=>(ya0 [3] x τ).bind fun τ'=>yab G ltB τ') (I:=fun τ=>∃ s3:Sl,τ=[.val (yaa Z),.val (stT Z),.val z.1.t,s3]) (V:=fun v=>v=.bl true) z.1.rs [.val (yaa Z),.val (stT Z),.val z.1.t,s3] ⟨_,rfl⟩ (fun r hr τ hI=>by
   obtain ⟨s3,rfl⟩:=hI;obtain ⟨L,eL⟩:=cb z.1 z.2 hz r hr;show (∃ τ',yab G ltB [.val (yaa Z),.val (stT Z),.val z.1.t,.val r.t]=some (.nx τ')/\_)\/∃ v,yab G ltB [.val (yaa Z),.val (stT Z),.val z.1.t,.val r.t]=some (.rt v)/\_;have c2:evE G (.cmp .ne (.call "_law_broken" [.var 0,.var 1,.var 2,.var 3]) (.lst [])) (ygm [.val (yaa Z),.val (stT Z),.val z.1.t,.val r.t])=some (.bl (!L.isEmpty)):=by simp only [evE,yac,ygm,Sl.get,xmc,xmn,xgs,xgz,xjs,xbs,eL,yau,List.length_nil,Nat.zero_le,if_true,xms];exact zlq L
   cases q:L.isEmpty with
   | true=>exact .inl ⟨_,(zau rfl (c2.trans (zze (fun b=>some (T.bl (!b))) q))).trans rfl,_,rfl⟩
   | false=>exact .inr ⟨.bl true,zb7 rfl (c2.trans (zze (fun b=>some (T.bl (!b))) q)) (zbe rfl),rfl⟩) with ⟨τ',el,s3',rfl⟩ | ⟨v,el,rfl⟩
  .exact .inl ⟨_,(zan (zao rfl er (zac _) el)).trans rfl,_,_,rfl⟩
  .exact .inr ⟨_,zbe (zao rfl er (zac _) el),rfl⟩) with ⟨τ',el,s2,s3,rfl⟩ | ⟨v,el,rfl⟩
 .exact ⟨false,(zan (zao (xs:=[yaa Z]) rfl rfl (zac _) el)).trans (zbe rfl)⟩
 .exact ⟨true,zbe (zao (xs:=[yaa Z]) rfl rfl (zac _) el)⟩
end
end
section
structure Cal3 (G:Glo) (B:List Tb) (Z:List Zt):Prop extends Cls G B Z where
 dr:∀ a k:Int,G.call "_law_drawn" [.int a,.int k]=some (.int (yak a k))
 ro:∀ b∈B,∀ k:Int,∃ ps,G.call "_law_row" [b.t,.int k]=some (yag ps)/\RowOk b ps
 wt:∀ (c:Col) (k:Int),∃ w,G.call "_law_worth" [c.t,.int k]=some w/\Wok c w/\(c.g=false->w≠.non)/\Sml w
noncomputable def plC (b:Tb):List Col:=b.cs.filter fun c=>!(b.key.any fun y=>y==c.n)
theorem c0 (c:Col):yah c.t (.int 0)=some (.str c.n):=by rw [Col.t,yah,yaq]
theorem zpe {a:Int} {n:Int} (h:0<n/\n<1073741824):yaz .fdiv (.int a) (.int n)=some (.int (a/n)):=by show (if 0<n/\n<1073741824 then _ else _)=_;rw [if_pos h]
theorem zlu {a:Int} {n:Int} (h:0<n):yaz .mod (.int a) (.int n)=some (.int (a%n)):=by show (if 0<n then _ else _)=_;rw [if_pos h]
section
variable {G:Glo} {B:List Tb} {m:Nat} (H:Sch B) {Z:List Zt} (h:Stn B m Z) (C:Cal3 G B Z) (hm:m<=60)
include C in
theorem ztv {b:Tb} (X0 X1:T) (N:Int) (x3 x4 x5 x6 x7 x8 x9 x10 x12 x13:Sl) (D:List Col) (hD:∀ c∈D,c∈b.cs) (h3:D.length<=3) :
  ∃ (L:List (Str × T)) (y9 y12 y13:Sl),yas (fun x τ=>(ya0 [12,9] x τ).bind fun τ'=>yab G ddL τ') (ya6 (D.map Col.t) 0) [.val X0,.val X1,.val (.int N),x3,x4,x5,x6,x7,x8,x9,x10,.own [],x12,x13]=some (.nx [.val X0,.val X1,.val (.int N),x3,x4,x5,x6,x7,x8,y9,x10,.own (L.map prT),y12,y13])/\Prs b L/\L.length<=3:=by
 rw [zdh];obtain ⟨τ',el,L,y9,y12,y13,rfl,h1,h2⟩:=zak (enc:=fun p:Col × Nat=>T.tup [.int (p.2:Int),p.1.t]) (f:=fun x τ=>(ya0 [12,9] x τ).bind fun τ'=>yab G ddL τ') (I:=fun done τ=>∃ (L:List (Str × T)) (x9 x12 x13:Sl),τ=[.val X0,.val X1,.val (.int N),x3,x4,x5,x6,x7,x8,x9,x10,.own (L.map prT),x12,x13]/\Prs b L/\L.length<=done.length) (D.zipIdx 0) [.val X0,.val X1,.val (.int N),x3,x4,x5,x6,x7,x8,x9,x10,.own [],x12,x13] ⟨[],_,_,_,rfl,fun _ h=>absurd h (by simp),Nat.le_refl _⟩ fun l1 p l2 e τ hI=>by
  obtain ⟨L,x9,x12,x13,rfl,h1,h2⟩:=hI;have hp:p∈D.zipIdx 0:=by rw [e];simp
  have hc:p.1∈b.cs:=hD _ (by
   have:=List.mem_map_of_mem (f:=Prod.fst) hp
   rwa [List.zipIdx_map_fst] at this)
  have hl1:l1.length<=3:=by have:=zze List.length e;rw [List.length_zipIdx,zy4] at this;lia
  have cd:=C.dr N (30+(p.2:Int));obtain ⟨w,cw,hw1,hw2,hw3⟩:=C.wt p.1 (yak N (30+(p.2:Int))/4/4);show ∃ τ',yab G ddL [.val X0,.val X1,.val (.int N),x3,x4,x5,x6,x7,x8,.val p.1.t,x10,.own (L.map prT),.val (.int (p.2:Int)),x13]=some (.nx τ')/\_;have e13:evE G (.bin .fdiv (.call "_law_drawn" [.var 2,.bin .add (.cst (.int 30)) (.var 12)]) (.cst (.int 4))) (ygm [.val X0,.val X1,.val (.int N),x3,x4,x5,x6,x7,x8,.val p.1.t,x10,.own (L.map prT),.val (.int (p.2:Int)),x13])=some (.int (yak N (30+(p.2:Int))/4)):=by rw [zag];simp only [evE,yac,ygm,Sl.get,xmc,xmn,xgs,xgz,xjs,xbs,yaz,ya2,cd];rfl
  generalize yak N (30+(p.2:Int))/4=K at *;have p1:yab G ddL [.val X0,.val X1,.val (.int N),x3,x4,x5,x6,x7,x8,.val p.1.t,x10,.own (L.map prT),.val (.int (p.2:Int)),x13]=yab G (ddL.drop 1) [.val X0,.val X1,.val (.int N),x3,x4,x5,x6,x7,x8,.val p.1.t,x10,.own (L.map prT),.val (.int (p.2:Int)),.val (.int K)]:=zah rfl e13 rfl;rw [p1];have c1:evE G (.cmp .eq (.bin .mod (.var 13) (.cst (.int 2))) (.cst (.int 0))) (ygm [.val X0,.val X1,.val (.int N),x3,x4,x5,x6,x7,x8,.val p.1.t,x10,.own (L.map prT),.val (.int (p.2:Int)),.val (.int K)])=some (.bl (K%2==0)):=rfl;have c2:evE G (.cmp .eq (.var 12) (.cst (.int 0))) (ygm [.val X0,.val X1,.val (.int N),x3,x4,x5,x6,x7,x8,.val p.1.t,x10,.own (L.map prT),.val (.int (p.2:Int)),.val (.int K)])=some (.bl ((p.2:Int)==0)):=rfl;have c3:evE G (.lor (.cmp .eq (.bin .mod (.var 13) (.cst (.int 2))) (.cst (.int 0))) (.cmp .eq (.var 12) (.cst (.int 0)))) (ygm [.val X0,.val X1,.val (.int N),x3,x4,x5,x6,x7,x8,.val p.1.t,x10,.own (L.map prT),.val (.int (p.2:Int)),.val (.int K)])=some (.bl ((K%2==0)||((p.2:Int)==0))):=by
   rw [evE,c1,zyx];cases (K%2==0) with
   | true=>rfl
   | false=>exact c2
  cases q:((K%2==0)||((p.2:Int)==0)) with
  | false=>exact ⟨_,(zau rfl (c3.trans (zze (fun b=>some (T.bl b)) q))).trans rfl,L,_,_,_,rfl,h1,by rw [zy4];lia⟩
  | true =>
   refine ⟨[.val X0,.val X1,.val (.int N),x3,x4,x5,x6,x7,x8,.val p.1.t,x10,.own ((L++[(p.1.n,w)]).map prT),.val (.int (p.2:Int)),.val (.int K)],(zc0 rfl (c3.trans (congrArg (fun b=>some (T.bl b)) q)) ((zhe (t:=prT (p.1.n,w)) rfl ?_ rfl (by rw [List.length_map];have:=zat;lia)).trans ?_)).trans rfl,L++[(p.1.n,w)],_,_,_,rfl,fun x hx=>?_,by rw [ud5,ud5];simp;lia⟩
   .have cw':evE G (.call "_law_worth" [.var 9,.bin .fdiv (.var 13) (.cst (.int 4))]) (ygm [.val X0,.val X1,.val (.int N),x3,x4,x5,x6,x7,x8,.val p.1.t,x10,.own (L.map prT),.val (.int (p.2:Int)),.val (.int K)])=some w:=by rw [evE];show G.call "_law_worth" [p.1.t,.int (K/4)]=_;exact cw
    rw [evE];simp only [yac,cw',xbs];simp only [evE,ygm,Sl.get,xmc,xmn,xgs,xgz,xjs,xbs,c0,List.length_cons,List.length_nil,Nat.zero_add,Nat.reduceAdd,Nat.reduceLeDiff,if_true,xms];rfl
   .rw [zzq];rfl
   .rcases oma hx with hx | hx
    .exact h1 x hx
    .rw [omg hx];exact ⟨p.1,hc,rfl,hw1,hw2,hw3⟩
 refine ⟨L,y9,y12,y13,el,h1,?_⟩;rw [List.length_zipIdx] at h2;lia
include H h C hm
theorem zxj (N:Int):∃ d:Dd,yab G zb9.body [.val (yaa Z),.val (stT Z),.val (.int N),.no,.no,.no,.no,.no,.no,.no,.no,.no,.no,.no]=some (.rt d.t)/\d.ok B:=by
 have hsz:=zat;have hZ:Z≠[]:=by intro e;have h1:=h.len;have:=H.ps;rw [e] at h1;simp at h1;lia
 obtain ⟨z,hz,ez⟩:=zbd (enc:=fun z:Zt=>z.1.t) hZ N;obtain ⟨b,R⟩:=z;have hb:=h.mem hz;have hbo:=H.ok _ hb;have hR:∀ ps∈R,RowOk b ps:=(h.rw _ hz).2.1;have hl:R.length<=m:=(h.rw _ hz).1;have cr:=C.rw _ hz;have hl0:0<Z.length:=by cases Z with | nil=>exact absurd rfl hZ | cons _ _=>simp
 have e3:evE G (.idx (.var 0) (.bin .mod (.var 2) (.blt .len (.var 0)))) (ygm [.val (yaa Z),.val (stT Z),.val (.int N),.no,.no,.no,.no,.no,.no,.no,.no,.no,.no,.no])=some b.t:=by
  have l1:ya3 .len (yaa Z)=some (.int (Z.length:Int)):=by show some (T.int _)=_;rw [zy3]
  simp only [evE,ygm,Sl.get,xmc,xmn,xgs,xgz,xjs,xbs,l1];rw [zlu (by lia)];exact ez
 have e4:evE G (.call "_law_rows" [.var 0,.var 1,.idx (.var 3) (.cst (.int 0))]) (ygm [.val (yaa Z),.val (stT Z),.val (.int N),.val b.t,.no,.no,.no,.no,.no,.no,.no,.no,.no,.no])=some (rwT (b,R)):=by simp only [evE,yac,ygm,Sl.get,xmc,xmn,xgs,xgz,xjs,xbs,t0];exact cr
 obtain ⟨p0,cp0,hp0⟩:=C.ro b hb (N/64);have ck0:=C.ky b hb p0 hp0;have kc:=zgt (ρ:=ygm [.val (yaa Z),.val (stT Z),.val (.int N),.val b.t,.val (rwT (b,R)),.no,.no,.no,.no,.no,.no,.no,.no,.no]) (e:=.var 4) H h C.toCls hm hz 3 rfl rfl;have e5:evE G (.bin .add (.comp (.call "_law_key" [.var 4,.var 0]) 1 .plain [.var 4] none) (.lst [.call "_law_key" [.var 3,.call "_law_row" [.var 3,.bin .fdiv (.var 2) (.cst (.int 64))]]])) (ygm [.val (yaa Z),.val (stT Z),.val (.int N),.val b.t,.val (rwT (b,R)),.no,.no,.no,.no,.no,.no,.no,.no,.no])=some (.lst ((R++[p0]).map (kyT b))):=by
  have x1:evE G (.call "_law_row" [.var 3,.bin .fdiv (.var 2) (.cst (.int 64))]) (ygm [.val (yaa Z),.val (stT Z),.val (.int N),.val b.t,.val (rwT (b,R)),.no,.no,.no,.no,.no,.no,.no,.no,.no])=some (yag p0):=by rw [evE];show G.call "_law_row" [b.t,.int (N/64)]=_;exact cp0
  have x2:evE G (.call "_law_key" [.var 3,.call "_law_row" [.var 3,.bin .fdiv (.var 2) (.cst (.int 64))]]) (ygm [.val (yaa Z),.val (stT Z),.val (.int N),.val b.t,.val (rwT (b,R)),.no,.no,.no,.no,.no,.no,.no,.no,.no])=some (kyT b p0):=by rw [evE];simp only [yac,x1,xbs];exact ck0
  have x3:evE G (.lst [.call "_law_key" [.var 3,.call "_law_row" [.var 3,.bin .fdiv (.var 2) (.cst (.int 64))]]]) (ygm [.val (yaa Z),.val (stT Z),.val (.int N),.val b.t,.val (rwT (b,R)),.no,.no,.no,.no,.no,.no,.no,.no,.no])=some (.lst [kyT b p0]):=by rw [evE];simp only [yac,x2,xbs,List.length_cons,List.length_nil,Nat.zero_add,Nat.reduceLeDiff,if_true,xms]
  rw [zag,kc,x3];show ya2 (.lst (R.map (kyT b))) (.lst [kyT b p0])=_;simp only [ya2];rw [if_pos (by rw [zy3];show R.length+1<=SZ;lia),zzq];rfl
 have hKl:((R++[p0]).map (kyT b)).length=R.length+1:=by simp
 have hK:∀ t∈(R++[p0]).map (kyT b),∃ k,t=tkT k/\kS k:=fun t ht=>by
  obtain ⟨ps,hps,rfl⟩:=omm ht;refine ⟨ya1 b ps,rfl,zth hbo ?_⟩;rcases oma hps with hps | hps
  .exact hR ps hps
  .rw [omg hps];exact hp0
 generalize (R++[p0]).map (kyT b)=KS at *;obtain ⟨sm,e6,s1,s2⟩:∃ sm:Nat,evE G (.bin .sub (.blt .len (.var 5)) (.blt .toInt (.land (.cmp .gt (.blt .len (.var 5)) (.cst (.int 1))) (.cmp .gt (.bin .mod (.bin .fdiv (.var 2) (.cst (.int 4096))) (.cst (.int 8))) (.cst (.int 0)))))) (ygm [.val (yaa Z),.val (stT Z),.val (.int N),.val b.t,.val (rwT (b,R)),.val (.lst KS),.no,.no,.no,.no,.no,.no,.no,.no])=some (.int (sm:Int))/\0<sm/\sm<=KS.length:=by
  have c1:evE G (.cmp .gt (.blt .len (.var 5)) (.cst (.int 1))) (ygm [.val (yaa Z),.val (stT Z),.val (.int N),.val b.t,.val (rwT (b,R)),.val (.lst KS),.no,.no,.no,.no,.no,.no,.no,.no])=some (.bl (decide ((1:Int)<(KS.length:Int)))):=rfl;have c2:evE G (.cmp .gt (.bin .mod (.bin .fdiv (.var 2) (.cst (.int 4096))) (.cst (.int 8))) (.cst (.int 0))) (ygm [.val (yaa Z),.val (stT Z),.val (.int N),.val b.t,.val (rwT (b,R)),.val (.lst KS),.no,.no,.no,.no,.no,.no,.no,.no])=some (.bl (decide ((0:Int)<N/4096%8))):=rfl;rw [zag,zbk,zbk];by_cases q1:(1:Int)<(KS.length:Int)
  .have c3:=(zb5 (c1.trans (zze (fun b=>some (T.bl b)) (zzj q1)))).trans c2;rw [c3];by_cases q2:(0:Int)<N/4096%8
   .refine ⟨KS.length-1,?_,by lia,by lia⟩;rw [zzj q2];show some (T.int ((KS.length:Int)-1))=_;congr 2
    all_goals lia
   .refine ⟨KS.length,?_,by lia,zza _⟩;rw [zzk q2];show some (T.int ((KS.length:Int)-0))=_;congr 2
    all_goals lia
  .refine ⟨KS.length,?_,by lia,zza _⟩;rw [zci (c1.trans (zze (fun b=>some (T.bl b)) (zzk q1)))];show some (T.int ((KS.length:Int)-0))=_;congr 2
   all_goals lia
 obtain ⟨kt,hkt,e7⟩:∃ kt∈KS,evE G (.idx (.var 5) (.bin .mod (.bin .fdiv (.var 2) (.cst (.int 4))) (.var 6))) (ygm [.val (yaa Z),.val (stT Z),.val (.int N),.val b.t,.val (rwT (b,R)),.val (.lst KS),.val (.int (sm:Int)),.no,.no,.no,.no,.no,.no,.no])=some kt:=by
  have b1:0<=N/4%(sm:Int):=uc5 _ (by lia);have b2:N/4%(sm:Int)<(sm:Int):=ub9 _ (by lia);obtain ⟨j,hj⟩:∃ j:Nat,N/4%(sm:Int)=(j:Int):=⟨(N/4%(sm:Int)).toNat,by lia⟩;have hlt:j<KS.length:=by lia
  refine ⟨KS[j],ua5 hlt,?_⟩;rw [zd7,zag,zag];simp only [evE,ygm,Sl.get,xmc,xmn,xgs,xgz,xjs,xbs];rw [zpe (by decide),zyx,zlu (by lia),zyx,hj];exact zbj (zy5 hlt)
 obtain ⟨k,rfl,hk⟩:=hK kt hkt;have e10:evE G (.comp (.var 0) 1 .plain [.idx (.var 3) (.cst (.int 1))] (some (.cmp .notin (.idx (.var 0) (.cst (.int 0))) (.idx (.var 4) (.cst (.int 2)))))) (ygm [.val (yaa Z),.val (stT Z),.val (.int N),.val b.t,.val (rwT (b,R)),.val (.lst KS),.val (.int (sm:Int)),.val (tkT k),.val (.int (N/65536%8)),.no,.no,.no,.no,.no])=some (.lst ((plC b).map Col.t)):=by
  refine zga (enc:=Col.t) (R:=b.cs) (fun c=>!(b.key.any fun y=>y==c.n)) Col.t (xs:=[.tup (b.cs.map Col.t)]) (by
   simp only [evE,yac,ygm,Sl.get,xmc,xmn,xgs,xgz,xjs,xbs,t1]) (by
   unfold yae;rw [zac,zyx,if_pos (by rw [zy3];have hcl:b.cs.length<=4:=hbo.cl;lia)]) fun c _=>⟨_,rfl,?_,fun _=>rfl⟩
  simp only [evE,ygm,Sl.get,xmc,xmn,xgs,xgz,xjs,xbs,c0,t2,yau];rw [yar,zf1];rfl
 have pre:yab G zb9.body [.val (yaa Z),.val (stT Z),.val (.int N),.no,.no,.no,.no,.no,.no,.no,.no,.no,.no,.no]=yab G (zb9.body.drop 7) [.val (yaa Z),.val (stT Z),.val (.int N),.val b.t,.val (rwT (b,R)),.val (.lst KS),.val (.int (sm:Int)),.val (tkT k),.val (.int (N/65536%8)),.no,.val (.lst ((plC b).map Col.t)),.no,.no,.no] :=
  (zah rfl e3 rfl).trans ((zah rfl e4 rfl).trans ((zah (τ':=[.val (yaa Z),.val (stT Z),.val (.int N),.val b.t,.val (rwT (b,R)),.own KS,.no,.no,.no,.no,.no,.no,.no,.no]) rfl e5 rfl).trans ((zh9 rfl e6 rfl).trans ((zah rfl e7 rfl).trans ((zah (t:=.int (N/65536%8)) rfl rfl rfl).trans (zah rfl e10 rfl))))))
 rw [pre];have cE:evE G (.cmp .eq (.var 10) (.lst [])) (ygm [.val (yaa Z),.val (stT Z),.val (.int N),.val b.t,.val (rwT (b,R)),.val (.lst KS),.val (.int (sm:Int)),.val (tkT k),.val (.int (N/65536%8)),.no,.val (.lst ((plC b).map Col.t)),.no,.no,.no])=some (.bl (plC b).isEmpty):=by show eqC (.lst ((plC b).map Col.t)) (.lst [])=_;unfold eqC;rw [if_pos (by simp [dpP,ycj]),eqT,zcl]
 generalize N/65536%8=K at *;have lor_v:∀ {a b:E} {ρ:Env} {x y:Bool},evE G a ρ=some (.bl x)->evE G b ρ=some (.bl y)->evE G (.lor a b) ρ=some (.bl (x||y)):=fun {a b ρ x y} h1 h2=>by
  rw [evE,h1,zyx];cases x with
  | true=>rfl
  | false=>exact h2
 have land_v:∀ {a b:E} {ρ:Env} {x y:Bool},evE G a ρ=some (.bl x)->evE G b ρ=some (.bl y)->evE G (.land a b) ρ=some (.bl (x&&y)):=fun {a b ρ x y} h1 h2=>by
  rw [evE,h1,zyx];cases x with
  | true=>exact h2
  | false=>rfl
 have cA:evE G (.lor (.cmp .lt (.var 8) (.cst (.int 4))) (.land (.cmp .eq (.var 8) (.cst (.int 7))) (.cmp .eq (.var 10) (.lst [])))) (ygm [.val (yaa Z),.val (stT Z),.val (.int N),.val b.t,.val (rwT (b,R)),.val (.lst KS),.val (.int (sm:Int)),.val (tkT k),.val (.int K),.no,.val (.lst ((plC b).map Col.t)),.no,.no,.no])=some (.bl (decide (K<4)||((K==7)&&(plC b).isEmpty))):=lor_v rfl (land_v rfl cE);have cB:evE G (.lor (.cmp .lt (.var 8) (.cst (.int 6))) (.cmp .eq (.var 10) (.lst []))) (ygm [.val (yaa Z),.val (stT Z),.val (.int N),.val b.t,.val (rwT (b,R)),.val (.lst KS),.val (.int (sm:Int)),.val (tkT k),.val (.int K),.no,.val (.lst ((plC b).map Col.t)),.no,.no,.no])=some (.bl (decide (K<6)||(plC b).isEmpty)):=lor_v rfl cE;cases qA:(decide (K<4)||((K==7)&&(plC b).isEmpty)) with
 | true =>
  obtain ⟨p1,cp1,hp1⟩:=C.ro b hb (yak N 7/4);refine ⟨.add b p1,zb7 rfl (cA.trans (zze (fun b=>some (T.bl b)) qA)) (za8 rfl ?_),hb,hp1⟩;have x1:evE G (.call "_law_row" [.var 3,.bin .fdiv (.call "_law_drawn" [.var 2,.cst (.int 7)]) (.cst (.int 4))]) (ygm [.val (yaa Z),.val (stT Z),.val (.int N),.val b.t,.val (rwT (b,R)),.val (.lst KS),.val (.int (sm:Int)),.val (tkT k),.val (.int K),.no,.val (.lst ((plC b).map Col.t)),.no,.no,.no])=some (yag p1):=by
   have cd:=C.dr N 7;have x0:evE G (.bin .fdiv (.call "_law_drawn" [.var 2,.cst (.int 7)]) (.cst (.int 4))) (ygm [.val (yaa Z),.val (stT Z),.val (.int N),.val b.t,.val (rwT (b,R)),.val (.lst KS),.val (.int (sm:Int)),.val (tkT k),.val (.int K),.no,.val (.lst ((plC b).map Col.t)),.no,.no,.no])=some (.int (yak N 7/4)):=by rw [zag];simp only [evE,yac,ygm,Sl.get,xmc,xmn,xgs,xgz,xjs,xbs,cd];rfl
   rw [evE];simp only [yac,x0,xbs];exact cp1
  rw [evE];simp only [yac,x1,xbs];simp only [evE,ygm,Sl.get,xmc,xmn,xgs,xgz,xjs,xbs,t0,List.length_cons,List.length_nil,Nat.zero_add,Nat.reduceAdd,Nat.reduceLeDiff,if_true,xms];rfl
 | false =>
  cases qB:(decide (K<6)||(plC b).isEmpty) with
  | true =>refine ⟨.drp b k,(zau rfl (cA.trans (zze (fun b=>some (T.bl b)) qA))).trans (zb7 rfl (cB.trans (zze (fun b=>some (T.bl b)) qB)) (za8 rfl ?_)),hb,hk⟩;simp only [evE,yac,ygm,Sl.get,xmc,xmn,xgs,xgz,xjs,xbs,t0,List.length_cons,List.length_nil,Nat.zero_add,Nat.reduceAdd,Nat.reduceLeDiff,if_true,xms];rfl
  | false =>
   obtain ⟨L,y9,y12,y13,el,hL1,hL2⟩:=ztv C (b:=b) (yaa Z) (stT Z) N (.val b.t) (.val (rwT (b,R))) (.val (.lst KS)) (.val (.int (sm:Int))) (.val (tkT k)) (.val (.int K)) .no (.val (.lst ((plC b).map Col.t))) .no .no ((plC b).take 3) (fun c hc=>(ub8.mp (ub5 hc)).1) (by rw [zAa];lia);have er:yac G [.sli (.var 10) none (some (.cst (.int 3)))] (ygm [.val (yaa Z),.val (stT Z),.val (.int N),.val b.t,.val (rwT (b,R)),.val (.lst KS),.val (.int (sm:Int)),.val (tkT k),.val (.int K),.no,.val (.lst ((plC b).map Col.t)),.own [],.no,.no])=some [.lst (((plC b).take 3).map Col.t)]:=by show some [T.lst (cut ((plC b).map Col.t) none (some ((3:Nat):Int)))]=_;rw [zf9,List.map_take]
   refine ⟨.set b k L,(zau rfl (cA.trans (zze (fun b=>some (T.bl b)) qA))).trans ((zau rfl (cB.trans (zze (fun b=>some (T.bl b)) qB))).trans ((zah (t:=.lst []) (τ':=[.val (yaa Z),.val (stT Z),.val (.int N),.val b.t,.val (rwT (b,R)),.val (.lst KS),.val (.int (sm:Int)),.val (tkT k),.val (.int K),.no,.val (.lst ((plC b).map Col.t)),.own [],.no,.no]) rfl rfl rfl).trans ((zan (zao (xs:=[.lst (((plC b).take 3).map Col.t)]) rfl er rfl el)).trans (zbe ?_)))),hb,hk,hL1,by lia⟩;have x0:evE G (.tup [.cst (.str "set"),.idx (.var 3) (.cst (.int 0)),.var 7,.blt .toTuple (.var 11)]) (ygm [.val (yaa Z),.val (stT Z),.val (.int N),.val b.t,.val (rwT (b,R)),.val (.lst KS),.val (.int (sm:Int)),.val (tkT k),.val (.int K),y9,.val (.lst ((plC b).map Col.t)),.val (.lst (L.map prT)),y12,y13])=some (Dd.set b k L).t:=by simp only [evE,yac,ygm,Sl.get,xmc,xmn,xgs,xgz,xjs,xbs,t0,ya3,List.length_cons,List.length_nil,Nat.zero_add,Nat.reduceAdd,Nat.reduceLeDiff,if_true,xms];rfl
   rw [evS,show yaf (yaj (.tup [.cst (.str "set"),.idx (.var 3) (.cst (.int 0)),.var 7,.blt .toTuple (.var 11)])) [.val (yaa Z),.val (stT Z),.val (.int N),.val b.t,.val (rwT (b,R)),.val (.lst KS),.val (.int (sm:Int)),.val (tkT k),.val (.int K),y9,.val (.lst ((plC b).map Col.t)),.own (L.map prT),y12,y13]=[.val (yaa Z),.val (stT Z),.val (.int N),.val b.t,.val (rwT (b,R)),.val (.lst KS),.val (.int (sm:Int)),.val (tkT k),.val (.int K),y9,.val (.lst ((plC b).map Col.t)),.val (.lst (L.map prT)),y12,y13] from rfl,x0];rfl
end
end
section
variable {m:Nat}
structure Mk (P:Pr):Prop where
 dr:P.fn "_law_drawn"=some zas
 nm:P.fn "_law_names"=some zbm
 tb:P.fn "_law_table"=some zc2
 ky:P.fn "_law_key"=some zcn
 wo:P.fn "_law_worths"=some zbo
 rw:P.fn "_law_rows"=some zdr
 wt:P.fn "_law_worth"=some zal
 ro:P.fn "_law_row"=some zet
 br:P.fn "_law_broken"=some zbp
 ln:P.fn "_law_links"=some zc4
 go:P.fn "_law_going"=some zbn
 pu:P.fn "_law_put"=some zeu
 wi:P.fn "_law_with"=some zdq
 dp:P.fn "_law_dropped"=some zcg
 ra:P.fn "_law_raw"=some zcm
 dn:P.fn "_law_done"=some zb8
 lt:P.fn "_law_late"=some zds
 dd:P.fn "_law_deed"=some zb9
 st:P.fn "_law_store"=some zc3
theorem zaw {P:Pr} {n:Nat} {f:Str} {D:Fd} {ts:List T} {t:T} (h:P.fn f=some D) (hl:ts.length=D.np) (e:yab (glo P (run P n)) D.body (yam D ts)=some (.rt t)):run P (n+1) f ts=some t:=by rw [zav h hl,e];rfl
section
variable {P:Pr} (p:Mk P) {B:List Tb} (H:Sch B)
include p
theorem zlr (n:Nat) {b:Tb} (hb:b.ok):run P (n+1) "_law_names" [b.t]=some (.lst (b.cs.map fun c=>T.str c.n)):=by
 have:=zei p.nm n (b.cs.map fun c=>(c,T.non)) (by rw [zy3];exact hb.cl) (.str b.nm) (.tup (b.key.map .str)) (.tup (b.rs.map Rl.t));have e1:(b.cs.map fun c=>(c,T.non)).map (·.1)=b.cs:=by rw [zzn];exact List.map_id'' (fun _=>rfl) _
 rw [yff,e1] at this;refine this.trans ?_;rw [zzn];rfl
include H
theorem zdu (n:Nat) {Z:List Zt} (h:Stn B m Z):Cls (glo P (run P (n+2))) B Z where
 tb b hb:=by obtain ⟨R,hz⟩:=h.of hb;exact yfg p.tb (n+1) (by rw [h.len];exact H.l4) (by rw [h.nms];exact H.nd) hz
 ky b hb ps hp:=zo6 p.nm p.ky n (H.ok b hb) hp
 nm b hb:=zlr p (n+1) (H.ok b hb)
 rw z hz:=zl0 p.rw (n+1) (by rw [h.len];exact H.l4) hz (by rw [h.nms];exact H.nd)
 wo b hb ps hp qa hc h4:=zwe p.nm p.wo n (H.ok b hb) hp hc h4
theorem znp (n:Nat) {b:Tb} (hb:b∈B) {ps:Row} (hp:RowOk b ps) (L:List (Str × T)) (A:T) (hL:Prs b L) (hA:items .plain [A]=some (L.map prT)):∃ qs,run P (n+2) "_law_with" [b.t,yag ps,A]=some (yag qs)/\RowOk b qs:=by obtain ⟨qs,e,hq⟩:=zt9 (G:=glo P (run P (n+1))) (H.ok b hb) hp hL hA (zlr p n (H.ok b hb));exact ⟨qs,zaw p.wi rfl e,hq⟩
theorem zr6 (n:Nat) {Z:List Zt} (h:Stn B m Z) {z:Zt} (hz:z∈Z) (R:List Row) (A:T) (hR:∀ ps∈R,RowOk z.1 ps) (hl:R.length<=60) (hA:items .plain [A]=some (R.map yag)):∃ R',run P (n+3) "_law_put" [yaa Z,stT Z,.str z.1.nm,A]=some (stT (ydb Z z.1.nm R'))/\R'.length<=R.length/\Rws z.1 R':=by have c:=zdu p H n h;obtain ⟨R',e,h1,h2⟩:=zx7 (G:=glo P (run P (n+2))) (Z:=Z) (z:=z) (A:=A) (H.ok _ (h.mem hz)) (by rw [h.len];exact H.l4) hR hl hA (c.tb _ (h.mem hz)) fun ps hp=>c.ky _ (h.mem hz) ps (hR ps hp);exact ⟨R',zaw p.pu rfl e,h1,h2⟩
theorem zl9 (n:Nat) {Z:List Zt} (h:Stn B m Z) (hm:m<=60) (way:Str):run P (n+3) "_law_links" [yaa Z,stT Z,.str way]=some (.lst ((lks way Z).map Lk.t)) :=
 zaw p.ln rfl (zta H h (zdu p H n h) hm way)
theorem zmq (n:Nat) {Z:List Zt} (h:Stn B m Z) (hm:m<=60) {z:Zt} (hz:z∈Z) (k:List Kt):∃ t,run P (n+4) "_law_going" [yaa Z,stT Z,.str z.1.nm,tkT k]=some t/\Gng Z t:=by obtain ⟨t,e,g⟩:=ztn (G:=glo P (run P (n+3))) H h hm (fun way=>zl9 p H n h hm way) (zdu p H (n+1) h) hz k;exact ⟨t,zaw p.go rfl e,g⟩
theorem znf (n m:Nat):Cal (glo P (run P (n+3))) B m where
 cl Z h:=zdu p H (n+1) h
 wi b hb ps hp L A hL hA:=znp p H (n+1) hb hp L A hL hA
 pu Z h z hz R A hR hl hA:=zr6 p H n h hz R A hR hl hA
theorem zh3 (n:Nat) (hm:m<=60) {Z:List Zt} (h:Stn B m Z) (gone:List Pl) (gaps:List Lk) (hg:∀ l∈gaps,l.ok B "gap"):∃ Z',run P (n+4) "_law_dropped" [yaa Z,stT Z,.lst (gone.map plT),.lst (gaps.map Lk.t)]=some (stT Z')/\Stn B m Z':=by obtain ⟨Z',e,h'⟩:=zm2 (gone:=gone) H (znf p H n m) hm hg h;exact ⟨Z',zaw p.dp rfl e,h'⟩
theorem zpy (n:Nat) (hm:m<=60):Cal2 (glo P (run P (n+4))) B m where
 toCal:=znf p H (n+1) m
 go Z h z hz k:=zmq p H n h hm hz k
 dr Z h gone gaps hg:=zh3 p H n hm h gone gaps hg
theorem zr1 (n:Nat) (hm:m<=50) {Z:List Zt} (h:Stn B m Z) {d:Dd} (hd:d.ok B):∃ t,run P (n+5) "_law_raw" [yaa Z,stT Z,d.t]=some t/\Tld B (m+1) t:=by obtain ⟨t,e,ht⟩:=zx5 H (zpy p H n (by lia)) hm h hd;exact ⟨t,zaw p.ra rfl e,ht⟩
theorem zff (n:Nat) (hm:m<=60) {Z:List Zt} (h:Stn B m Z) (b:Tb) (R:List Row) (hz:(b,R)∈Z) (r:Rl) (hr:r∈b.rs):∃ L,run P (n+3) "_law_broken" [yaa Z,stT Z,b.t,r.t]=some (.lst L):=by obtain ⟨L,e⟩:=zpz H h (zdu p H n h) hm hz hr;exact ⟨L,zaw p.br rfl e⟩
theorem zpi (n:Nat) (hm:m<=50) {Z:List Zt} (h:Stn B m Z) {d:Dd} (hd:d.ok B):∃ t,run P (n+6) "_law_done" [yaa Z,stT Z,d.t]=some t/\Tld B (m+1) t:=by
 obtain ⟨t,e,ht⟩:=zr1 p H n hm h hd;have e1:yab (glo P (run P (n+5))) zb8.body [.val (yaa Z),.val (stT Z),.val d.t,.no,.no,.no,.no,.no,.no]=yab (glo P (run P (n+5))) (zb8.body.drop 1) [.val (yaa Z),.val (stT Z),.val d.t,.val t,.no,.no,.no,.no,.no] :=
  zah (t:=t) rfl (by rw [evE];show run P (n+5) "_law_raw" [yaa Z,stT Z,d.t]=_;exact e) rfl
 rcases ht with ⟨i,rfl⟩ | ⟨Z',rfl,h'⟩
 .exact ⟨.int i,zaw p.dn rfl (e1.trans (zb7 rfl rfl (zbe rfl))),.inl ⟨i,rfl⟩⟩
 .have hs:yaa Z=yaa Z':=h.sch.trans h'.sch.symm;obtain ⟨t,e2,ht⟩:=zm3 (G:=glo P (run P (n+5))) H h' (fun b R hz r hr=>zff p H (n+2) (by lia) h' b R hz r hr) (stT Z) d.t;refine ⟨t,zaw p.dn rfl (e1.trans ((zau rfl rfl).trans ?_)),?_⟩
  .rw [hs];exact e2
  .rcases ht with ⟨i,rfl⟩ | rfl
   .exact .inl ⟨i,rfl⟩
   .exact .inr ⟨Z',rfl,h'⟩
theorem zo2 (n:Nat) (hm:m<=60) {Z:List Zt} (h:Stn B m Z):∃ b,run P (n+4) "_law_late" [yaa Z,stT Z]=some (.bl b):=by obtain ⟨b,e⟩:=zwm (G:=glo P (run P (n+3))) H h fun b R hz r hr=>zff p H n hm h b R hz r hr;exact ⟨b,zaw p.lt rfl e⟩
theorem zkl (n:Nat) (c:Col) (k:Int):∃ w,run P (n+1) "_law_worth" [c.t,.int k]=some w/\Wok c w/\(c.g=false->w≠.non)/\Sml w:=by obtain ⟨w,e,hw⟩:=zgc p.wt n c k;obtain ⟨w2,e2,hs⟩:=zkj p.wt n c k;rw [e] at e2;cases e2;refine ⟨w,e,hw,fun hg=>?_,hs⟩;obtain ⟨w3,e3,h3⟩:=zkk p.wt n c k hg;rw [e] at e3;cases e3;exact h3
theorem zpk (n:Nat) (hm:m<=60) {Z:List Zt} (h:Stn B m Z) (N:Int):∃ d:Dd,run P (n+3) "_law_deed" [yaa Z,stT Z,.int N]=some d.t/\d.ok B:=by
 obtain ⟨d,e,hd⟩:=zxj (G:=glo P (run P (n+2))) H h
  { toCls:=zdu p H n h,dr:=fun a k=>zbu p.dr (n+1) a k,ro:=fun b hb k=>zk2 p.dr p.wt p.ro n (H.ok b hb) k,wt:=fun c k=>zkl p H (n+1) c k } hm N
 exact ⟨d,zaw p.dd rfl e,hd⟩
end
structure Cal4 (G:Glo) (B:List Tb):Prop where
 dn:∀ m,m<=50->∀ Z,Stn B m Z->∀ d:Dd,d.ok B->∃ t,G.call "_law_done" [yaa Z,stT Z,d.t]=some t/\Tld B (m+1) t
 dd:∀ m,m<=50->∀ Z,Stn B m Z->∀ N:Int,∃ d:Dd,G.call "_law_deed" [yaa Z,stT Z,.int N]=some d.t/\d.ok B
 lt:∀ m,m<=60->∀ Z,Stn B m Z->∃ b,G.call "_law_late" [yaa Z,stT Z]=some (.bl b)
 dr:∀ a k:Int,G.call "_law_drawn" [.int a,.int k]=some (.int (yak a k))
theorem zjp {P:Pr} (p:Mk P) {B:List Tb} (H:Sch B) (n:Nat):Cal4 (glo P (run P (n+6))) B where
 dn m hm Z h d hd:=zpi p H n hm h hd
 dd m hm Z h N:=zpk p H (n+3) (by lia) h N
 lt m hm Z h:=zo2 p H (n+2) hm h
 dr a k:=zbu p.dr (n+5) a k
theorem zen (q:Nat) (h:q<=1000):items .range [.int (q:Int)]=some ((List.range q).map fun (i:Nat)=>T.int (i:Int)):=by show (if -4611686018427387904<=(q:Int)/\(q:Int)<4611686018427387904 then some (ybi (q:Int).toNat) else none)=_;rw [if_pos (by lia)];rfl
theorem zrm {G:Glo} {B:List Tb} (H:Sch B) (C:Cal4 G B) (N:Int) (M:Nat) (hM:M<=20):∃ Z,yab G zc3.body [.val (.tup (B.map Tb.t)),.val (.int N),.val (.int (M:Int)),.no,.no,.no]=some (.rt (stT Z))/\Stn B M Z:=by
 have h0:Stn B 0 (B.map fun b=>(b,[])):=⟨by rw [zzn];exact List.map_id'' (fun _=>rfl) _,fun z hz=>by obtain ⟨b,_,rfl⟩:=omm hz;exact ⟨Nat.le_refl _,fun _ h=>absurd h (by simp),ud1⟩⟩;have e3:evE G (.blt .toTuple (.comp (.tup []) 1 .plain [.var 0] none)) (ygm [.val (.tup (B.map Tb.t)),.val (.int N),.val (.int (M:Int)),.no,.no,.no])=some (stT (B.map fun b=>(b,[]))):=by
  rw [zbk,zaq];have s1:yac G [.var 0] (ygm [.val (.tup (B.map Tb.t)),.val (.int N),.val (.int (M:Int)),.no,.no,.no])=some [.tup (B.map Tb.t)]:=rfl;have s2:yae .plain [.tup (B.map Tb.t)]=some (B.map Tb.t):=by unfold yae;rw [zac,zyx,if_pos (by rw [zy3];have:=H.l4;have:=zat;lia)]
  rw [s1,zyx,s2,zyx,zaf (enc:=Tb.t) (fun _=>T.tup []) fun b _=>rfl,stT,zzn];rfl
 obtain ⟨τ',el,Z,s4,s5,rfl,hZ⟩:=zak (enc:=fun i:Nat=>T.int (i:Int)) (f:=fun x τ=>(ya0 [4] x τ).bind fun τ'=>yab G stB τ') (I:=fun done τ=>∃ (Z:List Zt) (s4 s5:Sl),τ=[.val (.tup (B.map Tb.t)),.val (.int N),.val (.int (M:Int)),.val (stT Z),s4,s5]/\Stn B done.length Z) (List.range M) [.val (.tup (B.map Tb.t)),.val (.int N),.val (.int (M:Int)),.val (stT (B.map fun b=>(b,[]))),.no,.no] ⟨_,_,_,rfl,h0⟩ fun l1 i l2 e τ hI=>by
  obtain ⟨Z,s4,s5,rfl,hZ⟩:=hI;have hl1:l1.length<=20:=by have:=zze List.length e;rw [zAd,zy4] at this;lia
  obtain ⟨d,ed,hd⟩:=C.dd l1.length (by lia) Z hZ (yak N (100+(i:Int))/4);obtain ⟨t,et,ht⟩:=C.dn l1.length (by lia) Z hZ d hd;rw [hZ.sch] at ed et;have cd:=C.dr N (100+(i:Int));show ∃ τ',yab G stB [.val (.tup (B.map Tb.t)),.val (.int N),.val (.int (M:Int)),.val (stT Z),.val (.int (i:Int)),s5]=some (.nx τ')/\_;have x0:evE G (.bin .fdiv (.call "_law_drawn" [.var 1,.bin .add (.cst (.int 100)) (.var 4)]) (.cst (.int 4))) (ygm [.val (.tup (B.map Tb.t)),.val (.int N),.val (.int (M:Int)),.val (stT Z),.val (.int (i:Int)),s5])=some (.int (yak N (100+(i:Int))/4)):=by rw [zag];simp only [evE,yac,ygm,Sl.get,xmc,xmn,xgs,xgz,xjs,xbs,yaz,ya2,cd];rfl
  have x1:evE G (.call "_law_deed" [.var 0,.var 3,.bin .fdiv (.call "_law_drawn" [.var 1,.bin .add (.cst (.int 100)) (.var 4)]) (.cst (.int 4))]) (ygm [.val (.tup (B.map Tb.t)),.val (.int N),.val (.int (M:Int)),.val (stT Z),.val (.int (i:Int)),s5])=some d.t:=by rw [evE];simp only [yac,x0,xbs];exact ed
  have x2:evE G (.call "_law_done" [.var 0,.var 3,.call "_law_deed" [.var 0,.var 3,.bin .fdiv (.call "_law_drawn" [.var 1,.bin .add (.cst (.int 100)) (.var 4)]) (.cst (.int 4))]]) (ygm [.val (.tup (B.map Tb.t)),.val (.int N),.val (.int (M:Int)),.val (stT Z),.val (.int (i:Int)),s5])=some t:=by rw [evE];simp only [yac,x1,xbs];exact et
  have p1:yab G stB [.val (.tup (B.map Tb.t)),.val (.int N),.val (.int (M:Int)),.val (stT Z),.val (.int (i:Int)),s5]=yab G (stB.drop 1) [.val (.tup (B.map Tb.t)),.val (.int N),.val (.int (M:Int)),.val (stT Z),.val (.int (i:Int)),.val t]:=zah rfl x2 rfl;rw [p1];have up:Stn B (l1++[i]).length Z:=hZ.up (by rw [zy4];lia);rcases ht with ⟨j,rfl⟩ | ⟨Z',rfl,h'⟩
  .exact ⟨_,(zau rfl (zci rfl)).trans rfl,Z,_,_,rfl,up⟩
  .obtain ⟨b,eb⟩:=C.lt _ (by lia) Z' h';rw [h'.sch] at eb;have c1:evE G (.land (.lnot (.tru (.isi (.var 5) .tint))) (.lnot (.tru (.call "_law_late" [.var 0,.var 5])))) (ygm [.val (.tup (B.map Tb.t)),.val (.int N),.val (.int (M:Int)),.val (stT Z),.val (.int (i:Int)),.val (stT Z')])=some (.bl (!b)):=by refine (zb5 rfl).trans ?_;simp only [evE,yac,ygm,Sl.get,xmc,xmn,xgs,xgz,xjs,xbs,eb];rfl
   cases b with
   | true=>exact ⟨_,(zau rfl c1).trans rfl,Z,_,_,rfl,up⟩
   | false=>exact ⟨_,(zc0 rfl c1 ((zah (t:=stT Z') rfl rfl rfl).trans rfl)).trans rfl,Z',_,_,rfl,by rw [zy4];exact h'⟩
 refine ⟨Z,(zah rfl e3 rfl).trans ((zan (zao (xs:=[.int (M:Int)]) rfl rfl (zen M (by lia)) el)).trans (zbe rfl)),?_⟩
 rwa [zAd] at hZ
theorem zkp {P:Pr} (p:Mk P) {B:List Tb} (H:Sch B) (n:Nat) (N:Int) (M:Nat) (hM:M<=20):∃ Z,run P (n+7) "_law_store" [.tup (B.map Tb.t),.int N,.int (M:Int)]=some (stT Z)/\Stn B M Z:=by obtain ⟨Z,e,h⟩:=zrm H (zjp p H n) N M hM;exact ⟨Z,zaw p.st rfl e,h⟩
end
section
inductive De where
 | dd (d:Dd) | mk (w x:Str)
noncomputable def De.t:De->T
 | .dd d=>d.t
 | .mk w x=>.tup [.str w,.str x]
noncomputable def mkW:List Str:=["mark", "back"]
noncomputable def mkX:List Str:=["x", "y"]
noncomputable def De.ok (B:List Tb):De->Prop
 | .dd d=>d.ok B
 | .mk w x=>w∈mkW/\x∈mkX
theorem zp7 (k:Int):∃ x∈mkX,ybd [.str "x",.str "y"] (k%2)=some (.str x):=zbd (enc:=T.str) (cs:=mkX) (by simp [mkX]) k
noncomputable def ads:List Str:=["add", "drop", "set"]
theorem zw1 (x:Str):inC (.str x) (.tup [.str "add",.str "drop",.str "set"])=some (ads.any fun y=>y==x):=zf1 x ads
theorem De.i0 {B:List Tb} {e:De} (h:e.ok B):∃ x,yah e.t (.int 0)=some (.str x)/\((∃ d,e=.dd d/\d.ok B/\(ads.any fun y=>y==x)=true)\/(ads.any fun y=>y==x)=false):=by
 cases e with
 | dd d =>
  cases d with
  | add b ps=>exact ⟨"add",by rw [De.t,Dd.t,yah,yaq],.inl ⟨_,rfl,h,by decide +kernel⟩⟩
  | drp b k=>exact ⟨"drop",by rw [De.t,Dd.t,yah,yaq],.inl ⟨_,rfl,h,by decide +kernel⟩⟩
  | set b k L=>exact ⟨"set",by rw [De.t,Dd.t,yah,yaq],.inl ⟨_,rfl,h,by decide +kernel⟩⟩
 | mk w x =>
  refine ⟨w,by rw [De.t,yah,yaq],.inr ?_⟩;have:∀ w∈mkW,(ads.any fun y=>y==w)=false:=by decide +kernel
  exact this w h.1
theorem ztu {G:Glo} {B:List Tb} (H:Sch B) (C:Cal4 G B) {Z:List Zt} (h:Stn B 20 Z) (N:Int):∃ ds:List De,yab G zc5.body [.val (.tup (B.map Tb.t)),.val (stT Z),.val (.int N),.val (.int 9),.no,.no,.no,.no,.no]=some (.rt (.tup (ds.map De.t)))/\ds.length<=9/\∀ d∈ds,d.ok B:=by
 obtain ⟨q,hq,hq9⟩:∃ q:Nat,N%10=(q:Int)/\q<=9:=⟨(N%10).toNat,by lia,by lia⟩;have hsz:=zat;obtain ⟨τ',el,Y,ds,s5,s6,s7,s8,rfl,hY,hd1,hd2⟩:=zak (enc:=fun i:Nat=>T.int (i:Int)) (f:=fun x τ=>(ya0 [5] x τ).bind fun τ'=>yab G dsB τ') (I:=fun done τ=>∃ (Y:List Zt) (ds:List De) (s5 s6 s7 s8:Sl),τ=[.val (.tup (B.map Tb.t)),.val (stT Y),.val (.int N),.val (.int 9),.own (ds.map De.t),s5,s6,s7,s8]/\Stn B (20+done.length) Y/\ds.length<=done.length/\∀ d∈ds,d.ok B) (List.range q) [.val (.tup (B.map Tb.t)),.val (stT Z),.val (.int N),.val (.int 9),.own [],.no,.no,.no,.no] ⟨Z,[],_,_,_,_,rfl,h,Nat.le_refl _,fun _ h=>absurd h (by simp)⟩ fun l1 i l2 e τ hI=>by
  obtain ⟨Y,ds,s5,s6,s7,s8,rfl,hY,hd1,hd2⟩:=hI;have hl1:l1.length<=9:=by have:=zze List.length e;rw [zAd,zy4] at this;lia
  show ∃ τ',yab G dsB [.val (.tup (B.map Tb.t)),.val (stT Y),.val (.int N),.val (.int 9),.own (ds.map De.t),.val (.int (i:Int)),s6,s7,s8]=some (.nx τ')/\_;have cd:=C.dr N (60+(i:Int));have x6:evE G (.bin .fdiv (.call "_law_drawn" [.var 2,.bin .add (.cst (.int 60)) (.var 5)]) (.cst (.int 4))) (ygm [.val (.tup (B.map Tb.t)),.val (stT Y),.val (.int N),.val (.int 9),.own (ds.map De.t),.val (.int (i:Int)),s6,s7,s8])=some (.int (yak N (60+(i:Int))/4)):=by rw [zag];simp only [evE,yac,ygm,Sl.get,xmc,xmn,xgs,xgz,xjs,xbs,yaz,ya2,cd];rfl
  generalize yak N (60+(i:Int))/4=K at *;obtain ⟨d0,ed0,hd0⟩:=C.dd _ (by lia) Y hY (K/16);rw [hY.sch] at ed0;have x7:evE G (.call "_law_deed" [.var 0,.var 1,.bin .fdiv (.var 6) (.cst (.int 16))]) (ygm [.val (.tup (B.map Tb.t)),.val (stT Y),.val (.int N),.val (.int 9),.own (ds.map De.t),.val (.int (i:Int)),.val (.int K),s7,s8])=some d0.t:=by rw [evE];show G.call "_law_deed" [.tup (B.map Tb.t),stT Y,.int (K/16)]=_;exact ed0
  have p1:yab G dsB [.val (.tup (B.map Tb.t)),.val (stT Y),.val (.int N),.val (.int 9),.own (ds.map De.t),.val (.int (i:Int)),s6,s7,s8]=yab G (dsB.drop 2) [.val (.tup (B.map Tb.t)),.val (stT Y),.val (.int N),.val (.int 9),.own (ds.map De.t),.val (.int (i:Int)),.val (.int K),.val (De.dd d0).t,s8] :=
   (zah rfl x6 rfl).trans (zah rfl x7 rfl)
  have p2:∃ e1:De,e1.ok B/\yab G (dsB.drop 2) [.val (.tup (B.map Tb.t)),.val (stT Y),.val (.int N),.val (.int 9),.own (ds.map De.t),.val (.int (i:Int)),.val (.int K),.val (De.dd d0).t,s8]=yab G (dsB.drop 3) [.val (.tup (B.map Tb.t)),.val (stT Y),.val (.int N),.val (.int 9),.own (ds.map De.t),.val (.int (i:Int)),.val (.int K),.val e1.t,s8]:=by
   have c1:evE G (.cmp .eq (.bin .mod (.var 6) (.cst (.int 8))) (.cst (.int 0))) (ygm [.val (.tup (B.map Tb.t)),.val (stT Y),.val (.int N),.val (.int 9),.own (ds.map De.t),.val (.int (i:Int)),.val (.int K),.val (De.dd d0).t,s8])=some (.bl (K%8==0)):=rfl;cases q1:(K%8==0) with
   | false=>exact ⟨.dd d0,hd0,zau rfl (c1.trans (zze (fun b=>some (T.bl b)) q1))⟩
   | true =>obtain ⟨x,hx,ex⟩:=zp7 (K/8);refine ⟨.mk "mark" x,⟨by simp [mkW],hx⟩,zc0 rfl (c1.trans (congrArg (fun b=>some (T.bl b)) q1)) ((zah (t:=(De.mk "mark" x).t) rfl ?_ rfl).trans rfl)⟩;show Option.map T.tup (Option.bind (some (T.str "mark")) fun a=>Option.bind (Option.bind (ybd [.str "x",.str "y"] (K/8%2)) fun x=>some [x]) fun r=>some (a::r))=_;rw [ex];rfl
  obtain ⟨e1,he1,p2⟩:=p2;have p3:∃ e2:De,e2.ok B/\yab G (dsB.drop 3) [.val (.tup (B.map Tb.t)),.val (stT Y),.val (.int N),.val (.int 9),.own (ds.map De.t),.val (.int (i:Int)),.val (.int K),.val e1.t,s8]=yab G (dsB.drop 4) [.val (.tup (B.map Tb.t)),.val (stT Y),.val (.int N),.val (.int 9),.own (ds.map De.t),.val (.int (i:Int)),.val (.int K),.val e2.t,s8]:=by
   have c1:evE G (.cmp .eq (.bin .mod (.var 6) (.cst (.int 16))) (.cst (.int 1))) (ygm [.val (.tup (B.map Tb.t)),.val (stT Y),.val (.int N),.val (.int 9),.own (ds.map De.t),.val (.int (i:Int)),.val (.int K),.val e1.t,s8])=some (.bl (K%16==1)):=rfl;have c2:evE G (.cmp .eq (.bin .mod (.bin .fdiv (.var 2) (.cst (.int 64))) (.cst (.int 2))) (.cst (.int 1))) (ygm [.val (.tup (B.map Tb.t)),.val (stT Y),.val (.int N),.val (.int 9),.own (ds.map De.t),.val (.int (i:Int)),.val (.int K),.val e1.t,s8])=some (.bl (N/64%2==1)):=rfl;cases q1:(K%16==1) with
   | false=>exact ⟨e1,he1,zau rfl (zci (c1.trans (zze (fun b=>some (T.bl b)) q1)))⟩
   | true =>
    have c3:=(zb5 (c1.trans (zze (fun b=>some (T.bl b)) q1))).trans c2;cases q2:(N/64%2==1) with
    | false=>exact ⟨e1,he1,zau rfl (c3.trans (zze (fun b=>some (T.bl b)) q2))⟩
    | true =>obtain ⟨x,hx,ex⟩:=zp7 (K/16);refine ⟨.mk "back" x,⟨by simp [mkW],hx⟩,zc0 rfl (c3.trans (congrArg (fun b=>some (T.bl b)) q2)) ((zah (t:=(De.mk "back" x).t) rfl ?_ rfl).trans rfl)⟩;show Option.map T.tup (Option.bind (some (T.str "back")) fun a=>Option.bind (Option.bind (ybd [.str "x",.str "y"] (K/16%2)) fun x=>some [x]) fun r=>some (a::r))=_;rw [ex];rfl
  obtain ⟨e2,he2,p3⟩:=p3;have p4:yab G (dsB.drop 4) [.val (.tup (B.map Tb.t)),.val (stT Y),.val (.int N),.val (.int 9),.own (ds.map De.t),.val (.int (i:Int)),.val (.int K),.val e2.t,s8]=yab G (dsB.drop 5) [.val (.tup (B.map Tb.t)),.val (stT Y),.val (.int N),.val (.int 9),.own ((ds++[e2]).map De.t),.val (.int (i:Int)),.val (.int K),.val e2.t,s8] :=
   (zhe (t:=e2.t) rfl rfl rfl (by rw [zy3];lia)).trans (by rw [zzq];rfl)
  rw [p1,p2,p3,p4];have hds:∀ d∈ds++[e2],d.ok B:=fun d hd=>by
   rcases oma hd with hd | hd
   .exact hd2 d hd
   .rw [omg hd];exact he2
  have hdl:(ds++[e2]).length<=(l1++[i]).length:=by rw [ud5,ud5];simp;lia
  have hYu:Stn B (20+(l1++[i]).length) Y:=hY.up (by rw [zy4];lia);have hpos:0<(ds++[e2]).length:=by simp
  generalize ds++[e2]=es at *;obtain ⟨x,ix,hx⟩:=De.i0 he2;have cI:evE G (.cmp .isin (.idx (.var 7) (.cst (.int 0))) (.tup [.cst (.str "add"),.cst (.str "drop"),.cst (.str "set")])) (ygm [.val (.tup (B.map Tb.t)),.val (stT Y),.val (.int N),.val (.int 9),.own (es.map De.t),.val (.int (i:Int)),.val (.int K),.val e2.t,s8])=some (.bl (ads.any fun y=>y==x)):=by simp only [evE,yac,ygm,Sl.get,xmc,xmn,xgs,xgz,xjs,xbs,ix,List.length_cons,List.length_nil,Nat.zero_add,Nat.reduceAdd,Nat.reduceLeDiff,if_true,xms,yau,zw1]
  rcases hx with ⟨d,rfl,hd,hx⟩ | hx
  .obtain ⟨t,et,ht⟩:=C.dn _ (by lia) Y hY d hd;rw [hY.sch] at et;have x8:evE G (.call "_law_done" [.var 0,.var 1,.var 7]) (ygm [.val (.tup (B.map Tb.t)),.val (stT Y),.val (.int N),.val (.int 9),.own (es.map De.t),.val (.int (i:Int)),.val (.int K),.val (De.dd d).t,s8])=some t:=by rw [evE];show G.call "_law_done" [.tup (B.map Tb.t),stT Y,d.t]=_;exact et
   rcases ht with ⟨j,rfl⟩ | ⟨Y',rfl,hY'⟩
   .-- refused: the deed is left out,or not
    obtain ⟨u,hu,eu⟩:∃ u:Nat,u<=es.length/\evE G (.sli (.var 4) none (some (.bin .sub (.blt .len (.var 4)) (.blt .toInt (.cmp .gt (.bin .mod (.bin .fdiv (.var 6) (.cst (.int 4096))) (.cst (.int 8))) (.cst (.int 0))))))) (ygm [.val (.tup (B.map Tb.t)),.val (stT Y),.val (.int N),.val (.int 9),.val (.lst (es.map De.t)),.val (.int (i:Int)),.val (.int K),.val (De.dd d).t,.val (.int j)])=some (.lst ((es.take u).map De.t)):=by
     have y1:evE G (.cmp .gt (.bin .mod (.bin .fdiv (.var 6) (.cst (.int 4096))) (.cst (.int 8))) (.cst (.int 0))) (ygm [.val (.tup (B.map Tb.t)),.val (stT Y),.val (.int N),.val (.int 9),.val (.lst (es.map De.t)),.val (.int (i:Int)),.val (.int K),.val (De.dd d).t,.val (.int j)])=some (.bl (decide ((0:Int)<K/4096%8))):=rfl;have y2:∀ (b:Bool) (u:Nat),decide ((0:Int)<K/4096%8)=b->((es.map De.t).length:Int)-(if b then 1 else 0)=(u:Int)->evE G (.sli (.var 4) none (some (.bin .sub (.blt .len (.var 4)) (.blt .toInt (.cmp .gt (.bin .mod (.bin .fdiv (.var 6) (.cst (.int 4096))) (.cst (.int 8))) (.cst (.int 0))))))) (ygm [.val (.tup (B.map Tb.t)),.val (stT Y),.val (.int N),.val (.int 9),.val (.lst (es.map De.t)),.val (.int (i:Int)),.val (.int K),.val (De.dd d).t,.val (.int j)])=some (.lst ((es.take u).map De.t)):=fun b u hb hu=>by
      have y3:evE G (.bin .sub (.blt .len (.var 4)) (.blt .toInt (.cmp .gt (.bin .mod (.bin .fdiv (.var 6) (.cst (.int 4096))) (.cst (.int 8))) (.cst (.int 0))))) (ygm [.val (.tup (B.map Tb.t)),.val (stT Y),.val (.int N),.val (.int 9),.val (.lst (es.map De.t)),.val (.int (i:Int)),.val (.int K),.val (De.dd d).t,.val (.int j)])=some (.int (u:Int)):=by rw [zag,zbk,zbk,y1,hb,<- hu];rfl
      rw [evE];simp only [evO,y3,xms,xbs];show some (T.lst (cut (es.map De.t) none (some (u:Int))))=_;rw [zf9,List.map_take]
     cases hb:decide ((0:Int)<K/4096%8) with
     | false=>exact ⟨es.length,Nat.le_refl _,y2 false es.length hb (by simp)⟩
     | true =>exact ⟨es.length-1,by lia,y2 true (es.length-1) hb (by simp;lia)⟩
    have e9:evS G (.nw 4 (.sli (.var 4) none (some (.bin .sub (.blt .len (.var 4)) (.blt .toInt (.cmp .gt (.bin .mod (.bin .fdiv (.var 6) (.cst (.int 4096))) (.cst (.int 8))) (.cst (.int 0)))))))) [.val (.tup (B.map Tb.t)),.val (stT Y),.val (.int N),.val (.int 9),.own (es.map De.t),.val (.int (i:Int)),.val (.int K),.val (De.dd d).t,.val (.int j)]=some (.nx [.val (.tup (B.map Tb.t)),.val (stT Y),.val (.int N),.val (.int 9),.own ((es.take u).map De.t),.val (.int (i:Int)),.val (.int K),.val (De.dd d).t,.val (.int j)]):=by rw [evS];show Option.bind (evE G _ (ygm [.val (.tup (B.map Tb.t)),.val (stT Y),.val (.int N),.val (.int 9),.val (.lst (es.map De.t)),.val (.int (i:Int)),.val (.int K),.val (De.dd d).t,.val (.int j)])) _=_;rw [eu];rfl
    refine ⟨_,(zc0 rfl (cI.trans (zze (fun b=>some (T.bl b)) hx)) ((zah rfl x8 rfl).trans ((zc0 rfl rfl ((zan e9).trans rfl)).trans rfl))).trans rfl,Y,es.take u,_,_,_,_,rfl,hYu,by rw [zAa];lia,fun d hd=>hds d (ub5 hd)⟩
   .have c2:evE G (.tru (.isi (.var 8) .tint)) (ygm [.val (.tup (B.map Tb.t)),.val (stT Y),.val (.int N),.val (.int 9),.own (es.map De.t),.val (.int (i:Int)),.val (.int K),.val (De.dd d).t,.val (stT Y')])=some (.bl false):=rfl;have e9:evS G (.ite (.tru (.isi (.var 8) .tint)) [.nw 4 (.sli (.var 4) none (some (.bin .sub (.blt .len (.var 4)) (.blt .toInt (.cmp .gt (.bin .mod (.bin .fdiv (.var 6) (.cst (.int 4096))) (.cst (.int 8))) (.cst (.int 0)))))))] [.asg 1 (.var 8)]) [.val (.tup (B.map Tb.t)),.val (stT Y),.val (.int N),.val (.int 9),.own (es.map De.t),.val (.int (i:Int)),.val (.int K),.val (De.dd d).t,.val (stT Y')]=some (.nx [.val (.tup (B.map Tb.t)),.val (stT Y'),.val (.int N),.val (.int 9),.own (es.map De.t),.val (.int (i:Int)),.val (.int K),.val (De.dd d).t,.val (stT Y')]):=by rw [evS];rfl
    exact ⟨_,(zc0 rfl (cI.trans (zze (fun b=>some (T.bl b)) hx)) ((zah rfl x8 rfl).trans ((zan e9).trans rfl))).trans rfl,Y',es,_,_,_,_,rfl,hY'.up (by rw [zy4,zz0];lia),hdl,hds⟩
  .exact ⟨_,(zau rfl (cI.trans (zze (fun b=>some (T.bl b)) hx))).trans rfl,Y,es,_,_,_,_,rfl,hYu,hdl,hds⟩
 refine ⟨ds,(zah (t:=.lst []) (τ':=[.val (.tup (B.map Tb.t)),.val (stT Z),.val (.int N),.val (.int 9),.own [],.no,.no,.no,.no]) rfl rfl rfl).trans ((zan (zao (xs:=[.int (q:Int)]) rfl ?_ (zen q (by lia)) el)).trans (zbe rfl)),?_,hd2⟩
 .show some [T.int (N%10)]=_;rw [hq]
 .rw [zAd] at hd1;lia
end
section
variable {B:List Tb}
theorem zk0 (a b c:Str):a++b++c=a++(b++c):=zze Str.mk (Array.append_assoc)
theorem zob (a:Str):(⟨#[]⟩:Str)++a=a:=zze Str.mk (Array.empty_append)
theorem zuo (a:Str):a++(⟨#[]⟩:Str)=a:=zze Str.mk (Array.append_empty)
theorem zgl (a b:Str):(a++b).length=a.length+b.length:=Array.size_append
theorem zq3:("":Str)=⟨#[]⟩:=by decide +kernel
theorem zck (s x:Str) {r:List Str} (h:r≠[]):Str.join s (x::r)=x++s++Str.join s r:=by
 cases r with
 | nil=>exact absurd rfl h
 | cons y r=>rfl
theorem zi9 (s:Str):∀ {a b:List Str},a≠[]->b≠[]->Str.join s (a++b)=Str.join s a++s++Str.join s b
 | [],_,h,_=>absurd rfl h
 | [x],b,_,h=>by rw [List.singleton_append,zck s x h];rfl
 | x::y::r,b,_,h=>by rw [List.cons_append,zck s x (by simp),zi9 s (by simp) h,zck s x (by simp)];simp only [zk0]
noncomputable def wt (l:List Str):Nat:=(l.map (·.length)).sum+l.length
theorem zfh (x:Str) (l:List Str):wt (x::l)=x.length+1+wt l:=by unfold wt;simp;lia
theorem zfx (s:Str) (hs:s.length<=1):∀ l:List Str,(Str.join s l).length<=wt l
 | []=>zzp _
 | [x]=>by rw [zfh];show x.length<=_;lia
 | x::y::r=>by rw [zck s x (by simp),zgl,zgl,zfh];have:=zfx s hs (y::r);lia
theorem zid:∀ l:List Str,yeh (l.map .str)=some l
 | []=>rfl
 | x::l=>by rw [zy1,yeh,zid l];rfl
theorem zgv {s:Str} {l:List Str} (hs:s.length<=16) (h:wt l<=1048576):ybk s (l.map .str)=some (.str (Str.join s l)):=by unfold ybk;rw [zid];show (if _ then _ else _)=_;rw [if_pos ⟨hs,h⟩]
theorem zqe:(" ":Str).length=1:=by decide +kernel
noncomputable def wI (i:Int):Str:=(toString i:String)
theorem zel:("'":Str).length=1:=by decide +kernel
theorem zc7 (a b:Str):yai (a++b)=(yai a&&yai b):=by show (a.cps++b.cps).all (·<128)=_;rw [Array.all_append];rfl
noncomputable def wW:T->Str
 | .non=>"?"
 | .str x=>"'"++x
 | .int i=>wI i
 | _=>""
theorem wI_s:∀ n:Nat,n<19->(wI ((n:Int)-9)).length<=3/\yai (wI ((n:Int)-9))=true/\((n:Int)-9).natAbs.log2<1920:=by decide +kernel
theorem znw {i:Int} (h:Sml (.int i)):(wI i).length<=3/\yai (wI i)=true/\i.natAbs.log2<1920:=by
 have h0 : -9<=i/\i<=9:=h;have:=wI_s (i+9).toNat (by lia)
 rwa [show (((i+9).toNat:Nat):Int)-9=i by lia] at this
theorem q_ok:("?":Str).length<=3/\yai "?"=true:=by decide +kernel
theorem zr4:yai "'"=true:=by decide +kernel
theorem zud {w:T} (h:Sml w):(wW w).length<=3/\yai (wW w)=true:=by
 cases w with
 | non=>exact q_ok
 | str x =>
  have h0:x.length<=2/\yai x=true:=h;refine ⟨?_,?_⟩
  .show ("'"++x).length<=3;rw [zgl,zel];lia
  .show yai ("'"++x)=true;rw [zc7,zr4,h0.2];rfl
 | int i=>exact ⟨(znw h).1,(znw h).2.1⟩
 | _=>cases h
theorem ww_G {G:Glo} {w:T} (h:Sml w):yab G zbv.body [.val w]=some (.rt (.str (wW w))):=by
 cases w with
 | non=>exact zb7 rfl rfl (zbe rfl)
 | str x =>have h0:x.length<=2/\yai x=true:=h;refine (zau rfl rfl).trans (zb7 rfl rfl (za8 rfl ?_));show (if ("'":Str).length+x.length<=SZ then some (T.str ("'"++x)) else none)=_;rw [if_pos (by rw [zel];have:=zat;lia)];rfl
 | int i =>refine (zau rfl rfl).trans ((zau rfl rfl).trans (za8 rfl ?_));show (if i.natAbs.log2<1920 then some (T.str (wI i)) else none)=_;rw [if_pos (znw h).2.2];rfl
 | _=>cases h
theorem mul0 (x:Str):ycy x 0=⟨#[]⟩:=by unfold ycy;rw [if_neg (by decide)];rfl
theorem mul1 (x:Str):ycy x 1=x:=by unfold ycy;rw [if_pos rfl]
theorem lw_G {G:Glo} {w:T} (h:Sml w):yab G zdp.body [.val w]=some (.rt (.str (wW w))):=by
 have hsz:=zat;cases w with
 | non=>exact zb7 rfl rfl (zbe rfl)
 | str x =>have h0:x.length<=2/\yai x=true:=h;refine (zau rfl rfl).trans (za8 rfl ?_);show (ycm (.str "'") (.int 1)).bind (fun a=>ya2 a (.str x))=_;show ((if (0:Int)<=1/\(1:Int)<=4/\("'":Str).length<=1000 then some (T.str (ycy "'" 1)) else none).bind fun a=>ya2 a (.str x))=_;rw [if_pos ⟨by decide,by decide,by rw [zel];decide⟩,mul1,zyx];show (if ("'":Str).length+x.length<=SZ then some (T.str ("'"++x)) else none)=_;rw [if_pos (by rw [zel];lia)];rfl
 | int i =>have hi:=znw h;refine (zau rfl rfl).trans (za8 rfl ?_);show (ycm (.str "'") (.int 0)).bind (fun a=>(if i.natAbs.log2<1920 then some (T.str (wI i)) else none).bind fun y=>ya2 a y)=_;show ((if (0:Int)<=0/\(0:Int)<=4/\("'":Str).length<=1000 then some (T.str (ycy "'" 0)) else none).bind fun a=>(if i.natAbs.log2<1920 then some (T.str (wI i)) else none).bind fun y=>ya2 a y)=_;rw [if_pos ⟨by decide,by decide,by rw [zel];decide⟩,mul0,zyx,if_pos hi.2.2,zyx];show (if (⟨#[]⟩:Str).length+(wI i).length<=SZ then some (T.str (⟨#[]⟩++wI i)) else none)=_;rw [if_pos (by show 0+_<=_;lia),zob];rfl
 | _=>cases h
noncomputable def prW (L:List (Str × T)):List Str:=L.flatMap fun p=>[p.1,wW p.2]
noncomputable def wdD:De->List Str
 | .dd (.add b ps)=>"add"::b.nm::ps.map fun p=>wW p.2
 | .dd (.drp b k)=>"drop"::b.nm::k.map fun x=>wW (kT x)
 | .dd (.set b k L)=>(("set":Str)::b.nm::k.map fun x=>wW (kT x))++((":":Str)::prW L)
 | .mk w x=>[w,x]
noncomputable def rwX (d:De):Str:=Str.join " " (wdD d)
noncomputable def Wds (l:List Str):Prop:=∀ x∈l,x.length<=6/\yai x=true
theorem Wds.wt {l:List Str} (h:Wds l):K04.wt l<=7*l.length:=by
 induction l with
 | nil=>exact zza _
 | cons x l ih =>have h1:=(h x zzg).1;have h2:=ih fun y hy=>h y (zzc _ hy);rw [zfh,zzb];lia
theorem zfy {s:Str} (hs:yai s=true):∀ {l:List Str},(∀ x∈l,yai x=true)->yai (Str.join s l)=true
 | [],_=>by show yai Str.empty=true;decide +kernel
 | [x],h=>h x zzg
 | x::y::r,h=>by rw [zck s x (by simp),zc7,zc7,h x List.mem_cons_self,hs,zfy hs fun z hz=>h z (List.mem_cons_of_mem _ hz)];rfl
theorem zdx:Wds ["add", "drop", "set", ":", "mark", "back", "x", "y", "base", "deal"]:=by unfold Wds;decide +kernel
theorem zui:yai " "=true:=by decide +kernel
theorem zyw:∀ x∈ya7,x.length<=6/\yai x=true:=by decide +kernel
theorem zp9 (H:Sch B) {d:De} (h:d.ok B):Wds (wdD d)/\(wdD d).length<=20:=by
 have nmo:∀ b∈B,b.nm.length<=6/\yai b.nm=true:=fun b hb=>⟨(H.ok b hb).nm,(H.ok b hb).na⟩;have sm:∀ w,Sml w->(wW w).length<=6/\yai (wW w)=true:=fun w hw=>⟨by have:=(zud hw).1;lia,(zud hw).2⟩;cases d with
 | mk w x =>
  have hw:∀ w∈mkW,w.length<=6/\yai w=true:=by decide +kernel
  have hx:∀ x∈mkX,x.length<=6/\yai x=true:=by decide +kernel
  refine ⟨fun y hy=>?_,by simp [wdD]⟩;rcases omc hy with rfl | hy
  .exact hw _ h.1
  .rw [omg hy];exact hx _ h.2
 | dd d =>
  have hd:d.ok B:=h;cases d with
  | add b ps =>
   have hp:RowOk b ps:=hd.p;refine ⟨fun y hy=>?_,by have:=hp.len (H.ok b hd.b);simp [wdD];lia⟩;rcases omc hy with rfl | hy
   .exact zdx _ (by simp)
   rcases omc hy with rfl | hy
   .exact nmo b hd.b
   obtain ⟨p,hp1,rfl⟩:=omm hy;exact sm _ (hp.sm p hp1)
  | drp b k =>
   have hk:kS k:=hd.p;refine ⟨fun y hy=>?_,by have:=hk.1;simp [wdD];lia⟩;rcases omc hy with rfl | hy
   .exact zdx _ (by simp)
   rcases omc hy with rfl | hy
   .exact nmo b hd.b
   obtain ⟨p,hp1,rfl⟩:=omm hy;exact sm _ (hk.2 p hp1)
  | set b k L =>
   obtain ⟨hk,hL,hl⟩:kS k/\Prs b L/\L.length<=4:=hd.p;have hpl:(prW L).length<=L.length*2:=zdf fun p _=>zza _;refine ⟨fun y hy=>?_,by have:=hk.1;show ((("set":Str)::b.nm::k.map fun x=>wW (kT x))++((":":Str)::prW L)).length<=20;simp;lia⟩;rcases oma hy with hy | hy
   .rcases omc hy with rfl | hy
    .exact zdx _ (by simp)
    rcases omc hy with rfl | hy
    .exact nmo b hd.b
    obtain ⟨p,hp1,rfl⟩:=omm hy;exact sm _ (hk.2 p hp1)
   .rcases omc hy with rfl | hy
    .exact zdx _ (by simp)
    obtain ⟨p,hp,hy⟩:=ue1.mp hy;obtain ⟨c,hc,e,_,_,hs⟩:=hL p hp;rcases omc hy with rfl | hy
    .rw [<- e];exact zyw _ ((H.ok b hd.b).as c hc)
    .rw [omg hy];exact sm _ hs
theorem zuq (H:Sch B) {d:De} (h:d.ok B):(rwX d).length<=140/\yai (rwX d)=true:=by obtain ⟨h1,h2⟩:=zp9 H h;refine ⟨?_,zfy zui fun x hx=>(h1 x hx).2⟩;have:=zfx " " (by rw [zqe];exact zza _) (wdD d);have:=h1.wt;unfold rwX;lia
theorem zmk (H:Sch B) {d:De} (h:d.ok B):ybk " " ((wdD d).map T.str)=some (.str (rwX d)):=by obtain ⟨h1,h2⟩:=zp9 H h;exact zgv (by rw [zqe];decide) (by have:=h1.wt;lia)
end
section
noncomputable def Dd.w:Dd->Str
 | .add _ _=>"add"
 | .drp _ _=>"drop"
 | .set _ _ _=>"set"
noncomputable def Dd.V:Dd->List T
 | .add _ ps=>ps.map (·.2)
 | .drp _ k=>k.map kT
 | .set _ k _=>k.map kT
noncomputable def Dd.L:Dd->List (Str × T)
 | .set _ _ L=>L
 | _=>[]
noncomputable def Dd.se:Dd->Bool
 | .set _ _ _=>true
 | _=>false
theorem Dd.i0 (d:Dd):yah d.t (.int 0)=some (.str d.w):=by cases d<;>rw [Dd.t,yah,yaq]<;>rfl
theorem Dd.i2 (d:Dd):yah d.t (.int 2)=some (.tup d.V):=by cases d<;>rw [Dd.t,yah,ya5]<;>rfl
theorem Dd.i3 {d:Dd} (h:d.se=true):yah d.t (.int 3)=some (.tup (d.L.map prT)):=by
 cases d with
 | set b k L=>rw [Dd.t,yah,yec];rfl
 | _=>cases h
theorem ygf:((("add":Str)=="mark")=false/\(("add":Str)=="back")=false/\(("add":Str)=="set")=false)/\((("drop":Str)=="mark")=false/\(("drop":Str)=="back")=false/\(("drop":Str)=="set")=false)/\((("set":Str)=="mark")=false/\(("set":Str)=="back")=false/\(("set":Str)=="set")=true):=by decide +kernel
theorem Dd.ws (d:Dd):(d.w==("mark":Str))=false/\(d.w==("back":Str))=false/\(d.w==("set":Str))=d.se:=by
 cases d with
 | add _ _=>exact ygf.1
 | drp _ _=>exact ygf.2.1
 | set _ _ _=>exact ygf.2.2
theorem Dd.ok.vs {B:List Tb} {d:Dd} (h:d.ok B) (H:Sch B):(∀ w∈d.V,Sml w)/\d.V.length<=4/\(∀ p∈d.L,Sml p.2)/\d.L.length<=4:=by
 cases d with
 | add b ps =>have hp:RowOk b ps:=h.p;refine ⟨fun w hw=>?_,by show (ps.map (·.2)).length<=4;rw [List.length_map];exact hp.len (H.ok b h.b),fun p hp=>absurd hp (by simp [Dd.L]),Nat.zero_le _⟩;obtain ⟨p,hp1,rfl⟩:=omm hw;exact hp.sm p hp1
 | drp b k =>have hk:kS k:=h.p;refine ⟨fun w hw=>?_,by show (k.map kT).length<=4;rw [List.length_map];have:=hk.1;lia,fun p hp=>absurd hp (by simp [Dd.L]),Nat.zero_le _⟩;obtain ⟨x,hx,rfl⟩:=omm hw;exact hk.2 x hx
 | set b k L =>
  obtain ⟨hk,hL,hl⟩:kS k/\Prs b L/\L.length<=4:=h.p;refine ⟨fun w hw=>?_,by show (k.map kT).length<=4;rw [zy3];have:=hk.1;lia,fun p hp=>?_,hl⟩
  .obtain ⟨x,hx,rfl⟩:=omm hw;exact hk.2 x hx
  .obtain ⟨c,_,_,_,_,hs⟩:=hL p hp;exact hs
theorem zqa (d:Dd):wdD (.dd d)=(d.w::d.b.nm::d.V.map wW)++(if d.se then (":":Str)::prW d.L else []):=by
 cases d with
 | add b ps=>simp [wdD,Dd.w,Dd.b,Dd.V,Dd.se]
 | drp b k=>simp [wdD,Dd.w,Dd.b,Dd.V,Dd.se]
 | set b k L=>simp [wdD,Dd.w,Dd.b,Dd.V,Dd.se,Dd.L]
theorem ziq (L:List (Str × T)) (p:Str × T):prW (L++[p])=prW L++[p.1,wW p.2]:=by unfold prW;simp
theorem zlb (L:List (Str × T)):(prW L).length<=L.length*2:=zdf fun _ _=>zza _
theorem zq6 {G:Glo} {f:Str} (cw:∀ w,Sml w->G.call f [w]=some (.str (wW w))) {e:E} {ρ:Env} {V:List T} (he:yac G [e] ρ=some [.tup V]) (hV:∀ w∈V,Sml w) (hl:V.length<=4):evE G (.comp (.call f [.var 0]) 1 .plain [e] none) ρ=some (.lst ((V.map wW).map T.str)):=by
 rw [zaq,he,zyx];have s2:yae .plain [.tup V]=some (V.map id):=by unfold yae;rw [zac,zyx,if_pos (by have:=zat;lia),List.map_id]
 rw [s2,zyx,zaf (enc:=id) (fun w=>T.str (wW w)) fun w hw=>by have:=cw w (hV w hw);rw [show bnd 1 (id w) ρ=some (some w::ρ) from rfl,zyx,evE];show Option.map some (G.call f [w])=_;rw [this];rfl,zzn];rfl
section
variable {G:Glo} {B:List Tb} (H:Sch B)
include H
theorem wd_G (cw:∀ w,Sml w->G.call "written_worth" [w]=some (.str (wW w))) {d:De} (h:d.ok B):yab G zaz.body [.val d.t,.no,.no,.no]=some (.rt (.str (rwX d))):=by
 have hj:=zmk H h;have hsz:=zat;cases d with
 | mk w x =>
  have i0:yah (De.mk w x).t (.int 0)=some (.str w):=by rw [De.t,yah,yaq]
  have hw:∀ w∈mkW,((w==("mark":Str))||(w==("back":Str)))=true:=by decide +kernel
  refine zb7 rfl ?_ (za8 rfl ?_)
  .have c1:evE G (.cmp .eq (.idx (.var 0) (.cst (.int 0))) (.cst (.str "mark"))) (ygm [.val (De.mk w x).t,.no,.no,.no])=some (.bl (w=="mark")):=by simp only [evE,ygm,Sl.get,xmc,xmn,xgz,xjs,xbs,i0,yau,eqs]
   have c2:evE G (.cmp .eq (.idx (.var 0) (.cst (.int 0))) (.cst (.str "back"))) (ygm [.val (De.mk w x).t,.no,.no,.no])=some (.bl (w=="back")):=by simp only [evE,ygm,Sl.get,xmc,xmn,xgz,xjs,xbs,i0,yau,eqs]
   have:=hw w h.1;rw [evE,c1,zyx];cases q:(w==("mark":Str)) with
   | true=>rfl
   | false =>rw [q,Bool.false_or] at this;exact c2.trans (zze (fun b=>some (T.bl b)) this)
  .exact hj
 | dd d =>
  have hd:d.ok B:=h;obtain ⟨n1,n2,n3⟩:=d.ws;obtain ⟨v1,v2,v3,v4⟩:=hd.vs H;have i0:=d.i0;have i1:=yf2 d;have i2:=d.i2;have c0':∀ (x:Str) (s1 s2 s3:Sl),evE G (.cmp .eq (.idx (.var 0) (.cst (.int 0))) (.cst (.str x))) (ygm [.val d.t,s1,s2,s3])=some (.bl (d.w==x)):=fun x s1 s2 s3=>by simp only [evE,ygm,Sl.get,xmc,xmn,xgz,xjs,xbs,i0,yau,eqs]
  have cA:evE G (.lor (.cmp .eq (.idx (.var 0) (.cst (.int 0))) (.cst (.str "mark"))) (.cmp .eq (.idx (.var 0) (.cst (.int 0))) (.cst (.str "back")))) (ygm [.val d.t,.no,.no,.no])=some (.bl false):=by rw [evE,c0',n1,zyx];exact (c0' _ _ _ _).trans (zze (fun b=>some (T.bl b)) n2)
  have e2:evE G (.bin .add (.lst [.idx (.var 0) (.cst (.int 0)),.idx (.var 0) (.cst (.int 1))]) (.comp (.call "written_worth" [.var 0]) 1 .plain [.idx (.var 0) (.cst (.int 2))] none)) (ygm [.val d.t,.no,.no,.no])=some (.lst ((d.w::d.b.nm::d.V.map wW).map T.str)):=by rw [zag,zq6 cw (ρ:=ygm [.val d.t,.no,.no,.no]) (V:=d.V) (by simp only [evE,yac,ygm,Sl.get,xmc,xmn,xgz,xjs,xbs,i2]) v1 v2];simp only [evE,yac,ygm,Sl.get,xmc,xmn,xgz,xjs,xbs,i0,i1,List.length_cons,List.length_nil,Nat.zero_add,Nat.reduceAdd,Nat.reduceLeDiff,if_true,xms];show (if 2+((d.V.map wW).map T.str).length<=SZ then _ else _)=_;rw [if_pos (by rw [zy3,zy3];lia)];rfl
  have pre:yab G zaz.body [.val d.t,.no,.no,.no]=yab G (zaz.body.drop 2) [.val d.t,.no,.own ((d.w::d.b.nm::d.V.map wW).map T.str),.no]:=(zau rfl cA).trans (zah rfl e2 rfl);show yab G zaz.body [.val d.t,.no,.no,.no]=_;rw [pre];rw [zqa] at hj;generalize hA:(d.w::d.b.nm::d.V.map wW)=A at *;have hAl:A.length<=6:=by rw [<- hA];simp;lia
  have fin:∀ (X:List Str) (s1 s3:Sl),ybk " " (X.map T.str)=some (.str (rwX (.dd d)))->yab G [.ret (.mth .join (.cst (.str " ")) (.var 2))] [.val d.t,s1,.own (X.map T.str),s3]=some (.rt (.str (rwX (.dd d)))):=fun X s1 s3 hX=>zbe (by rw [evS];show Option.map Out.rt (ybk " " (X.map T.str))=_;rw [hX];rfl);cases hs:d.se with
  | false =>rw [hs,if_neg (by simp),List.append_nil] at hj;exact (zau rfl ((c0' _ _ _ _).trans (zze (fun b=>some (T.bl b)) (n3.trans hs)))).trans (fin A _ _ hj)
  | true =>
   rw [hs,if_pos rfl] at hj;obtain ⟨τ',el,s1,s3,rfl⟩:=zak (enc:=prT) (f:=fun x τ=>(ya0 [3,1] x τ).bind fun τ'=>yab G wdL τ') (I:=fun done τ=>∃ s1 s3:Sl,τ=[.val d.t,s1,.own ((A++(":":Str)::prW done).map T.str),s3]) d.L [.val d.t,.no,.own ((A++[(":":Str)]).map T.str),.no] ⟨_,_,rfl⟩ fun l1 p l2 e τ hI=>by
    obtain ⟨s1,s3,rfl⟩:=hI;have hp:=v3 p (by rw [e];simp);have hl1:l1.length<=4:=by rw [e,zy4] at v4;lia
    have hpl:=zlb l1;have hc:=cw p.2 hp;refine ⟨[.val d.t,.val p.2,.own ((A++(":":Str)::prW (l1++[p])).map T.str),.val (.str p.1)],?_,_,_,rfl⟩;show yab G wdL [.val d.t,.val p.2,.own ((A++(":":Str)::prW l1).map T.str),.val (.str p.1)]=_;have ex:evE G (.lst [.var 3,.call "written_worth" [.var 1]]) (ygm [.val d.t,.val p.2,.own ((A++(":":Str)::prW l1).map T.str),.val (.str p.1)])=some (.lst [.str p.1,.str (wW p.2)]):=by simp only [evE,yac,ygm,Sl.get,xmc,xmn,xgs,xgz,xjs,xbs,hc,List.length_cons,List.length_nil,Nat.zero_add,Nat.reduceAdd,Nat.reduceLeDiff,if_true,xms]
    refine (zan (τ':=[.val d.t,.val p.2,.own ((A++(":":Str)::prW (l1++[p])).map T.str),.val (.str p.1)]) ?_).trans rfl;rw [evS,show yaf (yaj (.lst [.var 3,.call "written_worth" [.var 1]])) [.val d.t,.val p.2,.own ((A++(":":Str)::prW l1).map T.str),.val (.str p.1)]=[.val d.t,.val p.2,.own ((A++(":":Str)::prW l1).map T.str),.val (.str p.1)] from rfl,ex];show (if ((A++(":":Str)::prW l1).map T.str).length+2<=SZ then _ else _)=_;rw [if_pos (by rw [zy3,zy4,zzb];lia),ziq];simp
   have ei:=d.i3 hs;have er:yac G [.idx (.var 0) (.cst (.int 3))] (ygm [.val d.t,.no,.own ((A++[(":":Str)]).map T.str),.no])=some [.tup (d.L.map prT)]:=by simp only [evE,yac,ygm,Sl.get,xmc,xmn,xgz,xjs,xbs,ei]
   refine (zc0 (τ':=[.val d.t,s1,.own ((A++(":":Str)::prW d.L).map T.str),s3]) rfl ((c0' _ _ _ _).trans (zze (fun b=>some (T.bl b)) (n3.trans hs))) ?_).trans (fin _ _ _ hj);refine (zhe (t:=.str ":") (ts:=A.map T.str) rfl rfl rfl (by rw [zy3];lia)).trans ?_;show yab G [.loop [3,1] .plain [.idx (.var 0) (.cst (.int 3))] wdL] [.val d.t,.no,.own (A.map T.str++[T.str ":"]),.no]=_;rw [show A.map T.str++[T.str ":"]=(A++[(":":Str)]).map T.str by rw [zzq];rfl];exact (zan (zao rfl er (zac _) el)).trans rfl
theorem ro_G (cw:∀ w,Sml w->G.call "_law_word" [w]=some (.str (wW w))) {d:De} (h:d.ok B):yab G zbf.body [.val d.t,.no,.no,.no]=some (.rt (.str (rwX d))):=by
 have hj:=zmk H h;have hsz:=zat;cases d with
 | mk w x=>exact zb7 rfl rfl (za8 rfl hj)
 | dd d =>
  have hd:d.ok B:=h;obtain ⟨n1,n2,n3⟩:=d.ws;obtain ⟨v1,v2,v3,v4⟩:=hd.vs H;have i0:=d.i0;have i1:=yf2 d;have i2:=d.i2;have c0':∀ (x:Str) (s1 s2 s3:Sl),evE G (.cmp .eq (.idx (.var 0) (.cst (.int 0))) (.cst (.str x))) (ygm [.val d.t,s1,s2,s3])=some (.bl (d.w==x)):=fun x s1 s2 s3=>by simp only [evE,ygm,Sl.get,xmc,xmn,xgz,xjs,xbs,i0,yau,eqs]
  have cA:evE G (.cmp .eq (.blt .len (.var 0)) (.cst (.int 2))) (ygm [.val d.t,.no,.no,.no])=some (.bl false):=by cases d<;>rfl
  have e2:evE G (.bin .add (.lst [.idx (.var 0) (.cst (.int 0)),.idx (.var 0) (.cst (.int 1))]) (.comp (.call "_law_word" [.var 0]) 1 .plain [.idx (.var 0) (.cst (.int 2))] none)) (ygm [.val d.t,.no,.no,.no])=some (.lst ((d.w::d.b.nm::d.V.map wW).map T.str)):=by rw [zag,zq6 cw (ρ:=ygm [.val d.t,.no,.no,.no]) (V:=d.V) (by simp only [evE,yac,ygm,Sl.get,xmc,xmn,xgz,xjs,xbs,i2]) v1 v2];simp only [evE,yac,ygm,Sl.get,xmc,xmn,xgz,xjs,xbs,i0,i1,List.length_cons,List.length_nil,Nat.zero_add,Nat.reduceAdd,Nat.reduceLeDiff,if_true,xms];show (if 2+((d.V.map wW).map T.str).length<=SZ then _ else _)=_;rw [if_pos (by rw [zy3,zy3];lia)];rfl
  have pre:yab G zbf.body [.val d.t,.no,.no,.no]=yab G (zbf.body.drop 2) [.val d.t,.no,.own ((d.w::d.b.nm::d.V.map wW).map T.str),.no]:=(zau rfl cA).trans (zah rfl e2 rfl);show yab G zbf.body [.val d.t,.no,.no,.no]=_;rw [pre];rw [zqa] at hj;generalize hA:(d.w::d.b.nm::d.V.map wW)=A at *;have hAl:A.length<=6:=by rw [<- hA];simp;lia
  have fin:∀ (X:List Str) (s1 s3:Sl),ybk " " (X.map T.str)=some (.str (rwX (.dd d)))->yab G [.ret (.mth .join (.cst (.str " ")) (.var 2))] [.val d.t,s1,.own (X.map T.str),s3]=some (.rt (.str (rwX (.dd d)))):=fun X s1 s3 hX=>zbe (by rw [evS];show Option.map Out.rt (ybk " " (X.map T.str))=_;rw [hX];rfl);cases hs:d.se with
  | false =>rw [hs,if_neg (by simp),List.append_nil] at hj;exact (zau rfl ((c0' _ _ _ _).trans (zze (fun b=>some (T.bl b)) (n3.trans hs)))).trans (fin A _ _ hj)
  | true =>
   rw [hs,if_pos rfl] at hj;obtain ⟨τ',el,s1,s3,rfl⟩:=zak (enc:=prT) (f:=fun x τ=>(ya0 [3,1] x τ).bind fun τ'=>yab G roL τ') (I:=fun done τ=>∃ s1 s3:Sl,τ=[.val d.t,s1,.own ((A++(":":Str)::prW done).map T.str),s3]) d.L [.val d.t,.no,.own ((A++[(":":Str)]).map T.str),.no] ⟨_,_,rfl⟩ fun l1 p l2 e τ hI=>by
    obtain ⟨s1,s3,rfl⟩:=hI;have hp:=v3 p (by rw [e];simp);have hl1:l1.length<=4:=by rw [e,zy4] at v4;lia
    have hpl:=zlb l1;have hc:=cw p.2 hp;refine ⟨[.val d.t,.val p.2,.own ((A++(":":Str)::prW (l1++[p])).map T.str),.val (.str p.1)],?_,_,_,rfl⟩;show yab G roL [.val d.t,.val p.2,.own ((A++(":":Str)::prW l1).map T.str),.val (.str p.1)]=_;have ex:evE G (.bin .add (.var 2) (.lst [.var 3,.call "_law_word" [.var 1]])) (ygm [.val d.t,.val p.2,.val (.lst ((A++(":":Str)::prW l1).map T.str)),.val (.str p.1)])=some (.lst ((A++(":":Str)::prW (l1++[p])).map T.str)):=by rw [zag];simp only [evE,yac,ygm,Sl.get,xmc,xmn,xgs,xgz,xjs,xbs,hc,List.length_cons,List.length_nil,Nat.zero_add,Nat.reduceAdd,Nat.reduceLeDiff,if_true,xms];show (if ((A++(":":Str)::prW l1).map T.str).length+2<=SZ then _ else _)=_;rw [if_pos (by rw [zy3,zy4,zzb];lia),ziq];simp
    exact (zh9 (τ0:=[.val d.t,.val p.2,.val (.lst ((A++(":":Str)::prW l1).map T.str)),.val (.str p.1)]) rfl ex rfl).trans rfl
   have ei:=d.i3 hs;have er:yac G [.idx (.var 0) (.cst (.int 3))] (ygm [.val d.t,.no,.own ((A++[(":":Str)]).map T.str),.no])=some [.tup (d.L.map prT)]:=by simp only [evE,yac,ygm,Sl.get,xmc,xmn,xgz,xjs,xbs,ei]
   refine (zc0 (τ':=[.val d.t,s1,.own ((A++(":":Str)::prW d.L).map T.str),s3]) rfl ((c0' _ _ _ _).trans (zze (fun b=>some (T.bl b)) (n3.trans hs))) ?_).trans (fin _ _ _ hj);refine (zhe (t:=.str ":") (ts:=A.map T.str) rfl rfl rfl (by rw [zy3];lia)).trans ?_;show yab G [.loop [3,1] .plain [.idx (.var 0) (.cst (.int 3))] roL] [.val d.t,.no,.own (A.map T.str++[T.str ":"]),.no]=_;rw [show A.map T.str++[T.str ":"]=(A++[(":":Str)]).map T.str by rw [zzq];rfl];exact (zan (zao rfl er (zac _) el)).trans rfl
end
end
section
variable {l:List Str} {G:Glo}
noncomputable def nl (x:Str):Str:=x++"\n"
noncomputable def txt (l:List Str):Str:=Str.join "" (l.map nl)
noncomputable def Lns (l:List Str):Prop:=l.length<=400/\∀ x∈l,x.length<=200/\yai x=true
theorem zi1:("\n":Str).length=1:=by decide +kernel
theorem zwa:yai "\n"=true:=by decide +kernel
theorem zm0:("":Str).length=0:=by decide +kernel
theorem zq4:yai ""=true:=by decide +kernel
theorem zv9 {x:Str} (h:x.length<=200/\yai x=true):(nl x).length<=201/\yai (nl x)=true:=by unfold nl;rw [zgl,zi1,zc7,zwa,h.2];exact ⟨by lia,rfl⟩
theorem zt7 {k:Nat}:∀ {l:List Str},(∀ x∈l,x.length<=k)->wt l<=(k+1)*l.length
 | [],_=>zza _
 | x::l,h=>by have h1:=h x zzg;have h2:=zt7 (l:=l) fun y hy=>h y (zzc _ hy);rw [zfh,zzb,Nat.mul_add,Nat.mul_one];lia
theorem Lns.wt {l:List Str} (h:Lns l):K04.wt (l.map nl)<=80800:=by
 have h1:=zt7 (k:=201) (l:=l.map nl) fun x hx=>by obtain ⟨y,hy,rfl⟩:=omm hx;exact (zv9 (h.2 y hy)).1
 rw [zy3] at h1;have:=Nat.mul_le_mul_left 202 h.1;lia
theorem zif (h:Lns l):(txt l).length<=80800/\yai (txt l)=true:=by refine ⟨zzs (zfx "" (by rw [zm0];decide) _) h.wt,zfy zq4 fun x hx=>?_⟩;obtain ⟨y,hy,rfl⟩:=omm hx;exact (zv9 (h.2 y hy)).2
theorem zww (h:Lns l):ybk "" ((l.map nl).map T.str)=some (.str (txt l)):=zgv (by rw [zm0];decide) (by have:=h.wt;lia)
theorem zre:txt []=⟨#[]⟩:=rfl
theorem zie (l:List Str) (x:Str):txt (l++[x])=txt l++(x++"\n"):=by
 cases l with
 | nil =>show nl x=⟨#[]⟩++_;rw [zob];rfl
 | cons y l =>unfold txt;rw [zzq,zi9 "" (by simp) (by simp),zq3,zuo];rfl
theorem zma {elt:E} {src:E} {ρ:Env} (h:Lns l) (hs:yac G [src] ρ=some [.lst (l.map T.str)]) (he:∀ x∈l,evE G elt (some (T.str x)::ρ)=some (.str (nl x))):evE G (.mth .join (.cst (.str "")) (.comp elt 1 .plain [src] none)) ρ=some (.str (txt l)):=by
 have ec:evE G (.comp elt 1 .plain [src] none) ρ=some (.lst ((l.map nl).map T.str)):=by
  rw [zaq,hs,zyx];have s2:yae .plain [.lst (l.map T.str)]=some (l.map T.str):=by unfold yae;rw [zbb,zyx,if_pos (by rw [zy3];have:=h.1;have:=zat;lia)]
  rw [s2,zyx,zaf (enc:=T.str) (fun x=>T.str (nl x)) fun x hx=>by rw [show bnd 1 (T.str x) ρ=some (some (T.str x)::ρ) from rfl,zyx,he x hx];rfl,zzn];rfl
 rw [zf2,ec];show ybk "" ((l.map nl).map T.str)=_;exact zww h
theorem re_G (h:Lns l):yab G zbw.body [.val (.lst (l.map T.str))]=some (.rt (.str (txt l))) :=
 za8 rfl (zma h rfl fun x hx=>by have hx:=(h.2 x hx).1;show yfc [.str x,.str "\n"]=_;show (if (([x,("\n":Str)].map (·.length)).sum<=SZ) then some (T.str ((⟨#[]⟩++x)++"\n")) else none)=_;rw [if_pos (by simp [zi1];have:=zat;lia),zob];rfl)
theorem jo_G (h:Lns l):yab G zco.body [.val (.lst (l.map T.str))]=some (.rt (.str (txt l))) :=
 za8 rfl (zma h rfl fun x hx=>by have hx:=(h.2 x hx).1;show (if x.length+("\n":Str).length<=SZ then some (T.str (x++"\n")) else none)=_;rw [if_pos (by rw [zi1];have:=zat;lia)];rfl)
noncomputable def stp (n:Int) (c:Nat):Int:=(31*n+(c:Int))%9973
noncomputable def ybm (x:Str):Int:=x.cps.toList.foldl stp 0
theorem zxy (n:Int) (c:Nat):0<=stp n c/\stp n c<9973:=⟨uc5 _ (by decide),ub9 _ (by decide)⟩
theorem zqz:∀ (l:List Nat) (n:Int),(0<=n/\n<9973)->0<=l.foldl stp n/\l.foldl stp n<9973
 | [],_,h=>h
 | c::l,n,_=>zqz l _ (zxy n c)
theorem zko (x:Str):0<=ybm x/\ybm x<9973:=zqz _ _ ⟨by decide,by decide⟩
noncomputable def ch (c:Nat):T:=.str ⟨#[c]⟩
theorem zhj {G:Glo} {b:List S} (X:T) (hb:∀ (n:Int) (c:Nat) (s2:Sl),yab G b [.val X,.val (.int n),.val (ch c)]=some (.nx [.val X,.val (.int (stp n c)),.val (ch c)])):∀ (l:List Nat) (n:Int) (s2:Sl),∃ s2',yas (fun x τ=>(ya0 [2] x τ).bind fun τ'=>yab G b τ') (l.map ch) [.val X,.val (.int n),s2]=some (.nx [.val X,.val (.int (l.foldl stp n)),s2'])
 | [],n,s2=>⟨s2,rfl⟩
 | c::l,n,s2=>by obtain ⟨s2',e⟩:=zhj X hb l (stp n c) (.val (ch c));refine ⟨s2',?_⟩;rw [zy1,yas];show Option.bind (yab G b [.val X,.val (.int n),.val (ch c)]) _=_;rw [hb n c s2];exact e
theorem zyj:("\n":Str)=⟨#[10]⟩:=by decide +kernel
theorem zyd (c:Nat):ya3 .ord (ch c)=some (.int (c:Int)):=rfl
theorem zja {x:Str} (h:yai x=true):items .plain [.str x]=some (x.cps.toList.map ch):=by show (if yai x then some (ybr x) else none)=_;rw [if_pos h];rfl
theorem sm31 (n:Int):ycm (.int 31) (.int n)=some (.int (31*n)):=by show (if yb6 31||yb6 n then some (T.int (31*n)) else none)=_;rw [show yb6 31=true by decide];rfl
noncomputable def zT (n:Int):Str:=PySem.Txt.zfill (wI n) 4
noncomputable def ybx (a:Nat):Bool:=(List.range 500).all fun n=>decide ((wI ((a+n:Nat):Int)).length<=4)&&(wI ((a+n:Nat):Int)).cps.all fun c=>decide (48<=c)&&decide (c<58)
theorem dg0:ybx 0=true:=by decide +kernel
theorem dg1:ybx 500=true:=by decide +kernel
theorem dg2:ybx 1000=true:=by decide +kernel
theorem dg3:ybx 1500=true:=by decide +kernel
theorem dg4:ybx 2000=true:=by decide +kernel
theorem dg5:ybx 2500=true:=by decide +kernel
theorem dg6:ybx 3000=true:=by decide +kernel
theorem dg7:ybx 3500=true:=by decide +kernel
theorem dg8:ybx 4000=true:=by decide +kernel
theorem dg9:ybx 4500=true:=by decide +kernel
theorem dg10:ybx 5000=true:=by decide +kernel
theorem dg11:ybx 5500=true:=by decide +kernel
theorem dg12:ybx 6000=true:=by decide +kernel
theorem dg13:ybx 6500=true:=by decide +kernel
theorem dg14:ybx 7000=true:=by decide +kernel
theorem dg15:ybx 7500=true:=by decide +kernel
theorem dg16:ybx 8000=true:=by decide +kernel
theorem dg17:ybx 8500=true:=by decide +kernel
theorem dg18:ybx 9000=true:=by decide +kernel
theorem dg19:ybx 9500=true:=by decide +kernel
theorem zyv:∀ q:Nat,q<20->ybx (500*q)=true
 | 0,_=>dg0
 | 1,_=>dg1
 | 2,_=>dg2
 | 3,_=>dg3
 | 4,_=>dg4
 | 5,_=>dg5
 | 6,_=>dg6
 | 7,_=>dg7
 | 8,_=>dg8
 | 9,_=>dg9
 | 10,_=>dg10
 | 11,_=>dg11
 | 12,_=>dg12
 | 13,_=>dg13
 | 14,_=>dg14
 | 15,_=>dg15
 | 16,_=>dg16
 | 17,_=>dg17
 | 18,_=>dg18
 | 19,_=>dg19
 | q+20,h=>absurd h (by lia)
theorem ztt (n:Nat) (hn:n<9973):(wI (n:Int)).length<=4/\((wI (n:Int)).cps.all fun c=>decide (48<=c)&&decide (c<58))=true:=by have h:=oml (zyv (n/500) (by lia)) (n%500) (List.mem_range.mpr (Nat.mod_lt _ (by decide)));rw [show 500*(n/500)+n%500=n from Nat.div_add_mod n 500,zy7] at h;exact ⟨zAc h.1,h.2⟩
theorem ygj:∀ k:Nat,k<5->(⟨Array.replicate k 48⟩:Str)=ycy "0" (k:Int):=by decide +kernel
theorem zwg {i:Int} (h0:0<=i) (h1:i<9973):i.natAbs.log2<1920:=by
 have:i.natAbs.log2<=14:=by
  have h:i.natAbs<2 ^ 15:=by lia
  by_cases hz:i.natAbs=0
  .rw [hz];decide
  .have:=(Nat.log2_lt hz).mpr h;lia
 lia
theorem zt6 {n:Int} (h0:0<=n) (h1:n<9973):(wI n).length<=4/\zT n=ycy "0" (4-((wI n).length:Int))++wI n/\yai (wI n)=true:=by
 obtain ⟨h2,h3⟩:=ztt n.toNat (by lia);rw [show ((n.toNat:Nat):Int)=n by lia] at h2 h3;rw [Array.all_eq_true'] at h3;refine ⟨h2,?_,?_⟩
 .have hk:=ygj (4-(wI n).length) (by lia);rw [show (((4-(wI n).length:Nat)):Int)=4-((wI n).length:Int) by lia] at hk;rw [<- hk];unfold zT PySem.Txt.zfill;split
  .rename_i h4;have:4-(wI n).length=0:=by lia
   rw [this];exact (zob _).symm
  .have hz:zfilled (wI n) ((4:Int).toNat-(wI n).length)=PySem.Builtin.Str.padded (wI n) ((4:Int).toNat-(wI n).length) 0 48:=by
    unfold zfilled;split
    .rename_i e;have:=h3 43 (Array.mem_of_getElem? e);cases this
    .rename_i e;have:=h3 45 (Array.mem_of_getElem? e);cases this
    .rfl
   rw [hz];unfold PySem.Builtin.Str.padded;show (⟨Array.replicate (4-(wI n).length) 48++(wI n).cps++Array.replicate 0 48⟩:Str)=⟨Array.replicate (4-(wI n).length) 48++(wI n).cps⟩;simp
 .show (wI n).cps.all (·<128)=true;rw [Array.all_eq_true'];intro c hc;have:=h3 c hc;rw [zy7,zz7,zz7] at this;exact zzj (by lia)
end
section
variable {G:Glo}
noncomputable def yc3 (x:Str):Str:=zT (ybm x)
theorem zxx {x:Str} (h:yai x=true):yab G zf7.body [.val (.str x),.no,.no]=some (.rt (.str (yc3 x))):=by
 obtain ⟨h0,h1⟩:=zko x;obtain ⟨s2,el⟩:=zhj (G:=G) (b:=smB) (.str x) (fun n c _=>(zah (t:=.int (stp n c)) rfl (by show ((ycm (.int 31) (.int n)).bind fun a=>Option.bind (ya3 .ord (ch c)) fun y=>ya2 a y).bind (fun a=>ybe a (.int 9973))=_;rw [sm31,zyd];rfl) rfl).trans rfl) x.cps.toList 0 .no;refine (zah (t:=.int 0) rfl rfl rfl).trans ((zan (zao (xs:=[.str x]) rfl rfl (zja h) el)).trans (za8 rfl ?_));show Option.bind (if (ybm x).natAbs.log2<1920 then some (T.str (wI (ybm x))) else none) (fun a=>ybj .zfill a (.int 4))=_;rw [if_pos (zwg h0 h1)];rfl
theorem zwf {x:Str} (h:yai x=true):yab G zes.body [.val (.str x),.no,.no]=some (.rt (.str (yc3 x))):=by
 obtain ⟨h0,h1⟩:=zko x;obtain ⟨z1,z2,z3⟩:=zt6 h0 h1;have hsz:=zat;obtain ⟨s2,el⟩:=zhj (G:=G) (b:=slB) (.str x) (fun n c _=>(zah (t:=.int (stp n c)) rfl (by
  have ei:evE G (.idx (.lst [.blt .ord (.var 2),.cst (.int 10)]) (.blt .toInt (.cmp .eq (.var 2) (.cst (.str "\n"))))) (ygm [.val (.str x),.val (.int n),.val (ch c)])=some (.int (c:Int)):=by
   show yah (.lst [.int (c:Int),.int 10]) (.int (if ((⟨#[c]⟩:Str)=="\n") then 1 else 0))=_;cases q:((⟨#[c]⟩:Str)=="\n") with
   | false =>rw [if_neg (by simp),yah,yaq]
   | true =>
    have e:=ua2 q;rw [zyj] at e;have e1:c=10:=by simpa using e
    rw [if_pos rfl,yah,yaw,e1];rfl
  rw [zag,zag,ei];show ((ycm (.int 31) (.int n)).bind fun a=>ya2 a (.int (c:Int))).bind (fun a=>ybe a (.int 9973))=_;rw [sm31];rfl) rfl).trans rfl) x.cps.toList 0 .no
 refine (zah (t:=.int 0) rfl rfl rfl).trans ((zan (zao (xs:=[.str x]) rfl rfl (zja h) el)).trans (za8 rfl ?_));have es:evE G (.blt .toStr (.var 1)) (ygm [.val (.str x),.val (.int (x.cps.toList.foldl stp 0)),s2])=some (.str (wI (ybm x))):=by show (if (ybm x).natAbs.log2<1920 then some (T.str (wI (ybm x))) else none)=_;rw [if_pos (zwg h0 h1)]
 have hl0:(ycy "0" (4-((wI (ybm x)).length:Int))).length<=4:=by have hk:=ygj (4-(wI (ybm x)).length) (by lia);rw [show (((4-(wI (ybm x)).length:Nat)):Int)=4-((wI (ybm x)).length:Int) by lia] at hk;rw [<- hk];show (Array.replicate _ _).size<=4;rw [Array.size_replicate];lia
 rw [zag,zag,zag,zbk,es];show Option.bind (Option.bind (Option.bind (if (wI (ybm x)).length<=SZ then some (T.int ((wI (ybm x)).length:Nat)) else none) fun y=>yfo (.int 4) y) fun z=>ycm (.str "0") z) (fun a=>ya2 a (.str (wI (ybm x))))=_;rw [if_pos (by lia),zyx];show Option.bind (if 0<=(4:Int)-((wI (ybm x)).length:Int)/\(4:Int)-((wI (ybm x)).length:Int)<=4/\("0":Str).length<=1000 then some (T.str (ycy "0" (4-((wI (ybm x)).length:Int)))) else none) (fun a=>ya2 a (.str (wI (ybm x))))=_;rw [if_pos ⟨by lia,by lia,by decide +kernel⟩,zyx];show (if (ycy "0" (4-((wI (ybm x)).length:Int))).length+(wI (ybm x)).length<=SZ then some (T.str (ycy "0" (4-((wI (ybm x)).length:Int))++wI (ybm x))) else none)=_;rw [if_pos (by lia),<- z2];rfl
theorem zhg (x:Str):(yc3 x).length<=8/\yai (yc3 x)=true:=by
 obtain ⟨h0,h1⟩:=zko x;obtain ⟨z1,z2,z3⟩:=zt6 h0 h1;have hk:=ygj (4-(wI (ybm x)).length) (by lia);rw [show (((4-(wI (ybm x)).length:Nat)):Int)=4-((wI (ybm x)).length:Int) by lia] at hk;unfold yc3;rw [z2,<- hk];refine ⟨?_,?_⟩
 .rw [zgl];show (Array.replicate _ _).size+_<=8;rw [Array.size_replicate];lia
 .rw [zc7,z3,Bool.and_true];show (Array.replicate _ _).all (·<128)=true;rw [Array.all_eq_true'];intro c hc;rw [Array.mem_replicate] at hc;rw [hc.2];rfl
noncomputable def ycb (x:Str):Str:="end "++yc3 x
theorem zf6:("end ":Str).length=4/\yai "end "=true:=by decide +kernel
theorem zmz (x:Str):(ycb x).length<=200/\yai (ycb x)=true:=by have:=zhg x;unfold ycb;rw [zgl,zc7,zf6.1,zf6.2,this.2];exact ⟨by lia,rfl⟩
theorem Lns.snoc {l:List Str} (h:Lns l) (h2:l.length<=399) (x:Str):Lns (l++[ycb x]):=⟨by rw [zy4,zz0];lia,fun y hy=>by
 rcases oma hy with hy | hy
 .exact h.2 y hy
 .rw [omg hy];exact zmz x⟩
theorem zpr (cs:∀ x,yai x=true->G.call "_law_sum" [.str x]=some (.str (yc3 x))) {l:List Str} (h:Lns l):yab G zcq.body [.val (.lst (l.map T.str)),.no,.no]=some (.rt (.lst ((l++[ycb (txt l)]).map T.str))):=by
 have hsz:=zat;obtain ⟨τ',el,s2,rfl⟩:=zak (enc:=T.str) (f:=fun x τ=>(ya0 [2] x τ).bind fun τ'=>yab G clB τ') (I:=fun done τ=>∃ s2:Sl,τ=[.val (.lst (l.map T.str)),.val (.str (txt done)),s2]) l [.val (.lst (l.map T.str)),.val (.str ""),.no] ⟨_,by rw [zre,<- zq3]⟩ fun l1 x l2 e τ hI=>by obtain ⟨s2,rfl⟩:=hI;have hx:=h.2 x (by rw [e];simp);have h1:Lns l1:=⟨by have:=h.1;rw [e,ud5] at this;lia,fun y hy=>h.2 y (by rw [e];simp [hy])⟩;have ht:=(zif h1).1;refine ⟨[.val (.lst (l.map T.str)),.val (.str (txt (l1++[x]))),.val (.str x)],?_,_,rfl⟩;show yab G clB [.val (.lst (l.map T.str)),.val (.str (txt l1)),.val (.str x)]=_;refine (zah (t:=.str (txt (l1++[x]))) rfl ?_ rfl).trans rfl;show Option.bind (if (txt l1).length+x.length<=SZ then some (T.str (txt l1++x)) else none) (fun a=>ya2 a (.str "\n"))=_;rw [if_pos (by lia),zyx];show (if (txt l1++x).length+("\n":Str).length<=SZ then some (T.str (txt l1++x++"\n")) else none)=_;rw [if_pos (by rw [zgl,zi1];lia),zie,zk0]
 have ht:=zif h;have hc:=cs (txt l) ht.2;have he:=zhg (txt l);refine (zah (t:=.str "") rfl rfl rfl).trans ((zan (zao (xs:=[.lst (l.map T.str)]) rfl rfl (zbb _) el)).trans (za8 rfl ?_));have e1:evE G (.bin .add (.cst (.str "end ")) (.call "_law_sum" [.var 1])) (ygm [.val (.lst (l.map T.str)),.val (.str (txt l)),s2])=some (.str (ycb (txt l))):=by rw [zag];simp only [evE,yac,ygm,Sl.get,xmc,xmn,xgs,xgz,xjs,xbs,hc];show (if ("end ":Str).length+(yc3 (txt l)).length<=SZ then _ else _)=_;rw [if_pos (by rw [zf6.1];lia)];rfl
 have e2:evE G (.lst [.bin .add (.cst (.str "end ")) (.call "_law_sum" [.var 1])]) (ygm [.val (.lst (l.map T.str)),.val (.str (txt l)),s2])=some (.lst [.str (ycb (txt l))]):=by rw [evE];simp only [yac,e1,xbs,List.length_cons,List.length_nil,Nat.zero_add,Nat.reduceLeDiff,if_true,xms]
 rw [zag,e2];show (if (l.map T.str).length+1<=SZ then _ else _)=_;rw [if_pos (by rw [zy3];have:=h.1;lia),zzq];rfl
noncomputable def yd5 (l:List Str):Str:=txt (l++[ycb (txt l)])
theorem zu7 (l:List Str):txt l++txt [ycb (txt l)]=yd5 l:=by unfold yd5;rw [zie];rfl
theorem zvk {hd:Str} {A:T} {es:List De} {B:List Tb} (hA:items .plain [A]=some (es.map De.t)) (hes:∀ e∈es,e.ok B) (hL:Lns (hd::es.map rwX)) (h2:es.length<=390)
  (cd:∀ e:De,e.ok B->G.call "written_deed" [e.t]=some (.str (rwX e))) (ce:∀ x,yai x=true->G.call "written_end" [.str x]=some (.str (ycb x))) (cr:∀ l,Lns l->G.call "with_row_ends" [.lst (l.map T.str)]=some (.str (txt l))):yab G zb2.body [.val (.str hd),.val A,.no]=some (.rt (.str (yd5 (hd::es.map rwX)))):=by
 have hsz:=zat;have ec:evE G (.comp (.call "written_deed" [.var 0]) 1 .plain [.var 1] none) (ygm [.val (.str hd),.val A,.no])=some (.lst ((es.map rwX).map T.str)):=by
  rw [zaq];have s1:yac G [.var 1] (ygm [.val (.str hd),.val A,.no])=some [A]:=rfl;have s2:yae .plain [A]=some (es.map De.t):=by unfold yae;rw [hA,zyx,if_pos (by rw [zy3];lia)]
  rw [s1,zyx,s2,zyx,zaf (enc:=De.t) (fun e=>T.str (rwX e)) fun e he=>by have:=cd e (hes e he);simp only [bnd,if_true,xbs,evE,yac,ygm,Sl.get,xmc,xmn,xgz,xjs,this,xms],List.map_map];rfl
 have e1:evE G (.bin .add (.lst [.var 0]) (.comp (.call "written_deed" [.var 0]) 1 .plain [.var 1] none)) (ygm [.val (.str hd),.val A,.no])=some (.lst ((hd::es.map rwX).map T.str)):=by rw [zag,ec];show (if 1+((es.map rwX).map T.str).length<=SZ then _ else _)=_;rw [if_pos (by rw [zy3,zy3];lia)];rfl
 have e2:evE G (.call "with_row_ends" [.bin .add (.lst [.var 0]) (.comp (.call "written_deed" [.var 0]) 1 .plain [.var 1] none)]) (ygm [.val (.str hd),.val A,.no])=some (.str (txt (hd::es.map rwX))):=by rw [evE];simp only [yac,e1,xbs];exact cr _ hL
 generalize hd::es.map rwX=l at *;have ht:=zif hL;have c1:=ce (txt l) ht.2;have hE:Lns [ycb (txt l)]:=⟨by simp,fun y hy=>by rw [omg hy];exact zmz _⟩;have c2:=cr _ hE;have ht2:=zif hE;refine (zah rfl e2 rfl).trans (za8 rfl ?_);have e3:evE G (.lst [.call "written_end" [.var 2]]) (ygm [.val (.str hd),.val A,.val (.str (txt l))])=some (.lst ([ycb (txt l)].map T.str)):=by simp only [evE,yac,ygm,Sl.get,xmc,xmn,xgs,xgz,xjs,xbs,c1,List.length_cons,List.length_nil,Nat.zero_add,Nat.reduceLeDiff,if_true,xms]
 have e4:evE G (.call "with_row_ends" [.lst [.call "written_end" [.var 2]]]) (ygm [.val (.str hd),.val A,.val (.str (txt l))])=some (.str (txt [ycb (txt l)])):=by rw [evE];simp only [yac,e3,xbs];exact c2
 show evE G _ (ygm [.val (.str hd),.val A,.val (.str (txt l))])=_;rw [zag,e4];show (if (txt l).length+(txt [ycb (txt l)]).length<=SZ then some (T.str (txt l++txt [ycb (txt l)])) else none)=_;rw [if_pos (by have:(1000000:Nat)<SZ:=(by decide);lia),zu7]
end
section
variable {l:List Str} {x:Str} {m:Nat}
structure Wr (P:Pr):Prop extends Mk P where
 re:P.fn "with_row_ends"=some zbw
 ww:P.fn "written_worth"=some zbv
 so:P.fn "sum_of"=some zf7
 wb:P.fn "written_base"=some zb3
 wl:P.fn "written_deal"=some zcy
 wp:P.fn "written_part"=some zb2
 we:P.fn "written_end"=some zdi
 wd:P.fn "written_deed"=some zaz
 ls:P.fn "_law_sum"=some zes
 lw:P.fn "_law_word"=some zdp
 lo:P.fn "_law_row_of"=some zbf
 lc:P.fn "_law_closed"=some zcq
 ld:P.fn "_law_deal_rows"=some zcp
 lb:P.fn "_law_base_rows"=some zbx
 lj:P.fn "_law_joined"=some zco
 ds:P.fn "_law_deeds"=some zc5
noncomputable def bsE (Z:List Zt):List De:=Z.flatMap fun z=>z.2.map fun ps=>.dd (.add z.1 ps)
section
variable {P:Pr} (p:Wr P) {B:List Tb} (H:Sch B)
include p
theorem zuw (n:Nat) (h:Lns l):run P (n+1) "with_row_ends" [.lst (l.map T.str)]=some (.str (txt l)):=zaw p.re rfl (re_G h)
theorem zqu (n:Nat) (h:Lns l):run P (n+1) "_law_joined" [.lst (l.map T.str)]=some (.str (txt l)):=zaw p.lj rfl (jo_G h)
theorem zqf (n:Nat) (h:yai x=true):run P (n+1) "sum_of" [.str x]=some (.str (yc3 x)):=zaw p.so rfl (zxx h)
theorem zqn (n:Nat) (h:yai x=true):run P (n+1) "_law_sum" [.str x]=some (.str (yc3 x)):=zaw p.ls rfl (zwf h)
theorem zua (n:Nat) (h:yai x=true):run P (n+2) "written_end" [.str x]=some (.str (ycb x)) :=
 zaw p.we rfl (za8 rfl (by have hc:(glo P (run P (n+1))).call "sum_of" [.str x]=some (.str (yc3 x)):=zqf p n h;show Option.bind ((glo P (run P (n+1))).call "sum_of" [.str x]) (fun y=>ya2 (.str "end ") y)=_;rw [hc];show (if ("end ":Str).length+(yc3 x).length<=SZ then some (T.str (ycb x)) else none)=_;rw [if_pos (by rw [zf6.1];have:=(zhg x).1;have:=zat;lia)]))
theorem zqq (n:Nat) (h:Lns l):run P (n+2) "_law_closed" [.lst (l.map T.str)]=some (.lst ((l++[ycb (txt l)]).map T.str)):=zaw p.lc rfl (zpr (fun x hx=>zqn p n hx) h)
include H
theorem zub (n:Nat) {e:De} (h:e.ok B):run P (n+2) "written_deed" [e.t]=some (.str (rwX e)):=zaw p.wd rfl (wd_G H (fun w hw=>zaw p.ww rfl (ww_G hw)) h)
theorem zqo (n:Nat) {e:De} (h:e.ok B):run P (n+2) "_law_row_of" [e.t]=some (.str (rwX e)):=zaw p.lo rfl (ro_G H (fun w hw=>zaw p.lw rfl (lw_G hw)) h)
theorem zl6 {hd:Str} (hh:hd.length<=6/\yai hd=true) {es:List De} (hes:∀ e∈es,e.ok B) (hl:es.length<=390):Lns (hd::es.map rwX):=⟨by simp;lia,fun x hx=>by
 rcases omc hx with rfl | hx
 .exact ⟨by lia,hh.2⟩
 .obtain ⟨e,he,rfl⟩:=omm hx;have:=zuq H (hes e he);exact ⟨by lia,this.2⟩⟩
theorem zp8 (n:Nat) {hd:Str} (hh:hd.length<=6/\yai hd=true) {es:List De} (hes:∀ e∈es,e.ok B) (hl:es.length<=390) {A:T} (hA:items .plain [A]=some (es.map De.t)):run P (n+3) "written_part" [.str hd,A]=some (.str (yd5 (hd::es.map rwX))) :=
 zaw p.wp rfl (zvk (B:=B) hA hes (zl6 p H hh hes hl) hl (fun e he=>zub p H n he) (fun x hx=>zua p n hx) (fun l h=>zuw p (n+1) h))
theorem zt8 (n:Nat) {es:List De} (hes:∀ e∈es,e.ok B) (hl:es.length<=9):run P (n+4) "written_deal" [.tup (es.map De.t)]=some (.str (yd5 ("deal"::es.map rwX))) :=
 zaw p.wl rfl (za8 rfl (by rw [evE];exact zp8 p H n (zdx "deal" (by simp)) hes (by lia) (zac _)))
theorem zwk (n:Nat) {es:List De} (hes:∀ e∈es,e.ok B) (hl:es.length<=9):∃ t,run P (n+3) "_law_deal_rows" [.tup (es.map De.t)]=some t/\run P (n+3) "_law_joined" [t]=some (.str (yd5 ("deal"::es.map rwX))):=by
 have hL:=zl6 p H (zdx "deal" (by simp)) hes (by lia);have e1:=zqq p n hL;refine ⟨_,zaw p.ld rfl (za8 rfl ?_),zqu p (n+2) (hL.snoc (by simp;lia) (txt ("deal"::es.map rwX)))⟩;have ec:evE (glo P (run P (n+2))) (.comp (.call "_law_row_of" [.var 0]) 1 .plain [.var 0] none) (ygm [.val (.tup (es.map De.t))])=some (.lst ((es.map rwX).map T.str)):=by
  rw [zaq];have s1:yac (glo P (run P (n+2))) [.var 0] (ygm [.val (.tup (es.map De.t))])=some [.tup (es.map De.t)]:=rfl;have s2:yae .plain [.tup (es.map De.t)]=some (es.map De.t):=by unfold yae;rw [zac,zyx,if_pos (by rw [zy3];have:=zat;lia)]
  rw [s1,zyx,s2,zyx,zaf (enc:=De.t) (fun e=>T.str (rwX e)) fun e he=>by have:=zqo p H n (hes e he);rw [show bnd 1 e.t (ygm [.val (.tup (es.map De.t))])=some (some e.t::ygm [.val (.tup (es.map De.t))]) from rfl,zyx,evE];show Option.map some (run P (n+2) "_law_row_of" [e.t])=_;rw [this];rfl,zzn];rfl
 have ea:evE (glo P (run P (n+2))) (.bin .add (.lst [.cst (.str "deal")]) (.comp (.call "_law_row_of" [.var 0]) 1 .plain [.var 0] none)) (ygm [.val (.tup (es.map De.t))])=some (.lst ((("deal":Str)::es.map rwX).map T.str)):=by rw [zag,ec];show (if 1+((es.map rwX).map T.str).length<=SZ then _ else _)=_;rw [if_pos (by rw [zy3,zy3];have:=zat;lia)];rfl
 show evE (glo P (run P (n+2))) _ (ygm [.val (.tup (es.map De.t))])=_;rw [evE];simp only [yac,ea,xbs];exact e1
theorem zq8 (hm:m<=60) {Z:List Zt} (h:Stn B m Z):(∀ e∈bsE Z,e.ok B)/\(bsE Z).length<=240:=by
 refine ⟨fun e he=>?_,?_⟩
 .obtain ⟨z,hz,he⟩:=ue1.mp he;obtain ⟨ps,hps,rfl⟩:=omm he;exact ⟨h.mem hz,(h.rw z hz).2.1 ps hps⟩
 .have h1:=zdf (l:=Z) (f:=fun z=>z.2.map fun ps=>De.dd (.add z.1 ps)) (k:=m) fun z hz=>by rw [zy3];exact (h.rw z hz).1
  have h2:=Nat.mul_le_mul (show Z.length<=4 by rw [h.len];exact H.l4) hm;unfold bsE;lia
theorem zp4 (Z:List Zt):items .zip [yaa Z,stT Z]=some (Z.map fun z=>T.tup [z.1.t,rwT z]):=by show some (yb7 (Z.map fun z=>z.1.t) (Z.map rwT))=_;rw [zrb]
theorem zxt {G:Glo} (b:Tb) (ps:Row) (ρ:Env) (hb:evE G (.idx (.var 4) (.cst (.int 0))) (some (yag ps)::ρ)=some (.str b.nm)):evE G (.tup [.cst (.str "add"),.idx (.var 4) (.cst (.int 0)),.var 0]) (some (yag ps)::ρ)=some (De.dd (.add b ps)).t:=by rw [evE];simp only [yac,hb,xbs];simp only [evE,xgz,xjs,xbs,List.length_cons,List.length_nil,Nat.zero_add,Nat.reduceAdd,Nat.reduceLeDiff,if_true,xms];rfl
theorem zuc (n:Nat) (hm:m<=60) {Z:List Zt} (h:Stn B m Z):run P (n+4) "written_base" [yaa Z,stT Z]=some (.str (yd5 ("base"::(bsE Z).map rwX))):=by
 obtain ⟨ho,hl⟩:=zq8 p H hm h;have hsz:=zat;have w:=zp8 p H n (zdx "base" (by simp)) ho (by lia) (A:=.lst ((bsE Z).map De.t)) (zbb _);have w:(glo P (run P (n+3))).call "written_part" [.str "base",.lst ((bsE Z).map De.t)]=some (.str (yd5 ("base"::(bsE Z).map rwX))):=w;refine zaw p.wb rfl ?_;show yab (glo P (run P (n+3))) zb3.body [.val (yaa Z),.val (stT Z),.no,.no,.no]=_;generalize glo P (run P (n+3))=G at *;obtain ⟨τ',el,s3,s4,rfl⟩:=zak (enc:=fun z:Zt=>T.tup [z.1.t,rwT z]) (f:=fun x τ=>(ya0 [3,4] x τ).bind fun τ'=>yab G wbB τ') (I:=fun done τ=>∃ s3 s4:Sl,τ=[.val (yaa Z),.val (stT Z),.own ((bsE done).map De.t),s3,s4]) Z [.val (yaa Z),.val (stT Z),.own [],.no,.no] ⟨_,_,rfl⟩ fun l1 z l2 e τ hI=>by
  obtain ⟨s3,s4,rfl⟩:=hI;have hz:z∈Z:=by rw [e];simp
  have hzl:=(h.rw z hz).1;have hb1:(bsE l1).length<=240:=by
   have:bsE Z=bsE l1++bsE (z::l2):=by rw [e];unfold bsE;rw [List.flatMap_append]
   rw [this,zy4] at hl;lia
  have hsn:bsE (l1++[z])=bsE l1++z.2.map fun ps=>De.dd (.add z.1 ps):=by unfold bsE;simp
  refine ⟨[.val (yaa Z),.val (stT Z),.own ((bsE (l1++[z])).map De.t),.val z.1.t,.val (rwT z)],?_,_,_,rfl⟩;show yab G wbB [.val (yaa Z),.val (stT Z),.own ((bsE l1).map De.t),.val z.1.t,.val (rwT z)]=_;have ec:evE G (.comp (.tup [.cst (.str "add"),.idx (.var 4) (.cst (.int 0)),.var 0]) 1 .plain [.var 4] none) (ygm [.val (yaa Z),.val (stT Z),.own ((bsE l1).map De.t),.val z.1.t,.val (rwT z)])=some (.lst ((z.2.map fun ps=>De.dd (.add z.1 ps)).map De.t)):=by
   rw [zaq];have s1:yac G [.var 4] (ygm [.val (yaa Z),.val (stT Z),.own ((bsE l1).map De.t),.val z.1.t,.val (rwT z)])=some [rwT z]:=rfl;have s2:yae .plain [rwT z]=some (z.2.map yag):=by unfold yae;rw [rwT,zac,zyx,if_pos (by rw [zy3];lia)]
   rw [s1,zyx,s2,zyx,zaf (enc:=yag) (fun ps=>(De.dd (.add z.1 ps)).t) fun ps _=>by
    rw [show bnd 1 (yag ps) (ygm [.val (yaa Z),.val (stT Z),.own ((bsE l1).map De.t),.val z.1.t,.val (rwT z)])=some (some (yag ps)::ygm [.val (yaa Z),.val (stT Z),.own ((bsE l1).map De.t),.val z.1.t,.val (rwT z)]) from rfl,zyx,zxt p H z.1 ps _ (by simp only [evE,ygm,Sl.get,xmc,xmn,xgs,xgz,xjs,xbs,t0])];rfl,zzn]
   rfl
  refine (zan (τ':=[.val (yaa Z),.val (stT Z),.own ((bsE (l1++[z])).map De.t),.val z.1.t,.val (rwT z)]) ?_).trans rfl;rw [evS,show yaf (yaj (.comp (.tup [.cst (.str "add"),.idx (.var 4) (.cst (.int 0)),.var 0]) 1 .plain [.var 4] none)) [.val (yaa Z),.val (stT Z),.own ((bsE l1).map De.t),.val z.1.t,.val (rwT z)]=[.val (yaa Z),.val (stT Z),.own ((bsE l1).map De.t),.val z.1.t,.val (rwT z)] from rfl,ec];show (if ((bsE l1).map De.t).length+((z.2.map fun ps=>De.dd (.add z.1 ps)).map De.t).length<=SZ then _ else _)=_;rw [if_pos (by rw [zy3,zy3,zy3];lia),hsn,zzq];rfl
 refine (zah (t:=.lst []) rfl rfl rfl).trans ((zan (zao (xs:=[yaa Z,stT Z]) rfl rfl (zp4 p H Z) el)).trans (zbe ?_));rw [evS];show Option.map Out.rt (G.call "written_part" [.str "base",.lst ((bsE Z).map De.t)])=_;rw [w];rfl
theorem zwl (n:Nat) (hm:m<=60) {Z:List Zt} (h:Stn B m Z):∃ t,run P (n+3) "_law_base_rows" [yaa Z,stT Z]=some t/\run P (n+3) "_law_joined" [t]=some (.str (yd5 ("base"::(bsE Z).map rwX))):=by
 obtain ⟨ho,hl⟩:=zq8 p H hm h;have hsz:=zat;have hL:=zl6 p H (zdx "base" (by simp)) ho (by lia);have e1:(glo P (run P (n+2))).call "_law_closed" [.lst ((("base":Str)::(bsE Z).map rwX).map T.str)]=_:=zqq p n hL;have cr:∀ e:De,e.ok B->(glo P (run P (n+2))).call "_law_row_of" [e.t]=some (.str (rwX e)):=fun e he=>zqo p H n he;refine ⟨_,zaw p.lb rfl ?_,zqu p (n+2) (hL.snoc (by simp;lia) (txt ("base"::(bsE Z).map rwX)))⟩;show yab (glo P (run P (n+2))) zbx.body [.val (yaa Z),.val (stT Z),.no,.no,.no]=_;generalize glo P (run P (n+2))=G at *;obtain ⟨τ',el,s3,s4,rfl⟩:=zak (enc:=fun z:Zt=>T.tup [z.1.t,rwT z]) (f:=fun x τ=>(ya0 [3,4] x τ).bind fun τ'=>yab G yga τ') (I:=fun done τ=>∃ s3 s4:Sl,τ=[.val (yaa Z),.val (stT Z),.own ((("base":Str)::(bsE done).map rwX).map T.str),s3,s4]) Z [.val (yaa Z),.val (stT Z),.own [.str "base"],.no,.no] ⟨_,_,rfl⟩ fun l1 z l2 e τ hI=>by
  obtain ⟨s3,s4,rfl⟩:=hI;have hz:z∈Z:=by rw [e];simp
  have hzl:=(h.rw z hz).1;have hb1:(bsE l1).length<=240:=by
   have:bsE Z=bsE l1++bsE (z::l2):=by rw [e];unfold bsE;rw [List.flatMap_append]
   rw [this,zy4] at hl;lia
  have hsn:bsE (l1++[z])=bsE l1++z.2.map fun ps=>De.dd (.add z.1 ps):=by unfold bsE;simp
  generalize hX:(("base":Str)::(bsE l1).map rwX)=X;have hXl:X.length<=241:=by rw [<- hX];simp;lia
  refine ⟨[.val (yaa Z),.val (stT Z),.own ((("base":Str)::(bsE (l1++[z])).map rwX).map T.str),.val z.1.t,.val (rwT z)],?_,_,_,rfl⟩;show yab G yga [.val (yaa Z),.val (stT Z),.own (X.map T.str),.val z.1.t,.val (rwT z)]=_;have ec:evE G (.comp (.call "_law_row_of" [.tup [.cst (.str "add"),.idx (.var 4) (.cst (.int 0)),.var 0]]) 1 .plain [.var 4] none) (ygm [.val (yaa Z),.val (stT Z),.val (.lst (X.map T.str)),.val z.1.t,.val (rwT z)])=some (.lst ((z.2.map fun ps=>rwX (De.dd (.add z.1 ps))).map T.str)):=by
   rw [zaq];have s1:yac G [.var 4] (ygm [.val (yaa Z),.val (stT Z),.val (.lst (X.map T.str)),.val z.1.t,.val (rwT z)])=some [rwT z]:=rfl;have s2:yae .plain [rwT z]=some (z.2.map yag):=by unfold yae;rw [rwT,zac,zyx,if_pos (by rw [zy3];lia)]
   rw [s1,zyx,s2,zyx,zaf (enc:=yag) (fun ps=>T.str (rwX (De.dd (.add z.1 ps)))) fun ps hps=>by
    have hc:=cr (De.dd (.add z.1 ps)) ⟨h.mem hz,(h.rw z hz).2.1 ps hps⟩;rw [show bnd 1 (yag ps) (ygm [.val (yaa Z),.val (stT Z),.val (.lst (X.map T.str)),.val z.1.t,.val (rwT z)])=some (some (yag ps)::ygm [.val (yaa Z),.val (stT Z),.val (.lst (X.map T.str)),.val z.1.t,.val (rwT z)]) from rfl,zyx,evE];simp only [yac];rw [zxt p H z.1 ps _ (by simp only [evE,ygm,Sl.get,xmc,xmn,xgs,xgz,xjs,xbs,t0])];simp only [xbs,hc,xms],List.map_map]
   rfl
  refine (zh9 (t:=.lst ((("base":Str)::(bsE (l1++[z])).map rwX).map T.str)) (τ0:=[.val (yaa Z),.val (stT Z),.val (.lst (X.map T.str)),.val z.1.t,.val (rwT z)]) rfl ?_ rfl).trans rfl;rw [zag,ec];show (if (X.map T.str).length+((z.2.map fun ps=>rwX (De.dd (.add z.1 ps))).map T.str).length<=SZ then some (T.lst (X.map T.str++(z.2.map fun ps=>rwX (De.dd (.add z.1 ps))).map T.str)) else none)=_;rw [if_pos (by rw [zy3,zy3,zy3];lia),hsn,<- hX];simp
 refine (zah (t:=.lst [.str "base"]) rfl rfl rfl).trans ((zan (zao (xs:=[yaa Z,stT Z]) rfl rfl (zp4 p H Z) el)).trans (zbe ?_));rw [evS];show Option.map Out.rt (G.call "_law_closed" [.lst ((("base":Str)::(bsE Z).map rwX).map T.str)])=_;rw [e1];rfl
theorem zxb (n:Nat) {Z:List Zt} (h:Stn B 20 Z) (N:Int):∃ ds:List De,run P (n+7) "_law_deeds" [.tup (B.map Tb.t),stT Z,.int N,.int 9]=some (.tup (ds.map De.t))/\ds.length<=9/\∀ d∈ds,d.ok B:=by obtain ⟨ds,e,h1,h2⟩:=ztu H (zjp p.toMk H n) h N;exact ⟨ds,zaw p.ds rfl e,h1,h2⟩
end
end
section
noncomputable def lit:Str:="abz09 '?~:\n"
theorem zwi:lit.cps.toList.length=11/\yai lit=true/\lit.length<=1000:=by decide +kernel
theorem zwj (k:Int):∃ c:Nat,yah (.str lit) (.int (k%11))=some (.str ⟨#[c]⟩)/\yai ⟨#[c]⟩=true:=by
 obtain ⟨j,hj,hj2⟩:∃ j:Nat,k%11=(j:Int)/\j<11:=⟨(k%11).toNat,by lia,by lia⟩;obtain ⟨l1,l2,l3⟩:=zwi;have hlt:j<lit.cps.toList.length:=by lia
 refine ⟨lit.cps.toList[j],?_,?_⟩
 .rw [hj];show (if lit.length<=SZ then (ixI lit.cps.toList.length (j:Int)).bind fun j=>(lit.cps.toList[j]?).map fun c=>T.str ⟨#[c]⟩ else none)=_;rw [if_pos (by have:=zat;lia),zqv hlt,zyx,zy5 hlt];rfl
 .have h3:lit.cps.all (·<128)=true:=l2;rw [Array.all_eq_true'] at h3;have:=h3 lit.cps.toList[j] (by rw [<- Array.mem_toList_iff];exact ua5 hlt);show (#[lit.cps.toList[j]]:Array Nat).all (·<128)=true;simpa using this
theorem zlp (x:Str):yau .ne (.str x) (.str x)=some (.bl false):=by show neC (.str x) (.str x)=_;unfold neC;rw [if_pos (by exact zzp _)];show some (T.bl (!(x==x)))=_;rw [ua8];rfl
theorem ztc {G:Glo} {ns:List Int} {BT sT dT t1 t2:T} {m0 m1 m2 m3 m4:Int} {x1 x2:Str} (e0:G.call "_law_mixed" [.lst (ns.map .int),.int 0]=some (.int m0)) (e1:G.call "_law_mixed" [.lst (ns.map .int),.int 1]=some (.int m1)) (e2:G.call "_law_mixed" [.lst (ns.map .int),.int 2]=some (.int m2)) (e3:G.call "_law_mixed" [.lst (ns.map .int),.int 3]=some (.int m3)) (e4:G.call "_law_mixed" [.lst (ns.map .int),.int 4]=some (.int m4))
  (ek:∀ k:Nat,∃ m:Int,G.call "_law_mixed" [.lst (ns.map .int),.int (5+(k:Int))]=some (.int m)) (es:G.call "_law_schema" [.int m0]=some BT) (et:G.call "_law_store" [BT,.int m1,.int (m2%14)]=some sT) (ed:G.call "_law_deeds" [BT,sT,.int m3,.int 9]=some dT)
  (w1:G.call "written_deal" [dT]=some (.str x1)) (w2:G.call "_law_deal_rows" [dT]=some t1) (w3:G.call "_law_joined" [t1]=some (.str x1)) (w4:G.call "written_base" [BT,sT]=some (.str x2)) (w5:G.call "_law_base_rows" [BT,sT]=some t2) (w6:G.call "_law_joined" [t2]=some (.str x2))
  (c1:∀ x,yai x=true->G.call "sum_of" [.str x]=some (.str (yc3 x))) (c2:∀ x,yai x=true->G.call "_law_sum" [.str x]=some (.str (yc3 x))) :
  yab G zf8.body [.val (.lst (ns.map .int)),.no,.no,.no,.no,.no]=some (.rt (.bl true)):=by
 generalize T.lst (ns.map .int)=N at *;obtain ⟨q,hq,hq2⟩:∃ q:Nat,m4%30=(q:Int)/\q<30:=⟨(m4%30).toNat,by lia,by lia⟩;have hsz:=zat;have a1:evE G (.call "_law_schema" [.call "_law_mixed" [.var 0,.cst (.int 0)]]) (ygm [.val N,.no,.no,.no,.no,.no])=some BT:=by simp only [evE,yac,ygm,Sl.get,xmc,xmn,xgz,xjs,xbs,e0,es]
 have a2:evE G (.call "_law_store" [.var 1,.call "_law_mixed" [.var 0,.cst (.int 1)],.bin .mod (.call "_law_mixed" [.var 0,.cst (.int 2)]) (.cst (.int 14))]) (ygm [.val N,.val BT,.no,.no,.no,.no])=some sT:=by have hm:yaz .mod (.int m2) (.int 14)=some (.int (m2%14)):=rfl;simp only [evE,yac,ygm,Sl.get,xmc,xmn,xgs,xgz,xjs,xbs,e1,e2,hm,et]
 have a3:evE G (.call "_law_deeds" [.var 1,.var 2,.call "_law_mixed" [.var 0,.cst (.int 3)],.cst (.int 9)]) (ygm [.val N,.val BT,.val sT,.no,.no,.no])=some dT:=by simp only [evE,yac,ygm,Sl.get,xmc,xmn,xgs,xgz,xjs,xbs,e3,ed]
 have b1:evE G (.cmp .ne (.call "written_deal" [.var 3]) (.call "_law_joined" [.call "_law_deal_rows" [.var 3]])) (ygm [.val N,.val BT,.val sT,.val dT,.no,.no])=some (.bl false):=by simp only [evE,yac,ygm,Sl.get,xmc,xmn,xgs,xgz,xjs,xbs,w1,w2,w3,zlp]
 have b2:evE G (.cmp .ne (.call "written_base" [.var 1,.var 2]) (.call "_law_joined" [.call "_law_base_rows" [.var 1,.var 2]])) (ygm [.val N,.val BT,.val sT,.val dT,.no,.no])=some (.bl false):=by simp only [evE,yac,ygm,Sl.get,xmc,xmn,xgs,xgz,xjs,xbs,w4,w5,w6,zlp]
 obtain ⟨τ',el,x,s5,rfl,hx,_⟩:=zak (enc:=fun i:Nat=>T.int (i:Int)) (f:=fun x τ=>(ya0 [5] x τ).bind fun τ'=>yab G txB τ') (I:=fun done τ=>∃ (x:Str) (s5:Sl),τ=[.val N,.val BT,.val sT,.val dT,.val (.str x),s5]/\yai x=true/\x.length<=done.length) (List.range q) [.val N,.val BT,.val sT,.val dT,.val (.str ""),.no] ⟨"",_,rfl,zq4,by rw [zm0];exact zza _⟩ fun l1 i l2 e τ hI=>by
  obtain ⟨x,s5,rfl,h1,h2⟩:=hI;have hl1:l1.length<=30:=by have:=zze List.length e;rw [zAd,zy4] at this;lia
  obtain ⟨mk,emk⟩:=ek i;obtain ⟨c,ec,hc⟩:=zwj mk;refine ⟨[.val N,.val BT,.val sT,.val dT,.val (.str (x++⟨#[c]⟩)),.val (.int (i:Int))],?_,_,_,rfl,by rw [zc7,h1,hc];rfl,by rw [zgl,ud5];show x.length+1<=_;simp;lia⟩;show yab G txB [.val N,.val BT,.val sT,.val dT,.val (.str x),.val (.int (i:Int))]=_;refine (zah (t:=.str (x++⟨#[c]⟩)) rfl ?_ rfl).trans rfl;have y1:evE G (.call "_law_mixed" [.var 0,.bin .add (.cst (.int 5)) (.var 5)]) (ygm [.val N,.val BT,.val sT,.val dT,.val (.str x),.val (.int (i:Int))])=some (.int mk):=by rw [evE];show G.call "_law_mixed" [N,.int (5+(i:Int))]=_;exact emk
  have y2:evE G (.idx (.cst (.str "abz09 '?~:\n")) (.bin .mod (.call "_law_mixed" [.var 0,.bin .add (.cst (.int 5)) (.var 5)]) (.cst (.int 11)))) (ygm [.val N,.val BT,.val sT,.val dT,.val (.str x),.val (.int (i:Int))])=some (.str ⟨#[c]⟩):=by rw [zd7,zag,y1];exact ec
  rw [zag,y2];show (if x.length+1<=SZ then some (T.str (x++⟨#[c]⟩)) else none)=_;rw [if_pos (by lia)]
 have er:yac G [.bin .mod (.call "_law_mixed" [.var 0,.cst (.int 4)]) (.cst (.int 30))] (ygm [.val N,.val BT,.val sT,.val dT,.val (.str ""),.no])=some [.int (q:Int)]:=by
  have hm:yaz .mod (.int m4) (.int 30)=some (.int (q:Int)):=by rw [<- hq];rfl
  simp only [evE,yac,ygm,Sl.get,xmc,xmn,xgz,xjs,xbs,e4,hm]
 refine (zah rfl a1 rfl).trans ((zah rfl a2 rfl).trans ((zah rfl a3 rfl).trans ((zau rfl b1).trans ((zau rfl b2).trans ((zah (t:=.str "") rfl rfl rfl).trans ((zan (zao rfl er (zen q (by lia)) el)).trans (za8 rfl ?_)))))));have k1:=c1 x hx;have k2:=c2 x hx;simp only [evE,yac,ygm,Sl.get,xmc,xmn,xgs,xgz,xjs,xbs,k1,k2,yau,eqs,beq_self_eq_true]
theorem zmd {P:Pr} (hc:P.fn "_law_cell_at"=some za6) (hm:P.fn "_law_mixed"=some zcf) (hp:P.fn "_law_pairs"=some za3) (hr:P.fn "_law_rule"=some za0) (hb:P.fn "_law_bare"=some za7) (hs:P.fn "_law_schema"=some zby) (p:Wr P) (hl:P.fn "law"=some zf8) (ns:List Int) :
  run P 20 "law" [.lst (ns.map .int)]=some (.bl true):=by
 obtain ⟨B,eS,hSl,hSo,hSp,hSn,hSf⟩:=zhm p.dr hp hr hb hs 12 (ybw (ybt ns 0) 0);have H:Sch B:=⟨hSl,hSp,hSn,hSo,fun b hb=>(hSf b hb).2⟩;obtain ⟨M,hM,hM2⟩:∃ M:Nat,ybw (ybt ns 2) 2%14=(M:Int)/\M<=20:=⟨(ybw (ybt ns 2) 2%14).toNat,by lia,by lia⟩;obtain ⟨Z,eZ,hZ⟩:=zkp p.toMk H 12 (ybw (ybt ns 1) 1) M hM2;rw [<- hM] at eZ;have hZ:Stn B 20 Z:=hZ.up hM2;obtain ⟨ds,eD,hd1,hd2⟩:=zxb p H 12 hZ (ybw (ybt ns 3) 3);have w1:=zt8 p H 15 hd2 hd1;obtain ⟨t1,w2,w3⟩:=zwk p H 16 hd2 hd1;have w4:=zuc p H 15 (by decide) hZ;obtain ⟨t2,w5,w6⟩:=zwl p H 16 (by decide) hZ;rw [hZ.sch] at w4 w5;exact zaw (n:=19) hl rfl (ztc (G:=glo P (run P 19)) (zb4 hc hm 17 ns 0) (zb4 hc hm 17 ns 1) (zb4 hc hm 17 ns 2) (zb4 hc hm 17 ns 3) (zb4 hc hm 17 ns 4)
  (fun k=>⟨_,by have:=zb4 hc hm 17 ns (5+k);rw [show (((5+k:Nat)):Int)=5+(k:Int) by lia] at this;exact this⟩) eS eZ eD w1 w2 w3 w4 w5 w6 (fun x hx=>zqf p 18 hx) (fun x hx=>zqn p 18 hx))
end
end Ev.K04
namespace Ev
open PySem Spec PyProof.Rows L2 K04
abbrev pT:=PySem.Challenge.pw_dealtables_k70_logs_written
noncomputable def topP (p:Program) (i:Nat):Stmt:=p.main.body.getD i (.Pass ⟨0,0,0,0⟩)
noncomputable abbrev top:=topP pT
noncomputable def tab:Tab:=("with_row_ends",zbw,top 1,["lines"])::("written_worth",zbv,top 2,["worth"])::("sum_of",zf7,top 4,["text"])::("written_base",zb3,top 5,["schema", "store"])::("written_deal",zcy,top 6,["deeds"])::("written_part",zb2,top 7,["head", "deeds"])::("written_end",zdi,top 8,["text"])::("written_deed",zaz,top 9,["deed"])::("_law_cell_at",za6,top 11,["_law_script", "_law_k"])::("_law_mixed",zcf,top 12,["_law_script", "_law_k"])::("_law_drawn",zas,top 13,["_law_number", "_law_k"])::("_law_names",zbm,top 14,["_law_table_here"])::("_law_table",zc2,top 15,["_law_schema_here", "_law_name"])::("_law_key",zcn,top 16,["_law_table_here", "_law_row_here"])::("_law_worths",zbo,top 17,["_law_table_here", "_law_row_here", "_law_columns"])::("_law_rows",zdr,top 18,["_law_schema_here", "_law_store_here", "_law_name"])::("_law_bare",za7,top 19,["_law_name", "_law_number"])::("_law_pairs",za3,top 20,["_law_table_here", "_law_kinds"])::("_law_rule",za0,top 21,["_law_bare_here", "_law_table_here", "_law_number"])::("_law_schema",zby,top 22,["_law_number"])::("_law_worth",zal,top 23,["_law_column", "_law_number"])::("_law_row",zet,top 24,["_law_table_here", "_law_number"])::("_law_broken",zbp,top 25,["_law_schema_here", "_law_store_here", "_law_table_here", "_law_rule_here"])::("_law_links",zc4,top 26,["_law_schema_here", "_law_store_here", "_law_way"])::("_law_going",zbn,top 27,["_law_schema_here", "_law_store_here", "_law_name", "_law_key_here"])::("_law_put",zeu,top 28,["_law_schema_here", "_law_store_here", "_law_name", "_law_rows_here"])::("_law_with",zdq,top 29,["_law_table_here", "_law_row_here", "_law_pairs_here"])::("_law_dropped",zcg,top 30,["_law_schema_here", "_law_store_here", "_law_gone", "_law_gaps"])::("_law_raw",zcm,top 31,["_law_schema_here", "_law_store_here", "_law_deed_here"])::("_law_done",zb8,top 32,["_law_schema_here", "_law_store_here", "_law_deed_here"])::("_law_late",zds,top 33,["_law_schema_here", "_law_store_here"])::("_law_deed",zb9,top 35,["_law_schema_here", "_law_store_here", "_law_number"])::("_law_store",zc3,top 36,["_law_schema_here", "_law_number", "_law_many"])::("_law_deeds",zc5,top 37,["_law_schema_here", "_law_store_here", "_law_number", "_law_most"])::("_law_sum",zes,top 38,["_law_text"])::("_law_word",zdp,top 39,["_law_worth_here"])::("_law_row_of",zbf,top 40,["_law_deed_here"])::("_law_closed",zcq,top 41,["_law_rows_here"])::("_law_deal_rows",zcp,top 42,["_law_deeds_here"])::("_law_base_rows",zbx,top 43,["_law_schema_here", "_law_store_here"])::("_law_joined",zco,top 44,["_law_rows_here"])::("law",zf8,top 45,["_law_script"])::[]
noncomputable def cons:List (Str × T):=[]
theorem yf1:(tab.all fun p=>yf4 p.2.1 p.2.2.1 p.2.2.2)=true:=by kernel_rfl
theorem yf0:(tab.map fun p=>ydj 60 ⟨zaa p.2.2.1,za9 (zaa p.2.2.1)⟩ (zbl p.2.2.1))=tab.map fun p=>some p.2.1.body:=by kernel_rfl
theorem tab_st:∀ p∈tab,St p.1 p.2.1 p.2.2.1 p.2.2.2:=fun p hp=>zxz (oml yf1 p hp) (List.map_inj_left.mp yf0 p hp)
theorem law_mem:(("law":Str),zf8,top 45,[("_law_script":Str)])∈tab:=(.tail _ (.tail _ (.tail _ (.tail _ (.tail _ (.tail _ (.tail _ (.tail _ (.tail _ (.tail _ (.tail _ (.tail _ (.tail _ (.tail _ (.tail _ (.tail _ (.tail _ (.tail _ (.tail _ (.tail _ (.tail _ (.tail _ (.tail _ (.tail _ (.tail _ (.tail _ (.tail _ (.tail _ (.tail _ (.tail _ (.tail _ (.tail _ (.tail _ (.tail _ (.tail _ (.tail _ (.tail _ (.tail _ (.tail _ (.tail _ (.tail _ (.head _))))))))))))))))))))))))))))))))))))))))))
theorem law_pure:∀ ns:List Int,ns.length<=63->run (tab.pr cons) 20 "law" [.lst (ns.map .int)]=some (.bl true):=fun ns _=>K04.zmd rfl rfl rfl rfl rfl rfl ⟨⟨rfl,rfl,rfl,rfl,rfl,rfl,rfl,rfl,rfl,rfl,rfl,rfl,rfl,rfl,rfl,rfl,rfl,rfl,rfl⟩,rfl,rfl,rfl,rfl,rfl,rfl,rfl,rfl,rfl,rfl,rfl,rfl,rfl,rfl,rfl,rfl⟩ rfl ns
end Ev
section
section
namespace Ev
open PySem PySem.Spec PySem.W PyProof.Rows L2
noncomputable def qPp (p:Program):Program:=PySem.W.view p [1,2,4,5,6,7,8,9,11,12,13,14,15,16,17,18,19,20,21,22,23,24,25,26,27,28,29,30,31,32,33,34,35,36,37,38,39,40,41,42,43,44,45]
noncomputable abbrev qT:=qPp pT
noncomputable def x1P (p:Program) (s:Shared):Bool:=xlAt (qPp p) [] s&&recOk [] s
noncomputable abbrev xT:=x1P pT
noncomputable def stN:List (Str × Nat):=("with_row_ends",1)::("written_worth",2)::("sum_of",4)::("written_base",5)::("written_deal",6)::("written_part",7)::("written_end",8)::("written_deed",9)::("_law_cell_at",11)::("_law_mixed",12)::("_law_drawn",13)::("_law_names",14)::("_law_table",15)::("_law_key",16)::("_law_worths",17)::("_law_rows",18)::("_law_bare",19)::("_law_pairs",20)::("_law_rule",21)::("_law_schema",22)::("_law_worth",23)::("_law_row",24)::("_law_broken",25)::("_law_links",26)::("_law_going",27)::("_law_put",28)::("_law_with",29)::("_law_dropped",30)::("_law_raw",31)::("_law_done",32)::("_law_late",33)::("_law_deed",35)::("_law_store",36)::("_law_deeds",37)::("_law_sum",38)::("_law_word",39)::("_law_row_of",40)::("_law_closed",41)::("_law_deal_rows",42)::("_law_base_rows",43)::("_law_joined",44)::("law",45)::[]
noncomputable def stP (p:Program):List (Str × Stmt):=stN.map fun x=>(x.1,topP p x.2)
noncomputable abbrev sts:=stP pT
noncomputable def hkT:Hook:=zkx sts ("_law_spoilt"::bnames) cons
noncomputable def hdL (p:Program) (w:World):=(openEnds treeTable p w 2630).map fun s=>(openSeen (qPp p) [] (importedModules p.main.body) (x1P p) true s,ybc ((stP p).map (·.1)) ("_law_spoilt"::bnames) (cons.map (·.1)) s.heap)
noncomputable def hdR (p:Program) (w:World):=some (openGood (qPp p) [],ya9 (stP p) ("_law_spoilt"::bnames) cons)
lay_quick Ev.hdL Ev.hdR
theorem yeq:∀ w,PySem.W.Fast.tw16613198539260469538 pT w=PySem.W.Fast.tw4742246816059606431 pT w:=fun w=>by kernel_rfl
theorem hd_left':LeftO PySem.Challenge.pw_dealtables_k70_logs_written qT [] xT hkT.obs hkT.val 2630:=by exact fun w=>((congrFun (congrFun PySem.W.Fast.te16613198539260469538 pT) w).trans (yeq w)).trans (congrFun (congrFun PySem.W.Fast.te4742246816059606431 pT) w).symm
theorem nm_law:("law":Str)=⟨#[108,97,119]⟩:=by decide +kernel
noncomputable def dL:DefRec:=⟨⟨#[108,97,119]⟩,zce (top 45),zbl (top 45),zaa (top 45),(match top 45 with | .FunctionDef _ _ _ _ _ _ _ _ _ p=>p | _=>⟨0,0,0,0⟩)⟩
theorem hd_def:defOf qT ("law":Str)=some (dL,[]):=by rw [nm_law];kernel_rfl
theorem hd_the:Program.theDef PySem.Challenge.pw_dealtables_k70_logs_written ("law":Str)=some (dL.params,dL.body,dL.scope):=by rw [nm_law];kernel_rfl
end Ev
open PySem PySem.W PyProof.Rows
set_option maxRecDepth 100000 in
set_option maxHeartbeats 0 in
theorem PySem.Challenge.cw_dealtables_k70_logs_written_holds : PySem.Challenge.rw_dealtables_k70_logs_written.Holds := by
 w_on;refine PySem.W.holds_law Ev.lw_ok fun said=>?_
 refine PySem.W.holds_open (q:=Ev.qT) (loose:=[]) (Xt:=Ev.xT) (XP:=XL Ev.qT []) (Yf:=Ev.hkT.obs) (Ya:=Ev.hkT.val) (YP:=Ev.hkT.says) (N:=2630) Ev.hd_left' Ev.hkT.of Ev.hkT.keeps (fun s e=>xl_of s (Bool.and_eq_true_iff.mp e).1) XL.keeps Ev.hd_def Ev.hd_the rfl (fun s e=>recFacts_of (Bool.and_eq_true_iff.mp e).2) rfl (by assumption) (by decide +kernel) ⟨rfl,rfl,rfl,rfl,rfl,by decide +kernel⟩ ?hw ?hc
 case hw=>w_witness2
 case hc=>exact Ev.znv (l:=PySem.Challenge.rw_dealtables_k70_logs_written) (n:=63) (k:=20) (x:="_law_script") (fs:=Ev.tab.sts) (R:=Ev.tab.pr Ev.cons) rfl (by decide) rfl ⟨rfl,by decide,by decide⟩ (fun w mg fa h0 h KX e0 G hmg=>Ev.zt4 Ev.tab_st KX e0 G (by rw [Ev.nm_law];exact hmg) Ev.law_mem rfl) (.head _) Ev.law_pure
end
end
