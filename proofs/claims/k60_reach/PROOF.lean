import PyProof.Rows.All
import Wide.All
import OpenK.AllK
import Wide.FinOn
import Lean
import PyProof.EqAt
import PyProof.EqKinds
import PyProof.TupleCall
import PySem.Syntax
import PySem.Builtin.Str.Common
import PySem.Eval
import PyProof.CompFree
import PyProof.Cells
import PyProof.NeKinds
import PyProof.FString5
import PyProof.Draws
import PyProof.EnumMake
import PyProof.TupleIter
import PyProof.EnumFor
import PyProof.Rows.SetFrom
import PyProof.Rows.SetListFold
import KE.KDictSum
import KE.KItemsList
import KE.KSortTup
import PyProof.ZipIter
import KE.KDictLaws
import PySem.Challenge.RW_dealtables_k60_reach
set_option Elab.async false
set_option linter.all false
set_option maxRecDepth 100000
set_option maxHeartbeats 8000000
theorem obs {α β:Type} {o:Option α} {f:α→Option β} {b:β}:o.bind f=some b→∃ a,o=some a∧f a=some b:=Option.bind_eq_some_iff.mp
theorem oms {α β:Type} {o:Option α} {f:α→β} {b:β}:o.map f=some b→∃ a,o=some a∧f a=b:=Option.map_eq_some_iff.mp
theorem omc {α:Type} {a b:α} {l:List α}:a∈b::l→a=b∨a∈l:=List.mem_cons.mp
theorem oma {α:Type} {a:α} {s t:List α}:a∈s++t→a∈s∨a∈t:=List.mem_append.mp
theorem omm {α β:Type} {f:α→β} {l:List α} {b:β}:b∈l.map f→∃ a,a∈l∧f a=b:=List.mem_map.mp
theorem omg {α:Type} {a b:α}:a∈[b]→a=b:=List.mem_singleton.mp
theorem oml {α:Type} {p:α→Bool} {l:List α}:l.all p=true→∀ x,x∈l→p x=true:=List.all_eq_true.mp
theorem ome {α:Type} {l:List α} {i:Nat} {a:α}:l[i]?=some a→∃ h:i<l.length,l[i]=a:=List.getElem?_eq_some_iff.mp
section
namespace L2
open PySem PySem.Spec PyProof.Rows
abbrev Key:=Sum Int (Option Str)
def isNon:Value→Bool
 | .none=>true
 | _=>false
theorem isNon_shape {v:Value} (h:isNon v=true):v=Value.none:=by cases v<;>first | rfl | cases h
def keyIs:Key→Value→Bool
 | .inl k,v=>Value.isInt k v
 | .inr (some x),v=>Value.isStrOf x v
 | .inr none,v=>isNon v
def keyH (w:World):Key→Int
 | .inl k=>hashInt k
 | .inr (some x)=>hashStr w x
 | .inr none=>4238894112
theorem keyIs_shape:∀ {k:Key} {v:Value},keyIs k v=true→(∃ i t,k=Sum.inl i∧v=Value.int i t)∨(∃ x t,k=Sum.inr (some x)∧v=Value.str x t)∨(k=Sum.inr none∧v=Value.none)
 | .inl i,v,h=>by
  obtain ⟨t,e⟩:=Value.isInt_shape (k:=i) (v:=v) h
  exact .inl ⟨i,t,rfl,e⟩
 | .inr (some x),v,h=>by
  obtain ⟨t,e⟩:=Value.isStrOf_shape (x:=x) (v:=v) h
  exact .inr (.inl ⟨x,t,rfl,e⟩)
 | .inr none,v,h=>.inr (.inr ⟨rfl,isNon_shape h⟩)
theorem keyIs_int (i:Int) (t:Tok):keyIs (.inl i) (.int i t)=true:=by simp [keyIs,Value.isInt]
theorem keyIs_str (x:Str) (t:Tok):keyIs (.inr (some x)) (.str x t)=true:=by simp [keyIs,Value.isStrOf]
theorem key_ll (a b:Int):decide ((Sum.inl a:Key)=Sum.inl b)=(a==b):=by
 by_cases e:a=b
 ·subst e;simp
 ·have h:¬ (Sum.inl a:Key)=Sum.inl b:=fun q=>e (Sum.inl.inj q)
  rw [decide_eq_false h]
  exact (beq_eq_false_iff_ne.mpr e).symm
theorem key_rr (a b:Str):decide ((Sum.inr (some a):Key)=Sum.inr (some b))=decide (a=b):=by
 by_cases e:a=b
 ·subst e;simp
 ·have h:¬ (Sum.inr (some a):Key)=Sum.inr (some b):=fun q=>e (Option.some.inj (Sum.inr.inj q))
  rw [decide_eq_false h,decide_eq_false e]
theorem key_lr (a:Int) (b:Option Str):decide ((Sum.inl a:Key)=Sum.inr b)=false:=decide_eq_false (fun q=>nomatch q)
theorem key_rl (a:Option Str) (b:Int):decide ((Sum.inr a:Key)=Sum.inl b)=false:=decide_eq_false (fun q=>nomatch q)
theorem key_sn (a:Str):decide ((Sum.inr (some a):Key)=Sum.inr none)=false:=decide_eq_false (fun q=>nomatch (Sum.inr.inj q))
theorem key_ns (a:Str):decide ((Sum.inr none:Key)=Sum.inr (some a))=false:=decide_eq_false (fun q=>nomatch (Sum.inr.inj q))
theorem key_nn:decide ((Sum.inr none:Key)=Sum.inr none)=true:=decide_eq_true rfl
theorem wpAny_pyHash_non {prog:Program} {w:World} {A:Around} {E:Value→Shared→Prop} {s:Shared} {Q:Int→Shared→Prop} (h:Q 4238894112 { s with toks:=s.toks+1 }):wpAny (model prog w) A (PySem.pyHash .none) Q E s :=
 PySem.W.pyHash_slot (T:="NoneType") rfl PySem.F.slot_NoneType_hash PySem.F.entry_NoneType_hash (PySem.F.args_NoneType_hash_1 _) (beq_builtin_none _) (.inl rfl) (wpAny_bind (wpAny_pure (wpAny_bind (wpAny_mkInt (wpAny_pure ⟨_,_,rfl,h⟩)))))
def mixKind (prog:Program) (w:World):PySem.KeyKind prog w Key where
 is:=keyIs
 hash:=keyH w
 inj:=fun v a b ha hb=>by
  rcases keyIs_shape ha with ⟨i,t,rfl,rfl⟩ | ⟨x,t,rfl,rfl⟩ | ⟨rfl,rfl⟩<;>rcases keyIs_shape hb with ⟨j,u,rfl,e⟩ | ⟨y,u,rfl,e⟩ | ⟨rfl,e⟩<;>first | (cases e;rfl) | cases e
 byValue:=fun k v h=>by
  rcases keyIs_shape h with ⟨i,t,rfl,rfl⟩ | ⟨x,t,rfl,rfl⟩ | ⟨rfl,rfl⟩<;>rfl
 pyHash:=fun hv h=>by
  rcases keyIs_shape hv with ⟨i,t,rfl,rfl⟩ | ⟨x,t,rfl,rfl⟩ | ⟨rfl,rfl⟩
  ·exact wpAny_pyHash_int h
  ·exact wpAny_pyHash_str h
  ·exact wpAny_pyHash_non h
 eqBool:=fun hu hv h=>by
  rcases keyIs_shape hu with ⟨i,t,rfl,rfl⟩ | ⟨x,t,rfl,rfl⟩ | ⟨rfl,rfl⟩
  ·rcases keyIs_shape hv with ⟨j,u,rfl,rfl⟩ | ⟨y,u,rfl,rfl⟩ | ⟨rfl,rfl⟩
   ·rw [key_ll] at h;exact wpAny_eqBool_int h
   ·rw [key_lr] at h;exact SeqAt.EqAt.int_str i t y u _ _ _ _ h
   ·rw [key_lr] at h;exact SeqAt.EqAt.int_none i t _ _ _ _ h
  ·rcases keyIs_shape hv with ⟨j,u,rfl,rfl⟩ | ⟨y,u,rfl,rfl⟩ | ⟨rfl,rfl⟩
   ·rw [key_rl] at h;exact SeqAt.EqAt.str_int x t j u _ _ _ _ h
   ·rw [key_rr] at h;exact wpAny_eqBool_str h
   ·rw [key_sn] at h;exact SeqAt.EqAt.str_none x t _ _ _ _ h
  ·rcases keyIs_shape hv with ⟨j,u,rfl,rfl⟩ | ⟨y,u,rfl,rfl⟩ | ⟨rfl,rfl⟩
   ·rw [key_rl] at h;exact SeqAt.EqAt.none_int j u _ _ _ _ h
   ·rw [key_ns] at h;exact SeqAt.EqAt.none_str y u _ _ _ _ h
   ·rw [key_nn] at h;exact SeqAt.EqAt.same .none _ _ _ _ h
 «strs»:=fun k x t v h=>by
  rcases keyIs_shape h with ⟨i,u,rfl,e⟩ | ⟨y,u,rfl,e⟩ | ⟨rfl,e⟩
  ·exact nomatch e
  ·injection e with e1 _
   subst e1
   cases v<;>rfl
  ·exact nomatch e
theorem mixKind_int (prog:Program) (w:World) (i:Int) (t:Tok):(mixKind prog w).is (.inl i) (.int i t)=true:=keyIs_int i t
theorem mixKind_str (prog:Program) (w:World) (x:Str) (t:Tok):(mixKind prog w).is (.inr (some x)) (.str x t)=true:=keyIs_str x t
end L2
namespace L2
open PySem PySem.Spec PyProof.Rows
inductive V where
 | non | bl (b:Bool) | int (i:Int) | str (x:Str) | byt (b:Array UInt8) | flt (b:UInt64) | ref (a:Addr) | ty (n:String)
 deriving DecidableEq
def RelV:V→Value→Prop
 | .non,u=>u=Value.none
 | .bl b,u=>u=Value.bool b
 | .int i,u=>∃ t,u=Value.int i t
 | .str x,u=>∃ t,u=Value.str x t
 | .byt b,u=>∃ t,u=Value.bytes b t
 | .flt b,u=>∃ t,u=Value.float b t
 | .ref a,u=>u=Value.ref a
 | .ty n,u=>u=Value.type n
abbrev Vals:List V→List Value→Prop:=Paired RelV
theorem Vals.length {xs:List V} {us:List Value} (r:Vals xs us):xs.length=us.length:=Paired.length r
theorem Vals.get:∀ {xs:List V} {us:List Value} {i:Nat} {x:V},Vals xs us→xs[i]?=some x→∃ u,us[i]?=some u∧RelV x u
 | _,_,_,_,.nil,e=>by simp at e
 | _,_,0,_,.cons r _,e=>by simp at e;subst e;exact ⟨_,rfl,r⟩
 | _,_,i+1,x,.cons _ t,e=>by
  obtain ⟨u,h1,h2⟩:=Vals.get (i:=i) (x:=x) t (by simpa using e)
  exact ⟨u,by simpa using h1,h2⟩
theorem Vals.append:∀ {xs ys:List V} {us ws:List Value},Vals xs us→Vals ys ws→Vals (xs++ys) (us++ws)
 | _,_,_,_,.nil,s=>s
 | _,_,_,_,.cons r t,s=>.cons r (Vals.append t s)
theorem Vals.take:∀ {xs:List V} {us:List Value} (n:Nat),Vals xs us→Vals (xs.take n) (us.take n)
 | _,_,0,_=>.nil
 | _,_,_+1,.nil=>.nil
 | _,_,n+1,.cons r t=>.cons r (Vals.take n t)
theorem Vals.drop:∀ {xs:List V} {us:List Value} (n:Nat),Vals xs us→Vals (xs.drop n) (us.drop n)
 | _,_,0,r=>r
 | _,_,_+1,.nil=>.nil
 | _,_,n+1,.cons _ t=>Vals.drop n t
def RelO:Option V→Option Value→Prop
 | some v,some u=>RelV v u
 | none,none=>True
 | _,_=>False
def KV {κ:Type}:List (κ × V)→List (κ × Value)→Prop:=Paired fun (p:κ × V) (q:κ × Value)=>p.1=q.1∧RelV p.2 q.2
def kV:Key→V
 | .inl i=>.int i
 | .inr (some x)=>.str x
 | .inr none=>.non
inductive HO where
  | lst (xs:List V)
  | tup (xs:List V)
  | dK (kvs:List (Key × V)) | dT (kvs:List (List Key × V))
  | set (S:Int→Bool) (n:Nat)
  | ins (C dx:Addr) (fs:List (Str × V))
  | own (x:Addr)
  | xd (fs:List (Str × V))
  | met (f x:Addr)
  | rng (lo hi:Int)
  | frz (o:Obj) (u:HO)
  | tbl (ps:Array Value)
  | ext (φ:Heap→Prop)
abbrev Hp:=Addr→Option HO
def upd (H:Hp) (a:Addr) (o:HO):Hp:=fun b=>if b=a then some o else H b
theorem upd_same {H:Hp} {a:Addr} {o:HO}:upd H a o a=some o:=by unfold upd;rw [if_pos rfl]
theorem upd_ne {H:Hp} {a b:Addr} {o:HO} (h:b≠a):upd H a o b=H b:=by unfold upd;rw [if_neg h]
theorem ne_of {H:Hp} {a b:Addr} {o u:HO} (h:H a=some o) (h':H b=some u) (d:o≠u):a≠b:=by
 intro e;subst e;rw [h] at h';exact d (Option.some.inj h')
theorem ne_of_none {H:Hp} {a b:Addr} {o:HO} (h:H a=some o) (h':H b=none):a≠b:=by
 intro e;subst e;rw [h] at h';cases h'
section
variable (P:Program) (w:World)
def ObjOk (H:Hp) (h:Heap) (a:Addr):HO→Prop
 | .lst xs=>xs.length≤sizeLine∧∃ (its:List Value) (n:Nat),Vals xs its∧h.get? a=some { cls:=.type "list",data:=.seq its.toArray n }
 | .tup xs=>xs.length≤sizeLine∧∃ its:List Value,Vals xs its∧IsTup h a its.toArray
 | .dK kvs=>kvs.length≤sizeLine∧(a==sysModules)=false∧∃ vs,KV kvs vs∧h.DictOf (mixKind P w) a vs
 | .dT kvs=>kvs.length≤sizeLine∧(a==sysModules)=false∧∃ xs:List (List Key × Addr × Value),
   Paired (fun (p:List Key × V) (q:List Key × Addr × Value)=>p.1=q.1∧H q.2.1=some (.tup (p.1.map kV))∧RelV p.2 q.2.2) kvs xs ∧
   ∃ o es ep,h.get? a=some o∧o.ExactDict∧o.data=.dict es ep∧es.toList=xs.map (entryOfKey (tupleKind (mixKind P w)))∧(xs.map (·.1)).Nodup
 | .set S n=>h.SetOf (intKind P w) a S n
 | .ins C dx fs=>H dx=some (.own a)∧fs.length≤1000∧dx≠a∧h.get? a=some (PySem.W.instObj C dx) ∧
   ∃ mA,h.Ns1 dx mA∧(∀ f,RelO (fs.lookup f) (mA f))∧PySem.Within mA (fs.map (·.1))
 | .own _=>∃ o,h.get? a=some o
 | .xd fs=>∃ mA,h.Ns1 a mA∧∀ f,RelO (fs.lookup f) (mA f)
 | .rng lo hi=>∃ t u v,h.get? a=some { cls:=.type "range",data:=.fields #[.int lo t,.int hi u,.int 1 v] }
 | .frz o u=>h.get? a=some o∧ObjOk H h a u
 | .tbl ps=>h.get? a=some { cls:=.none,data:=.fields ps }
 | .met f x=>h.get? a=some (PySem.W.methodObj (.ref f) (.ref x))
 | .ext φ=>φ h∧(∃ o,h.get? a=some o)∧∀ h1 h2:Heap,φ h1→(∀ o,h1.get? a=some o→h2.get? a=some o)→φ h2
def HOk (H:Hp) (h:Heap):Prop:=∀ a o,H a=some o→ObjOk P w H h a o
end
section
variable {P:Program} {w:World} {H H':Hp} {h h':Heap} {a:Addr} {o:HO}
theorem ObjOk.lt (x:ObjOk P w H h a o):a<h.objs.size:=by
 cases o with
 | lst xs=>obtain ⟨_,_,_,_,e⟩:=x;exact Heap.lt_size e
 | tup xs=>obtain ⟨_,_,_,p⟩:=x;exact p.lt
 | dK kvs=>obtain ⟨_,_,_,_,o,_,_,e,_⟩:=x;exact Heap.lt_size e
 | dT kvs=>obtain ⟨_,_,_,_,o,_,_,e,_⟩:=x;exact Heap.lt_size e
 | set S n=>obtain ⟨o,_,_,_,e,_⟩:=x;exact Heap.lt_size e
 | ins C dx fs=>obtain ⟨_,_,_,e,_⟩:=x;exact Heap.lt_size e
 | own y=>obtain ⟨_,e⟩:=x;exact Heap.lt_size e
 | xd fs=>obtain ⟨_,⟨_,_,_,e,_⟩,_⟩:=x;exact Heap.lt_size e
 | rng lo hi=>obtain ⟨_,_,_,e⟩:=x;exact Heap.lt_size e
 | frz ob u=>obtain ⟨e,_⟩:=x;exact Heap.lt_size e
 | tbl ps=>exact Heap.lt_size (show h.get? a=some _ from x)
 | met f y=>exact Heap.lt_size (show h.get? a=some _ from x)
 | ext φ=>obtain ⟨_,⟨_,e⟩,_⟩:=x;exact Heap.lt_size e
theorem Paired.mapP {α β:Type} {F G:α→β→Prop}:∀ {l₁:List α} {l₂:List β},Paired F l₁ l₂→(∀ a b,F a b→G a b)→Paired G l₁ l₂
 | _,_,.nil,_=>.nil
 | _,_,.cons r t,f=>.cons (f _ _ r) (Paired.mapP t f)
theorem ObjOk.stay (x:ObjOk P w H h a o) (k:∀ b u,(b=a∨H b=some (.own a))→h.get? b=some u→h'.get? b=some u)
  (ho:∀ b,H b=some (.own a)→H' b=some (.own a)) (ht:∀ b xs,H b=some (.tup xs)→H' b=some (.tup xs)):ObjOk P w H' h' a o:=by
 induction o with
 | lst xs=>obtain ⟨z,its,n,r,e⟩:=x;exact ⟨z,its,n,r,k _ _ (.inl rfl) e⟩
 | tup xs=>obtain ⟨z,its,r,ob,e,c⟩:=x;exact ⟨z,its,r,ob,k _ _ (.inl rfl) e,c⟩
 | dK kvs=>obtain ⟨z,y,vs,r,ob,es,ep,e,c⟩:=x;exact ⟨z,y,vs,r,ob,es,ep,k _ _ (.inl rfl) e,c⟩
 | dT kvs =>
  obtain ⟨z,y,xs,r,ob,es,ep,e,c⟩:=x
  exact ⟨z,y,xs,Paired.mapP r fun p q z=>⟨z.1,ht _ _ z.2.1,z.2.2⟩,ob,es,ep,k _ _ (.inl rfl) e,c⟩
 | set S n=>obtain ⟨ob,es,ep,t,e,c⟩:=x;exact ⟨ob,es,ep,t,k _ _ (.inl rfl) e,c⟩
 | ins C dx fs =>
  obtain ⟨d,z,ne,e,mA,⟨od,es,ep,e2,c⟩,r⟩:=x
  exact ⟨ho _ d,z,ne,k _ _ (.inl rfl) e,mA,⟨od,es,ep,k _ _ (.inr d) e2,c⟩,r⟩
 | own y=>obtain ⟨ob,e⟩:=x;exact ⟨ob,k _ _ (.inl rfl) e⟩
 | xd fs=>obtain ⟨mA,⟨od,es,ep,e,c⟩,r⟩:=x;exact ⟨mA,⟨od,es,ep,k _ _ (.inl rfl) e,c⟩,r⟩
 | rng lo hi=>obtain ⟨t,u,v,e⟩:=x;exact ⟨t,u,v,k _ _ (.inl rfl) e⟩
 | frz ob u ih=>obtain ⟨e,q⟩:=x;exact ⟨k _ _ (.inl rfl) e,ih q⟩
 | tbl ps =>
  have e:h.get? a=some { cls:=.none,data:=.fields ps }:=x
  show h'.get? a=some { cls:=.none,data:=.fields ps }
  exact k a _ (.inl rfl) e
 | met f y =>
  have e:h.get? a=some (PySem.W.methodObj (.ref f) (.ref y)):=x
  show h'.get? a=some (PySem.W.methodObj (.ref f) (.ref y))
  exact k a _ (.inl rfl) e
 | ext φ=>obtain ⟨p,⟨o,e⟩,st⟩:=x;exact ⟨st _ _ p fun o q=>k _ _ (.inl rfl) q,⟨o,k _ _ (.inl rfl) e⟩,st⟩
theorem HOk.lt (x:HOk P w H h) (e:H a=some o):a<h.objs.size:=(x a o e).lt
theorem HOk.fresh (x:HOk P w H h) (e:h.objs.size≤a):H a=none:=by
 cases q:H a with
 | none=>rfl
 | some u=>exact absurd (Nat.lt_of_lt_of_le (x.lt q) e) (Nat.lt_irrefl _)
theorem HOk.kept (x:HOk P w H h) (k:∀ b u,h.get? b=some u→h'.get? b=some u):HOk P w H h':=fun a o e =>
 (x a o e).stay (fun b u _ q=>k b u q) (fun _ q=>q) fun _ _ q=>q
theorem HOk.laid (x:HOk P w H h) (k:∀ b u,h.get? b=some u→h'.get? b=some u) (hp:h.objs.size≤a) (new:ObjOk P w (upd H a o) h' a o):HOk P w (upd H a o) h':=fun b u e=>by
 have hn:=x.fresh hp
 by_cases hb:b=a
 ·subst hb;rw [upd_same] at e;cases e;exact new
 ·rw [upd_ne hb] at e
  exact (x b u e).stay (fun c v _ q=>k c v q) (fun c q=>by rw [upd_ne (ne_of_none q hn)];exact q) fun c xs q=>by rw [upd_ne (ne_of_none q hn)];exact q
end
def Rd (H:Hp) (a:Addr) (u:HO):Prop:=H a=some u∨∃ o,H a=some (.frz o u)
theorem Rd.ok {P:Program} {w:World} {H:Hp} {h:Heap} {a:Addr} {u:HO} (r:Rd H a u) (x:HOk P w H h):ObjOk P w H h a u:=by
 rcases r with r | ⟨o,r⟩
 ·exact x a u r
 ·obtain ⟨_,q⟩:=x a _ r
  exact q
def Mut:Option HO→Prop
 | some (.lst _)=>True
 | some (.dK _)=>True
 | some (.dT _)=>True
 | some (.set _ _)=>True
 | some (.ins _ _ _)=>True
 | some (.ext _)=>True
 | _=>False
section
variable {P:Program} {w:World} {H:Hp} {h h':Heap} {x e:Addr} {o':HO}
theorem HOk.write (ok:HOk P w H h) (mu:Mut (H x)) (he:e=x∨H e=some (.own x)) (k:∀ b u,b≠e→h.get? b=some u→h'.get? b=some u) (heo:∃ u,h'.get? e=some u)
  (new:ObjOk P w (upd H x o') h' x o'):HOk P w (upd H x o') h':=fun b u q=>by
 have nown:∀ c y,H c=some (.own y)→c≠x:=fun c y r z=>by subst z;rw [r] at mu;exact mu
 have ntup:∀ c xs,H c=some (.tup xs)→c≠x:=fun c xs r z=>by subst z;rw [r] at mu;exact mu
 by_cases hb:b=x
 ·subst hb;rw [upd_same] at q;cases q;exact new
 ·rw [upd_ne hb] at q
  by_cases hbe:b=e
  ·have q':H b=some (.own x):=by
    rcases he with z | z
    ·exact absurd (hbe.trans z) hb
    ·rw [hbe];exact z
   rw [q] at q';cases q'
   obtain ⟨v,hv⟩:=heo
   exact ⟨v,by rw [hbe];exact hv⟩
  ·refine (ok b u q).stay (fun c v hc r=>k c v ?_ r) (fun c r=>by rw [upd_ne (nown c b r)];exact r) fun c xs r=>by rw [upd_ne (ntup c xs r)];exact r
   rcases hc with rfl | hc
   ·exact hbe
   ·rintro rfl
    rcases he with z | z
    ·exact nown c b hc z
    ·rw [hc] at z;cases z;exact hb rfl
end
structure Un (fs ex:List Addr) (H H':Hp) (h h':Heap):Prop where
 keep:∀ b o,h.get? b=some o→H b=none→b∉fs→b∉ex→h'.get? b=some o
 slot:∀ b o,h.get? b=some o→H b=none→b∈fs→b∉ex→∃ sl,h'.get? b=some { o with slots:=sl }
 free:∀ b o,h.get? b=some o→H b=none→b∉ex→H' b=none
 there:∀ b o,h.get? b=some o→b∉ex→∃ o',h'.get? b=some o'
 tups:∀ b xs,H b=some (.tup xs)→H' b=some (.tup xs)
 frzs:∀ b o u,H b=some (.frz o u)→H' b=some (.frz o u)
 tbls:∀ b ps,H b=some (.tbl ps)→∃ more,H' b=some (.tbl (ps++more))
section
variable {fs fs' ex ex':List Addr} {H H1 H2:Hp} {h h1 h2 h':Heap} {a x e:Addr} {o:HO}
theorem Un.any (u:Un fs ex H H1 h h1) {b:Addr} {ob:Obj} (q:h.get? b=some ob) (n:H b=none) (hx:b∉ex):∃ sl,h1.get? b=some { ob with slots:=sl }:=by
 by_cases hb:b∈fs
 ·exact u.slot b ob q n hb hx
 ·exact ⟨ob.slots,u.keep b ob q n hb hx⟩
theorem Un.kept (k:∀ b u,h.get? b=some u→h'.get? b=some u):Un fs ex H H h h' :=
 ⟨fun b ob q _ _ _=>k b ob q,fun b ob q _ _ _=>⟨ob.slots,k b ob q⟩,fun _ _ _ n _=>n,fun b ob q _=>⟨ob,k b ob q⟩,fun _ _ q=>q,fun _ _ _ q=>q,fun _ ps q=>⟨#[],by rw [q];simp⟩⟩
theorem Un.refl:Un fs ex H H h h:=Un.kept fun _ _ q=>q
theorem Un.laid (k:∀ b u,h.get? b=some u→h'.get? b=some u) (hp:h.objs.size≤a) (hn:H a=none):Un fs ex H (upd H a o) h h' where
 keep:=fun b u q _ _ _=>k b u q
 slot:=fun b u q _ _ _=>⟨u.slots,k b u q⟩
 free:=fun b u q n _=>by rw [upd_ne (Nat.ne_of_lt (Nat.lt_of_lt_of_le (Heap.lt_size q) hp))];exact n
 there:=fun b u q _=>⟨u,k b u q⟩
 tups:=fun b xs q=>by rw [upd_ne (ne_of_none q hn)];exact q
 frzs:=fun b u xs q=>by rw [upd_ne (ne_of_none q hn)];exact q
 tbls:=fun b ps q=>⟨#[],by rw [upd_ne (ne_of_none q hn),q];simp⟩
theorem Un.write (mu:Mut (H x)) (he:e=x∨H e=some (.own x)) (k:∀ b u,b≠e→h.get? b=some u→h'.get? b=some u) (heo:∃ u,h'.get? e=some u):Un fs ex H (upd H x o) h h':=by
 have hx:∀ b,H b=none→b≠x:=fun b n z=>by subst z;rw [n] at mu;exact mu
 have hb:∀ b,H b=none→b≠e:=fun b n z=>by
  subst z
  rcases he with r | r
  ·exact hx b n r
  ·rw [n] at r;cases r
 have hm:∀ b u,H b=some u→¬ Mut (some u)→b≠x:=fun b u q nm z=>by subst z;rw [q] at mu;exact nm mu
 refine ⟨fun b u q n _ _=>k b u (hb b n) q,fun b u q n _ _=>⟨u.slots,k b u (hb b n) q⟩,fun b u q n _=>by rw [upd_ne (hx b n)];exact n,fun b u q _=>?_,
  fun b xs q=>by rw [upd_ne (hm b _ q fun z=>z)];exact q,fun b u xs q=>by rw [upd_ne (hm b _ q fun z=>z)];exact q,fun b ps q=>⟨#[],by rw [upd_ne (hm b _ q fun z=>z),q];simp⟩⟩
 by_cases hbe:b=e
 ·subst hbe;exact heo
 ·exact ⟨u,k b u hbe q⟩
end
def trk (h:Heap) (H:Hp):List Addr:=(List.range h.objs.size).filter fun a=>(H a).isSome
def hidT (h:Heap) (H:Hp):Heap:=PySem.W.hideAll h (trk h H)
theorem hidT_size (h:Heap) (H:Hp):(hidT h H).objs.size=h.objs.size:=PySem.W.hideAll_size _ _
theorem hidT_get {h:Heap} {H:Hp} {b:Addr} {o:Obj} (e:h.get? b=some o) (n:H b=none):(hidT h H).get? b=some o :=
 PySem.W.hideAll_get _ e fun hm=>by
  have q:(H b).isSome=true:=(List.mem_filter.mp hm).2
  rw [n] at q;simp at q
theorem of_hidT {h:Heap} {H:Hp} {b:Addr} {o:Obj} (e:(hidT h H).get? b=some o):h.get? b=some o∧H b=none:=by
 have e':h.get? b=some o:=PySem.W.of_hideAll (trk h H) e
 refine ⟨e',?_⟩
 cases q:H b with
 | none=>rfl
 | some x =>
  have hm:b∈trk h H:=List.mem_filter.mpr ⟨List.mem_range.mpr (Heap.lt_size e'),by simp [q]⟩
  have z:(hidT h H).get? b=none:=PySem.W.hideAll_none (trk h H) hm
  rw [z] at e;cases e
def allNews (g h:Heap) (L:Addr):List (Addr × Obj):=(List.range h.objs.size).filterMap fun a=>if a=L∨(g.get? a).isSome=true then none else (h.get? a).map fun o=>(a,o)
def rest (g h:Heap) (L d:Addr):List (Addr × Obj):=(allNews g h L).filter fun p=>decide (p.1≠d)
end L2
namespace L2
open PySem PySem.Spec PyProof.Rows
structure Mod (K:PySem.W.Frag) (mg:Str→Option Value) (base:Heap):Prop where
 kin:K.In base
 glob:base.Ns mainGlobals mg
 blt:∃ mb,base.Ns builtinsNs mb∧∀ x:Str,x≠"__name__"→mb x=bootBuiltins x
 nolimit:base.NoLimit
structure Cx where
 prog:Program
 w:World
 K:PySem.W.Frag
 mg:Str→Option Value
 base:Heap
 A:Around
 N:List Str
 s₀:Shared
 H₀:Hp
 env:Env
 outer:List Env
 stack:List Env
 ex:List Addr
 fn:Str→Bool
 calm:Bool
 pn:List (Addr × Obj)
 xe:Value→Shared→Prop
def frs (l:List Env):List Addr:=l.filterMap (·.frame)
abbrev Cx.fs (X:Cx):List Addr:=frs X.outer
def Vis (sc:Scope) (x:Str):Prop:=sc.names.lookup x=some .local∨sc.names.lookup x=some .cell∨sc.names.lookup x=some .free
def Loc (sc:Scope) (x:Str):Prop:=sc.names.lookup x=some .local∨sc.names.lookup x=some .cell
def Look (env:Env) (h:Heap) (m:Str→Option Value) (x:Str) (u:Value):Prop :=
 (env.kindOf x=some .local∧m x=some u)∨((env.kindOf x=some .cell∨env.kindOf x=some .free)∧∃ c,env.cells.lookup x=some c∧h.IsCell c (some u))
structure Cx.Ok (X:Cx):Prop where
 mod:Mod X.K X.mg X.base
 kind:X.env.scope.kind=.function
 glob:X.env.globals=mainGlobals
 blt:X.env.builtins=builtinsNs
 above:X.s₀.heap.objs.size≤X.env.locals
 inj:∀ x y c,X.env.cells.lookup x=some c→X.env.cells.lookup y=some c→x=y
 has:∀ x,(X.env.kindOf x=some .cell∨X.env.kindOf x=some .free)→∃ c,X.env.cells.lookup x=some c
 cab:∀ x c,X.fn x=true→X.env.cells.lookup x=some c→X.s₀.heap.objs.size≤c
 hd:X.calm=true→X.A.handled=none
 frames:X.A.frames=some X.stack
 stk:X.stack=X.outer∨(X.stack=X.env::X.outer∧X.env.frame=some X.env.locals)
 exf:∀ b∈X.ex,b≠X.env.locals∧∀ x c,X.env.cells.lookup x=some c→c≠b
 bs:∀ b o,X.base.get? b=some o→X.s₀.heap.get? b=some o∧X.H₀ b=none
 bsz:X.base.objs.size≤X.s₀.heap.objs.size
 noex:∀ b o,X.base.get? b=some o→b∉X.ex
 exfs:∀ b∈X.ex,b∉X.fs
 funs:X.s₀.heap.FunFrames X.base X.outer
 frf:∀ b∈X.fs,X.H₀ b=none
structure Inv (X:Cx) (pins:List (Addr × Obj)) (σ:List (Option V)) (H:Hp) (s:Shared):Prop where
 ok:X.Ok
 os:s.os=X.s₀.os
 bare:AllBare s.gens
 base:Un X.fs X.ex X.H₀ H X.s₀.heap s.heap
 loc:∃ m,s.heap.Ns X.env.locals m∧∀ (i:Nat) (x:Str) (v:V),X.N[i]?=some x→σ[i]?=some (some v)→Vis X.env.scope x→∃ u,RelV v u∧Look X.env s.heap m x u
 cell:∀ x c,X.env.cells.lookup x=some c→∃ v,s.heap.IsCell c v
 free:H X.env.locals=none
 freeC:∀ x c,X.env.cells.lookup x=some c→H c=none
 pin:∀ p∈X.pn++pins,s.heap.get? p.1=some p.2∧H p.1=none∧p.1≠X.env.locals∧p.1∉X.fs∧∀ v,p.2.data≠.cell v
 hok:HOk X.prog X.w H s.heap
 len:σ.length=X.N.length
section
variable {X:Cx} {pins:List (Addr × Obj)} {σ:List (Option V)} {H H':Hp} {s:Shared} {h':Heap}
theorem Cx.Ok.nofr (ok:X.Ok) {b:Addr} {o:Obj} (e:X.base.get? b=some o):b∉X.fs:=fun hb=>by
 have:=(ok.funs.mem hb).1
 rw [e] at this;cases this
theorem Inv.bs (I:Inv X pins σ H s):∀ b o,X.base.get? b=some o→s.heap.get? b=some o∧H b=none:=fun b o e =>
 ⟨I.base.keep b o (I.ok.bs b o e).1 (I.ok.bs b o e).2 (I.ok.nofr e) (I.ok.noex b o e),I.base.free b o (I.ok.bs b o e).1 (I.ok.bs b o e).2 (I.ok.noex b o e)⟩
theorem Inv.bk (I:Inv X pins σ H s):∀ b o,X.base.get? b=some o→s.heap.get? b=some o:=fun b o e=>(I.bs b o e).1
theorem Inv.mod (I:Inv X pins σ H s):Mod X.K X.mg X.base:=I.ok.mod
theorem Inv.kIn (I:Inv X pins σ H s):X.K.In s.heap:=I.ok.mod.kin.keeps I.bk
theorem Inv.lt (I:Inv X pins σ H s):X.env.locals<s.heap.objs.size:=let ⟨_,hn,_⟩:=I.loc;hn.lt
theorem Inv.sz (I:Inv X pins σ H s):X.s₀.heap.objs.size≤s.heap.objs.size:=Nat.le_trans I.ok.above (Nat.le_of_lt I.lt)
theorem Inv.nofs (I:Inv X pins σ H s) {a:Addr} (h:s.heap.objs.size≤a):a∉X.fs:=fun hb=>by
 obtain ⟨_,o,ho,_⟩:=I.ok.funs.mem hb
 exact absurd (Nat.lt_of_lt_of_le (Heap.lt_size ho) (Nat.le_trans I.sz h)) (Nat.lt_irrefl _)
theorem Inv.cne (I:Inv X pins σ H s):∀ x c,X.env.cells.lookup x=some c→c≠X.env.locals:=fun x c e z=>by
 obtain ⟨v,o,ho,hd⟩:=I.cell x c e
 obtain ⟨m,⟨o',es,ep,ho',hd',_⟩,_⟩:=I.loc
 rw [z,ho'] at ho;cases ho;rw [hd'] at hd;cases hd
theorem Inv.funs (I:Inv X pins σ H s):s.heap.FunFrames X.base X.outer:=by
 have all:∀ (l:List Env),(∀ b∈frs l,b∈X.fs)→X.s₀.heap.FunFrames X.base l→s.heap.FunFrames X.base l:=by
  intro l
  induction l with
  | nil=>intro _ _;trivial
  | cons env r ih =>
   intro hs hl
   obtain ⟨hk,⟨L,o,hf,hn,ho,hd⟩,hr⟩:=hl
   have hL:L∈X.fs:=hs L (by unfold frs;rw [List.filterMap_cons,hf];exact List.mem_cons_self)
   obtain ⟨sl,e⟩:=I.base.slot L o ho (I.ok.frf L hL) hL fun z=>I.ok.exfs L z hL
   exact ⟨hk,⟨L,_,hf,hn,e,hd⟩,ih (fun b hb=>hs b (by unfold frs;rw [List.filterMap_cons,hf];exact List.mem_cons_of_mem _ hb)) hr⟩
 exact all X.outer (fun _ hb=>hb) I.ok.funs
theorem Inv.stack (I:Inv X pins σ H s):s.heap.FunFrames X.base X.stack:=by
 rcases I.ok.stk with e | ⟨e,hf⟩
 ·rw [e];exact I.funs
 ·rw [e]
  obtain ⟨m,hn,_⟩:=I.loc
  refine .cons (by rw [I.ok.kind];decide) hf hn ?_ I.funs
  exact Heap.get?_none_of_le (Nat.le_trans I.ok.bsz I.ok.above)
theorem Inv.stkSub (I:Inv X pins σ H s):∀ b∈frs X.stack,b∈X.env.locals::X.fs:=fun b hb=>by
 rcases I.ok.stk with e | ⟨e,hf⟩
 ·rw [e] at hb;exact List.mem_cons_of_mem _ hb
 ·rw [e] at hb
  unfold frs at hb
  rw [List.filterMap_cons,hf] at hb
  exact hb
theorem Inv.stkFree (I:Inv X pins σ H s):∀ b∈frs X.stack,H b=none:=fun b hb=>by
 rcases omc (I.stkSub b hb) with e | hb
 ·rw [e];exact I.free
 ·obtain ⟨_,o,ho,_⟩:=I.ok.funs.mem hb
  exact I.base.free b o ho (I.ok.frf b hb) fun z=>I.ok.exfs b z hb
theorem Inv.step {g':Array GenState} {t':Nat} {d':Drawn} {ch:List Addr} (I:Inv X pins σ H s)
  (hch:∀ b∈ch,(b∈X.ex∨X.s₀.heap.objs.size≤b)∧b≠X.env.locals∧(∀ x c,X.env.cells.lookup x=some c→c≠b)∧∀ p∈X.pn++pins,p.1≠b)
  (keep:∀ b o,b≠X.env.locals→b∉X.fs→b∉ch→s.heap.get? b=some o→H b=none→h'.get? b=some o)
  (slot:∀ b o,b≠X.env.locals→b∈X.fs→b∉ch→s.heap.get? b=some o→H b=none→∃ sl,h'.get? b=some { o with slots:=sl }) (free:∀ b o,b∉ch→s.heap.get? b=some o→H b=none→H' b=none)
  (there:∀ b o,b∉ch→s.heap.get? b=some o→∃ o',h'.get? b=some o')
  (tups:∀ b xs,H b=some (.tup xs)→H' b=some (.tup xs)) (frzs:∀ b o u,H b=some (.frz o u)→H' b=some (.frz o u)) (tbls:∀ b ps,H b=some (.tbl ps)→∃ more,H' b=some (.tbl (ps++more)))
  (ns:∀ m,s.heap.Ns X.env.locals m→h'.Ns X.env.locals m) (hok:HOk X.prog X.w H' h') (hg:AllBare g') :
  Inv X pins σ H' { s with heap:=h',gens:=g',drawn:=d',toks:=t' }:=by
 have neL:∀ b o,X.s₀.heap.get? b=some o→b≠X.env.locals:=fun b o e=>Nat.ne_of_lt (Nat.lt_of_lt_of_le (Heap.lt_size e) I.ok.above)
 have neC:∀ b o,X.s₀.heap.get? b=some o→b∉X.ex→b∉ch:=fun b o e hx hb=>by
  rcases (hch b hb).1 with z | z
  ·exact hx z
  ·exact absurd (Nat.lt_of_lt_of_le (Heap.lt_size e) z) (Nat.lt_irrefl _)
 have cellK:∀ x c,X.env.cells.lookup x=some c→∀ v,s.heap.IsCell c v→h'.IsCell c v:=fun x c e v ⟨o,ho,hd⟩=>by
  have nch:c∉ch:=fun z=>(hch c z).2.2.1 x c e rfl
  by_cases hc:c∈X.fs
  ·obtain ⟨sl,q⟩:=slot c o (I.cne x c e) hc nch ho (I.freeC x c e)
   exact ⟨_,q,hd⟩
  ·exact ⟨o,keep c o (I.cne x c e) hc nch ho (I.freeC x c e),hd⟩
 refine ⟨I.ok,I.os,hg,⟨fun b o e n hb hx=>?_,fun b o e n hb hx=>?_,fun b o e n hx=>?_,fun b o e hx=>?_,fun b xs e=>tups b xs (I.base.tups b xs e),fun b o xs e=>frzs b o xs (I.base.frzs b o xs e),fun b ps e=>?_⟩,?_,fun x c e=>?_,?_,fun x c e=>?_,fun p hp=>?_,hok,I.len⟩
 ·exact keep b o (neL b o e) hb (neC b o e hx) (I.base.keep b o e n hb hx) (I.base.free b o e n hx)
 ·obtain ⟨sl,e1⟩:=I.base.slot b o e n hb hx
  obtain ⟨sl',e2⟩:=slot b _ (neL b o e) hb (neC b o e hx) e1 (I.base.free b o e n hx)
  exact ⟨sl',e2⟩
 ·obtain ⟨o',e1⟩:=I.base.there b o e hx
  exact free b o' (neC b o e hx) e1 (I.base.free b o e n hx)
 ·obtain ⟨o',e1⟩:=I.base.there b o e hx
  exact there b o' (neC b o e hx) e1
 ·obtain ⟨m1,e1⟩:=I.base.tbls b ps e
  obtain ⟨m2,e2⟩:=tbls b _ e1
  exact ⟨m1++m2,by rw [e2,Array.append_assoc]⟩
 ·obtain ⟨m,hn,hl⟩:=I.loc
  refine ⟨m,ns m hn,fun i x v e1 e2 e3=>?_⟩
  obtain ⟨u,r,l⟩:=hl i x v e1 e2 e3
  refine ⟨u,r,?_⟩
  rcases l with l | ⟨k,c,e,z⟩
  ·exact .inl l
  ·exact .inr ⟨k,c,e,cellK x c e _ z⟩
 ·obtain ⟨v,z⟩:=I.cell x c e
  exact ⟨v,cellK x c e v z⟩
 ·obtain ⟨m,⟨o,_,_,ho,_⟩,_⟩:=I.loc
  exact free _ o (fun z=>(hch _ z).2.1 rfl) ho I.free
 ·obtain ⟨v,o,ho,hd⟩:=I.cell x c e
  exact free c o (fun z=>(hch c z).2.2.1 x c e rfl) ho (I.freeC x c e)
 ·obtain ⟨e,n,ne,nf,d⟩:=I.pin p hp
  have nch:p.1∉ch:=fun z=>(hch p.1 z).2.2.2 p hp rfl
  exact ⟨keep p.1 p.2 ne nf nch e n,free p.1 p.2 nch e n,ne,nf,d⟩
theorem Inv.un {t':Nat} (I:Inv X pins σ H s) (u:Un X.fs [] H H' s.heap h') (hok:HOk X.prog X.w H' h'):Inv X pins σ H' { s with heap:=h',toks:=t' }:=by
 obtain ⟨m,⟨o,es,ep,ho,r⟩,_⟩:=id I.loc
 obtain ⟨sl,hL⟩:=u.any ho I.free (by simp)
 exact I.step (g':=s.gens) (d':=s.drawn) (ch:=[]) (fun _ z=>nomatch z) (fun b o _ hb _ e n=>u.keep b o e n hb (by simp)) (fun b o _ hb _ e n=>u.slot b o e n hb (by simp)) (fun b o _ e n=>u.free b o e n (by simp)) (fun b o _ e=>u.there b o e (by simp)) u.tups u.frzs u.tbls (fun m' hm=>by
  obtain ⟨o',es',ep',ho',r'⟩:=hm
  rw [ho] at ho';cases ho'
  exact ⟨_,es',ep',hL,r'⟩) hok I.bare
theorem Inv.call {g':Array GenState} {t':Nat} {d':Drawn} {ch:List Addr} (I:Inv X pins σ H s) (u:Un (frs X.stack) ch H H' s.heap h') (hok:HOk X.prog X.w H' h') (hg:AllBare g')
  (hch:∀ b∈ch,(b∈X.ex∨X.s₀.heap.objs.size≤b)∧b≠X.env.locals∧(∀ x c,X.env.cells.lookup x=some c→c≠b)∧∀ p∈X.pn++pins,p.1≠b) :
  Inv X pins σ H' { s with heap:=h',gens:=g',drawn:=d',toks:=t' }:=by
 obtain ⟨m,⟨o,es,ep,ho,r⟩,_⟩:=id I.loc
 obtain ⟨sl,hL⟩:=u.any ho I.free fun z=>(hch _ z).2.1 rfl
 exact I.step (ch:=ch) hch (fun b o hL hb hc e n=>u.keep b o e n (fun z=>(omc (I.stkSub b z)).elim hL hb) hc) (fun b o _ _ hc e n=>u.any e n hc) (fun b o hc e n=>u.free b o e n hc) (fun b o hc e=>u.there b o e hc) u.tups u.frzs u.tbls (fun m' hm=>by
  obtain ⟨o',es',ep',ho',r'⟩:=hm
  rw [ho] at ho';cases ho'
  exact ⟨_,es',ep',hL,r'⟩) hok hg
theorem Inv.turned {t':Nat} {it:Addr} (I:Inv X pins σ H s) (k:∀ b o,b≠it→s.heap.get? b=some o→h'.get? b=some o) (hn:H it=none) (hL:it≠X.env.locals)
  (h1:it∈X.ex∨X.s₀.heap.objs.size≤it) (h2:∀ x c,X.env.cells.lookup x=some c→c≠it) (h3:∀ p∈X.pn++pins,p.1≠it):Inv X pins σ H { s with heap:=h',toks:=t' }:=by
 have nit:∀ b u,H b=some u→b≠it:=fun b u e z=>by rw [z,hn] at e;cases e
 refine I.step (g':=s.gens) (d':=s.drawn) (ch:=[it]) (fun b hb=>?_) (fun b o _ _ hc e _=>k b o (fun z=>hc (by simp [z])) e) (fun b o _ _ hc e _=>⟨o.slots,k b o (fun z=>hc (by simp [z])) e⟩) (fun _ _ _ _ n=>n)
  (fun b o hc e=>⟨o,k b o (fun z=>hc (by simp [z])) e⟩) (fun _ _ e=>e) (fun _ _ _ e=>e) (fun b ps e=>⟨#[],by rw [e];simp⟩) (fun m hm=>?_) (fun b u e=>?_) I.bare
 ·have e:b=it:=by simpa using hb
  subst e
  exact ⟨h1,hL,h2,h3⟩
 ·obtain ⟨o,es,ep,ho,r⟩:=hm
  exact ⟨o,es,ep,k _ o (Ne.symm hL) ho,r⟩
 ·refine (I.hok b u e).stay (fun c v hc q=>k c v ?_ q) (fun _ q=>q) fun _ _ q=>q
  rcases hc with z | z
  ·rw [z];exact nit b u e
  ·exact nit c _ z
theorem Inv.tok (I:Inv X pins σ H s) (t:Nat):Inv X pins σ H { s with toks:=t }:=I.un (h':=s.heap) (t':=t) Un.refl I.hok
theorem Inv.kept {t':Nat} (I:Inv X pins σ H s) (k:∀ b u,s.heap.get? b=some u→h'.get? b=some u):Inv X pins σ H { s with heap:=h',toks:=t' }:=I.un (Un.kept k) (I.hok.kept k)
theorem Inv.laid {a:Addr} {o:HO} {t':Nat} (I:Inv X pins σ H s) (k:∀ b u,s.heap.get? b=some u→h'.get? b=some u) (hp:s.heap.objs.size≤a) (new:ObjOk X.prog X.w (upd H a o) h' a o) :
  Inv X pins σ (upd H a o) { s with heap:=h',toks:=t' }:=I.un (Un.laid k hp (I.hok.fresh hp)) (I.hok.laid k hp new)
theorem Inv.write {x e:Addr} {o:HO} {t':Nat} (I:Inv X pins σ H s) (mu:Mut (H x)) (he:e=x∨H e=some (.own x)) (k:∀ b u,b≠e→s.heap.get? b=some u→h'.get? b=some u) (heo:∃ u,h'.get? e=some u)
  (new:ObjOk X.prog X.w (upd H x o) h' x o):Inv X pins σ (upd H x o) { s with heap:=h',toks:=t' }:=I.un (Un.write mu he k heo) (I.hok.write mu he k heo new)
theorem Inv.pins_of {pins':List (Addr × Obj)} (I:Inv X pins σ H s) (h:∀ p∈pins',s.heap.get? p.1=some p.2∧H p.1=none∧p.1≠X.env.locals∧p.1∉X.fs∧∀ v,p.2.data≠.cell v):Inv X pins' σ H s :=
 ⟨I.ok,I.os,I.bare,I.base,I.loc,I.cell,I.free,I.freeC,fun p hp=>(oma hp).elim (fun z=>I.pin p (List.mem_append_left _ z)) (h p),I.hok,I.len⟩
theorem nodup_ix {N:List Str} (hN:N.Nodup) {i j:Nat} {x:Str} (a:N[i]?=some x) (b:N[j]?=some x):i=j:=by
 obtain ⟨h1,e1⟩:=ome a
 obtain ⟨h2,e2⟩:=ome b
 exact (List.getElem_inj hN).mp (e1.trans e2.symm)
theorem store_ok2 {M:Model} {A:Around} {E:Value→Shared→Prop} {i:Nat} {x:Str} {v:V} {u:Value} {Q:Unit→Shared→Prop} (I:Inv X pins σ H s) (hN:X.N.Nodup) (hi:X.N[i]?=some x) (hx:Loc X.env.scope x) (r:RelV v u)
  (h:∀ s',Inv X pins (σ.set i (some v)) H s'→(∃ a,Heap.SameBut a s.heap s'.heap∧(a=X.env.locals∨X.env.cells.lookup x=some a))→Q () s') (hf:X.fn x=true∨X.env.scope.names.lookup x=some .local:=by first | exact .inl rfl | exact .inr rfl | assumption):wpAny M A (storeName X.env x u) Q E s:=by
 obtain ⟨m,hn,hl⟩:=id I.loc
 have hcls:(X.env.scope.kind==.class||(X.env.scope.kind==.module&&X.env.locals != X.env.globals))=false:=by rw [I.ok.kind];rfl
 have hiσ:i<σ.length:=by rw [I.len];exact (ome hi).1
 have cne:=I.cne
 have tracked:∀ {a:Addr} {h':Heap},(∃ o,s.heap.get? a=some o∧H a=none)→Heap.SameBut a s.heap h'→HOk X.prog X.w H h':=fun {a h'} ha hs b ob e=>by
  obtain ⟨_,_,hfree⟩:=ha
  refine (I.hok b ob e).stay (fun c w' hc q=>(hs.2 c ?_).trans q) (fun _ q=>q) fun _ _ q=>q
  rintro rfl
  rcases hc with rfl | hc
  ·rw [hfree] at e;cases e
  ·rw [hfree] at hc;cases hc
 rcases hx with hk | hk
 ·refine wpAny_storeName_local hk hn (fun h' hn' hs=>?_) hcls
  obtain ⟨oL,_,_,hoL,_⟩:=id hn
  refine h _ ⟨I.ok,I.os,I.bare,⟨fun b o e n hb hx=>?_,fun b o e n hb hx=>?_,I.base.free,fun b o e hx=>?_,I.base.tups,I.base.frzs,I.base.tbls⟩,⟨_,hn',fun j y v' e1 e2 e3=>?_⟩,fun y c e=>?_,I.free,I.freeC,fun p hp=>?_,tracked ⟨oL,hoL,I.free⟩ hs,by simpa using I.len⟩ ⟨_,hs,.inl rfl⟩
  ·exact (hs.2 b (Nat.ne_of_lt (Nat.lt_of_lt_of_le (Heap.lt_size e) I.ok.above))).trans (I.base.keep b o e n hb hx)
  ·obtain ⟨sl,e1⟩:=I.base.slot b o e n hb hx
   exact ⟨sl,(hs.2 b (Nat.ne_of_lt (Nat.lt_of_lt_of_le (Heap.lt_size e) I.ok.above))).trans e1⟩
  ·obtain ⟨o',e1⟩:=I.base.there b o e hx
   exact ⟨o',(hs.2 b (Nat.ne_of_lt (Nat.lt_of_lt_of_le (Heap.lt_size e) I.ok.above))).trans e1⟩
  ·by_cases hj:j=i
   ·subst hj
    rw [hi] at e1;cases e1
    rw [List.getElem?_set_self hiσ] at e2
    cases e2
    exact ⟨u,r,.inl ⟨hk,by simp⟩⟩
   ·rw [List.getElem?_set_ne (Ne.symm hj)] at e2
    obtain ⟨u',r',q⟩:=hl j y v' e1 e2 e3
    refine ⟨u',r',?_⟩
    rcases q with ⟨k,e⟩ | ⟨k,c,e,z⟩
    ·refine .inl ⟨k,?_⟩
     have:y≠x:=fun e=>hj (nodup_ix hN e1 (e▸hi))
     simp [this,e]
    ·exact .inr ⟨k,c,e,z.sameBut hs (cne y c e)⟩
  ·obtain ⟨w',z⟩:=I.cell y c e
   exact ⟨w',z.sameBut hs (cne y c e)⟩
  ·obtain ⟨e,n,ne,nf,d⟩:=I.pin p hp
   exact ⟨(hs.2 p.1 ne).trans e,n,ne,nf,d⟩
 ·have hfn:X.fn x=true:=by
   rcases hf with z | z
   ·exact z
   ·rw [z] at hk;cases hk
  obtain ⟨c,hc⟩:=I.ok.has x (.inl hk)
  obtain ⟨w',z⟩:=I.cell x c hc
  refine wpAny_storeName_cell I.ok.kind hk hc z (fun h' hc' hs=>?_)
  obtain ⟨oc,hoc,hocd⟩:=id z
  refine h { s with heap:=h' } ⟨I.ok,I.os,I.bare,⟨fun b o e n hb hx=>?_,fun b o e n hb hx=>?_,I.base.free,fun b o e hx=>?_,I.base.tups,I.base.frzs,I.base.tbls⟩,⟨m,hn.sameBut hs (Ne.symm (cne x c hc)),fun j y v' e1 e2 e3=>?_⟩,fun y c' e=>?_,I.free,I.freeC,fun p hp=>?_,tracked ⟨oc,hoc,I.freeC x c hc⟩ hs,by simpa using I.len⟩ ⟨c,hs,.inr hc⟩
  ·exact (hs.2 b (Nat.ne_of_lt (Nat.lt_of_lt_of_le (Heap.lt_size e) (I.ok.cab x c hfn hc)))).trans (I.base.keep b o e n hb hx)
  ·obtain ⟨sl,e1⟩:=I.base.slot b o e n hb hx
   exact ⟨sl,(hs.2 b (Nat.ne_of_lt (Nat.lt_of_lt_of_le (Heap.lt_size e) (I.ok.cab x c hfn hc)))).trans e1⟩
  ·obtain ⟨o',e1⟩:=I.base.there b o e hx
   exact ⟨o',(hs.2 b (Nat.ne_of_lt (Nat.lt_of_lt_of_le (Heap.lt_size e) (I.ok.cab x c hfn hc)))).trans e1⟩
  ·by_cases hj:j=i
   ·subst hj
    rw [hi] at e1;cases e1
    rw [List.getElem?_set_self hiσ] at e2
    cases e2
    exact ⟨u,r,.inr ⟨.inl hk,c,hc,hc'⟩⟩
   ·rw [List.getElem?_set_ne (Ne.symm hj)] at e2
    obtain ⟨u',r',q⟩:=hl j y v' e1 e2 e3
    refine ⟨u',r',?_⟩
    rcases q with q | ⟨k,c',e,z'⟩
    ·exact .inl q
    ·refine .inr ⟨k,c',e,z'.sameBut hs ?_⟩
     rintro rfl
     exact hj (nodup_ix hN e1 (I.ok.inj _ _ _ e hc▸hi))
  ·by_cases hcc:c'=c
   ·subst hcc;exact ⟨_,hc'⟩
   ·obtain ⟨w2,z2⟩:=I.cell y c' e
    exact ⟨w2,z2.sameBut hs hcc⟩
  ·obtain ⟨e,n,ne,nf,d⟩:=I.pin p hp
   refine ⟨(hs.2 p.1 ?_).trans e,n,ne,nf,d⟩
   intro q
   rw [q,hoc] at e
   have q':oc=p.2:=Option.some.inj e
   exact d w' (by rw [← q'];exact hocd)
theorem store_ok {M:Model} {A:Around} {E:Value→Shared→Prop} {i:Nat} {x:Str} {v:V} {u:Value} {Q:Unit→Shared→Prop} (I:Inv X pins σ H s) (hN:X.N.Nodup) (hi:X.N[i]?=some x) (hx:Loc X.env.scope x) (r:RelV v u)
  (h:∀ s',Inv X pins (σ.set i (some v)) H s'→Q () s') (hf:X.fn x=true∨X.env.scope.names.lookup x=some .local:=by first | exact .inl rfl | exact .inr rfl | assumption):wpAny M A (storeName X.env x u) Q E s :=
 store_ok2 I hN hi hx r (fun s' I' _=>h s' I') hf
theorem Inv.call' {s':Shared} {ch:List Addr} (I:Inv X pins σ H s) (ho:s'.os=s.os) (u:Un (frs X.stack) ch H H' s.heap s'.heap) (hok:HOk X.prog X.w H' s'.heap) (hg:AllBare s'.gens)
  (hch:∀ b∈ch,(b∈X.ex∨X.s₀.heap.objs.size≤b)∧b≠X.env.locals∧(∀ x c,X.env.cells.lookup x=some c→c≠b)∧∀ p∈X.pn++pins,p.1≠b):Inv X pins σ H' s':=by
 obtain ⟨h',g',d',t',o'⟩:=s'
 have e:o'=s.os:=ho
 subst e
 exact I.call (g':=g') (t':=t') (d':=d') u hok hg hch
end
abbrev XK:=Value→Option Addr→Hp→Prop
abbrev St:=List (Option V)
abbrev VK:=V→Hp→Prop
abbrev TE:=St→Hp→VK→Prop
abbrev TT:=St→Hp→(Bool→Hp→Prop)→Prop
abbrev TA:=St→Hp→(List V→Hp→Prop)→Prop
structure Ends where
 nx:St→Hp→Prop
 rt:VK
 bk:St→Hp→Prop:=fun _ _=>False
 ct:St→Hp→Prop:=fun _ _=>False
abbrev TS:=Ends→St→Hp→Prop
def EP (X:Cx) (pins:List (Addr × Obj)) (σ:St) (Q:VK) (u:Value) (s':Shared):Prop:=∃ v H',Inv X pins σ H' s'∧RelV v u∧Q v H'
def TP (X:Cx) (pins:List (Addr × Obj)) (σ:St) (Q:Bool→Hp→Prop) (b:Bool) (s':Shared):Prop:=∃ H',Inv X pins σ H' s'∧Q b H'
def AP (X:Cx) (pins:List (Addr × Obj)) (σ:St) (Q:List V→Hp→Prop) (us:List Value) (s':Shared):Prop:=∃ vs H',Inv X pins σ H' s'∧Vals vs us∧Q vs H'
def SP (X:Cx) (pins:List (Addr × Obj)) (D:Ends) (f:Flow) (s':Shared):Prop :=
 match f with
 | .next=>∃ σ' H',Inv X pins σ' H' s'∧D.nx σ' H'
 | .brk=>∃ σ' H',Inv X pins σ' H' s'∧D.bk σ' H'
 | .cont=>∃ σ' H',Inv X pins σ' H' s'∧D.ct σ' H'
 | .ret u=>∃ v σ' H',Inv X pins σ' H' s'∧RelV v u∧D.rt v H'
def PE (X:Cx) (e:Expr) (t:TE):Prop :=
 ∀ (pins:List (Addr × Obj)) (s:Shared) (σ:St) (H:Hp) (Q:VK),Inv X pins σ H s→t σ H Q→wpAny (model X.prog X.w) X.A (eval e X.env) (EP X pins σ Q) X.xe s
def PT (X:Cx) (e:Expr) (t:TT):Prop :=
 ∀ (pins:List (Addr × Obj)) (s:Shared) (σ:St) (H:Hp) (Q:Bool→Hp→Prop),Inv X pins σ H s→t σ H Q→wpAny (model X.prog X.w) X.A (isTrue e X.env (eval e X.env)) (TP X pins σ Q) X.xe s
def PW (X:Cx) (e:Expr) (t:TT):Prop :=
 ∀ (whole:Sem Value) (pins:List (Addr × Obj)) (s:Shared) (σ:St) (H:Hp) (Q:Bool→Hp→Prop),Inv X pins σ H s→t σ H Q→wpAny (model X.prog X.w) X.A (isTrue e X.env whole) (TP X pins σ Q) X.xe s
theorem PW.pt {X:Cx} {e:Expr} {t:TT} (h:PW X e t):PT X e t:=h _
def PA (X:Cx) (es:List Expr) (t:TA):Prop :=
 ∀ (pos:Pos) (pins:List (Addr × Obj)) (s:Shared) (σ:St) (H:Hp) (Q:List V→Hp→Prop),Inv X pins σ H s→t σ H Q→wpAny (model X.prog X.w) X.A (spliced (backTo pos (starEach es X.env))) (AP X pins σ Q) X.xe s
def PS (X:Cx) (st:Stmt) (t:TS):Prop :=
 ∀ (pins:List (Addr × Obj)) (s:Shared) (σ:St) (H:Hp) (D:Ends),Inv X pins σ H s→t D σ H→wpAny (model X.prog X.w) X.A (exec st X.env) (SP X pins D) X.xe s
def PSs (X:Cx) (st:List Stmt) (t:TS):Prop :=
 ∀ (pins:List (Addr × Obj)) (s:Shared) (σ:St) (H:Hp) (D:Ends),Inv X pins σ H s→t D σ H→wpAny (model X.prog X.w) X.A (execs st X.env) (SP X pins D) X.xe s
theorem thn {α:Type} {t:Sem α} {Q Q':α→Shared→Prop} {M:Model} {A:Around} {E:Value→Shared→Prop} {s:Shared} (h:wpAny M A t Q E s) (hQ:∀ a s,Q a s→Q' a s):wpAny M A t Q' E s:=wpAny_mono h hQ fun _ _ x=>x
end L2
namespace L2
open PySem PySem.Spec PyProof.Rows
section
variable {X:Cx}
def tVar (i:Nat):TE:=fun σ H Q=>∃ v,σ[i]?=some (some v)∧Q v H
def tC (v:V):TE:=fun _ H Q=>Q v H
theorem pe_var {i:Nat} {x:Str} {pos:Pos} (hN:X.N[i]?=some x) (hv:Vis X.env.scope x) (hd:(x==("__debug__":Str))=false:=by decide) (hcd:(x==("__classdict__":Str))=false:=by decide):PE X (.Name x pos) (tVar i):=by
 intro pins s σ H Q I h
 obtain ⟨v,e,h⟩:=h
 obtain ⟨m,hn,hl⟩:=I.loc
 obtain ⟨u,r,l⟩:=hl i x v hN e hv
 have fin:EP X pins σ Q u s:=⟨v,H,I,r,h⟩
 rcases l with ⟨hk,hm⟩ | ⟨hk,c,hc,hcell⟩
 ·exact wpAny_Name (wpAny_loadName_local I.ok.kind hk hn hm fin) hd
 ·rcases hk with hk | hk
  ·exact wpAny_Name (wpAny_loadName_cell I.ok.kind hk hc hcell fin) hd
  ·exact wpAny_Name (wpAny_loadName_free I.ok.kind hk hc hcell fin hcd) hd
theorem pe_int {i j pos}:PE X (.Constant (.int i) j pos) (tC (.int i)):=fun _ _ _ H _ I h=>wpAny_Constant_int ⟨.int i,H,I.tok _,⟨_,rfl⟩,h⟩
theorem pe_bl {b j pos}:PE X (.Constant (.bool b) j pos) (tC (.bl b)):=fun _ _ _ H _ I h=>Constant_bool ⟨.bl b,H,I,rfl,h⟩
theorem pe_non {j pos}:PE X (.Constant .none j pos) (tC .non):=fun _ _ _ H _ I h=>Constant_none ⟨.non,H,I,rfl,h⟩
theorem pe_str {x j pos}:PE X (.Constant (.str x) j pos) (tC (.str x)):=fun _ _ _ H _ I h=>Calls.Constant_str ⟨.str x,H,I.tok _,⟨_,rfl⟩,h⟩
def Gl (X:Cx) (x:Str):Prop:=X.env.kindOf x=some .globalImplicit
theorem ld_glob {E:Value→Shared→Prop} {pins:List (Addr × Obj)} {s:Shared} {σ:St} {H:Hp} {x:Str} {u:Value} {pos:Pos} {Q:Value→Shared→Prop} (I:Inv X pins σ H s) (hg:Gl X x) (hm:X.mg x=some u) (h:Q u s)
  (hd:(x==("__debug__":Str))=false:=by decide):wpAny (model X.prog X.w) X.A (eval (.Name x pos) X.env) Q E s :=
 Calls.Name_function_global I.ok.kind hg (Calls.loadGlobal_global (by rw [I.ok.glob];exact I.mod.glob.keeps I.bk) hm h) hd
theorem ld_blt {E:Value→Shared→Prop} {pins:List (Addr × Obj)} {s:Shared} {σ:St} {H:Hp} {x:Str} {u:Value} {pos:Pos} {Q:Value→Shared→Prop} (I:Inv X pins σ H s) (hg:Gl X x) (hm:X.mg x=none) (hv:bootBuiltins x=some u) (h:Q u s)
  (hn:x≠"__name__":=by decide) (hd:(x==("__debug__":Str))=false:=by decide):wpAny (model X.prog X.w) X.A (eval (.Name x pos) X.env) Q E s:=by
 obtain ⟨mb,h1,h2⟩:=I.mod.blt
 exact Calls.Name_function_global I.ok.kind hg (Calls.loadGlobal_builtin (by rw [I.ok.glob];exact I.mod.glob.keeps I.bk) hm (by rw [I.ok.blt];exact h1.keeps I.bk) ((h2 x hn).trans hv) h) hd
theorem pe_glob {x:Str} {v:V} {u:Value} {pos:Pos} (hg:Gl X x) (hm:X.mg x=some u) (r:RelV v u) (hd:(x==("__debug__":Str))=false:=by decide):PE X (.Name x pos) (tC v) :=
 fun _ _ _ H _ I h=>ld_glob I hg hm ⟨v,H,I,r,h⟩ hd
variable {a b:Expr} {ta tb:TE} {pos:Pos}
def PC (X:Cx) (op:CmpOp) (a b:Expr) (t:TE):Prop :=
 ∀ (pins:List (Addr × Obj)) (s:Shared) (σ:St) (H:Hp) (Q:VK),Inv X pins σ H s→t σ H Q →
  wpAny (model X.prog X.w) X.A (eval a X.env) (fun v s₁=>wpAny (model X.prog X.w) X.A (eval b X.env) (fun u s₂=>wpAny (model X.prog X.w) X.A (compareOp op v u) (EP X pins σ Q) X.xe s₂) X.xe s₁) X.xe s
def tB (t:TE):TT:=fun σ H Q=>t σ H fun x H1=>∃ c,x=.bl c∧Q c H1
theorem pt_cmp {op:CmpOp} {t:TE} (h:PC X op a b t) (h1:behindInMarks op b=false:=by first | exact nobehind _ (by decide) (by decide) | rfl):PT X (.Compare a [op] [b] pos) (tB t):=by
 intro pins s σ H Q I hw
 refine wpAny_isTrue_Compare1 (thn (h pins s σ H _ I hw) fun v s1 h1=>thn h1 fun u s2 h2=>thn h2 fun c s3 ⟨x,H1,I1,r1,q1⟩=>?_) h1
 obtain ⟨d,rfl,q⟩:=q1
 cases r1
 exact wpAny_truthy_bool ⟨H1,I1,q⟩
variable {tA tB':TT} {rest:List Expr}
def tAnd (t u:TT):TT:=fun σ H Q=>t σ H fun c H1=>if c=true then u σ H1 Q else Q false H1
def tOr (t u:TT):TT:=fun σ H Q=>t σ H fun c H1=>if c=true then Q true H1 else u σ H1 Q
def tNot (t:TT):TT:=fun σ H Q=>t σ H fun c H1=>Q (!c) H1
theorem pw_and1 (ha:PT X a tA):PW X (.BoolOp .And [a] pos) tA:=by
 intro wh pins s σ H Q I h
 refine isTrue_and (thn (ha pins s σ H Q I h) fun c s1 e=>?_)
 cases c with
 | true=>exact isTrue_and_nil e
 | false=>exact e
theorem pw_or1 (ha:PT X a tA):PW X (.BoolOp .Or [a] pos) tA:=by
 intro wh pins s σ H Q I h
 refine isTrue_or (thn (ha pins s σ H Q I h) fun c s1 e=>?_)
 cases c with
 | false=>exact isTrue_or_nil e
 | true=>exact e
theorem pw_and (ha:PT X a tA) (hb:PW X (.BoolOp .And (b::rest) pos) tB'):PW X (.BoolOp .And (a::b::rest) pos) (tAnd tA tB'):=by
 intro wh pins s σ H Q I h
 refine isTrue_and (thn (ha pins s σ H _ I h) fun c s1 ⟨H1,I1,q1⟩=>?_)
 cases c with
 | true=>exact hb wh pins s1 σ H1 Q I1 q1
 | false=>exact ⟨H1,I1,q1⟩
theorem pw_or (ha:PT X a tA) (hb:PW X (.BoolOp .Or (b::rest) pos) tB'):PW X (.BoolOp .Or (a::b::rest) pos) (tOr tA tB'):=by
 intro wh pins s σ H Q I h
 refine isTrue_or (thn (ha pins s σ H _ I h) fun c s1 ⟨H1,I1,q1⟩=>?_)
 cases c with
 | true=>exact ⟨H1,I1,q1⟩
 | false=>exact hb wh pins s1 σ H1 Q I1 q1
theorem pt_not (ha:PT X a tA):PT X (.UnaryOp .Not a pos) (tNot tA):=by
 intro pins s σ H Q I h
 exact isTrue_not (ha pins s σ H (fun c H1=>Q (!c) H1) I h)
def tAndV (ta tb:TE):TE:=fun σ H Q=>ta σ H fun x H1=>∃ c,x=.bl c∧if c=true then tb σ H1 Q else Q (.bl false) H1
def tOrV (ta tb:TE):TE:=fun σ H Q=>ta σ H fun x H1=>∃ c,x=.bl c∧if c=true then Q (.bl true) H1 else tb σ H1 Q
def tNotV (ta:TE):TE:=fun σ H Q=>ta σ H fun x H1=>∃ c,x=.bl c∧Q (.bl (!c)) H1
theorem pe_one {op} {t:TE} (h:PE X a t):PE X (.BoolOp op [a] pos) t:=fun pins s σ H Q I hw=>BoolOp_one (h pins s σ H Q I hw)
theorem pe_and (ha:PE X a ta) (hb:PE X (.BoolOp .And (b::rest) pos) tb):PE X (.BoolOp .And (a::b::rest) pos) (tAndV ta tb):=by
 intro pins s σ H Q I h
 refine BoolOp_and (thn (ha pins s σ H _ I h) fun v s1 ⟨x,H1,I1,r1,q1⟩=>?_)
 obtain ⟨c,rfl,q1⟩:=q1
 cases r1
 refine wpAny_truthy_bool ?_
 cases c with
 | true=>exact hb pins s1 σ H1 Q I1 q1
 | false=>exact ⟨.bl false,H1,I1,rfl,q1⟩
theorem pe_or (ha:PE X a ta) (hb:PE X (.BoolOp .Or (b::rest) pos) tb):PE X (.BoolOp .Or (a::b::rest) pos) (tOrV ta tb):=by
 intro pins s σ H Q I h
 refine BoolOp_or (thn (ha pins s σ H _ I h) fun v s1 ⟨x,H1,I1,r1,q1⟩=>?_)
 obtain ⟨c,rfl,q1⟩:=q1
 cases r1
 refine wpAny_truthy_bool ?_
 cases c with
 | false=>exact hb pins s1 σ H1 Q I1 q1
 | true=>exact ⟨.bl true,H1,I1,rfl,q1⟩
theorem pe_not (ha:PE X a ta):PE X (.UnaryOp .Not a pos) (tNotV ta):=by
 intro pins s σ H Q I h
 refine UnaryOp_ (thn (ha pins s σ H _ I h) fun v s1 ⟨x,H1,I1,r1,q1⟩=>?_)
 obtain ⟨c,rfl,q1⟩:=q1
 cases r1
 exact not_of (wpAny_truthy_bool ⟨.bl (!c),H1,I1,rfl,q1⟩)
end
end L2
namespace L2
open PySem PySem.Spec PyProof.Rows
def SqL (K:PySem.W.Frag) (H:Hp) (a:Addr) (xs:List V):Prop :=
 Rd H a (.lst xs) ∨
  ∃ (o:Obj) (its:Array Value) (n:Nat),K.lookup a=some o∧o.cls=.type "list"∧o.dict=none∧o.data=.seq its n∧its.size≤sizeLine∧Vals xs its.toList
def SqT (K:PySem.W.Frag) (H:Hp) (a:Addr) (xs:List V):Prop :=
 Rd H a (.tup xs) ∨
  ∃ (o:Obj) (its:Array Value) (n:Nat),K.lookup a=some o∧o.cls=.type "tuple"∧o.data=.seq its n∧its.size≤sizeLine∧Vals xs its.toList
def absV:Value→Option V
 | .none=>some .non
 | .bool b=>some (.bl b)
 | .int i _=>some (.int i)
 | .str x _=>some (.str x)
 | .bytes b _=>some (.byt b)
 | .float b _=>some (.flt b)
 | .ref a=>some (.ref a)
 | .type n=>some (.ty n)
 | _=>none
theorem RelV.abs {x:V} {u:Value} (r:RelV x u):absV u=some x:=by
 cases x with
 | non=>cases r;rfl
 | bl _=>cases r;rfl
 | int _=>obtain ⟨t,rfl⟩:=r;rfl
 | str _=>obtain ⟨t,rfl⟩:=r;rfl
 | byt _=>obtain ⟨t,rfl⟩:=r;rfl
 | flt _=>obtain ⟨t,rfl⟩:=r;rfl
 | ref _=>cases r;rfl
 | ty _=>cases r;rfl
theorem RelV.inj {x y:V} {u:Value} (r:RelV x u) (q:RelV y u):x=y:=Option.some.inj (r.abs.symm.trans q.abs)
theorem Vals.inj:∀ {xs ys:List V} {us:List Value},Vals xs us→Vals ys us→xs=ys
 | _,_,_,.nil,.nil=>rfl
 | _,_,_,.cons r t,.cons r' t'=>by rw [r.inj r',Vals.inj t t']
section
variable {X:Cx} {pins:List (Addr × Obj)} {σ:St} {H:Hp} {s:Shared} {a:Addr} {xs ys:List V}
theorem SqL.of {K:PySem.W.Frag} (h:H a=some (.lst xs)):SqL K H a xs:=.inl (.inl h)
theorem SqT.of {K:PySem.W.Frag} (h:H a=some (.tup xs)):SqT K H a xs:=.inl (.inl h)
theorem Inv.list (I:Inv X pins σ H s) (h:SqL X.K H a xs):∃ its:List Value,Vals xs its∧PlainL s.heap a its.toArray∧xs.length≤sizeLine:=by
 rcases h with h | ⟨o,its,n,hk,hc,hd,hs,hz,r⟩
 ·obtain ⟨z,its,n,r,e⟩:=h.ok I.hok
  exact ⟨its,r,⟨_,n,e,rfl,rfl,rfl⟩,z⟩
 ·refine ⟨its.toList,r,⟨o,n,I.kIn a o hk,hc,hd,by simpa using hs⟩,?_⟩
  have e:=r.length
  simp only [Array.length_toList] at e
  omega
theorem Inv.tuple (I:Inv X pins σ H s) (h:SqT X.K H a xs):∃ its:List Value,Vals xs its∧IsTup s.heap a its.toArray∧xs.length≤sizeLine:=by
 rcases h with h | ⟨o,its,n,hk,hc,hs,hz,r⟩
 ·obtain ⟨z,its,r,p⟩:=h.ok I.hok
  exact ⟨its,r,p,z⟩
 ·refine ⟨its.toList,r,⟨o,I.kIn a o hk,hc,n,by simpa using hs⟩,?_⟩
  have e:=r.length
  simp only [Array.length_toList] at e
  omega
theorem Inv.list_inj (I:Inv X pins σ H s) (h:SqL X.K H a xs) (h':SqL X.K H a ys):xs=ys:=by
 obtain ⟨its,r,⟨o,n,e,_,_,d⟩,_⟩:=I.list h
 obtain ⟨its',r',⟨o',n',e',_,_,d'⟩,_⟩:=I.list h'
 rw [e] at e';cases e'
 rw [d] at d'
 injection d' with d1 _
 have:its=its':=by simpa using congrArg Array.toList d1
 subst this
 exact r.inj r'
theorem Inv.tuple_inj (I:Inv X pins σ H s) (h:SqT X.K H a xs) (h':SqT X.K H a ys):xs=ys:=by
 obtain ⟨its,r,⟨o,e,_,n,d⟩,_⟩:=I.tuple h
 obtain ⟨its',r',⟨o',e',_,n',d'⟩,_⟩:=I.tuple h'
 rw [e] at e';cases e'
 rw [d] at d'
 injection d' with d1 _
 have:its=its':=by simpa using congrArg Array.toList d1
 subst this
 exact r.inj r'
end
abbrev Cx.wish (X:Cx) (E:Value→Shared→Prop):Cx:={ X with xe:=E }
abbrev Cx.nox (X:Cx):Cx:=X.wish fun _ _=>False
theorem Cx.Ok.wish {X:Cx} (ok:X.Ok) (E:Value→Shared→Prop):(X.wish E).Ok :=
 ⟨ok.mod,ok.kind,ok.glob,ok.blt,ok.above,ok.inj,ok.has,ok.cab,ok.hd,ok.frames,ok.stk,ok.exf,ok.bs,ok.bsz,ok.noex,ok.exfs,ok.funs,ok.frf⟩
theorem Cx.Ok.unwish {X:Cx} {E:Value→Shared→Prop} (ok:(X.wish E).Ok):X.Ok :=
 ⟨ok.mod,ok.kind,ok.glob,ok.blt,ok.above,ok.inj,ok.has,ok.cab,ok.hd,ok.frames,ok.stk,ok.exf,ok.bs,ok.bsz,ok.noex,ok.exfs,ok.funs,ok.frf⟩
section
variable {X:Cx} {pins:List (Addr × Obj)} {σ:St} {H:Hp} {s:Shared} {E:Value→Shared→Prop}
theorem Inv.wish (I:Inv X pins σ H s) (E:Value→Shared→Prop):Inv (X.wish E) pins σ H s:=⟨I.ok.wish E,I.os,I.bare,I.base,I.loc,I.cell,I.free,I.freeC,I.pin,I.hok,I.len⟩
theorem Inv.unwish (I:Inv (X.wish E) pins σ H s):Inv X pins σ H s:=⟨I.ok.unwish,I.os,I.bare,I.base,I.loc,I.cell,I.free,I.freeC,I.pin,I.hok,I.len⟩
theorem SP.unwish {D:Ends} {f:Flow} {s':Shared} (h:SP (X.wish E) pins D f s'):SP X pins D f s':=by
 cases f with
 | next=>obtain ⟨σ',H',I,q⟩:=h;exact ⟨σ',H',I.unwish,q⟩
 | brk=>obtain ⟨σ',H',I,q⟩:=h;exact ⟨σ',H',I.unwish,q⟩
 | cont=>obtain ⟨σ',H',I,q⟩:=h;exact ⟨σ',H',I.unwish,q⟩
 | ret u=>obtain ⟨v,σ',H',I,r,q⟩:=h;exact ⟨v,σ',H',I.unwish,r,q⟩
theorem PSs.nox {st:List Stmt} {t:TS} (h:PSs X.nox st t):PSs X st t:=fun pins s σ H D I hw =>
 wpAny_mono (h pins s σ H D (I.wish _) hw) (fun _ _ q=>q.unwish) fun _ _ z=>False.elim z
end
section
variable {X:Cx} {st:Stmt} {rest:List Stmt} {t u:TS} {e:Expr} {te:TE} {pos:Pos}
def tNext:TS:=fun D σ H=>D.nx σ H
def tSeq (t u:TS):TS:=fun D σ H=>t { D with nx:=u D } σ H
theorem pss_nil:PSs X [] tNext:=fun _ _ σ H _ I h=>wpAny_execs_nil ⟨σ,H,I,h⟩
theorem pss_cons (h1:PS X st t) (h2:PSs X rest u):PSs X (st::rest) (tSeq t u):=by
 intro pins s σ H D I h
 refine wpAny_execs_cons (thn (h1 pins s σ H { D with nx:=u D } I h) fun f s1 q=>?_)
 cases f with
 | next =>
  obtain ⟨σ',H',I',q⟩:=q
  exact h2 pins s1 σ' H' D I' q
 | ret v=>exact q
 | brk=>exact q
 | cont=>exact q
theorem Inv.quiet {pins:List (Addr × Obj)} {σ:St} {H:Hp} {s:Shared} (I:Inv X pins σ H s):interactive X.env=false:=by simp [interactive,I.ok.kind]
def tDrop (te:TE):TS:=fun D σ H=>te σ H fun _ H1=>D.nx σ H1
theorem ps_expr (he:PE X e te) (hs:swapsWith e none pos.line X.env=pure false:=by rfl):PS X (.Expr e pos) (tDrop te):=by
 intro pins s σ H D I h
 exact wpAny_Expr_any (thn (he pins s σ H _ I h) fun v s1 ⟨x,H1,I1,r1,q1⟩=>⟨σ,H1,I1,q1⟩) I.quiet hs
def tRet (te:TE):TS:=fun D σ H=>te σ H D.rt
theorem ps_ret (he:PE X e te):PS X (.Return (some e) pos) (tRet te):=by
 intro pins s σ H D I h
 exact wpAny_Return_some (thn (he pins s σ H _ I h) fun v s1 ⟨x,H1,I1,r1,q1⟩=>⟨x,σ,H1,I1,r1,q1⟩)
def tIfS (c:TT) (t u:TS):TS:=fun D σ H=>c σ H fun b H1=>if b=true then t D σ H1 else u D σ H1
theorem ps_if {c:Expr} {a b:List Stmt} {tc:TT} (hc:PT X c tc) (ha:PSs X a t) (hb:PSs X b u):PS X (.If c a b pos) (tIfS tc t u):=by
 intro pins s σ H D I h
 refine wpAny_If (thn (hc pins s σ H _ I h) fun d s1 ⟨H1,I1,q1⟩=>?_)
 cases d with
 | true=>exact ha pins s1 σ H1 D I1 q1
 | false=>exact hb pins s1 σ H1 D I1 q1
end
abbrev TG:=V→St→Hp→(St→Hp→Prop)→Prop
abbrev TGs:=List V→St→Hp→(St→Hp→Prop)→Prop
def PG (X:Cx) (target:Expr) (t:TG):Prop :=
 ∀ (pins:List (Addr × Obj)) (s:Shared) (σ:St) (H:Hp) (v:V) (u:Value) (Q:St→Hp→Prop),Inv X pins σ H s→RelV v u→t v σ H Q →
  wpAny (model X.prog X.w) X.A (assign target X.env u) (fun _ s'=>∃ σ' H',Inv X pins σ' H' s'∧Q σ' H') X.xe s
def PGs (X:Cx) (ts:List Expr) (t:TGs):Prop :=
 ∀ (pins:List (Addr × Obj)) (s:Shared) (σ:St) (H:Hp) (vs:List V) (us:List Value) (Q:St→Hp→Prop),Inv X pins σ H s→Vals vs us→t vs σ H Q →
  wpAny (model X.prog X.w) X.A (assignInOrder ((assignEach ts X.env).map (·.2)) us) (fun _ s'=>∃ σ' H',Inv X pins σ' H' s'∧Q σ' H') X.xe s
section
variable {X:Cx} {pos:Pos}
def gName (i:Nat):TG:=fun v σ H Q=>Q (σ.set i (some v)) H
theorem pg_name {i:Nat} {x:Str} (hN:X.N.Nodup) (hi:X.N[i]?=some x) (hx:Loc X.env.scope x) (hf:X.fn x=true∨X.env.scope.names.lookup x=some .local:=by first | exact .inl rfl | exact .inr rfl | assumption):PG X (.Name x pos) (gName i):=by
 intro pins s σ H v u Q I r h
 exact wpAny_assign_Name (store_ok I hN hi hx r (fun s' I'=>⟨_,H,I',h⟩) hf)
def gNil:TGs:=fun vs σ H Q=>vs=[]∧Q σ H
def gCons (t:TG) (u:TGs):TGs:=fun vs σ H Q=>∃ v r,vs=v::r∧t v σ H fun σ' H'=>u r σ' H' Q
theorem pgs_nil:PGs X [] gNil:=by
 intro pins s σ H vs us Q I r h
 obtain ⟨e,h⟩:=h
 subst e
 cases r
 exact assignInOrder_nil ⟨σ,H,I,h⟩
theorem pgs_cons {e:Expr} {es:List Expr} {t:TG} {u:TGs} (h1:PG X e t) (h2:PGs X es u)
  (hs:(assignEach (e::es) X.env).map (·.2)=assign e X.env::(assignEach es X.env).map (·.2):=by rfl):PGs X (e::es) (gCons t u):=by
 intro pins s σ H vs us Q I r h
 obtain ⟨v,vr,e1,h⟩:=h
 subst e1
 cases r with
 | cons r rr =>
  rw [hs]
  refine assignInOrder_cons (thn (h1 pins s σ H _ _ _ I r h) fun _ s1 ⟨σ1,H1,I1,q1⟩=>?_)
  exact h2 pins s1 σ1 H1 _ _ Q I1 rr q1
def gTup (K:PySem.W.Frag) (n:Nat) (t:TGs):TG:=fun v σ H Q=>∃ a xs,v=.ref a∧SqT K H a xs∧xs.length=n∧t xs σ H Q
theorem pg_tup {es:List Expr} {k:Nat} {t:TGs} {n:Nat} (hc:X.calm=true) (h:PGs X es t)
  (hn:(assignEach es X.env).length=n:=by rfl) (hst:(assignEach es X.env).findIdx? (·.1)=none:=by rfl):PG X (.Tuple es k pos) (gTup X.K n t):=by
 intro pins s σ H v u Q I r hw
 obtain ⟨a,xs,e1,hq,hl,hw⟩:=hw
 subst e1
 cases r
 obtain ⟨its,rv,ht,hz⟩:=I.tuple hq
 refine assign_Tuple_tuple (I.ok.hd hc) ht (by simp [hn,← hl,rv.length]) hst fun h' hx=>?_
 have I1:Inv X pins σ H { s with heap:=h' }:=I.kept (t':=s.toks) fun b o e=>hx b o (Nat.ne_of_lt (Heap.lt_size e)) e
 exact h pins _ σ H xs _ Q I1 (by simpa using rv) hw
def tAsg (te:TE) (g:TG):TS:=fun D σ H=>te σ H fun x H1=>g x σ H1 D.nx
theorem ps_set {i:Nat} {x:Str} {e:Expr} {te:TE} {pos':Pos} (hN:X.N.Nodup) (hi:X.N[i]?=some x) (hx:Loc X.env.scope x) (he:PE X e te) (hs:swapsWith e (some (.Name x pos')) pos.line X.env=pure false:=by rfl) (hf:X.fn x=true∨X.env.scope.names.lookup x=some .local:=by first | exact .inl rfl | exact .inr rfl | assumption) :
  PS X (.Assign [.Name x pos'] e pos) (tAsg te (gName i)):=by
 intro pins s σ H D I h
 refine wpAny_Assign_Name (thn (he pins s σ H _ I h) fun v s1 ⟨y,H1,I1,r1,q1⟩=>?_) hs
 exact store_ok I1 hN hi hx r1 (fun s2 I2=>⟨_,H1,I2,q1⟩) hf
end
section
variable {X:Cx} {pos:Pos}
def tWhile (c:TT) (tb:TS):TS:=fun D σ H=>∃ W:Nat→St→Hp→Prop,(∃ m,W m σ H)∧∀ m σ H,W m σ H →
 c σ H fun b H1=>if b=true then ∃ N:St→Hp→Prop,(∀ σ' H',N σ' H'→∃ m',m'<m∧W m' σ' H')∧tb { D with nx:=N,ct:=N,bk:=D.nx } σ H1 else D.nx σ H1
theorem ps_while {c:Expr} {body:List Stmt} {tc:TT} {tb:TS} (hp:PassesOwn (model X.prog X.w) X.A X.env X.xe) (hc:PT X c tc) (hb:PSs X body tb):PS X (.While c body [] pos) (tWhile tc tb):=by
 intro pins s σ H D I h
 obtain ⟨W,⟨m0,w0⟩,turn⟩:=h
 refine wpAny_While (codeAny_whileLoop (fun n s'=>∃ σ' H',Inv X pins σ' H' s'∧W n σ' H') ?_ m0 ⟨σ,H,I,w0⟩)
 rintro n s1 ⟨σ1,H1,I1,w1⟩
 refine wpAny_passesOwn hp (thn (hc pins s1 σ1 H1 _ I1 (turn n σ1 H1 w1)) fun b s2 ⟨H2,I2,q2⟩=>?_)
 cases b with
 | true =>
  obtain ⟨N,hN,q2⟩:=q2
  rw [if_pos rfl]
  refine wpAny_passesOwn hp (thn (hb pins s2 σ1 H2 _ I2 q2) fun f s3 q3=>?_)
  cases f with
  | next =>
   obtain ⟨σ3,H3,I3,n3⟩:=q3
   obtain ⟨m',hm,w3⟩:=hN σ3 H3 n3
   exact ⟨m',hm,σ3,H3,I3,w3⟩
  | cont =>
   obtain ⟨σ3,H3,I3,n3⟩:=q3
   obtain ⟨m',hm,w3⟩:=hN σ3 H3 n3
   exact ⟨m',hm,σ3,H3,I3,w3⟩
  | brk=>exact q3
  | ret v=>exact q3
 | false =>
  rw [if_neg Bool.false_ne_true]
  exact wpAny_execs_nil ⟨σ1,H2,I2,q2⟩
end
structure It where
 go:Nat→Hp→Prop
 yld:Nat→Hp→V→Hp→Prop
 stop:Nat→Hp→Prop
def FpOk (X:Cx) (pins:List (Addr × Obj)) (H:Hp) (b:Addr):Prop :=
 H b=none∧b≠X.env.locals∧b∉X.fs∧(b∈X.ex∨X.s₀.heap.objs.size≤b)∧(∀ x c,X.env.cells.lookup x=some c→c≠b)∧∀ p∈X.pn++pins,p.1≠b
theorem Inv.fpOk {X:Cx} {pins:List (Addr × Obj)} {σ:St} {H H':Hp} {s:Shared} {b:Addr} (I:Inv X pins σ H s) (hb:s.heap.objs.size≤b) (hn:H' b=none):FpOk X pins H' b:=by
 refine ⟨hn,Nat.ne_of_gt (Nat.lt_of_lt_of_le I.lt hb),I.nofs hb,.inr (Nat.le_trans I.sz hb),fun x c e z=>?_,fun p hp z=>?_⟩
 ·obtain ⟨v,q⟩:=I.cell x c e
  exact absurd (Nat.lt_of_lt_of_le q.lt (by rw [z];exact hb)) (Nat.lt_irrefl _)
 ·exact absurd (Nat.lt_of_lt_of_le (Heap.lt_size (I.pin p hp).1) (by rw [z];exact hb)) (Nat.lt_irrefl _)
structure Turn (P:Program) (w:World) (K:PySem.W.Frag) (tg:Expr) (J:It) (fp:List Addr) (it:Addr) (tn:Nat→Heap→Prop):Prop where
 mem:it∈fp
 obj:∀ i h,tn i h→∀ b∈fp,∃ o,h.get? b=some o∧∀ v,o.data≠.cell v
 keep:∀ i h h',tn i h→(∀ b∈fp,∀ o,h.get? b=some o→h'.get? b=some o)→tn i h'
 item:∀ (X:Cx),X.prog=P→X.w=w→X.K=K→X.calm=true→∀ (i:Nat) (pins:List (Addr × Obj)) (s:Shared) (σ:St) (H:Hp) (E:Value→Shared→Prop),Inv X pins σ H s→(∀ b∈fp,FpOk X pins H b)→tn i s.heap→J.go i H →
  wpAny (model P w) X.A (pyNext (.ref it)) (fun r s1=>∃ u,r=some u ∧
   wpAny (model P w) X.A (letOwnedTupleGo tg (.ref it) u) (fun _ s2=>∃ x H',Inv X pins σ H' s2∧RelV x u∧J.yld i H x H'∧tn (i+1) s2.heap∧∀ b∈fp,H' b=none) E s1) E s
 done:∀ (X:Cx),X.prog=P→X.w=w→X.K=K→X.calm=true→∀ (i:Nat) (pins:List (Addr × Obj)) (s:Shared) (σ:St) (H:Hp) (E:Value→Shared→Prop),Inv X pins σ H s→(∀ b∈fp,FpOk X pins H b)→tn i s.heap→J.stop i H →
  wpAny (model P w) X.A (pyNext (.ref it)) (fun r s1=>r=none∧Inv X pins σ H s1) E s
 self:∀ (A:Around) (i:Nat) (s:Shared) (Q:Value→Shared→Prop) (E:Value→Shared→Prop),tn i s.heap→Q (.ref it) s→wpAny (model P w) A (pyIter (.ref it)) Q E s
abbrev TI:=St→Hp→(It→Hp→Prop)→Prop
def PIE (X:Cx) (pins:List (Addr × Obj)) (σ:St) (tg:Expr) (R:It→Hp→Prop) (itv:Value) (s2:Shared):Prop :=
 ∃ (it:Addr) (fp:List Addr) (tn:Nat→Heap→Prop) (J:It) (H':Hp),itv=.ref it∧Inv X pins σ H' s2∧Turn X.prog X.w X.K tg J fp it tn∧tn 0 s2.heap∧(∀ b∈fp,FpOk X pins H' b)∧R J H'
def PI (X:Cx) (tg iter:Expr) (wi:TI):Prop :=
 ∀ (pins:List (Addr × Obj)) (s:Shared) (σ:St) (H:Hp) (R:It→Hp→Prop),Inv X pins σ H s→wi σ H R →
  wpAny (model X.prog X.w) X.A (eval iter X.env) (fun v s1=>wpAny (model X.prog X.w) X.A (pyIter v) (PIE X pins σ tg R) X.xe s1) X.xe s
theorem go_of {M:Model} {A:Around} {E:Value→Shared→Prop} {s:Shared} {tg:Expr} {it:Addr} {u:Value} {o:Obj} {n:String} {vs:Array Value} {Q:Unit→Shared→Prop} (ho:s.heap.get? it=some o) (hc:o.cls=.type n) (hd:o.data=.fields vs)
  (hn:["enumerate", "zip", "dict_itemiterator", "dict_reverseitemiterator", "odict_iterator", "itertools.zip_longest", "itertools.pairwise"].contains n=false) (hQ:Q () s):wpAny M A (letOwnedTupleGo tg (.ref it) u) Q E s:=by
 unfold letOwnedTupleGo
 cases tg<;>first
  | exact wpAny_pure hQ
  | (cases u<;>first
    | exact wpAny_pure hQ
    | (refine wpAny_bind (wpAny_load ho ?_)
       rw [hc,hd]
       show wpAny M A (if (["enumerate", "zip", "dict_itemiterator", "dict_reverseitemiterator", "odict_iterator", "itertools.zip_longest", "itertools.pairwise"].contains n&&vs[0]?==some (rawInt _))=true then _ else _) Q E s
       rw [if_neg (by intro h;rw [hn,Bool.false_and] at h;cases h)]
       exact wpAny_pure hQ))
def Itl (K:PySem.W.Frag) (a:Addr):It :=
 ⟨fun i H=>∃ xs x,SqL K H a xs∧xs[i]?=some x,fun i H x H'=>H'=H∧∀ xs,SqL K H a xs→xs[i]?=some x,fun i H=>∃ xs,SqL K H a xs∧xs.length≤i⟩
def Itt (K:PySem.W.Frag) (a:Addr):It :=
 ⟨fun i H=>∃ xs x,SqT K H a xs∧xs[i]?=some x,fun i H x H'=>H'=H∧∀ xs,SqT K H a xs→xs[i]?=some x,fun i H=>∃ xs,SqT K H a xs∧xs.length≤i⟩
def Itr (lo:Int) (n:Nat):It:=⟨fun i _=>i<n,fun i H x H'=>H'=H∧x=.int (lo+i),fun i _=>n≤i⟩
theorem turn_list {P:Program} {w:World} {K:PySem.W.Frag} {tg:Expr} (a it:Addr):Turn P w K tg (Itl K a) [it] it (fun i h=>h.IsListIter it a i) where
 mem:=by simp
 obj:=fun i h st b hb=>by
  have e:b=it:=by simpa using hb
  subst e
  obtain ⟨o,e,c,d⟩:=st
  exact ⟨o,e,fun v z=>by rw [d] at z;cases z⟩
 keep:=fun i h h' st k=>st.at fun o e=>k it (by simp) o e
 item:=by
  intro X hP hw hK hc i pins s σ H E I hf st hg
  subst hP hw hK
  obtain ⟨xs,x,hq,hx⟩:=hg
  obtain ⟨its,rv,p,hz⟩:=I.list hq
  obtain ⟨u,hu,ru⟩:=rv.get hx
  obtain ⟨f0,f1,f2,f3,f4,f5⟩:=hf it (by simp)
  refine wpAny_pyNext_list_item st p.isList (x:=u) (by simpa using hu) fun h' st' sb=>?_
  have I1:Inv X pins σ H { s with heap:=h' }:=I.turned (t':=s.toks) (fun b o hb e=>(sb.2 b hb).trans e) f0 f1 f3 f4 f5
  obtain ⟨o,e,c,d⟩:=id st'
  exact ⟨u,rfl,go_of (s:={ s with heap:=h' }) e c d (by decide) ⟨x,H,I1,ru,⟨rfl,fun ys hy=>by rw [I.list_inj hy hq];exact hx⟩,st',fun b hb=>(hf b hb).1⟩⟩
 done:=by
  intro X hP hw hK hc i pins s σ H E I hf st hg
  subst hP hw hK
  obtain ⟨xs,hq,hx⟩:=hg
  obtain ⟨its,rv,p,hz⟩:=I.list hq
  obtain ⟨f0,f1,f2,f3,f4,f5⟩:=hf it (by simp)
  have hl:=rv.length
  exact wpAny_pyNext_list_end (I.ok.hd hc) st p.isList (by simp;omega) fun h' eb=>⟨rfl,I.turned (t':=s.toks) (fun b o hb e=>eb b o hb e) f0 f1 f3 f4 f5⟩
 self:=fun _ _ _ _ _ st h=>wpAny_pyIter_listiter st h
theorem turn_tuple {P:Program} {w:World} {K:PySem.W.Frag} {tg:Expr} (a it:Addr):Turn P w K tg (Itt K a) [it] it (fun i h=>h.IsTupleIter it a i) where
 mem:=by simp
 obj:=fun i h st b hb=>by
  have e:b=it:=by simpa using hb
  subst e
  obtain ⟨o,e,c,d⟩:=st
  exact ⟨o,e,fun v z=>by rw [d] at z;cases z⟩
 keep:=fun i h h' st k=>st.at fun o e=>k it (by simp) o e
 item:=by
  intro X hP hw hK hc i pins s σ H E I hf st hg
  subst hP hw hK
  obtain ⟨xs,x,hq,hx⟩:=hg
  obtain ⟨its,rv,p,hz⟩:=I.tuple hq
  obtain ⟨u,hu,ru⟩:=rv.get hx
  obtain ⟨f0,f1,f2,f3,f4,f5⟩:=hf it (by simp)
  refine wpAny_pyNext_tuple_item st (show s.heap.IsTuple a its.toArray from p) (x:=u) (by simpa using hu) fun h' st' sb=>?_
  have I1:Inv X pins σ H { s with heap:=h' }:=I.turned (t':=s.toks) (fun b o hb e=>(sb.2 b hb).trans e) f0 f1 f3 f4 f5
  obtain ⟨o,e,c,d⟩:=id st'
  exact ⟨u,rfl,go_of (s:={ s with heap:=h' }) e c d (by decide) ⟨x,H,I1,ru,⟨rfl,fun ys hy=>by rw [I.tuple_inj hy hq];exact hx⟩,st',fun b hb=>(hf b hb).1⟩⟩
 done:=by
  intro X hP hw hK hc i pins s σ H E I hf st hg
  subst hP hw hK
  obtain ⟨xs,hq,hx⟩:=hg
  obtain ⟨its,rv,p,hz⟩:=I.tuple hq
  obtain ⟨f0,f1,f2,f3,f4,f5⟩:=hf it (by simp)
  have hl:=rv.length
  exact wpAny_pyNext_tuple_end (I.ok.hd hc) st (show s.heap.IsTuple a its.toArray from p) (by simp;omega) fun h' eb=>⟨rfl,I.turned (t':=s.toks) (fun b o hb e=>eb b o hb e) f0 f1 f3 f4 f5⟩
 self:=fun _ _ _ _ _ st h=>wpAny_pyIter_tupleiter st h
theorem turn_range {P:Program} {w:World} {K:PySem.W.Frag} {tg:Expr} (it:Addr) (lo:Int) (n:Nat):Turn P w K tg (Itr lo n) [it] it (fun i h=>IsRangeIter h it (lo+(i:Nat)*1) ((n:Int)-(i:Nat)) 1) where
 mem:=by simp
 obj:=fun i h st b hb=>by
  have e:b=it:=by simpa using hb
  subst e
  exact ⟨_,st,fun v z=>by
   have z':Data.fields _=Data.cell v:=z
   cases z'⟩
 keep:=fun i h h' st k=>k it (by simp) _ st
 item:=by
  intro X hP hw hK hc i pins s σ H E I hf st hg
  subst hP hw hK
  obtain ⟨f0,f1,f2,f3,f4,f5⟩:=hf it (by simp)
  have W:=Walks.range (prog:=X.prog) (w:=X.w) (I.ok.hd hc) it lo 1 n
  refine W.item i s _ _ hg st fun v h' tk hv st' kk=>?_
  obtain ⟨t,rfl⟩:=hv
  have I1:Inv X pins σ H { s with heap:=h',toks:=tk }:=I.turned (fun b o hb e=>kk b o (by simpa using hb) e) f0 f1 f3 f4 f5
  refine ⟨_,rfl,go_of (s:={ s with heap:=h',toks:=tk }) (n:="range_iterator") st' rfl rfl (by decide) ⟨.int (lo+i),H,I1,⟨t,?_⟩,⟨rfl,rfl⟩,st',fun b hb=>(hf b hb).1⟩⟩
  rw [Int.mul_one]
 done:=by
  intro X hP hw hK hc i pins s σ H E I hf st hg
  subst hP hw hK
  obtain ⟨f0,f1,f2,f3,f4,f5⟩:=hf it (by simp)
  exact wpAny_pyNext_range_end (I.ok.hd hc) st (by have:n≤i:=hg;omega) fun h' eb=>⟨rfl,I.turned (t':=s.toks) (fun b o hb e=>eb b o hb e) f0 f1 f3 f4 f5⟩
 self:=fun _ _ _ _ _ st h=>wpAny_pyIter_rangeiter st h
end L2
namespace L2
open PySem PySem.Spec PyProof.Rows
section
variable {X:Cx} {tg:Expr}
theorem range_it {pins:List (Addr × Obj)} {σ:St} {H:Hp} {s:Shared} {R:It→Hp→Prop} {E:Value→Shared→Prop} {lo hi:Int} {t u v:Tok} {tk:Nat} (I:Inv X pins σ H s) (h1 : -(2 ^ 62)≤lo) (h2:lo<2 ^ 62) (h3 : -(2 ^ 62)≤hi) (h4:hi<2 ^ 62)
  (q:R (Itr lo (hi-lo).toNat) H):wpAny (model X.prog X.w) X.A (pyIter (.ref s.heap.objs.size)) (PIE X pins σ tg R) E { s with heap:=s.heap.push { cls:=.type "range",data:=.fields #[.int lo t,.int hi u,.int 1 v] },toks:=tk }:=by
 refine wpAny_pyIter_range (IsRange.new ..) (small_one h1 h2 h3 h4) ?_
 have I1:Inv X pins σ H { s with heap:=s.heap.push { cls:=.type "range",data:=.fields #[.int lo t,.int hi u,.int 1 v] },toks:=tk }:=I.kept fun b o e=>Heap.get?_push_of_some _ e
 refine ⟨(s.heap.push { cls:=.type "range",data:=.fields #[.int lo t,.int hi u,.int 1 v] }).objs.size,[(s.heap.push { cls:=.type "range",data:=.fields #[.int lo t,.int hi u,.int 1 v] }).objs.size],_,_,H,rfl,
  I1.kept (t':=tk) fun b o e=>Heap.get?_push_of_some _ e,turn_range _ lo (hi-lo).toNat,?_,fun b hb=>?_,q⟩
 ·have e1:lo+((0:Nat):Int)*1=lo:=by simp
  have e2:(((hi-lo).toNat:Nat):Int)-((0:Nat):Int)=Builtin.Range.rangeSize lo hi 1:=by rw [rangeSize_one];split<;>omega
  show IsRangeIter _ _ (lo+((0:Nat):Int)*1) ((((hi-lo).toNat:Nat):Int)-((0:Nat):Int)) 1
  rw [e1,e2]
  exact Heap.get?_push_size _ rfl
 ·have e:b=(s.heap.push { cls:=.type "range",data:=.fields #[.int lo t,.int hi u,.int 1 v] }).objs.size:=by simpa using hb
  subst e
  exact I1.fpOk (Nat.le_refl _) (I1.hok.fresh (Nat.le_refl _))
def iRng1 (ta:TA):TI:=fun σ H R=>ta σ H fun vs H1=>∃ j:Int,vs=[.int j] ∧ -(2 ^ 62)≤j∧j<2 ^ 62∧R (Itr 0 j.toNat) H1
theorem pi_range1 {a:Expr} {ta:TA} {p pos:Pos} (hg:Gl X "range") (hm:X.mg "range"=none) (ha:PA X [a] ta) (hs:starEach [a] X.env=[(false,eval a X.env)]:=by rfl):PI X tg (.Call (.Name "range" p) [a] [] pos) (iRng1 ta):=by
 intro pins s σ H R I h
 refine Call_ (ld_blt I hg hm boot_range (PyProof.Rows.callWith_type1 (thn (ha pos pins s σ H _ I h) fun us s1 ⟨vs,H1,I1,r1,q1⟩=>?_) hs rfl))
 obtain ⟨j,e,q1,q2,q⟩:=q1
 subst e
 cases r1 with
 | cons r rr =>
  cases rr
  obtain ⟨t,rfl⟩:=r
  exact call_range_1 (range_it I1 (by omega) (by omega) q1 q2 (by simpa using q))
def tFor (wi:TI) (g:TG) (tb:TS):TS:=fun D σ H=>wi σ H fun J H1=>∃ W:Nat→Nat→St→Hp→Prop,(∃ m,W 0 m σ H1)∧∀ i m σ H,W i m σ H →
 (J.stop i H∧D.nx σ H)∨(J.go i H∧∃ N:St→Hp→Prop,(∀ σ' H',N σ' H'→∃ m',m'<m∧W (i+1) m' σ' H')∧∀ x H',J.yld i H x H'→g x σ H' fun σ2 H2=>tb { D with nx:=N,ct:=N,bk:=D.nx } σ2 H2)
def pinsAt (fp:List Addr) (h:Heap):List (Addr × Obj):=fp.filterMap fun b=>(h.get? b).map fun o=>(b,o)
theorem mem_pinsAt {fp:List Addr} {h:Heap} {b:Addr} {o:Obj} (hb:b∈fp) (e:h.get? b=some o):(b,o)∈pinsAt fp h:=List.mem_filterMap.mpr ⟨b,hb,by rw [e];rfl⟩
theorem of_pinsAt {fp:List Addr} {h:Heap} {p:Addr × Obj} (hp:p∈pinsAt fp h):p.1∈fp∧h.get? p.1=some p.2:=by
 obtain ⟨b,hb,e⟩:=List.mem_filterMap.mp hp
 cases q:h.get? b with
 | none=>rw [q] at e;cases e
 | some o =>
  rw [q] at e
  have e':(b,o)=p:=Option.some.inj e
  subst e'
  exact ⟨hb,q⟩
theorem Inv.pinned {pins:List (Addr × Obj)} {σ:St} {H:Hp} {s:Shared} {fp:List Addr} (I:Inv X pins σ H s) (hf:∀ b∈fp,FpOk X pins H b) (ho:∀ b∈fp,∃ o,s.heap.get? b=some o∧∀ v,o.data≠.cell v):Inv X (pins++pinsAt fp s.heap) σ H s :=
 I.pins_of fun p hp=>(oma hp).elim (fun z=>I.pin p (List.mem_append_right _ z)) fun z=>by
  obtain ⟨hb,e⟩:=of_pinsAt z
  obtain ⟨f0,f1,f2,_⟩:=hf p.1 hb
  obtain ⟨o,e',d⟩:=ho p.1 hb
  rw [e] at e';cases e'
  exact ⟨e,f0,f1,f2,d⟩
theorem Inv.unpinned {pins pl:List (Addr × Obj)} {σ:St} {H:Hp} {s:Shared} (I:Inv X (pins++pl) σ H s):Inv X pins σ H s:=I.pins_of fun p hp=>I.pin p (List.mem_append_right _ (List.mem_append_left _ hp))
theorem ps_for {iter:Expr} {body:List Stmt} {wi:TI} {g:TG} {tb:TS} {pos:Pos} (hp:PassesOwn (model X.prog X.w) X.A X.env X.xe) (hc:X.calm=true) (hi:PI X tg iter wi) (hg:PG X tg g) (hb:PSs X body tb)
  (hs:∀ x,foldedSetIterable iter X.env x=pure x:=by intro _;rfl):PS X (.For tg iter body [] pos) (tFor wi g tb):=by
 intro pins s σ H D I h
 refine wpAny_For (thn (hi pins s σ H _ I h) fun v s1 h1=>thn h1 fun itv s2 h2=>?_) hs
 obtain ⟨it,fp,tn,J,H2,e,I2,T,st2,f2,W,⟨m0,w0⟩,turn⟩:=h2
 subst e
 have stat:∀ {H':Hp},(∀ b∈fp,H' b=none)→∀ b∈fp,FpOk X pins H' b:=fun hn b hb=>⟨hn b hb,(f2 b hb).2⟩
 refine codeAny_forLoop_any (fun n s'=>∃ i σ' H',Inv X pins σ' H' s'∧tn i s'.heap∧(∀ b∈fp,H' b=none)∧W i n σ' H') ?_ m0 ⟨0,σ,H2,I2,st2,fun b hb=>(f2 b hb).1,w0⟩
 rintro n s3 ⟨i,σ3,H3,I3,st3,fr3,w3⟩
 rcases turn i n σ3 H3 w3 with ⟨stop,qn⟩ | ⟨go,N,hN,step⟩
 ·refine wpAny_passesOwn hp (thn (T.done X rfl rfl rfl hc i pins s3 σ3 H3 X.xe I3 (stat fr3) st3 stop) fun r s4 ⟨hr,I4⟩=>?_)
  subst hr
  exact wpAny_execs_nil ⟨σ3,H3,I4,qn⟩
 ·refine wpAny_passesOwn hp (thn (T.item X rfl rfl rfl hc i pins s3 σ3 H3 X.xe I3 (stat fr3) st3 go) fun r s4 ⟨u,hr,h4⟩=>?_)
  subst hr
  refine wpAny_passesOwn hp (thn h4 fun _ s5 ⟨x,H5,I5,r5,y5,st5,fr5⟩=>?_)
  have I5':=I5.pinned (stat fr5) (T.obj _ _ st5)
  refine wpAny_passesOwn hp (thn (hg _ s5 σ3 H5 x u _ I5' r5 (step x H5 y5)) fun _ s6 ⟨σ6,H6,I6,q6⟩=>?_)
  refine wpAny_passesOwn hp (thn (hb _ s6 σ6 H6 _ I6 q6) fun f s7 q7=>?_)
  have again:∀ {σ7:St} {H7:Hp},Inv X (pins++pinsAt fp s5.heap) σ7 H7 s7→N σ7 H7→∃ m,m<n∧∃ i σ' H',Inv X pins σ' H' s7∧tn i s7.heap∧(∀ b∈fp,H' b=none)∧W i m σ' H':=fun {σ7 H7} I7 n7=>by
   obtain ⟨m',hm,w7⟩:=hN σ7 H7 n7
   refine ⟨m',hm,i+1,σ7,H7,I7.unpinned,T.keep _ _ _ st5 fun b hb o e=>(I7.pin (b,o) (List.mem_append_right _ (List.mem_append_right _ (mem_pinsAt hb e)))).1,fun b hb=>?_,w7⟩
   obtain ⟨o,e,d⟩:=T.obj _ _ st5 b hb
   exact (I7.pin (b,o) (List.mem_append_right _ (List.mem_append_right _ (mem_pinsAt hb e)))).2.1
  cases f with
  | next=>obtain ⟨σ7,H7,I7,n7⟩:=q7;exact again I7 n7
  | cont=>obtain ⟨σ7,H7,I7,n7⟩:=q7;exact again I7 n7
  | brk=>obtain ⟨σ7,H7,I7,q7⟩:=q7;exact ⟨σ7,H7,I7.unpinned,q7⟩
  | ret v=>obtain ⟨x7,σ7,H7,I7,r7,q7⟩:=q7;exact ⟨x7,σ7,H7,I7.unpinned,r7,q7⟩
end
end L2
namespace L2
open PySem PySem.Spec PyProof.Rows
abbrev R2:=V→V→Hp→VK→Prop
def OpR (X:Cx) (f:Value→Value→Sem Value) (r:R2):Prop :=
 ∀ (pins:List (Addr × Obj)) (s:Shared) (σ:St) (H:Hp) (x y:V) (v u:Value) (Q:VK),Inv X pins σ H s→RelV x v→RelV y u→r x y H Q →
  wpAny (model X.prog X.w) X.A (f v u) (EP X pins σ Q) X.xe s
def UnR (X:Cx) (f:Value→Sem Value) (r:V→Hp→VK→Prop):Prop :=
 ∀ (pins:List (Addr × Obj)) (s:Shared) (σ:St) (H:Hp) (x:V) (v:Value) (Q:VK),Inv X pins σ H s→RelV x v→r x H Q →
  wpAny (model X.prog X.w) X.A (f v) (EP X pins σ Q) X.xe s
def CallR (X:Cx) (f:Value) (r:List V→Hp→VK→Prop):Prop :=
 ∀ (pins:List (Addr × Obj)) (s:Shared) (σ:St) (H:Hp) (xs:List V) (us:List Value) (Q:VK),Inv X pins σ H s→Vals xs us→r xs H Q →
  wpAny (model X.prog X.w) X.A (call f us) (EP X pins σ Q) X.xe s
def TruR (X:Cx) (r:V→Hp→(Bool→Hp→Prop)→Prop):Prop :=
 ∀ (pins:List (Addr × Obj)) (s:Shared) (σ:St) (H:Hp) (x:V) (v:Value) (Q:Bool→Hp→Prop),Inv X pins σ H s→RelV x v→r x H Q →
  wpAny (model X.prog X.w) X.A (truthy v) (TP X pins σ Q) X.xe s
def tOp (r:R2) (ta tb:TE):TE:=fun σ H Q=>ta σ H fun x H1=>tb σ H1 fun y H2=>r x y H2 Q
def tUn (r:V→Hp→VK→Prop) (ta:TE):TE:=fun σ H Q=>ta σ H fun x H1=>r x H1 Q
def rI (C:Int→Int→Prop) (g:Int→Int→V):R2:=fun x y H Q=>∃ i j,x=.int i∧y=.int j∧C i j∧Q (g i j) H
def rI0 (g:Int→Int→V):R2:=fun x y H Q=>∃ i j,x=.int i∧y=.int j∧Q (g i j) H
def rU (g:Int→V):V→Hp→VK→Prop:=fun x H Q=>∃ i,x=.int i∧Q (g i) H
section
variable {X:Cx} {a b c:Expr} {ta tb tc:TE} {pos:Pos}
theorem binT (ha:PE X a ta) (hb:PE X b tb) {pins:List (Addr × Obj)} {s:Shared} {σ:St} {H:Hp} {R:V→V→Hp→Prop} (I:Inv X pins σ H s)
  (h:ta σ H fun x H1=>tb σ H1 fun y H2=>R x y H2) {Q:Value→Shared→Prop} {f:Value→Value→Sem Value}
  (hf:∀ v u s2 x y H2,Inv X pins σ H2 s2→RelV x v→RelV y u→R x y H2→wpAny (model X.prog X.w) X.A (f v u) Q X.xe s2) :
  wpAny (model X.prog X.w) X.A (eval a X.env) (fun v s₁=>wpAny (model X.prog X.w) X.A (eval b X.env) (fun u s₂=>wpAny (model X.prog X.w) X.A (f v u) Q X.xe s₂) X.xe s₁) X.xe s:=by
 refine thn (ha pins s σ H _ I h) fun v s1 ⟨x,H1,I1,r1,q1⟩=>?_
 refine thn (hb pins s1 σ H1 _ I1 q1) fun u s2 ⟨y,H2,I2,r2,q2⟩=>?_
 exact hf v u s2 x y H2 I2 r1 r2 q2
theorem pe_op {op:Operator} {r:R2} (ho:OpR X (binaryOp op) r) (ha:PE X a ta) (hb:PE X b tb):PE X (.BinOp a op b pos) (tOp r ta tb):=by
 intro pins s σ H Q I h
 exact wpAny_BinOp (binT ha hb I h fun v u s2 x y H2 I2 rx ry q=>ho pins s2 σ H2 x y v u Q I2 rx ry q)
theorem pe_un {op:UnaryOp} {r:V→Hp→VK→Prop} (ho:UnR X (unaryOp op) r) (ha:PE X a ta):PE X (.UnaryOp op a pos) (tUn r ta):=by
 intro pins s σ H Q I h
 exact UnaryOp_ (thn (ha pins s σ H _ I h) fun v s1 ⟨x,H1,I1,r1,q1⟩=>ho pins s1 σ H1 x v Q I1 r1 q1)
theorem opI {f:Value→Value→Sem Value} {C:Int→Int→Prop} {g:Int→Int→Int}
  (rule:∀ (i j:Int) (t u:Tok) (s:Shared) (Q:Value→Shared→Prop) (E:Value→Shared→Prop),C i j→Q (.int (g i j) s.toks) { s with toks:=s.toks+1 }→wpAny (model X.prog X.w) X.A (f (.int i t) (.int j u)) Q E s) :
  OpR X f (rI C fun i j=>.int (g i j)):=by
 intro pins s σ H x y v u Q I rx ry h
 obtain ⟨i,j,rfl,rfl,hc,q⟩:=h
 obtain ⟨t,rfl⟩:=rx
 obtain ⟨t',rfl⟩:=ry
 exact rule i j t t' s _ _ hc ⟨.int (g i j),H,I.tok _,⟨_,rfl⟩,q⟩
theorem opI0 {f:Value→Value→Sem Value} {g:Int→Int→Int}
  (rule:∀ (i j:Int) (t u:Tok) (s:Shared) (Q:Value→Shared→Prop) (E:Value→Shared→Prop),Q (.int (g i j) s.toks) { s with toks:=s.toks+1 }→wpAny (model X.prog X.w) X.A (f (.int i t) (.int j u)) Q E s) :
  OpR X f (rI0 fun i j=>.int (g i j)):=by
 intro pins s σ H x y v u Q I rx ry h
 obtain ⟨i,j,rfl,rfl,q⟩:=h
 obtain ⟨t,rfl⟩:=rx
 obtain ⟨t',rfl⟩:=ry
 exact rule i j t t' s _ _ ⟨.int (g i j),H,I.tok _,⟨_,rfl⟩,q⟩
theorem opB0 {f:Value→Value→Sem Value} {g:Int→Int→Bool}
  (rule:∀ (i j:Int) (t u:Tok) (s:Shared) (Q:Value→Shared→Prop) (E:Value→Shared→Prop),Q (.bool (g i j)) s→wpAny (model X.prog X.w) X.A (f (.int i t) (.int j u)) Q E s) :
  OpR X f (rI0 fun i j=>.bl (g i j)):=by
 intro pins s σ H x y v u Q I rx ry h
 obtain ⟨i,j,rfl,rfl,q⟩:=h
 obtain ⟨t,rfl⟩:=rx
 obtain ⟨t',rfl⟩:=ry
 exact rule i j t t' s _ _ ⟨.bl (g i j),H,I,rfl,q⟩
def CDiv (i j:Int):Prop:=0<j∧j<1073741824
def CMul (i j:Int):Prop:=(-(2 ^ 64)<i∧i<2 ^ 64)∨(-(2 ^ 64)<j∧j<2 ^ 64)
theorem CMul.ok {i j:Int} (h:CMul i j):IntMulOk i j:=by
 rcases h with ⟨h1,h2⟩ | ⟨h1,h2⟩
 ·exact .of_left (intBits_le_64 h1 h2)
 ·exact .of_right (intBits_le_64 h1 h2)
theorem op_add:OpR X (binaryOp .Add) (rI0 fun i j=>.int (i+j)):=opI0 fun _ _ _ _ _ _ _ q=>add_int q
theorem op_sub:OpR X (binaryOp .Sub) (rI0 fun i j=>.int (i-j)):=opI0 fun _ _ _ _ _ _ _ q=>sub_int q
theorem op_mul:OpR X (binaryOp .Mult) (rI CMul fun i j=>.int (i*j)):=opI fun _ _ _ _ _ _ _ hc q=>mul_int q hc.ok
theorem op_fdiv:OpR X (binaryOp .FloorDiv) (rI CDiv fun i j=>.int (i/j)):=opI fun i j _ _ _ _ _ hc q=>by
 have h1:(0:Int)<j:=hc.1
 have h2:j<1073741824:=hc.2
 exact floordiv_int (by omega) (by rw [Int.fdiv_eq_ediv_of_nonneg i (by omega)];exact q) (.inl (PyProof.noPylong_small (by omega)))
theorem op_mod:OpR X (binaryOp .Mod) (rI (fun _ j=>0<j) fun i j=>.int (i%j)):=opI fun i j _ _ _ _ _ hc q=>by
 have h1:(0:Int)<j:=hc
 exact mod_int' (by omega) (by rw [Int.fmod_eq_emod_of_nonneg i (by omega)];exact q)
theorem unI {f:Value→Sem Value} {g:Int→Int}
  (rule:∀ (i:Int) (t:Tok) (s:Shared) (Q:Value→Shared→Prop) (E:Value→Shared→Prop),Q (.int (g i) s.toks) { s with toks:=s.toks+1 }→wpAny (model X.prog X.w) X.A (f (.int i t)) Q E s) :
  UnR X f (rU fun i=>.int (g i)):=by
 intro pins s σ H x v Q I rx h
 obtain ⟨i,rfl,q⟩:=h
 obtain ⟨t,rfl⟩:=rx
 exact rule i t s _ _ ⟨.int (g i),H,I.tok _,⟨_,rfl⟩,q⟩
theorem un_neg:UnR X (unaryOp .USub) (rU fun i=>.int (-i)):=unI fun _ _ _ _ _ q=>neg_int q
end
section
variable {X:Cx} {a b c:Expr} {ta tb tc:TE} {pos:Pos}
theorem fin_bl {pins:List (Addr × Obj)} {σ:St} {H:Hp} {s:Shared} {Q:VK} {k k':Bool} (I:Inv X pins σ H s) (q:Q (.bl k) H) (e:k=k'):EP X pins σ Q (.bool k') s:=by
 subst e
 exact ⟨.bl k,H,I,rfl,q⟩
theorem op_lt:OpR X (compareOp .Lt) (rI0 fun i j=>.bl (decide (i<j))):=opB0 fun _ _ _ _ _ _ _ q=>lt_int q
theorem op_gt:OpR X (compareOp .Gt) (rI0 fun i j=>.bl (decide (j<i))):=opB0 fun _ _ _ _ _ _ _ q=>gt_int q
theorem op_lt_str:OpR X (compareOp .Lt) (fun x y H Q=>∃ i j,x=.str i∧y=.str j∧Q (.bl (decide (i.cps.toList<j.cps.toList))) H):=by
 intro pins s σ H x y v u Q I rx ry h
 obtain ⟨i,j,rfl,rfl,q⟩:=h
 obtain ⟨t,rfl⟩:=rx
 obtain ⟨t',rfl⟩:=ry
 exact lt_str (fin_bl I q rfl)
theorem op_isN:OpR X (compareOp .Is) (fun x y H Q=>y=.non∧Q (.bl (decide (x=.non))) H):=by
 intro pins s σ H x y v u Q I rx ry h
 obtain ⟨rfl,q⟩:=h
 cases ry
 refine is_none_gen (fin_bl I q ?_)
 cases x<;>first
  | (cases rx;rfl)
  | (obtain ⟨t,rfl⟩:=rx;rfl)
theorem op_notN:OpR X (compareOp .IsNot) (fun x y H Q=>y=.non∧Q (.bl (!decide (x=.non))) H):=by
 intro pins s σ H x y v u Q I rx ry h
 obtain ⟨rfl,q⟩:=h
 cases ry
 refine isnot_none_gen (fin_bl I q ?_)
 cases x<;>first
  | (cases rx;rfl)
  | (obtain ⟨t,rfl⟩:=rx;rfl)
theorem nomark (b:Expr) {op:CmpOp} (h:op≠.In:=by decide) (h2:op≠.NotIn:=by decide):behindInMarks op b=false:=by
 have e1:(op==CmpOp.In)=false:=by cases op<;>first | rfl | exact absurd rfl h
 have e2:(op==CmpOp.NotIn)=false:=by cases op<;>first | rfl | exact absurd rfl h2
 cases b<;>simp [behindInMarks,e1,e2]
theorem pe_cmpR {op:CmpOp} {r:R2} (ho:OpR X (compareOp op) r) (ha:PE X a ta) (hb:PE X b tb) (hm:behindInMarks op b=false):PE X (.Compare a [op] [b] pos) (tOp r ta tb):=by
 intro pins s σ H Q I h
 exact wpAny_Compare1 (binT ha hb I h fun v u s2 x y H2 I2 rx ry q=>ho pins s2 σ H2 x y v u Q I2 rx ry q) hm
def tTest (t:TE):TT:=fun σ H Q=>t σ H fun x H'=>∃ k,x=.bl k∧Q k H'
theorem pt_cmpR {op:CmpOp} {r:R2} (ho:OpR X (compareOp op) r) (ha:PE X a ta) (hb:PE X b tb) (hm:behindInMarks op b=false):PT X (.Compare a [op] [b] pos) (tTest (tOp r ta tb)):=by
 intro pins s σ H Q I h
 refine wpAny_isTrue_Compare1 (thn (ha pins s σ H _ I h) fun v s1 ⟨x,H1,I1,r1,q1⟩=>thn (hb pins s1 σ H1 _ I1 q1) fun u s2 ⟨y,H2,I2,r2,q2⟩ =>
  thn (ho pins s2 σ H2 x y v u _ I2 r1 r2 q2) fun c s3 ⟨z,H3,I3,r3,k,e,q3⟩=>?_) hm
 subst e
 cases r3
 exact wpAny_truthy_bool ⟨H3,I3,q3⟩
def TruV (K:PySem.W.Frag) (x:V) (H:Hp) (k:Bool):Prop :=
 match x with
 | .non=>k=false
 | .bl b=>k=b
 | .int i=>k=(i != 0)
 | .str y=>y.length≤sizeLine∧k=((y.length:Int) != 0)
 | .byt y=>y.size≤sizeLine∧k=((y.size:Int) != 0)
 | .ref p=>(∃ xs,SqL K H p xs∧k=!xs.isEmpty)∨(∃ xs,SqT K H p xs∧k=!xs.isEmpty)∨∃ kvs,H p=some (.dK kvs)∧k=!kvs.isEmpty
 | _=>False
theorem isEmpty_kv {κ:Type} {kvs:List (κ × V)} {vs:List (κ × Value)} (r:KV kvs vs):(!vs.isEmpty)=!kvs.isEmpty:=by
 cases r<;>rfl
theorem isEmpty_of {xs:List V} {its:List Value} (r:Vals xs its):(!its.toArray.isEmpty)=!xs.isEmpty:=by
 cases r<;>simp
theorem line63:(sizeLine:Nat)<2 ^ 63:=by rw [sizeLine_eq];decide
theorem tru_ok:TruR X (fun x H Q=>∃ k,TruV X.K x H k∧Q k H):=by
 intro pins s σ H x v Q I rx h
 obtain ⟨k,e,q⟩:=h
 have hl:=line63
 have hs:sizeLine=16777216:=sizeLine_eq
 cases x with
 | non =>
  cases rx
  have e':k=false:=e
  subst e'
  exact truthy_none ⟨H,I,q⟩
 | bl b =>
  cases rx
  have e':k=b:=e
  subst e'
  exact wpAny_truthy_bool ⟨H,I,q⟩
 | int i =>
  obtain ⟨t,rfl⟩:=rx
  have e':k=(i != 0):=e
  subst e'
  exact PySem.P.truthy_int ⟨H,I,q⟩
 | str y =>
  obtain ⟨t,rfl⟩:=rx
  obtain ⟨hy,e'⟩:y.length≤sizeLine∧k=((y.length:Int) != 0):=e
  subst e'
  exact PySem.P.truthy_str (by omega) ⟨H,I.tok _,q⟩
 | byt y =>
  obtain ⟨t,rfl⟩:=rx
  obtain ⟨hy,e'⟩:y.size≤sizeLine∧k=((y.size:Int) != 0):=e
  subst e'
  exact PySem.W.truthy_bytes (by omega) ⟨H,I.tok _,q⟩
 | ref p =>
  cases rx
  have e':(∃ xs,SqL X.K H p xs∧k=!xs.isEmpty)∨(∃ xs,SqT X.K H p xs∧k=!xs.isEmpty)∨∃ kvs,H p=some (.dK kvs)∧k=!kvs.isEmpty:=e
  rcases e' with ⟨xs,hx,e'⟩ | ⟨xs,hx,e'⟩ | ⟨kvs,hx,e'⟩
  ·subst e'
   obtain ⟨its,r,pl,hz⟩:=I.list hx
   have hlen:=r.length
   exact wpAny_truthy_list pl.isList (by simp only [List.size_toArray];omega) ⟨H,I.tok _,by rw [isEmpty_of r];exact q⟩
  ·subst e'
   obtain ⟨its,r,pl,hz⟩:=I.tuple hx
   have hlen:=r.length
   exact truthy_tuple pl (by simp only [List.size_toArray];omega) ⟨H,I.tok _,by rw [isEmpty_of r];exact q⟩
  ·subst e'
   obtain ⟨hz,hS,vs,r,m⟩:kvs.length≤sizeLine∧(p==sysModules)=false∧∃ vs,KV kvs vs∧s.heap.DictOf (mixKind X.prog X.w) p vs:=I.hok p _ hx
   have hlen:kvs.length=vs.length:=Paired.length r
   exact wpAny_truthy_dict hS m (by omega) ⟨H,I.tok _,by rw [isEmpty_kv r];exact q⟩
 | _=>exact (show False from e).elim
theorem pt_truth (ha:PE X a ta) (he:∀ whole,isTrue a X.env whole=(do let v ← whole;standAt a.pos;holding [v] (truthy v))) :
  PT X a (fun σ H Q=>ta σ H fun x H'=>∃ k,TruV X.K x H' k∧Q k H'):=by
 intro pins s σ H Q I h
 exact isTrue_plain (thn (ha pins s σ H _ I h) fun v s1 ⟨x,H1,I1,r1,q1⟩=>tru_ok pins s1 σ H1 x v Q I1 r1 q1) (he _)
theorem vals1 {x:V} {us:List Value} (r:Vals [x] us):∃ u,us=[u]∧RelV x u:=by
 cases r with
 | cons r1 r2=>cases r2;exact ⟨_,rfl,r1⟩
theorem vals2 {x y:V} {us:List Value} (r:Vals [x,y] us):∃ u w',us=[u,w']∧RelV x u∧RelV y w':=by
 cases r with
 | cons r1 r2 =>
  cases r2 with
  | cons r3 r4=>cases r4;exact ⟨_,_,rfl,r1,r3⟩
theorem call_int1:CallR X (.type "int") (fun xs H Q=>(∃ i,xs=[.int i]∧Q (.int i) H)∨∃ k,xs=[.bl k]∧Q (.int (if k then 1 else 0)) H):=by
 intro pins s σ H xs us Q I r h
 rcases h with ⟨i,rfl,q⟩ | ⟨k,rfl,q⟩
 ·obtain ⟨u,rfl,t,rfl⟩:=vals1 r
  exact call_int_int ⟨.int i,H,I,⟨_,rfl⟩,q⟩
 ·obtain ⟨u,rfl,r1⟩:=vals1 r
  cases r1
  exact call_int_bool ⟨.int (if k then 1 else 0),H,I.tok _,⟨_,rfl⟩,q⟩
end
end L2
namespace L2
open PySem PySem.Spec PyProof.Rows
structure ObjM (h:Heap) (x dx C:Addr) (mA:Str→Option Value):Prop where
 obj:h.get? x=some (PySem.W.instObj C dx)
 ns:h.Ns1 dx mA
 ne:dx≠x
section
variable {prog:Program} {w:World} {A:Around} {E:Value→Shared→Prop} {s:Shared} {K:PySem.W.Frag} {x dx C f:Addr} {mA:Str→Option Value} {name:Str} {v:Value}
end
section
variable {P:Program} {w:World} {H H':Hp} {h h':Heap} {a C dx:Addr} {fs fs':List (Str × V)}
end
structure Cls (K:PySem.W.Frag) (C:Addr):Prop where
 pg:PySem.W.plainGet K C Str.empty=true
 hd:PySem.W.hasDictIn K C=true
 po:PySem.W.plainOver K C=true
 sa:PySem.W.findIn K (.ref C) "__setattr__"=some (some (.builtin "object.__setattr__"))
structure Con (K:PySem.W.Frag) (C:Addr) (f:Str) (v:V) (u:Value):Prop where
 at_:PySem.W.findIn K (.ref C) f=some (some u)
 rel:RelV v u
 get:PySem.W.specialIn K u "__get__"=some none
 cp:PySem.W.copiedNames.contains f=false
structure Meth (K:PySem.W.Frag) (C:Addr) (m:Str) (f:Addr):Prop where
 at_:PySem.W.findIn K (.ref C) m=some (some (.ref f))
 fn:PySem.W.isFn K (.ref f)=true
 kp:PySem.W.keepIn K (.ref f)=true
section
variable {X:Cx} {pins:List (Addr × Obj)} {σ:St} {H:Hp} {s:Shared} {a C dx:Addr} {fs:List (Str × V)} {f:Str} {v:V} {A:Around} {E:Value→Shared→Prop}
end
section
variable {X:Cx} {o e value:Expr} {f:Str} {pos pos' tpos:Pos} {ta tv:TE}
end
section
variable {X:Cx} {pins:List (Addr × Obj)} {σ:St} {H:Hp} {s:Shared} {A:Around} {E:Value→Shared→Prop} {Q:Value→Shared→Prop} {c:Value} {b:Bool}
end
end L2
namespace L2
open PySem PySem.Spec PyProof.Rows
structure Room (k:Nat) (A:Around):Prop where
 hd:A.handled=none
 dp:A.depth+3*k+5<recursionLimit
 un:A.units+16*k+200<cLine
theorem Room.deeper {k:Nat} {A:Around} (r:Room (k+1) A) (env:Env):Room k (A.deeper env) :=
 ⟨r.hd,by have:=r.dp;show A.depth+1+3*k+5<_;omega,by have:=r.un;show A.units+3+16*k+200<_;omega⟩
theorem Room.depth {k:Nat} {A:Around} (r:Room k A):A.depth<recursionLimit:=by have:=r.dp;omega
def tNil:TA:=fun _ H Q=>Q [] H
def tCons (ta:TE) (tr:TA):TA:=fun σ H Q=>ta σ H fun x H1=>tr σ H1 fun xs H2=>Q (x::xs) H2
section
variable {X:Cx} {e:Expr} {es:List Expr} {te:TE} {t:TA} {pos:Pos}
theorem pa_nil:PA X [] tNil:=fun _ _ _ _ H Q I h=>Calls.spliced_nil ⟨[],H,I,.nil,h⟩
theorem pa_cons (ha:PE X e te) (hr:PA X es t) (hs:starEach (e::es) X.env=(false,eval e X.env)::starEach es X.env:=by rfl):PA X (e::es) (tCons te t):=by
 intro pos pins s σ H Q I h
 rw [hs]
 show wpAny _ _ (spliced ((false,eval e X.env)::backTo pos (starEach es X.env))) _ _ s
 refine Calls.spliced_cons (thn (ha pins s σ H _ I h) fun u s1 ⟨x,H1,I1,r1,q1⟩=>?_)
 exact thn (hr pos pins s1 σ H1 _ I1 q1) fun us s2 ⟨xs,H2,I2,r2,q2⟩=>⟨x::xs,H2,I2,.cons r1 r2,q2⟩
def tTup (t:TA):TE:=fun σ H Q=>t σ H fun xs H1=>xs.length≤sizeLine∧∀ p,H1 p=none→Q (.ref p) (upd H1 p (.tup xs))
def tLst (t:TA):TE:=fun σ H Q=>t σ H fun xs H1=>xs.length≤sizeLine∧∀ p,H1 p=none→Q (.ref p) (upd H1 p (.lst xs))
theorem pe_tup {x1} (h:PA X es t):PE X (.Tuple es x1 pos) (tTup t):=by
 intro pins s σ H Q I hq
 refine wpAny_Tuple_spliced (thn (h pos pins s σ H _ I hq) fun us s1 ⟨xs,H1,I1,r,z,q⟩=>⟨by rw [← r.length];exact z,?_⟩)
 have hf:H1 s1.heap.objs.size=none:=I1.hok.fresh (Nat.le_refl _)
 refine ⟨.ref s1.heap.objs.size,upd H1 s1.heap.objs.size (.tup xs),I1.laid (t':=s1.toks) (fun b u e=>Heap.get?_push_of_some _ e) (Nat.le_refl _) ?_,rfl,q _ hf⟩
 exact ⟨z,us,r,⟨_,Heap.get?_push_size _ rfl,rfl,_,rfl⟩⟩
theorem pe_lst (h:PA X es t):PE X (.List es pos) (tLst t):=by
 intro pins s σ H Q I hq
 refine wpAny_List_spliced (thn (h pos pins s σ H _ I hq) fun us s1 ⟨xs,H1,I1,r,z,q⟩=>⟨by rw [← r.length];exact z,?_⟩)
 have hf:H1 s1.heap.objs.size=none:=I1.hok.fresh (Nat.le_refl _)
 refine ⟨.ref s1.heap.objs.size,upd H1 s1.heap.objs.size (.lst xs),I1.laid (t':=s1.toks) (fun b u e=>Heap.get?_push_of_some _ e) (Nat.le_refl _) ?_,rfl,q _ hf⟩
 exact ⟨z,us,0,r,Heap.get?_push_size _ rfl⟩
end
abbrev Sp:=List V→Hp→VK→XK→Prop
abbrev CXT:=List Env→Hp→Shared→XK→Value→Shared→Prop
structure Env0 (P:Program) (w:World) (K:PySem.W.Frag) (mg:Str→Option Value) (base:Heap) (A:Around) (outer:List Env) (s:Shared) (H:Hp):Prop where
 frames:A.frames=some outer
 mod:Mod K mg base
 bs:∀ b o,base.get? b=some o→s.heap.get? b=some o∧H b=none
 bsz:base.objs.size≤s.heap.objs.size
 funs:s.heap.FunFrames base outer
 frf:∀ b∈frs outer,H b=none
 hok:HOk P w H s.heap
 bare:AllBare s.gens
def CE (outer:List Env) (P:Program) (w:World) (H:Hp) (s:Shared) (Q:VK) (u:Value) (s':Shared):Prop :=
 ∃ v H',s'.os=s.os∧AllBare s'.gens∧Un (frs outer) [] H H' s.heap s'.heap∧HOk P w H' s'.heap∧RelV v u∧Q v H'
def CR (CX:CXT) (outer:List Env) (P:Program) (w:World) (H:Hp) (s:Shared) (Q:VK) (E:XK) (r:Result) (s':Shared):Prop :=
 match r with
 | .ok (.ret u)=>CE outer P w H s Q u s'
 | .ok _=>False
 | .error e=>CX outer H s E e s'
structure FnOk (P:Program) (w:World) (K:PySem.W.Frag) (mg:Str→Option Value) (base:Heap) (CX:CXT) (k:Nat) (f:Addr) (fd:FuncData) (ps:List Str) (sp:Sp):Prop where
 len:∀ vs H Q E,sp vs H Q E→vs.length=ps.length
 run:∀ (A:Around) (outer:List Env) (s:Shared) (H:Hp) (args:Args) (us:List Value) (vs:List V) (Q:VK) (E:XK),Room k A→Env0 P w K mg base A outer s H→BindsTo s fd args (ps.zip us)→Vals vs us→sp vs H Q E →
  codeAny (model P w) A (.call (.ref f) args) (CR CX outer P w H s Q E) s
section
variable {X:Cx} {pins:List (Addr × Obj)} {σ:St} {H:Hp} {s s':Shared}
theorem Inv.env0 (I:Inv X pins σ H s):Env0 X.prog X.w X.K X.mg X.base X.A X.stack s H :=
 ⟨I.ok.frames,I.ok.mod,I.bs,Nat.le_trans I.ok.bsz I.sz,I.stack,I.stkFree,I.hok,I.bare⟩
theorem Inv.after {Q:VK} {u:Value} (I:Inv X pins σ H s) (h:CE X.stack X.prog X.w H s Q u s'):EP X pins σ Q u s':=by
 obtain ⟨v,H',os,bare,un,hok,r,q⟩:=h
 obtain ⟨hh,g,d,t,os'⟩:=s'
 obtain rfl:os'=s.os:=os
 exact ⟨v,H',I.call (h':=hh) (g':=g) (d':=d) (t':=t) (ch:=[]) un hok bare (fun b z=>absurd z (by simp)),r,q⟩
end
def tCall (sp:Sp) (dvs:List V) (E:XK) (t:TA):TE:=fun σ H Q=>t σ H fun vs H1=>sp (vs++dvs) H1 Q E
def Binds (K:PySem.W.Frag) (fd:FuncData) (ps:List Str) (ds:List Value):Prop :=
 ∀ (s:Shared) (us:List Value),K.In s.heap→(us++ds).length=ps.length→BindsTo s fd ⟨us,[]⟩ (ps.zip (us++ds))
theorem Binds.all {K:PySem.W.Frag} {fd:FuncData} {ps:List Str} (h:∀ us:List Value,us.length=ps.length→bindArgs fd ⟨us,[]⟩=pure (ps.zip us)):Binds K fd ps []:=fun s us _ hl=>by
 rw [List.append_nil] at hl ⊢
 exact .of_eq (h us hl)
def Passes (CX:CXT) (X:Cx) (E:XK):Prop:=∀ (pins:List (Addr × Obj)) (σ:St) (H:Hp) (s:Shared) (e:Value) (s':Shared),Inv X pins σ H s→CX X.stack H s E e s'→X.xe e s'
section
variable {X:Cx} {CX:CXT} {k:Nat} {f C:Addr} {fd:FuncData} {ps:List Str} {sp:Sp} {dvs:List V} {ds:List Value} {E:XK} {x m:Str} {p pos apos:Pos} {e o:Expr} {es:List Expr} {ta:TE} {t:TA}
theorem run_fn {pins:List (Addr × Obj)} {σ:St} {H:Hp} {s:Shared} {Q:VK} {us:List Value} {vs:List V} (F:FnOk X.prog X.w X.K X.mg X.base CX k f fd ps sp) (hr:Room k X.A) (hb:Binds X.K fd ps ds) (hd:Vals dvs ds) (hx:Passes CX X E)
  (I:Inv X pins σ H s) (r:Vals vs us) (h:sp (vs++dvs) H Q E):wpAny (model X.prog X.w) X.A (call (.ref f) us) (EP X pins σ Q) X.xe s:=by
 have r2:Vals (vs++dvs) (us++ds):=r.append hd
 have hl:(us++ds).length=ps.length:=by rw [← r2.length];exact F.len _ _ _ _ h
 refine wpAny_call (codeAny_mono (F.run X.A X.stack s H ⟨us,[]⟩ (us++ds) (vs++dvs) Q E hr I.env0 (hb s us I.kIn hl) r2 h) fun r s' hq=>?_)
 cases r with
 | error e=>exact hx pins σ H s e s' I hq
 | ok fl =>
  cases fl with
  | ret u=>exact I.after hq
  | next=>exact False.elim hq
  | brk=>exact False.elim hq
  | cont=>exact False.elim hq
theorem pe_call (F:FnOk X.prog X.w X.K X.mg X.base CX k f fd ps sp) (hr:Room k X.A) (hg:Gl X x) (hm:X.mg x=some (.ref f)) (hk:PySem.W.keepIn X.K (.ref f)=true) (hb:Binds X.K fd ps ds) (hd:Vals dvs ds) (hx:Passes CX X E)
  (ha:PA X (e::es) t) (hdb:(x==("__debug__":Str))=false:=by decide) (he:starEach (e::es) X.env=(false,eval e X.env)::starEach es X.env:=by rfl) (hpl:(backTo pos (starEach es X.env)).any (·.1)=false:=by rfl) :
  PE X (.Call (.Name x p) (e::es) [] pos) (tCall sp dvs E t):=by
 intro pins s σ H Q I h
 refine wpAny_Call_Name_kw (ld_glob I hg hm ?_ hdb)
 refine PySem.W.callWith_K (h₀:=X.base) I.ok.mod.kin hk (thn (ha pos pins s σ H _ I h) fun us s1 ⟨vs,H1,I1,r,q⟩=>⟨I1.kIn,?_⟩) he hpl
 exact run_fn F hr hb hd hx I1 r q
structure Mk (K:PySem.W.Frag) (C f:Addr):Prop where
 makes:PySem.W.makesIn K C=true
 init:PySem.W.findIn K (.ref C) "__init__"=some (some (.ref f))
 fn:PySem.W.isFn K (.ref f)=true
 kp:PySem.W.keepIn K (.ref C)=true
end
section
variable {X:Cx} {CX:CXT} {k:Nat} {f C:Addr} {fd:FuncData} {ps ks:List Str} {sp:Sp} {E:XK} {x m:Str} {p pos apos kpos:Pos} {e o:Expr} {es:List Expr} {kws:List Keyword} {te ta:TE} {t tk:TA} {nm:Option Str}
structure KBinds (K:PySem.W.Frag) (fd:FuncData) (ps ks:List Str) (g:List Value→List Value→List Value) (gV:List V→List V→List V):Prop where
 to:∀ (s:Shared) (us ws:List Value),K.In s.heap→(g us ws).length=ps.length→BindsTo s fd ⟨us,ks.zip ws⟩ (ps.zip (g us ws))
 rel:∀ {vs:List V} {us:List Value} {zs:List V} {ws:List Value},Vals vs us→Vals zs ws→Vals (gV vs zs) (g us ws)
variable {g:List Value→List Value→List Value} {gV:List V→List V→List V}
end
structure FnScope (N P:List Str) (sc:Scope):Prop where
 kind:sc.kind=.function
 co:sc.isCoroutine=false
 gen:sc.isGenerator=false
 nd:N.Nodup
 pre:N.take P.length=P
 par:∀ x∈P,sc.names.lookup x=some .local∨sc.names.lookup x=some .cell
 nofree:∀ y∈sc.names,y.2≠.free
theorem bindL_out {kindOf:Str→Option NameKind} {x:Str}:∀ {binds:List (Str × Value)} {m:Str→Option Value},(∀ v,(x,v)∉binds)→bindL kindOf binds m x=m x
 | [],_,_=>rfl
 | (n,v)::r,m,h=>by
  unfold bindL
  rw [bindL_out fun w hw=>h w (List.mem_cons_of_mem _ hw)]
  split
  ·have:x≠n:=by rintro rfl;exact h v List.mem_cons_self
   simp [this]
  ·rfl
theorem bindC_out {kindOf:Str→Option NameKind} {x:Str}:∀ {binds:List (Str × Value)} {m:Str→Option Value},(∀ v,(x,v)∉binds)→bindC kindOf binds m x=m x
 | [],_,_=>rfl
 | (n,v)::r,m,h=>by
  unfold bindC
  rw [bindC_out fun w hw=>h w (List.mem_cons_of_mem _ hw)]
  split
  ·rfl
  ·have:x≠n:=by rintro rfl;exact h v List.mem_cons_self
   simp [this]
theorem bindL_get {kindOf:Str→Option NameKind} {x:Str} {v:Value}:∀ {P:List Str} {vs:List Value} {i:Nat} {m:Str→Option Value},P.Nodup→P[i]?=some x→vs[i]?=some v→kindOf x=some .local →
  bindL kindOf (P.zip vs) m x=some v
 | [],_,_,_,_,h,_,_=>by simp at h
 | _::_,[],_,_,_,_,h,_=>by simp at h
 | p::P,w::vs,0,m,nd,h1,h2,hk=>by
  simp at h1 h2;subst h1;subst h2
  show bindL kindOf ((p,w)::P.zip vs) m p=_
  unfold bindL
  rw [bindL_out fun v hv=>(List.nodup_cons.mp nd).1 (List.of_mem_zip hv).1,if_pos hk]
  simp
 | p::P,w::vs,i+1,m,nd,h1,h2,hk=>by
  show bindL kindOf ((p,w)::P.zip vs) m x=_
  unfold bindL
  exact bindL_get (i:=i) (List.nodup_cons.mp nd).2 (by simpa using h1) (by simpa using h2) hk
theorem bindC_get {kindOf:Str→Option NameKind} {x:Str} {v:Value}:∀ {P:List Str} {vs:List Value} {i:Nat} {m:Str→Option Value},P.Nodup→P[i]?=some x→vs[i]?=some v→kindOf x≠some .local →
  bindC kindOf (P.zip vs) m x=some v
 | [],_,_,_,_,h,_,_=>by simp at h
 | _::_,[],_,_,_,_,h,_=>by simp at h
 | p::P,w::vs,0,m,nd,h1,h2,hk=>by
  simp at h1 h2;subst h1;subst h2
  show bindC kindOf ((p,w)::P.zip vs) m p=_
  unfold bindC
  rw [bindC_out fun v hv=>(List.nodup_cons.mp nd).1 (List.of_mem_zip hv).1,if_neg hk]
  simp
 | p::P,w::vs,i+1,m,nd,h1,h2,hk=>by
  show bindC kindOf ((p,w)::P.zip vs) m x=_
  unfold bindC
  exact bindC_get (i:=i) (List.nodup_cons.mp nd).2 (by simpa using h1) (by simpa using h2) hk
def start (N:List Str) (vs:List V):St:=vs.map some++List.replicate (N.length-vs.length) none
def cxOf (CX:CXT) (P:Program) (w:World) (K:PySem.W.Frag) (mg:Str→Option Value) (base:Heap) (N:List Str) (qual:Str) (scope:Scope) (f:Addr) (cd:Value) (A:Around) (outer:List Env) (s:Shared) (H:Hp) (E:XK):Cx where
 prog:=P
 w:=w
 K:=K
 mg:=mg
 base:=base
 A:=A.deeper (envOfC qual scope s.heap.objs.size f cd)
 N:=N
 s₀:=s
 H₀:=H
 env:=envOfC qual scope s.heap.objs.size f cd
 outer:=outer
 stack:=envOfC qual scope s.heap.objs.size f cd::outer
 ex:=[]
 calm:=true
 fn:=fun _=>true
 pn:=[]
 xe:=fun e s'=>wpAny (model P w) (A.deeper (envOfC qual scope s.heap.objs.size f cd)) (leaving (envOfC qual scope s.heap.objs.size f cd) e) (fun _ s''=>CX outer H s E e s'') (fun e' s''=>CX outer H s E e' s'') s'
theorem cell_has {sc:Scope} {n:Nat} {x:Str} (h:sc.names.lookup x=some .cell):∃ c,(cellsFrom n sc.names []).lookup x=some c:=by
 have q:=PySem.W.cellsFrom_some sc.names n [] (.inl h)
 exact Option.isSome_iff_exists.mp q
theorem inv_start {CX:CXT} {P:Program} {w:World} {K:PySem.W.Frag} {mg:Str→Option Value} {base:Heap} {N ps:List Str} {qual:Str} {scope:Scope} {f:Addr} {cd:Value} {A:Around} {outer:List Env} {s s1:Shared} {H:Hp} {E:XK} {us:List Value} {vs:List V}
  (S:FnScope N ps scope) (hd:A.handled=none) (e0:Env0 P w K mg base A outer s H) (hl:vs.length=ps.length) (r:Vals vs us)
  (x:InCallC s s.heap.objs.size (bindL (envOfC qual scope s.heap.objs.size f cd).kindOf (ps.zip us) fun _=>none) (cellsFrom (s.heap.objs.size+1) scope.names []) (bindC (envOfC qual scope s.heap.objs.size f cd).kindOf (ps.zip us) fun _=>none) s1) :
  Inv (cxOf CX P w K mg base N qual scope f cd A outer s H E) [] (start N vs) H s1:=by
 have hpl:ps.length≤N.length:=by have:=congrArg List.length S.pre;rw [List.length_take] at this;omega
 obtain ⟨h1,tk,rfl,hk⟩:=x.done
 have noA:∀ b:Addr,b∉(cxOf CX P w K mg base N qual scope f cd A outer s H E).ex:=fun b z=>absurd (show b∈([]:List Addr) from z) (by simp)
 refine ⟨⟨e0.mod,S.kind,rfl,rfl,Nat.le_refl _,fun y z c h1 h2=>?_,fun y hy=>?_,fun y c _ h=>?_,fun _=>hd,Around.frames_deeper e0.frames,.inr ⟨rfl,rfl⟩,fun b z=>absurd z (noA b),e0.bs,e0.bsz,fun b _ _=>noA b,fun b z=>absurd z (noA b),e0.funs,e0.frf⟩,
  rfl,e0.bare,Un.kept hk,⟨_,x.toInCall.ns,fun i y v h1 h2 h3=>?_⟩,fun y c h=>⟨_,x.cell y c h⟩,e0.hok.fresh (Nat.le_refl _),fun y c h=>?_,fun p hp=>absurd (show p∈([]:List (Addr × Obj)) from hp) (by simp),e0.hok.kept hk,?_⟩
 ·exact name_of_addr x.apart (PySem.mem_of_lookup h1) (PySem.mem_of_lookup h2)
 ·have hy:scope.names.lookup y=some .cell∨scope.names.lookup y=some .free:=hy
  rcases hy with hy | hy
  ·exact cell_has hy
  ·exact absurd rfl (S.nofree _ (PySem.mem_of_lookup hy))
 ·exact Nat.le_of_lt (x.above y c (PySem.mem_of_lookup h))
 ·have hi:i<vs.length:=by
   unfold start at h2
   by_cases hi:i<vs.length
   ·exact hi
   ·rw [List.getElem?_append_right (by simpa using hi)] at h2
    rw [List.getElem?_replicate] at h2
    split at h2<;>cases h2
  have ha:vs[i]?=some v:=by
   unfold start at h2
   rw [List.getElem?_append_left (by simpa using hi),List.getElem?_map] at h2
   cases e:vs[i]? with
   | none=>rw [e] at h2;cases h2
   | some a=>rw [e] at h2;cases h2;rfl
  obtain ⟨u,hu,rv⟩:=r.get ha
  have hp:ps[i]?=some y:=by
   rw [← S.pre,List.getElem?_take_of_lt (by omega)];exact h1
  have ndP:ps.Nodup:=by rw [← S.pre];exact S.nd.sublist (List.take_sublist _ _)
  refine ⟨u,rv,?_⟩
  rcases S.par y (List.mem_of_getElem? hp) with k | k
  ·exact .inl ⟨k,bindL_get ndP hp hu k⟩
  ·obtain ⟨c,e⟩:=cell_has (n:=s.heap.objs.size+1) k
   refine .inr ⟨.inl k,c,e,?_⟩
   have q:=x.cell y c e
   rw [bindC_get ndP hp hu (by show scope.names.lookup y≠_;rw [k];decide)] at q
   exact q
 ·exact e0.hok.fresh (Nat.le_of_lt (x.above y c (PySem.mem_of_lookup h)))
 ·unfold start
  show _=N.length
  rw [List.length_append,List.length_map,List.length_replicate]
  omega
theorem fn_of {CX:CXT} {P:Program} {w:World} {K:PySem.W.Frag} {mg:Str→Option Value} {base:Heap} {k:Nat} {f:Addr} {name qual:Str} {params:Arguments} {body:List Stmt} {scope:Scope} {dV kV doc pm cdv ct oc:Value} {an od:Option Addr}
  {osl:Array (Option Value)} {N ps:List Str} {sp:Sp} (lk:K.lookup f=some ⟨oc,od,.func (PySem.W.fnOf name qual params body scope dV kV doc pm an cdv ct),osl⟩) (hcd:PySem.W.codeIn K cdv qual=true) (S:FnScope N ps scope)
  (len:∀ vs H Q E,sp vs H Q E→vs.length=ps.length)
  (hbody:∀ (A:Around) (outer:List Env) (s:Shared) (H:Hp) (vs:List V) (Q:VK) (E:XK),Room k (A.deeper (envOfC qual scope s.heap.objs.size f cdv))→sp vs H Q E →
   ∃ t,PSs (cxOf CX P w K mg base N qual scope f cdv A outer s H E) body t∧t { nx:=fun _ H'=>Q .non H',rt:=Q } (start N vs) H) :
  FnOk P w K mg base CX (k+1) f (PySem.W.fnOf name qual params body scope dV kV doc pm an cdv ct) ps sp:=by
 refine ⟨len,fun A outer s H args us vs Q E hr e0 hb r hsp=>?_⟩
 have hl:=len _ _ _ _ hsp
 have KX:K.In s.heap:=e0.mod.kin.keeps fun b o e=>(e0.bs b o e).1
 have lim:s.heap.NoLimit:=e0.mod.nolimit.keeps fun b o e=>(e0.bs b o e).1
 have hkind:∀ y∈ps.zip us,scope.names.lookup y.1=some .local∨(scope.names.lookup y.1=some .cell∧((cellsFrom (s.heap.objs.size+1) scope.names []).lookup y.1).isSome=true):=fun ⟨n,v⟩ hy=>by
  rcases S.par n (List.of_mem_zip hy).1 with q | q
  ·exact .inl q
  ·exact .inr ⟨q,PySem.W.cellsFrom_some _ _ _ (.inl q)⟩
 refine codeAny_call_function hr.depth (KX _ _ lk) rfl S.co S.gen rfl (PySem.W.codeRec_of KX hcd) (hb _ _ _ _ ?_)
 refine wpAny_newFunctionEnv_cells S.kind hkind fun env he s1 x=>?_
 subst he
 refine ⟨lim.keeps x.toInCall.keep,codeAny_func ?_⟩
 obtain ⟨t,ht,hq⟩:=hbody A outer s H vs Q E (hr.deeper _) hsp
 have I:Inv (cxOf CX P w K mg base N qual scope f cdv A outer s H E) [] (start N vs) H s1:=inv_start S hr.hd e0 hl r x
 refine wpAny_mono (ht [] s1 (start N vs) H _ I hq) (fun fl s' hs=>?_) fun e s' hs=>hs
 have fin:∀ {σ':St} {H':Hp} {v:V} {u:Value},Inv (cxOf CX P w K mg base N qual scope f cdv A outer s H E) [] σ' H' s'→RelV v u→Q v H'→CE outer P w H s Q u s' :=
  fun {σ' H' v u} J rv q=>⟨v,H',J.os,J.bare,J.base,J.hok,rv,q⟩
 cases fl with
 | ret u =>
  obtain ⟨v,σ',H',J,rv,q⟩:=hs
  exact fin J rv q
 | next =>
  obtain ⟨σ',H',J,q⟩:=hs
  exact fin (v:=V.non) (u:=Value.none) J rfl q
 | brk =>
  obtain ⟨_,_,_,q⟩:=hs
  exact False.elim q
 | cont =>
  obtain ⟨_,_,_,q⟩:=hs
  exact False.elim q
end L2
namespace L2
open PySem PySem.Spec PyProof.Rows
section
variable {X:Cx} {x:Str} {p pos:Pos} {e:Expr} {es:List Expr} {t:TA} {id T:String} {r:List V→Hp→VK→Prop}
def tCB (r:List V→Hp→VK→Prop) (t:TA):TE:=fun σ H Q=>t σ H fun vs H1=>r vs H1 Q
theorem pe_callB (hc:CallR X (.builtin id) r) (hg:Gl X x) (hm:X.mg x=none) (hv:bootBuiltins x=some (.builtin id)) (ha:PA X (e::es) t) (hn:x≠"__name__":=by decide) (hdb:(x==("__debug__":Str))=false:=by decide)
  (he:starEach (e::es) X.env=(false,eval e X.env)::starEach es X.env:=by rfl) (hpl:(backTo pos (starEach es X.env)).any (·.1)=false:=by rfl):PE X (.Call (.Name x p) (e::es) [] pos) (tCB r t):=by
 intro pins s σ H Q I h
 refine wpAny_Call_Name_kw (ld_blt I hg hm hv ?_ hn hdb)
 exact PyProof.Rows.callWith_builtin1 (thn (ha pos pins s σ H _ I h) fun us s1 ⟨vs,H1,I1,r1,q1⟩=>hc pins s1 σ H1 vs us Q I1 r1 q1) he hpl
theorem pe_callTy (hc:CallR X (.type T) r) (hg:Gl X x) (hm:X.mg x=none) (hv:bootBuiltins x=some (.type T)) (ha:PA X (e::es) t) (hn:x≠"__name__":=by decide) (hdb:(x==("__debug__":Str))=false:=by decide)
  (he:starEach (e::es) X.env=(false,eval e X.env)::starEach es X.env:=by rfl) (hpl:(backTo pos (starEach es X.env)).any (·.1)=false:=by rfl):PE X (.Call (.Name x p) (e::es) [] pos) (tCB r t):=by
 intro pins s σ H Q I h
 refine wpAny_Call_Name_kw (ld_blt I hg hm hv ?_ hn hdb)
 exact PyProof.Rows.callWith_type1 (thn (ha pos pins s σ H _ I h) fun us s1 ⟨vs,H1,I1,r1,q1⟩=>hc pins s1 σ H1 vs us Q I1 r1 q1) he hpl
end
end L2
namespace HT
open PySem PyProof.Rows
section
open PySem.SeqAt
open PySem.AutoSeq1 (wpAny_loadPart')
open PySem.MeetsSeq PySem.MeetsSeq2 PySem.MeetsSeq3
end
section
variable {prog:Program} {w:World} {A:Around} {E:Value→Shared→Prop} {s:Shared}
theorem cat_tup {t b:Addr} {vs ws:List Value} {Q:Value→Shared→Prop} (ht:IsTup s.heap t vs.toArray) (hb:IsTup s.heap b ws.toArray) (hv:vs≠[])
  (h1:ws=[]→Q (.ref t) s) (h2:ws≠[]→Q (.ref s.heap.objs.size) { s with heap:=s.heap.push { cls:=.type "tuple",data:=.seq (vs++ws).toArray } })
  (hsz:vs.length+ws.length≤sizeLine):wpAny (model prog w) A (binaryOp .Add (.ref t) (.ref b)) Q E s:=by
 obtain ⟨⟨cls,dd,data,sl⟩,ho,hc,n,hd⟩:=id ht
 obtain ⟨⟨cls2,dd2,data2,sl2⟩,ho2,hc2,n2,hd2⟩:=id hb
 simp only at hc hd hc2 hd2
 subst hc hd hc2 hd2
 have e:vs.toArray++ws.toArray=(vs++ws).toArray:=by simp
 by_cases hw:ws=[]
 ·exact concat_meets ⟨_,ho,rfl⟩ ⟨_,ho2,rfl⟩ noFill_tuple_add seq_tuple_add PySem.F.slot_tuple_add PySem.F.entry_tuple_add (PySem.F.args_tuple_add_2 _ _)
   (tuple_addW1 t b vs.toArray ws.toArray n n2 dd dd2 sl sl2 (by simpa using hv) (by simp [hw])) ⟨ho,ho2,h1 hw⟩
 ·refine concat_meets ⟨_,ho,rfl⟩ ⟨_,ho2,rfl⟩ noFill_tuple_add seq_tuple_add PySem.F.slot_tuple_add PySem.F.entry_tuple_add (PySem.F.args_tuple_add_2 _ _)
   (tuple_addW2 t b vs.toArray ws.toArray n n2 dd dd2 sl sl2 (by simpa using hv) (by simpa using hw) (by rw [List.size_toArray,List.size_toArray];exact hsz)) ⟨ho,ho2,?_⟩
  rw [e]
  exact h2 hw
def sIx (n d:Nat):Option Int→Nat
 | none=>d
 | some v=>if v<0 then (v+(n:Int)).toNat else min v.toNat n
theorem sIx_le (n d:Nat) (hd:d≤n) (o:Option Int):sIx n d o≤n:=by
 cases o with
 | none=>exact hd
 | some v =>
  show (if v<0 then (v+(n:Int)).toNat else min v.toNat n)≤n
  by_cases hv:v<0
  ·rw [if_pos hv];omega
  ·rw [if_neg hv];exact Nat.min_le_right _ _
theorem clip_eq (v:Int) (n d:Nat):(if v<0 then max (v+(n:Int)) 0 else min v (n:Int))=((sIx n d (some v):Nat):Int):=by
 show (if v<0 then max (v+(n:Int)) 0 else min v (n:Int))=(((if v<0 then (v+(n:Int)).toNat else min v.toNat n):Nat):Int)
 by_cases hv:v<0
 ·simp only [if_pos hv];omega
 ·simp only [if_neg hv];omega
theorem adjust_gen (lo hi:Option Int) (n:Nat):Builtin.Slice.sliceAdjust lo hi 1 (n:Int)=(((sIx n 0 lo:Nat):Int),((sIx n n hi:Nat):Int)):=by
 have h1:¬ ((1:Int)<0):=by omega
 unfold Builtin.Slice.sliceAdjust
 simp only [h1,if_false]
 refine Prod.ext ?_ ?_
 ·cases lo with
  | none=>rfl
  | some v=>exact clip_eq v n 0
 ·cases hi with
  | none=>rfl
  | some v=>exact clip_eq v n n
theorem places_gen (i j:Nat):Builtin.Slice.slicePlaces (i:Int) (j:Int) 1=j-i:=by
 unfold Builtin.Slice.slicePlaces
 have h1:(1:Int)>0:=by omega
 simp only [h1,if_true,Int.ediv_one]
 split<;>omega
theorem slicePart_ {v:Value} {o:Option Int} {Q:Option Int→Shared→Prop} (p:IsPart v o) (h:Q o s):wpAny (model prog w) A (Builtin.Slice.slicePartIndex v) Q E s:=by
 cases p with
 | none=>exact slicePart_none h
 | int i t=>exact slicePart_int h
theorem sliceApplied_gen {sl:Addr} {vl vu:Value} {lo hi:Option Int} {n:Nat} {Q:Int × Int × Nat→Shared→Prop} (hs:s.heap.IsSliceOf sl vl vu .none) (pl:IsPart vl lo) (pu:IsPart vu hi)
  (h:Q (((sIx n 0 lo:Nat):Int),1,sIx n n hi-sIx n 0 lo) s):wpAny (model prog w) A (Builtin.Slice.sliceApplied (.ref sl) (pure (n:Int))) Q E s:=by
 obtain ⟨os,hos,hcs,hds⟩:=id hs
 unfold Builtin.Slice.sliceApplied Builtin.Slice.sliceFields
 refine wpAny_bind (wpAny_bind (wpAny_field hos hds (x:=vl) rfl (wpAny_bind (wpAny_field hos hds (x:=vu) rfl (wpAny_bind (wpAny_field hos hds (x:=.none) rfl (wpAny_pure ?_)))))))
 refine wpAny_bind (slicePart_none ?_)
 show wpAny _ _ (if ((1:Int)==0)=true then _ else _) _ _ s
 rw [if_neg (by decide)]
 refine wpAny_bind (slicePart_ pl (wpAny_bind (slicePart_ pu (wpAny_bind (wpAny_pure ?_)))))
 show wpAny _ _ (match Builtin.Slice.sliceAdjust lo hi 1 (n:Int) with | (lo,hi)=>pure (lo,(1:Int),Builtin.Slice.slicePlaces lo hi 1)) _ _ s
 rw [adjust_gen lo hi n]
 show wpAny _ _ (pure (((sIx n 0 lo:Nat):Int),(1:Int),Builtin.Slice.slicePlaces ((sIx n 0 lo:Nat):Int) ((sIx n n hi:Nat):Int) 1)) _ _ s
 rw [places_gen]
 exact wpAny_pure h
theorem pick_gen (xs:Array Value) (i k:Nat):((List.range k).filterMap fun (m:Nat)=>xs[((i:Int)+(m:Int)*1).toNat]?).toArray=((xs.toList.drop i).take k).toArray:=by
 have e:(fun (m:Nat)=>xs[((i:Int)+(m:Int)*1).toNat]?)=fun m=>xs[i+m]?:=by
  funext m
  have:((i:Int)+(m:Int)*1).toNat=i+m:=by omega
  rw [this]
 rw [e]
 have:=pick_run xs i k
 rw [List.filterMap_map] at this
 have e2:((fun x=>xs[x]?)∘fun x=>i+x)=fun m=>xs[i+m]?:=rfl
 rw [e2] at this
 rw [this]
theorem getItem_tuple_cut {t sl:Addr} {items:Array Value} {vl vu:Value} {lo hi:Option Int} {Q:Value→Shared→Prop} (ht:IsTup s.heap t items) (hs:s.heap.IsSliceOf sl vl vu .none) (pl:IsPart vl lo) (pu:IsPart vu hi)
  (hw:¬ (sIx items.size 0 lo=0∧sIx items.size items.size hi=items.size))
  (h:Q (.ref s.heap.objs.size) { s with heap:=s.heap.push { cls:=.type "tuple",data:=.seq ((items.toList.drop (sIx items.size 0 lo)).take (sIx items.size items.size hi-sIx items.size 0 lo)).toArray } })
  (hsz:items.size≤sizeLine):wpAny (model prog w) A (getItem (.ref t) (.ref sl)) Q E s:=by
 have htake:sizeOk (.seq ((items.toList.drop (sIx items.size 0 lo)).take (sIx items.size items.size hi-sIx items.size 0 lo)).toArray):=by
  show ((items.toList.drop (sIx items.size 0 lo)).take (sIx items.size items.size hi-sIx items.size 0 lo)).toArray.size≤sizeLine
  rw [List.size_toArray,List.length_take,List.length_drop,Array.length_toList]
  omega
 have hj:sIx items.size items.size hi≤items.size:=sIx_le _ _ (Nat.le_refl _) hi
 obtain ⟨os,hos,hcs,hds⟩:=id hs
 have hTs:s.TypeIs (.ref sl) "slice":=⟨os,hos,hcs⟩
 unfold getItem
 try with_reducible refine wpAny_holding ?_
 first | refine wpAny_bind (wpAny_pure ?_) | skip
 refine wpAny_bind (wpAny_sequenceKey ht.typeIs (by decide) ?_)
 refine wpAny_bind (wpAny_callSpecial?_slot (name:=Str.ofString "__getitem__") ht.typeIs PyProof.Rows.slot_tuple_getitem
  (wpAny_call_entry PyProof.Rows.slot_tuple_getitem ht.typeIs entry_tuple_getitem ?_ (args_tuple_getitem _ _)))
 show wpAny _ _ (Builtin.Tuple.tupleItemsOf (.ref t) >>= _) _ _ s
 refine wpAny_bind (tupleItemsOf_ ht ?_)
 refine wpAny_bind (wpAny_typeOf hTs ?_)
 rw [if_pos (by decide)]
 refine wpAny_bind (sliceApplied_gen hs pl pu ?_)
 have hno:¬ ((((sIx items.size 0 lo:Nat):Int)==0&&(1:Int)==1&&(sIx items.size items.size hi-sIx items.size 0 lo)==items.size)=true):=by
  intro q
  rw [Bool.and_eq_true,Bool.and_eq_true] at q
  have q1:((sIx items.size 0 lo:Nat):Int)=0:=eq_of_beq q.1.1
  have q2:sIx items.size items.size hi-sIx items.size 0 lo=items.size:=eq_of_beq q.2
  exact hw ⟨by omega,by omega⟩
 show wpAny _ _ (if (((sIx items.size 0 lo:Nat):Int)==0&&(1:Int)==1&&(sIx items.size items.size hi-sIx items.size 0 lo)==items.size)=true then _ else _) _ _ s
 rw [if_neg hno,pick_gen]
 first
  | exact wpAny_bind (m:=Builtin.Tuple.tupleExact _) (wpAny_newObj_type (wpAny_pure ⟨_,rfl,wpAny_pure h⟩) htake)
  | exact wpAny_bind (m:=Builtin.Tuple.tupleExact _) (wpAny_newObj_type (wpAny_bind (wpAny_pure (wpAny_pure ⟨_,rfl,wpAny_pure h⟩))) htake)
  | exact wpAny_bind (wpAny_bind (m:=Builtin.Tuple.tupleExact _) (wpAny_newObj_type (wpAny_pure (wpAny_pure ⟨_,rfl,wpAny_pure h⟩)) htake))
  | exact wpAny_bind (wpAny_bind (m:=Builtin.Tuple.tupleExact _) (wpAny_newObj_type (wpAny_pure ⟨_,rfl,wpAny_pure h⟩) htake))
end
end HT
namespace L2
open PySem PySem.Spec PyProof.Rows
abbrev TO:=St→Hp→(Option Int→Hp→Prop)→Prop
def PO (X:Cx) (e:Option Expr) (t:TO):Prop :=
 ∀ (pins:List (Addr × Obj)) (s:Shared) (σ:St) (H:Hp) (Q:Option Int→Hp→Prop),Inv X pins σ H s→t σ H Q →
  wpAny (model X.prog X.w) X.A (evalPart e X.env) (fun u s'=>∃ o H',Inv X pins σ H' s'∧IsPart u o∧Q o H') X.xe s
def tNoPart:TO:=fun _ H Q=>Q none H
def tPart (t:TE):TO:=fun σ H Q=>t σ H fun x H1=>∃ i,x=.int i∧Q (some i) H1
section
variable {X:Cx} {e:Expr} {te:TE} {lo hi:Option Expr} {tl th:TO} {pos p2:Pos}
theorem po_none:PO X none tNoPart:=by
 intro pins s σ H Q I h
 rw [evalPart_none]
 exact wpAny_pure ⟨none,H,I,.none,h⟩
theorem po_some (h:PE X e te):PO X (some e) (tPart te):=by
 intro pins s σ H Q I hw
 rw [evalPart_some]
 refine thn (h pins s σ H _ I hw) fun u s1 ⟨x,H1,I1,r1,q1⟩=>?_
 obtain ⟨i,rfl,q⟩:=q1
 obtain ⟨t,rfl⟩:=r1
 exact ⟨some i,H1,I1,.int i t,q⟩
def SlR (X:Cx) (r:V→Option Int→Option Int→Hp→VK→Prop):Prop :=
 ∀ (pins:List (Addr × Obj)) (s:Shared) (σ:St) (H:Hp) (x:V) (v vl vu:Value) (lo hi:Option Int) (sl:Addr) (Q:VK),Inv X pins σ H s→RelV x v→s.heap.IsSliceOf sl vl vu .none→IsPart vl lo→IsPart vu hi→r x lo hi H Q →
  ∃ T id,typeLookup (.type T) "__getitem__"=pure (some (.builtin id))∧s.TypeIs v T∧wpAny (model X.prog X.w) X.A (getItem v (.ref sl)) (EP X pins σ Q) X.xe s
def tSl (r:V→Option Int→Option Int→Hp→VK→Prop) (te:TE) (tl th:TO):TE:=fun σ H Q=>te σ H fun x H1=>tl σ H1 fun l H2=>th σ H2 fun u H3=>r x l u H3 Q
theorem pe_slice {r:V→Option Int→Option Int→Hp→VK→Prop} (hr:SlR X r) (he:PE X e te) (hl:PO X lo tl) (hu:PO X hi th):PE X (.Subscript e (.Slice lo hi none p2) pos) (tSl r te tl th):=by
 intro pins s σ H Q I h
 refine Subscript_ (thn (he pins s σ H _ I h) fun v s1 ⟨x,H1,I1,r1,q1⟩=>?_)
 refine wpAny_Slice (thn (hl pins s1 σ H1 _ I1 q1) fun vl s2 ⟨l,H2,I2,pl,q2⟩=>thn (hu pins s2 σ H2 _ I2 q2) fun vu s3 ⟨u,H3,I3,pu,q3⟩=>?_)
 rw [evalPart_none]
 refine wpAny_pure ?_
 have I4:Inv X pins σ H3 { s3 with heap:=s3.heap.push { cls:=.type "slice",data:=.fields #[vl,vu,.none] } }:=I3.kept (t':=s3.toks) fun b ob q=>Heap.get?_push_of_some _ q
 obtain ⟨T,id,hT,ht,hg⟩:=hr pins { s3 with heap:=s3.heap.push { cls:=.type "slice",data:=.fields #[vl,vu,.none] } } σ H3 x v vl vu l u s3.heap.objs.size Q I4 r1 (Heap.IsSliceOf.new ..) pl pu q3
 show wpAny (model X.prog X.w) X.A (subscriptTail e (.Slice lo hi none p2) v (.ref s3.heap.objs.size)) (EP X pins σ Q) X.xe { s3 with heap:=s3.heap.push { cls:=.type "slice",data:=.fields #[vl,vu,.none] } }
 exact tail_any (ops:=[.ref s3.heap.objs.size,v]) ht hT hg (by with_unfolding_all rfl)
def cutV (xs:List V) (lo hi:Option Int):List V:=(xs.drop (HT.sIx xs.length 0 lo)).take (HT.sIx xs.length xs.length hi-HT.sIx xs.length 0 lo)
theorem cutV_length (xs:List V) (lo hi:Option Int):(cutV xs lo hi).length≤xs.length:=by
 unfold cutV
 rw [List.length_take,List.length_drop]
 omega
def rSlT (K:PySem.W.Frag):V→Option Int→Option Int→Hp→VK→Prop:=fun x lo hi H Q=>∃ a xs,x=.ref a∧SqT K H a xs ∧
 ¬ (HT.sIx xs.length 0 lo=0∧HT.sIx xs.length xs.length hi=xs.length)∧∀ p,H p=none→Q (.ref p) (upd H p (.tup (cutV xs lo hi)))
theorem sl_tup:SlR X (rSlT X.K):=by
 intro pins s σ H x v vl vu lo hi sl Q I rx hs pl pu h
 obtain ⟨a,xs,rfl,hx,hw,q⟩:=h
 cases rx
 obtain ⟨its,r,ht,hz⟩:=I.tuple hx
 have hlen:its.toArray.size=xs.length:=by rw [List.size_toArray];exact r.length.symm
 refine ⟨"tuple",_,PyProof.Rows.slot_tuple_getitem.lookup,ht.typeIs,?_⟩
 refine HT.getItem_tuple_cut ht hs pl pu (by rw [hlen];exact hw) ?_ (by rw [hlen];exact hz)
 rw [hlen]
 refine ⟨.ref s.heap.objs.size,_,I.laid (t':=s.toks) (o:=.tup (cutV xs lo hi)) (fun b ob q=>Heap.get?_push_of_some _ q) (Nat.le_refl _) ?_,rfl,q _ (I.hok.fresh (Nat.le_refl _))⟩
 exact ⟨Nat.le_trans (cutV_length xs lo hi) hz,_,(r.drop (HT.sIx xs.length 0 lo)).take (HT.sIx xs.length xs.length hi-HT.sIx xs.length 0 lo),IsTup.new _ _⟩
end
end L2
namespace L2
open PySem PySem.Spec PyProof.Rows
def ixN (n:Nat) (i:Int):Option Nat:=if 0≤i then (if i<n then some i.toNat else none) else if -(n:Int)≤i then some (i+n).toNat else none
def atI {α:Type} (xs:List α) (i:Int):Option α:=(ixN xs.length i).bind fun j=>xs[j]?
theorem ixN_seq {n:Nat} {i:Int} {j:Nat} (h:ixN n i=some j):seqIndex? i n=some j∧j<n ∧ -(n:Int)≤i∧i<n:=by
 unfold ixN at h
 by_cases h0:0≤i
 ·rw [if_pos h0] at h
  by_cases h1:i<n
  ·rw [if_pos h1] at h
   have e:i.toNat=j:=Option.some.inj h
   exact ⟨by rw [seqIndex_of h0 h1,e],by omega,by omega,h1⟩
  ·rw [if_neg h1] at h;cases h
 ·rw [if_neg h0] at h
  by_cases h1 : -(n:Int)≤i
  ·rw [if_pos h1] at h
   have e:(i+n).toNat=j:=Option.some.inj h
   exact ⟨by rw [seqIndex_neg (by omega) h1,e],by omega,h1,by omega⟩
  ·rw [if_neg h1] at h;cases h
theorem atI_get {α:Type} {xs:List α} {i:Int} {v:α} (h:atI xs i=some v):∃ j,seqIndex? i xs.length=some j∧xs[j]?=some v∧j<xs.length ∧ -(xs.length:Int)≤i∧i<xs.length:=by
 unfold atI at h
 cases e:ixN xs.length i with
 | none=>rw [e] at h;cases h
 | some j =>
  rw [e] at h
  obtain ⟨h1,h2,h3,h4⟩:=ixN_seq e
  exact ⟨j,h1,h,h2,h3,h4⟩
def PlainIx (b:Expr):Prop:=∀ o i,subscripted b false o i=operate [o,i] (getItem o i)
def IxR (X:Cx) (r:R2):Prop :=
 ∀ (value slice:Expr) (pins:List (Addr × Obj)) (s:Shared) (σ:St) (H:Hp) (x y:V) (v u:Value) (Q:VK),Inv X pins σ H s→RelV x v→RelV y u→r x y H Q →
  subscripted slice false v u=operate [v,u] (getItem v u)→wpAny (model X.prog X.w) X.A (subscriptTail value slice v u) (EP X pins σ Q) X.xe s
def MtR (X:Cx) (id:String) (r:V→List V→Hp→VK→Prop):Prop :=
 ∀ (pins:List (Addr × Obj)) (s:Shared) (σ:St) (H:Hp) (x:V) (xs:List V) (v:Value) (us:List Value) (Q:VK),Inv X pins σ H s→RelV x v→Vals xs us→r x xs H Q →
  wpAny (model X.prog X.w) X.A (call (.builtin id) (v::us)) (EP X pins σ Q) X.xe s
section
variable {X:Cx} {a b:Expr} {ta tb:TE} {pos:Pos}
theorem pe_ix {r:R2} (hr:IxR X r) (ha:PE X a ta) (hb:PE X b tb) (hs:PlainIx b):PE X (.Subscript a b pos) (tOp r ta tb):=by
 intro pins s σ H Q I h
 exact Subscript_ (binT ha hb I h fun v u s2 x y H2 I2 rx ry q=>hr a b pins s2 σ H2 x y v u Q I2 rx ry q (hs _ _))
def rIxL (K:PySem.W.Frag):R2:=fun x y H Q=>∃ p xs i v,x=.ref p∧y=.int i∧SqL K H p xs∧atI xs i=some v∧Q v H
def rIxT (K:PySem.W.Frag):R2:=fun x y H Q=>∃ p xs i v,x=.ref p∧y=.int i∧SqT K H p xs∧atI xs i=some v∧Q v H
theorem ix_list:IxR X (rIxL X.K):=by
 intro value slice pins s σ H x y v u Q I rx ry h hs
 obtain ⟨p,xs,i,z,rfl,rfl,hq,he,q⟩:=h
 cases rx
 obtain ⟨t,rfl⟩:=ry
 obtain ⟨its,r,pl,hz⟩:=I.list hq
 obtain ⟨j,h1,h2,h3,h4,h5⟩:=atI_get he
 obtain ⟨w,ew,rw'⟩:=r.get h2
 have hl:=r.length
 have hn:=line63
 have fin:EP X pins σ Q w s:=⟨z,H,I,rw',q⟩
 by_cases h0:0≤i
 ·have hj:i.toNat=j:=by
   rw [seqIndex_of h0 h5] at h1
   exact Option.some.inj h1
  exact item_listR pl.isList h0 (by omega) (by rw [hj];simpa using ew) fin hs
 ·have hj:(i+(its.toArray.size:Int)).toNat=j:=by
   rw [seqIndex_neg (by omega) h4] at h1
   rw [List.size_toArray,← hl]
   exact Option.some.inj h1
  exact subscriptTail_builtinR (x:=w) pl.isList.typeIs slot_list_getitem.lookup
   (wpAny_getItem_list_neg (Q:=fun r s'=>r=w∧EP X pins σ Q r s') pl.isList (by omega) (by rw [List.size_toArray]<;>omega) (by omega) (by rw [hj];simpa using ew) ⟨rfl,fin⟩) hs
theorem ix_tup:IxR X (rIxT X.K):=by
 intro value slice pins s σ H x y v u Q I rx ry h hs
 obtain ⟨p,xs,i,z,rfl,rfl,hq,he,q⟩:=h
 cases rx
 obtain ⟨t,rfl⟩:=ry
 obtain ⟨its,r,pl,hz⟩:=I.tuple hq
 obtain ⟨j,h1,h2,h3,h4,h5⟩:=atI_get he
 obtain ⟨w,ew,rw'⟩:=r.get h2
 have hl:=r.length
 have hn:=line63
 have fin:EP X pins σ Q w s:=⟨z,H,I,rw',q⟩
 exact subscriptTail_builtinR (x:=w) pl.typeIs slot_tuple_getitem.lookup
  (getItem_tuple (j:=j) (Q:=fun r s'=>r=w∧EP X pins σ Q r s') pl (by omega) (by omega) (by rw [List.size_toArray,← hl];exact h1) (by simpa using ew) ⟨rfl,fin⟩) hs
theorem slice_bounds (lo hi:Option Int) (n:Nat):(sliceBounds lo hi none n).1=((HT.sIx n 0 lo:Nat):Int)∧(sliceBounds lo hi none n).2.1=((HT.sIx n n hi:Nat):Int)∧(sliceBounds lo hi none n).2.2=1:=by
 refine ⟨?_,?_,rfl⟩
 ·cases lo with
  | none=>simp [sliceBounds,HT.sIx]
  | some i =>
   simp only [sliceBounds,HT.sIx,Option.getD_none,show (1:Int)>0 by decide,if_true]
   by_cases h:i<0
   ·simp only [h,if_true]<;>omega
   ·simp only [h,if_false]<;>omega
 ·cases hi with
  | none=>simp [sliceBounds,HT.sIx]
  | some i =>
   simp only [sliceBounds,HT.sIx,Option.getD_none,show (1:Int)>0 by decide,if_true]
   by_cases h:i<0
   ·simp only [h,if_true]<;>omega
   ·simp only [h,if_false]<;>omega
theorem slicePick_cut (its:List Value) (lo hi:Option Int):slicePick its.toArray lo hi none=((its.drop (HT.sIx its.length 0 lo)).take (HT.sIx its.length its.length hi-HT.sIx its.length 0 lo)).toArray:=by
 obtain ⟨h1,h2,h3⟩:=slice_bounds lo hi its.toArray.size
 unfold slicePick
 rw [h1,h2,h3]
 simp only [sliceRange_one,pick_run,List.size_toArray]<;>rfl
def rSlL (K:PySem.W.Frag):V→Option Int→Option Int→Hp→VK→Prop:=fun x lo hi H Q=>∃ a xs,x=.ref a∧SqL K H a xs∧∀ p,H p=none→Q (.ref p) (upd H p (.lst (cutV xs lo hi)))
theorem sl_list:SlR X (rSlL X.K):=by
 intro pins s σ H x v vl vu lo hi sl Q I rx hs pl pu h
 obtain ⟨a,xs,rfl,hx,q⟩:=h
 cases rx
 obtain ⟨its,r,ht,hz⟩:=I.list hx
 have hlen:=r.length
 refine ⟨"list",_,slot_list_getitem.lookup,ht.isList.typeIs,?_⟩
 refine wpAny_getItem_list_slice ht.isList hs pl pu .none (by simp) ?_ (by rw [List.size_toArray]<;>omega)
 rw [slicePick_cut,← hlen]
 refine ⟨.ref s.heap.objs.size,_,I.laid (t':=s.toks) (o:=.lst (cutV xs lo hi)) (fun b ob q=>Heap.get?_push_of_some _ q) (Nat.le_refl _) ?_,rfl,q _ (I.hok.fresh (Nat.le_refl _))⟩
 exact ⟨Nat.le_trans (cutV_length xs lo hi) hz,_,0,(r.drop (HT.sIx xs.length 0 lo)).take (HT.sIx xs.length xs.length hi-HT.sIx xs.length 0 lo),Heap.get?_push_size _ rfl⟩
theorem call_len_seq:CallR X (.builtin "len") (fun xs H Q=>∃ p ys,xs=[.ref p]∧(SqL X.K H p ys∨SqT X.K H p ys)∧Q (.int ys.length) H):=by
 intro pins s σ H xs us Q I r h
 obtain ⟨p,ys,rfl,hq,q⟩:=h
 obtain ⟨u,rfl,rx⟩:=vals1 r
 cases rx
 have hn:=line63
 rcases hq with hq | hq
 ·obtain ⟨its,r',pl,hz⟩:=I.list hq
  have hlen:=r'.length
  exact Calls.call_len_list pl.isList (by simp only [List.size_toArray]<;>omega) ⟨.int ys.length,H,I.tok _,⟨s.toks+1,by rw [List.size_toArray,hlen]⟩,q⟩
 ·obtain ⟨its,r',pl,hz⟩:=I.tuple hq
  have hlen:=r'.length
  exact len_tuple pl (by simp only [List.size_toArray]<;>omega) ⟨.int ys.length,H,I.tok _,⟨s.toks+1,by rw [List.size_toArray,hlen]⟩,q⟩
theorem call_tuple_of:CallR X (.type "tuple") (fun xs H Q=>∃ p ys,xs=[.ref p]∧((SqL X.K H p ys∧∀ l,H l=none→Q (.ref l) (upd H l (.tup ys)))∨(SqT X.K H p ys∧Q (.ref p) H))):=by
 intro pins s σ H xs us Q I r h
 obtain ⟨p,ys,rfl,h⟩:=h
 obtain ⟨u,rfl,rx⟩:=vals1 r
 cases rx
 rcases h with ⟨hq,q⟩ | ⟨hq,q⟩
 ·obtain ⟨its,r',pl,hz⟩:=I.list hq
  have hlen:=r'.length
  refine call_tuple_list pl.isList (fun h' kp=>?_) (by simp only [List.size_toArray]<;>omega)
  have I1:Inv X pins σ H { s with heap:=h' }:=I.kept (t':=s.toks) kp
  have I2:Inv X pins σ (upd H h'.objs.size (.tup ys)) { s with heap:=h'.push { cls:=.type "tuple",data:=.seq its.toArray } } :=
   I1.laid (t':=s.toks) (fun b o e=>Heap.get?_push_of_some _ e) (Nat.le_refl _) (show ObjOk X.prog X.w _ _ _ (.tup ys) from ⟨hz,its,r',IsTup.new _ _⟩)
  exact ⟨.ref h'.objs.size,_,I2,rfl,q _ (I1.hok.fresh (Nat.le_refl _))⟩
 ·obtain ⟨its,r',pl,hz⟩:=I.tuple hq
  exact call_tuple_same pl ⟨.ref p,H,I,rfl,q⟩
def tyV (K:PySem.W.Frag) (T:String) (x:V) (H:Hp):Prop:=match x with
 | .str _=>T="str"
 | .int _=>T="int"
 | .ref p=>(T="list"∧∃ xs,SqL K H p xs)∨(T="tuple"∧∃ o,K.lookup p=some o∧o.cls=.type "tuple"∧o.dict=none) ∨
   (T="dict"∧((∃ kvs,H p=some (.dK kvs))∨∃ kvs,H p=some (.dT kvs)))∨(T="set"∧∃ S n,H p=some (.set S n))
 | _=>False
theorem tyV_is {pins:List (Addr × Obj)} {σ:St} {H:Hp} {s:Shared} {T:String} {x:V} {v:Value} (I:Inv X pins σ H s) (r:RelV x v) (ty:tyV X.K T x H) :
  s.TypeIs v T∧∀ a,v=.ref a→∃ ob,s.heap.get? a=some ob∧ob.dict=none:=by
 cases x with
 | str z =>
  obtain ⟨t,rfl⟩:=r
  cases (show T="str" from ty)
  exact ⟨typeIs_str s z t,fun _ e=>nomatch e⟩
 | int i =>
  obtain ⟨t,rfl⟩:=r
  cases (show T="int" from ty)
  exact ⟨typeIs_int s i t,fun _ e=>nomatch e⟩
 | ref p =>
  cases r
  rcases ty with ⟨rfl,xs,hq⟩ | ⟨rfl,o,hk,hc,hd⟩ | ⟨rfl,hk⟩ | ⟨rfl,S,n,hk⟩
  ·obtain ⟨its,_,pl,_⟩:=I.list hq
   refine ⟨pl.isList.typeIs,fun a e=>?_⟩
   cases e
   obtain ⟨o,n,e,c,hd,_⟩:=pl
   exact ⟨o,e,hd⟩
  ·refine ⟨⟨o,I.kIn p o hk,hc⟩,fun a e=>?_⟩
   cases e
   exact ⟨o,I.kIn _ o hk,hd⟩
  ·have z:∃ o,s.heap.get? p=some o∧o.ExactDict:=by
    rcases hk with ⟨kvs,hk⟩ | ⟨kvs,hk⟩
    ·obtain ⟨_,_,_,_,o,_,_,e,ex,_⟩:=I.hok p _ hk
     exact ⟨o,e,ex⟩
    ·obtain ⟨_,_,_,_,o,_,_,e,ex,_⟩:=I.hok p _ hk
     exact ⟨o,e,ex⟩
   obtain ⟨o,e,ex⟩:=z
   refine ⟨⟨o,e,ex.1⟩,fun a e2=>?_⟩
   cases e2
   exact ⟨o,e,ex.2.1⟩
  ·obtain ⟨o,_,_,_,e,ex,_⟩:=I.hok p _ hk
   refine ⟨⟨o,e,ex.1⟩,fun a e2=>?_⟩
   cases e2
   exact ⟨o,e,ex.2.1⟩
 | _=>exact False.elim ty
def tBM0 (K:PySem.W.Frag) (T:String) (r:V→List V→Hp→VK→Prop) (to:TE):TE:=fun σ H Q=>to σ H fun x H1=>tyV K T x H1∧r x [] H1 Q
def tBM (K:PySem.W.Frag) (T:String) (r:V→List V→Hp→VK→Prop) (to:TE) (t:TA):TE:=fun σ H Q=>to σ H fun x H1=>tyV K T x H1∧t σ H1 fun xs H2=>r x xs H2 Q
variable {o e:Expr} {es:List Expr} {to:TE} {t:TA} {name:Str} {apos cpos:Pos} {T id:String} {r:V→List V→Hp→VK→Prop}
theorem pe_bm0 (pa:PlainAttrs T) (slot:Slot T name id) (hty:typeOf (.builtin id)=pure (.type "method_descriptor")) (hm:MtR X id r) (ho:PE X o to)
  (hbase:attributeBase o name X.env (eval o X.env)=eval o X.env:=by rfl) (hline:(apos.endLine==cpos.line)=true:=by rfl):PE X (.Call (.Attribute o name apos) [] [] cpos) (tBM0 X.K T r to):=by
 intro pins s σ H Q I h
 refine wpAny_Call_method0_late hbase hline (thn (ho pins s σ H _ I h) fun v s1 ⟨x,H1,I1,r1,ty,q1⟩=>?_)
 obtain ⟨h1,h2⟩:=tyV_is I1 r1 ty
 exact ⟨T,id,pa,slot,hty,h1,h2,Calls.callWith_builtin rfl (PySem.evalArgs_none (hm pins s1 σ H1 x [] v [] Q I1 r1 .nil q1))⟩
theorem pe_bm (pa:PlainAttrs T) (slot:Slot T name id) (hty:typeOf (.builtin id)=pure (.type "method_descriptor")) (hm:MtR X id r) (ho:PE X o to) (ha:PA X (e::es) t)
  (hbase:attributeBase o name X.env (eval o X.env)=eval o X.env:=by rfl)
  (hfew:((backTo cpos (starEach (e::es) X.env)).all (fun x=>!x.1)&&(backToKw cpos (keywordEach [] X.env)).all (fun x=>x.1.isSome)
   && decide ((e::es).length+([]:List Keyword).length+(if ([]:List Keyword).isEmpty then 0 else 1)<30))=true:=by rfl)
  (hline:(apos.endLine==cpos.line)=true:=by rfl) (hs:starEach (e::es) X.env=(false,eval e X.env)::starEach es X.env:=by rfl) (hplain:(backTo cpos (starEach es X.env)).any (·.1)=false:=by rfl) :
  PE X (.Call (.Attribute o name apos) (e::es) [] cpos) (tBM X.K T r to t):=by
 intro pins s σ H Q I h
 refine wpAny_Call_method_late hbase hfew hline rfl (thn (ho pins s σ H _ I h) fun v s1 ⟨x,H1,I1,r1,ty,q1⟩=>?_)
 obtain ⟨h1,h2⟩:=tyV_is I1 r1 ty
 refine ⟨T,id,pa,slot,hty,h1,h2,?_⟩
 have hA:=ha cpos pins s1 σ H1 _ I1 q1
 rw [hs] at hA ⊢
 refine Calls.callWith_builtin (by show (false||(backTo cpos (starEach es X.env)).any (·.1))=false;rw [hplain]<;>rfl) (Calls.evalArgs_plain ?_)
 exact thn hA fun us s2 ⟨vs,H2,I2,r2,q2⟩=>hm pins s2 σ H2 x vs v us Q I2 r1 r2 q2
end
end L2
namespace L2
open PySem PySem.Spec PyProof.Rows
def MtM (X:Cx) (id:String) (r:V→List V→Hp→VK→Prop):Prop :=
 ∀ (pins:List (Addr × Obj)) (s:Shared) (σ:St) (H:Hp) (x:V) (xs:List V) (v:Value) (us:List Value) (Q:VK),Inv X pins σ H s→RelV x v→Vals xs us→r x xs H Q →
  wpAny (model X.prog X.w) X.A (call (.builtin id) (v::us)) (EP X pins σ Q) X.xe s
theorem Vals.one:∀ {x:V} {us:List Value},Vals [x] us→∃ u,us=[u]∧RelV x u
 | _,_,.cons r .nil=>⟨_,rfl,r⟩
theorem Vals.two:∀ {x y:V} {us:List Value},Vals [x,y] us→∃ u v,us=[u,v]∧RelV x u∧RelV y v
 | _,_,_,.cons r (.cons q .nil)=>⟨_,_,rfl,r,q⟩
theorem Vals.zero:∀ {us:List Value},Vals [] us→us=[]
 | _,.nil=>rfl
theorem Vals.dropLast {xs:List V} {us:List Value} (h:Vals xs us):Vals xs.dropLast us.dropLast:=by
 induction h with
 | nil=>exact .nil
 | cons r t ih =>
  cases t with
  | nil=>exact .nil
  | cons q t'=>exact .cons r ih
theorem erase_last {α:Type} (l:List α):l.eraseIdx (l.length-1)=l.dropLast:=by
 induction l with
 | nil=>rfl
 | cons a r ih =>
  cases r with
  | nil=>rfl
  | cons b r =>
   have e:(a::b::r).length-1=((b::r).length-1)+1:=by
    have h1:(a::b::r).length=r.length+2:=rfl
    have h2:(b::r).length=r.length+1:=rfl
    omega
   rw [e,List.eraseIdx_cons_succ,ih]
   all_goals rfl
section
variable {X:Cx} {pins:List (Addr × Obj)} {σ:St} {H:Hp} {s:Shared} {l b:Addr} {xs ys zs:List V}
theorem Inv.lset {its its':List Value} {n:Nat} {f:Array Value→Array Value} {t':Nat} (I:Inv X pins σ H s) (hH:H l=some (.lst xs))
  (e:s.heap.get? l=some { cls:=.type "list",data:=.seq its.toArray n }) (hf:f its.toArray=its'.toArray) (hv:Vals ys its') (hz:ys.length≤sizeLine) :
  Inv X pins σ (upd H l (.lst ys)) { s with heap:=s.heap.update l (Obj.mapSeq f),toks:=t' }:=by
 have q:=PySem.IsL.update e f
 rw [hf] at q
 refine I.write (x:=l) (e:=l) (by rw [hH];exact trivial) (.inl rfl) (fun b' u hb hu=>(Heap.get?_update_other s.heap (Obj.mapSeq f) (Ne.symm hb)).trans hu) ⟨_,q⟩ ?_
 exact ⟨hz,its',_,hv,q⟩
theorem Inv.lnew {its:List Value} {t':Nat} (I:Inv X pins σ H s) (hv:Vals ys its) (hz:ys.length≤sizeLine) :
  Inv X pins σ (upd H s.heap.objs.size (.lst ys)) { s with heap:=s.heap.push { cls:=.type "list",data:=.seq its.toArray },toks:=t' } :=
 I.laid (fun _ _ q=>Heap.get?_push_of_some _ q) (Nat.le_refl _) ⟨hz,its,0,hv,Heap.get?_push_size _ rfl⟩
theorem Inv.fresh (I:Inv X pins σ H s):H s.heap.objs.size=none:=I.hok.fresh (Nat.le_refl _)
theorem Inv.lstM (I:Inv X pins σ H s) (hH:H l=some (.lst xs)):xs.length≤sizeLine∧∃ (its:List Value) (n:Nat),Vals xs its∧xs.length=its.length∧s.heap.get? l=some { cls:=.type "list",data:=.seq its.toArray n }:=by
 obtain ⟨z,its,n,r,e⟩:=I.hok l _ hH
 exact ⟨z,its,n,r,r.length,e⟩
theorem notLongL {n:Nat} (h:n≤sizeLine):Builtin.List.listTooLong n=false:=by
 unfold Builtin.List.listTooLong
 exact decide_eq_false (by omega)
end
section
variable {X:Cx}
def rAppend:V→List V→Hp→VK→Prop:=fun x vs H Q=>∃ l xs y,x=.ref l∧vs=[y]∧H l=some (.lst xs)∧xs.length<sizeLine∧Q .non (upd H l (.lst (xs++[y])))
theorem mt_append:MtM X "list.append" rAppend:=by
 intro pins s σ H x vs v us Q I rx rv h
 obtain ⟨l,xs,y,rfl,rfl,hH,hz,q⟩:=h
 cases rx
 obtain ⟨u,rfl,ru⟩:=rv.one
 obtain ⟨z,its,n,r,hl,e⟩:=I.lstM hH
 refine call_meets F.slot_list_append ⟨_,e,rfl⟩ F.entry_list_append (F.args_list_append_2 _ _) (PySem.list_append l its.toArray n u (by rw [List.size_toArray];omega)) ⟨e,?_⟩
 refine ⟨.non,_,I.lset (its':=its++[u]) hH e (by simp) (r.append (.cons ru .nil)) ?_,rfl,q⟩
 rw [List.length_append,List.length_singleton]
 omega
def rPop:V→List V→Hp→VK→Prop:=fun x vs H Q=>∃ l xs y,x=.ref l∧vs=[]∧H l=some (.lst xs)∧xs[xs.length-1]?=some y∧Q y (upd H l (.lst xs.dropLast))
theorem mt_pop:MtM X "list.pop" rPop:=by
 intro pins s σ H x vs v us Q I rx rv h
 obtain ⟨l,xs,y,rfl,rfl,hH,hy,q⟩:=h
 cases rx
 have hus:=rv.zero
 subst hus
 obtain ⟨z,its,n,r,hl,e⟩:=I.lstM hH
 obtain ⟨u,hu,ru⟩:=r.get hy
 have hy':its.toArray[its.toArray.size-1]?=some u:=by
  show its.toArray[its.length-1]?=some u
  rw [← Array.getElem?_toList,← hl]
  exact hu
 refine call_meets F.slot_list_pop ⟨_,e,rfl⟩ F.entry_list_pop (F.args_list_pop_1 _) (MeetsSeq.list_pop_last l its.toArray n u hy' (by rw [List.size_toArray];omega)) ⟨e,?_⟩
 refine ⟨y,_,I.lset (its':=its.dropLast) hH e ?_ r.dropLast ?_,ru,q⟩
 ·show its.toArray.eraseIdxIfInBounds (its.toArray.size-1)=its.dropLast.toArray
  rw [List.size_toArray,List.eraseIdxIfInBounds_toArray,erase_last]
 ·rw [List.length_dropLast]
  omega
end
section
variable {prog:Program} {w:World} {A:Around} {E:Value→Shared→Prop} {s:Shared}
set_option maxRecDepth 100000 in
end
section
variable {X:Cx}
end
end L2
namespace Att
open PySem PySem.W PySem.Calls PyProof.Rows
theorem ints_of_wellAll {P:Params} {h:Heap}:∀ (ns:List Int) (vs:List Value),WellAll P h vs (ns.map WData.int)→IntsAre vs ns:=by
 intro ns
 induction ns with
 | nil =>
  intro vs w
  rw [List.map_nil] at w
  cases w
  exact .nil
 | cons n ns ih =>
  intro vs w
  rw [List.map_cons] at w
  cases w with
  | cons a b =>
   cases a
   exact .cons _ _ (ih _ b)
theorem script_of {l:OpenLaw} {n:Nat} (hn:l.most=some n) {P:Params} {h:Heap} {args:List WData} {vals:List Value}
  (hpre:l.row.toRowW.claim.pre args=true) (hwl:WellAll P h vals args) :
  ∃ a vs ns,vals=[Value.ref a]∧args=[WData.list (ns.map WData.int)]∧h.get? a=some { cls:=.type "list",data:=.seq vs.toArray }∧IntsAre vs ns∧ns.length≤n:=by
 have hsh:WShape.hasAll [] args [.list .int]=true:=(pre_splitW hpre).1
 have hc:l.pre.holds [] { args:=args }=true:=(pre_splitW hpre).2
 obtain ⟨d,r,rfl,h1,h2⟩:=hasAllW_cons hsh
 obtain rfl:=hasAllW_nil h2
 obtain ⟨xs,rfl,h3⟩:=hasW_list h1
 obtain ⟨ns,rfl⟩:=items_int h3
 have hlen:ns.length≤n:=by
  unfold OpenLaw.pre at hc
  have h4:(WTm.not (.lt (.lit (.int (n:Int))) (.len (.arg 0)))).holds [] { args:=[.list (ns.map .int)] }=true:=by
   have h4:=(holds_andW hc).1
   rw [hn] at h4
   exact h4
  have h5:=condW_of h4 (w_not (w_lt w_lit (w_len_list (w_arg rfl))))
  rw [List.length_map] at h5
  refine Nat.le_of_not_lt fun q=>?_
  have q':(n:Int)<((ns.length:Nat):Int):=by omega
  first
   | (rw [decide_eq_true q'] at h5;exact absurd h5 (by decide))
   | (simp at h5;omega)
 cases hwl with
 | cons w1 w2 =>
  cases w2
  cases w1 with
  | list ho hall=>exact ⟨_,_,ns,rfl,rfl,ho,ints_of_wellAll ns _ hall,hlen⟩
theorem post_true (l:OpenLaw) (args:List WData):l.row.toRowW.claim.post args (.bool true) args=true :=
 postW_of (r:=l.row.toRowW) (X:=(true==true))
  (show WShape.has [] (.bool true) .bool=true by first | rfl | decide | simp [WShape.has,WShape.arms,WShape.armsAll])
  (show (WTm.eq .res (.lit (.bool true))).value [] { args:=args,res:=some (.bool true),after:=args }=some (.bool (true==true)) from w_eq_bool (w_res rfl) w_lit) rfl
theorem attach_call {l:OpenLaw} {n:Nat} {q:Program} {loose:List Str} {XP:(Str→Option Value)→Heap→Prop} {YP:World→Heap→Prop} {d:DefRec}
  (hn:l.most=some n) (hdf:d.params.defaults=[])
  (call:∀ (w:World) (s₀ s₁:Shared) (mg mb:Str→Option Value) (fa:Addr) (o:Obj) (pm cd doc:Value) (a:Addr) (vs:List Value) (ns:List Int),
   Ground q loose [] XP w s₀ mg mb s₁.heap→YP w s₁.heap →
   s₁.heap.get? fa=some o→o.data=.func (docDef d.name d.params d.body d.scope pm cd doc)→s₁.heap.CodeRec cd d.name→mg d.name=some (.ref fa) →
   s₁.heap.get? a=some { cls:=.type "list",data:=.seq vs.toArray }→IntsAre vs ns→ns.length≤n→s₁.gens=#[] →
   codeAny (model l.prog w) callerA (.call (.ref fa) ⟨[.ref a],[]⟩) (fun r s'=>r=.ok (.ret (.bool true))∧OldK s₁.heap s'.heap∧s'.os=s₁.os∧AllBare s'.gens) s₁) :
  WalkO q loose XP YP l.row.toRowW d [] (fun f vs=>PySem.call f vs):=by
 intro w s₀ s₁ mg mb G Y fa o pm cd doc dV kV ho hd hcd hD hmg hg args vals as hpre hlay hrd hwl hlo
 obtain rfl:dV=.none:=Dflts.none hD hdf
 obtain rfl:kV=.none:=Dflts.noKw hD
 obtain ⟨a,vs,ns,rfl,rfl,hobj,hints,hlen⟩:=script_of hn hpre hwl
 refine enter_call (codeAny_mono (call w s₀ s₁ mg mb fa o pm cd doc a vs ns G Y ho (fd_plain hd) hcd hmg hobj hints hlen hg) fun r s' hq=>?_)
 obtain ⟨rfl,h2,h3,h4⟩:=hq
 exact ⟨.inl ⟨.bool true,.bool true,[],rfl,fun _=>rfl,.bool true,post_true l _,fun _=>⟨List.Pairwise.nil,fun _ hm=>(nomatch hm)⟩⟩,h2,h3,h4⟩
section
variable {prog:Program} {w:World} {A:Around} {E:Value→Shared→Prop} {s:Shared} {K:Frag}
def ledger (h:Heap) (L d:Addr):List (Addr × Obj):=(List.range h.objs.size).filterMap fun a=>if a=L∨a=d then none else (h.get? a).map fun o=>(a,o)
end
end Att
namespace L2
open PySem PySem.Spec PyProof.Rows
theorem vals_ints:∀ {vs:List Value} {ns:List Int},IntsAre vs ns→Vals (ns.map V.int) vs
 | _,_,.nil=>.nil
 | _,_,.cons n t h=>.cons ⟨t,rfl⟩ (vals_ints h)
def Only (H:Hp):Prop:=∀ b,H b=none∨∃ o xs,H b=some (.frz o (.lst xs))
end L2
namespace L2
open PySem PySem.Spec PyProof.Rows
abbrev KOf {K:PySem.W.Frag} {h:Heap} (_:K.In h):PySem.W.Frag:=K
end L2
namespace L2
open PySem PySem.Spec PyProof.Rows
def defArgs (s:Stmt):Arguments:=match s with
 | .FunctionDef _ a _ _ _ _ _ _ _ _=>a
 | _=>{ posonlyargs:=[],args:=[],vararg:=none,kwonlyargs:=[],kw_defaults:=[],kwarg:=none,defaults:=[] }
def defBody (s:Stmt):List Stmt:=match s with
 | .FunctionDef _ _ b _ _ _ _ _ _ _=>b
 | _=>[]
def defScope (s:Stmt):Scope:=match s with
 | .FunctionDef _ _ _ _ _ _ sc _ _ _=>sc
 | _=>{ kind:=.function,names:=[],isGenerator:=false,isCoroutine:=false }
abbrev CX0:CXT:=fun _ _ _ _ _ _=>False
abbrev E0:XK:=fun _ _ _=>False
theorem pass0 {X:Cx}:Passes CX0 X E0:=fun _ _ _ _ _ _ _ h=>h.elim
structure Fun (K:PySem.W.Frag) (x qual:Str) (st:Stmt) (f:Addr) (fd:FuncData):Prop where
 ex:∃ (oc:Value) (od:Option Addr) (kV doc pm:Value) (an:Option Addr) (cdv ct:Value) (osl:Array (Option Value)),
  fd=PySem.W.fnOf x qual (defArgs st) (defBody st) (defScope st) .none kV doc pm an cdv ct∧K.lookup f=some ⟨oc,od,.func fd,osl⟩∧PySem.W.codeIn K cdv qual=true
 kp:PySem.W.keepIn K (.ref f)=true
section
variable {P:Program} {w:World} {K:PySem.W.Frag} {mg:Str→Option Value} {base:Heap}
theorem Fun.ok {x qual:Str} {st:Stmt} {f:Addr} {fd:FuncData} {N ps:List Str} {k:Nat} {sp:Sp} (F:Fun K x qual st f fd) (S:FnScope N ps (defScope st)) (len:∀ vs H Q E,sp vs H Q E→vs.length=ps.length)
  (hbody:∀ (cdv:Value) (A:Around) (outer:List Env) (s:Shared) (H:Hp) (vs:List V) (Q:VK) (E:XK),Room k (A.deeper (envOfC qual (defScope st) s.heap.objs.size f cdv))→sp vs H Q E →
   ∃ t,PSs (cxOf CX0 P w K mg base N qual (defScope st) f cdv A outer s H E).nox (defBody st) t∧t { nx:=fun _ H'=>Q .non H',rt:=Q } (start N vs) H):FnOk P w K mg base CX0 (k+1) f fd ps sp:=by
 obtain ⟨oc,od,kV,doc,pm,an,cdv,ct,osl,rfl,lk,hcd⟩:=F.ex
 refine fn_of lk hcd S len fun A outer s H vs Q E hr hsp=>?_
 obtain ⟨t,h,q⟩:=hbody cdv A outer s H vs Q E hr hsp
 exact ⟨t,h.nox,q⟩
theorem Fun.binds {x qual:Str} {st:Stmt} {f:Addr} {fd:FuncData} {ps:List Str} (F:Fun K x qual st f fd)
  (h:∀ (kV doc pm:Value) (an:Option Addr) (cdv ct:Value) (us:List Value),us.length=ps.length→bindArgs (PySem.W.fnOf x qual (defArgs st) (defBody st) (defScope st) .none kV doc pm an cdv ct) ⟨us,[]⟩=pure (ps.zip us)):Binds K fd ps []:=by
 obtain ⟨oc,od,kV,doc,pm,an,cdv,ct,osl,rfl,lk,hcd⟩:=F.ex
 exact .all (h kV doc pm an cdv ct)
theorem fun_mk {x qual:Str} {st:Stmt} {f:Addr} {oc:Value} {od an:Option Addr} {osl:Array (Option Value)} {kV doc pm cdv ct:Value} (l:K.lookup f=some ⟨oc,od,.func (PySem.W.fnOf x qual (defArgs st) (defBody st) (defScope st) .none kV doc pm an cdv ct),osl⟩)
  (c:PySem.W.codeIn K cdv qual=true) (k:PySem.W.keepIn K (.ref f)=true):Fun K x qual st f (PySem.W.fnOf x qual (defArgs st) (defBody st) (defScope st) .none kV doc pm an cdv ct):=⟨⟨oc,od,kV,doc,pm,an,cdv,ct,osl,rfl,l,c⟩,k⟩
end
theorem small1000 {n:Nat} (h:n≤1000):n<sizeLine:=Nat.lt_of_le_of_lt h (by decide)
section
variable {X:Cx}
end
theorem iteF {A B:Prop} (h:B):if false=true then A else B:=by
 rw [if_neg Bool.false_ne_true]
 exact h
theorem iteT {A B:Prop} (h:A):if true=true then A else B:=by
 rw [if_pos rfl]
 exact h
def Same (H H':Hp):Prop:=∀ b o,H b=some o→H' b=some o
theorem Same.refl (H:Hp):Same H H:=fun _ _ h=>h
theorem Same.trans {H H1 H2:Hp} (a:Same H H1) (b:Same H1 H2):Same H H2:=fun c o h=>b c o (a c o h)
theorem Same.free {H H':Hp} (e:Same H H') {l:Addr} (h:H' l=Option.none):H l=Option.none:=by
 cases q:H l with
 | none=>rfl
 | some o =>
  rw [e l o q] at h
  cases h
theorem Same.seq {K:PySem.W.Frag} {H H':Hp} {a:Addr} {xs:List V} (e:Same H H') (h:SqL K H a xs):SqL K H' a xs:=by
 rcases h with (h | ⟨o,h⟩) | h
 ·exact .inl (.inl (e _ _ h))
 ·exact .inl (.inr ⟨o,e _ _ h⟩)
 ·exact .inr h
end L2
end
noncomputable section
noncomputable section
namespace Ev
open PySem
abbrev Kt:=Sum Int (Option Str)
inductive T where
 | non | bl (b:Bool) | int (i:Int) | str (x:Str) | tup (xs:List T) | lst (xs:List T)
 | dk (ks:List Kt) (vs:List T) | dt (ks:List (List Kt)) (vs:List T)
 deriving Inhabited
inductive Bo where
 | add | sub | mul | fdiv | mod
 deriving DecidableEq
inductive Co where
 | eq | ne | lt | gt | isin | notin | isN | notN | notF
 deriving DecidableEq
inductive Ik where
 | plain | range | enum | zip
 deriving DecidableEq
noncomputable def Ik.pair:Ik→Bool
 | .enum=>true
 | .zip=>true
 | _=>false
inductive Bn where
 | len | toInt | toTuple | sorted | sset
 deriving DecidableEq
inductive E where
 | var (i:Nat) | cst (t:T) | glb (x:Str)
 | bin (o:Bo) (a b:E) | cmp (o:Co) (a b:E)
 | land (a b:E) | lor (a b:E) | lnot (a:E) | neg (a:E) | tru (a:E)
 | tup (es:List E) | lst (es:List E)
 | idx (a b:E) | sli (a:E) (lo hi:Option E)
 | call (f:Str) (es:List E) | blt (f:Bn) (a:E)
 | comp (elt:E) (n:Nat) (k:Ik) (src:List E) (cond:Option E)
 | dgt (a k d:E)
 deriving Inhabited
inductive S where
 | asg (i:Nat) (e:E)
 | app (i:Nat) (e:E)
 | ext (i:Nat) (e:E)
 | dnew (i:Nat)
 | dput (i:Nat) (k v:E)
 | dapp (i:Nat) (k v:E)
 | dnew1 (i:Nat) (k v:E)
 | wloop (i:Nat) (body:List S)
 | lpop (j i:Nat)
 | ifnin (k:E) (i:Nat) (body:List S)
 | ret (e:E)
 | ite (c:E) (a b:List S)
 | loop (is:List Nat) (k:Ik) (src:List E) (body:List S)
 deriving Inhabited
abbrev SZ:Nat:=16777216
abbrev Env:=List (Option T)
structure Glo where
 call:Str→List T→Option T
 con:Str→Option T
noncomputable def keyO:T→Option Kt
 | .int i=>some (.inl i)
 | .str x=>some (.inr (some x))
 | .non=>some (.inr none)
 | _=>none
noncomputable def kT:Kt→T
 | .inl i=>.int i
 | .inr (some x)=>.str x
 | .inr none=>.non
section
variable {κ β:Type} [DecidableEq κ]
noncomputable def lookP:List κ→List β→κ→Option β
 | k::ks,v::vs,q=>if k=q then some v else lookP ks vs q
 | _,_,_=>none
noncomputable def valP:List (κ × β)→κ→Option β
 | [],_=>none
 | p::r,k=>if p.1=k then some p.2 else valP r k
noncomputable def putP (kvs:List (κ × β)) (k:κ) (v:β):List (κ × β) :=
 if (kvs.any fun kv=>decide (kv.1=k))=true then kvs.map (fun kv=>if kv.1=k then (kv.1,v) else kv) else kvs++[(k,v)]
noncomputable def dropP (kvs:List (κ × β)) (k:κ):List (κ × β):=kvs.filter fun kv=>decide (kv.1≠k)
end
noncomputable def insS (x:Str):List Str→List Str
 | []=>[x]
 | y::r=>if y.cps.toList<x.cps.toList then y::insS x r else x::y::r
noncomputable def sortS:List Str→List Str
 | []=>[]
 | x::r=>insS x (sortS r)
noncomputable def dedS:List Str→List Str
 | []=>[]
 | x::r=>if x∈r then dedS r else x::dedS r
noncomputable def txtO:T→Option Str
 | .str x=>some x
 | _=>none
noncomputable def txts:List T→Option (List Str)
 | []=>some []
 | x::r=>(txtO x).bind fun y=>(txts r).bind fun ys=>some (y::ys)
noncomputable def strK:List Kt→Option (List Str)
 | []=>some []
 | k::r=>(txtO (kT k)).bind fun y=>(strK r).bind fun ys=>some (y::ys)
noncomputable def sortT (ss:List Str):Option T:=if ss.length<64 then some (.lst ((sortS ss).map .str)) else none
noncomputable def ssetT (ss:List Str):Option T:=if ss.length<64∧(dedS ss).length≤4 then some (.lst ((sortS (dedS ss)).map .str)) else none
noncomputable def small (i:Int):Bool:=decide (-18446744073709551616<i)&&decide (i<18446744073709551616)
noncomputable def addT:T→T→Option T
 | .int a,y=>(match y with
  | .int b=>some (.int (a+b))
  | _=>none)
 | .lst a,y=>(match y with
  | .lst b=>if a.length+b.length≤SZ then some (.lst (a++b)) else none
  | _=>none)
 | .tup a,y=>(match y with
  | .tup b=>if a.length+b.length≤SZ then some (.tup (a++b)) else none
  | _=>none)
 | _,_=>none
noncomputable def subT:T→T→Option T
 | .int a,.int b=>some (.int (a-b))
 | _,_=>none
noncomputable def mulT:T→T→Option T
 | .int a,.int b=>if small a||small b then some (.int (a*b)) else none
 | _,_=>none
noncomputable def fdivT:T→T→Option T
 | .int a,.int b=>if 0<b∧b<1073741824 then some (.int (a/b)) else none
 | _,_=>none
noncomputable def modT:T→T→Option T
 | .int a,.int b=>if 0<b then some (.int (a%b)) else none
 | _,_=>none
noncomputable def binT:Bo→T→T→Option T
 | .add=>addT | .sub=>subT | .mul=>mulT | .fdiv=>fdivT | .mod=>modT
mutual
noncomputable def eqT:T→T→Bool
 | .non,.non=>true
 | .bl a,.bl b=>a==b
 | .bl a,.int b=>(if a then 1 else 0)==b
 | .int a,.bl b=>a==(if b then 1 else 0)
 | .int a,.int b=>a==b
 | .str a,.str b=>a==b
 | .tup a,.tup b=>eqTs a b
 | .lst a,.lst b=>eqTs a b
 | _,_=>false
noncomputable def eqTs:List T→List T→Bool
 | [],[]=>true
 | x::xs,y::ys=>eqT x y&&eqTs xs ys
 | _,_=>false
end
mutual
noncomputable def dpP:T→T→Nat
 | .tup a,.tup b=>dpPs a b+1
 | .lst a,.lst b=>dpPs a b+1
 | .dk _ _,_=>20000
 | .dt _ _,_=>20000
 | _,.dk _ _=>20000
 | _,.dt _ _=>20000
 | _,_=>0
noncomputable def dpPs:List T→List T→Nat
 | x::xs,y::ys=>max (dpP x y) (dpPs xs ys)
 | _,_=>0
end
noncomputable def flat:T→Bool
 | .tup _=>false
 | .lst _=>false
 | .dk _ _=>false
 | .dt _ _=>false
 | _=>true
noncomputable def eqC (x y:T):Option T:=if dpP x y≤30 then some (.bl (eqT x y)) else none
noncomputable def neC (x y:T):Option T:=if dpP x y≤30 then some (.bl (!eqT x y)) else none
noncomputable def ltC:T→T→Option T
 | .int a,.int b=>some (.bl (decide (a<b)))
 | .str a,.str b=>some (.bl (decide (a.cps.toList<b.cps.toList)))
 | _,_=>none
noncomputable def seqOf:T→Option (List T)
 | .tup xs=>some xs
 | .lst xs=>some xs
 | _=>none
noncomputable def dpI (x:T) (xs:List T):Bool:=xs.all fun z=>decide (dpP z x≤30)
noncomputable def inC (x y:T):Option Bool :=
 match y with
 | .tup xs=>if dpI x xs then some (xs.any fun z=>eqT z x) else none
 | .lst xs=>if dpI x xs then some (xs.any fun z=>eqT z x) else none
 | .dk ks _=>(match x with
  | .str y=>some (ks.any fun q=>decide (q=.inr (some y)))
  | _=>none)
 | _=>none
noncomputable def cmpT:Co→T→T→Option T
 | .eq,x,y=>eqC x y
 | .ne,x,y=>neC x y
 | .lt,x,y=>ltC x y
 | .gt,x,y=>(match x,y with
  | .int a,.int b=>some (.bl (decide (b<a)))
  | _,_=>none)
 | .isin,x,y=>(inC x y).map .bl
 | .notin,x,y=>(inC x y).map fun b=>.bl (!b)
 | .isN,x,y=>(match x,y with
  | .non,.non=>some (.bl true)
  | _,.non=>some (.bl false)
  | _,_=>none)
 | .notN,x,y=>(match x,y with
  | .non,.non=>some (.bl false)
  | _,.non=>some (.bl true)
  | _,_=>none)
 | .notF,x,y=>(match x,y with
  | .bl b,.bl false=>some (.bl b)
  | .non,.bl false=>some (.bl true)
  | _,_=>none)
noncomputable def ixI (n:Nat) (i:Int):Option Nat:=if 0≤i then (if i<n then some i.toNat else none) else if -(n:Int)≤i then some (i+n).toNat else none
noncomputable def getI (xs:List T) (i:Int):Option T:=(ixI xs.length i).bind fun j=>xs[j]?
noncomputable def idxT:T→T→Option T
 | .tup xs,.int i=>getI xs i
 | .lst xs,.int i=>getI xs i
 | _,_=>none
noncomputable def clip (n d:Nat):Option Int→Nat
 | none=>d
 | some v=>if v<0 then (v+(n:Int)).toNat else min v.toNat n
noncomputable def cut (xs:List T) (lo hi:Option Int):List T:=(xs.drop (clip xs.length 0 lo)).take (clip xs.length xs.length hi-clip xs.length 0 lo)
noncomputable def sliT:T→Option Int→Option Int→Option T
 | .tup xs,lo,hi=>some (.tup (cut xs lo hi))
 | .lst xs,lo,hi=>some (.lst (cut xs lo hi))
 | _,_,_=>none
noncomputable def truT:T→Option Bool
 | .non=>some false
 | .bl b=>some b
 | .int i=>some (i != 0)
 | .tup xs=>some (!xs.isEmpty)
 | .lst xs=>some (!xs.isEmpty)
 | _=>none
noncomputable def bltT:Bn→T→Option T
 | .len,x=>(match x with
  | .tup xs=>some (.int xs.length)
  | .lst xs=>some (.int xs.length)
  | _=>none)
 | .toInt,x=>(match x with
  | .int i=>some (.int i)
  | .bl b=>some (.int (if b then 1 else 0))
  | _=>none)
 | .toTuple,x=>(match x with
  | .tup xs=>some (.tup xs)
  | .lst xs=>some (.tup xs)
  | _=>none)
 | .sorted,x=>(match x with
  | .dk ks _=>(strK ks).bind sortT
  | .lst xs=>(txts xs).bind sortT
  | _=>none)
 | .sset,x=>(match x with
  | .lst xs=>(txts xs).bind ssetT
  | _=>none)
noncomputable def dgtT:T→T→T→Option T
 | .dk ks vs,.str y,d=>some ((lookP ks vs (.inr (some y))).getD d)
 | _,_,_=>none
noncomputable def enumT:List T→Nat→List T
 | [],_=>[]
 | x::r,i=>.tup [.int i,x]::enumT r (i+1)
noncomputable def zipT:List T→List T→List T
 | x::xs,y::ys=>.tup [x,y]::zipT xs ys
 | _,_=>[]
noncomputable def rangeT (n:Nat):List T:=(List.range n).map fun (i:Nat)=>T.int (i:Int)
noncomputable def ascii (x:Str):Bool:=x.cps.all (·<128)
noncomputable def items:Ik→List T→Option (List T)
 | .plain,l=>(match l with
  | [.tup xs]=>some xs
  | [.lst xs]=>some xs
  | _=>none)
 | .range,l=>(match l with
  | [.int n]=>if -4611686018427387904≤n∧n<4611686018427387904 then some (rangeT n.toNat) else none
  | _=>none)
 | .enum,l=>(match l with
  | [.tup xs]=>some (enumT xs 0)
  | [.lst xs]=>some (enumT xs 0)
  | _=>none)
 | .zip,l=>(match l with
  | [x,y]=>(seqOf x).bind fun xs=>(seqOf y).bind fun ys=>some (zipT xs ys)
  | _=>none)
noncomputable def itemsC (k:Ik) (xs:List T):Option (List T):=(items k xs).bind fun its=>if its.length≤SZ then some its else none
noncomputable def bnd (n:Nat) (x:T) (ρ:Env):Option Env :=
 if n=1 then some (some x::ρ) else
  match x with
  | .tup xs=>if xs.length=n then some (xs.map some++ρ) else none
  | _=>none
noncomputable def compM (f:T→Option (Option T)):List T→Option (List T)
 | []=>some []
 | x::xs=>(f x).bind fun r=>(compM f xs).bind fun rs=>match r with
  | none=>some rs
  | some y=>some (y::rs)
noncomputable def asI:Option T→Option (Option Int)
 | none=>some none
 | some (.int i)=>some (some i)
 | some _=>none
mutual
noncomputable def evE (G:Glo):E→Env→Option T
 | .var i,ρ=>(ρ[i]?).join
 | .cst t,_=>some t
 | .glb x,_=>G.con x
 | .bin o a b,ρ=>(evE G a ρ).bind fun x=>(evE G b ρ).bind fun y=>binT o x y
 | .cmp o a b,ρ=>(evE G a ρ).bind fun x=>(evE G b ρ).bind fun y=>cmpT o x y
 | .land a b,ρ=>(evE G a ρ).bind fun x=>match x with
  | .bl true=>evE G b ρ
  | .bl false=>some (.bl false)
  | _=>none
 | .lor a b,ρ=>(evE G a ρ).bind fun x=>match x with
  | .bl true=>some (.bl true)
  | .bl false=>evE G b ρ
  | _=>none
 | .lnot a,ρ=>(evE G a ρ).bind fun x=>match x with
  | .bl b=>some (.bl (!b))
  | _=>none
 | .neg a,ρ=>(evE G a ρ).bind fun x=>match x with
  | .int i=>some (.int (-i))
  | _=>none
 | .tru a,ρ=>(evE G a ρ).bind fun x=>(truT x).map .bl
 | .tup es,ρ=>if es.length≤1000 then (evEs G es ρ).map .tup else none
 | .lst es,ρ=>if es.length≤1000 then (evEs G es ρ).map .lst else none
 | .idx a b,ρ=>(evE G a ρ).bind fun x=>(evE G b ρ).bind fun y=>idxT x y
 | .sli a lo hi,ρ=>(evE G a ρ).bind fun x=>(evO G lo ρ).bind fun l=>(evO G hi ρ).bind fun h=>(asI l).bind fun l'=>(asI h).bind fun h'=>sliT x l' h'
 | .call f es,ρ=>(evEs G es ρ).bind fun xs=>G.call f xs
 | .blt f a,ρ=>(evE G a ρ).bind fun x=>bltT f x
 | .comp elt n k src cond,ρ=>(evEs G src ρ).bind fun xs=>(itemsC k xs).bind fun its =>
   (compM (fun x=>(bnd n x ρ).bind fun ρ'=>(evO G cond ρ').bind fun c=>match c with
    | none=>(evE G elt ρ').map some
    | some (.bl true)=>(evE G elt ρ').map some
    | some (.bl false)=>some none
    | some _=>none) its).map .lst
 | .dgt a k d,ρ=>(evE G a ρ).bind fun x=>(evE G k ρ).bind fun y=>(evE G d ρ).bind fun z=>dgtT x y z
noncomputable def evEs (G:Glo):List E→Env→Option (List T)
 | [],_=>some []
 | e::es,ρ=>(evE G e ρ).bind fun x=>(evEs G es ρ).bind fun xs=>some (x::xs)
noncomputable def evO (G:Glo):Option E→Env→Option (Option T)
 | none,_=>some none
 | some e,ρ=>(evE G e ρ).map some
end
inductive Sl where
 | no | val (t:T) | own (ts:List T) | dk (kvs:List (Kt × T))
 | dl (kvs:List (Kt × List T))
 deriving Inhabited
noncomputable def Sl.isDl:Sl→Bool
 | .dl _=>true
 | _=>false
noncomputable def Sl.get:Sl→Option T
 | .val t=>some t
 | _=>none
noncomputable def Sl.frz:Sl→Sl
 | .own ts=>.val (.lst ts)
 | .dk kvs=>.val (.dk (kvs.map (·.1)) (kvs.map (·.2)))
 | .dl kvs=>.val (.dk (kvs.map (·.1)) (kvs.map fun p=>T.lst p.2))
 | s=>s
inductive Out where
 | nx (τ:List Sl) | rt (t:T)
 deriving Inhabited
noncomputable def view (τ:List Sl):Env:=τ.map Sl.get
noncomputable def frzAt:List Nat→List Sl→List Sl
 | [],τ=>τ
 | i::r,τ=>frzAt r (τ.modify i Sl.frz)
mutual
noncomputable def vars:E→List Nat
 | .var i=>[i]
 | .cst _=>[] | .glb _=>[]
 | .bin _ a b=>vars a++vars b
 | .cmp _ a b=>vars a++vars b
 | .land a b=>vars a++vars b
 | .lor a b=>vars a++vars b
 | .lnot a=>vars a
 | .neg a=>vars a
 | .tru a=>vars a
 | .tup es=>varsL es
 | .lst es=>varsL es
 | .idx a b=>vars a++vars b
 | .sli a lo hi=>vars a++(varsO lo++varsO hi)
 | .call _ es=>varsL es
 | .blt _ a=>vars a
 | .comp elt n _ src cond=>varsL src++((vars elt++varsO cond).filterMap fun i=>if n≤i then some (i-n) else none)
 | .dgt a k d=>vars a++(vars k++vars d)
noncomputable def varsL:List E→List Nat
 | []=>[]
 | e::es=>vars e++varsL es
noncomputable def varsO:Option E→List Nat
 | none=>[]
 | some e=>vars e
end
noncomputable def fresh:E→Bool
 | .lst _=>true
 | .bin .add _ _=>true
 | _=>false
noncomputable def slotOf (e:E) (t:T):Sl:=match fresh e,t with
 | true,.lst ts=>.own ts
 | _,t=>.val t
noncomputable def setAll:List Nat→List T→List Sl→Option (List Sl)
 | [],[],τ=>some τ
 | i::is,x::xs,τ=>setAll is xs (τ.set i (.val x))
 | _,_,_=>none
noncomputable def bndS (is:List Nat) (x:T) (τ:List Sl):Option (List Sl) :=
 match is,x with
 | [i],x=>some (τ.set i (.val x))
 | is,.tup xs=>setAll is xs τ
 | _,_=>none
noncomputable def loopM (f:T→List Sl→Option Out):List T→List Sl→Option Out
 | [],τ=>some (.nx τ)
 | x::xs,τ=>(f x τ).bind fun o=>match o with
  | .nx τ'=>loopM f xs τ'
  | .rt t=>some (.rt t)
noncomputable def putS (s:Option Sl) (k v:T):Option Sl :=
 match s with
 | some (.dk kvs)=>(keyO k).bind fun q=>if kvs.length<SZ then some (.dk (putP kvs q v)) else none
 | _=>none
noncomputable def sdP (kvs:List (Kt × List T)) (q:Kt):List (Kt × List T):=if (kvs.any fun p=>decide (p.1=q))=true then kvs else kvs++[(q,[])]
noncomputable def apP (kvs:List (Kt × List T)) (q:Kt) (y:T):List (Kt × List T):=kvs.map fun p=>if p.1=q then (p.1,p.2++[y]) else p
noncomputable def sdS (τ:List Sl) (i:Nat) (q:Kt):Option (List (Kt × List T)) :=
 match τ[i]? with
 | some (.dk kvs)=>if (kvs.isEmpty&&!τ.any Sl.isDl)=true then some [(q,[])] else none
 | some (.dl kvs)=>if kvs.length<SZ then some (sdP kvs q) else none
 | _=>none
noncomputable def whileM (f:List Sl→Option Out) (i:Nat):Nat→List Sl→Option Out
 | 0,_=>none
 | n+1,τ=>(match τ[i]? with
  | some (.own ts)=>if ts.isEmpty then some (.nx τ) else (f τ).bind fun o=>(match o with
   | .nx τ'=>whileM f i n τ'
   | .rt t=>some (.rt t))
  | _=>none)
mutual
noncomputable def evS (G:Glo):S→List Sl→Option Out
 | .asg i e,τ=>(evE G e (view (frzAt (vars e) τ))).bind fun t=>some (.nx ((frzAt (vars e) τ).set i (slotOf e t)))
 | .app i e,τ=>(evE G e (view (frzAt (vars e) τ))).bind fun t=>match (frzAt (vars e) τ)[i]? with
  | some (.own ts)=>if ts.length<SZ then some (.nx ((frzAt (vars e) τ).set i (.own (ts++[t])))) else none
  | _=>none
 | .ext i e,τ=>(evE G e (view (frzAt (vars e) τ))).bind fun t=>match t,(frzAt (vars e) τ)[i]? with
  | .lst us,some (.own ts)=>if ts.length+us.length≤SZ then some (.nx ((frzAt (vars e) τ).set i (.own (ts++us)))) else none
  | _,_=>none
 | .dnew i,τ=>some (.nx (τ.set i (.dk [])))
 | .dput i k v,τ=>(evE G v (view (frzAt (vars v++vars k) τ))).bind fun y=>(evE G k (view (frzAt (vars v++vars k) τ))).bind fun x =>
   (putS (frzAt (vars v++vars k) τ)[i]? x y).map fun s=>.nx ((frzAt (vars v++vars k) τ).set i s)
 | .dapp i k v,τ=>(evE G k (view (frzAt (vars k++vars v) τ))).bind fun x=>(keyO x).bind fun q=>(sdS (frzAt (vars k++vars v) τ) i q).bind fun kvs=>(evE G v (view (frzAt (vars k++vars v) τ))).bind fun y =>
   if (kvs.all fun p=>decide (p.2.length<SZ))=true then some (.nx ((frzAt (vars k++vars v) τ).set i (.dl (apP kvs q y)))) else none
 | .dnew1 i k v,τ=>(evE G k (view (frzAt (vars k++vars v) τ))).bind fun x=>(evE G v (view (frzAt (vars k++vars v) τ))).bind fun y=>(keyO x).bind fun q=>some (.nx ((frzAt (vars k++vars v) τ).set i (.dk [(q,y)])))
 | .wloop i body,τ=>whileM (fun τ=>evSs G body τ) i 100 τ
 | .lpop j i,τ=>(match τ[i]? with
  | some (.own ts)=>(match ts[ts.length-1]? with
   | some t=>if i=j then none else some (.nx ((τ.set i (.own ts.dropLast)).set j (.val t)))
   | none=>none)
  | _=>none)
 | .ifnin k i body,τ=>(evE G k (view (frzAt (vars k) τ))).bind fun x=>(keyO x).bind fun q=>(match (frzAt (vars k) τ)[i]? with
  | some (.dk kvs)=>if (kvs.any fun p=>decide (p.1=q))=true then some (.nx (frzAt (vars k) τ)) else evSs G body (frzAt (vars k) τ)
  | _=>none)
 | .ret e,τ=>(evE G e (view (frzAt (vars e) τ))).map .rt
 | .ite c a b,τ=>(evE G c (view (frzAt (vars c) τ))).bind fun t=>match t with
  | .bl true=>evSs G a (frzAt (vars c) τ)
  | .bl false=>evSs G b (frzAt (vars c) τ)
  | _=>none
 | .loop is k src body,τ=>(evEs G src (view (frzAt (varsL src) τ))).bind fun xs=>(items k xs).bind fun its =>
   loopM (fun x τ=>(bndS is x τ).bind fun τ'=>evSs G body τ') its (frzAt (varsL src) τ)
noncomputable def evSs (G:Glo):List S→List Sl→Option Out
 | [],τ=>some (.nx τ)
 | s::ss,τ=>(evS G s τ).bind fun o=>match o with
  | .nx τ'=>evSs G ss τ'
  | o=>some o
end
structure Fd where
 np:Nat
 ns:Nat
 body:List S
 deriving Inhabited
noncomputable def begin' (D:Fd) (ts:List T):List Sl:=ts.map .val++List.replicate (D.ns-ts.length) .no
noncomputable def resultOf:Option Out→Option T
 | some (.nx _)=>some .non
 | some (.rt t)=>some t
 | _=>none
structure Pr where
 fn:Str→Option Fd
 con:Str→Option T
noncomputable def glo (P:Pr) (run:Str→List T→Option T):Glo:=⟨run,P.con⟩
noncomputable def run (P:Pr):Nat→Str→List T→Option T
 | 0,_,_=>none
 | n+1,f,ts=>(P.fn f).bind fun D=>if ts.length=D.np then resultOf (evSs (glo P (run P n)) D.body (begin' D ts)) else none
end Ev
end
end
noncomputable section
noncomputable section
namespace Ev
open PySem
noncomputable def nameIx:List Str→Str→Option Nat
 | [],_=>none
 | y::r,x=>if y==x then some 0 else (nameIx r x).map (·+1)
structure Tc where
 sc:Scope
 nm:List Str
noncomputable def visB (sc:Scope) (x:Str):Bool:=match sc.names.lookup x with
 | some .local=>true
 | some .cell=>true
 | some .free=>true
 | _=>false
noncomputable def glB (sc:Scope) (x:Str):Bool:=sc.names.lookup x==some .globalImplicit
noncomputable def plainName (x:Str):Bool:=!(x==("__debug__":Str))&&!(x==("__classdict__":Str))&&!(x==("__name__":Str))&&(!(x==(".0":Str))&&(!(x==(".put":Str))&&!(x==(".lam":Str))))
noncomputable def bnOf (x:Str):Option Bn :=
 if x==("len":Str) then some .len else if x==("int":Str) then some .toInt else if x==("tuple":Str) then some .toTuple else if x==("sorted":Str) then some .sorted else none
noncomputable def bnames:List Str:=["len", "int", "str", "list", "tuple", "bool", "isinstance", "range", "enumerate", "zip", "all", "any", "set", "sorted", "min", "max", "sum", "dict"]
noncomputable def boOf:Operator→Option Bo
 | .Add=>some .add | .Sub=>some .sub | .Mult=>some .mul | .FloorDiv=>some .fdiv | .Mod=>some .mod
 | _=>none
noncomputable def isFalseE:Expr→Bool
 | .Constant (.bool false) _ _=>true
 | _=>false
noncomputable def isNoneE:Expr→Bool
 | .Constant .none _ _=>true
 | _=>false
noncomputable def coOf:CmpOp→Expr→Option Co
 | .Eq,_=>some .eq | .NotEq,_=>some .ne | .Lt,_=>some .lt | .LtE,_=>none | .Gt,_=>some .gt | .GtE,_=>none
 | .In,e=>if behindInMarks .In e then none else some .isin
 | .NotIn,e=>if behindInMarks .NotIn e then none else some .notin
 | .Is,e=>if isNoneE e then some .isN else none
 | .IsNot,e=>if isNoneE e then some .notN else if isFalseE e then some .notF else none
noncomputable def tgNames:Expr→Option (List Str)
 | .Name x _=>some [x]
 | .Tuple es _ _=>es.mapM fun e=>match e with
  | .Name x _=>some x
  | _=>none
 | _=>none
noncomputable def sliceE:Expr→Bool
 | .Slice ..=>true
 | .Tuple ..=>true
 | .Starred ..=>true
 | _=>false
noncomputable def nodupB:List Str→Bool
 | []=>true
 | x::r=>!r.contains x&&nodupB r
noncomputable def compScope (out sc:Scope) (xs:List Str):Bool :=
 sc.kind==.function&&nodupB xs&&(xs.all fun x=>plainName x&&(sc.names.lookup x==some .local||sc.names.lookup x==some .cell)) &&
 (sc.names.all fun p=>match p.2 with
  | .free=>(sc.names.lookup p.1==some .free)&&(out.names.lookup p.1==some .cell||out.names.lookup p.1==some .free)
  | .local=>(sc.names.lookup p.1==some .local)&&(xs.contains p.1||p.1==(".0":Str))
  | .cell=>(sc.names.lookup p.1==some .cell)&&xs.contains p.1
  | _=>true)
noncomputable def isTupE:Expr→Bool
 | .Tuple ..=>true
 | _=>false
noncomputable def mapO {α β:Type} (f:α→Option β):List α→Option (List β)
 | []=>some []
 | x::r=>(f x).bind fun y=>(mapO f r).bind fun ys=>some (y::ys)
noncomputable def optO {α β:Type} (f:α→Option β):Option α→Option (Option β)
 | none=>some none
 | some x=>(f x).map some
noncomputable def ssetArg:Bn→Expr→Option Expr
 | .sorted,.Call (.Name g _) [b] [] _=>if g==("set":Str) then some b else none
 | _,_=>none
inductive Md where
 | val | tst
 deriving DecidableEq
mutual
noncomputable def tr:Nat→Tc→Md→Expr→Option E
 | 0,_,_,_=>none
 | n+1,c,.tst,e=>trT n c e
 | n+1,c,.val,e=>trV n c e
noncomputable def trT:Nat→Tc→Expr→Option E
 | 0,_,_=>none
 | n+1,c,.BoolOp .And [a] _=>trT n c a
 | n+1,c,.BoolOp .And (a::b::r) pos=>(trT n c a).bind fun x=>(trT n c (.BoolOp .And (b::r) pos)).bind fun y=>some (.land x y)
 | n+1,c,.BoolOp .Or [a] _=>trT n c a
 | n+1,c,.BoolOp .Or (a::b::r) pos=>(trT n c a).bind fun x=>(trT n c (.BoolOp .Or (b::r) pos)).bind fun y=>some (.lor x y)
 | n+1,c,.UnaryOp .Not a _=>(trT n c a).bind fun x=>some (.lnot x)
 | n+1,c,.Compare a [op] [b] _=>(coOf op b).bind fun o=>(trV n c a).bind fun x=>(trV n c b).bind fun y=>some (.cmp o x y)
 | n+1,c,.Name x pos=>(trV n c (.Name x pos)).bind fun x=>some (.tru x)
 | n+1,c,.Call f es ks pos=>(trV n c (.Call f es ks pos)).bind fun x=>some (.tru x)
 | n+1,c,.Subscript a b pos=>(trV n c (.Subscript a b pos)).bind fun x=>some (.tru x)
 | _,_,_=>none
noncomputable def trV:Nat→Tc→Expr→Option E
 | 0,_,_=>none
 | _+1,_,.Constant .none _ _=>some (.cst .non)
 | _+1,_,.Constant (.bool b) _ _=>some (.cst (.bl b))
 | _+1,_,.Constant (.int i) _ _=>some (.cst (.int i))
 | _+1,_,.Constant (.str x) _ _=>some (.cst (.str x))
 | _+1,c,.Name x _=>if plainName x then (if visB c.sc x then (nameIx c.nm x).map .var else if glB c.sc x&&!bnames.contains x then some (.glb x) else none) else none
 | n+1,c,.BinOp a op b _=>(boOf op).bind fun o=>(trV n c a).bind fun x=>(trV n c b).bind fun y=>some (.bin o x y)
 | n+1,c,.UnaryOp .Not a _=>(trV n c a).bind fun x=>some (.lnot x)
 | n+1,c,.UnaryOp .USub a _=>(trV n c a).bind fun x=>some (.neg x)
 | n+1,c,.BoolOp _ [a] _=>trV n c a
 | n+1,c,.BoolOp .And (a::b::r) pos=>(trV n c a).bind fun x=>(trV n c (.BoolOp .And (b::r) pos)).bind fun y=>some (.land x y)
 | n+1,c,.BoolOp .Or (a::b::r) pos=>(trV n c a).bind fun x=>(trV n c (.BoolOp .Or (b::r) pos)).bind fun y=>some (.lor x y)
 | n+1,c,.Compare a [op] [b] _=>(coOf op b).bind fun o=>(trV n c a).bind fun x=>(trV n c b).bind fun y=>some (.cmp o x y)
 | n+1,c,.Tuple es _ _=>(mapO (trV n c) es).bind fun xs=>some (.tup xs)
 | n+1,c,.List es _=>(mapO (trV n c) es).bind fun xs=>some (.lst xs)
 | n+1,c,.Subscript a (.Slice lo hi none _) _=>(trV n c a).bind fun x=>(optO (trV n c) lo).bind fun l=>(optO (trV n c) hi).bind fun h=>some (.sli x l h)
 | n+1,c,.Subscript a b _=>if sliceE b then none else (trV n c a).bind fun x=>(trV n c b).bind fun y=>some (.idx x y)
 | n+1,c,.Call (.Name f _) [a] [] _=>if glB c.sc f&&plainName f then (match bnOf f with
  | some k=>(match ssetArg k a with
   | some b=>if glB c.sc ("set":Str) then (trV n c b).bind fun x=>some (.blt .sset x) else none
   | none=>(trV n c a).bind fun x=>some (.blt k x))
  | none=>if bnames.contains f then none else (trV n c a).bind fun x=>some (.call f [x])) else none
 | n+1,c,.Call (.Name f _) (e::es) [] _=>if glB c.sc f&&plainName f&&!bnames.contains f then (mapO (trV n c) (e::es)).bind fun xs=>some (.call f xs) else none
 | n+1,c,.Call (.Attribute o m apos) [a,b] [] cpos=>if apos.endLine==cpos.line&&m==("get":Str) then (trV n c o).bind fun x=>(trV n c a).bind fun y=>(trV n c b).bind fun z=>some (.dgt x y z) else none
 | n+1,c,.ListComp elt [⟨tg,iter,ifs,0⟩] scope _=>(tgNames tg).bind fun xs=>(trI n c iter).bind fun ki=>if compScope c.sc scope xs&&(!ki.1.pair||isTupE tg)&&(!isTupE tg||decide (2≤xs.length)) then
   (match ifs with
   | []=>(trV n ⟨scope,xs++c.nm⟩ elt).bind fun x=>some (.comp x xs.length ki.1 ki.2 none)
   | [t]=>(trV n ⟨scope,xs++c.nm⟩ elt).bind fun x=>(trT n ⟨scope,xs++c.nm⟩ t).bind fun y=>some (.comp x xs.length ki.1 ki.2 (some y))
   | _=>none) else none
 | _,_,_=>none
noncomputable def trI:Nat→Tc→Expr→Option (Ik × List E)
 | 0,_,_=>none
 | n+1,c,.Call (.Name f p) [a] [] pos=>if f==("range":Str)&&glB c.sc f then (trV n c a).bind fun x=>some (.range,[x])
   else if f==("enumerate":Str)&&glB c.sc f then (trV n c a).bind fun x=>some (.enum,[x])
   else (trV n c (.Call (.Name f p) [a] [] pos)).bind fun x=>some (.plain,[x])
 | n+1,c,.Call (.Name f p) [a,b] [] pos=>if f==("zip":Str)&&glB c.sc f then (trV n c a).bind fun x=>(trV n c b).bind fun y=>some (.zip,[x,y])
   else (trV n c (.Call (.Name f p) [a,b] [] pos)).bind fun x=>some (.plain,[x])
 | n+1,c,e=>(trV n c e).bind fun x=>some (.plain,[x])
end
noncomputable def litE:Expr→Bool
 | .List ..=>true
 | .BinOp ..=>true
 | _=>false
noncomputable def isCompE:Expr→Bool
 | .ListComp ..=>true
 | _=>false
noncomputable def isDictE:Expr→Bool
 | .Dict [] [] _=>true
 | _=>false
noncomputable def methC:Expr→Option (Str × Str × Pos × Pos × List Expr × Pos)
 | .Call f es ks cpos=>(match f with
  | .Attribute o m apos=>(match o with
   | .Name y p=>(match ks with
    | []=>some (y,m,p,apos,es,cpos)
    | _=>none)
   | _=>none)
  | _=>none)
 | _=>none
noncomputable def emL:Expr→Bool
 | .List l _=>l.isEmpty
 | _=>false
noncomputable def sdC (e:Expr):Option (Str × Expr):=(methC e).bind fun x=>match x.2.2.2.2.1 with
 | [k,l]=>if emL l&&(x.2.1==("setdefault":Str)&&x.2.2.2.1.endLine==x.2.2.2.2.2.line) then some (x.1,k) else none
 | _=>none
noncomputable def one1:Expr→Option (Expr × Expr)
 | .Dict ks vs _=>(match ks with
  | [some k]=>(match vs with
   | [v]=>some (k,v)
   | _=>none)
  | _=>none)
 | _=>none
noncomputable def popC (e:Expr):Option Str:=(methC e).bind fun x=>match x.2.2.2.2.1 with
 | []=>if x.2.1==("pop":Str)&&x.2.2.2.1.endLine==x.2.2.2.2.2.line then some x.1 else none
 | _=>none
noncomputable def ninC:Expr→Option (Expr × Str)
 | .Compare k ops es _=>(match ops with
  | [.NotIn]=>(match es with
   | [.Name y _]=>some (k,y)
   | _=>none)
  | _=>none)
 | _=>none
noncomputable def nameC:Expr→Option Str
 | .Name y _=>some y
 | _=>none
mutual
noncomputable def trS:Nat→Tc→Stmt→Option S
 | 0,_,_=>none
 | n+1,c,.Assign [.Subscript (.Name x _) k _] v _=>if visB c.sc x&&plainName x&&!sliceE k then (nameIx c.nm x).bind fun i=>(trV n c k).bind fun y=>(if isCompE v then none else (trV n c v).bind fun z=>some (.dput i y z)) else none
 | n+1,c,.Assign [.Name x _] e _=>if plainName x&&(c.sc.names.lookup x==some .local||c.sc.names.lookup x==some .cell) then (nameIx c.nm x).bind fun i=>if isDictE e then some (.dnew i) else (match one1 e with
   | some p=>(trV n c p.1).bind fun x=>(trV n c p.2).bind fun y=>some (.dnew1 i x y)
   | none=>(match popC e with
    | some y=>if visB c.sc y&&plainName y then (nameIx c.nm y).bind fun j=>some (.lpop i j) else none
    | none=>(trV n c e).bind fun y=>if fresh y&&!litE e then none else some (.asg i y))) else none
 | n+1,c,.Expr (.Call (.Attribute (.Name x _) m apos) [a] [] cpos) _=>if apos.endLine==cpos.line&&visB c.sc x&&plainName x then (nameIx c.nm x).bind fun i=>(trV n c a).bind fun y =>
   (if m==("append":Str) then some (.app i y) else if m==("extend":Str) then some (.ext i y) else none) else none
 | n+1,c,.Expr (.Call (.Attribute o m apos) [a] [] cpos) _=>if apos.endLine==cpos.line&&m==("append":Str) then (sdC o).bind fun p=>if visB c.sc p.1&&plainName p.1 then (nameIx c.nm p.1).bind fun i=>(trV n c p.2).bind fun x=>(trV n c a).bind fun y=>some (.dapp i x y) else none else none
 | n+1,c,.Return (some e) _=>(trV n c e).bind fun y=>some (.ret y)
 | n+1,c,.While t body els _=>(match els with
   | []=>(nameC t).bind fun y=>if visB c.sc y&&plainName y then (nameIx c.nm y).bind fun i=>(trSs n c body).bind fun b=>some (.wloop i b) else none
   | _=>none)
 | n+1,c,.If t a b _=>(match ninC t with
   | some p=>(match b with
    | []=>if visB c.sc p.2&&plainName p.2 then (nameIx c.nm p.2).bind fun i=>(trV n c p.1).bind fun x=>(trSs n c a).bind fun y=>some (.ifnin x i y) else none
    | _=>none)
   | none=>(trT n c t).bind fun z=>(trSs n c a).bind fun x=>(trSs n c b).bind fun y=>some (.ite z x y))
 | n+1,c,.For tg iter body [] _=>(tgNames tg).bind fun xs=>(mapO (nameIx c.nm) xs).bind fun is=>(trI n c iter).bind fun ki=>(trSs n c body).bind fun b=>if (!ki.1.pair||isTupE tg)&&(!isTupE tg||decide (2≤xs.length))&&nodupB xs&&(xs.all fun x=>plainName x&&(c.sc.names.lookup x==some .local||c.sc.names.lookup x==some .cell)) then some (.loop is ki.1 ki.2 b) else none
 | _,_,_=>none
noncomputable def trSs:Nat→Tc→List Stmt→Option (List S)
 | 0,_,_=>none
 | _+1,_,[]=>some []
 | n+1,c,s::ss=>(trS n c s).bind fun x=>(trSs n c ss).bind fun xs=>some (x::xs)
end
noncomputable def fnNames (sc:Scope):List Str:=(sc.names.filter fun p=>p.2==.local||p.2==.cell).map (·.1)
end Ev
end
end
noncomputable section
noncomputable section
namespace L2
open PySem
def closFrom (env:Env):List (Str × NameKind)→List (Str × Addr)→List (Str × Addr)
 | [],acc=>acc
 | (n,k)::r,acc=>if k==.free then closFrom env r ((n,(env.cells.lookup n).getD 0)::acc) else closFrom env r acc
theorem clos_loop {env:Env} (f:Str × NameKind→List (Str × Addr)→Sem (ForInStep (List (Str × Addr))))
  (hf:∀ n k cs,f (n,k) cs=if k==.free then (do let a ← cellOf env n;pure (ForInStep.yield ((n,a)::cs))) else pure (.yield cs)) :
  ∀ (names:List (Str × NameKind)) (acc:List (Str × Addr)),(∀ y∈names,y.2=.free→∃ c,env.cells.lookup y.1=some c)→(forIn names acc f:Sem _)=pure (closFrom env names acc)
 | [],acc,_=>rfl
 | (n,k)::r,acc,h=>by
  rw [List.forIn_cons,hf]
  unfold closFrom
  by_cases hk:(k==.free)=true
  ·rw [if_pos hk,if_pos hk]
   obtain ⟨c,hc⟩:=h (n,k) List.mem_cons_self (by simpa using hk)
   have e:cellOf env n=pure c:=by unfold cellOf;rw [hc]
   rw [e,hc]
   simp only [pure_bind,Option.getD_some]
   exact clos_loop f hf r _ fun y hy=>h y (List.mem_cons_of_mem _ hy)
  ·rw [if_neg hk,if_neg hk]
   simp only [pure_bind]
   exact clos_loop f hf r _ fun y hy=>h y (List.mem_cons_of_mem _ hy)
theorem closureFor_eq {scope:Scope} {env:Env} (h:∀ y∈scope.names,y.2=.free→∃ c,env.cells.lookup y.1=some c):closureFor scope env=pure (closFrom env scope.names []):=by
 simp only [closureFor]
 rw [clos_loop (env:=env) _ (fun n k cs=>by by_cases hk:(k==NameKind.free)=true<;>simp [hk]) scope.names [] h]
 simp only [pure_bind]
theorem clos_sub {env:Env}:∀ (names:List (Str × NameKind)) (acc:List (Str × Addr)),(∀ x c,acc.lookup x=some c→env.cells.lookup x=some c)→(∀ y∈names,y.2=.free→∃ c,env.cells.lookup y.1=some c) →
  ∀ x c,(closFrom env names acc).lookup x=some c→env.cells.lookup x=some c
 | [],acc,h,_,x,c,e=>h x c e
 | (n,k)::r,acc,h,hn,x,c,e=>by
  unfold closFrom at e
  have hr:∀ y∈r,y.2=.free→∃ c,env.cells.lookup y.1=some c:=fun y hy=>hn y (List.mem_cons_of_mem _ hy)
  by_cases hk:(k==.free)=true
  ·rw [if_pos hk] at e
   obtain ⟨c',hc'⟩:=hn (n,k) List.mem_cons_self (by simpa using hk)
   refine clos_sub r _ (fun x c e=>?_) hr x c e
   rw [List.lookup_cons] at e
   cases hb:x==n with
   | true =>
    rw [hb] at e
    have e':some ((env.cells.lookup n).getD 0)=some c:=e
    rw [hc'] at e'
    cases e'
    rw [beq_iff_eq.mp hb]
    exact hc'
   | false=>rw [hb] at e;exact h x c e
  ·rw [if_neg hk] at e
   exact clos_sub r acc h hr x c e
theorem clos_has {env:Env} {x:Str}:∀ (names:List (Str × NameKind)) (acc:List (Str × Addr)),((x,NameKind.free)∈names∨(acc.lookup x).isSome=true)→((closFrom env names acc).lookup x).isSome=true
 | [],acc,h=>h.elim (fun z=>nomatch z) id
 | (n,k)::r,acc,h=>by
  unfold closFrom
  have up:∀ a:Addr,(acc.lookup x).isSome=true→(List.lookup x ((n,a)::acc)).isSome=true:=fun a z=>by
   rw [List.lookup_cons]
   cases x==n with
   | true=>rfl
   | false=>exact z
  by_cases hk:(k==.free)=true
  ·rw [if_pos hk]
   refine clos_has r _ ?_
   rcases h with h | h
   ·rcases omc h with e | e
    ·cases e
     right
     rw [List.lookup_cons,beq_self_eq_true]
     rfl
    ·exact .inl e
   ·exact .inr (up _ h)
  ·rw [if_neg hk]
   refine clos_has r _ ?_
   rcases h with h | h
   ·rcases omc h with e | e
    ·cases e
     exact absurd rfl hk
    ·exact .inl e
   ·exact .inr h
theorem clos_get {env:Env} {x:Str} {names:List (Str × NameKind)} (hn:∀ y∈names,y.2=.free→∃ c,env.cells.lookup y.1=some c) (h:(x,NameKind.free)∈names):(closFrom env names []).lookup x=env.cells.lookup x:=by
 obtain ⟨c,hc⟩:=Option.isSome_iff_exists.mp (clos_has (env:=env) names [] (.inl h))
 rw [hc,clos_sub names [] (fun _ _ e=>by cases e) hn x c hc]
theorem cells_app:∀ (names:List (Str × NameKind)) (n:Nat) (acc:List (Str × Addr)),cellsFrom n names acc=cellsFrom n names []++acc
 | [],n,acc=>rfl
 | (x,k)::r,n,acc=>by
  unfold cellsFrom
  by_cases hk:(k==.cell)=true
  ·rw [if_pos hk,if_pos hk,cells_app r (n+1) ((x,n)::acc),cells_app r (n+1) [(x,n)],List.append_assoc]
   rfl
  ·rw [if_neg hk,if_neg hk]
   exact cells_app r n acc
theorem cells_mem {x:Str} {c:Addr}:∀ (names:List (Str × NameKind)) (n:Nat),(x,c)∈cellsFrom n names []→n≤c∧(x,NameKind.cell)∈names
 | [],n,h=>by cases h
 | (y,k)::r,n,h=>by
  unfold cellsFrom at h
  by_cases hk:(k==.cell)=true
  ·rw [if_pos hk,cells_app] at h
   have ek:k=.cell:=by simpa using hk
   rcases oma h with h | h
   ·obtain ⟨h1,h2⟩:=cells_mem r (n+1) h
    exact ⟨by omega,List.mem_cons_of_mem _ h2⟩
   ·have e:(x,c)=(y,n):=by simpa using h
    cases e
    exact ⟨Nat.le_refl _,by rw [ek];exact List.mem_cons_self⟩
  ·rw [if_neg hk] at h
   obtain ⟨h1,h2⟩:=cells_mem r n h
   exact ⟨h1,List.mem_cons_of_mem _ h2⟩
theorem cells_has {x:Str}:∀ (names:List (Str × NameKind)) (n:Nat) (acc:List (Str × Addr)),((x,NameKind.cell)∈names∨(acc.lookup x).isSome=true)→((cellsFrom n names acc).lookup x).isSome=true
 | [],_,acc,h=>h.elim (fun z=>nomatch z) id
 | (y,k)::r,n,acc,h=>by
  unfold cellsFrom
  by_cases hk:(k==.cell)=true
  ·rw [if_pos hk]
   refine cells_has r _ _ ?_
   rcases h with h | h
   ·rcases omc h with e | e
    ·cases e
     right
     rw [List.lookup_cons,beq_self_eq_true]
     rfl
    ·exact .inl e
   ·right
    rw [List.lookup_cons]
    cases x==y with
    | true=>rfl
    | false=>exact h
  ·rw [if_neg hk]
   refine cells_has r _ _ ?_
   rcases h with h | h
   ·rcases omc h with e | e
    ·cases e
     exact absurd rfl hk
    ·exact .inl e
   ·exact .inr h
theorem cells_look {x:Str} {c:Addr} {names:List (Str × NameKind)} {n:Nat} {acc:List (Str × Addr)} (h:(cellsFrom n names acc).lookup x=some c) :
  (x,c)∈cellsFrom n names []∨((cellsFrom n names []).lookup x=none∧acc.lookup x=some c):=by
 rw [cells_app,List.lookup_append] at h
 cases e:(cellsFrom n names []).lookup x with
 | none=>rw [e] at h;exact .inr ⟨rfl,by simpa using h⟩
 | some d =>
  rw [e] at h
  have h':some d=some c:=by simpa using h
  cases h'
  exact .inl (mem_of_lookup e)
section
variable {M:Model} {A:Around} {E:Value→Shared→Prop} {s:Shared}
theorem nfe_comp {scope:Scope} {globals:Addr} {cl:List (Str × Addr)} {qual:Str} {env:Env} {Q:Env→Shared→Prop}
  (hQ:Q { scope:=scope,locals:=s.heap.objs.size,globals:=globals,cells:=cellsFrom (s.heap.objs.size+1) scope.names cl,qual:=qual,func:=none,code:=env.code,frame:=env.frame,builtins:=env.builtins }
   { s with heap:=pushCells (s.heap.push { cls:=.type "dict",data:=.dict #[] }) scope.names }) :
  wpAny M A (newFunctionEnv scope globals cl [] qual none .none (some env)) Q E s:=by
 simp only [newFunctionEnv,Option.isSome_some,if_true]
 refine wpAny_bind (wpAny_alloc ?_)
 refine wpAny_bind (wpAny_layCells _ (fun name kind cells=>by cases hkc:kind==NameKind.cell<;>simp []) _ _ _ _ ?_)
 rw [show ({ s with heap:=s.heap.push { cls:=.type "dict",data:=.dict #[] } }:Shared).heap.objs.size=s.heap.objs.size+1 from Heap.size_push ..]
 simp only [List.forIn_nil,pure_bind]
 exact wpAny_pure hQ
end
end L2
end
end
noncomputable section
noncomputable section
namespace Ev
open PySem PySem.Spec PyProof.Rows L2
open AutoSeq1 (wpAny_loadPart')
section
variable {X:Cx}
end
section
variable {prog:Program} {w:World} {A:Around} {E:Value→Shared→Prop} {s:Shared}
theorem fm_congr {α β:Type} {f g:α→Option β}:∀ {l:List α},(∀ a∈l,f a=g a)→l.filterMap f=l.filterMap g
 | [],_=>rfl
 | a::l,h=>by
  rw [List.filterMap_cons,List.filterMap_cons,h a List.mem_cons_self,fm_congr fun b hb=>h b (List.mem_cons_of_mem _ hb)]
theorem get_whole {t sl:Addr} {zs:Array Value} {vl vu:Value} {lo hi:Option Int} {Q:Value→Shared→Prop} (ht:IsTup s.heap t zs) (hs:s.heap.IsSliceOf sl vl vu .none) (pl:IsPart vl lo) (pu:IsPart vu hi)
  (hw:HT.sIx zs.size 0 lo=0∧HT.sIx zs.size zs.size hi=zs.size) (h:Q (.ref t) s):wpAny (model prog w) A (getItem (.ref t) (.ref sl)) Q E s:=by
 obtain ⟨os,hos,hcs,hds⟩:=id hs
 have hT:s.TypeIs (.ref sl) "slice":=⟨os,hos,hcs⟩
 unfold getItem
 try with_reducible refine wpAny_holding ?_
 first | refine wpAny_bind (wpAny_pure ?_) | skip
 refine wpAny_bind (wpAny_sequenceKey ht.typeIs (by decide) ?_)
 refine wpAny_bind (wpAny_callSpecial?_slot (name:=Str.ofString "__getitem__") ht.typeIs PyProof.Rows.slot_tuple_getitem (wpAny_call_entry PyProof.Rows.slot_tuple_getitem ht.typeIs PyProof.Rows.entry_tuple_getitem ?_ (PyProof.Rows.args_tuple_getitem _ _)))
 show wpAny _ _ (Builtin.Tuple.tupleItemsOf (.ref t) >>= _) _ _ s
 refine wpAny_bind (tupleItemsOf_ ht ?_)
 refine wpAny_bind (wpAny_typeOf hT ?_)
 rw [if_pos (by decide)]
 refine wpAny_bind (HT.sliceApplied_gen hs pl pu ?_)
 have hyes:(((HT.sIx zs.size 0 lo:Nat):Int)==0&&(1:Int)==1&&(HT.sIx zs.size zs.size hi-HT.sIx zs.size 0 lo)==zs.size)=true:=by
  rw [hw.1,hw.2];simp
 show wpAny _ _ (if (((HT.sIx zs.size 0 lo:Nat):Int)==0&&(1:Int)==1&&(HT.sIx zs.size zs.size hi-HT.sIx zs.size 0 lo)==zs.size)=true then _ else _) _ _ s
 rw [if_pos hyes]
 refine wpAny_bind (show wpAny _ _ (Builtin.Tuple.tupleIsExact (.ref t)) _ _ s from ?_)
 unfold Builtin.Tuple.tupleIsExact
 refine wpAny_bind (wpAny_typeOf ht.typeIs (wpAny_pure ?_))
 simp only [beq_self_eq_true,if_true]
 exact wpAny_bind (wpAny_rule (wpAny_pure ⟨_,rfl,wpAny_pure h⟩))
end
section
variable {X:Cx} {c:Tc} {a:Expr} {pos p2:Pos}
theorem sl_whole:SlR X (fun x lo hi H Q=>∃ a xs,x=.ref a∧SqT X.K H a xs∧(HT.sIx xs.length 0 lo=0∧HT.sIx xs.length xs.length hi=xs.length)∧Q (.ref a) H):=by
 intro pins s σ H x v vl vu lo hi sl Q I rx hs pl pu h
 obtain ⟨a,xs,rfl,hx,hw,q⟩:=h
 cases rx
 obtain ⟨its,r,ht,hz⟩:=I.tuple hx
 have hlen:its.toArray.size=xs.length:=by rw [List.size_toArray];exact r.length.symm
 exact ⟨"tuple",_,PyProof.Rows.slot_tuple_getitem.lookup,ht.typeIs,get_whole ht hs pl pu (by rw [hlen];exact hw) ⟨.ref a,H,I,rfl,q⟩⟩
end
end Ev
end
end
noncomputable section
noncomputable section
namespace Ev
open PySem PySem.Spec PyProof.Rows L2
def Ls (K:PySem.W.Frag) (H:Hp) (a:Addr) (xs:List V):Prop :=
 Rd H a (.lst xs)∨∃ (its:Array Value) (n:Nat),K.lookup a=some { cls:=.type "list",data:=.seq its n }∧its.size≤sizeLine∧Vals xs its.toList
theorem Ls.of {K:PySem.W.Frag} {H:Hp} {a:Addr} {xs:List V} (h:H a=some (.lst xs)):Ls K H a xs:=.inl (.inl h)
theorem Ls.sq {K:PySem.W.Frag} {H:Hp} {a:Addr} {xs:List V} (h:Ls K H a xs):SqL K H a xs:=by
 rcases h with h | ⟨its,n,h1,h2,h3⟩
 ·exact .inl h
 ·exact .inr ⟨_,its,n,h1,rfl,rfl,rfl,h2,h3⟩
theorem Ls.ok {X:Cx} {pins:List (Addr × Obj)} {σ:L2.St} {H:Hp} {s:Shared} {a:Addr} {xs:List V} (h:Ls X.K H a xs) (I:Inv X pins σ H s) :
  xs.length≤sizeLine∧∃ (its:List Value) (n:Nat),Vals xs its∧s.heap.get? a=some { cls:=.type "list",data:=.seq its.toArray n }:=by
 rcases h with h | ⟨its,n,h1,h2,h3⟩
 ·obtain ⟨z,its,n,r,e⟩:=h.ok I.hok
  exact ⟨z,its,n,r,e⟩
 ·exact ⟨by rw [h3.length,Array.length_toList];exact h2,its.toList,n,h3,by rw [Array.toArray_toList];exact I.kIn a _ h1⟩
abbrev Tq (_K:PySem.W.Frag) (F:Hp) (a:Addr) (xs:List V):Prop:=F a=some (.tup xs)
mutual
def Rep (K:PySem.W.Frag) (F:Hp):T→V→Prop
 | .non,v=>v=.non
 | .bl b,v=>v=.bl b
 | .int i,v=>v=.int i
 | .str x,v=>v=.str x
 | .tup ts,v=>∃ a vs,v=.ref a∧Tq K F a vs∧Reps K F ts vs
 | .lst ts,v=>∃ a vs,v=.ref a∧Ls K F a vs∧Reps K F ts vs
 | .dk ks ts,v=>∃ a ws,v=.ref a∧F a=some (.dK ws)∧ws.map (·.1)=ks∧Reps K F ts (ws.map (·.2))
 | .dt ks ts,v=>∃ a ws,v=.ref a∧F a=some (.dT ws)∧ws.map (·.1)=ks∧Reps K F ts (ws.map (·.2))
def Reps (K:PySem.W.Frag) (F:Hp):List T→List V→Prop
 | [],vs=>vs=[]
 | t::ts,vs=>∃ v r,vs=v::r∧Rep K F t v∧Reps K F ts r
end
theorem same_rd {F F':Hp} {a:Addr} {o:HO} (e:Same F F') (h:Rd F a o):Rd F' a o:=by
 rcases h with h | ⟨b,h⟩
 ·exact .inl (e _ _ h)
 ·exact .inr ⟨b,e _ _ h⟩
theorem Ls.same {K:PySem.W.Frag} {F F':Hp} {a:Addr} {xs:List V} (e:Same F F') (h:Ls K F a xs):Ls K F' a xs:=by
 rcases h with h | h
 ·exact .inl (same_rd e h)
 ·exact .inr h
theorem same_tup {K:PySem.W.Frag} {F F':Hp} {a:Addr} {xs:List V} (e:Same F F') (h:Tq K F a xs):SqT K F' a xs:=SqT.of (e _ _ h)
mutual
theorem Rep.mono {K:PySem.W.Frag} {F F':Hp} (e:Same F F'):∀ {t:T} {v:V},Rep K F t v→Rep K F' t v
 | .non,_,h=>h
 | .bl _,_,h=>h
 | .int _,_,h=>h
 | .str _,_,h=>h
 | .tup _,_,h=>by
  obtain ⟨a,vs,h1,h2,h3⟩:=h
  exact ⟨a,vs,h1,e _ _ h2,Reps.mono e h3⟩
 | .lst _,_,h=>by
  obtain ⟨a,vs,h1,h2,h3⟩:=h
  exact ⟨a,vs,h1,Ls.same e h2,Reps.mono e h3⟩
 | .dk _ _,_,h=>by
  obtain ⟨a,ws,h1,h2,h3,h4⟩:=h
  exact ⟨a,ws,h1,e _ _ h2,h3,Reps.mono e h4⟩
 | .dt _ _,_,h=>by
  obtain ⟨a,ws,h1,h2,h3,h4⟩:=h
  exact ⟨a,ws,h1,e _ _ h2,h3,Reps.mono e h4⟩
theorem Reps.mono {K:PySem.W.Frag} {F F':Hp} (e:Same F F'):∀ {ts:List T} {vs:List V},Reps K F ts vs→Reps K F' ts vs
 | [],_,h=>h
 | _::_,_,h=>by
  obtain ⟨v,r,h1,h2,h3⟩:=h
  exact ⟨v,r,h1,Rep.mono e h2,Reps.mono e h3⟩
end
theorem Reps.length {K:PySem.W.Frag} {F:Hp}:∀ {ts:List T} {vs:List V},Reps K F ts vs→vs.length=ts.length
 | [],_,h=>by cases h;rfl
 | _::_,_,h=>by
  obtain ⟨v,r,rfl,_,h3⟩:=h
  simp [Reps.length h3]
theorem Reps.cons {K:PySem.W.Frag} {F:Hp} {t:T} {v:V} {ts:List T} {vs:List V} (h:Rep K F t v) (r:Reps K F ts vs):Reps K F (t::ts) (v::vs):=⟨v,vs,rfl,h,r⟩
theorem Reps.app {K:PySem.W.Frag} {F:Hp}:∀ {ts us:List T} {vs ws:List V},Reps K F ts vs→Reps K F us ws→Reps K F (ts++us) (vs++ws)
 | [],_,_,_,h,r=>by cases h;exact r
 | _::_,_,_,_,h,r=>by
  obtain ⟨v,q,rfl,h2,h3⟩:=h
  exact ⟨v,_,rfl,h2,Reps.app h3 r⟩
theorem Reps.drop {K:PySem.W.Frag} {F:Hp}:∀ (n:Nat) {ts:List T} {vs:List V},Reps K F ts vs→Reps K F (ts.drop n) (vs.drop n)
 | 0,_,_,h=>h
 | _+1,[],_,h=>by cases h;exact rfl
 | n+1,_::_,_,h=>by
  obtain ⟨v,q,rfl,h2,h3⟩:=h
  exact Reps.drop n h3
theorem Reps.take {K:PySem.W.Frag} {F:Hp}:∀ (n:Nat) {ts:List T} {vs:List V},Reps K F ts vs→Reps K F (ts.take n) (vs.take n)
 | 0,_,_,_=>rfl
 | _+1,[],_,h=>by cases h;exact rfl
 | n+1,_::_,_,h=>by
  obtain ⟨v,q,rfl,h2,h3⟩:=h
  exact ⟨v,_,rfl,h2,Reps.take n h3⟩
theorem Reps.get {K:PySem.W.Frag} {F:Hp}:∀ {ts:List T} {vs:List V} {i:Nat} {t:T},Reps K F ts vs→ts[i]?=some t→∃ v,vs[i]?=some v∧Rep K F t v
 | [],_,_,_,_,e=>by simp at e
 | _::_,_,0,_,h,e=>by
  obtain ⟨v,q,rfl,h2,h3⟩:=h
  simp at e;subst e
  exact ⟨v,rfl,h2⟩
 | _::_,_,i+1,t,h,e=>by
  obtain ⟨v,q,rfl,h2,h3⟩:=h
  obtain ⟨w,h4,h5⟩:=Reps.get (i:=i) (t:=t) h3 (by simpa using e)
  exact ⟨w,by simpa using h4,h5⟩
def isTbl:HO→Bool
 | .tbl _=>true
 | _=>false
def lamQ:Str:="_law_spoilt.<locals>.<lambda>"
def CdAt (H:Hp) (cv:Value):Prop:=∃ a oc vs t,cv=.ref a∧H a=some (.frz oc (.own 0))∧oc.data=.fields vs∧vs[1]?=some (.str lamQ t)
def TbAt (H:Hp) (b:Addr):Prop:=∃ ps:Array Value,H b=some (.tbl ps)∧TriplesOk ps.toList∧∀ pos cv,codeAmong pos ps.toList=some cv→CdAt H cv
theorem CdAt.up {H H':Hp} {cv:Value} (h:CdAt H cv) (k:∀ a o u,H a=some (.frz o u)→H' a=some (.frz o u)):CdAt H' cv:=by
 obtain ⟨a,oc,vs,t,h1,h2,h3,h4⟩:=h
 exact ⟨a,oc,vs,t,h1,k _ _ _ h2,h3,h4⟩
theorem TbAt.up {H H':Hp} {b:Addr} (h:TbAt H b) (k:∀ a o u,H a=some (.frz o u)→H' a=some (.frz o u)) (kt:∀ a ps,H a=some (.tbl ps)→H' a=some (.tbl ps)):TbAt H' b:=by
 obtain ⟨ps,h1,h2,h3⟩:=h
 exact ⟨ps,kt _ _ h1,h2,fun pos cv e=>(h3 pos cv e).up k⟩
structure SameT (H H':Hp):Prop where
 st:∀ b u,H b=some u→isTbl u=false→H' b=some u
 fr:∀ b,H' b=none→H b=none
 tb:∀ b,TbAt H b→TbAt H' b
 tt:∀ b ps,H b=some (.tbl ps)→∃ qs,H' b=some (.tbl qs)
theorem sameT {H H':Hp} (e:Same H H'):SameT H H':=⟨fun b u h _=>e b u h,fun _ h=>e.free h,fun _ h=>h.up (fun a o u q=>e a _ q) fun a ps q=>e a _ q,fun b ps h=>⟨ps,e b _ h⟩⟩
theorem SameT.refl (H:Hp):SameT H H:=sameT (Same.refl H)
theorem SameT.free {H H':Hp} (e:SameT H H') {l:Addr} (h:H' l=none):H l=none:=e.fr l h
theorem SameT.trans {H H1 H2:Hp} (a:SameT H H1) (b:SameT H1 H2):SameT H H2:=⟨fun c u h q=>b.st c u (a.st c u h q) q,fun c h=>a.fr c (b.fr c h),fun c h=>b.tb c (a.tb c h),fun c ps h=>let ⟨qs,g⟩:=a.tt c ps h;b.tt c qs g⟩
theorem SameT.upd {H H1:Hp} {a:Addr} {o o1:HO} (e:SameT H H1) (h0:H a=none) (h1:H1 a=some o1) (k1:isTbl o1=false) (k2:∀ p u,o1≠.frz p u):SameT H (upd H1 a o):=by
 refine ⟨fun b u h q=>?_,fun b h=>?_,fun b h=>?_,fun b ps h=>?_⟩
 ·rw [upd_ne (ne_of_none h h0)];exact e.st b u h q
 ·by_cases hb:b=a
  ·subst hb;exact h0
  ·rw [upd_ne hb] at h;exact e.fr b h
 ·refine (e.tb b h).up (fun c p u q=>?_) fun c ps q=>?_
  ·rw [upd_ne (ne_of q h1 fun z=>k2 _ _ z.symm)];exact q
  ·rw [upd_ne (ne_of q h1 (by intro z;subst z;cases k1))];exact q
 ·obtain ⟨qs,g⟩:=e.tt b ps h
  exact ⟨qs,by rw [upd_ne (ne_of_none h h0)];exact g⟩
def fnCode:Option Obj→Option Addr
 | some ⟨_,_,.func fd,_⟩=>(match fd.code with | .ref c=>some c | _=>none)
 | _=>none
def fldAt (i:Nat):Option Obj→Option Addr
 | some ⟨_,_,.fields vs,_⟩=>(match vs.getD i .none with | .ref c=>some c | _=>none)
 | _=>none
def nsRef:Option (Option Value)→Option Addr
 | some (some (.ref f))=>some f
 | _=>none
def tabOf (K:PySem.W.Frag):Option Addr:=(nsRef (PySem.W.nsIn K mainGlobals "_law_spoilt")).bind fun f=>(fnCode (K.lookup f)).bind fun c=>fldAt 11 (K.lookup c)
structure Step (F H F' H':Hp):Prop where
 hh:SameT H H'
 ff:Same F F'
 fh:Same F' H'
 nw:∀ a,F' a≠none→F a≠none∨H a=none∨∃ xs,H a=some (.tup xs)
theorem Step.refl {F H:Hp} (h:Same F H):Step F H F H:=⟨SameT.refl H,Same.refl F,h,fun _ z=>.inl z⟩
def Tbk (K:PySem.W.Frag) (F H:Hp):Prop:=∀ p,tabOf K=some p→F p=none∧TbAt H p
theorem Tbk.up {K:PySem.W.Frag} {F H F' H':Hp} (h:Tbk K F H) (S:Step F H F' H'):Tbk K F' H':=fun p q=>by
 obtain ⟨h1,h2⟩:=h p q
 refine ⟨?_,S.hh.tb p h2⟩
 cases e:F' p with
 | none=>rfl
 | some v =>
  rcases S.nw p (by rw [e];simp) with z | z | ⟨xs,z⟩
  ·exact absurd h1 z
  ·obtain ⟨ps,h3,_⟩:=h2;rw [h3] at z;cases z
  ·obtain ⟨ps,h3,_⟩:=h2;rw [h3] at z;cases z
theorem Step.trans {F H F1 H1 F2 H2:Hp} (a:Step F H F1 H1) (b:Step F1 H1 F2 H2):Step F H F2 H2 :=
 ⟨a.hh.trans b.hh,a.ff.trans b.ff,b.fh,fun x z=>by
  rcases b.nw x z with q | q | ⟨xs,q⟩
  ·exact a.nw x q
  ·exact .inr (.inl (a.hh.free q))
  ·cases h:H x with
   | none=>exact .inr (.inl rfl)
   | some o =>
    by_cases ht:isTbl o=true
    ·cases o with
     | tbl ps=>obtain ⟨qs,g⟩:=a.hh.tt x ps h;rw [q] at g;cases g
     | _=>cases ht
    ·have h':=a.hh.st x o h (by simpa using ht)
     rw [q] at h'
     cases h'
     exact .inr (.inr ⟨xs,rfl⟩)⟩
theorem same_upd {F H:Hp} {p:Addr} {o:HO} (h:Same F H):Same (upd F p o) (upd H p o):=fun b u e=>by
 by_cases hb:b=p
 ·subst hb;rw [upd_same] at e ⊢;exact e
 ·rw [upd_ne hb] at e ⊢;exact h b u e
theorem same_new {H:Hp} {p:Addr} {o:HO} (h:H p=none):Same H (upd H p o):=fun b u e=>by
 rw [upd_ne (ne_of_none e h)];exact e
theorem Step.new {F H F1 H1:Hp} {p:Addr} {o:HO} (a:Step F H F1 H1) (h:H1 p=none):Step F H (upd F1 p o) (upd H1 p o) :=
 ⟨a.hh.trans (sameT (same_new h)),a.ff.trans (same_new (a.fh.free h)),same_upd a.fh,fun x z=>by
  by_cases hx:x=p
  ·subst hx;exact .inr (.inl (a.hh.free h))
  ·rw [upd_ne hx] at z;exact a.nw x z⟩
theorem Step.newH {F H F1 H1:Hp} {p:Addr} {o:HO} (a:Step F H F1 H1) (h:H1 p=none):Step F H F1 (upd H1 p o) :=
 ⟨a.hh.trans (sameT (same_new h)),a.ff,a.fh.trans (same_new h),a.nw⟩
structure EnvE (X:Cx) (c:Tc) (r:Env) (F:Hp) (σ:L2.St) (H:Hp):Prop where
 fh:Same F H
 tb:Tbk X.K F H
 get:∀ (x:Str) (i:Nat) (t:T),plainName x=true→nameIx c.nm x=some i→visB c.sc x=true→r[i]?=some (some t)→∃ (j:Nat) (v:V),X.N[j]?=some x∧σ[j]?=some (some v)∧Rep X.K F t v
theorem EnvE.step {X:Cx} {c:Tc} {r:Env} {F F':Hp} {σ:L2.St} {H H':Hp} (e:EnvE X c r F σ H) (s:Step F H F' H'):EnvE X c r F' σ H' :=
 ⟨s.fh,e.tb.up s,fun x i t pn a b d=>let ⟨j,v,h1,h2,h3⟩:=e.get x i t pn a b d;⟨j,v,h1,h2,h3.mono s.ff⟩⟩
def spT (K:PySem.W.Frag) (g:List T→Option T):Sp:=fun vs H Q _=>∃ F ts t,Same F H∧Tbk K F H∧Reps K F ts vs∧g ts=some t∧∀ v F' H',Step F H F' H'→Rep K F' t v→Q v H'
def plainF (f:Str):Bool:=!(f==(".put":Str))&&!(f==(".lam":Str))
structure Gd (X:Cx) (c:Tc) (G:Glo) (k:Nat):Prop where
 room:Room k X.A
 calm:X.calm=true
 nob:∀ x∈bnames,X.mg x=none
 call:∀ f ts t,plainF f=true→G.call f ts=some t→∃ (a:Addr) (fd:FuncData) (ps:List Str),FnOk X.prog X.w X.K X.mg X.base CX0 k a fd ps (spT X.K (G.call f))∧X.mg f=some (.ref a)∧PySem.W.keepIn X.K (.ref a)=true∧Binds X.K fd ps []
 con:∀ x t,G.con x=some t→∃ u v,X.mg x=some u∧RelV v u∧∀ F,Rep X.K F t v
 vis:∀ x,visB c.sc x=true→Vis X.env.scope x
 gl:∀ x,glB c.sc x=true→Gl X x
 cap:∀ x,(c.sc.names.lookup x=some .cell∨c.sc.names.lookup x=some .free)→(X.env.kindOf x=some .cell∨X.env.kindOf x=some .free)
 nd:X.N.Nodup
def spE (X:Cx) (c:Tc) (f:Env→Option T):TE:=fun σ H Q=>∃ r F t,EnvE X c r F σ H∧f r=some t∧∀ v F' H',Step F H F' H'→Rep X.K F' t v→Q v H'
def spB (X:Cx) (c:Tc) (f:Env→Option T):TT:=fun σ H Q=>∃ r F b,EnvE X c r F σ H∧f r=some (.bl b)∧∀ F' H',Step F H F' H'→Q b H'
def spL (X:Cx) (c:Tc) (f:Env→Option (List T)):TA:=fun σ H Q=>∃ r F ts,EnvE X c r F σ H∧f r=some ts∧∀ vs F' H',Step F H F' H'→Reps X.K F' ts vs→Q vs H'
abbrev Oke (X:Cx) (c:Tc) (e:Expr) (f:Env→Option T):Prop:=PE X e (spE X c f)
abbrev Okt (X:Cx) (c:Tc) (e:Expr) (f:Env→Option T):Prop:=PT X e (spB X c f)
theorem pe_mono {X:Cx} {e:Expr} {t t':TE} (h:PE X e t) (m:∀ σ H Q,t' σ H Q→t σ H Q):PE X e t':=fun pins s σ H Q I q=>h pins s σ H Q I (m σ H Q q)
theorem pt_mono {X:Cx} {e:Expr} {t t':TT} (h:PT X e t) (m:∀ σ H Q,t' σ H Q→t σ H Q):PT X e t':=fun pins s σ H Q I q=>h pins s σ H Q I (m σ H Q q)
theorem pw_mono {X:Cx} {e:Expr} {t t':TT} (h:PW X e t) (m:∀ σ H Q,t' σ H Q→t σ H Q):PW X e t':=fun wh pins s σ H Q I q=>h wh pins s σ H Q I (m σ H Q q)
theorem ps_mono {X:Cx} {e:Stmt} {t t':TS} (h:PS X e t) (m:∀ D σ H,t' D σ H→t D σ H):PS X e t':=fun pins s σ H D I q=>h pins s σ H D I (m D σ H q)
theorem pss_mono {X:Cx} {e:List Stmt} {t t':TS} (h:PSs X e t) (m:∀ D σ H,t' D σ H→t D σ H):PSs X e t':=fun pins s σ H D I q=>h pins s σ H D I (m D σ H q)
def OpS (X:Cx) (f:Value→Value→Sem Value) (g:T→T→Option T):Prop :=
 OpR X f (fun x y H Q=>∃ F t1 t2 t,Same F H∧Rep X.K F t1 x∧Rep X.K F t2 y∧g t1 t2=some t∧∀ v F' H',Step F H F' H'→Rep X.K F' t v→Q v H')
section
variable {X:Cx} {c:Tc} {a b:Expr} {pos:Pos}
theorem ok_op {op:Operator} {f g:Env→Option T} {h:T→T→Option T} (ho:OpS X (binaryOp op) h) (ha:Oke X c a f) (hb:Oke X c b g):Oke X c (.BinOp a op b pos) (fun r=>(f r).bind fun x=>(g r).bind fun y=>h x y):=by
 refine pe_mono (pe_op ho ha hb) fun σ H Q q=>?_
 obtain ⟨r,F,t,e,ht,q⟩:=q
 obtain ⟨t1,e1,ht⟩:=obs ht
 obtain ⟨t2,e2,ht⟩:=obs ht
 refine ⟨r,F,t1,e,e1,fun v1 F1 H1 s1 r1=>⟨r,F1,t2,e.step s1,e2,fun v2 F2 H2 s2 r2=>?_⟩⟩
 exact ⟨F2,t1,t2,t,s2.fh,r1.mono s2.ff,r2,ht,fun v F' H' s3 r3=>q v F' H' (s1.trans (s2.trans s3)) r3⟩
theorem ok_cmp {op:CmpOp} {f g:Env→Option T} {h:T→T→Option T} (ho:OpS X (compareOp op) h) (ha:Oke X c a f) (hb:Oke X c b g) (hm:behindInMarks op b=false):Oke X c (.Compare a [op] [b] pos) (fun r=>(f r).bind fun x=>(g r).bind fun y=>h x y):=by
 refine pe_mono (pe_cmpR ho ha hb hm) fun σ H Q q=>?_
 obtain ⟨r,F,t,e,ht,q⟩:=q
 obtain ⟨t1,e1,ht⟩:=obs ht
 obtain ⟨t2,e2,ht⟩:=obs ht
 refine ⟨r,F,t1,e,e1,fun v1 F1 H1 s1 r1=>⟨r,F1,t2,e.step s1,e2,fun v2 F2 H2 s2 r2=>?_⟩⟩
 exact ⟨F2,t1,t2,t,s2.fh,r1.mono s2.ff,r2,ht,fun v F' H' s3 r3=>q v F' H' (s1.trans (s2.trans s3)) r3⟩
theorem ok_cmpT {op:CmpOp} {f g:Env→Option T} {h:T→T→Option T} (ho:OpS X (compareOp op) h) (ha:Oke X c a f) (hb:Oke X c b g) (hm:behindInMarks op b=false):Okt X c (.Compare a [op] [b] pos) (fun r=>(f r).bind fun x=>(g r).bind fun y=>h x y):=by
 refine pt_mono (pt_cmpR ho ha hb hm) fun σ H Q q=>?_
 obtain ⟨r,F,k,e,ht,q⟩:=q
 obtain ⟨t1,e1,ht⟩:=obs ht
 obtain ⟨t2,e2,ht⟩:=obs ht
 refine ⟨r,F,t1,e,e1,fun v1 F1 H1 s1 r1=>⟨r,F1,t2,e.step s1,e2,fun v2 F2 H2 s2 r2=>?_⟩⟩
 exact ⟨F2,t1,t2,_,s2.fh,r1.mono s2.ff,r2,ht,fun v F' H' s3 r3=>⟨k,r3,q F' H' (s1.trans (s2.trans s3))⟩⟩
end
theorem sz_eq:SZ=sizeLine:=sizeLine_eq.symm
section
variable {X:Cx}
theorem op_cat':OpR X (binaryOp .Add) (fun x y H Q=>∃ l b xs zs,x=.ref l∧y=.ref b∧Ls X.K H l xs∧Ls X.K H b zs∧xs.length+zs.length≤sizeLine∧∀ p,H p=none→Q (.ref p) (upd H p (.lst (xs++zs)))):=by
 intro pins s σ H x y v u Q I rx ry h
 obtain ⟨l,b,xs,zs,rfl,rfl,hH,hB,hz,q⟩:=h
 cases rx
 cases ry
 obtain ⟨z,its,n,r,e⟩:=hH.ok I
 obtain ⟨z2,its2,n2,r2,e2⟩:=hB.ok I
 have hl:=r.length
 have hl2:=r2.length
 refine PySem.P.add_list e e2 ?_ (by rw [List.size_toArray,List.size_toArray];omega)
 have ea:its.toArray++its2.toArray=(its++its2).toArray:=by simp
 rw [ea]
 exact ⟨.ref _,_,I.lnew (t':=s.toks) (r.append r2) (by rw [List.length_append];omega),rfl,q _ I.fresh⟩
theorem op_catT':OpR X (binaryOp .Add) (fun x y H Q=>∃ a b xs ys,x=.ref a∧y=.ref b∧SqT X.K H a xs∧SqT X.K H b ys∧xs.length+ys.length≤sizeLine ∧
  (xs=[]→Q (.ref b) H)∧(xs≠[]→ys=[]→Q (.ref a) H)∧(xs≠[]→ys≠[]→∀ p,H p=none→Q (.ref p) (upd H p (.tup (xs++ys))))):=by
 intro pins s σ H x y v u Q I rx ry h
 obtain ⟨a,b,xs,ys,rfl,rfl,ha,hb,hz,q0,q1,q2⟩:=h
 cases rx
 cases ry
 obtain ⟨its,r,ht,_⟩:=I.tuple ha
 obtain ⟨its2,r2,ht2,_⟩:=I.tuple hb
 have hl:=r.length
 have hl2:=r2.length
 by_cases hx:xs=[]
 ·subst hx
  have hi:its=[]:=by
   cases its with
   | nil=>rfl
   | cons _ _=>simp at hl
  subst hi
  obtain ⟨⟨cls,dd,data,sl⟩,ho,hc,n,hd⟩:=id ht
  obtain ⟨⟨cls2,dd2,data2,sl2⟩,ho2,hc2,n2,hd2⟩:=id ht2
  simp only at hc hd hc2 hd2
  subst hc hd hc2 hd2
  exact concat_meets ⟨_,ho,rfl⟩ ⟨_,ho2,rfl⟩ noFill_tuple_add seq_tuple_add PySem.F.slot_tuple_add PySem.F.entry_tuple_add (PySem.F.args_tuple_add_2 _ _)
   (tuple_addW0 a b _ _ n n2 dd dd2 sl sl2 (by simp)) ⟨ho,ho2,⟨.ref b,H,I.tok _,rfl,q0 rfl⟩⟩
 ·refine HT.cat_tup ht ht2 (by intro z;subst z;exact hx (by cases xs with | nil=>rfl | cons _ _=>simp at hl)) (fun hw=>?_) (fun hw=>?_) (by omega)
  ·have hy:ys=[]:=by subst hw;cases ys with | nil=>rfl | cons _ _=>simp at hl2
   exact ⟨.ref a,H,I,rfl,q1 hx hy⟩
  ·have hy:ys≠[]:=by intro z;subst z;exact hw (by cases its2 with | nil=>rfl | cons _ _=>simp at hl2)
   exact ⟨.ref _,_,I.laid (t':=s.toks) (fun b o e=>Heap.get?_push_of_some _ e) (Nat.le_refl _) (show ObjOk X.prog X.w _ _ _ (.tup (xs++ys)) from ⟨by rw [List.length_append];omega,its++its2,r.append r2,IsTup.new _ _⟩),rfl,q2 hx hy _ I.fresh⟩
theorem ops_add:OpS X (binaryOp .Add) addT:=by
 intro pins s σ H x y v u Q I rx ry h
 obtain ⟨F,t1,t2,t,fh,r1,r2,ht,q⟩:=h
 cases t1 with
 | int i =>
  cases t2 with
  | int j =>
   cases r1;cases r2;cases ht
   exact op_add pins s σ H _ _ v u Q I rx ry ⟨_,_,rfl,rfl,q _ F H (Step.refl fh) rfl⟩
  | _=>simp [addT] at ht
 | lst i =>
  cases t2 with
  | lst j =>
   obtain ⟨l,xs,rfl,h1,h2⟩:=r1
   obtain ⟨l',ys,rfl,h3,h4⟩:=r2
   simp only [addT] at ht
   split at ht
   ·rename_i hz
    cases ht
    refine op_cat' pins s σ H _ _ v u Q I rx ry ⟨_,_,_,_,rfl,rfl,Ls.same fh h1,Ls.same fh h3,by rw [h2.length,h4.length,← sz_eq];exact hz,fun p hp=>?_⟩
    have st:=(Step.refl fh).new (o:=.lst (xs++ys)) hp
    exact q _ _ _ st ⟨p,_,rfl,Ls.of upd_same,(h2.app h4).mono st.ff⟩
   ·cases ht
  | _=>simp [addT] at ht
 | tup i =>
  cases t2 with
  | tup j =>
   obtain ⟨l,xs,rfl,h1,h2⟩:=r1
   obtain ⟨l',ys,rfl,h3,h4⟩:=r2
   simp only [addT] at ht
   split at ht
   ·rename_i hz
    cases ht
    refine op_catT' pins s σ H _ _ v u Q I rx ry ⟨_,_,_,_,rfl,rfl,same_tup fh h1,same_tup fh h3,by rw [h2.length,h4.length,← sz_eq];exact hz,fun z=>?_,fun _ z=>?_,fun _ _ p hp=>?_⟩
    ·subst z
     refine q _ F H (Step.refl fh) ⟨l',ys,rfl,h3,?_⟩
     have e:=h2.length
     cases i with
     | nil=>exact h4
     | cons _ _=>simp at e
    ·subst z
     refine q _ F H (Step.refl fh) ⟨l,xs,rfl,h1,?_⟩
     have e:=h4.length
     cases j with
     | nil=>rw [List.append_nil];exact h2
     | cons _ _=>simp at e
    ·have st:=(Step.refl fh).new (o:=.tup (xs++ys)) hp
     exact q _ _ _ st ⟨p,_,rfl,upd_same,(h2.app h4).mono st.ff⟩
   ·cases ht
  | _=>simp [addT] at ht
 | _=>cases t2<;>simp [addT] at ht
theorem ops_sub:OpS X (binaryOp .Sub) subT:=by
 intro pins s σ H x y v u Q I rx ry h
 obtain ⟨F,t1,t2,t,fh,r1,r2,ht,q⟩:=h
 cases t1<;>cases t2<;>simp only [subT] at ht<;>cases ht
 cases r1;cases r2
 exact op_sub pins s σ H _ _ v u Q I rx ry ⟨_,_,rfl,rfl,q _ F H (Step.refl fh) rfl⟩
theorem Reps.rep {K:PySem.W.Frag} {F:Hp} {ts:List T} {vs:List V} (h:Reps K F ts vs):∀ k:Nat,Reps K F (List.replicate k ts).flatten (List.replicate k vs).flatten
 | 0=>rfl
 | k+1=>by
  rw [List.replicate_succ,List.replicate_succ,List.flatten_cons,List.flatten_cons]
  exact h.app (Reps.rep h k)
theorem ops_mul:OpS X (binaryOp .Mult) mulT:=by
 intro pins s σ H x y v u Q I rx ry h
 obtain ⟨F,t1,t2,t,fh,r1,r2,ht,q⟩:=h
 cases t1 with
 | int i =>
  cases t2 with
  | int j =>
   cases r1;cases r2
   simp only [mulT] at ht
   split at ht
   ·rename_i hz
    cases ht
    refine op_mul pins s σ H _ _ v u Q I rx ry ⟨_,_,rfl,rfl,?_,q _ F H (Step.refl fh) rfl⟩
    rw [Bool.or_eq_true] at hz
    have e64:(2:Int) ^ 64=18446744073709551616:=by decide
    rcases hz with hz | hz<;>simp only [small,Bool.and_eq_true,decide_eq_true_eq] at hz
    ·exact .inl (by rw [e64];exact hz)
    ·exact .inr (by rw [e64];exact hz)
   ·cases ht
  | _=>simp [mulT] at ht
 | _=>cases t2<;>simp [mulT] at ht
theorem ops_fdiv:OpS X (binaryOp .FloorDiv) fdivT:=by
 intro pins s σ H x y v u Q I rx ry h
 obtain ⟨F,t1,t2,t,fh,r1,r2,ht,q⟩:=h
 cases t1<;>cases t2<;>simp only [fdivT] at ht<;>try cases ht
 split at ht
 ·rename_i hz
  cases ht
  cases r1;cases r2
  exact op_fdiv pins s σ H _ _ v u Q I rx ry ⟨_,_,rfl,rfl,hz,q _ F H (Step.refl fh) rfl⟩
 ·cases ht
theorem ops_mod:OpS X (binaryOp .Mod) modT:=by
 intro pins s σ H x y v u Q I rx ry h
 obtain ⟨F,t1,t2,t,fh,r1,r2,ht,q⟩:=h
 cases t1<;>cases t2<;>simp only [modT] at ht<;>try cases ht
 split at ht
 ·rename_i hz
  cases ht
  cases r1;cases r2
  exact op_mod pins s σ H _ _ v u Q I rx ry ⟨_,_,rfl,rfl,hz,q _ F H (Step.refl fh) rfl⟩
 ·cases ht
end
end Ev
end
end
noncomputable section
noncomputable section
namespace L2
open PySem PySem.Spec PyProof.Rows
section
variable {κ:Type} [DecidableEq κ]
def valV (kvs:List (κ × V)) (k:κ):Option V:=(kvs.find? fun kv=>decide (kv.1=k)).map (·.2)
def putK (kvs:List (κ × V)) (k:κ) (v:V):List (κ × V) :=
 if (kvs.any fun kv=>decide (kv.1=k))=true then kvs.map (fun kv=>if kv.1=k then (kv.1,v) else kv) else kvs++[(k,v)]
def dropK (kvs:List (κ × V)) (k:κ):List (κ × V):=kvs.filter fun kv=>decide (kv.1≠k)
theorem valV_pos {p:κ × V} {r:List (κ × V)} {k:κ} (e:p.1=k):valV (p::r) k=some p.2:=by simp [valV,e]
theorem valV_neg {p:κ × V} {r:List (κ × V)} {k:κ} (e:¬ p.1=k):valV (p::r) k=valV r k:=by simp [valV,e]
theorem valV_any (k:κ):∀ kvs:List (κ × V),(kvs.any fun kv=>decide (kv.1=k))=(valV kvs k).isSome
 | []=>rfl
 | p::r=>by
  rw [List.any_cons]
  by_cases e:p.1=k
  ·simp only [valV_pos e,decide_eq_true e,Bool.true_or,Option.isSome_some]
  ·rw [valV_neg e,decide_eq_false e,Bool.false_or];exact valV_any k r
theorem valV_snoc (k j:κ) (y:V):∀ kvs:List (κ × V),valV kvs k=none→valV (kvs++[(k,y)]) j=if j=k then some y else valV kvs j
 | [],_=>by
  by_cases e:k=j
  ·rw [if_pos e.symm];exact valV_pos (p:=(k,y)) e
  ·rw [if_neg (fun z=>e z.symm)];exact valV_neg (p:=(k,y)) e
 | p::r,hn=>by
  rw [List.cons_append]
  have hk:¬ p.1=k:=fun z=>by rw [valV_pos z] at hn;cases hn
  rw [valV_neg hk] at hn
  have ih:=valV_snoc k j y r hn
  by_cases e:p.1=j
  ·rw [valV_pos e,valV_pos e,if_neg (fun z=>hk (e.trans z))]
  ·rw [valV_neg e,valV_neg e,ih]
theorem length_putK (kvs:List (κ × V)) (k:κ) (v:V):(putK kvs k v).length≤kvs.length+1:=by
 unfold putK
 split
 ·rw [List.length_map];omega
 ·rw [List.length_append,List.length_cons,List.length_nil];omega
theorem RelO.isSome_eq {o:Option V} {u:Option Value} (r:RelO o u):o.isSome=u.isSome:=by
 cases o with
 | none=>cases u with
  | none=>rfl
  | some _=>exact (show False from r).elim
 | some _=>cases u with
  | none=>exact (show False from r).elim
  | some _=>rfl
theorem RelO.getD {o:Option V} {u:Option Value} {d:V} {d':Value} (r:RelO o u) (rd:RelV d d'):RelV (o.getD d) (u.getD d'):=by
 cases o with
 | none=>cases u with
  | none=>exact rd
  | some _=>exact (show False from r).elim
 | some _=>cases u with
  | none=>exact (show False from r).elim
  | some _=>exact r
theorem KV.val {kvs:List (κ × V)} {vs:List (κ × Value)} (r:KV kvs vs) (k:κ):RelO (valV kvs k) (valueAt vs k):=by
 unfold KV at r
 induction r with
 | nil=>exact True.intro
 | @cons p q ps qs h t ih =>
  obtain ⟨h1,h2⟩:=h
  by_cases e:p.1=k
  ·have e':q.1=k:=h1.symm.trans e
   have b:valueAt (q::qs) k=some q.2:=by simp [valueAt,e']
   rw [valV_pos e,b];exact h2
  ·have e':¬ q.1=k:=fun z=>e (h1.trans z)
   have b:valueAt (q::qs) k=valueAt qs k:=by simp [valueAt,e']
   rw [valV_neg e,b];exact ih
theorem KV.any {kvs:List (κ × V)} {vs:List (κ × Value)} (r:KV kvs vs) (k:κ):(kvs.any fun kv=>decide (kv.1=k))=vs.any fun kv=>decide (kv.1=k):=by
 unfold KV at r
 induction r with
 | nil=>rfl
 | cons h t ih=>rw [List.any_cons,List.any_cons,ih,h.1]
theorem KV.repl {kvs:List (κ × V)} {vs:List (κ × Value)} (r:KV kvs vs) (k:κ) {y:V} {u:Value} (ry:RelV y u) :
  KV (kvs.map fun kv=>if kv.1=k then (kv.1,y) else kv) (vs.map fun kv=>if kv.1=k then (kv.1,u) else kv):=by
 unfold KV at r ⊢
 induction r with
 | nil=>exact .nil
 | @cons p q ps qs h t ih =>
  rw [List.map_cons,List.map_cons]
  refine .cons ?_ ih
  obtain ⟨h1,h2⟩:=h
  by_cases e:p.1=k
  ·rw [if_pos e,if_pos (h1.symm.trans e)];exact ⟨h1,ry⟩
  ·rw [if_neg e,if_neg (fun z=>e (h1.trans z))];exact ⟨h1,h2⟩
theorem KV.put {kvs:List (κ × V)} {vs:List (κ × Value)} (r:KV kvs vs) (k:κ) {y:V} {u:Value} (ry:RelV y u):KV (putK kvs k y) (stored vs k u):=by
 unfold putK stored
 rw [r.any k]
 by_cases e:(vs.any fun kv=>decide (kv.1=k))=true
 ·rw [if_pos e,if_pos e];exact r.repl k ry
 ·rw [if_neg e,if_neg e];exact Paired.snoc r ⟨rfl,ry⟩
theorem KV.keys {kvs:List (κ × V)} {vs:List (κ × Value)} (r:KV kvs vs):kvs.map (·.1)=vs.map (·.1):=by
 unfold KV at r
 induction r with
 | nil=>rfl
 | cons h t ih=>rw [List.map_cons,List.map_cons,ih,h.1]
theorem KV.length {kvs:List (κ × V)} {vs:List (κ × Value)} (r:KV kvs vs):kvs.length=vs.length:=Paired.length r
end
theorem kV_is {P:Program} {w:World} {k:Key} {u:Value} (r:RelV (kV k) u):(mixKind P w).is k u=true:=by
 rcases k with i | _ | x
 ·obtain ⟨t,e⟩:=(show ∃ t,u=Value.int i t from r);subst e;exact mixKind_int P w i t
 ·cases (show u=Value.none from r);rfl
 ·obtain ⟨t,e⟩:=(show ∃ t,u=Value.str x t from r);subst e;exact mixKind_str P w x t
theorem items_are {P:Program} {w:World}:∀ {ks:List Key} {us:List Value},Vals (ks.map kV) us→ItemsAre (mixKind P w) ks us
 | [],_,r=>by rw [List.map_nil] at r;cases r;exact .nil
 | k::ks,_,r=>by
  rw [List.map_cons] at r
  cases r with
  | cons h t=>exact .cons (kV_is h) (items_are t)
abbrev KT (H:Hp):List (List Key × V)→List (List Key × Addr × Value)→Prop:=Paired fun p q=>p.1=q.1∧H q.2.1=some (.tup (p.1.map kV))∧RelV p.2 q.2.2
theorem KT.val {H:Hp} {kvs:List (List Key × V)} {xs:List (List Key × Addr × Value)} (r:KT H kvs xs) (k:List Key):RelO (valV kvs k) ((atKey xs k).map (·.2)):=by
 induction r with
 | nil=>exact True.intro
 | @cons p q ps qs h t ih =>
  obtain ⟨h1,_,h2⟩:=h
  by_cases e:p.1=k
  ·have e':q.1=k:=h1.symm.trans e
   have b:atKey (q::qs) k=some q.2:=by simp [atKey,e']
   rw [valV_pos e,b];exact h2
  ·have e':¬ q.1=k:=fun z=>e (h1.trans z)
   have b:atKey (q::qs) k=atKey qs k:=by simp [atKey,e']
   rw [valV_neg e,b];exact ih
theorem KT.repl {H:Hp} {kvs:List (List Key × V)} {xs:List (List Key × Addr × Value)} (r:KT H kvs xs) (k:List Key) {y:V} {u:Value} (ry:RelV y u) :
  KT H (kvs.map fun kv=>if kv.1=k then (kv.1,y) else kv) (xs.map (putAt k u)):=by
 induction r with
 | nil=>exact .nil
 | @cons p q ps qs h t ih =>
  rw [List.map_cons,List.map_cons]
  refine .cons ?_ ih
  obtain ⟨h1,h2,h3⟩:=h
  unfold putAt
  by_cases e:p.1=k
  ·rw [if_pos e,if_pos (h1.symm.trans e)];exact ⟨h1,h2,ry⟩
  ·rw [if_neg e,if_neg (fun z=>e (h1.trans z))];exact ⟨h1,h2,h3⟩
theorem KT.put {H:Hp} {kvs:List (List Key × V)} {xs:List (List Key × Addr × Value)} (r:KT H kvs xs) (k:List Key) {b:Addr} {y:V} {u:Value} (hb:H b=some (.tup (k.map kV))) (ry:RelV y u) :
  KT H (putK kvs k y) (storedH xs k b u):=by
 have e:(kvs.any fun kv=>decide (kv.1=k))=(atKey xs k).isSome:=by
  rw [valV_any,(r.val k).isSome_eq,Option.isSome_map]
 unfold putK storedH
 rw [e]
 by_cases q:(atKey xs k).isSome=true
 ·rw [if_pos q,if_pos q];exact r.repl k ry
 ·rw [if_neg q,if_neg q];exact Paired.snoc r ⟨rfl,hb,ry⟩
theorem KT.keeps {H H':Hp} {kvs:List (List Key × V)} {xs:List (List Key × Addr × Value)} (r:KT H kvs xs) (ht:∀ b ys,H b=some (.tup ys)→H' b=some (.tup ys)):KT H' kvs xs :=
 Paired.mapP r fun _ _ z=>⟨z.1,ht _ _ z.2.1,z.2.2⟩
section
variable {P:Program} {w:World} {H:Hp} {h:Heap} {a:Addr}
theorem rd_of {u:HO} (ok:HOk P w H h) (e:Rd H a u):ObjOk P w H h a u:=e.ok ok
theorem dk_rd {kvs:List (Key × V)} (ok:HOk P w H h) (e:Rd H a (.dK kvs)):kvs.length≤sizeLine∧(a==sysModules)=false∧∃ vs,KV kvs vs∧h.DictOf (mixKind P w) a vs :=
 show ObjOk P w H h a (.dK kvs) from rd_of ok e
theorem dk_of {kvs:List (Key × V)} (ok:HOk P w H h) (e:H a=some (.dK kvs)):kvs.length≤sizeLine∧(a==sysModules)=false∧∃ vs,KV kvs vs∧h.DictOf (mixKind P w) a vs:=dk_rd ok (.inl e)
theorem key_of {ks:List Key} (ok:HOk P w H h) (e:H a=some (.tup (ks.map kV))):(tupleKind (mixKind P w)).is h ks a:=by
 obtain ⟨_,its,r,o,h1,h2,n,h3⟩:=(show ObjOk P w H h a (.tup (ks.map kV)) from ok a _ e)
 exact ⟨o,its.toArray,n,h1,h2,h3,by simpa using items_are r⟩
theorem dt_rd {kvs:List (List Key × V)} (ok:HOk P w H h) (e:Rd H a (.dT kvs)):kvs.length≤sizeLine∧(a==sysModules)=false ∧
  ∃ xs,KT H kvs xs∧h.DictOfH (tupleKind (mixKind P w)) a xs:=by
 obtain ⟨z,y,xs,r,o,es,ep,h1,h2,h3,h4,h5⟩:=(show ObjOk P w H h a (.dT kvs) from rd_of ok e)
 refine ⟨z,y,xs,r,o,es,ep,h1,h2,h3,h4,fun x hx=>?_,h5⟩
 have all:∀ {l:List (List Key × V)} {m:List (List Key × Addr × Value)},KT H l m→∀ x∈m,(tupleKind (mixKind P w)).is h x.1 x.2.1:=by
  intro l m q
  induction q with
  | nil=>intro x hx;exact nomatch hx
  | @cons p q ps qs hq t ih =>
   intro x hx
   rcases omc hx with e | hx
   ·subst e
    exact key_of ok (by rw [← hq.1];exact hq.2.1)
   ·exact ih x hx
 exact all r x hx
theorem dt_of {kvs:List (List Key × V)} (ok:HOk P w H h) (e:H a=some (.dT kvs)):kvs.length≤sizeLine∧(a==sysModules)=false ∧
  ∃ xs,KT H kvs xs∧h.DictOfH (tupleKind (mixKind P w)) a xs:=dt_rd ok (.inl e)
end
def DGet (H:Hp) (a:Addr) (y:V) (r:Option V):Prop :=
 (∃ kvs k,Rd H a (.dK kvs)∧y=kV k∧r=valV kvs k)∨∃ kvs k b,Rd H a (.dT kvs)∧y=.ref b∧H b=some (.tup (k.map kV))∧r=valV kvs k
def DPut (H:Hp) (a:Addr) (y v:V) (H':Hp):Prop :=
 (∃ kvs k,H a=some (.dK kvs)∧y=kV k∧kvs.length<sizeLine∧H'=upd H a (.dK (putK kvs k v))) ∨
 ∃ kvs k b,H a=some (.dT kvs)∧y=.ref b∧H b=some (.tup (k.map kV))∧kvs.length<sizeLine∧H'=upd H a (.dT (putK kvs k v))
theorem DGet.k {H:Hp} {a:Addr} {kvs:List (Key × V)} {k:Key} (e:H a=some (.dK kvs)):DGet H a (kV k) (valV kvs k):=.inl ⟨kvs,k,.inl e,rfl,rfl⟩
theorem DPut.k {H:Hp} {a:Addr} {kvs:List (Key × V)} {k:Key} {v:V} (e:H a=some (.dK kvs)) (hl:kvs.length<sizeLine):DPut H a (kV k) v (upd H a (.dK (putK kvs k v))):=.inl ⟨kvs,k,e,rfl,hl,rfl⟩
section
variable {X:Cx} {pins:List (Addr × Obj)} {σ:St} {H:Hp} {s:Shared} {a:Addr} {y v:V} {u r:Value} {o:Option V} {A:Around} {E:Value→Shared→Prop}
theorem Inv.big (I:Inv X pins σ H s):sysModules<s.heap.objs.size:=by
 have h:mainGlobals<s.heap.objs.size:=(I.mod.glob.keeps I.bk).lt
 exact Nat.lt_trans (by decide) h
theorem d_in {Q:Value→Shared→Prop} (hu:A.units+1<cLine) (I:Inv X pins σ H s) (g:DGet H a y o) (ry:RelV y u) (h:∀ s',Inv X pins σ H s'→Q (.bool o.isSome) s') :
  wpAny (model X.prog X.w) A (compareOp .In u (.ref a)) Q E s:=by
 rcases g with ⟨kvs,k,e,ey,l⟩ | ⟨kvs,k,b,e,ey,eb,l⟩
 ·subst ey
  obtain ⟨z,hd,vs,rel,dd⟩:=dk_rd I.hok e
  refine wpAny_in_of (kV_is ry) hd dd.mapOf ?_
  rw [← (rel.val k).isSome_eq,← l]
  exact h _ (I.tok _)
 ·subst ey
  cases (show u=Value.ref b from ry)
  obtain ⟨z,hd,xs,rel,dd⟩:=dt_rd I.hok e
  refine wpAny_in_heap (tupleKind_room_in1 hu) (key_of I.hok eb) hd dd ?_
  have q:=(rel.val k).isSome_eq
  rw [Option.isSome_map] at q
  rw [← q,← l]
  exact h _ (I.tok _)
theorem d_notIn {Q:Value→Shared→Prop} (hu:A.units+1<cLine) (I:Inv X pins σ H s) (g:DGet H a y o) (ry:RelV y u) (h:∀ s',Inv X pins σ H s'→Q (.bool (!o.isSome)) s') :
  wpAny (model X.prog X.w) A (compareOp .NotIn u (.ref a)) Q E s:=by
 rcases g with ⟨kvs,k,e,ey,l⟩ | ⟨kvs,k,b,e,ey,eb,l⟩
 ·subst ey
  obtain ⟨z,hd,vs,rel,dd⟩:=dk_rd I.hok e
  refine wpAny_notIn_of (kV_is ry) hd dd.mapOf ?_
  rw [← (rel.val k).isSome_eq,← l]
  exact h _ (I.tok _)
 ·subst ey
  cases (show u=Value.ref b from ry)
  obtain ⟨z,hd,xs,rel,dd⟩:=dt_rd I.hok e
  refine wpAny_notIn_heap (tupleKind_room_in1 hu) (key_of I.hok eb) hd dd ?_
  have q:=(rel.val k).isSome_eq
  rw [Option.isSome_map] at q
  rw [← q,← l]
  exact h _ (I.tok _)
theorem d_write {h':Heap} {t':Nat} {ob:HO} (I:Inv X pins σ H s) (mu:Mut (H a)) (hs:Heap.SameBut a s.heap h') (he:∃ q,h'.get? a=some q) (new:ObjOk X.prog X.w (upd H a ob) h' a ob) :
  Inv X pins σ (upd H a ob) { s with heap:=h',toks:=t' } :=
 I.write (x:=a) (e:=a) mu (.inl rfl) (fun b q hb z=>(hs.2 b hb).trans z) he new
theorem dk_new {P:Program} {w:World} {H':Hp} {h':Heap} {kvs:List (Key × V)} {vs:List (Key × Value)} (z:kvs.length≤sizeLine) (hd:(a==sysModules)=false) (rel:KV kvs vs) (dd:h'.DictOf (mixKind P w) a vs) :
  ObjOk P w H' h' a (.dK kvs):=⟨z,hd,vs,rel,dd⟩
theorem d_setItem {H':Hp} {Q:Unit→Shared→Prop} (hu:A.units+1<cLine) (I:Inv X pins σ H s) (g:DPut H a y v H') (ry:RelV y u) (rv:RelV v r) (h:∀ s',Inv X pins σ H' s'→Q () s') :
  wpAny (model X.prog X.w) A (setItem (.ref a) u r) Q E s:=by
 rcases g with ⟨kvs,k,e,ey,l,eH⟩ | ⟨kvs,k,b,e,ey,eb,l,eH⟩
 ·subst ey eH
  obtain ⟨z,hd,vs,rel,dd⟩:=dk_of I.hok e
  have hz:vs.length≤sizeLine:=by rw [← rel.length];exact z
  have hl:(putK kvs k v).length≤sizeLine:=by have:=length_putK kvs k v;omega
  refine wpAny_setItem_pairs (hsz:=hz) (kV_is ry) dd fun h' dd' hs=>h _ ?_
  have he:∃ q,h'.get? a=some q:=let ⟨q,_,_,hq,_⟩:=dd';⟨q,hq⟩
  exact d_write I (by rw [e];exact True.intro) hs he (dk_new hl hd (rel.put k rv) dd')
 ·subst ey eH
  cases (show u=Value.ref b from ry)
  obtain ⟨z,hd,xs,rel,dd⟩:=dt_of I.hok e
  have hz:xs.length≤sizeLine:=by rw [← Paired.length rel];exact z
  have hl:(putK kvs k v).length≤sizeLine:=by have:=length_putK kvs k v;omega
  refine wpAny_setItem_heap (hsz:=hz) (tupleKind_room_in1 hu) (key_of I.hok eb) dd fun h' dd' hs=>h _ ?_
  obtain ⟨q,es,ep,hq,h2,h3,h4,_,h5⟩:=dd'
  refine d_write I (by rw [e];exact True.intro) hs ⟨q,hq⟩ ⟨hl,hd,_,(rel.put k eb rv).keeps fun c ys ec=>?_,q,es,ep,hq,h2,h3,h4,h5⟩
  rw [upd_ne (ne_of ec e (fun z=>nomatch z))]
  exact ec
end
section
variable {X:Cx} {pins:List (Addr × Obj)} {σ:St} {H:Hp} {s:Shared} {a:Addr} {kvs:List (Key × V)} {k:Key} {u:Value} {A:Around} {E:Value→Shared→Prop}
end
def tDNotIn (ty td:TE):TE:=fun σ H Q=>ty σ H fun y H1=>td σ H1 fun x H2=>∃ a o,x=.ref a∧DGet H2 a y o∧Q (.bl (!o.isSome)) H2
def sDPut (td ty tv:TE):TS:=fun D σ H=>tv σ H fun v H1=>td σ H1 fun x H2=>ty σ H2 fun y H3=>∃ a H4,x=.ref a∧DPut H3 a y v H4∧D.nx σ H4
section
variable {X:Cx} {o i e value:Expr} {pos pos' tpos:Pos} {td ty tv:TE}
theorem pc_dnotin (hu:X.A.units+1<cLine) (hi:PE X i ty) (ho:PE X o td):PC X .NotIn i o (tDNotIn ty td):=by
 intro pins s σ H Q I h
 refine thn (hi pins s σ H _ I h) fun iv s1 ⟨y,H1,I1,ry,q1⟩=>thn (ho pins s1 σ H1 _ I1 q1) fun u s2 ⟨x,H2,I2,rx,a,ov,ex,g,q2⟩=>?_
 subst ex
 obtain rfl:u=Value.ref a:=rx
 exact d_notIn hu I2 g ry fun s3 I3=>⟨.bl (!ov.isSome),H2,I3,rfl,q2⟩
theorem ps_dput (hu:X.A.units+1<cLine) (ho:PE X o td) (hi:PE X i ty) (hv:PE X value tv) (hs:swapsWith value (some (.Subscript o i pos')) pos.line X.env=pure false) :
  PS X (.Assign [.Subscript o i pos'] value pos) (sDPut td ty tv):=by
 intro pins s σ H D I h
 refine wpAny_Assign_Subscript (thn (hv pins s σ H _ I h) fun r s1 ⟨v,H1,I1,rv,q1⟩=>thn (ho pins s1 σ H1 _ I1 q1) fun u s2 ⟨x,H2,I2,rx,q2⟩=>thn (hi pins s2 σ H2 _ I2 q2) fun iv s3 ⟨y,H3,I3,ry,a,H4,ex,g,q3⟩=>?_) hs
 subst ex
 obtain rfl:u=Value.ref a:=rx
 exact d_setItem hu I3 g ry rv fun s4 I4=>⟨σ,H4,I4,q3⟩
end
theorem dk_empty {P:Program} {w:World} {H:Hp} (h:Heap) (hb:sysModules<h.objs.size):ObjOk P w H (h.push { cls:=.type "dict",data:=.dict #[] }) h.objs.size (.dK []) :=
 ⟨Nat.zero_le _,beq_eq_false_iff_ne.mpr (Ne.symm (Nat.ne_of_lt hb)),[],.nil,Heap.DictOf.new h⟩
def tDNewK:TE:=fun _ H Q=>∀ p,H p=none→Q (.ref p) (upd H p (.dK []))
section
variable {X:Cx} {pos:Pos}
theorem pe_dnewK:PE X (.Dict [] [] pos) tDNewK:=fun pins s σ H Q I h =>
 wpAny_Dict_empty ⟨.ref s.heap.objs.size,_,I.laid (a:=s.heap.objs.size) (o:=.dK []) (t':=s.toks) (fun _ _ q=>Heap.get?_push_of_some _ q) (Nat.le_refl _) (dk_empty s.heap I.big),rfl,h _ (I.hok.fresh (Nat.le_refl _))⟩
end
def tPairs:List (TE × TE)→St→Hp→(List (V × V)→Hp→Prop)→Prop
 | [],_,H,Q=>Q [] H
 | (tk,tv)::r,σ,H,Q=>tk σ H fun x H1=>tv σ H1 fun y H2=>tPairs r σ H2 fun ps H3=>Q ((x,y)::ps) H3
abbrev VV:List (V × V)→List (Value × Value)→Prop:=Paired fun p q=>RelV p.1 q.1∧RelV p.2 q.2
def PPs (X:Cx) (pos:Pos) (keys:List (Option Expr)) (values:List Expr) (trs:List (TE × TE)):Prop :=
 ∀ (pins:List (Addr × Obj)) (s:Shared) (σ:St) (H:Hp) (Q:List (V × V)→Hp→Prop),Inv X pins σ H s→tPairs trs σ H Q →
  wpAny (model X.prog X.w) X.A (evalPairs (pairTrees keys values X.env pos)) (fun vs s'=>∃ ps H',Inv X pins σ H' s'∧VV ps vs∧Q ps H') X.xe s
theorem pps_nil {X:Cx} {pos:Pos}:PPs X pos [] [] []:=fun pins s σ H Q I h=>pairTrees_nil_walk ⟨[],H,I,.nil,h⟩
theorem pps_cons {X:Cx} {pos:Pos} {k v:Expr} {ks:List (Option Expr)} {vs:List Expr} {tk tv:TE} {trs:List (TE × TE)} (hk:PE X k tk) (hv:PE X v tv) (hr:PPs X pos ks vs trs) :
  PPs X pos (some k::ks) (v::vs) ((tk,tv)::trs):=fun pins s σ H Q I h =>
 pairTrees_cons_walk (thn (hk pins s σ H _ I h) fun u s1 ⟨x,H1,I1,rx,q1⟩=>thn (hv pins s1 σ H1 _ I1 q1) fun w2 s2 ⟨y,H2,I2,ry,q2⟩ =>
  thn (hr pins s2 σ H2 _ I2 q2) fun ws s3 ⟨ps,H3,I3,rel,q3⟩=>⟨(x,y)::ps,H3,I3,.cons ⟨rx,ry⟩ rel,q3⟩)
def mergeK (kvs more:List (Key × V)):List (Key × V):=more.foldl (fun acc kv=>putK acc kv.1 kv.2) kvs
theorem KV.merge:∀ {more:List (Key × V)} {rs:List (Key × Value)} {kvs:List (Key × V)} {vs:List (Key × Value)},KV more rs→KV kvs vs→KV (mergeK kvs more) (merged vs rs):=by
 intro more rs kvs vs r
 unfold KV at r
 induction r generalizing kvs vs with
 | nil=>intro q;exact q
 | @cons p q ps qs h t ih =>
  intro r0
  have e:KV (putK kvs p.1 p.2) (stored vs q.1 q.2):=by
   have:=r0.put p.1 h.2
   rw [← h.1];exact this
  exact ih e
theorem length_mergeK:∀ (more kvs:List (Key × V)),(mergeK kvs more).length≤kvs.length+more.length
 | [],kvs=>by show kvs.length≤kvs.length+0;omega
 | p::r,kvs=>by
  have h1:=length_mergeK r (putK kvs p.1 p.2)
  have h2:=length_putK kvs p.1 p.2
  show (mergeK (putK kvs p.1 p.2) r).length≤_
  rw [List.length_cons];omega
theorem carries_of {P:Program} {w:World}:∀ {kvs:List (Key × V)} {ws:List (Value × Value)},VV (kvs.map fun kv=>(kV kv.1,kv.2)) ws→∃ rs,Carries (mixKind P w) ws rs∧KV kvs rs
 | [],_,r=>by rw [List.map_nil] at r;cases r;exact ⟨[],True.intro,.nil⟩
 | p::kvs,_,r=>by
  rw [List.map_cons] at r
  cases r with
  | @cons a b as bs h t =>
   obtain ⟨rs,c,q⟩:=carries_of (P:=P) (w:=w) t
   obtain ⟨b1,b2⟩:=b
   exact ⟨(p.1,b2)::rs,⟨kV_is h.1,rfl,c⟩,.cons ⟨rfl,h.2⟩ q⟩
def tDisp (trs:List (TE × TE)):TE:=fun σ H Q=>∀ p,H p=none→tPairs trs σ (upd H p (.dK [])) fun ps H2=>H2 p=some (.dK [])∧∃ kvs:List (Key × V),ps=kvs.map (fun kv=>(kV kv.1,kv.2))∧kvs.length≤15∧Q (.ref p) (upd H2 p (.dK (mergeK [] kvs)))
theorem pe_disp {X:Cx} {pos:Pos} {keys:List (Option Expr)} {values:List Expr} {trs:List (TE × TE)} (h:PPs X pos keys values trs) (hall:keys.all (·.isSome)=true) (hl:keys.length=values.length) (h0:keys≠[])
  (h15:keys.length≤15):PE X (.Dict keys values pos) (tDisp trs):=by
 intro pins s σ H Q I q
 have hn:=I.hok.fresh (Nat.le_refl s.heap.objs.size)
 have I1:=I.laid (a:=s.heap.objs.size) (o:=.dK []) (h':=s.heap.push { cls:=.type "dict",data:=.dict #[] }) (t':=s.toks) (fun _ _ q=>Heap.get?_push_of_some _ q) (Nat.le_refl _) (dk_empty s.heap I.big)
 refine wpAny_Dict_walk (knd:=mixKind X.prog X.w) hall hl h0 h15 (thn (h pins _ σ _ _ I1 (q _ hn)) fun ws s2 ⟨ps,H2,I2,rel,e,kvs,ep,lk,q2⟩=>?_)
 subst ep
 obtain ⟨rs,c,rk⟩:=carries_of (P:=X.prog) (w:=X.w) rel
 obtain ⟨z,hd,vs0,r0,dd⟩:=dk_of I2.hok e
 cases r0
 refine ⟨rs,c,dd,fun h' dd' hs=>⟨.ref s.heap.objs.size,_,?_,rfl,q2⟩⟩
 have hz:(mergeK [] kvs).length≤sizeLine:=by
  have h1:=length_mergeK kvs []
  rw [List.length_nil] at h1
  rw [sizeLine_eq];omega
 have he:∃ q,h'.get? s.heap.objs.size=some q:=let ⟨q,_,_,hq,_⟩:=dd';⟨q,hq⟩
 exact d_write I2 (by rw [e];exact True.intro) hs he (dk_new hz hd (rk.merge .nil) dd')
structure M1 (X:Cx) (o:Expr) (m:Str) (apos:Pos) (e:Expr) (cpos:Pos):Prop where
 base:attributeBase o m X.env (eval o X.env)=eval o X.env
 few:((backTo cpos (starEach [e] X.env)).all (fun x=>!x.1)&&(backToKw cpos (keywordEach [] X.env)).all (fun x=>x.1.isSome)
  && decide (([e]:List Expr).length+([]:List Keyword).length+(if ([]:List Keyword).isEmpty then 0 else 1)<30))=true
 line:(apos.endLine==cpos.line)=true
 trees:backTo cpos (starEach [e] X.env)=[(false,eval e X.env)]
structure M2 (X:Cx) (o:Expr) (m:Str) (apos:Pos) (e f:Expr) (cpos:Pos):Prop where
 base:attributeBase o m X.env (eval o X.env)=eval o X.env
 few:((backTo cpos (starEach [e,f] X.env)).all (fun x=>!x.1)&&(backToKw cpos (keywordEach [] X.env)).all (fun x=>x.1.isSome)
  && decide (([e,f]:List Expr).length+([]:List Keyword).length+(if ([]:List Keyword).isEmpty then 0 else 1)<30))=true
 line:(apos.endLine==cpos.line)=true
 trees:backTo cpos (starEach [e,f] X.env)=[(false,eval e X.env),(false,eval f X.env)]
def IsD (H:Hp) (a:Addr):Prop:=(∃ kvs,Rd H a (.dK kvs))∨∃ kvs,Rd H a (.dT kvs)
theorem isD_at {X:Cx} {pins:List (Addr × Obj)} {σ:St} {H:Hp} {s:Shared} {a:Addr} (I:Inv X pins σ H s) (d:IsD H a) :
  s.TypeIs (.ref a) "dict"∧(∀ b,Value.ref a=.ref b→∃ ob,s.heap.get? b=some ob∧ob.dict=none)∧(a==sysModules)=false:=by
 rcases d with ⟨kvs,e⟩ | ⟨kvs,e⟩
 ·obtain ⟨_,hd,vs,_,dd⟩:=dk_rd I.hok e
  refine ⟨dd.typeIs,fun b q=>?_,hd⟩
  cases q
  obtain ⟨ob,_,_,h1,h2,_⟩:=dd
  exact ⟨ob,h1,h2.2.1⟩
 ·obtain ⟨_,hd,xs,_,dd⟩:=dt_rd I.hok e
  refine ⟨dd.typeIs,fun b q=>?_,hd⟩
  cases q
  obtain ⟨ob,_,_,h1,h2,_⟩:=dd
  exact ⟨ob,h1,h2.2.1⟩
section
variable {X:Cx} {pins:List (Addr × Obj)} {σ:St} {H:Hp} {s:Shared} {a:Addr} {y d:V} {u r:Value} {o:Option V} {A:Around} {E:Value→Shared→Prop}
theorem d_get2 {Q:Value→Shared→Prop} (hu:A.units+1<cLine) (I:Inv X pins σ H s) (g:DGet H a y o) (ry:RelV y u) (rd:RelV d r) (h:∀ w' s',Inv X pins σ H s'→RelV (o.getD d) w'→Q w' s') :
  wpAny (model X.prog X.w) A (call (.builtin "dict.get") [.ref a,u,r]) Q E s:=by
 rcases g with ⟨kvs,k,e,ey,l⟩ | ⟨kvs,k,b,e,ey,eb,l⟩
 ·subst ey
  obtain ⟨z,hd,vs,rel,dd⟩:=dk_rd I.hok e
  refine call_meetsIn PySem.F.slot_dict_get dd.typeIs PySem.F.entry_dict_get (PySem.F.args_dict_get_3 _ _ _) (meets_dict_get_default (mixKind X.prog X.w) a (kV_is ry) hd r) ⟨_,dd.mapOf,h _ _ (I.tok _) ?_⟩
  rw [l]
  exact (rel.val k).getD rd
 ·subst ey
  cases (show u=Value.ref b from ry)
  obtain ⟨z,hd,xs,rel,dd⟩:=dt_rd I.hok e
  refine call_meetsIn PySem.F.slot_dict_get dd.typeIs PySem.F.entry_dict_get (PySem.F.args_dict_get_3 _ _ _) (meetsH_dict_get_default (tupleKind (mixKind X.prog X.w)) a b hd r) ⟨tupleKind_room_in1 hu,k,xs,key_of I.hok eb,dd,h _ _ (I.tok _) ?_⟩
  rw [l]
  exact (rel.val k).getD rd
end
def tDGet2 (td ty tx:TE):TE:=fun σ H Q=>td σ H fun x H1=>∃ a,x=.ref a∧IsD H1 a∧ty σ H1 fun y H2=>tx σ H2 fun z H3=>∃ o,DGet H3 a y o∧Q (o.getD z) H3
section
variable {X:Cx} {o e f:Expr} {apos cpos:Pos} {td ty tx:TE}
theorem pe_dget2 (hu:X.A.units+1<cLine) (ho:PE X o td) (he:PE X e ty) (hf:PE X f tx) (m:M2 X o "get" apos e f cpos):PE X (.Call (.Attribute o "get" apos) [e,f] [] cpos) (tDGet2 td ty tx):=by
 intro pins s σ H Q I h
 refine wpAny_Call_method m.base m.few m.line PySem.F.plainAttrs_dict PySem.F.slot_dict_get PySem.F.type_dict_get (thn (ho pins s σ H _ I h) fun u s1 ⟨x,H1,I1,rx,a,ex,d,q1⟩=>?_)
 subst ex
 obtain rfl:u=Value.ref a:=rx
 obtain ⟨t1,t2,_⟩:=isD_at I1 d
 refine ⟨t1,t2,?_⟩
 rw [m.trees]
 refine Calls.callWith_builtin rfl (Calls.evalArgs_plain (Calls.spliced_cons (thn (he pins s1 σ H1 _ I1 q1) fun iv s2 ⟨y,H2,I2,ry,q2⟩ =>
  Calls.spliced_cons (thn (hf pins s2 σ H2 _ I2 q2) fun fv s3 ⟨z,H3,I3,rz,ov,g,q3⟩=>Calls.spliced_nil ?_))))
 exact d_get2 hu I3 g ry rz fun w' s4 I4 rw'=>⟨_,H3,I4,rw',q3⟩
end
section
variable {X:Cx} {pins:List (Addr × Obj)} {σ:St} {H:Hp} {s:Shared} {a:Addr} {kvs:List (Key × V)} {A:Around} {E:Value→Shared→Prop}
end
section
variable {X:Cx} {pins:List (Addr × Obj)} {σ:St} {H:Hp} {s:Shared} {a:Addr} {y:V} {u:Value} {A:Around} {E:Value→Shared→Prop}
end
end L2
namespace L2
open PySem PySem.Spec PyProof.Rows
section
variable {κ:Type} [DecidableEq κ]
theorem valV_not {kvs:List (κ × V)} {k:κ} (h:valV kvs k=none):¬ k∈kvs.map (·.1):=by
 intro m
 obtain ⟨p,hp,e⟩:=omm m
 have q:(kvs.any fun kv=>decide (kv.1=k))=true:=List.any_eq_true.mpr ⟨p,hp,decide_eq_true e⟩
 rw [valV_any,h] at q
 exact absurd q (by simp)
end
end L2
end
end
noncomputable section
noncomputable section
namespace Ev
open PySem PySem.Spec PyProof.Rows L2
mutual
theorem eqT_refl:∀ t:T,dpP t t<20000→eqT t t=true
 | .non,_=>by rw [eqT]
 | .bl b,_=>by rw [eqT];simp
 | .int i,_=>by rw [eqT];simp
 | .str x,_=>by rw [eqT];simp
 | .tup a,h=>by rw [eqT];rw [dpP] at h;exact eqTs_refl a (by omega)
 | .lst a,h=>by rw [eqT];rw [dpP] at h;exact eqTs_refl a (by omega)
 | .dk _ _,h=>by rw [dpP] at h;omega
 | .dt _ _,h=>by rw [dpP] at h;omega
theorem eqTs_refl:∀ ts:List T,dpPs ts ts<20000→eqTs ts ts=true
 | [],_=>by rw [eqTs]
 | t::ts,h=>by
  rw [dpPs] at h
  rw [eqTs,eqT_refl t (by omega),eqTs_refl ts (by omega)];rfl
end
theorem dpPs_get:∀ {xs ys:List T} {j:Nat} {x y:T},xs[j]?=some x→ys[j]?=some y→dpP x y≤dpPs xs ys
 | [],_,_,_,_,h,_=>by simp at h
 | _::_,[],_,_,_,_,h=>by simp at h
 | a::xs,b::ys,0,x,y,h1,h2=>by
  simp at h1 h2
  subst h1 h2
  rw [dpPs];exact Nat.le_max_left _ _
 | a::xs,b::ys,j+1,x,y,h1,h2=>by
  rw [dpPs]
  exact Nat.le_trans (dpPs_get (j:=j) (by simpa using h1) (by simpa using h2)) (Nat.le_max_right _ _)
theorem eqTs_all:∀ xs ys:List T,eqTs xs ys=((List.range (min xs.length ys.length)).all (fun j=>eqT (xs.getD j .non) (ys.getD j .non))&&xs.length==ys.length)
 | [],[]=>by rw [eqTs];rfl
 | [],b::ys=>by simp [eqTs]
 | a::xs,[]=>by simp [eqTs]
 | a::xs,b::ys=>by
  rw [eqTs,eqTs_all xs ys,List.length_cons,List.length_cons,show min (xs.length+1) (ys.length+1)=min xs.length ys.length+1 by omega,List.range_succ_eq_map,List.all_cons,List.all_map]
  have e:(xs.length+1==ys.length+1)=(xs.length==ys.length):=by
   by_cases h:xs.length=ys.length
   ·simp [h]
   ·simp []
  rw [e,Bool.and_assoc]
  rfl
def isD:T→Bool
 | .dk _ _=>true
 | .dt _ _=>true
 | _=>false
theorem no_d {t1 t2:T} {n:Nat} (hd:dpP t1 t2≤n) (hn:n<20000):isD t1=false∧isD t2=false:=by
 cases t1<;>cases t2<;>first | exact ⟨rfl,rfl⟩ | (exfalso;simp [dpP] at hd;omega)
def bothB:T→T→Bool
 | .tup _,.tup _=>true
 | .lst _,.lst _=>true
 | .dk _ _,_=>true
 | .dt _ _,_=>true
 | _,.dk _ _=>true
 | _,.dt _ _=>true
 | _,_=>false
section
variable {X:Cx} {pins:List (Addr × Obj)} {σ:L2.St} {H F:Hp} {s:Shared}
theorem dict_cls (I:Inv X pins σ H s) {a:Addr} (h:(∃ ws,H a=some (.dK ws))∨∃ ws,H a=some (.dT ws)):∃ o,s.heap.get? a=some o∧o.cls=.type "dict":=by
 rcases h with ⟨ws,h⟩ | ⟨ws,h⟩
 ·obtain ⟨_,_,vs,_,o,es,ep,h1,h2,_⟩:=dk_of I.hok h
  exact ⟨o,h1,h2.1⟩
 ·obtain ⟨_,_,xs,_,o,es,ep,h1,h2,_⟩:=dt_of I.hok h
  exact ⟨o,h1,h2.1⟩
theorem no_tup (I:Inv X pins σ H s) {a:Addr} {vs:List V} (h:(∃ ws,H a=some (.dK ws))∨∃ ws,H a=some (.dT ws)) (p:SqT X.K H a vs):False:=by
 obtain ⟨o,h1,h2⟩:=dict_cls I h
 obtain ⟨its,_,⟨o',e,c,_⟩,_⟩:=I.tuple p
 rw [h1] at e;cases e
 rw [h2] at c;exact absurd c (by decide +kernel)
theorem no_lst (I:Inv X pins σ H s) {a:Addr} {vs:List V} (h:(∃ ws,H a=some (.dK ws))∨∃ ws,H a=some (.dT ws)) (p:Ls X.K H a vs):False:=by
 obtain ⟨o,h1,h2⟩:=dict_cls I h
 obtain ⟨its,_,p',_⟩:=I.list p.sq
 obtain ⟨o',e,c,_⟩:=p'.isList
 rw [h1] at e;cases e
 rw [h2] at c;exact absurd c (by decide +kernel)
theorem seen_tup (I:Inv X pins σ H s) (fh:Same F H) {ts:List T} {v:V} {u:Value} (r:Rep X.K F (.tup ts) v) (ru:RelV v u):∃ a vs its,v=.ref a∧u=.ref a∧Tq X.K F a vs∧Reps X.K F ts vs∧Vals vs its∧s.heap.IsTuple a its.toArray:=by
 obtain ⟨a,vs,rfl,h1,h2⟩:=r
 cases ru
 obtain ⟨its,rv,p,_⟩:=I.tuple (same_tup fh h1)
 exact ⟨a,vs,its,rfl,rfl,h1,h2,rv,p⟩
theorem seen_lst (I:Inv X pins σ H s) (fh:Same F H) {ts:List T} {v:V} {u:Value} (r:Rep X.K F (.lst ts) v) (ru:RelV v u):∃ a vs its,v=.ref a∧u=.ref a∧Ls X.K F a vs∧Reps X.K F ts vs∧Vals vs its∧s.heap.IsList a its.toArray:=by
 obtain ⟨a,vs,rfl,h1,h2⟩:=r
 cases ru
 obtain ⟨its,rv,p,_⟩:=I.list (Ls.same fh h1).sq
 exact ⟨a,vs,its,rfl,rfl,h1,h2,rv,p.isList⟩
theorem both_kinds {a:Addr} {xs ys:Array Value} (h1:s.heap.IsTuple a xs) (h2:s.heap.IsList a ys):False:=by
 obtain ⟨o,e,c,_⟩:=h1
 obtain ⟨o',e',c',_⟩:=h2
 rw [e] at e';cases e'
 rw [c] at c';exact absurd c' (by decide +kernel)
theorem relV_inj {x y:V} {u:Value} (h1:RelV x u) (h2:RelV y u):x=y:=by
 cases x with
 | non=>cases h1;cases y<;>first | rfl | (obtain ⟨_,e⟩:=h2;cases e;done) | (cases h2;done)
 | bl _=>cases h1;cases y<;>first | (obtain ⟨_,e⟩:=h2;cases e;done) | (cases h2;done) | (cases h2;rfl)
 | ref _=>cases h1;cases y<;>first | (obtain ⟨_,e⟩:=h2;cases e;done) | (cases h2;done) | (cases h2;rfl)
 | ty _=>cases h1;cases y<;>first | (obtain ⟨_,e⟩:=h2;cases e;done) | (cases h2;done) | (cases h2;rfl)
 | _=>obtain ⟨_,rfl⟩:=h1;cases y<;>first | (obtain ⟨_,e⟩:=h2;cases e;done) | (cases h2;done) | (obtain ⟨_,e⟩:=h2;cases e;rfl)
mutual
theorem rep_inj (I:Inv X pins σ H s) (fh:Same F H):∀ {t1 t2:T} {v:V},Rep X.K F t1 v→Rep X.K F t2 v→t1=t2
 | .non,t2,v,r1,r2=>by cases r1;cases t2<;>first | rfl | (obtain ⟨_,_,e,_⟩:=r2;cases e) | cases r2
 | .bl b,t2,v,r1,r2=>by cases r1;cases t2<;>first | (cases r2;rfl) | (obtain ⟨_,_,e,_⟩:=r2;cases e) | cases r2
 | .int b,t2,v,r1,r2=>by cases r1;cases t2<;>first | (cases r2;rfl) | (obtain ⟨_,_,e,_⟩:=r2;cases e) | cases r2
 | .str b,t2,v,r1,r2=>by cases r1;cases t2<;>first | (cases r2;rfl) | (obtain ⟨_,_,e,_⟩:=r2;cases e) | cases r2
 | .tup ts,t2,v,r1,r2=>by
  obtain ⟨a,vs,rfl,h1,h2⟩:=r1
  cases t2 with
  | tup us =>
   obtain ⟨b,ws,e,h3,h4⟩:=r2
   cases e
   have:=I.tuple_inj (same_tup fh h1) (same_tup fh h3)
   subst this
   rw [reps_inj I fh h2 h4]
  | lst us =>
   obtain ⟨b,ws,e,h3,h4⟩:=r2
   cases e
   obtain ⟨its,_,p,_⟩:=I.tuple (same_tup fh h1)
   obtain ⟨jts,_,p',_⟩:=I.list (Ls.same fh h3).sq
   exact absurd (both_kinds (s:=s) p p'.isList) id
  | dk _ _ =>
   obtain ⟨b,ws,e,h3,h4⟩:=r2
   cases e
   exact (no_tup I (.inl ⟨_,fh _ _ h3⟩) (same_tup fh h1)).elim
  | dt _ _ =>
   obtain ⟨b,ws,e,h3,h4⟩:=r2
   cases e
   exact (no_tup I (.inr ⟨_,fh _ _ h3⟩) (same_tup fh h1)).elim
  | _=>cases r2
 | .lst ts,t2,v,r1,r2=>by
  obtain ⟨a,vs,rfl,h1,h2⟩:=r1
  cases t2 with
  | lst us =>
   obtain ⟨b,ws,e,h3,h4⟩:=r2
   cases e
   have:=I.list_inj (Ls.same fh h1).sq (Ls.same fh h3).sq
   subst this
   rw [reps_inj I fh h2 h4]
  | tup us =>
   obtain ⟨b,ws,e,h3,h4⟩:=r2
   cases e
   obtain ⟨its,_,p,_⟩:=I.tuple (same_tup fh h3)
   obtain ⟨jts,_,p',_⟩:=I.list (Ls.same fh h1).sq
   exact absurd (both_kinds (s:=s) p p'.isList) id
  | dk _ _ =>
   obtain ⟨b,ws,e,h3,h4⟩:=r2
   cases e
   exact (no_lst I (.inl ⟨_,fh _ _ h3⟩) (Ls.same fh h1)).elim
  | dt _ _ =>
   obtain ⟨b,ws,e,h3,h4⟩:=r2
   cases e
   exact (no_lst I (.inr ⟨_,fh _ _ h3⟩) (Ls.same fh h1)).elim
  | _=>cases r2
 | .dk ks ts,t2,v,r1,r2=>by
  obtain ⟨a,ws,rfl,h1,h2,h2'⟩:=r1
  cases t2 with
  | dk _ _ =>
   obtain ⟨b,zs,e,h3,h4,h4'⟩:=r2
   cases e
   rw [h1] at h3
   cases h3
   subst h2 h4
   rw [reps_inj I fh h2' h4']
  | dt _ _ =>
   obtain ⟨b,zs,e,h3,_⟩:=r2
   cases e
   rw [h1] at h3
   cases h3
  | tup _ =>
   obtain ⟨b,zs,e,h3,_⟩:=r2
   cases e
   exact (no_tup I (.inl ⟨_,fh _ _ h1⟩) (same_tup fh h3)).elim
  | lst _ =>
   obtain ⟨b,zs,e,h3,_⟩:=r2
   cases e
   exact (no_lst I (.inl ⟨_,fh _ _ h1⟩) (Ls.same fh h3)).elim
  | _=>cases r2
 | .dt ks ts,t2,v,r1,r2=>by
  obtain ⟨a,ws,rfl,h1,h2,h2'⟩:=r1
  cases t2 with
  | dt _ _ =>
   obtain ⟨b,zs,e,h3,h4,h4'⟩:=r2
   cases e
   rw [h1] at h3
   cases h3
   subst h2 h4
   rw [reps_inj I fh h2' h4']
  | dk _ _ =>
   obtain ⟨b,zs,e,h3,_⟩:=r2
   cases e
   rw [h1] at h3
   cases h3
  | tup _ =>
   obtain ⟨b,zs,e,h3,_⟩:=r2
   cases e
   exact (no_tup I (.inr ⟨_,fh _ _ h1⟩) (same_tup fh h3)).elim
  | lst _ =>
   obtain ⟨b,zs,e,h3,_⟩:=r2
   cases e
   exact (no_lst I (.inr ⟨_,fh _ _ h1⟩) (Ls.same fh h3)).elim
  | _=>cases r2
theorem reps_inj (I:Inv X pins σ H s) (fh:Same F H):∀ {ts us:List T} {vs:List V},Reps X.K F ts vs→Reps X.K F us vs→ts=us
 | [],us,vs,r1,r2=>by
  cases r1
  cases us with
  | nil=>rfl
  | cons _ _=>obtain ⟨_,_,e,_⟩:=r2;cases e
 | t::ts,us,vs,r1,r2=>by
  obtain ⟨v,r,rfl,h1,h2⟩:=r1
  cases us with
  | nil=>cases r2
  | cons u us =>
   obtain ⟨_,_,e,h3,h4⟩:=r2
   cases e
   rw [rep_inj I fh h1 h3,reps_inj I fh h2 h4]
end
theorem parts_at {n:Nat} {A:Around} (ih:∀ (t1 t2:T) (x y:V) (v u:Value),dpP t1 t2≤n→Rep X.K F t1 x→Rep X.K F t2 y→RelV x v→RelV y u→SeqAt.EqAt A s v u (eqT t1 t2)) {ts us:List T} {vs ws:List V} {its jts:List Value} (hd:dpPs ts us≤n)
  (r1:Reps X.K F ts vs) (r2:Reps X.K F us ws) (v1:Vals vs its) (v2:Vals ws jts):∀ j (h1:j<its.toArray.size) (h2:j<jts.toArray.size),SeqAt.EqAt A s its.toArray[j] jts.toArray[j] (eqT (ts.getD j .non) (us.getD j .non)):=by
 intro j h1 h2
 have l1:its.length=ts.length:=by rw [← v1.length,r1.length]
 have l2:jts.length=us.length:=by rw [← v2.length,r2.length]
 have h1':j<ts.length:=by rw [List.size_toArray] at h1;omega
 have h2':j<us.length:=by rw [List.size_toArray] at h2;omega
 have e1:ts[j]?=some ts[j]:=List.getElem?_eq_getElem h1'
 have e2:us[j]?=some us[j]:=List.getElem?_eq_getElem h2'
 obtain ⟨x,hx,rx⟩:=r1.get e1
 obtain ⟨y,hy,ry⟩:=r2.get e2
 obtain ⟨v,hv,rv⟩:=v1.get hx
 obtain ⟨u,hu,ru⟩:=v2.get hy
 have g1:its.toArray[j]=v:=by
  have:its[j]?=some its.toArray[j]:=by simp
  rw [hv] at this;exact (Option.some.inj this).symm
 have g2:jts.toArray[j]=u:=by
  have:jts[j]?=some jts.toArray[j]:=by simp
  rw [hu] at this;exact (Option.some.inj this).symm
 rw [g1,g2,List.getD_eq_getElem?_getD,List.getD_eq_getElem?_getD,e1,e2]
 exact ih _ _ x y v u (Nat.le_trans (dpPs_get e1 e2) hd) rx ry rv ru
theorem two_sz {ts us:List T} {vs ws:List V} {its jts:List Value} (r1:Reps X.K F ts vs) (r2:Reps X.K F us ws) (v1:Vals vs its) (v2:Vals ws jts):its.toArray.size=ts.length∧jts.toArray.size=us.length:=by
 rw [List.size_toArray,List.size_toArray,← v1.length,← v2.length,r1.length,r2.length];exact ⟨rfl,rfl⟩
theorem eqTs_len {ts us:List T} (h:ts.length=us.length):eqTs ts us=(List.range ts.length).all fun j=>eqT (ts.getD j .non) (us.getD j .non):=by
 rw [eqTs_all,h];simp
theorem eqTs_ne {ts us:List T} (h:ts.length≠us.length):eqTs ts us=false:=by
 rw [eqTs_all,show (ts.length==us.length)=false by simpa using h,Bool.and_false]
theorem kind {P:T→Value→Prop} (I:Inv X pins σ H s) (fh:Same F H) {t:T} {x:V} {v:Value} (r:Rep X.K F t x) (rx:RelV x v) (h0:P .non .none) (h1:∀ b,P (.bl b) (.bool b)) (h2:∀ i k,P (.int i) (.int i k)) (h3:∀ i k,P (.str i) (.str i k))
  (h4:∀ ts a its,s.heap.IsTuple a its→P (.tup ts) (.ref a)) (h5:∀ ts a its,s.heap.IsList a its→P (.lst ts) (.ref a)) (h6:isD t=true→P t v):P t v:=by
 cases t with
 | non=>cases r;cases rx;exact h0
 | bl b=>cases r;cases rx;exact h1 b
 | int i=>cases r;obtain ⟨k,rfl⟩:=rx;exact h2 i k
 | str i=>cases r;obtain ⟨k,rfl⟩:=rx;exact h3 i k
 | tup ts=>obtain ⟨a,_,its,_,rfl,_,_,_,p⟩:=seen_tup I fh r rx;exact h4 ts a _ p
 | lst ts=>obtain ⟨a,_,its,_,rfl,_,_,_,p⟩:=seen_lst I fh r rx;exact h5 ts a _ p
 | dk _ _=>exact h6 rfl
 | dt _ _=>exact h6 rfl
theorem bothD {t1 t2:T} (h:isD t2=true):bothB t1 t2=true:=by cases t2<;>first | (cases h;done) | (cases t1<;>rfl)
theorem bothD1 {t1 t2:T} (h:isD t1=true):bothB t1 t2=true:=by cases t1<;>first | (cases h;done) | rfl
theorem mix {Q:Value→Value→Bool→Prop} {g:Bool→Bool} {A:Around}
  (mnn:Q .none .none (g true))
  (mnb:∀ (b:Bool),Q .none (.bool b) (g false))
  (mni:∀ (b:Int) (b':Tok),Q .none (.int b b') (g false))
  (mns:∀ (b:Str) (b':Tok),Q .none (.str b b') (g false))
  (mnt:∀ {b:Addr} {b':Array Value},s.heap.IsTuple b b'→A.units<cLine→Q .none (.ref b) (g false))
  (mnl:∀ {b:Addr} {b':Array Value},s.heap.IsList b b'→A.units<cLine→Q .none (.ref b) (g false))
  (mbn:∀ (a:Bool),Q (.bool a) .none (g false))
  (mbb:∀ (a:Bool) (b:Bool),Q (.bool a) (.bool b) (g (a==b)))
  (mbi:∀ (a:Bool) (b:Int) (b':Tok),Q (.bool a) (.int b b') (g ((if a then 1 else 0)==b)))
  (mbs:∀ (a:Bool) (b:Str) (b':Tok),Q (.bool a) (.str b b') (g false))
  (mbt:∀ {b:Addr} {b':Array Value} (a:Bool),s.heap.IsTuple b b'→A.units<cLine→Q (.bool a) (.ref b) (g false))
  (mbl:∀ {b:Addr} {b':Array Value} (a:Bool),s.heap.IsList b b'→A.units<cLine→Q (.bool a) (.ref b) (g false))
  (min:∀ (a:Int) (a':Tok),Q (.int a a') .none (g false))
  (mib:∀ (a:Int) (a':Tok) (b:Bool),Q (.int a a') (.bool b) (g (a==(if b then 1 else 0))))
  (mii:∀ (a:Int) (a':Tok) (b:Int) (b':Tok),Q (.int a a') (.int b b') (g (a==b)))
  (mis:∀ (a:Int) (a':Tok) (b:Str) (b':Tok),Q (.int a a') (.str b b') (g false))
  (mit:∀ {b:Addr} {b':Array Value} (a:Int) (a':Tok),s.heap.IsTuple b b'→A.units<cLine→Q (.int a a') (.ref b) (g false))
  (mil:∀ {b:Addr} {b':Array Value} (a:Int) (a':Tok),s.heap.IsList b b'→A.units<cLine→Q (.int a a') (.ref b) (g false))
  (msn:∀ (a:Str) (a':Tok),Q (.str a a') .none (g false))
  (msb:∀ (a:Str) (a':Tok) (b:Bool),Q (.str a a') (.bool b) (g false))
  (msi:∀ (a:Str) (a':Tok) (b:Int) (b':Tok),Q (.str a a') (.int b b') (g false))
  (mss:∀ (a:Str) (a':Tok) (b:Str) (b':Tok),Q (.str a a') (.str b b') (g (a==b)))
  (mst:∀ {b:Addr} {b':Array Value} (a:Str) (a':Tok),s.heap.IsTuple b b'→A.units<cLine→Q (.str a a') (.ref b) (g false))
  (msl:∀ {b:Addr} {b':Array Value} (a:Str) (a':Tok),s.heap.IsList b b'→A.units<cLine→Q (.str a a') (.ref b) (g false))
  (mtn:∀ {a:Addr} {a':Array Value},s.heap.IsTuple a a'→A.units<cLine→Q (.ref a) .none (g false))
  (mtb:∀ {a:Addr} {a':Array Value} (b:Bool),s.heap.IsTuple a a'→A.units<cLine→Q (.ref a) (.bool b) (g false))
  (mti:∀ {a:Addr} {a':Array Value} (b:Int) (b':Tok),s.heap.IsTuple a a'→A.units<cLine→Q (.ref a) (.int b b') (g false))
  (mts:∀ {a:Addr} {a':Array Value} (b:Str) (b':Tok),s.heap.IsTuple a a'→A.units<cLine→Q (.ref a) (.str b b') (g false))
  (mtl:∀ {a:Addr} {a':Array Value} {b:Addr} {b':Array Value},s.heap.IsTuple a a'→s.heap.IsList b b'→A.units<cLine→Q (.ref a) (.ref b) (g false))
  (mln:∀ {a:Addr} {a':Array Value},s.heap.IsList a a'→A.units<cLine→Q (.ref a) .none (g false))
  (mlb:∀ {a:Addr} {a':Array Value} (b:Bool),s.heap.IsList a a'→A.units<cLine→Q (.ref a) (.bool b) (g false))
  (mli:∀ {a:Addr} {a':Array Value} (b:Int) (b':Tok),s.heap.IsList a a'→A.units<cLine→Q (.ref a) (.int b b') (g false))
  (mls:∀ {a:Addr} {a':Array Value} (b:Str) (b':Tok),s.heap.IsList a a'→A.units<cLine→Q (.ref a) (.str b b') (g false))
  (mlt:∀ {a:Addr} {a':Array Value} {b:Addr} {b':Array Value},s.heap.IsList a a'→s.heap.IsTuple b b'→A.units<cLine→Q (.ref a) (.ref b) (g false))
  (I:Inv X pins σ H s) (fh:Same F H) {t1 t2:T} {x y:V} {v u:Value} (hu:A.units<cLine) (hne:bothB t1 t2≠true) (r1:Rep X.K F t1 x) (r2:Rep X.K F t2 y) (rx:RelV x v) (ry:RelV y u):Q v u (g (eqT t1 t2)):=by
 revert hne
 have two:∀ {t v},(bothB t .non≠true→Q v .none (g (eqT t .non)))→(∀ b,bothB t (.bl b)≠true→Q v (.bool b) (g (eqT t (.bl b))))→(∀ i k,bothB t (.int i)≠true→Q v (.int i k) (g (eqT t (.int i))))→(∀ i k,bothB t (.str i)≠true→Q v (.str i k) (g (eqT t (.str i)))) →
   (∀ ts a its,s.heap.IsTuple a its→bothB t (.tup ts)≠true→Q v (.ref a) (g (eqT t (.tup ts))))→(∀ ts a its,s.heap.IsList a its→bothB t (.lst ts)≠true→Q v (.ref a) (g (eqT t (.lst ts))))→bothB t t2≠true→Q v u (g (eqT t t2)) :=
  fun {t v} h0 h1 h2 h3 h4 h5=>kind (P:=fun w u=>bothB t w≠true→Q v u (g (eqT t w))) I fh r2 ry h0 h1 h2 h3 h4 h5 fun e z=>absurd (bothD e) z
 refine kind (P:=fun t v=>bothB t t2≠true→Q v u (g (eqT t t2))) I fh r1 rx ?_ ?_ ?_ ?_ ?_ ?_ fun e z=>absurd (bothD1 e) z
 ·exact two (fun _=>mnn) (fun b' _=>mnb b') (fun i' k' _=>mni i' k') (fun i' k' _=>mns i' k') (fun _ _ _ p' _=>mnt p' hu) (fun _ _ _ p' _=>mnl p' hu)
 ·intro b;exact two (fun _=>mbn b) (fun b' _=>mbb b b') (fun i' k' _=>mbi b i' k') (fun i' k' _=>mbs b i' k') (fun _ _ _ p' _=>mbt b p' hu) (fun _ _ _ p' _=>mbl b p' hu)
 ·intro i k;exact two (fun _=>min i k) (fun b' _=>mib i k b') (fun i' k' _=>mii i k i' k') (fun i' k' _=>mis i k i' k') (fun _ _ _ p' _=>mit i k p' hu) (fun _ _ _ p' _=>mil i k p' hu)
 ·intro i k;exact two (fun _=>msn i k) (fun b' _=>msb i k b') (fun i' k' _=>msi i k i' k') (fun i' k' _=>mss i k i' k') (fun _ _ _ p' _=>mst i k p' hu) (fun _ _ _ p' _=>msl i k p' hu)
 ·intro _ _ _ p;exact two (fun _=>mtn p hu) (fun b' _=>mtb b' p hu) (fun i' k' _=>mti i' k' p hu) (fun i' k' _=>mts i' k' p hu) (fun _ _ _ _ z=>absurd rfl z) (fun _ _ _ p' _=>mtl p p' hu)
 ·intro _ _ _ p;exact two (fun _=>mln p hu) (fun b' _=>mlb b' p hu) (fun i' k' _=>mli i' k' p hu) (fun i' k' _=>mls i' k' p hu) (fun _ _ _ p' _=>mlt p p' hu) (fun _ _ _ _ z=>absurd rfl z)
open SeqAt.EqAt in
theorem eq_mix (I:Inv X pins σ H s) (fh:Same F H) {A:Around} {t1 t2:T} {x y:V} {v u:Value} (hu:A.units<cLine) (hne:bothB t1 t2≠true) (r1:Rep X.K F t1 x) (r2:Rep X.K F t2 y) (rx:RelV x v) (ry:RelV y u):SeqAt.EqAt A s v u (eqT t1 t2) :=
 mix (g:=id) (Q:=SeqAt.EqAt A s) (same .none) none_bool none_int none_str none_tuple none_list bool_none bool_bool bool_int bool_str bool_tuple bool_list int_none int_bool int_int int_str int_tuple int_list str_none str_bool str_int str_str str_tuple str_list tuple_none tuple_bool tuple_int tuple_str tuple_list list_none list_bool list_int list_str list_tuple I fh hu hne r1 r2 rx ry
open SeqAt.RcAt in
theorem rc_mix (I:Inv X pins σ H s) (fh:Same F H) {A:Around} {t1 t2:T} {x y:V} {v u:Value} (hu:A.units<cLine) (hne:bothB t1 t2≠true) (r1:Rep X.K F t1 x) (r2:Rep X.K F t2 y) (rx:RelV x v) (ry:RelV y u):SeqAt.RcAt A s v u (eqT t1 t2) :=
 mix (g:=id) (Q:=SeqAt.RcAt A s) none_none none_bool none_int none_str none_tuple none_list bool_none bool_bool bool_int bool_str bool_tuple bool_list int_none int_bool int_int int_str int_tuple int_list str_none str_bool str_int str_str str_tuple str_list tuple_none tuple_bool tuple_int tuple_str tuple_list list_none list_bool list_int list_str list_tuple I fh hu hne r1 r2 rx ry
open SeqAt.RcNeAt in
theorem ne_mix (I:Inv X pins σ H s) (fh:Same F H) {A:Around} {t1 t2:T} {x y:V} {v u:Value} (hu:A.units<cLine) (hne:bothB t1 t2≠true) (r1:Rep X.K F t1 x) (r2:Rep X.K F t2 y) (rx:RelV x v) (ry:RelV y u):SeqAt.RcNeAt A s v u (!eqT t1 t2) :=
 mix (g:=not) (Q:=SeqAt.RcNeAt A s) none_none none_bool none_int none_str none_tuple none_list bool_none bool_bool bool_int bool_str bool_tuple bool_list int_none int_bool int_int int_str int_tuple int_list str_none str_bool str_int str_str str_tuple str_list tuple_none tuple_bool tuple_int tuple_str tuple_list list_none list_bool list_int list_str list_tuple I fh hu hne r1 r2 rx ry
theorem eq_at (I:Inv X pins σ H s) (fh:Same F H):∀ (n:Nat) (A:Around) (t1 t2:T) (x y:V) (v u:Value),A.units+n<cLine→dpP t1 t2≤n→Rep X.K F t1 x→Rep X.K F t2 y→RelV x v→RelV y u→SeqAt.EqAt A s v u (eqT t1 t2):=by
 intro n
 induction n with
 | zero =>
  intro A t1 t2 x y v u hA hd r1 r2 rx ry
  refine eq_mix I fh hA ?_ r1 r2 rx ry
  intro h
  have nd:=no_d hd (by omega)
  cases t1<;>cases t2<;>first | (cases h;done) | (cases nd.1;done) | (cases nd.2;done) | (rw [dpP] at hd;omega)
 | succ n ih =>
  intro A t1 t2 x y v u hA hd r1 r2 rx ry
  have hu:A.units<cLine:=by omega
  have ih':=fun (t1 t2:T) (x y:V) (v u:Value) h=>ih A.in1 t1 t2 x y v u (show A.units+1+n<cLine by omega) h
  have nd:=no_d hd (by have:cLine=9900:=rfl;omega)
  by_cases hb:bothB t1 t2=true
  ·cases t1 with
   | tup ts =>
    cases t2 with
    | tup us =>
     rw [dpP] at hd
     by_cases hs:v=u
     ·subst hs
      have e:x=y:=by
       obtain ⟨_,_,rfl,_⟩:=r1;obtain ⟨_,_,rfl,_⟩:=r2;cases rx;cases ry;rfl
      subst e
      have e:=rep_inj I fh r1 r2
      cases e
      rw [eqT_refl _ (by rw [dpP];have:cLine=9900:=rfl;omega)]
      exact .same v
     ·obtain ⟨l1,vs1,its1,rfl,rfl,_,q1,w1,p1⟩:=seen_tup I fh r1 rx
      obtain ⟨l2,vs2,its2,rfl,rfl,_,q2,w2,p2⟩:=seen_tup I fh r2 ry
      have h:=SeqAt.RcAt.tuples p1 p2 hu (parts_at (fun t1 t2 x y v u h a b c d=>ih' t1 t2 x y v u h a b c d) (Nat.le_of_succ_le_succ hd) q1 q2 w1 w2)
      obtain ⟨z1,z2⟩:=two_sz q1 q2 w1 w2
      rw [z1,z2,← eqTs_all] at h
      rw [eqT]
      exact .of_refs (fun e=>hs (by rw [e])) h
    | dk _ _=>cases nd.2
    | dt _ _=>cases nd.2
    | _=>cases hb
   | lst ts =>
    cases t2 with
    | lst us =>
     rw [dpP] at hd
     by_cases hs:v=u
     ·subst hs
      have e:x=y:=by
       obtain ⟨_,_,rfl,_⟩:=r1;obtain ⟨_,_,rfl,_⟩:=r2;cases rx;cases ry;rfl
      subst e
      have e:=rep_inj I fh r1 r2
      cases e
      rw [eqT_refl _ (by rw [dpP];have:cLine=9900:=rfl;omega)]
      exact .same v
     ·obtain ⟨l1,vs1,its1,rfl,rfl,_,q1,w1,p1⟩:=seen_lst I fh r1 rx
      obtain ⟨l2,vs2,its2,rfl,rfl,_,q2,w2,p2⟩:=seen_lst I fh r2 ry
      obtain ⟨z1,z2⟩:=two_sz q1 q2 w1 w2
      rw [eqT]
      refine .of_refs (fun e=>hs (by rw [e])) ?_
      by_cases hl:ts.length=us.length
      ·have h:=SeqAt.RcAt.lists p1 p2 (by rw [z1,z2,hl]) hu (parts_at (fun t1 t2 x y v u h a b c d=>ih' t1 t2 x y v u h a b c d) (Nat.le_of_succ_le_succ hd) q1 q2 w1 w2)
       rw [z1] at h
       rw [eqTs_len hl];exact h
      ·rw [eqTs_ne hl]
       exact SeqAt.RcAt.lists_lengths p1 p2 (by rw [z1,z2];simpa using hl) hu
    | dk _ _=>cases nd.2
    | dt _ _=>cases nd.2
    | _=>cases hb
   | dk _ _=>cases nd.1
   | dt _ _=>cases nd.1
   | _=>cases t2<;>first | (cases hb;done) | (cases nd.2;done)
  ·exact eq_mix I fh hu hb r1 r2 rx ry
theorem rc_at (I:Inv X pins σ H s) (fh:Same F H) {n:Nat} {A:Around} {t1 t2:T} {x y:V} {v u:Value} (hA:A.units+n<cLine) (hd:dpP t1 t2≤n) (r1:Rep X.K F t1 x) (r2:Rep X.K F t2 y) (rx:RelV x v) (ry:RelV y u):SeqAt.RcAt A s v u (eqT t1 t2)∧SeqAt.RcNeAt A s v u (!eqT t1 t2):=by
 have hu:A.units<cLine:=by omega
 have nd:=no_d hd (by have:cLine=9900:=rfl;omega)
 by_cases hb:bothB t1 t2=true
 ·cases n with
  | zero =>
   exfalso
   have nd:=no_d hd (by omega)
   cases t1<;>cases t2<;>first | (cases hb;done) | (cases nd.1;done) | (cases nd.2;done) | (rw [dpP] at hd;omega)
  | succ n =>
   have ih':=fun (t1 t2:T) (x y:V) (v u:Value) h=>eq_at I fh n A.in1 t1 t2 x y v u (show A.units+1+n<cLine by omega) h
   cases t1 with
   | tup ts =>
    cases t2 with
    | tup us =>
     rw [dpP] at hd
     obtain ⟨l1,vs1,its1,rfl,rfl,_,q1,w1,p1⟩:=seen_tup I fh r1 rx
     obtain ⟨l2,vs2,its2,rfl,rfl,_,q2,w2,p2⟩:=seen_tup I fh r2 ry
     have pa:=parts_at (fun t1 t2 x y v u h a b c d=>ih' t1 t2 x y v u h a b c d) (Nat.le_of_succ_le_succ hd) q1 q2 w1 w2
     have h:=SeqAt.RcAt.tuples p1 p2 hu pa
     have g:=SeqAt.RcNeAt.tuples p1 p2 hu pa
     obtain ⟨z1,z2⟩:=two_sz q1 q2 w1 w2
     rw [z1,z2,← eqTs_all] at h g
     rw [eqT]
     exact ⟨h,g⟩
    | dk _ _=>cases nd.2
    | dt _ _=>cases nd.2
    | _=>cases hb
   | lst ts =>
    cases t2 with
    | lst us =>
     rw [dpP] at hd
     obtain ⟨l1,vs1,its1,rfl,rfl,_,q1,w1,p1⟩:=seen_lst I fh r1 rx
     obtain ⟨l2,vs2,its2,rfl,rfl,_,q2,w2,p2⟩:=seen_lst I fh r2 ry
     obtain ⟨z1,z2⟩:=two_sz q1 q2 w1 w2
     rw [eqT]
     by_cases hl:ts.length=us.length
     ·have pa:=parts_at (fun t1 t2 x y v u h a b c d=>ih' t1 t2 x y v u h a b c d) (Nat.le_of_succ_le_succ hd) q1 q2 w1 w2
      have h:=SeqAt.RcAt.lists p1 p2 (by rw [z1,z2,hl]) hu pa
      have g:=SeqAt.RcNeAt.lists p1 p2 (by rw [z1,z2,hl]) hu pa
      rw [z1] at h g
      rw [eqTs_len hl];exact ⟨h,g⟩
     ·rw [eqTs_ne hl]
      exact ⟨SeqAt.RcAt.lists_lengths p1 p2 (by rw [z1,z2];simpa using hl) hu,SeqAt.RcNeAt.lists_lengths p1 p2 (by rw [z1,z2];simpa using hl) hu⟩
    | dk _ _=>cases nd.2
    | dt _ _=>cases nd.2
    | _=>cases hb
   | dk _ _=>cases nd.1
   | dt _ _=>cases nd.1
   | _=>cases t2<;>first | (cases hb;done) | (cases nd.2;done)
 ·exact ⟨rc_mix I fh hu hb r1 r2 rx ry,ne_mix I fh hu hb r1 r2 rx ry⟩
end
end Ev
end
end
noncomputable section
noncomputable section
namespace Ev
open PySem PySem.Spec PyProof.Rows L2
section
variable {X:Cx}
theorem ops_eq (hu:X.A.units+100<cLine):OpS X (compareOp .Eq) eqC:=by
 intro pins s σ H x y v u Q I rx ry h
 obtain ⟨F,t1,t2,t,fh,r1,r2,ht,q⟩:=h
 simp only [eqC] at ht
 split at ht
 ·rename_i hd
  cases ht
  exact (rc_at I fh (n:=30) (by omega) hd r1 r2 rx ry).1 _ _ _ _ ⟨.bl _,H,I,rfl,q _ F H (Step.refl fh) rfl⟩
 ·cases ht
theorem ops_ne (hu:X.A.units+100<cLine):OpS X (compareOp .NotEq) neC:=by
 intro pins s σ H x y v u Q I rx ry h
 obtain ⟨F,t1,t2,t,fh,r1,r2,ht,q⟩:=h
 simp only [neC] at ht
 split at ht
 ·rename_i hd
  cases ht
  exact (rc_at I fh (n:=30) (by omega) hd r1 r2 rx ry).2 _ _ _ _ ⟨.bl _,H,I,rfl,q _ F H (Step.refl fh) rfl⟩
 ·cases ht
theorem keyO_rep {K:PySem.W.Frag} {F:Hp} {t:T} {v:V} {k:Kt} (r:Rep K F t v) (h:keyO t=some k):v=kV k:=by
 cases t<;>first | (cases h;exact r) | cases h
theorem ops_lt (hu:X.A.units+100<cLine):OpS X (compareOp .Lt) ltC:=by
 intro pins s σ H x y v u Q I rx ry h
 obtain ⟨F,t1,t2,t,fh,r1,r2,ht,q⟩:=h
 cases t1 with
 | int i =>
  cases t2 with
  | int j =>
   cases ht;cases r1;cases r2
   exact op_lt pins s σ H _ _ v u Q I rx ry ⟨_,_,rfl,rfl,q _ F H (Step.refl fh) rfl⟩
  | _=>cases ht
 | str i =>
  cases t2 with
  | str j =>
   cases ht;cases r1;cases r2
   exact op_lt_str pins s σ H _ _ v u Q I rx ry ⟨_,_,rfl,rfl,q _ F H (Step.refl fh) rfl⟩
  | _=>cases ht
 | _=>cases ht
theorem ops_gt:OpS X (compareOp .Gt) (cmpT .gt):=by
 intro pins s σ H x y v u Q I rx ry h
 obtain ⟨F,t1,t2,t,fh,r1,r2,ht,q⟩:=h
 cases t1<;>cases t2<;>simp only [cmpT] at ht<;>cases ht
 cases r1;cases r2
 exact op_gt pins s σ H _ _ v u Q I rx ry ⟨_,_,rfl,rfl,q _ F H (Step.refl fh) rfl⟩
theorem in_parts' {pins:List (Addr × Obj)} {σ:L2.St} {H F:Hp} {s:Shared} (I:Inv X pins σ H s) (fh:Same F H) {A:Around} (hA:A.units+30<cLine) {t1:T} {x:V} {v:Value} (r1:Rep X.K F t1 x) (rx:RelV x v):∀ {ts:List T} {vs:List V} {us:List Value},dpI t1 ts=true→Reps X.K F ts vs→Vals vs us →
  ∃ e:Value→Bool,(∀ w∈us,SeqAt.EqAt A s w v (e w))∧us.map e=ts.map fun z=>eqT z t1:=by
 classical
 intro ts vs us hd r rv
 have one:∀ {ts:List T} {vs:List V} {us:List Value},dpI t1 ts=true→Reps X.K F ts vs→Vals vs us→∀ w∈us,∃ t∈ts,SeqAt.EqAt A s w v (eqT t t1)∧∃ y,Rep X.K F t y∧RelV y w:=by
  intro ts
  induction ts with
  | nil=>intro vs us _ r rv w hw;cases r;cases rv;cases hw
  | cons t ts ih =>
   intro vs us hd r rv w hw
   obtain ⟨y,vr,rfl,r2,r3⟩:=r
   cases rv with
   | cons a b =>
    unfold dpI at hd
    rw [List.all_cons,Bool.and_eq_true,decide_eq_true_eq] at hd
    rcases omc hw with rfl | hw
    ·exact ⟨t,List.mem_cons_self,eq_at I fh 30 A _ _ _ _ _ _ hA hd.1 r2 r1 a rx,_,r2,a⟩
    ·obtain ⟨t',h1,h2⟩:=ih hd.2 r3 b w hw
     exact ⟨t',List.mem_cons_of_mem _ h1,h2⟩
 obtain ⟨e,he⟩:∃ e:Value→Bool,∀ w t y,Rep X.K F t y→RelV y w→e w=eqT t t1:=by
  refine ⟨fun w=>if h:∃ t,(∃ y,Rep X.K F t y∧RelV y w) then eqT (Classical.choose h) t1 else false,fun w t y h3 h4=>?_⟩
  have h:∃ t,(∃ y,Rep X.K F t y∧RelV y w):=⟨t,y,h3,h4⟩
  obtain ⟨y',h5,h6⟩:=Classical.choose_spec h
  have e:y=y':=relV_inj h4 h6
  subst e
  simp only [dif_pos h]
  rw [← rep_inj I fh h3 h5]
 refine ⟨e,fun w hw=>?_,?_⟩
 ·obtain ⟨t,_,h2,y,h3,h4⟩:=one hd r rv w hw
  rw [he w t y h3 h4]
  exact h2
 ·clear one
  induction ts generalizing vs us with
  | nil=>cases r;cases rv;rfl
  | cons t ts ih =>
   obtain ⟨y,vr,rfl,r2,r3⟩:=r
   cases rv with
   | cons a b =>
    unfold dpI at hd
    rw [List.all_cons,Bool.and_eq_true] at hd
    rw [List.map_cons,List.map_cons,ih hd.2 r3 b,he _ t y r2 a]
theorem in_parts {pins:List (Addr × Obj)} {σ:L2.St} {H F:Hp} {s:Shared} (I:Inv X pins σ H s) (fh:Same F H) {A:Around} (hA:A.units+30<cLine) {t1:T} {x:V} {v:Value} (r1:Rep X.K F t1 x) (rx:RelV x v):∀ {ts:List T} {vs:List V} {us:List Value},dpI t1 ts=true→Reps X.K F ts vs→Vals vs us →
  ∃ e:Value→Bool,(∀ w∈us,SeqAt.EqAt A s w v (e w))∧us.any e=ts.any fun z=>eqT z t1:=by
 intro ts vs us hd r rv
 obtain ⟨e,e1,e2⟩:=in_parts' I fh hA r1 rx hd r rv
 refine ⟨e,e1,?_⟩
 have:=congrArg (fun l:List Bool=>l.any id) e2
 simpa [List.any_map,Function.comp_def] using this
theorem in_any (hu:X.A.units+100<cLine) {pins:List (Addr × Obj)} {σ:L2.St} {H F:Hp} {s:Shared} {t1 t2:T} {x y:V} {v u:Value} {b:Bool} (I:Inv X pins σ H s) (fh:Same F H) (r1:Rep X.K F t1 x) (r2:Rep X.K F t2 y) (rx:RelV x v) (ry:RelV y u) (h:inC t1 t2=some b) (hnd:∀ ks us,t2≠.dk ks us) {Q:Bool→Shared→Prop} (q:Q b s) {Q2:Value→Shared→Prop} :
  ((∀ b,Q b s→Q2 (.bool b) s)→wpAny (model X.prog X.w) X.A (compareOp .In v u) Q2 X.xe s)∧((∀ b,Q b s→Q2 (.bool (!b)) s)→wpAny (model X.prog X.w) X.A (compareOp .NotIn v u) Q2 X.xe s):=by
 cases t2 with
 | tup ts =>
  simp only [inC] at h
  split at h
  ·rename_i hd
   cases h
   obtain ⟨a,vs,its,rfl,rfl,_,q1,w1,p1⟩:=seen_tup I fh r2 ry
   obtain ⟨e,e1,e2⟩:=in_parts I fh (A:=X.A.in1) (show X.A.units+1+30<cLine by omega) r1 rx hd q1 w1
   have e3:its.toArray.any e=ts.any fun z=>eqT z t1:=by rw [← e2];simp
   exact ⟨fun k=>SeqAt.in_tupleAt e p1 (fun w hw=>e1 w (by simpa using hw)) (by rw [e3];exact k _ q),fun k=>SeqAt.notIn_tupleAt e p1 (fun w hw=>e1 w (by simpa using hw)) (by rw [e3];exact k _ q)⟩
  ·cases h
 | lst ts =>
  simp only [inC] at h
  split at h
  ·rename_i hd
   cases h
   obtain ⟨a,vs,its,rfl,rfl,_,q1,w1,p1⟩:=seen_lst I fh r2 ry
   obtain ⟨e,e1,e2⟩:=in_parts I fh (A:=X.A.in1) (show X.A.units+1+30<cLine by omega) r1 rx hd q1 w1
   have e3:its.toArray.any e=ts.any fun z=>eqT z t1:=by rw [← e2];simp
   exact ⟨fun k=>SeqAt.in_listAt e p1 (fun w hw=>e1 w (by simpa using hw)) (by rw [e3];exact k _ q),fun k=>SeqAt.notIn_listAt e p1 (fun w hw=>e1 w (by simpa using hw)) (by rw [e3];exact k _ q)⟩
  ·cases h
 | dk ks us=>exact absurd rfl (hnd ks us)
 | _=>cases h
theorem in_dict {pins:List (Addr × Obj)} {σ:L2.St} {H F:Hp} {s:Shared} {t1:T} {ks:List Kt} {us:List T} {x y:V} {v u:Value} {b:Bool} (I:Inv X pins σ H s) (fh:Same F H) (r1:Rep X.K F t1 x) (r2:Rep X.K F (.dk ks us) y) (rx:RelV x v) (ry:RelV y u) (h:inC t1 (.dk ks us)=some b):∃ a z o,u=.ref a∧DGet H a z o∧RelV z v∧o.isSome=b:=by
 cases t1 with
 | str z =>
  cases h
  obtain ⟨a,ws,rfl,g1,g2,g3⟩:=r2
  cases r1
  cases ry
  subst g2
  exact ⟨a,kV (.inr (some z)),valV ws (.inr (some z)),rfl,DGet.k (fh _ _ g1),rx,by rw [← valV_any,List.any_map];rfl⟩
 | _=>cases h
theorem ops_in (hu:X.A.units+100<cLine):OpS X (compareOp .In) (cmpT .isin):=by
 intro pins s σ H x y v u Q I rx ry h
 obtain ⟨F,t1,t2,t,fh,r1,r2,ht,q⟩:=h
 simp only [cmpT] at ht
 obtain ⟨b,hb,rfl⟩:=oms ht
 by_cases hq:∃ ks us,t2=.dk ks us
 ·obtain ⟨ks,us,rfl⟩:=hq
  obtain ⟨a,z,o,rfl,g,rz,e⟩:=in_dict I fh r1 r2 rx ry hb
  exact d_in (by omega) I g rz fun s' I'=>⟨.bl o.isSome,H,I',rfl,by rw [e];exact q _ F H (Step.refl fh) rfl⟩
 exact (in_any hu I fh r1 r2 rx ry hb (fun ks us e=>hq ⟨ks,us,e⟩) (Q:=fun b _=>Q (.bl b) H) (q _ F H (Step.refl fh) rfl)).1 fun b k=>⟨.bl b,H,I,rfl,k⟩
theorem ops_notin (hu:X.A.units+100<cLine):OpS X (compareOp .NotIn) (cmpT .notin):=by
 intro pins s σ H x y v u Q I rx ry h
 obtain ⟨F,t1,t2,t,fh,r1,r2,ht,q⟩:=h
 simp only [cmpT] at ht
 obtain ⟨b,hb,rfl⟩:=oms ht
 by_cases hq:∃ ks us,t2=.dk ks us
 ·obtain ⟨ks,us,rfl⟩:=hq
  obtain ⟨a,z,o,rfl,g,rz,e⟩:=in_dict I fh r1 r2 rx ry hb
  exact d_notIn (by omega) I g rz fun s' I'=>⟨.bl (!o.isSome),H,I',rfl,by rw [e];exact q _ F H (Step.refl fh) rfl⟩
 exact (in_any hu I fh r1 r2 rx ry hb (fun ks us e=>hq ⟨ks,us,e⟩) (Q:=fun b _=>Q (.bl (!b)) H) (q _ F H (Step.refl fh) rfl)).2 fun b k=>⟨.bl (!b),H,I,rfl,k⟩
theorem ops_isN:OpS X (compareOp .Is) (cmpT .isN):=by
 intro pins s σ H x y v u Q I rx ry h
 obtain ⟨F,t1,t2,t,fh,r1,r2,ht,q⟩:=h
 have e2:t2=.non:=by cases t2<;>first | rfl | (cases t1<;>simp [cmpT] at ht)
 subst e2
 cases r2
 have e:t=.bl (decide (x=.non)):=by
  cases t1 with
  | non=>cases r1;cases ht;simp
  | bl _=>cases r1;cases ht;simp
  | int _=>cases r1;cases ht;simp
  | str _=>cases r1;cases ht;simp
  | tup _=>obtain ⟨a,vs,rfl,_⟩:=r1;cases ht;simp
  | lst _=>obtain ⟨a,vs,rfl,_⟩:=r1;cases ht;simp
  | dk _ _=>obtain ⟨a,vs,rfl,_⟩:=r1;cases ht;simp
  | dt _ _=>obtain ⟨a,vs,rfl,_⟩:=r1;cases ht;simp
 subst e
 exact op_isN pins s σ H _ _ v u Q I rx ry ⟨rfl,q _ F H (Step.refl fh) rfl⟩
theorem ops_notN:OpS X (compareOp .IsNot) (cmpT .notN):=by
 intro pins s σ H x y v u Q I rx ry h
 obtain ⟨F,t1,t2,t,fh,r1,r2,ht,q⟩:=h
 have e2:t2=.non:=by cases t2<;>first | rfl | (cases t1<;>simp [cmpT] at ht)
 subst e2
 cases r2
 have e:t=.bl (!decide (x=.non)):=by
  cases t1 with
  | non=>cases r1;cases ht;simp
  | bl _=>cases r1;cases ht;simp
  | int _=>cases r1;cases ht;simp
  | str _=>cases r1;cases ht;simp
  | tup _=>obtain ⟨a,vs,rfl,_⟩:=r1;cases ht;simp
  | lst _=>obtain ⟨a,vs,rfl,_⟩:=r1;cases ht;simp
  | dk _ _=>obtain ⟨a,vs,rfl,_⟩:=r1;cases ht;simp
  | dt _ _=>obtain ⟨a,vs,rfl,_⟩:=r1;cases ht;simp
 subst e
 exact op_notN pins s σ H _ _ v u Q I rx ry ⟨rfl,q _ F H (Step.refl fh) rfl⟩
theorem ops_notF:OpS X (compareOp .IsNot) (cmpT .notF):=by
 intro pins s σ H x y v u Q I rx ry h
 obtain ⟨F,t1,t2,t,fh,r1,r2,ht,q⟩:=h
 have e2:t2=.bl false:=by
  cases t2 with
  | bl b=>cases b<;>first | rfl | (cases t1<;>simp [cmpT] at ht)
  | _=>cases t1<;>simp [cmpT] at ht
 subst e2
 cases r2
 cases ry
 cases t1 with
 | bl b =>
  cases r1
  cases rx
  cases ht
  refine isnot_bool ⟨.bl b,H,I,?_,q _ F H (Step.refl fh) rfl⟩
  cases b<;>rfl
 | non =>
  cases r1
  cases rx
  cases ht
  exact wpAny_pure (a:=Value.bool (Value.none != Value.bool false)) ⟨.bl true,H,I,rfl,q _ F H (Step.refl fh) rfl⟩
 | _=>simp [cmpT] at ht
theorem ops_co (hu:X.A.units+100<cLine) {op:CmpOp} {e:Expr} {o:Co} (h:coOf op e=some o):OpS X (compareOp op) (cmpT o)∧behindInMarks op e=false:=by
 cases op with
 | Eq=>cases h;exact ⟨ops_eq hu,nomark _⟩
 | NotEq=>cases h;exact ⟨ops_ne hu,nomark _⟩
 | Lt=>cases h;exact ⟨ops_lt hu,nomark _⟩
 | LtE=>cases h
 | Gt=>cases h;exact ⟨ops_gt,nomark _⟩
 | GtE=>cases h
 | Is =>
  simp only [coOf] at h
  split at h
  ·cases h;exact ⟨ops_isN,nomark _⟩
  ·cases h
 | IsNot =>
  simp only [coOf] at h
  split at h
  ·cases h;exact ⟨ops_notN,nomark _⟩
  ·split at h
   ·cases h;exact ⟨ops_notF,nomark _⟩
   ·cases h
 | In =>
  simp only [coOf] at h
  split at h
  ·cases h
  ·rename_i hb;cases h;exact ⟨ops_in hu,by simpa using hb⟩
 | NotIn =>
  simp only [coOf] at h
  split at h
  ·cases h
  ·rename_i hb;cases h;exact ⟨ops_notin hu,by simpa using hb⟩
theorem ops_bo {op:Operator} {o:Bo} (h:boOf op=some o):OpS X (binaryOp op) (binT o):=by
 cases op<;>simp only [boOf] at h<;>cases h
 ·exact ops_add
 ·exact ops_sub
 ·exact ops_mul
 ·exact ops_mod
 ·exact ops_fdiv
end
end Ev
end
end
noncomputable section
noncomputable section
namespace Ev
open PySem PySem.Spec PyProof.Rows L2
section
variable {X:Cx} {c:Tc} {a b:Expr} {pos:Pos}
theorem get_at {K:PySem.W.Frag} {F:Hp} {ts:List T} {vs:List V} {i:Int} {t:T} (r:Reps K F ts vs) (h:getI ts i=some t):∃ v,atI vs i=some v∧Rep K F t v:=by
 unfold getI at h
 obtain ⟨j,h1,h2⟩:=obs h
 obtain ⟨v,h3,h4⟩:=r.get h2
 refine ⟨v,?_,h4⟩
 unfold atI
 rw [r.length]
 exact Option.bind_eq_some_iff.mpr ⟨j,h1,h3⟩
theorem ixs (hu:X.A.units+1<cLine):IxR X (fun x y H Q=>∃ F t1 t2 t,Same F H∧Rep X.K F t1 x∧Rep X.K F t2 y∧idxT t1 t2=some t∧∀ v F' H',Step F H F' H'→Rep X.K F' t v→Q v H'):=by
 intro value slice pins s σ H x y v u Q I rx ry h hs
 obtain ⟨F,t1,t2,t,fh,r1,r2,ht,q⟩:=h
 cases t1 with
 | tup ts =>
  cases t2 with
  | int i =>
   cases r2
   obtain ⟨p,vs,rfl,h1,h2⟩:=r1
   obtain ⟨w,h3,h4⟩:=get_at h2 ht
   exact ix_tup value slice pins s σ H _ _ v u Q I rx ry ⟨p,vs,i,w,rfl,rfl,same_tup fh h1,h3,q _ F H (Step.refl fh) h4⟩ hs
  | _=>cases ht
 | lst ts =>
  cases t2 with
  | int i =>
   cases r2
   obtain ⟨p,vs,rfl,h1,h2⟩:=r1
   obtain ⟨w,h3,h4⟩:=get_at h2 ht
   exact ix_list value slice pins s σ H _ _ v u Q I rx ry ⟨p,vs,i,w,rfl,rfl,(Ls.same fh h1).sq,h3,q _ F H (Step.refl fh) h4⟩ hs
  | _=>cases ht
 | _=>cases t2<;>cases ht
theorem ok_idx (hu:X.A.units+1<cLine) {f g:Env→Option T} (ha:Oke X c a f) (hb:Oke X c b g) (hs:PlainIx b):Oke X c (.Subscript a b pos) (fun r=>(f r).bind fun x=>(g r).bind fun y=>idxT x y):=by
 refine pe_mono (pe_ix (ixs hu) ha hb hs) fun σ H Q q=>?_
 obtain ⟨r,F,t,e,ht,q⟩:=q
 obtain ⟨t1,e1,ht⟩:=obs ht
 obtain ⟨t2,e2,ht⟩:=obs ht
 refine ⟨r,F,t1,e,e1,fun v1 F1 H1 s1 r1=>⟨r,F1,t2,e.step s1,e2,fun v2 F2 H2 s2 r2=>?_⟩⟩
 exact ⟨F2,t1,t2,t,s2.fh,r1.mono s2.ff,r2,ht,fun v F' H' s3 r3=>q v F' H' (s1.trans (s2.trans s3)) r3⟩
theorem reps_cut {K:PySem.W.Frag} {F:Hp} {ts:List T} {vs:List V} (r:Reps K F ts vs) (lo hi:Option Int):Reps K F (cut ts lo hi) (cutV vs lo hi):=by
 unfold cut cutV
 have e:∀ (n d:Nat) (o:Option Int),HT.sIx n d o=clip n d o:=fun n d o=>by cases o<;>rfl
 rw [e,e,r.length]
 exact (r.drop _).take _
theorem sls:SlR X (fun x lo hi H Q=>∃ F t1 t,Same F H∧Rep X.K F t1 x∧sliT t1 lo hi=some t∧∀ v F' H',Step F H F' H'→Rep X.K F' t v→Q v H'):=by
 intro pins s σ H x v vl vu lo hi sl Q I rx hs pl pu h
 obtain ⟨F,t1,t,fh,r1,ht,q⟩:=h
 cases t1 with
 | tup ts =>
  simp only [sliT] at ht
  cases ht
  obtain ⟨p,vs,rfl,h1,h2⟩:=r1
  have e:∀ (n d:Nat) (o:Option Int),HT.sIx n d o=clip n d o:=fun n d o=>by cases o<;>rfl
  by_cases hw:clip ts.length 0 lo=0∧clip ts.length ts.length hi=ts.length
  ·refine sl_whole pins s σ H _ v vl vu lo hi sl Q I rx hs pl pu ⟨p,vs,rfl,same_tup fh h1,by rw [e,e,h2.length];exact hw,?_⟩
   have ec:cut ts lo hi=ts:=by unfold cut;rw [hw.1,hw.2];simp
   exact q _ F H (Step.refl fh) ⟨p,vs,rfl,h1,by rw [ec];exact h2⟩
  ·refine sl_tup pins s σ H _ v vl vu lo hi sl Q I rx hs pl pu ⟨p,vs,rfl,same_tup fh h1,by rw [e,e,h2.length];exact hw,fun p' hp=>?_⟩
   have st:=(Step.refl fh).new (o:=.tup (cutV vs lo hi)) hp
   exact q _ _ _ st ⟨p',_,rfl,upd_same,(reps_cut h2 lo hi).mono st.ff⟩
 | lst ts =>
  simp only [sliT] at ht
  cases ht
  obtain ⟨p,vs,rfl,h1,h2⟩:=r1
  refine sl_list pins s σ H _ v vl vu lo hi sl Q I rx hs pl pu ⟨p,vs,rfl,(Ls.same fh h1).sq,fun p' hp=>?_⟩
  have st:=(Step.refl fh).new (o:=.lst (cutV vs lo hi)) hp
  exact q _ _ _ st ⟨p',_,rfl,Ls.of upd_same,(reps_cut h2 lo hi).mono st.ff⟩
 | _=>simp [sliT] at ht
def spO (X:Cx) (c:Tc) (f:Env→Option (Option T)):TO:=fun σ H Q=>∃ r F o,EnvE X c r F σ H∧(f r).bind asI=some o∧∀ F' H',Step F H F' H'→Q o H'
theorem po_mono {e:Option Expr} {t t':TO} (h:PO X e t) (m:∀ σ H Q,t' σ H Q→t σ H Q):PO X e t':=fun pins s σ H Q I q=>h pins s σ H Q I (m σ H Q q)
theorem ok_po_none:PO X none (spO X c fun _=>some none):=by
 refine po_mono po_none fun σ H Q q=>?_
 obtain ⟨r,F,o,e,ht,q⟩:=q
 cases ht
 exact q F H (Step.refl e.fh)
theorem ok_po_some {f:Env→Option T} (h:Oke X c a f):PO X (some a) (spO X c fun r=>(f r).map some):=by
 refine po_mono (po_some h) fun σ H Q q=>?_
 obtain ⟨r,F,o,e,ht,q⟩:=q
 obtain ⟨o',e1,ht⟩:=obs ht
 obtain ⟨t,e2,rfl⟩:=oms e1
 refine ⟨r,F,t,e,e2,fun v F' H' s1 r1=>?_⟩
 cases t with
 | int i=>cases ht;cases r1;exact ⟨i,rfl,q F' H' s1⟩
 | _=>cases ht
theorem ok_sli {lo hi:Option Expr} {f:Env→Option T} {g h:Env→Option (Option T)} {p2:Pos} (ha:Oke X c a f) (hl:PO X lo (spO X c g)) (hh:PO X hi (spO X c h)) :
  Oke X c (.Subscript a (.Slice lo hi none p2) pos) (fun r=>(f r).bind fun x=>(g r).bind fun l=>(h r).bind fun u=>(asI l).bind fun l'=>(asI u).bind fun u'=>sliT x l' u'):=by
 refine pe_mono (pe_slice sls ha hl hh) fun σ H Q q=>?_
 obtain ⟨r,F,t,e,ht,q⟩:=q
 obtain ⟨t1,e1,ht⟩:=obs ht
 obtain ⟨l,e2,ht⟩:=obs ht
 obtain ⟨u,e3,ht⟩:=obs ht
 obtain ⟨l',e4,ht⟩:=obs ht
 obtain ⟨u',e5,ht⟩:=obs ht
 refine ⟨r,F,t1,e,e1,fun v1 F1 H1 s1 r1=>⟨r,F1,l',e.step s1,Option.bind_eq_some_iff.mpr ⟨l,e2,e4⟩,fun F2 H2 s2=>⟨r,F2,u',e.step (s1.trans s2),Option.bind_eq_some_iff.mpr ⟨u,e3,e5⟩,fun F3 H3 s3=>?_⟩⟩⟩
 exact ⟨F3,t1,t,s3.fh,r1.mono (s2.trans s3).ff,ht,fun v F' H' s4 r4=>q v F' H' (s1.trans (s2.trans (s3.trans s4))) r4⟩
theorem ok_cst {t:T} {v:V} (h:PE X a (tC v)) (r:∀ F,Rep X.K F t v):Oke X c a (fun _=>some t):=by
 refine pe_mono h fun σ H Q q=>?_
 obtain ⟨r',F,t',e,ht,q⟩:=q
 cases ht
 exact q v F H (Step.refl e.fh) (r F)
theorem ok_var {G:Glo} {k:Nat} (gd:Gd X c G k) {x:Str} {i:Nat} (hp:plainName x=true) (hv:visB c.sc x=true) (hi:nameIx c.nm x=some i):Oke X c (.Name x pos) (fun r=>(r[i]?).join):=by
 have hpn:=hp
 simp only [plainName,Bool.and_eq_true,Bool.not_eq_true'] at hp
 intro pins s σ H Q I q
 obtain ⟨r,F,t,e,ht,q⟩:=q
 have ht:(r[i]?).join=some t:=ht
 have ht':r[i]?=some (some t):=by
  cases h:r[i]? with
  | none=>rw [h] at ht;cases ht
  | some o=>rw [h] at ht;cases o with
   | none=>cases ht
   | some z=>cases ht;rfl
 obtain ⟨j,v,h1,h2,h3⟩:=e.get x i t hpn hi hv ht'
 exact pe_var h1 (gd.vis x hv) hp.1.1.1 hp.1.1.2 pins s σ H Q I ⟨v,h2,q v F H (Step.refl e.fh) h3⟩
theorem ok_glb {G:Glo} {k:Nat} (gd:Gd X c G k) {x:Str} (hp:plainName x=true) (hg:glB c.sc x=true):Oke X c (.Name x pos) (fun _=>G.con x):=by
 simp only [plainName,Bool.and_eq_true,Bool.not_eq_true'] at hp
 intro pins s σ H Q I q
 obtain ⟨r,F,t,e,ht,q⟩:=q
 obtain ⟨u,v,h1,h2,h3⟩:=gd.con x t ht
 exact pe_glob (gd.gl x hg) h1 h2 hp.1.1.1 pins s σ H Q I (q v F H (Step.refl e.fh) (h3 F))
theorem ok_not {f:Env→Option T} (ha:Oke X c a f):Oke X c (.UnaryOp .Not a pos) (fun r=>(f r).bind fun x=>match x with | .bl b=>some (.bl (!b)) | _=>none):=by
 refine pe_mono (pe_not ha) fun σ H Q q=>?_
 obtain ⟨r,F,t,e,ht,q⟩:=q
 obtain ⟨t1,e1,ht⟩:=obs ht
 cases t1 with
 | bl b=>cases ht;exact ⟨r,F,_,e,e1,fun v F' H' s1 r1=>by cases r1;exact ⟨b,rfl,q _ F' H' s1 rfl⟩⟩
 | _=>cases ht
theorem ok_neg {f:Env→Option T} (ha:Oke X c a f):Oke X c (.UnaryOp .USub a pos) (fun r=>(f r).bind fun x=>match x with | .int i=>some (.int (-i)) | _=>none):=by
 refine pe_mono (pe_un un_neg ha) fun σ H Q q=>?_
 obtain ⟨r,F,t,e,ht,q⟩:=q
 obtain ⟨t1,e1,ht⟩:=obs ht
 cases t1 with
 | int b=>cases ht;exact ⟨r,F,_,e,e1,fun v F' H' s1 r1=>by cases r1;exact ⟨b,rfl,q _ F' H' s1 rfl⟩⟩
 | _=>cases ht
theorem ok_and {rest:List Expr} {f g:Env→Option T} (ha:Oke X c a f) (hb:Oke X c (.BoolOp .And (b::rest) pos) g):Oke X c (.BoolOp .And (a::b::rest) pos) (fun r=>(f r).bind fun x=>match x with | .bl true=>g r | .bl false=>some (.bl false) | _=>none):=by
 refine pe_mono (pe_and ha hb) fun σ H Q q=>?_
 obtain ⟨r,F,t,e,ht,q⟩:=q
 obtain ⟨t1,e1,ht⟩:=obs ht
 cases t1 with
 | bl d =>
  refine ⟨r,F,_,e,e1,fun v F' H' s1 r1=>?_⟩
  cases r1
  cases d with
  | true=>exact ⟨true,rfl,iteT ⟨r,F',t,e.step s1,ht,fun v2 F2 H2 s2 r2=>q v2 F2 H2 (s1.trans s2) r2⟩⟩
  | false=>cases ht;exact ⟨false,rfl,iteF (q _ F' H' s1 rfl)⟩
 | _=>cases ht
theorem ok_or {rest:List Expr} {f g:Env→Option T} (ha:Oke X c a f) (hb:Oke X c (.BoolOp .Or (b::rest) pos) g):Oke X c (.BoolOp .Or (a::b::rest) pos) (fun r=>(f r).bind fun x=>match x with | .bl true=>some (.bl true) | .bl false=>g r | _=>none):=by
 refine pe_mono (pe_or ha hb) fun σ H Q q=>?_
 obtain ⟨r,F,t,e,ht,q⟩:=q
 obtain ⟨t1,e1,ht⟩:=obs ht
 cases t1 with
 | bl d =>
  refine ⟨r,F,_,e,e1,fun v F' H' s1 r1=>?_⟩
  cases r1
  cases d with
  | true=>cases ht;exact ⟨true,rfl,iteT (q _ F' H' s1 rfl)⟩
  | false=>exact ⟨false,rfl,iteF ⟨r,F',t,e.step s1,ht,fun v2 F2 H2 s2 r2=>q v2 F2 H2 (s1.trans s2) r2⟩⟩
 | _=>cases ht
abbrev Okw (X:Cx) (c:Tc) (e:Expr) (f:Env→Option T):Prop:=PW X e (spB X c f)
theorem tw_and {rest:List Expr} {f g:Env→Option T} (ha:Okt X c a f) (hb:Okw X c (.BoolOp .And (b::rest) pos) g):Okw X c (.BoolOp .And (a::b::rest) pos) (fun r=>(f r).bind fun x=>match x with | .bl true=>g r | .bl false=>some (.bl false) | _=>none):=by
 refine pw_mono (pw_and ha hb) fun σ H Q q=>?_
 obtain ⟨r,F,k,e,ht,q⟩:=q
 obtain ⟨t1,e1,ht⟩:=obs ht
 cases t1 with
 | bl d =>
  refine ⟨r,F,d,e,e1,fun F' H' s1=>?_⟩
  cases d with
  | true=>exact iteT ⟨r,F',k,e.step s1,ht,fun F2 H2 s2=>q F2 H2 (s1.trans s2)⟩
  | false=>cases ht;exact iteF (q F' H' s1)
 | _=>cases ht
theorem tw_or {rest:List Expr} {f g:Env→Option T} (ha:Okt X c a f) (hb:Okw X c (.BoolOp .Or (b::rest) pos) g):Okw X c (.BoolOp .Or (a::b::rest) pos) (fun r=>(f r).bind fun x=>match x with | .bl true=>some (.bl true) | .bl false=>g r | _=>none):=by
 refine pw_mono (pw_or ha hb) fun σ H Q q=>?_
 obtain ⟨r,F,k,e,ht,q⟩:=q
 obtain ⟨t1,e1,ht⟩:=obs ht
 cases t1 with
 | bl d =>
  refine ⟨r,F,d,e,e1,fun F' H' s1=>?_⟩
  cases d with
  | true=>cases ht;exact iteT (q F' H' s1)
  | false=>exact iteF ⟨r,F',k,e.step s1,ht,fun F2 H2 s2=>q F2 H2 (s1.trans s2)⟩
 | _=>cases ht
theorem t_not {f:Env→Option T} (ha:Okt X c a f):Okt X c (.UnaryOp .Not a pos) (fun r=>(f r).bind fun x=>match x with | .bl b=>some (.bl (!b)) | _=>none):=by
 refine pt_mono (pt_not ha) fun σ H Q q=>?_
 obtain ⟨r,F,k,e,ht,q⟩:=q
 obtain ⟨t1,e1,ht⟩:=obs ht
 cases t1 with
 | bl d =>
  refine ⟨r,F,d,e,e1,fun F' H' s1=>?_⟩
  cases ht
  exact q F' H' s1
 | _=>cases ht
theorem tru_rep {K:PySem.W.Frag} {F H:Hp} {t:T} {v:V} {b:Bool} (fh:Same F H) (r:Rep K F t v) (h:truT t=some b):TruV K v H b:=by
 cases t with
 | non=>cases r;cases h;rfl
 | bl _=>cases r;cases h;rfl
 | int _=>cases r;cases h;rfl
 | str _=>cases h
 | tup ts =>
  obtain ⟨p,vs,rfl,h1,h2⟩:=r
  cases h
  refine .inr (.inl ⟨vs,same_tup fh h1,?_⟩)
  have e:=h2.length
  cases vs<;>cases ts<;>first | rfl | simp at e
 | lst ts =>
  obtain ⟨p,vs,rfl,h1,h2⟩:=r
  cases h
  refine .inl ⟨vs,(Ls.same fh h1).sq,?_⟩
  have e:=h2.length
  cases vs<;>cases ts<;>first | rfl | simp at e
 | dk _ _=>cases h
 | dt _ _=>cases h
theorem t_tru {f:Env→Option T} (ha:Oke X c a f) (he:∀ whole,isTrue a X.env whole=(do let v ← whole;standAt a.pos;holding [v] (truthy v))):Okt X c a (fun r=>(f r).bind fun x=>(truT x).map .bl):=by
 refine pt_mono (pt_truth ha he) fun σ H Q q=>?_
 obtain ⟨r,F,k,e,ht,q⟩:=q
 obtain ⟨t1,e1,ht⟩:=obs ht
 obtain ⟨b,e2,h2⟩:=oms ht
 cases h2
 exact ⟨r,F,t1,e,e1,fun v F' H' s1 r1=>⟨k,tru_rep s1.fh r1 e2,q F' H' s1⟩⟩
theorem pa_mono {es:List Expr} {t t':TA} (h:PA X es t) (m:∀ σ H Q,t' σ H Q→t σ H Q):PA X es t':=fun p pins s σ H Q I q=>h p pins s σ H Q I (m σ H Q q)
theorem ok_nil:PA X [] (spL X c fun _=>some []):=by
 refine pa_mono pa_nil fun σ H Q q=>?_
 obtain ⟨r,F,ts,e,ht,q⟩:=q
 cases ht
 exact q [] F H (Step.refl e.fh) rfl
theorem ok_cons {es:List Expr} {f:Env→Option T} {g:Env→Option (List T)} (ha:Oke X c a f) (hr:PA X es (spL X c g)) (hs:starEach (a::es) X.env=(false,eval a X.env)::starEach es X.env):PA X (a::es) (spL X c fun r=>(f r).bind fun x=>(g r).bind fun xs=>some (x::xs)):=by
 refine pa_mono (pa_cons ha hr hs) fun σ H Q q=>?_
 obtain ⟨r,F,ts,e,ht,q⟩:=q
 obtain ⟨t1,e1,ht⟩:=obs ht
 obtain ⟨t2,e2,ht⟩:=obs ht
 cases ht
 exact ⟨r,F,t1,e,e1,fun v1 F1 H1 s1 r1=>⟨r,F1,t2,e.step s1,e2,fun vs F2 H2 s2 r2=>q _ F2 H2 (s1.trans s2) ⟨v1,vs,rfl,r1.mono s2.ff,r2⟩⟩⟩
theorem ok_tup {es:List Expr} {n:Nat} {k:Nat} {g:Env→Option (List T)} (h:PA X es (spL X c g)) (hl:∀ r ts,g r=some ts→ts.length=n):Oke X c (.Tuple es k pos) (fun r=>if n≤1000 then (g r).map .tup else none):=by
 refine pe_mono (pe_tup h) fun σ H Q q=>?_
 obtain ⟨r,F,t,e,ht,q⟩:=q
 split at ht
 ·rename_i hn
  obtain ⟨ts,e1,rfl⟩:=oms ht
  refine ⟨r,F,ts,e,e1,fun vs F' H' s1 r1=>⟨by rw [r1.length,hl r ts e1];exact Nat.le_of_lt (small1000 hn),fun p hp=>?_⟩⟩
  have st:=s1.new (o:=.tup vs) hp
  exact q _ _ _ st ⟨p,vs,rfl,upd_same,r1.mono (same_new (s1.fh.free hp))⟩
 ·cases ht
def spN (X:Cx) (c:Tc) (f:Env→Option T):TE:=fun σ H Q=>∃ r F ts,EnvE X c r F σ H∧f r=some (.lst ts)∧∀ p vs F' H1,Step F H F' H1→H1 p=none→Reps X.K F' ts vs→Q (.ref p) (upd H1 p (.lst vs))
theorem ok_lstN {es:List Expr} {n:Nat} {g:Env→Option (List T)} (h:PA X es (spL X c g)) (hl:∀ r ts,g r=some ts→ts.length=n):PE X (.List es pos) (spN X c (fun r=>if n≤1000 then (g r).map .lst else none)):=by
 refine pe_mono (pe_lst h) fun σ H Q q=>?_
 obtain ⟨r,F,t,e,ht,q⟩:=q
 split at ht
 ·rename_i hn
  obtain ⟨ts,e1,e2⟩:=oms ht
  cases e2
  exact ⟨r,F,t,e,e1,fun vs F' H' s1 r1=>⟨by rw [r1.length,hl r t e1];exact Nat.le_of_lt (small1000 hn),fun p hp=>q p vs F' H' s1 hp r1⟩⟩
 ·cases ht
theorem ok_lst {es:List Expr} {n:Nat} {g:Env→Option (List T)} (h:PA X es (spL X c g)) (hl:∀ r ts,g r=some ts→ts.length=n):Oke X c (.List es pos) (fun r=>if n≤1000 then (g r).map .lst else none):=by
 refine pe_mono (ok_lstN h hl) fun σ H Q q=>?_
 obtain ⟨r,F,t,e,ht,q⟩:=q
 have ht':=ht
 split at ht
 ·obtain ⟨ts,e1,rfl⟩:=oms ht
  refine ⟨r,F,ts,e,ht',fun p vs F' H' s1 hp r1=>?_⟩
  exact q _ _ _ (s1.new hp) ⟨p,vs,rfl,Ls.of upd_same,r1.mono (same_new (s1.fh.free hp))⟩
 ·cases ht
theorem ok_call {G:Glo} {k:Nat} (gd:Gd X c G k) {f:Str} {es:List Expr} {g:Env→Option (List T)} {p:Pos} (hg:glB c.sc f=true) (hp:plainName f=true) (h:PA X (a::es) (spL X c g)) (he:starEach (a::es) X.env=(false,eval a X.env)::starEach es X.env)
  (hpl:(backTo pos (starEach es X.env)).any (·.1)=false):Oke X c (.Call (.Name f p) (a::es) [] pos) (fun r=>(g r).bind fun xs=>G.call f xs):=by
 simp only [plainName,Bool.and_eq_true,Bool.not_eq_true'] at hp
 intro pins s σ H Q I q
 obtain ⟨r,F,t,e,ht,q⟩:=q
 obtain ⟨ts,e1,ht⟩:=obs ht
 obtain ⟨ad,fd,ps,h1,h2,h3,h4⟩:=gd.call f ts t (by rw [plainF,hp.2.2.1,hp.2.2.2];rfl) ht
 refine pe_call h1 gd.room (gd.gl f hg) h2 h3 h4 .nil pass0 h hp.1.1.1 he hpl pins s σ H Q I ?_
 refine ⟨r,F,ts,e,e1,fun vs F' H' s1 r1=>?_⟩
 show spT X.K (G.call f) (vs++[]) H' Q E0
 rw [List.append_nil]
 exact ⟨F',ts,t,s1.fh,e.tb.up s1,r1,ht,fun v F2 H2 s2 r2=>q v F2 H2 (s1.trans s2) r2⟩
end
end Ev
end
end
noncomputable section
noncomputable section
namespace L2
open PySem
open AutoSeq1 (wpAny_loadPart')
section
variable {prog:Program} {w:World} {A:Around} {E:Value→Shared→Prop} {s:Shared}
theorem nextOf_tuple_item {it l:Addr} {i:Nat} {items:Array Value} {x:Value} {Q:Value→Shared→Prop} (hit:s.heap.IsTupleIter it l i)
  (hl:s.heap.IsTuple l items) (hx:items[i]?=some x)
  (hQ:∀ h',h'.IsTupleIter it l (i+1)→Heap.SameBut it s.heap h'→Q x { s with heap:=h' }) :
  wpAny (model prog w) A (Builtin.SmallTypes.nextOf (.ref it)) Q E s:=by
 obtain ⟨o,ho,hc,hd⟩:=id hit
 obtain ⟨ol,hol,_,nl,hdl⟩:=hl
 unfold Builtin.SmallTypes.nextOf
 refine wpAny_bind (wpAny_callSpecial?_slot (name:=Str.ofString "__next__") hit.typeIs F.slot_tuple_iterator_next
  (wpAny_call_entry F.slot_tuple_iterator_next hit.typeIs F.entry_tuple_iterator_next ?_ (F.args_tuple_iterator_next_1 _)))
 show wpAny _ _ (field (.ref it) 0 >>= _) _ _ s
 refine wpAny_bind (wpAny_field ho hd (x:=.ref l) rfl ?_)
 show wpAny _ _ (if (Value.ref l==Value.none)=true then _ else _) _ _ s
 rw [if_neg (show ¬ ((Value.ref l==Value.none)=true) from Bool.false_ne_true)]
 show wpAny _ _ (field (.ref it) 1 >>= _) _ _ s
 refine wpAny_bind (wpAny_field ho hd (x:=.int i 0) rfl ?_)
 show wpAny _ _ (seqItems? (.ref l) >>= _) _ _ s
 refine wpAny_bind (wpAny_seqItems hol hdl ?_)
 simp only [Int.toNat_natCast,hx]
 refine wpAny_bind (wpAny_setField ho hd (by simp) (wpAny_pure ⟨x,rfl,wpAny_pure (hQ _ ?_ (Heap.SameBut.update ..))⟩))
 exact ⟨_,Heap.get?_update_self _ ho (Obj.isFreed_of_fields (Obj.data_mapFields hd _)),(Obj.cls_mapFields ..).trans hc,by
  rw [Obj.data_mapFields hd];simp [rawInt]⟩
theorem nextOf_tuple_end {it l:Addr} {i:Nat} {items:Array Value} {Q:Value→Shared→Prop} (hh:A.handled=none)
  (hit:s.heap.IsTupleIter it l i) (hl:s.heap.IsTuple l items) (hx:items[i]?=none)
  (hE:∀ h' e,Heap.ExtBut it s.heap h'→(∃ o,h'.get? e=some o∧o.cls=.type "StopIteration")→E (.ref e) { s with heap:=h' }) :
  wpAny (model prog w) A (Builtin.SmallTypes.nextOf (.ref it)) Q E s:=by
 obtain ⟨o,ho,hc,hd⟩:=id hit
 obtain ⟨ol,hol,_,nl,hdl⟩:=hl
 unfold Builtin.SmallTypes.nextOf
 refine wpAny_bind (wpAny_callSpecial?_slot (name:=Str.ofString "__next__") hit.typeIs F.slot_tuple_iterator_next
  (wpAny_call_entry F.slot_tuple_iterator_next hit.typeIs F.entry_tuple_iterator_next ?_ (F.args_tuple_iterator_next_1 _)))
 show wpAny _ _ (field (.ref it) 0 >>= _) _ _ s
 refine wpAny_bind (wpAny_field ho hd (x:=.ref l) rfl ?_)
 show wpAny _ _ (if (Value.ref l==Value.none)=true then _ else _) _ _ s
 rw [if_neg (show ¬ ((Value.ref l==Value.none)=true) from Bool.false_ne_true)]
 show wpAny _ _ (field (.ref it) 1 >>= _) _ _ s
 refine wpAny_bind (wpAny_field ho hd (x:=.int i 0) rfl ?_)
 show wpAny _ _ (seqItems? (.ref l) >>= _) _ _ s
 refine wpAny_bind (wpAny_seqItems hol hdl ?_)
 simp only [Int.toNat_natCast,hx]
 first
  | refine wpAny_bind (wpAny_rule (wpAny_bind (wpAny_setField ho hd (by simp) (wpAny_bind (wpAny_letGo ?_)))))
  | refine wpAny_bind (wpAny_rule (wpAny_bind (wpAny_setField ho hd (by simp) ?_)))
 show wpAny _ _ (newExc (.type "StopIteration") [] >>= _) _ _ _
 refine wpAny_bind ?_
 simp only [newExc,newTuple]
 refine wpAny_bind (wpAny_newObj_type ?_ (by size_fits))
 refine wpAny_bind (m:=firstArgMember _ _) (wpAny_of_eq (a:=Value.none) (by first | rfl | (simp only [firstArgMember];rfl)) ?_)
 refine wpAny_newObj_type ?_ (by size_fits)
 simp only [raiseNew]
 refine wpAny_bind (wpAny_handled ?_)
 first | rw [show A.in1.handled=none from hh] | rw [hh]
 refine wpAny_bind (wpAny_pure (wpAny_throw ?_))
 exact hE _ _ (((Heap.SameBut.update ..).extBut.push _).push _) ⟨_,Heap.get?_push_size _ rfl,rfl⟩
end
theorem draws_tuple {prog:Program} {w:World} {A:Around} (hh:A.handled=none) (it l:Addr) (hne:l≠it) (items:Array Value) :
  Draws prog w A it [it,l] items.size (fun i v=>items[i]?=some v) (fun i h=>h.IsTupleIter it l i∧h.IsTuple l items) where
 live:=fun _ _ st=>let ⟨o,ho,_⟩:=st.1;⟨o,ho⟩
 frame:=fun _ _ _ st hk=>⟨let ⟨o,ho,r⟩:=st.1;⟨o,hk it (by simp) o ho,r⟩,let ⟨o,ho,r⟩:=st.2;⟨o,hk l (by simp) o ho,r⟩⟩
 item:=fun i s Q E hi st hQ=>by
  refine nextOf_tuple_item st.1 st.2 (x:=items[i]) (by simp [hi]) fun h' hit' hs'=>?_
  exact hQ _ h' s.toks (by simp [hi]) ⟨hit',let ⟨o,ho,r⟩:=st.2;⟨o,hs'.extBut l o hne ho,r⟩⟩ hs'
 done:=fun s Q E st hE=>nextOf_tuple_end hh st.1 st.2 (by simp) hE
theorem meets_enum_newT (l:Addr) (items:Array Value) (n:Nat) (dct:Option Addr) (sl:Array (Option Value)) :
  Meets (Builtin.«enumerate.__new__» ⟨[.type "enumerate",.ref l],[]⟩) (fun _ R s=>s.heap.get? l=some { cls:=.type "tuple",dict:=dct,data:=.seq items n,slots:=sl } ∧
   R (.ok (.ret (.ref (s.heap.push { cls:=.type "tuple_iterator",data:=.fields #[.ref l,.int 0 0] }).objs.size)))
    { s with heap:=(s.heap.push { cls:=.type "tuple_iterator",data:=.fields #[.ref l,.int 0 0] }).push { cls:=.type "enumerate",data:=.fields #[.none,.bool false,.ref s.heap.objs.size,rawInt 0,.none,.none] } }) :=
 .of_wp fun prog w A R s h=>by
  obtain ⟨hp,g,d,tk,os⟩:=s;obtain ⟨hl,h⟩:=h
  have hsub:=sub_enumerate
  have hL:Heap.IsTuple (Shared.heap ⟨hp,g,d,tk,os⟩) l items:=⟨_,hl,rfl,n,rfl⟩
  wp_walk using wpAny_loadPart' hl
  refine wpAny_stack_any fun st=>wpAny_pure ?_
  split
  ·rename_i c _ _ _ _ _
   cases (c==Value.type "enumerate")
   ·wp_walk using wpAny_loadPart' hl,wpAny_pyIter_tuple hL
    exact ⟨_,rfl,h⟩
   ·wp_walk using wpAny_loadPart' hl,wpAny_pyIter_tuple hL
    exact ⟨_,rfl,h⟩
  ·wp_walk using wpAny_loadPart' hl,wpAny_pyIter_tuple hL
   exact ⟨_,rfl,h⟩
section
variable {prog:Program} {w:World} {A:Around} {E:Value→Shared→Prop} {s:Shared}
theorem call_enum_tuple {l:Addr} {items:Array Value} {Q:Value→Shared→Prop} (hL:s.heap.IsTuple l items)
  (h:∀ h',IsEnum h' (s.heap.objs.size+1) s.heap.objs.size 0 .none→h'.IsTupleIter s.heap.objs.size l 0→h'.objs.size=s.heap.objs.size+2 →
   (∀ b o,s.heap.get? b=some o→h'.get? b=some o)→Q (.ref (s.heap.objs.size+1)) { s with heap:=h' }) :
  wpAny (model prog w) A (call (.type "enumerate") [.ref l]) Q E s:=by
 obtain ⟨⟨c,dct,dt,sl⟩,hl,hc,n,hd⟩:=hL
 replace hc:c=.type "tuple":=hc
 replace hd:dt=.seq items n:=hd
 subst hc hd
 refine callType_new F.called_enumerate (by decide) (F.typeCall_enumerate_1 _) (F.newCall_enumerate_1 _) (fun obj=>F.args_object_init_2 obj _) F.entry_enumerate_new
  (meets_enum_newT l items n dct sl) ⟨hl,?_⟩
 have hz:(s.heap.push { cls:=.type "tuple_iterator",data:=.fields #[.ref l,.int 0 0] }).objs.size=s.heap.objs.size+1:=Heap.size_push ..
 show _∧_
 rw [hz]
 have he:IsEnum ((s.heap.push { cls:=.type "tuple_iterator",data:=.fields #[.ref l,.int 0 0] }).push
   { cls:=.type "enumerate",data:=.fields #[.none,.bool false,.ref s.heap.objs.size,rawInt 0,.none,.none] }) (s.heap.objs.size+1) s.heap.objs.size 0 .none:=by
  have:=Heap.get?_push_size (s.heap.push { cls:=.type "tuple_iterator",data:=.fields #[.ref l,.int 0 0] })
   (o:={ cls:=.type "enumerate",data:=.fields #[.none,.bool false,.ref s.heap.objs.size,rawInt 0,.none,.none] }) rfl
  rw [hz] at this;exact this
 refine ⟨⟨_,he,rfl⟩,h _ he ⟨_,Heap.get?_push_of_some _ (Heap.get?_push_size _ rfl),rfl,rfl⟩ (by rw [Heap.size_push,hz]) fun b o x=>Heap.get?_push_of_some _ (Heap.get?_push_of_some _ x)⟩
end
end L2
end
end
noncomputable section
noncomputable section
namespace L2
open PySem PySem.Spec PyProof.Rows
theorem lookup_relabel {env:PySem.Env}:∀ (names:List (Str × NameKind)) (x:Str),
  (names.map fun (n,k)=>if (k==NameKind.free&&env.scope.kind==.function&&env.kindOf n==some .cell) then (n,NameKind.cell) else (n,k)).lookup x =
   (match names.lookup x with | some .free=>if (env.scope.kind==.function&&env.kindOf x==some .cell) then some .cell else some .free | o=>o)
 | [],_=>rfl
 | (n,k)::r,x=>by
  rw [List.map_cons]
  cases hx:x==n with
  | false =>
   have e:∀ k',List.lookup x ((n,k')::(r.map fun (n,k)=>if (k==NameKind.free&&env.scope.kind==.function&&env.kindOf n==some .cell) then (n,NameKind.cell) else (n,k)))=List.lookup x (r.map fun (n,k)=>if (k==NameKind.free&&env.scope.kind==.function&&env.kindOf n==some .cell) then (n,NameKind.cell) else (n,k)):=fun k'=>by rw [List.lookup_cons,hx]
   have e2:List.lookup x ((n,k)::r)=List.lookup x r:=by rw [List.lookup_cons,hx]
   rw [e2,← lookup_relabel r x]
   show List.lookup x ((if (k==NameKind.free&&env.scope.kind==.function&&env.kindOf n==some .cell)=true then (n,NameKind.cell) else (n,k))::_)=_
   by_cases hc:(k==NameKind.free&&env.scope.kind==.function&&env.kindOf n==some .cell)=true
   ·rw [if_pos hc];exact e _
   ·rw [if_neg hc];exact e _
  | true =>
   have en:x=n:=beq_iff_eq.mp hx
   subst en
   have e2:List.lookup x ((x,k)::r)=some k:=by rw [List.lookup_cons,beq_self_eq_true]
   rw [e2]
   have e:∀ k',List.lookup x ((x,k')::(r.map fun (n,k)=>if (k==NameKind.free&&env.scope.kind==.function&&env.kindOf n==some .cell) then (n,NameKind.cell) else (n,k)))=some k':=fun k'=>by rw [List.lookup_cons,beq_self_eq_true]
   cases k<;>simp only [beq_self_eq_true,Bool.true_and,Bool.false_and,Bool.false_eq_true,if_false,show (NameKind.local==NameKind.free)=false from rfl,show (NameKind.cell==NameKind.free)=false from rfl,show (NameKind.globalExplicit==NameKind.free)=false from rfl,show (NameKind.globalImplicit==NameKind.free)=false from rfl]<;>first | exact e _ | (split<;>exact e _)
def capN (sc:Scope) (N:List Str):List Str:=N.filter fun y=>sc.names.lookup y==some .free
def capS (sc:Scope):List Str→St→St
 | x::N,o::σ=>if sc.names.lookup x==some .free then o::capS sc N σ else capS sc N σ
 | _,_=>[]
theorem capS_len (sc:Scope):∀ (N:List Str) (σ:St),σ.length=N.length→(capS sc N σ).length=(capN sc N).length
 | [],[],_=>rfl
 | [],_::_,h=>by simp at h
 | _::_,[],h=>by simp at h
 | x::N,o::σ,h=>by
  unfold capS capN
  rw [List.filter_cons]
  have ih:=capS_len sc N σ (by simpa using h)
  unfold capN at ih
  split
  ·simp [ih]
  ·exact ih
theorem cap_get (sc:Scope) {x:Str} (hx:sc.names.lookup x=some .free):∀ (N:List Str) (σ:St),σ.length=N.length→∀ {j:Nat} {v:V},N[j]?=some x→σ[j]?=some (some v)→∃ (i:Nat),(capN sc N)[i]?=some x∧(capS sc N σ)[i]?=some (some v)
 | [],[],_,j,v,h1,h2=>by simp at h1
 | [],_::_,h,_,_,_,_=>by simp at h
 | _::_,[],h,_,_,_,_=>by simp at h
 | y::N,o::σ,h,0,v,h1,h2=>by
  simp at h1 h2
  subst h1 h2
  refine ⟨0,?_,?_⟩
  ·unfold capN;rw [List.filter_cons,if_pos (by rw [hx];rfl)];rfl
  ·unfold capS;rw [if_pos (by rw [hx];rfl)];rfl
 | y::N,o::σ,h,j+1,v,h1,h2=>by
  obtain ⟨i,h3,h4⟩:=cap_get sc hx N σ (by simpa using h) (j:=j) (v:=v) (by simpa using h1) (by simpa using h2)
  unfold capN at h3 ⊢
  rw [List.filter_cons]
  unfold capS
  split
  ·exact ⟨i+1,by simpa using h3,by simpa using h4⟩
  ·exact ⟨i,h3,h4⟩
theorem cap_of (sc:Scope):∀ (N:List Str) (σ:St) {i:Nat} {x:Str} {v:V},(capN sc N)[i]?=some x→(capS sc N σ)[i]?=some (some v)→σ.length=N.length→sc.names.lookup x=some .free∧∃ (j:Nat),N[j]?=some x∧σ[j]?=some (some v)
 | [],_,i,x,v,h1,_,_=>by unfold capN at h1;simp at h1
 | _::_,[],_,_,_,_,_,h=>by simp at h
 | y::N,o::σ,i,x,v,h1,h2,h=>by
  unfold capN at h1
  rw [List.filter_cons] at h1
  unfold capS at h2
  by_cases hy:(sc.names.lookup y==some .free)=true
  ·rw [if_pos hy] at h1 h2
   cases i with
   | zero =>
    simp at h1 h2
    subst h1 h2
    exact ⟨by simpa using hy,0,rfl,rfl⟩
   | succ i =>
    obtain ⟨h3,j,h4,h5⟩:=cap_of sc N σ (i:=i) (by simpa [capN] using h1) (by simpa using h2) (by simpa using h)
    exact ⟨h3,j+1,by simpa using h4,by simpa using h5⟩
  ·rw [if_neg hy] at h1 h2
   obtain ⟨h3,j,h4,h5⟩:=cap_of sc N σ (i:=i) (by simpa [capN] using h1) h2 (by simpa using h)
   exact ⟨h3,j+1,by simpa using h4,by simpa using h5⟩
def blk (X:Cx) (pins:List (Addr × Obj)) (scope:Scope) (xs:List Str) (fp:List Addr) (s₃:Shared) (H₃:Hp):Cx where
 prog:=X.prog
 w:=X.w
 K:=X.K
 mg:=X.mg
 base:=X.base
 A:=X.A
 N:=xs++capN scope X.N
 s₀:=s₃
 H₀:=H₃
 env:={ scope:=relabel scope X.env,locals:=s₃.heap.objs.size,globals:=X.env.globals,cells:=cellsFrom (s₃.heap.objs.size+1) scope.names (closFrom X.env scope.names []),qual:=X.env.qual,func:=none,code:=X.env.code,frame:=X.env.frame,builtins:=X.env.builtins }
 outer:=X.stack
 stack:=X.stack
 ex:=fp
 fn:=fun x=>scope.names.lookup x==some .cell
 calm:=X.calm
 pn:=X.pn++pins
 xe:=fun _ _=>False
structure CompSc (X:Cx) (scope:Scope) (xs:List Str):Prop where
 kind:scope.kind=.function
 nd:xs.Nodup
 own:∀ x∈xs,scope.names.lookup x=some .local∨scope.names.lookup x=some .cell
 free:∀ y∈scope.names,y.2=.free→scope.names.lookup y.1=some .free∧(X.env.kindOf y.1=some .cell∨X.env.kindOf y.1=some .free)
 loc:∀ y∈scope.names,y.2=.local→scope.names.lookup y.1=some .local
 cel:∀ y∈scope.names,y.2=.cell→scope.names.lookup y.1=some .cell
section
variable {X:Cx} {pins:List (Addr × Obj)} {scope:Scope} {xs:List Str} {fp:List Addr} {s₃:Shared} {H₃:Hp} {σ:St}
theorem CompSc.has (S:CompSc X scope xs) (ok:X.Ok):∀ y∈scope.names,y.2=.free→∃ c,X.env.cells.lookup y.1=some c:=fun y hy hf=>ok.has y.1 (S.free y hy hf).2
theorem blk_kind (scope:Scope) (X:Cx) (pins:List (Addr × Obj)) (xs:List Str) (fp:List Addr) (s₃:Shared) (H₃:Hp) (x:Str):(blk X pins scope xs fp s₃ H₃).env.scope.names.lookup x =
  (match scope.names.lookup x with | some .free=>if (X.env.scope.kind==.function&&X.env.kindOf x==some .cell) then some .cell else some .free | o=>o):=lookup_relabel scope.names x
theorem blk_cell (S:CompSc X scope xs) (ok:X.Ok) {x:Str} {c:Addr} (h:(blk X pins scope xs fp s₃ H₃).env.cells.lookup x=some c) :
  (s₃.heap.objs.size+1≤c∧(x,c)∈cellsFrom (s₃.heap.objs.size+1) scope.names []∧(x,NameKind.cell)∈scope.names)∨((cellsFrom (s₃.heap.objs.size+1) scope.names []).lookup x=none∧X.env.cells.lookup x=some c):=by
 rcases cells_look h with h | ⟨h1,h2⟩
 ·obtain ⟨h1,h2⟩:=cells_mem scope.names _ h
  exact .inl ⟨h1,h,h2⟩
 ·exact .inr ⟨h1,clos_sub scope.names [] (fun _ _ e=>by cases e) (S.has ok) x c h2⟩
theorem mem_names {l:List (Str × NameKind)} {x:Str} {k:NameKind} (h:l.lookup x=some k):(x,k)∈l:=PySem.mem_of_lookup h
theorem blk_ok (S:CompSc X scope xs) (I:Inv X pins σ H₃ s₃) (ff:∀ b∈fp,FpOk X pins H₃ b) (fl:∀ b∈fp,b<s₃.heap.objs.size):(blk X pins scope xs fp s₃ H₃).Ok where
 mod:=I.ok.mod
 kind:=S.kind
 glob:=I.ok.glob
 blt:=I.ok.blt
 above:=Nat.le_refl _
 inj:=fun x y c h1 h2=>by
  have up:∀ {z:Str} {c:Addr},X.env.cells.lookup z=some c→c<s₃.heap.objs.size:=fun {z c} h=>by
   obtain ⟨v,q⟩:=I.cell z c h
   exact q.lt
  rcases blk_cell S I.ok h1 with ⟨a1,a2,_⟩ | ⟨_,a2⟩<;>rcases blk_cell S I.ok h2 with ⟨b1,b2,_⟩ | ⟨_,b2⟩
  ·have ok:=cellsFrom_ok scope.names (s₃.heap.push { cls:=.type "dict",data:=.dict #[] }) (s₃.heap.objs.size+1) [] ⟨fun _ _ hm=>(nomatch hm),List.Pairwise.nil⟩ (by rw [Heap.size_push];exact Nat.le_refl _)
   rw [Heap.size_push] at ok
   exact name_of_addr ok.apart a2 b2
  ·exact absurd (Nat.lt_of_lt_of_le (up b2) (Nat.le_of_succ_le a1)) (Nat.lt_irrefl _)
  ·exact absurd (Nat.lt_of_lt_of_le (up a2) (Nat.le_of_succ_le b1)) (Nat.lt_irrefl _)
  ·exact I.ok.inj x y c a2 b2
 has:=fun x h=>by
  have h':(blk X pins scope xs fp s₃ H₃).env.scope.names.lookup x=some .cell∨(blk X pins scope xs fp s₃ H₃).env.scope.names.lookup x=some .free:=h
  rw [blk_kind] at h'
  have key:(x,NameKind.cell)∈scope.names∨(x,NameKind.free)∈scope.names:=by
   cases e:scope.names.lookup x with
   | none=>rw [e] at h';rcases h' with h' | h'<;>cases h'
   | some k =>
    rw [e] at h'
    cases k with
    | cell=>exact .inl (mem_names e)
    | free=>exact .inr (mem_names e)
    | _=>rcases h' with h' | h'<;>cases h'
  refine Option.isSome_iff_exists.mp (cells_has scope.names _ _ ?_)
  rcases key with k | k
  ·exact .inl k
  ·exact .inr (clos_has scope.names [] (.inl k))
 cab:=fun x c hf h=>by
  have hf':scope.names.lookup x=some .cell:=by simpa [blk] using hf
  have hs:=cells_has (x:=x) scope.names (s₃.heap.objs.size+1) [] (.inl (mem_names hf'))
  rcases blk_cell S I.ok h with ⟨a1,_⟩ | ⟨a1,_⟩
  ·exact Nat.le_of_lt (Nat.lt_of_lt_of_le (Nat.lt_succ_self _) a1)
  ·rw [a1] at hs;cases hs
 hd:=I.ok.hd
 frames:=I.ok.frames
 stk:=.inl rfl
 exf:=fun b hb=>⟨Nat.ne_of_lt (fl b hb),fun x c h=>by
  rcases blk_cell S I.ok h with ⟨a1,_⟩ | ⟨_,a2⟩
  ·exact fun z=>by
    have h1:=fl b hb
    rw [← z] at h1
    exact absurd (Nat.lt_of_lt_of_le h1 (Nat.le_of_succ_le a1)) (Nat.lt_irrefl _)
  ·exact (ff b hb).2.2.2.2.1 x c a2⟩
 bs:=I.bs
 bsz:=Nat.le_trans I.ok.bsz I.sz
 noex:=fun b o e hb=>by
  obtain ⟨_,_,_,h4,_⟩:=ff b hb
  rcases h4 with h4 | h4
  ·exact I.ok.noex b o e h4
  ·exact absurd (Nat.lt_of_lt_of_le (Heap.lt_size (I.ok.bs b o e).1) h4) (Nat.lt_irrefl _)
 exfs:=fun b hb hf=>by
  rcases omc (I.stkSub b hf) with z | z
  ·exact (ff b hb).2.1 z
  ·exact (ff b hb).2.2.1 z
 funs:=I.stack
 frf:=I.stkFree
def blkS (scope:Scope) (xs:List Str) (N:List Str) (σ:St):St:=List.replicate xs.length none++capS scope N σ
theorem blk_start (S:CompSc X scope xs) (I:Inv X pins σ H₃ s₃) (ff:∀ b∈fp,FpOk X pins H₃ b) (fl:∀ b∈fp,b<s₃.heap.objs.size) :
  Inv (blk X pins scope xs fp s₃ H₃) [] (blkS scope xs X.N σ) H₃ { s₃ with heap:=pushCells (s₃.heap.push { cls:=.type "dict",data:=.dict #[] }) scope.names }:=by
 have keep:∀ b o,s₃.heap.get? b=some o→(pushCells (s₃.heap.push { cls:=.type "dict",data:=.dict #[] }) scope.names).get? b=some o:=fun b o e=>pushCells_keeps _ _ b o (Heap.get?_push_of_some _ e)
 have cok:=cellsFrom_ok scope.names (s₃.heap.push { cls:=.type "dict",data:=.dict #[] }) (s₃.heap.objs.size+1) [] ⟨fun _ _ hm=>(nomatch hm),List.Pairwise.nil⟩ (by rw [Heap.size_push];exact Nat.le_refl _)
 rw [Heap.size_push] at cok
 have hlen:σ.length=X.N.length:=I.len
 refine ⟨blk_ok S I ff fl,rfl,I.bare,Un.kept keep,⟨fun _=>none,(Heap.Ns.new s₃.heap (.type "dict")).keeps (pushCells_keeps _ _),fun i x v e1 e2 e3=>?_⟩,fun x c h=>?_,I.fresh,fun x c h=>?_,fun p hp=>?_,I.hok.kept keep,?_⟩
 ·have hi:xs.length≤i:=by
   refine Nat.le_of_not_lt fun hlt=>?_
   unfold blkS at e2
   rw [List.getElem?_append_left (by simpa using hlt),List.getElem?_replicate] at e2
   split at e2<;>cases e2
  have e1':(capN scope X.N)[i-xs.length]?=some x:=by
   have e1:(xs++capN scope X.N)[i]?=some x:=e1
   rw [List.getElem?_append_right hi] at e1;exact e1
  have e2':(capS scope X.N σ)[i-xs.length]?=some (some v):=by
   unfold blkS at e2
   rw [List.getElem?_append_right (by simpa using hi)] at e2
   simpa using e2
  obtain ⟨hf,j,h1,h2⟩:=cap_of scope X.N σ e1' e2' hlen
  have hm:=mem_names hf
  have hk:=(S.free _ hm rfl).2
  obtain ⟨m,hn,hl⟩:=I.loc
  obtain ⟨u,r,l⟩:=hl j x v h1 h2 (hk.elim (fun z=>.inr (.inl z)) fun z=>.inr (.inr z))
  refine ⟨u,r,?_⟩
  rcases l with ⟨k,_⟩ | ⟨k,c,hc,z⟩
  ·rcases hk with hk | hk<;>rw [hk] at k<;>cases k
  ·refine .inr ⟨?_,c,?_,?_⟩
   ·show (blk X pins scope xs fp s₃ H₃).env.scope.names.lookup x=_∨(blk X pins scope xs fp s₃ H₃).env.scope.names.lookup x=_
    rw [blk_kind,hf]
    dsimp only
    split
    ·exact .inl rfl
    ·exact .inr rfl
   ·show (cellsFrom (s₃.heap.objs.size+1) scope.names (closFrom X.env scope.names [])).lookup x=some c
    have e0:(cellsFrom (s₃.heap.objs.size+1) scope.names []).lookup x=none:=by
     cases q:(cellsFrom (s₃.heap.objs.size+1) scope.names []).lookup x with
     | none=>rfl
     | some d =>
      have:=S.cel _ (cells_mem scope.names _ (PySem.mem_of_lookup q)).2 rfl
      rw [hf] at this;cases this
    rw [cells_app,List.lookup_append,e0,clos_get (S.has I.ok) hm]
    exact hc
   ·obtain ⟨o,ho,hd⟩:=z
    exact ⟨o,keep c o ho,hd⟩
 ·rcases blk_cell S I.ok h with ⟨_,a2,_⟩ | ⟨_,a2⟩
  ·exact ⟨_,(cok.empty x c a2).1⟩
  ·obtain ⟨v,o,ho,hd⟩:=I.cell x c a2
   exact ⟨v,o,keep c o ho,hd⟩
 ·rcases blk_cell S I.ok h with ⟨a1,_⟩ | ⟨_,a2⟩
  ·exact I.hok.fresh (by omega)
  ·exact I.freeC x c a2
 ·have hp':p∈X.pn++pins:=by
   have hp:p∈(X.pn++pins)++[]:=hp
   rw [List.append_nil] at hp;exact hp
  obtain ⟨e,n,ne,nf,d⟩:=I.pin p hp'
  refine ⟨keep p.1 p.2 e,n,Nat.ne_of_lt (Heap.lt_size e),fun z=>?_,d⟩
  rcases omc (I.stkSub p.1 z) with q | q
  ·exact ne q
  ·exact nf q
 ·unfold blkS
  show _=(xs++capN scope X.N).length
  rw [List.length_append,List.length_append,List.length_replicate,capS_len scope X.N σ hlen]
theorem comp_run {elt iter tg:Expr} {ifs:List Expr} {pos:Pos} {J:It} {it:Addr} {tn:Nat→Heap→Prop} {H2:Hp} {s2:Shared} {E:Value→Shared→Prop} {g:Shared→Hp→TG} {tc:Shared→Hp→TT} {te:Shared→Hp→TE}
  (hc:X.calm=true) (S:CompSc X scope xs) (I2:Inv X pins σ H2 s2) (T:Turn X.prog X.w X.K tg J fp it tn) (st2:tn 0 s2.heap) (f2:∀ b∈fp,FpOk X pins H2 b)
  (hg:∀ s₃ H₃,(blk X pins scope xs fp s₃ H₃).Ok→PG (blk X pins scope xs fp s₃ H₃) tg (g s₃ H₃))
  (hi:∀ s₃ H₃,(blk X pins scope xs fp s₃ H₃).Ok→∀ (pn:List (Addr × Obj)) (s:Shared) (σ:St) (H:Hp) (Q:Bool→Hp→Prop),Inv (blk X pins scope xs fp s₃ H₃) pn σ H s→tc s₃ H₃ σ H Q →
   wpAny (model X.prog X.w) X.A (forIn ifs true fun c r=>if r=true then do let ok ← isTrue c (blk X pins scope xs fp s₃ H₃).env (eval c (blk X pins scope xs fp s₃ H₃).env);pure (ForInStep.yield ok) else pure (ForInStep.yield r)) (TP (blk X pins scope xs fp s₃ H₃) pn σ Q) (fun _ _=>False) s)
  (he:∀ s₃ H₃,(blk X pins scope xs fp s₃ H₃).Ok→PE (blk X pins scope xs fp s₃ H₃) elt (te s₃ H₃))
  (W:Addr→Nat→Nat→St→Hp→Prop) (R:Addr→Hp→Prop)
  (start:∀ D,H2 D=none→∃ m,W D 0 m (blkS scope xs X.N σ) (upd H2 D (.lst [])))
  (turn:∀ s₃ H₃ D i m σ' H',(blk X pins scope xs fp s₃ H₃).Ok→W D i m σ' H'→(J.stop i H'∧R D H')∨(J.go i H'∧∃ N:St→Hp→Prop,(∀ σ'' H'',N σ'' H''→∃ m',m'<m∧W D (i+1) m' σ'' H'') ∧
   ∀ x H5,J.yld i H' x H5→g s₃ H₃ x σ' H5 fun σ2 H6=>tc s₃ H₃ σ2 H6 fun ok H7=>if ok=true then te s₃ H₃ σ2 H7 fun y H8=>∃ ys,H8 D=some (.lst ys)∧ys.length<sizeLine∧N σ2 (upd H8 D (.lst (ys++[y]))) else N σ2 H7)) :
  wpAny (model X.prog X.w) X.A (newList []) (fun acc s₃=>wpAny (model X.prog X.w) X.A (newFunctionEnv scope X.env.globals (closFrom X.env scope.names []) [] X.env.qual none .none (some X.env)) (fun cenv s₄ =>
   codeAny (model X.prog X.w) X.A (.compStart (.ListComp elt [⟨tg,iter,ifs,0⟩] scope pos) 0 (.ref it) acc { cenv with scope:=relabel scope X.env })
    (fun r s'=>r=.ok .next∧∃ D H',acc=.ref D∧Inv X pins σ H' s'∧FpOk X pins H' cenv.locals∧(∃ m,s'.heap.Ns cenv.locals m)∧R D H') s₄) E s₃) E s2:=by
 refine wpAny_newObj_type ?_ (by size_fits)
 have I3:Inv X pins σ (upd H2 s2.heap.objs.size (.lst [])) { s2 with heap:=s2.heap.push { cls:=.type "list",data:=.seq ([]:List Value).toArray } }:=I2.lnew (t':=s2.toks) (ys:=[]) (its:=[]) .nil (Nat.zero_le _)
 have hD:H2 s2.heap.objs.size=none:=I2.fresh
 have fl2:∀ b∈fp,b<s2.heap.objs.size:=fun b hb=>by
  obtain ⟨o,e,_⟩:=T.obj 0 _ st2 b hb
  exact Heap.lt_size e
 have hsz:(s2.heap.push { cls:=.type "list",data:=.seq ([]:List Value).toArray }).objs.size=s2.heap.objs.size+1:=Heap.size_push ..
 have f3:∀ b∈fp,FpOk X pins (upd H2 s2.heap.objs.size (.lst [])) b:=fun b hb=>⟨by rw [upd_ne (Nat.ne_of_lt (fl2 b hb))];exact (f2 b hb).1,(f2 b hb).2⟩
 have fl3:∀ b∈fp,b<(s2.heap.push { cls:=.type "list",data:=.seq ([]:List Value).toArray }).objs.size:=fun b hb=>by rw [hsz];exact Nat.lt_succ_of_lt (fl2 b hb)
 refine nfe_comp ?_
 generalize hs3:({ s2 with heap:=s2.heap.push { cls:=.type "list",data:=.seq ([]:List Value).toArray } }:Shared)=s3 at I3 fl3 ⊢
 have fl3:∀ b∈fp,b<s3.heap.objs.size:=by rw [← hs3];exact fl3
 have st3:tn 0 s3.heap:=T.keep 0 _ _ st2 fun b _ o e=>by rw [← hs3];exact Heap.get?_push_of_some _ e
 generalize hH3:upd H2 s2.heap.objs.size (.lst [])=H3 at I3 f3
 obtain ⟨m0,w0⟩:=start s2.heap.objs.size hD
 rw [hH3] at w0
 generalize hDD:s2.heap.objs.size=D at w0
 have BOk:=blk_ok (fp:=fp) S I3 f3 fl3
 have I4:=blk_start (fp:=fp) S I3 f3 fl3
 have hg':=hg s3 H3 BOk
 have hi':=hi s3 H3 BOk
 have he':=he s3 H3 BOk
 have st4:tn 0 (pushCells (s3.heap.push { cls:=.type "dict",data:=.dict #[] }) scope.names):=T.keep 0 _ _ st3 fun b _ o e=>pushCells_keeps _ _ b o (Heap.get?_push_of_some _ e)
 have stat:∀ {H':Hp} {pn:List (Addr × Obj)},pn=[]→(∀ b∈fp,H' b=none)→∀ b∈fp,FpOk (blk X pins scope xs fp s3 H3) pn H' b:=fun {H' pn} hp hn b hb=>by
  subst hp
  refine ⟨hn b hb,(BOk.exf b hb).1,BOk.exfs b hb,.inl hb,(BOk.exf b hb).2,fun p hp=>?_⟩
  have hp:p∈(X.pn++pins)++[]:=hp
  rw [List.append_nil] at hp
  exact (f3 b hb).2.2.2.2.2 p hp
 have loop:codeAny (model X.prog X.w) X.A (.compLoop (.ListComp elt [⟨tg,iter,ifs,0⟩] scope pos) 0 (.ref it) (.ref D) (blk X pins scope xs fp s3 H3).env)
   (fun r s'=>r=.ok .next∧∃ D' H',Value.ref D=.ref D'∧Inv X pins σ H' s'∧FpOk X pins H' s3.heap.objs.size∧(∃ m,s'.heap.Ns s3.heap.objs.size m)∧R D' H') { s3 with heap:=pushCells (s3.heap.push { cls:=.type "dict",data:=.dict #[] }) scope.names }:=by
  refine codeAny_loop rfl (fun n s'=>∃ i σ' H',Inv (blk X pins scope xs fp s3 H3) [] σ' H' s'∧tn i s'.heap∧(∀ b∈fp,H' b=none)∧W D i n σ' H') ?_ m0 ⟨0,_,_,I4,st4,fun b hb=>(f3 b hb).1,w0⟩
  rintro n s5 ⟨i,σ5,H5,I5,st5,fr5,w5⟩
  show wpAny _ X.A ((compTurn (.ListComp elt [⟨tg,iter,ifs,0⟩] scope pos) 0 (.ref it) (.ref D) (blk X pins scope xs fp s3 H3).env).onRaise (fun x=>do noteFrame x (blk X pins scope xs fp s3 H3).env;theTreesLotGoes x)) _ _ s5
  refine wpAny_noted ?_
  rw [compTurn_list]
  refine wpAny_bind (wpAny_standAt (wpAny_bind ?_))
  rcases turn s3 H3 D i n σ5 H5 BOk w5 with ⟨stop,q⟩ | ⟨go,N,hN,step⟩
  ·refine thn (T.done (blk X pins scope xs fp s3 H3) rfl rfl rfl hc i [] s5 σ5 H5 _ I5 (stat rfl fr5) st5 stop) fun r s6 ⟨hr,I6⟩=>?_
   subst hr
   refine wpAny_pure ⟨rfl,D,H5,rfl,?_,?_,?_,q⟩
   ·exact I3.call' I6.os I6.base I6.hok I6.bare fun b hb=>⟨(f3 b hb).2.2.2.1,(f3 b hb).2.1,(f3 b hb).2.2.2.2.1,(f3 b hb).2.2.2.2.2⟩
   ·exact I3.fpOk (Nat.le_refl _) I6.free
   ·obtain ⟨m,hn,_⟩:=I6.loc
    exact ⟨m,hn⟩
  ·refine thn (T.item (blk X pins scope xs fp s3 H3) rfl rfl rfl hc i [] s5 σ5 H5 _ I5 (stat rfl fr5) st5 go) fun r s6 ⟨u,hr,h6⟩=>?_
   subst hr
   refine wpAny_bind (thn h6 fun _ s7 ⟨x,H7,I7,r7,y7,st7,fr7⟩=>?_)
   have I7':=I7.pinned (stat rfl fr7) (T.obj _ _ st7)
   have hl:∀ {α:Type} {t:Sem α} {Q:α→Shared→Prop} {E':Value→Shared→Prop} {s:Shared},wpAny (model X.prog X.w) X.A t Q (fun _ _=>False) s→wpAny (model X.prog X.w) X.A t Q E' s:=fun h=>wpAny_mono h (fun _ _ q=>q) fun _ _ z=>False.elim z
   refine wpAny_bind (hl (thn (hg' _ s7 σ5 H7 x u _ I7' r7 (step x H7 y7)) fun _ s8 ⟨σ8,H8,I8,q8⟩=>?_))
   refine wpAny_bind (hl (thn (hi' _ s8 σ8 H8 _ I8 q8) fun ok s9 ⟨H9,I9,q9⟩=>?_))
   have again:∀ {σ7:St} {H7':Hp} {s7':Shared},Inv (blk X pins scope xs fp s3 H3) ([]++pinsAt fp s7.heap) σ7 H7' s7'→N σ7 H7'→∃ m,m<n∧∃ i σ' H',Inv (blk X pins scope xs fp s3 H3) [] σ' H' s7'∧tn i s7'.heap∧(∀ b∈fp,H' b=none)∧W D i m σ' H':=fun {σ7 H7' s7'} I8 n8=>by
    obtain ⟨m',hm,w8⟩:=hN σ7 H7' n8
    refine ⟨m',hm,i+1,σ7,H7',I8.unpinned,T.keep _ _ _ st7 fun b hb o e=>(I8.pin (b,o) (List.mem_append_right _ (List.mem_append_right _ (mem_pinsAt hb e)))).1,fun b hb=>?_,w8⟩
    obtain ⟨o,e,d⟩:=T.obj _ _ st7 b hb
    exact (I8.pin (b,o) (List.mem_append_right _ (List.mem_append_right _ (mem_pinsAt hb e)))).2.1
   cases ok with
   | false =>
    rw [if_neg Bool.false_ne_true] at q9
    exact wpAny_pure ⟨rfl,again I9 q9⟩
   | true =>
    rw [if_pos rfl] at q9
    refine wpAny_bind (wpAny_bind (hl (thn (he' _ s9 σ8 H9 _ I9 q9) fun y s10 ⟨yv,H10,I10,r10,ys,e10,z10,q10⟩=>?_)))
    refine wpAny_bind (hl (thn (mt_append (X:=blk X pins scope xs fp s3 H3) _ s10 σ8 H10 (.ref D) [yv] (.ref D) [y] (fun _ H'=>N σ8 H') I10 rfl (.cons r10 .nil) ⟨D,ys,yv,rfl,rfl,e10,z10,q10⟩) fun _ s11 ⟨_,H11,I11,_,q11⟩=>?_))
    exact wpAny_pure (wpAny_pure ⟨rfl,again I11 q11⟩)
 exact codeAny_compStart_list loop (T.self X.A 0 _ _ _ st4 loop)
end
end L2
end
end
noncomputable section
noncomputable section
namespace L2
open PySem PySem.Spec PyProof.Rows
section
variable {X:Cx} {pins:List (Addr × Obj)} {σ:St} {H:Hp} {s:Shared} {h':Heap}
theorem Inv.turned2 {it e T:Addr} {xs:List V} {t':Nat} (I:Inv X pins σ H s) (k:∀ b o,b≠e→b≠it→s.heap.get? b=some o→h'.get? b=some o) (fe:FpOk X pins H e) (fi:FpOk X pins H it)
  (hT:s.heap.objs.size≤T) (new:ObjOk X.prog X.w (upd H T (.tup xs)) h' T (.tup xs)):Inv X pins σ (upd H T (.tup xs)) { s with heap:=h',toks:=t' }:=by
 have hn:H T=none:=I.hok.fresh hT
 have nT:∀ {b:Addr} {o:Obj},s.heap.get? b=some o→b≠T:=fun {b o} q=>Nat.ne_of_lt (Nat.lt_of_lt_of_le (Heap.lt_size q) hT)
 have nch:∀ {b:Addr},b∉[e,it]→b≠e∧b≠it:=fun {b} h=>⟨fun z=>h (by simp [z]),fun z=>h (by simp [z])⟩
 have nfp:∀ {b:Addr} {u:HO},H b=some u→b≠e∧b≠it:=fun {b u} q=>⟨fun z=>(by rw [z,fe.1] at q;cases q),fun z=>(by rw [z,fi.1] at q;cases q)⟩
 refine I.step (g':=s.gens) (d':=s.drawn) (ch:=[e,it]) (fun b hb=>?_) (fun b o _ _ hc q _=>k b o (nch hc).1 (nch hc).2 q) (fun b o _ _ hc q _=>⟨o.slots,k b o (nch hc).1 (nch hc).2 q⟩)
  (fun b o hc q z=>by rw [upd_ne (nT q)];exact z) (fun b o hc q=>⟨o,k b o (nch hc).1 (nch hc).2 q⟩)
  (fun b ys q=>by rw [upd_ne (ne_of_none q hn)];exact q) (fun b o u q=>by rw [upd_ne (ne_of_none q hn)];exact q) (fun b ps q=>⟨#[],by rw [upd_ne (ne_of_none q hn),q];simp⟩) (fun m hm=>?_) (fun b u q=>?_) I.bare
 ·rcases omc hb with z | z
  ·rw [z];exact ⟨fe.2.2.2.1,fe.2.1,fe.2.2.2.2.1,fe.2.2.2.2.2⟩
  ·rw [omg z];exact ⟨fi.2.2.2.1,fi.2.1,fi.2.2.2.2.1,fi.2.2.2.2.2⟩
 ·obtain ⟨o,es,ep,ho,r⟩:=hm
  exact ⟨o,es,ep,k _ o (Ne.symm fe.2.1) (Ne.symm fi.2.1) ho,r⟩
 ·by_cases hb:b=T
  ·subst hb;rw [upd_same] at q;cases q;exact new
  ·rw [upd_ne hb] at q
   refine (I.hok b u q).stay (fun c v hc z=>?_) (fun c z=>by rw [upd_ne (ne_of_none z hn)];exact z) fun c ys z=>by rw [upd_ne (ne_of_none z hn)];exact z
   rcases hc with rfl | hc
   ·exact k c v (nfp q).1 (nfp q).2 z
   ·exact k c v (nfp hc).1 (nfp hc).2 z
end
def Ite (sq:Hp→Addr→List V→Prop) (a:Addr):It :=
 ⟨fun i H=>∃ xs x,sq H a xs∧xs[i]?=some x,fun i H x H'=>∃ p v,H p=none∧x=.ref p∧H'=upd H p (.tup [.int (i:Int),v])∧∀ xs,sq H a xs→xs[i]?=some v,fun i H=>∃ xs,sq H a xs∧xs.length=i⟩
theorem turn_enumL {P:Program} {w:World} {K:PySem.W.Frag} {elts:List Expr} {kx:Nat} {pos:Pos} (a it e:Addr) (hei:e≠it) :
  Turn P w K (.Tuple elts kx pos) (Ite (SqL K) a) [e,it] e (fun i h=>(∃ old,IsEnum h e it (i:Int) old)∧h.IsListIter it a i) where
 mem:=by simp
 obj:=fun i h st b hb=>by
  obtain ⟨⟨old,he⟩,o,ho,hc,hd⟩:=st
  rcases omc hb with z | z
  ·rw [z];exact ⟨_,he,fun v q=>by cases q⟩
  ·rw [omg z];exact ⟨o,ho,fun v q=>by rw [hd] at q;cases q⟩
 keep:=fun i h h' st k=>by
  obtain ⟨⟨old,he⟩,o,ho,r⟩:=st
  exact ⟨⟨old,k e (by simp) _ he⟩,o,k it (by simp) o ho,r⟩
 item:=by
  intro X hP hw hK hc i pins s σ H E I hf st hg
  subst hP hw hK
  obtain ⟨xs,x,hq,hx⟩:=hg
  obtain ⟨⟨old,he⟩,hit⟩:=st
  obtain ⟨its,rv,p,hz⟩:=I.list hq
  obtain ⟨u,hu,ru⟩:=rv.get hx
  have fe:=hf e (by simp)
  have fi:=hf it (by simp)
  obtain ⟨ol,hol,hcl,_⟩:=id p.isList
  obtain ⟨oi,hoi,hci,_⟩:=id hit
  have hai:a≠it:=fun z=>by
   rw [z,hoi] at hol;cases hol
   rw [hci] at hcl;exact absurd hcl (by decide +kernel)
  have hae:e≠a:=fun z=>by
   have he':s.heap.get? e=_:=he
   rw [z,hol] at he';cases he'
   exact absurd hcl (by show Value.type "enumerate"≠Value.type "list";decide +kernel)
  have D:=Draws.list (prog:=X.prog) (w:=X.w) (A:=X.A.in1) (show X.A.in1.handled=none from I.ok.hd hc) it a hai its.toArray
  have hlt:i<its.toArray.size:=by
   have:=rv.length
   have h2:=(ome hx).1
   rw [List.size_toArray];omega
  refine wpAny_pyNext_enum_itemD D he ⟨hit,p.isList⟩ hlt hei (fun z=>(omc z).elim hei fun q=>hae (omg q)) fun x' h1 tk hPx ho st1 hT hsz hk=>?_
  refine ⟨_,rfl,wpAny_letOwnedTupleGo_enum ho fun h2 he2 hs2=>?_⟩
  have hx':x'=u:=by
   have hPx:its.toArray[i]?=some x':=hPx
   have:its[i]?=some x':=by simpa using hPx
   rw [hu] at this;exact (Option.some.inj this).symm
  subst hx'
  have hk2:∀ b o,b≠e→b≠it→s.heap.get? b=some o→h2.get? b=some o:=fun b o hbe hbi q=>(hs2.2 b hbe).trans (hk b o hbe hbi q)
  have hTe:s.heap.objs.size≠e:=Nat.ne_of_gt (Heap.lt_size he)
  have I1:Inv X pins σ (upd H s.heap.objs.size (.tup [.int (i:Int),x])) { s with heap:=h2,toks:=tk+1 }:=I.turned2 hk2 fe fi (Nat.le_refl _)
   ⟨by show 2≤sizeLine;decide,[.int (i:Int) tk,x'],.cons ⟨_,rfl⟩ (.cons ru .nil),⟨_,(hs2.2 _ hTe).trans hT,rfl,_,rfl⟩⟩
  refine ⟨.ref s.heap.objs.size,_,I1,rfl,⟨_,x,I.fresh,rfl,rfl,fun ys hy=>by rw [I.list_inj hy hq];exact hx⟩,⟨⟨_,by simpa using he2⟩,?_⟩,fun b hb=>?_⟩
  ·obtain ⟨o,ho',r⟩:=st1.1
   exact ⟨o,(hs2.2 it (Ne.symm hei)).trans ho',r⟩
  ·have hb0:=(hf b hb).1
   have hbl:b<s.heap.objs.size:=by
    rcases omc hb with z | z
    ·rw [z];exact Heap.lt_size he
    ·rw [omg z];exact Heap.lt_size hoi
   rw [upd_ne (Nat.ne_of_lt hbl)];exact hb0
 done:=by
  intro X hP hw hK hc i pins s σ H E I hf st hg
  subst hP hw hK
  obtain ⟨xs,hq,hx⟩:=hg
  obtain ⟨⟨old,he⟩,hit⟩:=st
  obtain ⟨its,rv,p,hz⟩:=I.list hq
  obtain ⟨ol,hol,hcl,_⟩:=id p.isList
  obtain ⟨oi,hoi,hci,_⟩:=id hit
  have hai:a≠it:=fun z=>by
   rw [z,hoi] at hol;cases hol
   rw [hci] at hcl;exact absurd hcl (by decide +kernel)
  have D:=Draws.list (prog:=X.prog) (w:=X.w) (A:=X.A.in1) (show X.A.in1.handled=none from I.ok.hd hc) it a hai its.toArray
  have hl:its.toArray.size=i:=by rw [List.size_toArray,← rv.length];exact hx
  obtain ⟨f0,f1,f2,f3,f4,f5⟩:=hf it (by simp)
  refine wpAny_pyNext_enum_endD D he (by rw [hl];exact ⟨hit,p.isList⟩) fun h1 eb=>⟨rfl,I.turned (t':=s.toks) (fun b o hb q=>eb b o hb q) f0 f1 f3 f4 f5⟩
 self:=fun _ _ _ _ _ st h=>by
  obtain ⟨⟨old,he⟩,_⟩:=st
  exact wpAny_pyIter_enum he h
theorem turn_enumT {P:Program} {w:World} {K:PySem.W.Frag} {elts:List Expr} {kx:Nat} {pos:Pos} (a it e:Addr) (hei:e≠it) :
  Turn P w K (.Tuple elts kx pos) (Ite (SqT K) a) [e,it] e (fun i h=>(∃ old,IsEnum h e it (i:Int) old)∧h.IsTupleIter it a i) where
 mem:=by simp
 obj:=fun i h st b hb=>by
  obtain ⟨⟨old,he⟩,o,ho,hc,hd⟩:=st
  rcases omc hb with z | z
  ·rw [z];exact ⟨_,he,fun v q=>by cases q⟩
  ·rw [omg z];exact ⟨o,ho,fun v q=>by rw [hd] at q;cases q⟩
 keep:=fun i h h' st k=>by
  obtain ⟨⟨old,he⟩,o,ho,r⟩:=st
  exact ⟨⟨old,k e (by simp) _ he⟩,o,k it (by simp) o ho,r⟩
 item:=by
  intro X hP hw hK hc i pins s σ H E I hf st hg
  subst hP hw hK
  obtain ⟨xs,x,hq,hx⟩:=hg
  obtain ⟨⟨old,he⟩,hit⟩:=st
  obtain ⟨its,rv,p,hz⟩:=I.tuple hq
  obtain ⟨u,hu,ru⟩:=rv.get hx
  have fe:=hf e (by simp)
  have fi:=hf it (by simp)
  obtain ⟨ol,hol,hcl,_⟩:=id p
  obtain ⟨oi,hoi,hci,_⟩:=id hit
  have hai:a≠it:=fun z=>by
   rw [z,hoi] at hol;cases hol
   rw [hci] at hcl;exact absurd hcl (by decide +kernel)
  have hae:e≠a:=fun z=>by
   have he':s.heap.get? e=_:=he
   rw [z,hol] at he';cases he'
   exact absurd hcl (by show Value.type "enumerate"≠Value.type "tuple";decide +kernel)
  have D:=draws_tuple (prog:=X.prog) (w:=X.w) (A:=X.A.in1) (show X.A.in1.handled=none from I.ok.hd hc) it a hai its.toArray
  have hlt:i<its.toArray.size:=by
   have:=rv.length
   have h2:=(ome hx).1
   rw [List.size_toArray];omega
  refine wpAny_pyNext_enum_itemD D he ⟨hit,(show s.heap.IsTuple a its.toArray from p)⟩ hlt hei (fun z=>(omc z).elim hei fun q=>hae (omg q)) fun x' h1 tk hPx ho st1 hT hsz hk=>?_
  refine ⟨_,rfl,wpAny_letOwnedTupleGo_enum ho fun h2 he2 hs2=>?_⟩
  have hx':x'=u:=by
   have hPx:its.toArray[i]?=some x':=hPx
   have:its[i]?=some x':=by simpa using hPx
   rw [hu] at this;exact (Option.some.inj this).symm
  subst hx'
  have hk2:∀ b o,b≠e→b≠it→s.heap.get? b=some o→h2.get? b=some o:=fun b o hbe hbi q=>(hs2.2 b hbe).trans (hk b o hbe hbi q)
  have hTe:s.heap.objs.size≠e:=Nat.ne_of_gt (Heap.lt_size he)
  have I1:Inv X pins σ (upd H s.heap.objs.size (.tup [.int (i:Int),x])) { s with heap:=h2,toks:=tk+1 }:=I.turned2 hk2 fe fi (Nat.le_refl _)
   ⟨by show 2≤sizeLine;decide,[.int (i:Int) tk,x'],.cons ⟨_,rfl⟩ (.cons ru .nil),⟨_,(hs2.2 _ hTe).trans hT,rfl,_,rfl⟩⟩
  refine ⟨.ref s.heap.objs.size,_,I1,rfl,⟨_,x,I.fresh,rfl,rfl,fun ys hy=>by rw [I.tuple_inj hy hq];exact hx⟩,⟨⟨_,by simpa using he2⟩,?_⟩,fun b hb=>?_⟩
  ·obtain ⟨o,ho',r⟩:=st1.1
   exact ⟨o,(hs2.2 it (Ne.symm hei)).trans ho',r⟩
  ·have hb0:=(hf b hb).1
   have hbl:b<s.heap.objs.size:=by
    rcases omc hb with z | z
    ·rw [z];exact Heap.lt_size he
    ·rw [omg z];exact Heap.lt_size hoi
   rw [upd_ne (Nat.ne_of_lt hbl)];exact hb0
 done:=by
  intro X hP hw hK hc i pins s σ H E I hf st hg
  subst hP hw hK
  obtain ⟨xs,hq,hx⟩:=hg
  obtain ⟨⟨old,he⟩,hit⟩:=st
  obtain ⟨its,rv,p,hz⟩:=I.tuple hq
  obtain ⟨ol,hol,hcl,_⟩:=id p
  obtain ⟨oi,hoi,hci,_⟩:=id hit
  have hai:a≠it:=fun z=>by
   rw [z,hoi] at hol;cases hol
   rw [hci] at hcl;exact absurd hcl (by decide +kernel)
  have D:=draws_tuple (prog:=X.prog) (w:=X.w) (A:=X.A.in1) (show X.A.in1.handled=none from I.ok.hd hc) it a hai its.toArray
  have hl:its.toArray.size=i:=by rw [List.size_toArray,← rv.length];exact hx
  obtain ⟨f0,f1,f2,f3,f4,f5⟩:=hf it (by simp)
  refine wpAny_pyNext_enum_endD D he (by rw [hl];exact ⟨hit,(show s.heap.IsTuple a its.toArray from p)⟩) fun h1 eb=>⟨rfl,I.turned (t':=s.toks) (fun b o hb q=>eb b o hb q) f0 f1 f3 f4 f5⟩
 self:=fun _ _ _ _ _ st h=>by
  obtain ⟨⟨old,he⟩,_⟩:=st
  exact wpAny_pyIter_enum he h
section
variable {X:Cx} {tg:Expr}
theorem pi_seq {l:Expr} {tl:TE} (hl:PE X l tl):PI X tg l (fun σ H R=>tl σ H fun x H1=>∃ a,x=.ref a∧((∃ xs,SqL X.K H1 a xs∧R (Itl X.K a) H1)∨∃ xs,SqT X.K H1 a xs∧R (Itt X.K a) H1)):=by
 intro pins s σ H R I h
 refine thn (hl pins s σ H _ I h) fun v s1 ⟨x,H1,I1,r1,q1⟩=>?_
 obtain ⟨a,e,q1⟩:=q1
 subst e
 cases r1
 rcases q1 with ⟨xs,hq,q⟩ | ⟨xs,hq,q⟩
 ·obtain ⟨its,rv,p,hz⟩:=I1.list hq
  refine wpAny_pyIter_list p.isList ?_
  refine ⟨s1.heap.objs.size,[s1.heap.objs.size],_,_,H1,rfl,I1.kept (t':=s1.toks) fun b o e=>Heap.get?_push_of_some _ e,turn_list a _,⟨_,Heap.get?_push_size _ rfl,rfl,rfl⟩,fun b hb=>?_,q⟩
  have e:b=s1.heap.objs.size:=by simpa using hb
  subst e
  exact I1.fpOk (Nat.le_refl _) (I1.hok.fresh (Nat.le_refl _))
 ·obtain ⟨its,rv,p,hz⟩:=I1.tuple hq
  refine wpAny_pyIter_tuple (show s1.heap.IsTuple a its.toArray from p) ?_
  refine ⟨s1.heap.objs.size,[s1.heap.objs.size],_,_,H1,rfl,I1.kept (t':=s1.toks) fun b o e=>Heap.get?_push_of_some _ e,turn_tuple a _,⟨_,Heap.get?_push_size _ rfl,rfl,rfl⟩,fun b hb=>?_,q⟩
  have e:b=s1.heap.objs.size:=by simpa using hb
  subst e
  exact I1.fpOk (Nat.le_refl _) (I1.hok.fresh (Nat.le_refl _))
theorem pi_enum {a:Expr} {ta:TA} {p pos p2:Pos} {elts:List Expr} {kx:Nat} (hg:Gl X "enumerate") (hm:X.mg "enumerate"=none) (ha:PA X [a] ta) (hs:starEach [a] X.env=[(false,eval a X.env)]) :
  PI X (.Tuple elts kx p2) (.Call (.Name "enumerate" p) [a] [] pos) (fun σ H R=>ta σ H fun vs H1=>∃ a,vs=[.ref a]∧((∃ xs,SqL X.K H1 a xs∧R (Ite (SqL X.K) a) H1)∨∃ xs,SqT X.K H1 a xs∧R (Ite (SqT X.K) a) H1)):=by
 intro pins s σ H R I h
 refine Call_ (ld_blt I hg hm boot_enumerate (PyProof.Rows.callWith_type1 (thn (ha pos pins s σ H _ I h) fun us s1 ⟨vs,H1,I1,r1,q1⟩=>?_) hs rfl))
 obtain ⟨l,e,q1⟩:=q1
 subst e
 obtain ⟨u,rfl,rx⟩:=vals1 r1
 cases rx
 have fin:∀ {h':Heap} {J:It} {tn:Nat→Heap→Prop},(∀ b o,s1.heap.get? b=some o→h'.get? b=some o)→h'.objs.size=s1.heap.objs.size+2 →
   Turn X.prog X.w X.K (.Tuple elts kx p2) J [s1.heap.objs.size+1,s1.heap.objs.size] (s1.heap.objs.size+1) tn→tn 0 h'→R J H1→PIE X pins σ (.Tuple elts kx p2) R (.ref (s1.heap.objs.size+1)) { s1 with heap:=h' }:=fun {h' J tn} hk hsz T st q=>by
  refine ⟨s1.heap.objs.size+1,[s1.heap.objs.size+1,s1.heap.objs.size],tn,J,H1,rfl,I1.kept (t':=s1.toks) hk,T,st,fun b hb=>?_,q⟩
  rcases omc hb with z | z
  ·rw [z];exact I1.fpOk (Nat.le_succ _) (I1.hok.fresh (Nat.le_succ _))
  ·rw [omg z];exact I1.fpOk (Nat.le_refl _) (I1.hok.fresh (Nat.le_refl _))
 have hne:s1.heap.objs.size+1≠s1.heap.objs.size:=Nat.succ_ne_self _
 rcases q1 with ⟨xs,hq,q⟩ | ⟨xs,hq,q⟩
 ·obtain ⟨its,rv,pl,hz⟩:=I1.list hq
  refine call_enumerate_list pl.isList fun h' he hit hsz hk=>?_
  exact wpAny_pyIter_enum (s:={ s1 with heap:=h' }) he (fin hk hsz (turn_enumL l s1.heap.objs.size (s1.heap.objs.size+1) hne) ⟨⟨_,by simpa using he⟩,hit⟩ q)
 ·obtain ⟨its,rv,pl,hz⟩:=I1.tuple hq
  refine call_enum_tuple (show s1.heap.IsTuple l its.toArray from pl) fun h' he hit hsz hk=>?_
  exact wpAny_pyIter_enum (s:={ s1 with heap:=h' }) he (fin hk hsz (turn_enumT l s1.heap.objs.size (s1.heap.objs.size+1) hne) ⟨⟨_,by simpa using he⟩,hit⟩ q)
end
end L2
end
end
noncomputable section
noncomputable section
namespace Ev
open PySem PySem.Spec PyProof.Rows L2
def subs:List Nat→List (List Nat)
 | []=>[[]]
 | a::l=>subs l++(subs l).map (a::·)
def allP:List (List Nat):=(subs (List.range 8)).filter fun l=>decide (l.length≤4)
def slotP (P:List Nat) (j:Nat):SetTable.Slot:=if P.toArray[SetTable.below P.toArray j]?==some j then .live (SetTable.below P.toArray j) else .empty
def whereP:List Nat→Nat→Option Nat
 | [],_=>none
 | a::l,j=>if a=j then some 0 else (whereP l j).map (·+1)
theorem slot_fin:(allP.all fun P=>(List.range 8).all fun j=>decide (slotP P j=(match whereP P j with | some i=>.live i | none=>.empty)))=true:=by decide +kernel
theorem put_fin:(allP.all fun P=>(List.range 8).all fun j=>P.contains j||decide (4≤P.length)||(decide (SetTable.below P.toArray j≤P.length)&&allP.contains (P.take (SetTable.below P.toArray j)++j::P.drop (SetTable.below P.toArray j))))=true:=by decide +kernel
theorem free_fin:(allP.all fun P=>(List.range 8).any fun j=>!P.contains j)=true:=by decide +kernel
theorem next_fin:(allP.all fun P=>(List.range P.length).all fun i=>decide (SetTable.below P.toArray (if i=0 then 0 else P.getD (i-1) 0+1)=i))=true:=by decide +kernel
theorem last_fin:(allP.all fun P=>decide (SetTable.below P.toArray (if P.length=0 then 0 else P.getD (P.length-1) 0+1)=P.length))=true:=by decide +kernel
theorem where_no:∀ {P:List Nat} {j:Nat},whereP P j=none↔j∉P
 | [],j=>by simp [whereP]
 | a::l,j=>by
  rw [whereP]
  by_cases e:a=j
  ·subst e;simp
  ·have:¬ j=a:=fun z=>e z.symm
   rw [if_neg e,Option.map_eq_none_iff,where_no,List.mem_cons,not_or]
   exact ⟨fun h=>⟨this,h⟩,fun h=>h.2⟩
theorem slot_at {P:List Nat} (h:P∈allP) {j:Nat} (hj:j<8):slotP P j=(match whereP P j with | some i=>.live i | none=>.empty) :=
 of_decide_eq_true (oml (oml slot_fin P h) j (List.mem_range.mpr hj))
theorem put_at {P:List Nat} (h:P∈allP) {j:Nat} (hj:j<8) (hn:j∉P) (h3:P.length≤3):SetTable.below P.toArray j≤P.length∧(P.take (SetTable.below P.toArray j)++j::P.drop (SetTable.below P.toArray j))∈allP:=by
 have:=oml (oml put_fin P h) j (List.mem_range.mpr hj)
 rw [Bool.or_eq_true,Bool.or_eq_true] at this
 rcases this with (z | z) | z
 ·exact absurd (by simpa using z) hn
 ·have:=of_decide_eq_true z;omega
 ·rw [Bool.and_eq_true,decide_eq_true_eq] at z
  exact ⟨z.1,by simpa using z.2⟩
theorem free_at {P:List Nat} (h:P∈allP):∃ j,j<8∧j∉P:=by
 obtain ⟨j,h1,h2⟩:=List.any_eq_true.mp (oml free_fin P h)
 exact ⟨j,List.mem_range.mp h1,by simpa using h2⟩
def pix (h:Int):Nat→Nat × Nat
 | 0=>(SetTable.bits h%8,SetTable.bits h)
 | n+1=>(((pix h n).1*5+1+(pix h n).2/32)%8,(pix h n).2/32)
abbrev ix (h:Int) (n:Nat):Nat:=(pix h n).1
def prb (h:Int) (n:Nat):SetTable.Probe:=⟨ix h n,0,ix h n,(pix h n).2,none⟩
theorem ix_lt (h:Int):∀ n,ix h n<8
 | 0=>Nat.mod_lt _ (by decide)
 | n+1=>Nat.mod_lt _ (by decide)
theorem prb_start {t:SetTable} (hm:t.mask=7) (h:Int):t.probeStart h=prb h 0:=by
 unfold SetTable.probeStart prb
 rw [hm]
 have:SetTable.runEnd 7 (SetTable.bits h%8)-SetTable.bits h%8=0:=by
  unfold SetTable.runEnd
  rw [if_neg (by omega)];omega
 simp only [this]
 rfl
theorem prb_next {t:SetTable} (hm:t.mask=7) (h:Int) (n:Nat):t.advance (prb h n)=prb h (n+1):=by
 unfold SetTable.advance
 rw [if_neg (by show ¬ (0>0);omega),hm]
 show (let (i,perturb):=SetTable.leap 7 (ix h n) (pix h n).2;({ prb h n with j:=i,more:=SetTable.runEnd 7 i-i,i,perturb }:SetTable.Probe))=_
 have e:SetTable.leap 7 (ix h n) (pix h n).2=pix h (n+1):=rfl
 rw [e]
 have:SetTable.runEnd 7 (pix h (n+1)).1-(pix h (n+1)).1=0:=by
  unfold SetTable.runEnd
  rw [if_neg (by omega)];omega
 show ({ prb h n with j:=(pix h (n+1)).1,more:=SetTable.runEnd 7 (pix h (n+1)).1-(pix h (n+1)).1,i:=(pix h (n+1)).1,perturb:=(pix h (n+1)).2 }:SetTable.Probe)=_
 rw [this]
 rfl
theorem pt_div (h:Int):∀ n,(pix h n).2=SetTable.bits h/32 ^ n
 | 0=>by show SetTable.bits h=_;simp
 | n+1=>by
  show (pix h n).2/32=_
  rw [pt_div h n,Nat.div_div_eq_div_mul,Nat.pow_succ]
theorem pt_zero (h:Int) (n:Nat):(pix h (13+n)).2=0:=by
 rw [pt_div]
 have hb:SetTable.bits h<2 ^ 64:=by
  unfold SetTable.bits
  have h1:=Int.emod_nonneg h (show (2 ^ 64:Int)≠0 by decide)
  have h2:=Int.emod_lt_of_pos h (show (0:Int)<2 ^ 64 by decide)
  omega
 refine Nat.div_eq_of_lt (Nat.lt_of_lt_of_le hb ?_)
 rw [Nat.pow_add]
 exact Nat.le_trans (show 2 ^ 64≤32 ^ 13 by decide) (Nat.le_mul_of_pos_right _ (Nat.pow_pos (by decide)))
def cyc (i:Nat):Nat→Nat
 | 0=>i
 | m+1=>(cyc i m*5+1)%8
theorem cyc_fin:((List.range 8).all fun i=>(List.range 8).all fun s=>(List.range 8).any fun m=>decide (cyc i m=s))=true:=by decide +kernel
theorem ix_cyc (h:Int):∀ m,ix h (13+m)=cyc (ix h 13) m
 | 0=>rfl
 | m+1=>by
  show ((pix h (13+m)).1*5+1+(pix h (13+m)).2/32)%8=_
  rw [pt_zero,Nat.zero_div,Nat.add_zero,cyc,← ix_cyc h m]
theorem visits (h:Int) {s:Nat} (hs:s<8):∃ k,k≤20∧ix h k=s:=by
 have:=oml (oml cyc_fin (ix h 13) (List.mem_range.mpr (ix_lt h 13))) s (List.mem_range.mpr hs)
 obtain ⟨m,h1,h2⟩:=List.any_eq_true.mp this
 have h1:=List.mem_range.mp h1
 exact ⟨13+m,by omega,by rw [ix_cyc];exact of_decide_eq_true h2⟩
theorem least {p:Nat→Prop} [DecidablePred p]:∀ (n:Nat),p n→∃ k,k≤n∧p k∧∀ m,m<k→¬ p m
 | 0,h=>⟨0,Nat.le_refl _,h,fun m hm=>absurd hm (Nat.not_lt_zero _)⟩
 | n+1,h=>by
  by_cases e:∃ m,m≤n∧p m
  ·obtain ⟨m,hm,hp⟩:=e
   have go:∀ m,m≤n→p m→∃ k,k≤n∧p k∧∀ j,j<k→¬ p j:=by
    intro m
    induction m using Nat.strongRecOn with
    | ind m ih =>
     intro hm hp
     by_cases f:∃ j,j<m∧p j
     ·obtain ⟨j,hj,hpj⟩:=f
      exact ih j hj (by omega) hpj
     ·exact ⟨m,hm,hp,fun j hj hpj=>f ⟨j,hj,hpj⟩⟩
   obtain ⟨k,h1,h2,h3⟩:=go m hm hp
   exact ⟨k,by omega,h2,h3⟩
  ·exact ⟨n+1,Nat.le_refl _,h,fun m hm hp=>e ⟨m,by omega,hp⟩⟩
theorem first_free {P:List Nat} (h:P∈allP) (hs:Int):∃ K,K≤20∧ix hs K∉P∧∀ m,m<K→ix hs m∈P:=by
 obtain ⟨j,hj,hn⟩:=free_at h
 obtain ⟨k,hk,e⟩:=visits hs hj
 obtain ⟨K,h1,h2,h3⟩:=least (p:=fun m=>ix hs m∉P) k (by rw [e];exact hn)
 exact ⟨K,by omega,h2,fun m hm=>Classical.byContradiction fun z=>h3 m hm z⟩
structure TOk (t:SetTable) (P:List Nat):Prop where
 mask:t.mask=7
 dum:t.dummies=#[]
 pl:t.place=P.toArray
 all:P∈allP
theorem TOk.slot {t:SetTable} {P:List Nat} (h:TOk t P) {j:Nat} (hj:j<8):t.slot j=(match whereP P j with | some i=>.live i | none=>.empty):=by
 rw [← slot_at h.all hj]
 unfold SetTable.slot slotP
 rw [h.pl,h.dum]
 simp only
 split
 ·rfl
 ·rfl
theorem go_empty {t:SetTable} {P:List Nat} (h:TOk t P) {hashAt:Nat→Int} {hs:Int} {K:Nat} (he:ix hs K∉P):∀ (d k f:Nat),k+d=K→d<f→(∀ m,k≤m→m<K→∃ i,whereP P (ix hs m)=some i∧hashAt i≠hs)→SetTable.probe.go t hashAt hs f (prb hs k)=some (.empty (ix hs K) none)
 | 0,k,f+1,e,_,_=>by
  have:k=K:=by omega
  subst this
  rw [SetTable.probe.go]
  show (match t.slot (ix hs k) with | .empty=>_ | .dummy=>_ | .live i=>_)=_
  rw [h.slot (ix_lt hs k),where_no.mpr he]
  rfl
 | d+1,k,f+1,e,hf,hl=>by
  rw [SetTable.probe.go]
  show (match t.slot (ix hs k) with | .empty=>_ | .dummy=>_ | .live i=>_)=_
  obtain ⟨i,h1,h2⟩:=hl k (Nat.le_refl _) (by omega)
  rw [h.slot (ix_lt hs k),h1]
  show (if (hashAt i==hs)=true then _ else SetTable.probe.go t hashAt hs f (t.advance (prb hs k)))=_
  rw [if_neg (by simpa using h2),prb_next h.mask]
  exact go_empty h he d (k+1) f (by omega) (by omega) fun m h3 h4=>hl m (by omega) h4
 | 0,_,0,_,h0,_=>absurd h0 (by omega)
 | d+1,_,0,_,h0,_=>absurd h0 (by omega)
end Ev
end
end
noncomputable section
noncomputable section
namespace L2
open PySem PySem.Spec PyProof.Rows
instance (priority:=high) keyBEq:BEq Key:=⟨fun a b=>decide (a=b)⟩
instance keyLaw:LawfulBEq Key where
 eq_of_beq:=fun h=>of_decide_eq_true h
 rfl:=decide_eq_true rfl
theorem ded_len (l:List Key) (v:Key):(step_dedup l v).length=if l.any (·==v) then l.length else l.length+1:=by
 unfold step_dedup;split<;>simp
section
variable {prog:Program} {w:World} {A:Around} {R:Result→Shared→Prop} {I:Addr} {fp wr:List Addr} {G:Array GenState→Array GenState→Prop} {P:Nat→Value→Prop} {St:Nat→Shared→Prop}
end
end L2
end
end
noncomputable section
noncomputable section
namespace L2
open PySem PySem.Spec PyProof.Rows
section
variable {prog:Program} {w:World} {A:Around} {E:Value→Shared→Prop} {s:Shared}
abbrev setO (b:Bool):Obj:={ cls:=.type "set",dict:=none,data:=.set #[] 0 (.fresh 0 0 b) }
end
end L2
end
end
noncomputable section
noncomputable section
namespace Ev
open PySem
abbrev leS (a b:Str):Prop:=a.cps.toList≤b.cps.toList
theorem insS_perm (x:Str):∀ l:List Str,(insS x l).Perm (x::l)
 | []=>.refl _
 | y::r=>by
  rw [insS]
  split
  ·exact ((insS_perm x r).cons y).trans (.swap x y r)
  ·exact .refl _
theorem sortS_perm:∀ l:List Str,(sortS l).Perm l
 | []=>.refl _
 | x::r=>(insS_perm x _).trans ((sortS_perm r).cons x)
theorem leS_tr {a b c:Str} (h1:leS a b) (h2:leS b c):leS a c:=List.le_trans h1 h2
theorem leS_as {a b:Str} (h1:leS a b) (h2:leS b a):a=b:=by
 have:=List.le_antisymm h1 h2
 obtain ⟨a⟩:=a
 obtain ⟨b⟩:=b
 have:a=b:=Array.toList_inj.mp this
 rw [this]
theorem insS_pw (x:Str):∀ {l:List Str},l.Pairwise leS→(insS x l).Pairwise leS
 | [],_=>List.pairwise_singleton _ _
 | y::r,h=>by
  obtain ⟨h1,h2⟩:=List.pairwise_cons.mp h
  rw [insS]
  split
  ·rename_i hl
   refine List.pairwise_cons.mpr ⟨fun z hz=>?_,insS_pw x h2⟩
   rcases omc ((insS_perm x r).mem_iff.mp hz) with rfl | hz
   ·exact List.le_of_lt hl
   ·exact h1 z hz
  ·rename_i hl
   have hx:leS x y:=List.not_lt.mp hl
   refine List.pairwise_cons.mpr ⟨fun z hz=>?_,h⟩
   rcases omc hz with rfl | hz
   ·exact hx
   ·exact leS_tr hx (h1 z hz)
theorem sortS_pw:∀ l:List Str,(sortS l).Pairwise leS
 | []=>.nil
 | x::r=>insS_pw x (sortS_pw r)
theorem pwS_one:∀ {l m:List Str},l.Pairwise leS→m.Pairwise leS→l.Perm m→l=m
 | [],m,_,_,p=>(List.nil_perm.mp p).symm
 | x::r,[],_,_,p=>absurd p.length_eq (by simp)
 | x::r,y::q,h1,h2,p=>by
  obtain ⟨a1,a2⟩:=List.pairwise_cons.mp h1
  obtain ⟨b1,b2⟩:=List.pairwise_cons.mp h2
  have e:x=y:=by
   rcases omc (p.mem_iff.mp (.head _)) with e | hx
   ·exact e
   ·rcases omc (p.mem_iff.mpr (.head _:y∈y::q)) with e | hy
    ·exact e.symm
    ·exact leS_as (a1 y hy) (b1 x hx)
  subst e
  rw [pwS_one a2 b2 (List.Perm.cons_inv p)]
theorem sortS_uniq {l m:List Str} (h:l.Perm m):sortS l=sortS m:=pwS_one (sortS_pw l) (sortS_pw m) ((sortS_perm l).trans (h.trans (sortS_perm m).symm))
theorem mem_dedS {x:Str}:∀ {l:List Str},x∈dedS l↔x∈l
 | []=>Iff.rfl
 | k::r=>by
  rw [dedS]
  split
  ·rename_i hk
   rw [mem_dedS (l:=r),List.mem_cons]
   exact ⟨.inr,fun h=>h.elim (fun z=>by rw [z];exact hk) id⟩
  ·rw [List.mem_cons,mem_dedS (l:=r),List.mem_cons]
theorem nd_dedS:∀ l:List Str,(dedS l).Nodup
 | []=>List.nodup_nil
 | k::r=>by
  rw [dedS]
  split
  ·exact nd_dedS r
  ·rename_i hk
   exact List.nodup_cons.mpr ⟨fun z=>hk (mem_dedS.mp z),nd_dedS r⟩
theorem sub_len {α:Type} [DecidableEq α]:∀ {l D:List α},l.Nodup→(∀ x∈l,x∈D)→l.length≤D.length
 | [],_,_,_=>Nat.zero_le _
 | a::l,D,nd,h=>by
  obtain ⟨h1,h2⟩:=List.nodup_cons.mp nd
  have ha:=h a (.head _)
  have:=sub_len (l:=l) (D:=D.erase a) h2 fun x hx=>(List.mem_erase_of_ne fun e=>h1 (by rw [← e];exact hx)).mpr (h x (.tail _ hx))
  rw [List.length_erase_of_mem ha] at this
  have:0<D.length:=List.length_pos_of_mem ha
  rw [List.length_cons];omega
end Ev
end
end
noncomputable section
noncomputable section
namespace Ev
open PySem PySem.Spec PyProof.Rows L2
theorem by_places {α:Type} (d:α) (l:List α):l=(List.range l.length).map fun i=>l.getD i d:=by
 apply List.ext_getElem?
 intro i
 rw [List.getElem?_map]
 by_cases hi:i<l.length
 ·rw [List.getElem?_range hi,List.getElem?_eq_getElem hi]
  simp [List.getD_eq_getElem?_getD,hi]
 ·rw [List.getElem?_eq_none (by simpa using hi),List.getElem?_eq_none (by simpa using hi)];rfl
section
variable {prog:Program} {w:World} {A:Around} {E:Value→Shared→Prop} {s:Shared}
theorem code_set_newB (a:Value) {Q₁:Value→Shared→Prop} (h:∀ led:Bool,(led=false→w.params.followText "set-order"=true)→Q₁ (.ref s.heap.objs.size) { s with heap:=s.heap.push { cls:=.type "set",dict:=none,data:=.set #[] 0 (.fresh 0 0 led) } }) :
  codeAny (model prog w) A (.call (.builtin "set.__new__") ⟨[.type "set",a],[]⟩) (wants Q₁ E) s:=by
 refine codeAny_of_tree ?_
 show wpAny _ A.in1 (do checkBuiltinCall "set.__new__" ⟨[.type "set",a],[]⟩;again (.builtin "set.__new__" ⟨[.type "set",a],[]⟩)) _ _ s
 refine wpAny_bind (wpAny_of_eq (F.newCall_set_1 a) (wpAny_pure ⟨plainId_quiet F.plain_set_new _,codeAny_builtin F.entry_set_new ?_⟩))
 rw [Around.under_plainId F.plain_set_new _]
 unfold Builtin.«set.__new__» Builtin.Frozenset.newClass
 have hsub:=sub_set_self
 obtain ⟨hp,g,d,tk,os⟩:=s
 dsimp only
 wp_walk
 refine wpAny_askSetting (wpAny_pure ?_)
 dsimp only
 simp only [newObj]
 refine wpAny_bind (wpAny_alloc (wpAny_pure ?_))
 refine wpAny_pure (h _ fun e=>?_)
 have e':(!w.params.followText "set-order")=false:=e
 simpa using e'
end
end Ev
end
end
noncomputable section
noncomputable section
namespace Ev
open PySem PySem.Spec PySem.Calls PyProof.Rows L2
theorem sl_iter:Slot "set" "__iter__" "set.__iter__" :=
 .of (owner:="set") (n:="__iter__") (by rw [typeLookup_type,builtinLookup_eq_fast];kernel_rfl) (by decide +kernel) (by decide +kernel) (by decide +kernel)
  (by first | exact .inl (by decide +kernel) | exact .inr (by decide +kernel)) (by rw [isSubtype_type];kernel_rfl)
theorem en_iter:entryFor table "set.__iter__"=some Builtin.«frozenset.__iter__»:=entryFor_alias (id':="frozenset.__iter__") (by kernel_rfl) rfl (by decide +kernel) (by kernel_rfl)
theorem ow_set:Manifest.owners.lookup (String.ofList ['t','e','s'].reverse)=some Manifest.sig_set:=by kernel_rfl
theorem ar_iter (a:Value):argsOk "set.__iter__" ⟨[a],[]⟩:=by
 unfold argsOk;rw [signature?_of (id:="set.__iter__") (n:=['_','_','r','e','t','i','_','_']) (o:=['t','e','s']) (by kernel_rfl) ow_set];kernel_rfl
theorem sl_next:Slot "set_iterator" "__next__" "set_iterator.__next__" :=
 .of (owner:="set_iterator") (n:="__next__") (by rw [typeLookup_type,builtinLookup_eq_fast];kernel_rfl) (by decide +kernel) (by decide +kernel) (by decide +kernel)
  (by first | exact .inl (by decide +kernel) | exact .inr (by decide +kernel)) (by rw [isSubtype_type];kernel_rfl)
theorem en_next:entryFor table "set_iterator.__next__"=some Builtin.«set_iterator.__next__»:=entryFor_of_tree (by kernel_rfl)
theorem ow_it:Manifest.owners.lookup (String.ofList ['r','o','t','a','r','e','t','i','_','t','e','s'].reverse)=some Manifest.sig_set_iterator:=by kernel_rfl
theorem ar_next (a:Value):argsOk "set_iterator.__next__" ⟨[a],[]⟩:=by
 unfold argsOk;rw [signature?_of (id:="set_iterator.__next__") (n:=['_','_','t','x','e','n','_','_']) (o:=['r','o','t','a','r','e','t','i','_','t','e','s']) (by kernel_rfl) ow_it];kernel_rfl
theorem sl_self:Slot "set_iterator" "__iter__" "set_iterator.__iter__" :=
 .of (owner:="set_iterator") (n:="__iter__") (by rw [typeLookup_type,builtinLookup_eq_fast];kernel_rfl) (by decide +kernel) (by decide +kernel) (by decide +kernel)
  (by first | exact .inl (by decide +kernel) | exact .inr (by decide +kernel)) (by rw [isSubtype_type];kernel_rfl)
theorem en_self:entryFor table "set_iterator.__iter__"=some Builtin.«dict_keyiterator.__iter__»:=entryFor_alias (id':="dict_keyiterator.__iter__") (by kernel_rfl) rfl (by decide +kernel) (by kernel_rfl)
theorem ar_self (a:Value):argsOk "set_iterator.__iter__" ⟨[a],[]⟩:=by
 unfold argsOk;rw [signature?_of (id:="set_iterator.__iter__") (n:=['_','_','r','e','t','i','_','_']) (o:=['r','o','t','a','r','e','t','i','_','t','e','s']) (by kernel_rfl) ow_it];kernel_rfl
theorem er_perm {α:Type}:∀ {l:List α} {i:Nat} (h:i<l.length),(l[i]::l.eraseIdx i).Perm l
 | a::l,0,_=>.refl _
 | a::l,i+1,h=>by
  have h':i<l.length:=by simpa using h
  exact (List.Perm.swap a l[i] (l.eraseIdx i)).trans (List.Perm.cons a (er_perm h'))
theorem pick_go {α:Type} (next:Nat→Nat):∀ (f k:Nat) (left:List α) (out:Array α),left.length=f→((pickOrder.go next f k left out).toList).Perm (out.toList++left)
 | 0,k,left,out,h=>by
  have:left=[]:=List.length_eq_zero_iff.mp h
  subst this
  rw [pickOrder.go,List.append_nil]
 | f+1,k,left,out,h=>by
  have hi:next k%left.length<left.length:=Nat.mod_lt _ (by omega)
  rw [pickOrder.go,List.getElem?_eq_getElem hi]
  refine (pick_go next f (k+1) _ _ (by rw [List.length_eraseIdx_of_lt hi];omega)).trans ?_
  rw [Array.toList_push,List.append_assoc]
  exact List.Perm.append_left _ (er_perm hi)
theorem pick_perm {α:Type} (next:Nat→Nat) (xs:Array α):(pickOrder next xs).toList.Perm xs.toList:=by
 unfold pickOrder
 have:=pick_go next xs.size 0 xs.toList #[] (by simp)
 simpa using this
section
variable {prog:Program} {w:World} {M:Model} {A:Around} {E:Value→Shared→Prop} {s:Shared}
theorem choose_at {src:Source} {n:Nat} {Q:Nat→Shared→Prop} (hn:n≠0) (h:∀ i d,i<n→Q i { s with drawn:=d }):wpAny M A (choose src n) Q E s:=fun Γ p hΓ=>by
 unfold choose
 rw [Sem.wp_choose]
 exact ⟨hn,h _ _ (Nat.mod_lt _ (Nat.pos_of_ne_zero hn))⟩
theorem draw_at {α:Type}:∀ (n:Nat) (xs:List α) (s:Shared) {Q:List α→Shared→Prop},xs.length=n→(∀ ys d,ys.Perm xs→Q ys { s with drawn:=d })→wpAny M A (drawOrder n xs) Q E s
 | 0,xs,s,Q,hl,h=>by
  have:xs=[]:=List.length_eq_zero_iff.mp hl
  subst this
  exact wpAny_pure (h [] s.drawn (.refl _))
 | n+1,[],s,Q,hl,h=>by cases hl
 | n+1,x::xs,s,Q,hl,h=>by
  unfold drawOrder
  refine wpAny_bind (choose_at (by simp) fun i d hi=>?_)
  rw [List.getElem?_eq_getElem hi]
  dsimp only
  refine wpAny_bind (draw_at n _ _ (by rw [List.length_eraseIdx_of_lt hi];simpa using hl) fun ys d' hp=>wpAny_pure ?_)
  exact h _ d' ((List.Perm.cons _ hp).trans (er_perm hi))
theorem hint_set {r:Addr} {Q:Bool→Shared→Prop} (hT:s.TypeIs (.ref r) "set") (h:Q false s):wpAny (model prog w) A (Builtin.List.listLengthHint (.ref r)) Q E s:=by
 unfold Builtin.List.listLengthHint
 refine wpAny_bind (wpAny_specialOf hT PySem.F.slot_set_len.lookup ?_)
 generalize hid:("set.__len__":String)=id0
 wp_delta
 rw [show splitId id0=some ("set", "__len__") from by subst hid;decide +kernel]
 subst hid
 refine wpAny_bind (wpAny_isInstance (T:="set") (b:=true) hT (by rw [isSubtype_type];kernel_rfl) ?_)
 refine wpAny_ite_split (fun hab=>absurd hab (by decide)) (fun _=>?_)
 refine wpAny_ite_split (fun _=>?_) (fun hab=>absurd (by decide +kernel) hab)
 refine wpAny_bind (wpAny_typeOf hT ?_)
 exact wpAny_pure h
end
end Ev
end
end
noncomputable section
noncomputable section
namespace Ev
open PySem PySem.Spec PySem.Calls PyProof.Rows L2
section
variable {prog:Program} {w:World} {A:Around} {E:Value→Shared→Prop} {s:Shared}
def itO (first:Value) (i:Nat) (S:Addr) (n ep:Nat):Obj:={ cls:=.type "set_iterator",dict:=none,data:=.fields #[first,.int i 0,.ref S,.int n 0,.int ep 0],slots:=#[] }
abbrev stO (es:List (Int × Value)) (ep:Nat) (t:SetTable):Obj:={ cls:=.type "set",dict:=none,data:=.set es.toArray ep t }
theorem next_int {I S:Addr} {sl nx i n ep:Nat} {es:List (Int × Value)} {t:SetTable} {x:Value} {Q:Option Value→Shared→Prop} (hI:s.heap.get? I=some (itO (.int sl 0) i S n ep)) (hS:s.heap.get? S=some (stO es ep t)) (hf:t.fits es.toArray.size=true) (hn:n=es.length)
  (hx:∀ (A:Around) (Q:Option (Value × Nat)→Shared→Prop) (E:Value→Shared→Prop),Q (some (x,nx)) s→wpAny (model prog w) A (setNext S sl i ep) Q E s)
  (hQ:∀ h',h'.get? I=some (itO (.int nx 0) (i+1) S n ep)→Heap.SameBut I s.heap h'→Q (some x) { s with heap:=h' }):wpAny (model prog w) A (pyNext (.ref I)) Q E s:=by
 have hT:s.TypeIs (.ref I) "set_iterator":=⟨_,hI,rfl⟩
 unfold pyNext
 refine wpAny_bind (wpAny_attempt (wpAny_callSpecial?_slot (name:=Str.ofString "__next__") hT sl_next (wpAny_call_entry sl_next hT en_next ?_ (ar_next _))))
 unfold Builtin.«set_iterator.__next__»
 refine wpAny_bind (wpAny_pure ?_)
 refine wpAny_bind (wpAny_fieldsOf hI rfl ?_)
 dsimp only
 refine wpAny_bind (wpAny_setEntries_of hS rfl hf ?_)
 rw [if_neg (by simp [hn])]
 rw [Int.toNat_natCast,Int.toNat_natCast,Int.toNat_natCast]
 refine wpAny_bind (hx _ _ _ ?_)
 dsimp only
 refine wpAny_bind (wpAny_setField_rec hI (by simp) fun h1 e1 b1=>?_)
 refine wpAny_bind (wpAny_setField_rec e1 (by simp) fun h2 e2 b2=>?_)
 refine wpAny_pure ⟨x,rfl,wpAny_pure (hQ _ ?_ (b1.trans b2))⟩
 rw [e2]
 unfold itO
 simp [rawInt]
theorem stop_at {I:Addr} {h1:Heap} {Q:Option Value→Shared→Prop} (hh:A.handled=none) (b1:Heap.ExtBut I s.heap h1)
  (hQ:∀ h',Heap.ExtBut I s.heap h'→Q none { s with heap:=h' }) :
  wpAny (model prog w) A.in1 (newExc (.type "StopIteration") [] >>= fun e=>(raiseNew e:Sem PySem.Fin)) (fun fin s'=>∃ v,fin=Fin.done (Flow.ret v)∧wpAny (model prog w) A (pure (some v)) Q E s')
   (fun e s'=>wpAny (model prog w) A (isInstance e (Value.type "StopIteration") >>= fun b=>if b=true then pure none else throw e) Q E s') { s with heap:=h1 }:=by
 refine wpAny_bind ?_
 simp only [newExc,newTuple]
 refine wpAny_bind (wpAny_newObj_type ?_ (by size_fits))
 refine wpAny_bind (m:=firstArgMember _ _) (wpAny_of_eq (a:=Value.none) (by first | rfl | (simp only [firstArgMember];rfl)) ?_)
 refine wpAny_newObj_type ?_ (by size_fits)
 simp only [raiseNew]
 refine wpAny_bind (wpAny_handled ?_)
 rw [show A.in1.handled=none from hh]
 refine wpAny_bind (wpAny_pure (wpAny_throw ?_))
 refine wpAny_bind (wpAny_isInstance (T:="StopIteration") (b:=true) ⟨_,Heap.get?_push_size _ rfl,rfl⟩ isSubtype_stop ?_)
 exact wpAny_pure (hQ _ ((b1.push _).push _))
theorem end_int {I S:Addr} {sl i n ep:Nat} {es:List (Int × Value)} {t:SetTable} {Q:Option Value→Shared→Prop} (hh:A.handled=none) (hI:s.heap.get? I=some (itO (.int sl 0) i S n ep)) (hS:s.heap.get? S=some (stO es ep t)) (hf:t.fits es.toArray.size=true) (hn:n=es.length)
  (hx:∀ (A:Around) (Q:Option (Value × Nat)→Shared→Prop) (E:Value→Shared→Prop),Q none s→wpAny (model prog w) A (setNext S sl i ep) Q E s)
  (hQ:∀ h',Heap.ExtBut I s.heap h'→Q none { s with heap:=h' }):wpAny (model prog w) A (pyNext (.ref I)) Q E s:=by
 have hT:s.TypeIs (.ref I) "set_iterator":=⟨_,hI,rfl⟩
 unfold pyNext
 refine wpAny_bind (wpAny_attempt (wpAny_callSpecial?_slot (name:=Str.ofString "__next__") hT sl_next (wpAny_call_entry sl_next hT en_next ?_ (ar_next _))))
 unfold Builtin.«set_iterator.__next__»
 refine wpAny_bind (wpAny_pure ?_)
 refine wpAny_bind (wpAny_fieldsOf hI rfl ?_)
 dsimp only
 refine wpAny_bind (wpAny_setEntries_of hS rfl hf ?_)
 rw [if_neg (by simp [hn])]
 rw [Int.toNat_natCast,Int.toNat_natCast,Int.toNat_natCast]
 refine wpAny_bind (hx _ _ _ ?_)
 dsimp only
 refine wpAny_bind (wpAny_setField_rec hI (by simp) fun h1 e1 b1=>?_)
 exact stop_at (s:=s) hh b1.extBut hQ
theorem next_drawn {I S D:Addr} {i n ep p:Nat} {es:List (Int × Value)} {t:SetTable} {ys:List Nat} {e:Int × Value} {oD:Obj} {m:Nat} {Q:Option Value→Shared→Prop} (hI:s.heap.get? I=some (itO (.ref D) i S n ep)) (hD:s.heap.get? D=some oD) (hd:oD.data=.seq (ys.map fun (j:Nat)=>rawInt j).toArray m) (hS:s.heap.get? S=some (stO es ep t)) (hf:t.fits es.toArray.size=true) (hn:n=es.length)
  (hp:ys[i]?=some p) (he:es[p]?=some e)
  (hQ:∀ h',h'.get? I=some (itO (.ref D) (i+1) S n ep)→Heap.SameBut I s.heap h'→Q (some e.2) { s with heap:=h' }):wpAny (model prog w) A (pyNext (.ref I)) Q E s:=by
 have hT:s.TypeIs (.ref I) "set_iterator":=⟨_,hI,rfl⟩
 unfold pyNext
 refine wpAny_bind (wpAny_attempt (wpAny_callSpecial?_slot (name:=Str.ofString "__next__") hT sl_next (wpAny_call_entry sl_next hT en_next ?_ (ar_next _))))
 unfold Builtin.«set_iterator.__next__»
 refine wpAny_bind (wpAny_pure ?_)
 refine wpAny_bind (wpAny_fieldsOf hI rfl ?_)
 dsimp only
 refine wpAny_bind (wpAny_setEntries_of hS rfl hf ?_)
 rw [if_neg (by simp [hn])]
 refine wpAny_bind (wpAny_seqItems hD hd ?_)
 dsimp only
 rw [show (ys.map fun (j:Nat)=>rawInt j).toArray[(i:Int).toNat]?=some (.int p 0) by simp [hp,rawInt]]
 dsimp only
 rw [Int.toNat_natCast,Int.toNat_natCast]
 refine wpAny_bind ?_
 unfold setNextDrawn
 refine wpAny_bind (wpAny_setState_of hS rfl hf ?_)
 dsimp only
 rw [if_neg (by simp)]
 rw [show es.toArray[p]?=some e by simp [he]]
 refine wpAny_pure ?_
 refine wpAny_bind (wpAny_setField_rec hI (by simp) fun h1 e1 b1=>?_)
 refine wpAny_pure ⟨_,rfl,wpAny_pure (hQ _ ?_ b1)⟩
 rw [e1]
 unfold itO
 simp [rawInt]
theorem end_drawn {I S D:Addr} {i n ep:Nat} {es:List (Int × Value)} {t:SetTable} {ys:List Nat} {oD:Obj} {m:Nat} {Q:Option Value→Shared→Prop} (hh:A.handled=none) (hI:s.heap.get? I=some (itO (.ref D) i S n ep)) (hD:s.heap.get? D=some oD) (hd:oD.data=.seq (ys.map fun (j:Nat)=>rawInt j).toArray m) (hS:s.heap.get? S=some (stO es ep t)) (hf:t.fits es.toArray.size=true) (hn:n=es.length)
  (hp:ys[i]?=none)
  (hQ:∀ h',Heap.ExtBut I s.heap h'→Q none { s with heap:=h' }):wpAny (model prog w) A (pyNext (.ref I)) Q E s:=by
 have hT:s.TypeIs (.ref I) "set_iterator":=⟨_,hI,rfl⟩
 unfold pyNext
 refine wpAny_bind (wpAny_attempt (wpAny_callSpecial?_slot (name:=Str.ofString "__next__") hT sl_next (wpAny_call_entry sl_next hT en_next ?_ (ar_next _))))
 unfold Builtin.«set_iterator.__next__»
 refine wpAny_bind (wpAny_pure ?_)
 refine wpAny_bind (wpAny_fieldsOf hI rfl ?_)
 dsimp only
 refine wpAny_bind (wpAny_setEntries_of hS rfl hf ?_)
 rw [if_neg (by simp [hn])]
 refine wpAny_bind (wpAny_seqItems hD hd ?_)
 dsimp only
 rw [show (ys.map fun (j:Nat)=>rawInt j).toArray[(i:Int).toNat]?=none by simpa using hp]
 dsimp only
 refine wpAny_bind (wpAny_setField_rec hI (by simp) fun h1 e1 b1=>?_)
 refine wpAny_bind (wpAny_setField_rec e1 (by simp) fun h2 e2 b2=>?_)
 exact stop_at (s:=s) hh (b1.trans b2).extBut hQ
theorem self_at {I S:Addr} {first:Value} {i n ep:Nat} {Q:Value→Shared→Prop} (hI:s.heap.get? I=some (itO first i S n ep)) (h:Q (.ref I) s):wpAny (model prog w) A (pyIter (.ref I)) Q E s:=by
 have hT:s.TypeIs (.ref I) "set_iterator":=⟨_,hI,rfl⟩
 refine wpAny_pyIter_slot hT sl_self (wpAny_call_entry sl_self hT en_self ?_ (ar_self _))
 show wpAny _ _ (ret (.ref I)) _ _ s
 exact wpAny_pure ⟨_,rfl, "set_iterator",_,hT,sl_next.lookup,h⟩
theorem walk_drawn {I S D:Addr} {n ep m:Nat} {es:List (Int × Value)} {t:SetTable} {ys:List Nat} {oD:Obj} (hh:A.handled=none) (hS:S≠I) (hD:D≠I) (hd:oD.data=.seq (ys.map fun (j:Nat)=>rawInt j).toArray m) (hf:t.fits es.toArray.size=true) (hn:n=es.length) (hy:∀ p∈ys,p<es.length) :
  Walks prog w A I [I,S,D] [I] ys.length (fun i v=>∃ p e,ys[i]?=some p∧es[p]?=some e∧v=e.2) (fun i h=>h.get? I=some (itO (.ref D) i S n ep)∧h.get? S=some (stO es ep t)∧h.get? D=some oD) where
 sub:=fun b hb=>by simp at hb;simp [hb]
 frame:=fun _ _ _ st hk=>⟨hk I (by simp) _ st.1,hk S (by simp) _ st.2.1,hk D (by simp) _ st.2.2⟩
 item:=fun i s Q E hi st hQ=>by
  have hp:ys[i]?=some ys[i]:=List.getElem?_eq_getElem hi
  have he:es[ys[i]]?=some (es[ys[i]]'(hy _ (List.getElem_mem hi))):=List.getElem?_eq_getElem _
  refine next_drawn st.1 st.2.2 hd st.2.1 hf hn hp he fun h' e' b'=>?_
  exact hQ _ h' s.toks ⟨_,_,hp,he,rfl⟩ ⟨e',by rw [b'.2 S hS];exact st.2.1,by rw [b'.2 D hD];exact st.2.2⟩ fun b o hb e=>by rw [b'.2 b fun z=>hb (by simp [z])];exact e
 done:=fun s Q E st hQ=>end_drawn hh st.1 st.2.2 hd st.2.1 hf hn (by simp) fun h' b'=>hQ h' s.toks fun b o hb e=>b' b o (fun z=>hb (by simp [z])) e
 self:=fun _ _ _ _ st hQ=>self_at st.1 hQ
theorem walk_int {I S:Addr} {n ep:Nat} {es ord:List (Int × Value)} {t:SetTable} {sl:Nat→Nat} (hh:A.handled=none) (hS:S≠I) (hf:t.fits es.toArray.size=true) (hn:n=es.length)
  (hx:∀ i,i<ord.length→∀ e,ord[i]?=some e→∀ (s:Shared) (A:Around) (Q:Option (Value × Nat)→Shared→Prop) (E:Value→Shared→Prop),s.heap.get? S=some (stO es ep t)→Q (some (e.2,sl (i+1))) s→wpAny (model prog w) A (setNext S (sl i) i ep) Q E s)
  (hz:∀ (s:Shared) (A:Around) (Q:Option (Value × Nat)→Shared→Prop) (E:Value→Shared→Prop),s.heap.get? S=some (stO es ep t)→Q none s→wpAny (model prog w) A (setNext S (sl ord.length) ord.length ep) Q E s) :
  Walks prog w A I [I,S] [I] ord.length (fun i v=>∃ e,ord[i]?=some e∧v=e.2) (fun i h=>h.get? I=some (itO (.int (sl i) 0) i S n ep)∧h.get? S=some (stO es ep t)) where
 sub:=fun b hb=>by simp at hb;simp [hb]
 frame:=fun _ _ _ st hk=>⟨hk I (by simp) _ st.1,hk S (by simp) _ st.2⟩
 item:=fun i s Q E hi st hQ=>by
  have hp:ord[i]?=some ord[i]:=List.getElem?_eq_getElem hi
  refine next_int st.1 st.2 hf hn (fun A Q E h=>hx i hi _ hp s A Q E st.2 h) fun h' e' b'=>?_
  exact hQ _ h' s.toks ⟨_,hp,rfl⟩ ⟨e',by rw [b'.2 S hS];exact st.2⟩ fun b o hb e=>by rw [b'.2 b fun z=>hb (by simp [z])];exact e
 done:=fun s Q E st hQ=>end_int hh st.1 st.2 hf hn (fun A Q E h=>hz s A Q E st.2 h) fun h' b'=>hQ h' s.toks fun b o hb e=>b' b o (fun z=>hb (by simp [z])) e
 self:=fun _ _ _ _ st hQ=>self_at st.1 hQ
end
end Ev
end
end
noncomputable section
noncomputable section
namespace Ev
open PySem PySem.Spec PySem.Calls PyProof.Rows L2
section
variable {prog:Program} {w:World} {A:Around} {E:Value→Shared→Prop} {s:Shared}
theorem next_text {S:Addr} {es:List (Int × Value)} {t:SetTable} {i sl ep:Nat} {Q:Option (Value × Nat)→Shared→Prop} (hS:s.heap.get? S=some (stO es ep t)) (hf:t.fits es.toArray.size=true) (hb:w.params.followText "set-order"=true)
  (h:Q (((pickOrder (w.params.setOrder S ep) es.toArray)[i]?).map fun e=>(e.2,sl)) s):wpAny (model prog w) A (setNext S sl i ep) Q E s:=by
 unfold setNext
 refine wpAny_bind (wpAny_setState_of hS rfl hf ?_)
 dsimp only
 unfold setsByText
 refine wpAny_bind (wpAny_bind (wpAny_askSetting (wpAny_pure ?_)))
 rw [if_pos (show (model prog w).w.params.followText "set-order"=true from hb),if_neg (by simp)]
 unfold setWalk
 refine wpAny_bind (wpAny_bind (wpAny_setState_of hS rfl hf ?_))
 dsimp only
 unfold setsByText
 refine wpAny_bind (wpAny_bind (wpAny_askSetting (wpAny_pure ?_)))
 rw [if_pos (show (model prog w).w.params.followText "set-order"=true from hb)]
 refine wpAny_bind (wpAny_askSetting (wpAny_pure ?_))
 exact wpAny_pure h
theorem next_table {S:Addr} {es:List (Int × Value)} {t:SetTable} {i sl ep:Nat} {Q:Option (Value × Nat)→Shared→Prop} (hS:s.heap.get? S=some (stO es ep t)) (hf:t.fits es.toArray.size=true) (hb:w.params.followText "set-order"=false) (hl:t.led=true) (hd:(!t.plain&&decide (es.toArray.size>1))=false) (hi:SetTable.below t.place sl=i)
  (h:Q (match es.toArray[i]?,t.place[i]? with | some (_,x),some j=>some (x,j+1) | _,_=>none) s):wpAny (model prog w) A (setNext S sl i ep) Q E s:=by
 unfold setNext
 refine wpAny_bind (wpAny_setState_of hS rfl hf ?_)
 dsimp only
 unfold setsByText
 refine wpAny_bind (wpAny_bind (wpAny_askSetting (wpAny_pure ?_)))
 rw [if_neg (show ¬ (model prog w).w.params.followText "set-order"=true from by rw [show (model prog w).w.params.followText "set-order"=false from hb];decide)]
 refine wpAny_ite_split (fun hab=>absurd (show (!t.plain&&decide (es.toArray.size>1))=true from hab) (by rw [hd];decide)) (fun _=>?_)
 refine wpAny_bind (show wpAny _ _ (if (!t.led&&!es.toArray.isEmpty)=true then unsupported _ else pure ()) _ _ _ from ?_)
 rw [if_neg (by rw [hl];simp)]
 refine wpAny_pure ?_
 rw [hi]
 exact wpAny_pure h
theorem walks_to {I:Addr} {fp wr:List Addr} {n n':Nat} {P P':Nat→Value→Prop} {St:Nat→Heap→Prop} (W:Walks prog w A I fp wr n P St) (hn:n=n') (h:∀ i v,P i v→P' i v):Walks prog w A I fp wr n' P' St:=by
 subst hn
 exact ⟨W.sub,W.frame,fun i s Q E hi st hQ=>W.item i s Q E hi st fun v h' tk hp=>hQ v h' tk (h i v hp),W.done,W.self⟩
end
end Ev
end
end
noncomputable section
noncomputable section
namespace Ev
open PySem PySem.Spec PyProof.Rows L2
theorem key_scan {k:Key} {v:Value} (h:keyIs k v=true):v.scannable=true:=by
 rcases keyIs_shape h with ⟨j,t,_,rfl⟩ | ⟨x,t,_,rfl⟩ | ⟨_,rfl⟩<;>rfl
theorem insX_list {α:Type} (l:List α) (p:Nat) (x:α):SetTable.insertAt l.toArray p x=(l.take p++x::l.drop p).toArray:=by
 unfold SetTable.insertAt
 apply Array.toList_inj.mp
 simp [List.take_of_length_le]
theorem insX_perm {α:Type} (l:List α) (p:Nat) (x:α):(l.take p++x::l.drop p).Perm (x::l):=by
 have:=List.perm_middle (a:=x) (l₁:=l.take p) (l₂:=l.drop p)
 rwa [List.take_append_drop] at this
theorem allX_le {P:List Nat} (h:P∈allP):P.length≤4:=by
 unfold allP at h
 exact of_decide_eq_true (List.mem_filter.mp h).2
section
variable {prog:Program} {w:World} {A:Around} {E:Value→Shared→Prop} {s:Shared}
abbrev hX (prog:Program) (w:World) (k:Key):Int:=(mixKind prog w).hash k
def entX (prog:Program) (w:World) (L:List (Key × Value)):List (Int × Value):=L.map fun e=>(hX prog w e.1,e.2)
structure SetX (prog:Program) (w:World) (g:Heap) (S:Addr) (L:List (Key × Value)) (ep:Nat) (t:SetTable) (P:List Nat):Prop where
 ob:g.get? S=some { cls:=.type "set",dict:=none,data:=.set (entX prog w L).toArray ep t }
 ok:TOk t P
 len:P.length=L.length
 led:t.led=false→w.params.followText "set-order"=true
 nd:(L.map (·.1)).Nodup
 ks:∀ e∈L,keyIs e.1 e.2=true
theorem fitsX {L:List (Key × Value)} {t:SetTable} {P:List Nat} (ok:TOk t P) (len:P.length=L.length):t.fits (entX prog w L).toArray.size=true:=by
 have h1:=allX_le ok.all
 unfold SetTable.fits SetTable.fill
 rw [ok.pl,ok.dum,ok.mask]
 simp [entX,len]
 omega
theorem add_x {S:Addr} {x:Value} {L:List (Key × Value)} {ep:Nat} {t:SetTable} {P:List Nat} {k:Key} {Q:Bool→Shared→Prop} (hS:SetX prog w s.heap S L ep t P) (hx:keyIs k x=true) (h3:k∉L.map (·.1)→L.length≤3)
  (q1:k∈L.map (·.1)→Q false s) (q2:k∉L.map (·.1)→∀ (p:Nat) (ep':Nat) (t':SetTable) (P':List Nat) (g:Heap),Heap.SameBut S s.heap g→SetX prog w g S (L.take p++(k,x)::L.drop p) ep' t' P'→Q true { s with heap:=g }) :
  wpAny (model prog w) A (setAddHashed S x (hX prog w k)) Q E s:=by
 have hf:=fitsX (prog:=prog) (w:=w) hS.ok hS.len
 have hel:ElemsOf (mixKind prog w) (entX prog w L).toArray.toList:=fun e he=>by
  obtain ⟨u,hu,rfl⟩:=omm (show e∈entX prog w L by simpa using he)
  exact ⟨⟨u.1,hS.ks u hu,rfl⟩,key_scan (hS.ks u hu)⟩
 have hL4:L.length≤4:=by rw [← hS.len];exact allX_le hS.ok.all
 unfold setAddHashed setAddHashedIn
 refine wpAny_holding (wpAny_bind (wpAny_setState_of hS.ob rfl hf ?_))
 dsimp only
 rw [byScan_of (knd:=mixKind prog w) (key_scan hx) (by rw [List.size_toArray,entX,List.length_map];unfold scanBound;omega) hel]
 simp only [↓reduceIte]
 unfold setAddByScan
 refine wpAny_bind ?_
 refine wpAny_bind (wpAny_rule ?_)
 refine wpAny_bind (wpAny_setScan_of (knd:=mixKind prog w) hx hS.ob rfl hf hel ?_)
 cases hr:List.findIdx? (fun e=>(mixKind prog w).is k e.2) (entX prog w L).toArray.toList with
 | some j =>
  dsimp only
  obtain ⟨hj,hpj,_⟩:=List.findIdx?_eq_some_iff_getElem.mp hr
  refine wpAny_pure (wpAny_pure (q1 ?_))
  obtain ⟨u,hu,e⟩:=omm (show (entX prog w L).toArray.toList[j]∈entX prog w L from by have:=List.getElem_mem hj;simpa using this)
  have e2:=KeyKind.is_eq_decide (knd:=mixKind prog w) (hS.ks u hu) k
  rw [← e] at hpj
  rw [e2] at hpj
  exact List.mem_map.mpr ⟨u,hu,(of_decide_eq_true hpj).symm⟩
 | none =>
  dsimp only
  have hk:k∉L.map (·.1):=fun z=>by
   obtain ⟨u,hu,e⟩:=omm z
   have:=List.findIdx?_eq_none_iff.mp hr (hX prog w u.1,u.2) (show (hX prog w u.1,u.2)∈entX prog w L from List.mem_map.mpr ⟨u,hu,rfl⟩)
   have e2:=KeyKind.is_eq_decide (knd:=mixKind prog w) (hS.ks u hu) k
   rw [show (mixKind prog w).is k u.2=false from this,e] at e2
   simp at e2
  obtain ⟨N,n1,n2,n3⟩:=first_free hS.ok.all (hX prog w k)
  have hm:10*SetTable.turns t.mask=220:=by rw [hS.ok.mask];rfl
  have hfs:t.freeSlot (hX prog w k)=some (ix (hX prog w k) N,false):=by
   unfold SetTable.freeSlot SetTable.probe
   rw [hm,prb_start hS.ok.mask,go_empty hS.ok (hashAt:=fun _=>hX prog w k+1) n2 N 0 220 (by omega) (by omega) fun m _ hm=>?_]
   ·rfl
   ·cases e:whereP P (ix (hX prog w k) m) with
    | some i=>exact ⟨i,rfl,by show hX prog w k+1≠hX prog w k;omega⟩
    | none=>exact absurd (n3 m hm) (where_no.mp e)
  have hp3:P.length≤3:=by rw [hS.len];exact h3 hk
  obtain ⟨b1,b2⟩:=put_at hS.ok.all (ix_lt (hX prog w k) N) n2 hp3
  have pm:=insX_perm L (SetTable.below P.toArray (ix (hX prog w k) N)) (k,x)
  have ed:(t.put (ix (hX prog w k) N)).1.dummies=#[]:=by
   show (if SetTable.has t.dummies _ then _ else t.dummies)=_
   rw [hS.ok.dum]
   rfl
  have ep':(t.put (ix (hX prog w k) N)).1.place=(P.take (SetTable.below P.toArray (ix (hX prog w k) N))++ix (hX prog w k) N::P.drop (SetTable.below P.toArray (ix (hX prog w k) N))).toArray:=by
   show SetTable.insertAt t.place (SetTable.below t.place _) _=_
   rw [hS.ok.pl,insX_list]
  have e2:(t.put (ix (hX prog w k) N)).2=SetTable.below P.toArray (ix (hX prog w k) N):=by
   show SetTable.below t.place _=_
   rw [hS.ok.pl]
  have eE:SetTable.insertAt (entX prog w L).toArray (t.put (ix (hX prog w k) N)).2 (hX prog w k,x)=(entX prog w (L.take (SetTable.below P.toArray (ix (hX prog w k) N))++(k,x)::L.drop (SetTable.below P.toArray (ix (hX prog w k) N)))).toArray:=by
   rw [e2,insX_list];simp [entX]
  have ok1:TOk (t.put (ix (hX prog w k) N)).1 (P.take (SetTable.below P.toArray (ix (hX prog w k) N))++ix (hX prog w k) N::P.drop (SetTable.below P.toArray (ix (hX prog w k) N))):=⟨hS.ok.mask,ed,ep',b2⟩
  have ln1:(P.take (SetTable.below P.toArray (ix (hX prog w k) N))++ix (hX prog w k) N::P.drop (SetTable.below P.toArray (ix (hX prog w k) N))).length=(L.take (SetTable.below P.toArray (ix (hX prog w k) N))++(k,x)::L.drop (SetTable.below P.toArray (ix (hX prog w k) N))).length:=by
   rw [(insX_perm P _ _).length_eq,pm.length_eq,List.length_cons,List.length_cons,hS.len]
  have hf1:=fitsX (prog:=prog) (w:=w) ok1 ln1
  have hlay:layNew t (entX prog w L).toArray (hX prog w k) x=((entX prog w (L.take (SetTable.below P.toArray (ix (hX prog w k) N))++(k,x)::L.drop (SetTable.below P.toArray (ix (hX prog w k) N)))).toArray,(t.put (ix (hX prog w k) N)).1,false,false):=by
   unfold layNew
   rw [hfs]
   show (SetTable.insertAt (entX prog w L).toArray (t.put (ix (hX prog w k) N)).2 (hX prog w k,x),(t.put (ix (hX prog w k) N)).1.orStandIn (SetTable.insertAt (entX prog w L).toArray (t.put (ix (hX prog w k) N)).2 (hX prog w k,x)).size,false,!(t.put (ix (hX prog w k) N)).1.fits (SetTable.insertAt (entX prog w L).toArray (t.put (ix (hX prog w k) N)).2 (hX prog w k,x)).size)=_
   rw [eE]
   unfold SetTable.orStandIn
   rw [hf1]
   rfl
  rw [hlay]
  dsimp only
  have fin:∀ tb:SetTable,tb.mask=7→tb.dummies=#[]→tb.place=(P.take (SetTable.below P.toArray (ix (hX prog w k) N))++ix (hX prog w k) N::P.drop (SetTable.below P.toArray (ix (hX prog w k) N))).toArray→tb.led=t.led →
    wpAny (model prog w) A (do
     storeSet S (entX prog w (L.take (SetTable.below P.toArray (ix (hX prog w k) N))++(k,x)::L.drop (SetTable.below P.toArray (ix (hX prog w k) N)))).toArray tb
     if (!false&&tb.tooFull)=true then do
         let (es,t,gave):=relayAll tb (entX prog w (L.take (SetTable.below P.toArray (ix (hX prog w k) N))++(k,x)::L.drop (SetTable.below P.toArray (ix (hX prog w k) N)))).toArray (SetTable.grown (entX prog w (L.take (SetTable.below P.toArray (ix (hX prog w k) N))++(k,x)::L.drop (SetTable.below P.toArray (ix (hX prog w k) N)))).toArray.size)
         (match gave with | true=>rule "set.scan.the-table-gave-way" | false=>pure ())
         storeSet S es t
         pure (some true)
      else pure (some true)) (fun r s'=>r=some true∧Q true s') E s:=by
   intro tb t1 t2 t3 t4
   have et:tb.tooFull=false:=by
    unfold SetTable.tooFull SetTable.fill
    rw [t1,t2,t3]
    have:=allX_le b2
    simp only [List.size_toArray,decide_eq_false_iff_not,List.length_nil]
    show ¬ (_≥7*3)
    omega
   have hz:(entX prog w (L.take (SetTable.below P.toArray (ix (hX prog w k) N))++(k,x)::L.drop (SetTable.below P.toArray (ix (hX prog w k) N)))).toArray.size≤sizeLine:=by
    have:=pm.length_eq
    have h4:=h3 hk
    rw [List.size_toArray,entX,List.length_map,this,sizeLine_eq,List.length_cons]
    omega
   refine wpAny_bind (wpAny_storeSet_of hS.ob rfl ?_ hz)
   rw [et,if_neg (by decide)]
   refine wpAny_pure ⟨rfl,?_⟩
   refine q2 hk (SetTable.below P.toArray (ix (hX prog w k) N)) (ep+1) tb _ _ (Heap.SameBut.update s.heap S (Obj.putSet _ tb)) ⟨Heap.get?_update_self (Obj.putSet _ tb) hS.ob rfl,⟨t1,t2,t3,b2⟩,ln1,fun z=>hS.led (by rw [← t4];exact z),?_,fun e he=>?_⟩
   ·refine (pm.map (·.1)).nodup_iff.mpr ?_
    rw [List.map_cons]
    exact List.nodup_cons.mpr ⟨hk,hS.nd⟩
   ·rcases omc (pm.mem_iff.mp he) with rfl | he
    ·exact hx
    ·exact hS.ks e he
  refine wpAny_bind (show wpAny _ _ (pure ()) _ _ _ from wpAny_pure ?_)
  split
  ·refine wpAny_bind ?_
   rw [hashByValue_scannable 8 (key_scan hx)]
   refine wpAny_pure ?_
   refine wpAny_mono (fin _ ?_ ?_ ?_ ?_) (fun r s' hr=>?_) (fun _ _ e=>e)
   ·split<;>exact hS.ok.mask
   ·split<;>exact ed
   ·split<;>exact ep'
   ·split<;>rfl
   ·obtain ⟨rfl,hq⟩:=hr
    exact wpAny_pure hq
  ·refine wpAny_bind (wpAny_pure ?_)
   refine wpAny_mono (fin _ ?_ ?_ ?_ ?_) (fun r s' hr=>?_) (fun _ _ e=>e)
   ·exact hS.ok.mask
   ·exact ed
   ·exact ep'
   ·rfl
   ·obtain ⟨rfl,hq⟩:=hr
    exact wpAny_pure hq
end
end Ev
end
end
noncomputable section
noncomputable section
namespace Ev
open PySem PySem.W PySem.Spec PySem.Calls PyProof.Rows L2
structure SetG (w:World) (g:Heap) (S:Addr) (es:List (Int × Value)) (ep:Nat) (t:SetTable) (P:List Nat):Prop where
 ob:g.get? S=some { cls:=.type "set",dict:=none,data:=.set es.toArray ep t }
 ok:TOk t P
 len:P.length=es.length
 led:t.led=false→w.params.followText "set-order"=true
theorem SetG.fits {w:World} {g:Heap} {S:Addr} {es:List (Int × Value)} {ep:Nat} {t:SetTable} {P:List Nat} (h:SetG w g S es ep t P):t.fits es.toArray.size=true:=by
 have h1:=allX_le h.ok.all
 unfold SetTable.fits SetTable.fill
 rw [h.ok.pl,h.ok.dum,h.ok.mask]
 have:=h.len
 simp [this]
 omega
theorem SetX.g {prog:Program} {w:World} {g:Heap} {S:Addr} {L:List (Key × Value)} {ep:Nat} {t:SetTable} {P:List Nat} (h:SetX prog w g S L ep t P):SetG w g S (entX prog w L) ep t P :=
 ⟨h.ob,h.ok,by rw [h.len,entX,List.length_map],h.led⟩
section
variable {prog:Program} {w:World} {A:Around} {E:Value→Shared→Prop} {s:Shared}
theorem setG_iter {S:Addr} {es:List (Int × Value)} {ep:Nat} {t:SetTable} {P:List Nat} {Q:Value→Shared→Prop} (hh:A.handled=none) (hS:SetG w s.heap S es ep t P)
  (q:∀ (I:Addr) (fp:List Addr) (g:Heap) (d:_) (ord:List (Int × Value)) (St:Nat→Heap→Prop),ord.Perm es→(∀ b o,s.heap.get? b=some o→g.get? b=some o)→s.heap.objs.size≤I→(∀ b∈fp,b=S∨s.heap.objs.size≤b∧b<g.objs.size)→Walks prog w A I fp [I] ord.length (fun i v=>∃ e,ord[i]?=some e∧v=e.2) St→St 0 g→Q (.ref I) { s with heap:=g,drawn:=d }) :
  wpAny (model prog w) A (pyIter (.ref S)) Q E s:=by
 have hT:s.TypeIs (.ref S) "set":=⟨_,hS.ob,rfl⟩
 have hlt:S<s.heap.objs.size:=Heap.lt_size hS.ob
 have hf:=hS.fits
 refine wpAny_pyIter_slot hT sl_iter (wpAny_call_entry sl_iter hT en_iter ?_ (ar_iter _))
 unfold Builtin.«frozenset.__iter__»
 refine wpAny_bind (show wpAny _ _ (pure S) _ _ _ from wpAny_pure ?_)
 unfold Builtin.Frozenset.sizeOf
 refine wpAny_bind (wpAny_bind (wpAny_setEntries_of hS.ob rfl hf (wpAny_pure ?_)))
 unfold setDrawn
 refine wpAny_bind (wpAny_bind (wpAny_setState_of hS.ob rfl hf ?_))
 dsimp only
 unfold setsByText
 refine wpAny_bind (wpAny_bind (wpAny_askSetting (wpAny_pure ?_)))
 refine wpAny_pure ?_
 have hz:es.toArray.size≤4:=by
  have:=allX_le hS.ok.all
  rw [List.size_toArray,← hS.len];exact this
 have hne:∀ g:Heap,s.heap.objs.size≤g.objs.size→S≠g.objs.size:=fun g h=>Nat.ne_of_lt (Nat.lt_of_lt_of_le hlt h)
 refine wpAny_ite_split (fun hab=>?_) (fun hab=>?_)
 ·refine wpAny_bind (draw_at _ (List.range es.toArray.size) s (by simp) fun ys d hp=>?_)
  have hyl:ys.length=es.length:=by rw [hp.length_eq,List.length_range,List.size_toArray]
  refine wpAny_bind (wpAny_newTuple ?_ (by rw [List.length_map,hyl,sizeLine_eq];rw [List.size_toArray] at hz;omega))
  refine wpAny_bind (wpAny_setEpoch_of (Heap.get?_push_of_some _ hS.ob) rfl hf ?_)
  refine wpAny_bind (wpAny_newObj_type (wpAny_pure ⟨_,rfl, "set_iterator",_,⟨_,Heap.get?_push_size _ rfl,rfl⟩,sl_next.lookup,?_⟩))
  have hD:s.heap.objs.size≠(s.heap.push (seqObj "tuple" (ys.map fun (i:Nat)=>rawInt i).toArray 0)).objs.size:=by rw [Heap.size_push];exact Nat.ne_of_lt (Nat.lt_succ_self _)
  have hI:s.heap.objs.size≤(s.heap.push (seqObj "tuple" (ys.map fun (i:Nat)=>rawInt i).toArray 0)).objs.size:=by rw [Heap.size_push];exact Nat.le_succ _
  have hy:∀ p∈ys,p<es.length:=fun p hp'=>by
   have:=List.mem_range.mp (hp.mem_iff.mp hp')
   simpa using this
  have W:=walk_drawn (prog:=prog) (w:=w) (A:=A) (I:=(s.heap.push (seqObj "tuple" (ys.map fun (i:Nat)=>rawInt i).toArray 0)).objs.size) (S:=S) (D:=s.heap.objs.size) (n:=es.toArray.size) (ep:=ep) (m:=0) (es:=es) (t:=t) (ys:=ys) (oD:=seqObj "tuple" (ys.map fun (i:Nat)=>rawInt i).toArray 0) hh (hne _ hI) hD rfl hf (by simp) hy
  refine q _ _ _ d (ys.map fun p=>es.getD p (0,.none)) _ ?_ (fun b o e=>Heap.get?_push_of_some _ (Heap.get?_push_of_some _ e)) hI (fun b hb=>?_) (walks_to W (by simp) fun i v hv=>?_) ⟨Heap.get?_push_size _ rfl,Heap.get?_push_of_some _ (Heap.get?_push_of_some _ hS.ob),Heap.get?_push_of_some _ (Heap.get?_push_size _ rfl)⟩
  ·have:=hp.map fun p=>es.getD p (0,Value.none)
   rw [List.size_toArray,← by_places] at this
   exact this
  ·rw [Heap.size_push,Heap.size_push]
   simp only [List.mem_cons,List.not_mem_nil,or_false] at hb
   rcases hb with rfl | rfl | rfl
   ·right;rw [Heap.size_push];exact ⟨Nat.le_succ _,Nat.lt_succ_self _⟩
   ·exact .inl rfl
   ·right;exact ⟨Nat.le_refl _,Nat.lt_succ_of_lt (Nat.lt_succ_self _)⟩
  ·obtain ⟨p,e,h1,h2,h3⟩:=hv
   exact ⟨e,by simp [h1,h2],h3⟩
 ·refine wpAny_bind (wpAny_pure ?_)
  refine wpAny_bind (wpAny_setEpoch_of hS.ob rfl hf ?_)
  refine wpAny_bind (wpAny_newObj_type (wpAny_pure ⟨_,rfl, "set_iterator",_,⟨_,Heap.get?_push_size _ rfl,rfl⟩,sl_next.lookup,?_⟩))
  have fpo:∀ o:Obj,∀ b∈[s.heap.objs.size,S],b=S∨s.heap.objs.size≤b∧b<(s.heap.push o).objs.size:=fun o b hb=>by
   simp only [List.mem_cons,List.not_mem_nil,or_false] at hb
   rcases hb with rfl | rfl
   ·right;rw [Heap.size_push];exact ⟨Nat.le_refl _,Nat.lt_succ_self _⟩
   ·exact .inl rfl
  cases hb:w.params.followText "set-order" with
  | true =>
   have W:=walk_int (prog:=prog) (w:=w) (A:=A) (I:=s.heap.objs.size) (S:=S) (n:=es.toArray.size) (ep:=ep) (es:=es) (ord:=(pickOrder (w.params.setOrder S ep) es.toArray).toList) (t:=t) (sl:=fun _=>0) hh (hne _ (Nat.le_refl _)) hf (by simp)
    (fun i hi e he s A Q E ho h=>next_text ho hf hb (by rw [← Array.getElem?_toList,he];exact h))
    (fun s A Q E ho h=>next_text ho hf hb (by rw [Array.length_toList,Array.getElem?_eq_none (Nat.le_refl _)];exact h))
   exact q _ _ _ s.drawn _ _ (by simpa using pick_perm (w.params.setOrder S ep) es.toArray) (fun b o e=>Heap.get?_push_of_some _ e) (Nat.le_refl _) (fpo _) W ⟨Heap.get?_push_size _ rfl,Heap.get?_push_of_some _ hS.ob⟩
  | false =>
   have hl:t.led=true:=by
    cases e:t.led with
    | true=>rfl
    | false=>rw [hS.led e] at hb;cases hb
   have hd:(!t.plain&&decide (es.toArray.size>1))=false:=by
    cases e:(!t.plain&&decide (es.toArray.size>1)) with
    | false=>rfl
    | true =>
     refine absurd ?_ hab
     show (!w.params.followText "set-order"&&(!t.plain&&decide (es.toArray.size>1)))=true
     rw [hb,e];rfl
   have hlen:P.length=es.length:=hS.len
   have W:=walk_int (prog:=prog) (w:=w) (A:=A) (I:=s.heap.objs.size) (S:=S) (n:=es.toArray.size) (ep:=ep) (es:=es) (ord:=es) (t:=t) (sl:=fun i=>if i=0 then 0 else P.getD (i-1) 0+1) hh (hne _ (Nat.le_refl _)) hf (by simp)
    (fun i hi e he s A Q E ho h=>next_table ho hf hb hl hd (by rw [hS.ok.pl];exact of_decide_eq_true (oml (oml next_fin P hS.ok.all) i (List.mem_range.mpr (by omega)))) (by
     rw [hS.ok.pl,List.getElem?_toArray,he,List.getElem?_toArray,List.getElem?_eq_getElem (by omega)]
     rw [if_neg (by omega),Nat.add_sub_cancel,List.getD_eq_getElem?_getD,List.getElem?_eq_getElem (by omega)] at h
     exact h))
    (fun s A Q E ho h=>next_table ho hf hb hl hd (by
     rw [hS.ok.pl,← hlen]
     exact of_decide_eq_true (oml last_fin P hS.ok.all)) (by
     rw [List.getElem?_toArray,List.getElem?_eq_none (Nat.le_refl _)];exact h))
   exact q _ _ _ s.drawn _ _ (.refl _) (fun b o e=>Heap.get?_push_of_some _ e) (Nat.le_refl _) (fpo _) W ⟨Heap.get?_push_size _ rfl,Heap.get?_push_of_some _ hS.ob⟩
end
section
variable {prog:Program} {w:World} {A:Around} {E:Value→Shared→Prop} {s:Shared}
theorem setG_extend {R:Result→Shared→Prop} {S Z:Addr} {es:List (Int × Value)} {ep:Nat} {t:SetTable} {P:List Nat} (hh:A.handled=none) (hS:SetG w s.heap S es ep t P) (hne:Z≠S) (res:Value) (c₀:Nat) (hZ:s.heap.get? Z=some { cls:=.type "list",data:=.seq #[] c₀ })
  (hR:∀ h' tk d (ord:List (Int × Value)) c',ord.Perm es→(∀ b o,b≠Z→s.heap.get? b=some o→h'.get? b=some o)→h'.get? Z=some { cls:=.type "list",dict:=none,data:=.seq (ord.map (·.2)).toArray c',slots:=#[] }→R (.ok (.ret res)) { s with heap:=h',toks:=tk,drawn:=d }) :
  wpAny (model prog w) A.in1 (Builtin.List.listExtendWith (.ref Z) (.ref S) res)
   (fun fin s'=>match fin with | .done f=>R (.ok f) s' | .again c'=>c'.quiet=true∧codeAny (model prog w) A c' R s') (fun e s'=>R (.error e) s') s:=by
 have hZl:Z<s.heap.objs.size:=Heap.lt_size hZ
 have hT:s.TypeIs (.ref S) "set":=⟨_,hS.ob,rfl⟩
 unfold Builtin.List.listExtendWith
 refine wpAny_bind (wpAny_typeOf (T:="set") hT ?_)
 have h1:Builtin.List.listSameRef (.ref Z) (.ref S)=false:=by simp [Builtin.List.listSameRef,hne]
 have k1:(Value.type "set"==Value.type "list")=false:=by decide
 have k2:(Value.type "set"==Value.type "tuple")=false:=by decide
 simp only [h1,k1,k2,Bool.or_false,Bool.false_eq_true,if_false]
 refine wpAny_bind (setG_iter (A:=A.in1) hh hS fun I fp g d ord St hp hk hI hfp W st=>?_)
 have hZf:Z∉fp:=fun z=>(hfp Z z).elim hne fun z=>absurd hZl (Nat.not_lt.mpr z.1)
 have hol:ord.length≤sizeLine:=by
  have:=allX_le hS.ok.all
  rw [hp.length_eq,← hS.len,sizeLine_eq];omega
 have key:∀ (h:Heap) (c₁ tk:Nat),St 0 h→(∀ b o,b≠Z→s.heap.get? b=some o→h.get? b=some o) →
   h.get? Z=some { cls:=.type "list",data:=.seq #[] c₁ }→codeAny (model prog w) A (.builtin "list.extend.loop" ⟨[.ref Z,.ref I,res],[]⟩) R { s with heap:=h,toks:=tk,drawn:=d }:=by
  intro h c₁ tk hst hk' hZ₁
  refine codeAny_extend_loopS W.toS hol Z hZf res ord.length 0 _ #[] c₁ rfl (Nat.zero_le _) hst hZ₁ (ItemsOf.nil _) fun s' acc' c' hm hZ' hacc=>?_
  rw [Moved.eq_with hm]
  have ea:acc'=(ord.map (·.2)).toArray:=by
   apply Array.toList_inj.mp
   apply List.ext_getElem?
   intro i
   by_cases hi:i<ord.length
   ·have hi':i<acc'.size:=by rw [hacc.1];exact hi
    obtain ⟨e,he,hv⟩:=hacc.2 i acc'[i] (by simp [hi'])
    rw [Array.getElem?_toList,Array.getElem?_eq_getElem hi',hv]
    simp [he]
   ·rw [List.getElem?_eq_none (by rw [Array.length_toList,hacc.1];omega),List.getElem?_eq_none (by simp;omega)]
  subst ea
  refine hR s'.heap s'.toks d ord c' hp (fun b o hb e=>hm.heap b o (fun hmem=>?_) (hk' b o hb e)) hZ'
  rcases omc hmem with e' | hmem
  ·exact hb e'
  ·exact absurd (Heap.lt_size e) (by rw [omg hmem];exact Nat.not_lt.mpr hI)
 have hT₁:Shared.TypeIs { s with heap:=g,drawn:=d } (.ref S) "set":=⟨_,hk _ _ hS.ob,rfl⟩
 have hZ₁:=hk _ _ hZ
 refine wpAny_bind (wpAny_holding (hint_set hT₁ ?_))
 refine wpAny_ite_split (fun _=>?_) (fun _=>wpAny_pure ⟨plainId_quiet PySem.F.plain_extend_loop _,key _ c₀ _ st (fun b o _ e=>hk b o e) hZ₁⟩)
 refine wpAny_bind (wpAny_rule ?_)
 refine wpAny_bind ?_
 show wpAny _ _ (updateSeq Z (·.push .none) >>= fun _=>updateSeq Z (·.pop)) _ _ _
 refine wpAny_bind (wpAny_updateSeq hZ₁ rfl ?_)
 have hS₂:=Heap.get?_update_self (Obj.mapSeq (·.push Value.none)) hZ₁ rfl
 refine wpAny_updateSeq (hz:=by seq_fits) hS₂ rfl ?_
 have hS₃:=Heap.get?_update_self (Obj.mapSeq (·.pop)) hS₂ rfl
 refine wpAny_pure ⟨plainId_quiet PySem.F.plain_extend_loop _,key _ _ _ ?_ (fun b o hb e=>?_) hS₃⟩
 ·refine W.frame 0 _ _ st fun b hb o e=>?_
  have hbS:b≠Z:=fun h=>hZf (h▸hb)
  exact (Heap.get?_update_other _ _ (Ne.symm hbS)).trans ((Heap.get?_update_other _ _ (Ne.symm hbS)).trans e)
 ·exact (Heap.get?_update_other _ _ (Ne.symm hb)).trans ((Heap.get?_update_other _ _ (Ne.symm hb)).trans (hk b o e))
theorem setG_collect {R:List Value→Shared→Prop} {S:Addr} {es:List (Int × Value)} {ep:Nat} {t:SetTable} {P:List Nat} (hh:A.handled=none) (hS:SetG w s.heap S es ep t P)
  (h:∀ (h':Heap) (tk:Nat) (d:_) (ord:List (Int × Value)),ord.Perm es→(∀ b o,s.heap.get? b=some o→h'.get? b=some o)→R (ord.map (·.2)) { s with heap:=h',toks:=tk,drawn:=d }) :
  wpAny (model prog w) A (collect (.ref S)) R E s:=by
 have hlt:S<s.heap.objs.size:=Heap.lt_size hS.ob
 unfold collect
 refine wpAny_bind (wpAny_runValue (codeAny_builtin entry_proto_collect' ?_))
 rw [Around.under_plainId PySem.F.plain_proto_collect _]
 show wpAny _ A.in1 (newList [] >>= fun l=>again (.builtin "list.__iadd__" ⟨[l,.ref S],[]⟩)) _ _ s
 refine wpAny_bind (wpAny_newObj_type ?_)
 refine wpAny_pure ⟨plainId_quiet PySem.F.plain_list_iadd _,codeAny_builtin entry_list_iadd' ?_⟩
 rw [Around.under_plainId PySem.F.plain_list_iadd _]
 have hS₁:(s.heap.push { cls:=.type "list",data:=.seq ([]:List Value).toArray }).get? s.heap.objs.size=some { cls:=.type "list",data:=.seq #[] }:=Heap.get?_push_size _ rfl
 show wpAny _ A.in1 (Builtin.List.listExtendWith (.ref s.heap.objs.size) (.ref S) (.ref s.heap.objs.size)) _ _ _
 have hS':SetG w (s.heap.push { cls:=.type "list",data:=.seq ([]:List Value).toArray }) S es ep t P :=
  ⟨Heap.get?_push_of_some _ hS.ob,hS.ok,hS.len,hS.led⟩
 have key:=setG_extend (prog:=prog) (A:=A) (s:={ s with heap:=s.heap.push { cls:=.type "list",data:=.seq ([]:List Value).toArray } })
  (R:=fun (q:Result) (s':Shared)=>∃ (h':Heap) (tk:Nat) (d:_) (ord:List (Int × Value)) (c':Nat),q=.ok (.ret (.ref s.heap.objs.size))∧s'={ s with heap:=h',toks:=tk,drawn:=d }∧ord.Perm es ∧
   (∀ b o,s.heap.get? b=some o→h'.get? b=some o)∧h'.get? s.heap.objs.size=some { cls:=.type "list",dict:=none,data:=.seq (ord.map (·.2)).toArray c',slots:=#[] })
  hh hS' (Nat.ne_of_gt hlt) (.ref s.heap.objs.size) 0 hS₁
  (fun h' tk d ord c' hp hk hS'=>⟨h',tk,d,ord,c',rfl,rfl,hp,fun b o e=>hk b o (Nat.ne_of_lt (Heap.lt_size e)) (Heap.get?_push_of_some _ e),hS'⟩)
 refine wpAny_mono key (fun fin s' x=>?_) fun e s' x=>?_
 ·cases fin with
  | done f =>
   obtain ⟨h',tk,d,ord,c',e,rfl,hp,hk,hS'⟩:=x
   cases e
   show wpAny _ A (load s.heap.objs.size >>= _) _ _ _
   refine wpAny_bind (wpAny_load hS' ?_)
   exact wpAny_pure (h h' tk d ord hp hk)
  | again c₁ =>
   refine ⟨x.1,codeAny_mono x.2 fun q s₂ y=>?_⟩
   obtain ⟨h',tk,d,ord,c',rfl,rfl,hp,hk,hS'⟩:=y
   show wpAny _ A (load s.heap.objs.size >>= _) _ _ _
   refine wpAny_bind (wpAny_load hS' ?_)
   exact wpAny_pure (h h' tk d ord hp hk)
 ·obtain ⟨_,_,_,_,_,e',_⟩:=x
  cases e'
end
end Ev
end
end
noncomputable section
noncomputable section
namespace Ev
open PySem PySem.Spec PyProof.Rows L2
theorem lenX_three {L:List (Key × Value)} {k:Key} {D:List Key} (nd:(L.map (·.1)).Nodup) (hm:k∉L.map (·.1)) (h1:∀ x∈L.map (·.1),x∈D) (h2:k∈D) (h4:D.length≤4):L.length≤3:=by
 have:=sub_len (l:=k::L.map (·.1)) (D:=D) (List.nodup_cons.mpr ⟨hm,nd⟩) fun x hx=>(omc hx).elim (fun e=>by rw [e];exact h2) (h1 x)
 rw [List.length_cons,List.length_map] at this;omega
section
variable {prog:Program} {w:World} {A:Around} {R:Result→Shared→Prop} {I:Addr} {fp wr:List Addr} {G:Array GenState→Array GenState→Prop} {P:Nat→Value→Prop} {St:Nat→Shared→Prop}
theorem set_loopX {ks:List Key} (W:WalksS prog w A.in1 I fp wr G ks.length P St) (S:Addr) (hf:S∉fp) (hv:∀ (i:Nat) (h:i<ks.length) v,P i v→keyIs ks[i] v=true) {D:List Key} (hD:∀ x∈ks,x∈D) (h4:D.length≤4) :
  ∀ (k i:Nat) (s:Shared),ks.length-i=k→i≤ks.length→St i s→(∃ L ep t P,SetX prog w s.heap S L ep t P∧∀ x,x∈L.map (·.1)↔x∈ks.take i) →
   (∀ s',Moved (S::wr) G s s'→(∃ L ep t P,SetX prog w s'.heap S L ep t P∧∀ x,x∈L.map (·.1)↔x∈ks)→R (.ok (.ret .none)) s')→codeAny (model prog w) A (.builtin "set.update.loop" ⟨[.ref S,.ref I],[]⟩) R s:=by
 have hw:S∉wr:=fun z=>hf (W.sub _ z)
 have hsu:∀ c∈wr,c∈S::wr:=fun c hc=>List.mem_cons_of_mem _ hc
 intro k
 induction k with
 | zero =>
  intro i s e1 e2 st y r
  have e3:i=ks.length:=by omega
  subst e3
  rw [List.take_length] at y
  refine codeAny_builtin F.entry_set_update_loop (show wpAny _ _ _ _ _ _ from ?_)
  rw [Around.under_plainId F.plain_set_update_loop _]
  show wpAny _ A.in1 (pyNext (.ref I) >>= _) _ _ s
  refine wpAny_bind (W.done s _ _ st fun s1 mv=>(show wpAny _ A.in1 (ret Value.none) _ _ s1 from wpAny_pure (r s1 (mv.mono hsu) ?_)))
  obtain ⟨L,ep,t,P',y,ym⟩:=y
  exact ⟨L,ep,t,P',⟨mv.heap S _ hw y.ob,y.ok,y.len,y.led,y.nd,y.ks⟩,ym⟩
 | succ k ih =>
  intro i s e1 e2 st y r
  have lt:i<ks.length:=by omega
  refine codeAny_builtin F.entry_set_update_loop (show wpAny _ _ _ _ _ _ from ?_)
  rw [Around.under_plainId F.plain_set_update_loop _]
  show wpAny _ A.in1 (pyNext (.ref I) >>= _) _ _ s
  refine wpAny_bind (W.item i s _ _ lt st fun v s1 hP st1 mv=>?_)
  have hk:=hv i lt v hP
  obtain ⟨L,ep,t,P',y,ym⟩:=y
  have y1:SetX prog w s1.heap S L ep t P':=⟨mv.heap S _ hw y.ob,y.ok,y.len,y.led,y.nd,y.ks⟩
  show wpAny _ A.in1 (holding [v] (setAdd S v) >>= _) _ _ s1
  refine wpAny_bind (wpAny_holding (show wpAny _ _ (setAdd S v) _ _ _ from ?_))
  unfold setAdd
  refine wpAny_holding (wpAny_bind ((mixKind prog w).pyHash (k:=ks[i]) hk ?_))
  have tk:ks.take (i+1)=ks.take i++[ks[i]]:=by rw [List.take_succ,List.getElem?_eq_getElem lt];rfl
  refine add_x (s:={ s1 with toks:=s1.toks+1 }) y1 hk (fun hm=>lenX_three y1.nd hm (fun x hx=>hD x (List.mem_of_mem_take ((ym x).mp hx))) (hD _ (List.getElem_mem lt)) h4) (fun hm=>?_) (fun hm p ep' t' P2 g sb y2=>?_)
  ·refine wpAny_pure ⟨plainId_quiet F.plain_set_update_loop _,ih (i+1) _ (by omega) lt (W.frame _ s1 _ _ st1 (Nat.le_add_right _ _) fun c hc o e=>e) ⟨L,ep,t,P',y1,fun x=>?_⟩ fun s2 mv2 y4=>?_⟩
   ·rw [tk,List.mem_append,List.mem_singleton,ym x]
    exact ⟨.inl,fun z=>z.elim id fun z=>by rw [z];exact (ym _).mp hm⟩
   ·exact r s2 (Moved.trans W.gtrans ((mv.mono hsu).then_heap (Nat.le_add_right _ _) fun c o hc e=>e) mv2) y4
  ·have pm:=insX_perm L p (ks[i],v)
   refine wpAny_pure ⟨plainId_quiet F.plain_set_update_loop _,ih (i+1) _ (by omega) lt (W.frame _ s1 _ _ st1 (Nat.le_add_right _ _) fun c hc o e=>?_) ⟨_,ep',t',P2,y2,fun x=>?_⟩ fun s2 mv2 y4=>?_⟩
   ·rw [sb.2 c fun z:c=S=>hf (by rw [← z];exact hc)];exact e
   ·rw [(pm.map (·.1)).mem_iff,List.map_cons,List.mem_cons,tk,List.mem_append,List.mem_singleton,ym x]
    exact Or.comm
   ·refine r s2 (Moved.trans W.gtrans ((mv.mono hsu).then_heap (Nat.le_add_right _ _) fun c o hc e=>?_) mv2) y4
    rw [sb.2 c fun z:c=S=>hc (by rw [z];exact List.mem_cons_self)];exact e
end
section
variable {prog:Program} {w:World} {A:Around} {E:Value→Shared→Prop} {s:Shared}
theorem call_setX {l:Addr} {its:Array Value} {ks:List Key} {Q:Value→Shared→Prop} (hh:A.handled=none) (hl:s.heap.IsList l its) (hn:its.size=ks.length) (hv:∀ (i:Nat) (h:i<ks.length) v,its[i]?=some v→keyIs ks[i] v=true) {D:List Key} (hD:∀ x∈ks,x∈D) (h4:D.length≤4)
  (q:∀ (g:Heap) (tk:Nat),(∃ L ep t P,SetX prog w g s.heap.objs.size L ep t P∧∀ x,x∈L.map (·.1)↔x∈ks)→(∀ b o,b<s.heap.objs.size→s.heap.get? b=some o→g.get? b=some o)→Q (.ref s.heap.objs.size) { s with heap:=g,toks:=tk }) :
  wpAny (model prog w) A (call (.type "set") [.ref l]) Q E s:=by
 obtain ⟨c,tl,hmro⟩:=F.called_set.mro
 have k1:=F.called_set.made
 have k2:=F.called_set.sub
 refine wpAny_call (codeAny_of_tree (show wpAny _ _ (callAny (.type "set") _) _ _ _ from ?_))
 refine wpAny_pure ⟨Code.quiet_builtin _ (by decide +kernel),codeAny_builtin F.entry_type_call (show wpAny _ _ _ _ _ _ from ?_)⟩
 rw [Around.under_plain (weight_type_call_type "set" [.ref l] []) rfl]
 have k3:=F.called_set.notType
 have k4:=F.called_set.canCreate
 have k5:=F.typeCall_set_1 (.ref l)
 repeat (any_goals (first | wp_step | assumption))
 refine codeAny_mono (code_set_newB (.ref l) (E:=E) (Q₁:=fun ob s1=>∃ b:Bool,(b=false→w.params.followText "set-order"=true)∧ob=.ref s.heap.objs.size∧s1={ s with heap:=s.heap.push (setO b) }) fun b hb=>⟨b,hb,rfl,rfl⟩) fun r s1 hr=>?_
 cases r with
 | error e=>exact hr
 | ok fl =>
  cases fl with
  | ret ob =>
   obtain ⟨b,hb,rfl,rfl⟩:=hr
   have hS:(s.heap.push (setO b)).get? s.heap.objs.size=some (setO b):=Heap.get?_push_size _ rfl
   have hT:Shared.TypeIs { s with heap:=s.heap.push (setO b) } (.ref s.heap.objs.size) "set":=⟨_,hS,rfl⟩
   have k6:=F.called_set.init.lookup
   have k7:=F.called_set.init.bind (.ref s.heap.objs.size)
   repeat (any_goals (first | wp_step | assumption))
   refine codeAny_mono (codeAny_call_builtin (R:=wants (fun r s2=>r=.none∧∃ g tk,s2={ s with heap:=g,toks:=tk }∧(∃ L ep t P,SetX prog w g s.heap.objs.size L ep t P∧∀ x,x∈L.map (·.1)↔x∈ks) ∧
     (∀ b o,b<s.heap.objs.size→s.heap.get? b=some o→g.get? b=some o)) E) F.called_set.init.plain F.entry_set_init (check_set_init_1 hT ?_)) fun r2 s2 hr2=>?_
   ·obtain ⟨ol,hol,hcl,nl,hdl⟩:=hl
    obtain ⟨oc,od,odt,osl⟩:=ol
    simp only at hcl hdl
    subst hcl
    subst hdl
    have ho2:(s.heap.push (setO b)).get? l=some { cls:=.type "list",dict:=od,data:=.seq its nl,slots:=osl }:=Heap.get?_push_of_some _ hol
    have k8:=F.sub_list_set
    have k9:=F.sub_list_frozenset
    have k10:(Value.type "list"==Value.type "dict")=false:=by decide
    have hl1:(s.heap.push (setO b)).IsList l its:=⟨_,ho2,rfl,nl,rfl⟩
    unfold Builtin.«set.__init__» noKeywords Builtin.Frozenset.updateFrom
    generalize hPI:pyIter=PI
    wp_walk
    subst hPI
    refine wpAny_pyIter_list hl1 (wpAny_bind (wpAny_runValue (show codeAny _ _ _ _ _ from ?_)))
    have ll:l<s.heap.objs.size:=Heap.lt_size hol
    have h3:A.in1.in1.in1.handled=none:=by simp [hh]
    have ne:l≠(s.heap.push (setO b)).objs.size:=by rw [Heap.size_push];exact Nat.ne_of_lt (Nat.lt_succ_of_lt ll)
    have nf:s.heap.objs.size∉[(s.heap.push (setO b)).objs.size,l]:=by
     rw [Heap.size_push]
     simp only [List.mem_cons,List.not_mem_nil,or_false,not_or]
     exact ⟨Nat.ne_of_lt (Nat.lt_succ_self _),Nat.ne_of_gt ll⟩
    have W:=(Walks.list (prog:=prog) (w:=w) h3 (s.heap.push (setO b)).objs.size l ne its).toS
    rw [hn] at W
    refine set_loopX (ks:=ks) W s.heap.objs.size nf hv hD h4 (ks.length-0) 0 _ (by omega) (Nat.zero_le _) ⟨⟨_,Heap.get?_push_size _ rfl,rfl,rfl⟩,let ⟨o,e,r⟩:=hl1;⟨o,Heap.get?_push_of_some _ e,r⟩⟩ ?zA ?zB
    case zA =>
     have hg:((s.heap.push (setO b)).push { cls:=.type "list_iterator",data:=.fields #[.ref l,.int 0 0] }).get? s.heap.objs.size=some (setO b):=Heap.get?_push_of_some _ hS
     exact ⟨[],0,_,[],⟨hg,⟨rfl,rfl,rfl,by decide +kernel⟩,rfl,hb,by simp,fun e he=>(nomatch he)⟩,fun x=>by simp⟩
    case zB =>
     intro s3 mv y
     obtain ⟨g3,gs3,d3,tk3,os3⟩:=s3
     have eg:gs3=s.gens:=mv.gens
     have ed:d3=s.drawn:=mv.drawn
     have eo:os3=s.os:=mv.os
     subst eg
     subst ed
     subst eo
     refine (show wpAny _ _ _ _ _ _ from wpAny_pure (show wpAny _ _ (ret Value.none) _ _ _ from wpAny_pure ⟨rfl,g3,tk3,rfl,y,fun c o hc e=>?_⟩))
     have n1:c≠s.heap.objs.size:=Nat.ne_of_lt hc
     have n2:c≠(s.heap.push (setO b)).objs.size:=by rw [Heap.size_push];exact Nat.ne_of_lt (Nat.lt_succ_of_lt hc)
     exact mv.heap c o (by simp only [List.mem_cons,List.not_mem_nil,or_false,not_or];exact ⟨n1,n2⟩) (Heap.get?_push_of_some _ (Heap.get?_push_of_some _ e))
   ·cases r2 with
    | error e=>exact hr2
    | ok fl2 =>
     cases fl2 with
     | ret r =>
      obtain ⟨rfl,g,tk,rfl,y,k⟩:=hr2
      repeat (any_goals (first | wp_step | assumption))
      exact q _ _ y k
     | _=>exact hr2.elim
  | _=>exact hr.elim
end
end Ev
end
end
noncomputable section
noncomputable section
namespace Ev
open PySem PySem.W PySem.Spec PyProof.Rows L2
def RawD (g:Heap) (d:Addr) (en:Array DictEntry) (ep:Nat):Prop:=∃ o,g.get? d=some o∧o.ExactDict∧o.data=.dict en ep
section
variable {prog:Program} {w:World} {A:Around} {E:Value→Shared→Prop} {s:Shared} {d j:Addr} {en:Array DictEntry} {ep i:Nat}
theorem RawD.ty (r:RawD s.heap d en ep):s.TypeIs (.ref d) "dict":=let ⟨o,a,b,_⟩:=r;⟨o,a,b.1⟩
theorem RawD.to {g g':Heap} (r:RawD g d en ep) (k:∀ o,g.get? d=some o→g'.get? d=some o):RawD g' d en ep:=let ⟨o,a,b⟩:=r;⟨o,k o a,b⟩
theorem raw_iter {Q:Value→Shared→Prop} (hm:(d==sysModules)=false) (r:RawD s.heap d en ep)
  (q:Q (.ref s.heap.objs.size) { s with heap:=s.heap.push { cls:=.type "dict_keyiterator",data:=.fields #[.ref d,.int 0 0,.int en.size 0,.int ep 0] } }):wpAny (model prog w) A (pyIter (.ref d)) Q E s:=by
 obtain ⟨o,a,b,c⟩:=id r
 refine wpAny_pyIter_slot r.ty PySem.F.slot_dict_iter (wpAny_call_entry PySem.F.slot_dict_iter r.ty PySem.F.entry_dict_iter ?_ (PySem.F.args_dict_iter_1 _))
 unfold Builtin.«dict.__iter__»
 refine wpAny_bind ?_
 unfold Builtin.Dict.dictSlotNone
 refine wpAny_bind (wpAny_notOrdered_dict r.ty ?_)
 show wpAny _ _ (pure (Value.ref d)) _ _ s
 refine wpAny_pure (show wpAny _ _ (Builtin.Dict.showsAll d >>= _) _ _ s from ?_)
 unfold Builtin.Dict.showsAll
 rw [if_neg (by rw [hm];exact Bool.false_ne_true)]
 refine wpAny_bind (wpAny_pure (wpAny_bind (wpAny_dictEntries a c (wpAny_bind (wpAny_dictEpoch a c ?_)))))
 refine wpAny_bind (wpAny_newObj_type (wpAny_pure ⟨_,rfl, "dict_keyiterator",_,⟨_,Heap.get?_push_size _ rfl,rfl⟩,PySem.F.slot_dict_keyiterator_next.lookup,?_⟩))
 simpa [rawInt] using q
theorem raw_next {Q:Option Value→Shared→Prop} (t:s.heap.IsKeyIter j d i en.size ep) (r:RawD s.heap d en ep) (hi:i<en.size)
  (q:∀ g,g.IsKeyIter j d (i+1) en.size ep→Heap.SameBut j s.heap g→Q (some en[i].key) { s with heap:=g }):wpAny (model prog w) A (pyNext (.ref j)) Q E s:=by
 obtain ⟨o,a,b,c⟩:=id t
 obtain ⟨od,ad,bd,cd⟩:=id r
 unfold pyNext
 refine wpAny_bind (wpAny_attempt (wpAny_callSpecial?_slot (name:=Str.ofString "__next__") t.typeIs PySem.F.slot_dict_keyiterator_next (wpAny_call_entry PySem.F.slot_dict_keyiterator_next t.typeIs PySem.F.entry_dict_keyiterator_next ?_ (PySem.F.args_dict_keyiterator_next_1 _))))
 refine wpAny_bind (wpAny_pure (wpAny_bind (wpAny_bind ?_)))
 first | refine wpAny_bind (wpAny_typeNameOfWhole_keyiter t.typeIs (wpAny_pure (wpAny_bind (wpAny_fieldsOf a c ?_)))) | refine wpAny_bind (wpAny_typeNameOf_keyiter t.typeIs (wpAny_pure (wpAny_bind (wpAny_fieldsOf a c ?_))))
 simp only [show Builtin.Dict_items.ownsTuple "dict_keyiterator"=false by decide,Bool.false_eq_true,if_false]
 refine (show wpAny _ _ (if (Value.ref d==Value.none)=true then _ else _) _ _ s from ?_)
 rw [if_neg (show ¬ ((Value.ref d==Value.none)=true) from Bool.false_ne_true)]
 refine wpAny_bind (wpAny_pure (wpAny_bind (wpAny_dictEntries ad cd ?_)))
 rw [if_neg (by simp)]
 refine wpAny_bind (wpAny_pure (wpAny_bind (wpAny_dictEpoch ad cd ?_)))
 rw [if_neg (by simp)]
 refine wpAny_pure ?_
 simp only [show ¬ ((i:Int)<0) from by omega,if_false,Int.toNat_natCast,Array.getElem?_eq_getElem hi]
 refine wpAny_bind ?_
 first | refine wpAny_bind (wpAny_typeNameOfWhole_keyiter t.typeIs (wpAny_pure (wpAny_bind (wpAny_isOneOf_keyiter t.typeIs ?_)))) | refine wpAny_bind (wpAny_typeNameOf_keyiter t.typeIs (wpAny_pure (wpAny_bind (wpAny_isOneOf_keyiter t.typeIs ?_))))
 refine (show wpAny _ _ (setField (.ref j) 1 (rawInt ((i:Int)+1)) >>= _) _ _ s from wpAny_bind (wpAny_setField a c (by simp) ?_))
 have t':(s.heap.update j (Obj.mapFields (·.setIfInBounds 1 (rawInt ((i:Int)+1))))).IsKeyIter j d (i+1) en.size ep :=
  ⟨_,Heap.get?_update_self _ a (Obj.isFreed_of_fields (Obj.data_mapFields c _)),(Obj.cls_mapFields ..).trans b,by rw [Obj.data_mapFields c];simp [rawInt]⟩
 refine wpAny_bind (wpAny_holding (wpAny_bind (wpAny_isOneOf_keyiter (s:={ s with heap:=s.heap.update j (Obj.mapFields (·.setIfInBounds 1 (rawInt ((i:Int)+1)))) }) t'.typeIs ?_)))
 show wpAny _ _ (pure en[i].key) _ _ _
 exact wpAny_pure (wpAny_pure ⟨_,rfl,wpAny_pure (q _ t' (Heap.SameBut.update ..))⟩)
theorem raw_end {Q:Option Value→Shared→Prop} (hh:A.handled=none) (t:s.heap.IsKeyIter j d en.size en.size ep) (r:RawD s.heap d en ep) (q:∀ g,Heap.ExtBut j s.heap g→Q none { s with heap:=g }):wpAny (model prog w) A (pyNext (.ref j)) Q E s:=by
 obtain ⟨o,a,b,c⟩:=id t
 obtain ⟨od,ad,bd,cd⟩:=id r
 unfold pyNext
 refine wpAny_bind (wpAny_attempt (wpAny_callSpecial?_slot (name:=Str.ofString "__next__") t.typeIs PySem.F.slot_dict_keyiterator_next (wpAny_call_entry PySem.F.slot_dict_keyiterator_next t.typeIs PySem.F.entry_dict_keyiterator_next ?_ (PySem.F.args_dict_keyiterator_next_1 _))))
 refine wpAny_bind (wpAny_pure (wpAny_bind (wpAny_bind ?_)))
 first | refine wpAny_bind (wpAny_typeNameOfWhole_keyiter t.typeIs (wpAny_pure (wpAny_bind (wpAny_fieldsOf a c ?_)))) | refine wpAny_bind (wpAny_typeNameOf_keyiter t.typeIs (wpAny_pure (wpAny_bind (wpAny_fieldsOf a c ?_))))
 simp only [show Builtin.Dict_items.ownsTuple "dict_keyiterator"=false by decide,Bool.false_eq_true,if_false]
 refine (show wpAny _ _ (if (Value.ref d==Value.none)=true then _ else _) _ _ s from ?_)
 rw [if_neg (show ¬ ((Value.ref d==Value.none)=true) from Bool.false_ne_true)]
 refine wpAny_bind (wpAny_pure (wpAny_bind (wpAny_dictEntries ad cd ?_)))
 rw [if_neg (by simp)]
 refine wpAny_bind (wpAny_pure (wpAny_bind (wpAny_dictEpoch ad cd ?_)))
 rw [if_neg (by simp)]
 refine wpAny_pure ?_
 simp only [show ¬ ((en.size:Int)<0) from by omega,if_false,Int.toNat_natCast,Array.getElem?_eq_none (Nat.le_refl en.size)]
 refine wpAny_bind ?_
 first | refine wpAny_bind (wpAny_typeNameOfWhole_keyiter t.typeIs (wpAny_pure ?_)) | refine wpAny_bind (wpAny_typeNameOf_keyiter t.typeIs (wpAny_pure ?_))
 refine (show wpAny _ _ (setField (.ref j) 0 .none >>= _) _ _ s from wpAny_bind (wpAny_setField a c (by simp) ?_))
 refine (show wpAny _ _ (newExc (.type "StopIteration") [] >>= _) _ _ _ from wpAny_bind ?_)
 simp only [newExc,newTuple]
 refine wpAny_bind (wpAny_newObj_type ?_ (by size_fits))
 refine wpAny_bind (m:=firstArgMember _ _) (wpAny_of_eq (a:=Value.none) (by first | rfl | (simp only [firstArgMember];rfl)) (wpAny_newObj_type ?_ (by size_fits)))
 simp only [raiseNew]
 refine wpAny_bind (wpAny_handled ?_)
 rw [show A.in1.handled=none from hh]
 refine wpAny_bind (wpAny_pure (wpAny_throw ?_))
 exact wpAny_bind (wpAny_isInstance (T:="StopIteration") (b:=true) ⟨_,Heap.get?_push_size _ rfl,rfl⟩ isSubtype_stop (wpAny_pure (q _ (((Heap.SameBut.update ..).extBut.push _).push _))))
theorem raw_walks (hh:A.handled=none) (j d:Addr) (hne:d≠j) (en:Array DictEntry) (ep:Nat) :
  Walks prog w A j [j,d] [j] en.size (fun i v=>∃ e,en[i]?=some e∧v=e.key) (fun i h=>h.IsKeyIter j d i en.size ep∧RawD h d en ep) where
 sub:=fun b hb=>by simp at hb;simp [hb]
 frame:=fun _ _ _ st hk=>⟨st.1.at fun o e=>hk j (by simp) o e,st.2.to fun o e=>hk d (by simp) o e⟩
 item:=fun i s Q E hi st hQ=>raw_next st.1 st.2 hi fun g t' hs=>hQ _ g s.toks ⟨en[i],by simp [hi],rfl⟩ ⟨t',st.2.to fun o e=>hs.extBut d o hne e⟩ fun b o hb e=>hs.extBut b o (fun h=>hb (by simp [h])) e
 done:=fun s Q E st hQ=>raw_end hh st.1 st.2 fun g he=>hQ g s.toks fun b o hb e=>he b o (fun h=>hb (by simp [h])) e
 self:=fun _ _ _ _ st hQ=>wpAny_pyIter_keyiter st.1 hQ
theorem raw_src (lo:(d==sysModules)=false):KdlSrc prog w "dict" d d en.size (fun i v=>∃ e,en[i]?=some e∧v=e.key) (fun h=>RawD h d en ep) where
 type:=fun _ r=>r.ty
 there:=fun _ r=>⟨let ⟨_,a,_⟩:=r;Heap.lt_size a,let ⟨_,a,_⟩:=r;Heap.lt_size a⟩
 keep:=fun _ _ r hk=>r.to fun o e=>hk d (.inl rfl) o e
 notList:=by decide
 notTuple:=by decide
 hint:=fun _ _ _ _ r hq=>kdl_hint_dict r.ty hq
 iter:=fun _ s hh r=>⟨_,_,(fun _ _ hq=>raw_iter lo r hq),raw_walks hh _ d (Nat.ne_of_lt (let ⟨_,a,_⟩:=r;Heap.lt_size a)) en ep,⟨⟨_,Heap.get?_push_size _ rfl,rfl,rfl⟩,r.to fun o e=>Heap.get?_push_of_some _ e⟩⟩
end
end Ev
end
end
noncomputable section
noncomputable section
namespace Ev
open PySem PySem.W PySem.Spec PyProof.Rows L2
theorem rising_pw:∀ {l:List Str} {p:Str},risingS p l=true→(p::l).Pairwise leS
 | [],p,_=>List.pairwise_singleton _ _
 | x::r,p,h=>by
  rw [risingS,Bool.and_eq_true,ltCps_eq] at h
  have hx:leS p x:=List.not_lt.mp (by simpa using h.1)
  have ih:=rising_pw h.2
  refine List.pairwise_cons.mpr ⟨fun z hz=>?_,ih⟩
  rcases omc hz with rfl | hz
  ·exact hx
  ·exact leS_tr hx ((List.pairwise_cons.mp ih).1 z hz)
theorem sortS_of {l m:List Str} (p:m.Perm l) (h:sortedS m=true):m=sortS l:=by
 refine pwS_one ?_ (sortS_pw l) (p.trans (sortS_perm l).symm)
 cases m with
 | nil=>exact .nil
 | cons x r=>exact rising_pw h
theorem vals_strs:∀ {ss:List Str} {us:List Value},Vals (ss.map V.str) us→StrsAre us ss
 | [],_,r=>by cases r;exact .nil
 | a::as,_,r=>by
  cases r with
  | cons h t=>obtain ⟨k,rfl⟩:=h;exact .cons a k (vals_strs t)
theorem strs_vals:∀ {us:List Value} {ss:List Str},StrsAre us ss→Vals (ss.map V.str) us
 | _,_,.nil=>.nil
 | _,_,.cons y t r=>.cons ⟨t,rfl⟩ (strs_vals r)
theorem txtO_rep {K:PySem.W.Frag} {F:Hp} {t:T} {v:V} {y:Str} (r:Rep K F t v) (h:txtO t=some y):v=.str y:=by
 cases t with
 | str x=>cases h;exact r
 | _=>cases h
theorem txts_rep {K:PySem.W.Frag} {F:Hp}:∀ {ts:List T} {vs:List V} {ss:List Str},Reps K F ts vs→txts ts=some ss→vs=ss.map V.str
 | [],_,_,r,h=>by cases r;cases h;rfl
 | t::ts,_,_,r,h=>by
  obtain ⟨v,vr,rfl,r1,r2⟩:=r
  obtain ⟨k,h1,h⟩:=obs h
  obtain ⟨ks,h2,h⟩:=obs h
  cases h
  rw [txts_rep r2 h2,txtO_rep r1 h1];rfl
theorem reps_strs {K:PySem.W.Frag} {F:Hp}:∀ ss:List Str,Reps K F (ss.map T.str) (ss.map V.str)
 | []=>rfl
 | x::r=>⟨_,_,rfl,rfl,reps_strs r⟩
theorem strK_key:∀ {ks:List Kt} {ss:List Str},strK ks=some ss→ks=ss.map fun x=>.inr (some x)
 | [],_,h=>by cases h;rfl
 | k::ks,_,h=>by
  obtain ⟨y,h1,h⟩:=obs h
  obtain ⟨ys,h2,h⟩:=obs h
  cases h
  rw [strK_key h2]
  rcases k with i | _ | x
  ·cases h1
  ·cases h1
  ·cases h1;rfl
theorem key_str {x:Str} {v:Value} (h:keyIs (.inr (some x)) v=true):∃ t,v=.str x t:=by
 rcases keyIs_shape h with ⟨i,t,e,_⟩ | ⟨y,t,e,rfl⟩ | ⟨e,_⟩
 ·cases e
 ·cases e;exact ⟨t,rfl⟩
 ·cases e
theorem strs_keys {prog:Program} {w:World}:∀ {es:List DictEntry} {vs:List (Key × Value)} {ss:List Str},Pairs (mixKind prog w) es vs→vs.map (·.1)=ss.map (fun x=>.inr (some x))→StrsAre (es.map (·.key)) ss
 | _,_,[],.nil,_=>.nil
 | _,_,_::_,.nil,h=>by simp at h
 | _,_,[],.cons _ _ _,h=>by simp at h
 | _,_,x::ss,.cons (e:=e) (kv:=kv) h1 _ t,h=>by
  rw [List.map_cons,List.map_cons,List.cons.injEq] at h
  rw [h.1] at h1
  obtain ⟨k,ek⟩:=key_str h1
  rw [List.map_cons,ek]
  exact .cons x k (strs_keys t h.2)
theorem strs_perm {us vs:List Value} {ss:List Str} (h:StrsAre us ss) (p:vs.Perm us):∃ ss',StrsAre vs ss'∧ss'.Perm ss:=by
 refine ⟨vs.map strOf,strsAre_map vs fun v hv=>h.all v (p.mem_iff.mp hv),?_⟩
 rw [← h.strs]
 exact p.map _
section
variable {prog:Program} {w:World} {A:Around} {E:Value→Shared→Prop} {s:Shared}
theorem sorted_at' {g:Heap} {a:Addr} {vs:List Value} {n:Nat} (ho:g.get? a=some (seqObj "list" vs.toArray n)) (out:Array Value):∃ c,(sortedHeap g a vs out).get? a=some (seqObj "list" out c):=by
 obtain ⟨e1,ho1⟩:∃ e1,(g.update a (Obj.mapSeq fun _=>#[])).get? a=some (seqObj "list" #[] e1):=⟨_,get?_update_seq ho (fun _=>#[])⟩
 have ho6:(((g.update a (Obj.mapSeq fun _=>#[])).push (seqObj "tuple" vs.toArray 0)).push (seqObj "list" #[] 0)).get? a=some (seqObj "list" #[] e1):=Heap.get?_push_of_some _ (Heap.get?_push_of_some _ ho1)
 exact ⟨_,get?_update_seq ho6 fun _=>out⟩
theorem sorted_kept' {g:Heap} {a:Addr} {vs:List Value} {out:Array Value} {b:Addr} {o:Obj} (hb:b≠a) (e:g.get? b=some o):(sortedHeap g a vs out).get? b=some o:=by
 unfold sortedHeap
 rw [Heap.get?_update_ne _ _ _ _ hb]
 exact Heap.get?_push_of_some _ (Heap.get?_push_of_some _ (by rw [Heap.get?_update_ne _ _ _ _ hb];exact e))
theorem sortedS_of {r:Value} {Q:Value→Shared→Prop} (h:wpAny (model prog w) A.in1 (collect r) (fun vs s1=>∃ ss,StrsAre vs ss∧ss.length<64 ∧
   ∀ (out:List Value) (c:Nat) (g:Heap),StrsAre out (sortS ss)→(∀ b o,s1.heap.get? b=some o→g.get? b=some o) →
    g.get? s1.heap.objs.size=some { cls:=.type "list",data:=.seq out.toArray c }→Q (.ref s1.heap.objs.size) { s1 with heap:=g }) E s):wpAny (model prog w) A (call (.builtin "sorted") [r]) Q E s:=by
 refine Calls.call_function_entry kind_sorted plain_sorted entry_sorted (args_sorted1 _) ?_
 unfold Builtin.«sorted»
 refine wpAny_bind (m:=checkCount "sorted" 1 1 _) (wpAny_pure ?_)
 refine wpAny_bind (wpAny_mono h (fun vs s1 x=>?_) fun _ _ e=>e)
 obtain ⟨ss,hs,h64,q⟩:=x
 have hl:vs.length=ss.length:=by rw [← hs.strs,List.length_map]
 refine wpAny_bind (wpAny_newList ?_ (by rw [sizeLine_eq];omega))
 have hoL:(s1.heap.push (seqObj "list" vs.toArray 0)).get? s1.heap.objs.size=some (seqObj "list" vs.toArray 0):=Heap.get?_push_size _ rfl
 refine wpAny_bind (wpAny_holding (wpAny_call_entry slot_list_sort ⟨_,hoL,rfl⟩ entry_list_sort ?_ (args_list_sort _)))
 refine list_sort_treeK strKind_oneLt (s:={ s1 with heap:=s1.heap.push (seqObj "list" vs.toArray 0) }) hoL hs.keysOf (fun v₁ v₂ rest e=>keyKind_strs (by rw [← e];exact hs)) (by omega) fun st' hp hst=>⟨_,rfl,?_⟩
 obtain ⟨ss',h1,h2,h3⟩:=sorted_out_str hs hp hst
 obtain ⟨c,hc⟩:=sorted_at' hoL ((arrOf st').map (·.2))
 exact wpAny_pure ⟨_,rfl,q _ c _ (by rw [← sortS_of h2 h3];exact h1) (fun b o e=>sorted_kept' (Nat.ne_of_lt (Heap.lt_size e)) (Heap.get?_push_of_some _ e)) hc⟩
end
section
variable {X:Cx} {pins:List (Addr × Obj)} {σ:L2.St} {F1 H1:Hp} {s1:Shared} {Q:VK}
theorem finS (I1:L2.Inv X pins σ H1 s1) (fh:Same F1 H1) {ss:List Str} {out:List Value} {c:Nat} {g:Heap} (ho:StrsAre out (sortS ss)) (h64:ss.length<64) (kp:∀ b o,s1.heap.get? b=some o→g.get? b=some o)
  (hD:g.get? s1.heap.objs.size=some { cls:=.type "list",data:=.seq out.toArray c }) (q:∀ v F' H',Step F1 H1 F' H'→Rep X.K F' (.lst ((sortS ss).map .str)) v→Q v H'):EP X pins σ Q (.ref s1.heap.objs.size) { s1 with heap:=g }:=by
 have hn:H1 s1.heap.objs.size=none:=I1.hok.fresh (Nat.le_refl _)
 have I2:=I1.laid (a:=s1.heap.objs.size) (o:=.lst ((sortS ss).map V.str)) (t':=s1.toks) kp (Nat.le_refl _) ⟨by rw [List.length_map,(sortS_perm ss).length_eq,sizeLine_eq];omega,out,c,strs_vals ho,hD⟩
 exact ⟨.ref s1.heap.objs.size,_,I2,rfl,q _ _ _ ((Step.refl fh).new hn) ⟨_,_,rfl,Ls.of upd_same,reps_strs _⟩⟩
end
section
variable {X:Cx}
theorem sortT_some {ss:List Str} {t:T} (h:sortT ss=some t):ss.length<64∧t=.lst ((sortS ss).map .str):=by
 unfold sortT at h
 split at h
 ·rename_i hl;cases h;exact ⟨hl,rfl⟩
 ·cases h
theorem call_sortedS (hcalm:X.calm=true):CallR X (.builtin "sorted") (fun xs H Q=>∃ F t1 t x,xs=[x]∧Same F H∧Rep X.K F t1 x∧bltT .sorted t1=some t∧∀ v F' H',Step F H F' H'→Rep X.K F' t v→Q v H'):=by
 intro pins s σ H xs us Q I r h
 obtain ⟨F,t1,t,x,rfl,fh,r1,ht,q⟩:=h
 obtain ⟨u,rfl,ru⟩:=vals1 r
 have hh:X.A.handled=none:=I.ok.hd hcalm
 cases t1 with
 | dk ks ts =>
  obtain ⟨a,ws,rfl,g1,g2,g3⟩:=r1
  cases ru
  obtain ⟨ss,hk,ht⟩:=obs (show (strK ks).bind sortT=some t from ht)
  obtain ⟨h64,rfl⟩:=sortT_some ht
  obtain ⟨z,lo,vs,rel,o,es,ep,e1,e2,e3,_,e4,_⟩:=dk_of I.hok (fh _ _ g1)
  have hle:es.size=vs.length:=by rw [← Array.length_toList,e4.length]
  have hlw:vs.length=ws.length:=rel.length.symm
  refine sortedS_of (kdu_collect (A:=X.A.in1) (raw_src (en:=es) (ep:=ep) lo) hh ⟨o,e1,e2,e3⟩ (by rw [hle,hlw];exact z) fun h' tk acc hk' hacc=>?_)
  have ea:acc.toList=es.toList.map (·.key):=by
   apply List.ext_getElem?
   intro i
   by_cases hi:i<es.size
   ·have hi':i<acc.size:=by rw [hacc.1];exact hi
    obtain ⟨e,he,hv⟩:=hacc.2 i acc[i] (by simp [hi'])
    rw [Array.getElem?_toList,Array.getElem?_eq_getElem hi',hv,List.getElem?_map,Array.getElem?_toList,he]
    rfl
   ·rw [List.getElem?_eq_none (by rw [Array.length_toList,hacc.1];omega),List.getElem?_eq_none (by simp;omega)]
  have hs:StrsAre (es.toList.map (·.key)) ss:=strs_keys e4 (by rw [← rel.keys,g2,strK_key hk])
  refine ⟨ss,by rw [ea];exact hs,h64,fun out c g ho kp hD=>?_⟩
  exact finS (s1:={ s with heap:=h',toks:=tk }) (I.kept hk') fh ho h64 kp hD q
 | lst ts =>
  obtain ⟨l,vs,rfl,g1,g2⟩:=r1
  cases ru
  obtain ⟨ss,hk,ht⟩:=obs (show (txts ts).bind sortT=some t from ht)
  obtain ⟨h64,rfl⟩:=sortT_some ht
  have:=txts_rep g2 hk
  subst this
  obtain ⟨its,rv,pl,hz⟩:=I.list (Ls.same fh g1).sq
  have hs:=vals_strs rv
  have hl:its.length=ss.length:=by rw [← hs.strs,List.length_map]
  have hkp:∀ b o,s.heap.get? b=some o→((s.heap.push (seqObj "list" #[] 0)).update s.heap.objs.size (Obj.mapSeq (·++its.toArray))).get? b=some o:=fun b o e=>by
   rw [Heap.get?_update_ne _ _ _ _ (Nat.ne_of_lt (Heap.lt_size e))];exact Heap.get?_push_of_some _ e
  refine sortedS_of (collect_list pl.isList ⟨ss,hs,h64,fun out c g ho kp hD=>?_⟩ (by rw [hl,sizeLine_eq];omega))
  have I1:L2.Inv X pins σ H { s with heap:=(s.heap.push (seqObj "list" #[] 0)).update s.heap.objs.size (Obj.mapSeq (·++its.toArray)),toks:=s.toks }:=I.kept hkp
  exact finS I1 fh ho h64 kp hD q
 | _=>cases ht
def SetW (P:Program) (w:World) (a:Addr) (ss:List Str):HO:=.ext fun h=>∃ L ep t Q,SetX P w h a L ep t Q∧∀ x,x∈L.map (·.1)↔x∈ss.map fun y=>(Sum.inr (some y):Key)
theorem Inv.drawnS {pins:List (Addr × Obj)} {σ:L2.St} {H:Hp} {s:Shared} {t':Nat} {d':Drawn} {h':Heap} (I:L2.Inv X pins σ H s) (k:∀ b u,s.heap.get? b=some u→h'.get? b=some u):L2.Inv X pins σ H { s with heap:=h',drawn:=d',toks:=t' }:=by
 have I':L2.Inv X pins σ H { s with heap:=h',toks:=t' }:=I.kept k
 exact ⟨I'.ok,I'.os,I'.bare,I'.base,I'.loc,I'.cell,I'.free,I'.freeC,I'.pin,I'.hok,I'.len⟩
theorem call_setW (hcalm:X.calm=true):CallR X (.type "set") (fun xs H Q=>∃ F ts ss v,xs=[v]∧Same F H∧Rep X.K F (.lst ts) v∧txts ts=some ss∧(dedS ss).length≤4∧∀ l,H l=none→Q (.ref l) (upd H l (SetW X.prog X.w l ss))):=by
 intro pins s σ H xs us Q I r h
 obtain ⟨F,ts,ss,v,rfl,fh,r1,hk,h4,q⟩:=h
 obtain ⟨u,rfl,ru⟩:=vals1 r
 have hd:X.A.handled=none:=I.ok.hd hcalm
 obtain ⟨l,vs,rfl,g1,g2⟩:=r1
 cases ru
 have:=txts_rep g2 hk
 subst this
 obtain ⟨its,rv,pl,hz⟩:=I.list (Ls.same fh g1).sq
 have hl:its.length=ss.length:=by rw [← rv.length,List.length_map]
 refine call_setX (ks:=ss.map fun y=>(Sum.inr (some y):Key)) (D:=(dedS ss).map fun y=>(Sum.inr (some y):Key)) hd pl.isList (by simp [hl]) (fun i hi v hv=>?_) (fun x hx=>?_) (by rw [List.length_map];exact h4) fun g tk y k=>?_
 ·have hi':i<ss.length:=by simpa using hi
  obtain ⟨u',hu,⟨t,e⟩⟩:=rv.get (i:=i) (x:=V.str ss[i]) (by simp [hi'])
  rw [List.getElem?_toArray,hu] at hv
  cases hv
  rw [List.getElem_map,e]
  exact keyIs_str _ _
 ·obtain ⟨y,hy,rfl⟩:=omm hx
  exact List.mem_map.mpr ⟨y,mem_dedS.mpr hy,rfl⟩
 ·obtain ⟨L,ep,t,P,y,ym⟩:=y
  have hn:H s.heap.objs.size=none:=I.hok.fresh (Nat.le_refl _)
  have kk:∀ b o,s.heap.get? b=some o→g.get? b=some o:=fun b o e=>k b o (Heap.lt_size e) e
  refine ⟨.ref s.heap.objs.size,_,I.laid (t':=tk) kk (Nat.le_refl _) ?_,rfl,q _ hn⟩
  refine ⟨⟨L,ep,t,P,y,ym⟩,⟨_,y.ob⟩,fun h1 h2 z st=>?_⟩
  obtain ⟨L',ep',t',P',z,z1⟩:=z
  exact ⟨L',ep',t',P',⟨st _ z.ob,z.ok,z.len,z.led,z.nd,z.ks⟩,z1⟩
theorem call_sortedW (hcalm:X.calm=true):CallR X (.builtin "sorted") (fun xs H Q=>∃ F l ss,xs=[.ref l]∧Same F H∧H l=some (SetW X.prog X.w l ss)∧ss.length<64∧∀ v F' H',Step F H F' H'→Rep X.K F' (.lst ((sortS (dedS ss)).map .str)) v→Q v H'):=by
 intro pins s σ H xs us Q I r h
 obtain ⟨F,l,ss,rfl,fh,hl,h64,q⟩:=h
 obtain ⟨u,rfl,ru⟩:=vals1 r
 cases ru
 have hh:X.A.handled=none:=I.ok.hd hcalm
 obtain ⟨⟨L,ep,t,P,y,ym⟩,_⟩:=I.hok l _ hl
 have hd:(dedS ss).length<64:=Nat.lt_of_le_of_lt (sub_len (nd_dedS ss) fun x hx=>mem_dedS.mp hx) h64
 refine sortedS_of (setG_collect (A:=X.A.in1) hh y.g fun h' tk d ord hp hk=>?_)
 have hs:∃ ss',StrsAre (L.map (·.2)) ss'∧L.map (·.1)=ss'.map fun y=>(Sum.inr (some y):Key):=by
  have hL:∀ e∈L,∃ x t,e=((Sum.inr (some x):Key),Value.str x t):=fun e he=>by
   obtain ⟨x,hx,e1⟩:=omm ((ym e.1).mp (List.mem_map.mpr ⟨e,he,rfl⟩))
   have:=y.ks e he
   rw [← e1] at this
   obtain ⟨t,e2⟩:=key_str this
   exact ⟨x,t,Prod.ext e1.symm e2⟩
  clear y ym hp
  induction L with
  | nil=>exact ⟨[],.nil,rfl⟩
  | cons e L ih =>
   obtain ⟨x,t,rfl⟩:=hL e (.head _)
   obtain ⟨ss',h1,h2⟩:=ih fun e he=>hL e (.tail _ he)
   exact ⟨x::ss',.cons x t h1,by rw [List.map_cons,h2];rfl⟩
 obtain ⟨ss',hs1,hs2⟩:=hs
 obtain ⟨so,ho1,ho2⟩:=strs_perm hs1 (vs:=ord.map (·.2)) (by
  have:=hp.map (·.2)
  rwa [entX,List.map_map] at this)
 have mem:∀ x,x∈ss'↔x∈dedS ss:=fun x=>by
  have:=ym (Sum.inr (some x))
  rw [hs2] at this
  rw [mem_dedS]
  constructor
  ·intro hx
   obtain ⟨y,hy,e⟩:=omm (this.mp (List.mem_map.mpr ⟨x,hx,rfl⟩))
   cases e;exact hy
  ·intro hx
   obtain ⟨y,hy,e⟩:=omm (this.mpr (List.mem_map.mpr ⟨x,hx,rfl⟩))
   cases e;exact hy
 have nd':ss'.Nodup:=by
  have:=y.nd
  rw [hs2] at this
  exact List.Pairwise.of_map (S:=fun a b:Key=>a≠b) _ (fun a b h z=>h (by rw [z])) this
 have pm:so.Perm (dedS ss):=ho2.trans ((List.perm_ext_iff_of_nodup nd' (nd_dedS ss)).mpr mem)
 refine ⟨so,ho1,by rw [pm.length_eq];exact hd,fun out c g ho kp hD=>?_⟩
 have I1:L2.Inv X pins σ H { s with heap:=h',toks:=tk,drawn:=d }:=Inv.drawnS I hk
 refine finS I1 fh ho (by rw [pm.length_eq];exact hd) kp hD fun v F' H' st r'=>q v F' H' st ?_
 rw [← sortS_uniq pm]
 exact r'
end
end Ev
end
end
noncomputable section
noncomputable section
namespace Ev
open PySem PySem.Spec PyProof.Rows L2
section
variable {X:Cx} {c:Tc} {a b:Expr} {pos p:Pos}
def BlS (X:Cx) (f:Value) (g:T→Option T):Prop :=
 CallR X f (fun xs H Q=>∃ F t1 t x,xs=[x]∧Same F H∧Rep X.K F t1 x∧g t1=some t∧∀ v F' H',Step F H F' H'→Rep X.K F' t v→Q v H')
theorem bl_len:BlS X (.builtin "len") (bltT .len):=by
 intro pins s σ H xs us Q I r h
 obtain ⟨F,t1,t,x,rfl,fh,r1,ht,q⟩:=h
 cases t1 with
 | tup ts =>
  obtain ⟨l,vs,rfl,h1,h2⟩:=r1
  cases ht
  exact call_len_seq pins s σ H _ us Q I r ⟨l,vs,rfl,.inr (same_tup fh h1),q _ F H (Step.refl fh) (by rw [h2.length];rfl)⟩
 | lst ts =>
  obtain ⟨l,vs,rfl,h1,h2⟩:=r1
  cases ht
  exact call_len_seq pins s σ H _ us Q I r ⟨l,vs,rfl,.inl (Ls.same fh h1).sq,q _ F H (Step.refl fh) (by rw [h2.length];rfl)⟩
 | _=>cases ht
theorem bl_int:BlS X (.type "int") (bltT .toInt):=by
 intro pins s σ H xs us Q I r h
 obtain ⟨F,t1,t,x,rfl,fh,r1,ht,q⟩:=h
 cases t1 with
 | int i=>cases r1;cases ht;exact call_int1 pins s σ H _ us Q I r (.inl ⟨i,rfl,q _ F H (Step.refl fh) rfl⟩)
 | bl k=>cases r1;cases ht;exact call_int1 pins s σ H _ us Q I r (.inr ⟨k,rfl,q _ F H (Step.refl fh) rfl⟩)
 | _=>cases ht
theorem bl_tuple:BlS X (.type "tuple") (bltT .toTuple):=by
 intro pins s σ H xs us Q I r h
 obtain ⟨F,t1,t,x,rfl,fh,r1,ht,q⟩:=h
 cases t1 with
 | tup ts =>
  obtain ⟨l,vs,rfl,h1,h2⟩:=r1
  cases ht
  exact call_tuple_of pins s σ H _ us Q I r ⟨l,vs,rfl,.inr ⟨same_tup fh h1,q _ F H (Step.refl fh) ⟨l,vs,rfl,h1,h2⟩⟩⟩
 | lst ts =>
  obtain ⟨l,vs,rfl,h1,h2⟩:=r1
  cases ht
  refine call_tuple_of pins s σ H _ us Q I r ⟨l,vs,rfl,.inl ⟨(Ls.same fh h1).sq,fun l' hl=>?_⟩⟩
  have st:=(Step.refl fh).new (o:=.tup vs) hl
  exact q _ _ _ st ⟨l',vs,rfl,upd_same,h2.mono st.ff⟩
 | _=>cases ht
theorem bl_sorted (hcalm:X.calm=true):BlS X (.builtin "sorted") (bltT .sorted):=call_sortedS hcalm
theorem one_arg {f:Env→Option T} (ha:Oke X c a f) (hs:starEach [a] X.env=[(false,eval a X.env)]):PA X [a] (spL X c fun r=>(f r).bind fun x=>some [x]):=by
 refine pa_mono (ok_cons ha ok_nil hs) fun σ H Q q=>?_
 obtain ⟨r,F,ts,e,ht,q⟩:=q
 exact ⟨r,F,ts,e,ht,q⟩
theorem ok_blt1 {G:Glo} {k:Nat} (gd:Gd X c G k) {x:Str} {id:String} {f:Env→Option T} {g:T→Option T} (hc:BlS X (.builtin id) g) (hb:x∈bnames) (hg:glB c.sc x=true) (hv:bootBuiltins x=some (.builtin id)) (hn:x≠"__name__") (hdb:(x==("__debug__":Str))=false)
  (ha:Oke X c a f) (hs:starEach [a] X.env=[(false,eval a X.env)]):Oke X c (.Call (.Name x p) [a] [] pos) (fun r=>(f r).bind fun x=>g x):=by
 refine pe_mono (pe_callB hc (gd.gl x hg) (gd.nob x hb) hv (one_arg ha hs) hn hdb hs rfl) fun σ H Q q=>?_
 obtain ⟨r,F,t,e,ht,q⟩:=q
 obtain ⟨t1,e1,ht⟩:=obs ht
 refine ⟨r,F,[t1],e,Option.bind_eq_some_iff.mpr ⟨t1,e1,rfl⟩,fun vs F' H' s1 r1=>?_⟩
 obtain ⟨v,w,rfl,h1,h2⟩:=r1
 cases h2
 exact ⟨F',t1,t,v,rfl,s1.fh,h1,ht,fun v' F2 H2 s2 r2=>q v' F2 H2 (s1.trans s2) r2⟩
theorem ok_bltT {G:Glo} {k:Nat} (gd:Gd X c G k) {x:Str} {ty:String} {f:Env→Option T} {g:T→Option T} (hc:BlS X (.type ty) g) (hb:x∈bnames) (hg:glB c.sc x=true) (hv:bootBuiltins x=some (.type ty)) (hn:x≠"__name__") (hdb:(x==("__debug__":Str))=false)
  (ha:Oke X c a f) (hs:starEach [a] X.env=[(false,eval a X.env)]):Oke X c (.Call (.Name x p) [a] [] pos) (fun r=>(f r).bind fun x=>g x):=by
 refine pe_mono (pe_callTy hc (gd.gl x hg) (gd.nob x hb) hv (one_arg ha hs) hn hdb hs rfl) fun σ H Q q=>?_
 obtain ⟨r,F,t,e,ht,q⟩:=q
 obtain ⟨t1,e1,ht⟩:=obs ht
 refine ⟨r,F,[t1],e,Option.bind_eq_some_iff.mpr ⟨t1,e1,rfl⟩,fun vs F' H' s1 r1=>?_⟩
 obtain ⟨v,w,rfl,h1,h2⟩:=r1
 cases h2
 exact ⟨F',t1,t,v,rfl,s1.fh,h1,ht,fun v' F2 H2 s2 r2=>q v' F2 H2 (s1.trans s2) r2⟩
theorem ok_bn {G:Glo} {k:Nat} (gd:Gd X c G k) {x:Str} {kb:Bn} {f:Env→Option T} (hk:bnOf x=some kb) (hg:glB c.sc x=true) (ha:Oke X c a f) (hs:starEach [a] X.env=[(false,eval a X.env)]) :
  Oke X c (.Call (.Name x p) [a] [] pos) (fun r=>(f r).bind fun x=>bltT kb x):=by
 unfold bnOf at hk
 split at hk
 ·rename_i e;have e:=eq_of_beq e;subst e;cases hk
  exact ok_blt1 gd bl_len (by decide +kernel) hg PySem.boot_len (by decide) (by decide) ha hs
 ·split at hk
  ·rename_i e;have e:=eq_of_beq e;subst e;cases hk
   exact ok_bltT gd bl_int (by decide +kernel) hg PyProof.Rows.boot_int (by decide) (by decide) ha hs
  ·split at hk
   ·rename_i e;have e:=eq_of_beq e;subst e;cases hk
    exact ok_bltT gd bl_tuple (by decide +kernel) hg PyProof.Rows.boot_tuple (by decide) (by decide) ha hs
   ·split at hk
    ·rename_i e;have e:=eq_of_beq e;subst e;cases hk
     exact ok_blt1 gd (bl_sorted gd.calm) (by decide +kernel) hg (show bootBuiltins "sorted"=some (.builtin "sorted") by decide +kernel) (by decide) (by decide) ha hs
    ·cases hk
theorem ok_sset {G:Glo} {k:Nat} {p2 q2:Pos} (gd:Gd X c G k) {f:Env→Option T} (hg:glB c.sc "sorted"=true) (hg2:glB c.sc "set"=true) (ha:Oke X c a f) (hs:starEach [a] X.env=[(false,eval a X.env)]) :
  Oke X c (.Call (.Name "sorted" p) [.Call (.Name "set" p2) [a] [] q2] [] pos) (fun r=>(f r).bind fun x=>bltT .sset x):=by
 have inner:=pe_callTy (pos:=q2) (p:=p2) (call_setW (X:=X) gd.calm) (gd.gl _ hg2) (gd.nob _ (by decide +kernel)) (show bootBuiltins "set"=some (.type "set") by decide +kernel) (one_arg ha hs) (by decide) (by decide) hs rfl
 have outer:=pe_callB (pos:=pos) (p:=p) (call_sortedW gd.calm) (gd.gl _ hg) (gd.nob _ (by decide +kernel)) (show bootBuiltins "sorted"=some (.builtin "sorted") by decide +kernel) (pa_cons inner pa_nil) (by decide) (by decide) rfl rfl
 refine pe_mono outer fun σ H Q q=>?_
 obtain ⟨r,F,t,e,ht,q⟩:=q
 obtain ⟨t1,e1,ht⟩:=obs ht
 refine ⟨r,F,[t1],e,Option.bind_eq_some_iff.mpr ⟨t1,e1,rfl⟩,fun vs F' H' s1 r1=>?_⟩
 obtain ⟨v,w,rfl,h1,h2⟩:=r1
 cases h2
 cases t1 with
 | lst ts =>
  obtain ⟨ss,hk,ht⟩:=obs (show (txts ts).bind ssetT=some t from ht)
  unfold ssetT at ht
  split at ht
  ·rename_i h4
   cases ht
   exact ⟨F',ts,ss,v,rfl,s1.fh,h1,hk,h4.2,fun l hn=>⟨F',l,ss,rfl,s1.fh.trans (same_new hn),upd_same,h4.1,fun v' F2 H2 s2 r2=>q v' F2 H2 (s1.trans (((Step.refl s1.fh).newH hn).trans s2)) r2⟩⟩
  ·cases ht
 | _=>cases ht
theorem lookP_rep {K:PySem.W.Frag} {F:Hp} {k:Kt} {t3:T} {v3:V} (r3:Rep K F t3 v3) {ws:List (Key × V)} {ts:List T} (r:Reps K F ts (ws.map (·.2))):Rep K F ((lookP (ws.map (·.1)) ts k).getD t3) ((valV ws k).getD v3):=by
 induction ws generalizing ts with
 | nil=>cases ts<;>exact r3
 | cons p ws ih =>
  cases ts with
  | nil=>cases r
  | cons u ts =>
   obtain ⟨v,vr,e,r1,r2⟩:=r
   rw [List.map_cons] at e
   injection e with e1 e2
   rw [List.map_cons,lookP]
   by_cases hk:p.1=k
   ·rw [if_pos hk,valV_pos hk,e1];exact r1
   ·rw [if_neg hk,valV_neg hk];exact ih (by rw [e2];exact r2)
theorem ok_dgt {f g h:Env→Option T} {apos cpos:Pos} {o:Expr} (hu:X.A.units+1<cLine) (ho:Oke X c o f) (ha:Oke X c a g) (hb:Oke X c b h) (m:M2 X o "get" apos a b cpos) :
  Oke X c (.Call (.Attribute o "get" apos) [a,b] [] cpos) (fun r=>(f r).bind fun x=>(g r).bind fun y=>(h r).bind fun z=>dgtT x y z):=by
 refine pe_mono (pe_dget2 hu ho ha hb m) fun σ H Q q=>?_
 obtain ⟨r,F,t,e,ht,q⟩:=q
 obtain ⟨t1,e1,ht⟩:=obs ht
 obtain ⟨t2,e2,ht⟩:=obs ht
 obtain ⟨t3,e3,ht⟩:=obs ht
 refine ⟨r,F,t1,e,e1,fun v1 F1 H1 s1 r1=>?_⟩
 cases t1 with
 | dk ks ts =>
  cases t2 with
  | str y =>
   cases ht
   obtain ⟨a,ws,rfl,g1,g2,g3⟩:=r1
   subst g2
   refine ⟨a,rfl,.inl ⟨ws,.inl (s1.fh _ _ g1)⟩,r,F1,.str y,e.step s1,e2,fun v2 F2 H2 s2 r2=>⟨r,F2,t3,(e.step s1).step s2,e3,fun v3 F3 H3 s3 r3=>?_⟩⟩
   cases r2
   exact ⟨_,DGet.k (k:=.inr (some y)) (s3.fh _ _ (s3.ff _ _ (s2.ff _ _ g1))),q _ F3 H3 (s1.trans (s2.trans s3)) (lookP_rep r3 (g3.mono (s2.ff.trans s3.ff)))⟩
  | _=>cases ht
 | _=>cases ht
end
end Ev
end
end
noncomputable section
noncomputable section
namespace L2
open PySem PySem.Spec PyProof.Rows
structure ZAp (z TI TO j1 j2:Addr) (f1 f2:List Addr):Prop where
 nz:TI≠z∧TO≠z∧j1≠z∧j2≠z
 nT:TI≠TO∧TI≠j1∧TI≠j2
 nO:TO≠j1∧TO≠j2
 nj:j1≠j2
 fz:z∉f1∧z∉f2
 fO:TO∉f1∧TO∉f2
 fj:j2∉f1∧j1∉f2
section
variable {prog:Program} {w:World} {A:Around} {E:Value→Shared→Prop} {s:Shared}
variable {z TI TO j1 j2:Addr} {f1 f2:List Addr} {n1 n2 k:Nat} {P1 P2:Nat→Value→Prop} {S1 S2:Nat→Heap→Prop} {a b:Value}
theorem zipD_item {Q:Value→Shared→Prop} (D1:Draws prog w A j1 f1 n1 P1 S1) (D2:Draws prog w A j2 f2 n2 P2 S2) (ap:ZAp z TI TO j1 j2 f1 f2)
  (hz:IsZip s.heap z TI TO .none) (hI:IsPair s.heap TI (.ref j1) (.ref j2)) (hO:IsPair s.heap TO a b) (t1:S1 k s.heap) (t2:S2 k s.heap) (l1:k<n1) (l2:k<n2)
  (hQ:∀ x y g tk,P1 k x→P2 k y→IsZip g z TI TO (rawInt s.heap.objs.size)→IsPair g TO x y→S1 (k+1) g→S2 (k+1) g→IsPair g s.heap.objs.size x y→g.objs.size=s.heap.objs.size+1 →
   (∀ c o,c≠z→c≠TO→c≠j1→c≠j2→s.heap.get? c=some o→g.get? c=some o)→Q (.ref s.heap.objs.size) { s with heap:=g,toks:=tk }) :
  wpAny (model prog w) A (Builtin.«zip.__next__» ⟨[.ref z],[]⟩) (fun e s'=>∃ v,e=.done (.ret v)∧Q v s') E s:=by
 show wpAny _ _ (field (.ref z) 2 >>= _) _ _ s
 refine wpAny_bind (wpAny_field (x:=.bool false) hz rfl rfl ?_)
 show wpAny _ _ (field (.ref z) 3 >>= _) _ _ s
 refine wpAny_bind (wpAny_field (x:=.ref TI) hz rfl rfl (wpAny_bind (wpAny_seqItems hI rfl ?_)))
 show wpAny _ _ (Builtin.SmallTypes.ownedTupleIsFree (.ref z) >>= _) _ _ s
 refine wpAny_bind (show wpAny _ _ (Builtin.SmallTypes.ownedTupleIsFree (.ref z)) _ _ s from ?_)
 unfold Builtin.SmallTypes.ownedTupleIsFree
 refine wpAny_bind (wpAny_field (x:=.none) hz rfl rfl (wpAny_pure ?_))
 simp only [if_true]
 refine wpAny_bind (wpAny_rule (wpAny_bind (wpAny_field (x:=.ref TO) hz rfl rfl ?_)))
 refine wpAny_bind (wpAny_setField_rec hz (by simp) fun g1 hz1 e1=>?_)
 replace hz1:IsZip g1 z TI TO .ellipsis:=hz1
 refine wpAny_bind (show wpAny _ _ _ _ _ _ from ?_)
 simp only [List.zipIdx_nil,List.zipIdx_cons,List.forIn_nil,List.forIn_cons]
 refine wpAny_bind (wpAny_bind (wpAny_onRaise ?_))
 show wpAny _ _ (Builtin.SmallTypes.nextOf (.ref j1) >>= _) _ _ { s with heap:=g1 }
 have q1:S1 k g1:=D1.frame _ _ _ t1 fun c hc o e=>e1.extBut _ _ (fun y=>ap.fz.1 (y▸hc)) e
 refine wpAny_bind (D1.item k _ _ _ l1 q1 fun x g2 tk2 hx u1 e2=>wpAny_pure ?_)
 have hO2:IsPair g2 TO a b:=e2.extBut _ _ ap.nO.1 (e1.extBut _ _ ap.nz.2.1 hO)
 refine wpAny_bind (wpAny_seqItems hO2 rfl (wpAny_bind (wpAny_updateSeq_pair hO2 fun g3 hO3 e3=>?_)))
 replace hO3:IsPair g3 TO x b:=hO3
 refine wpAny_bind (wpAny_letGo (wpAny_pure (wpAny_bind (wpAny_bind (wpAny_onRaise ?_)))))
 show wpAny _ _ (Builtin.SmallTypes.nextOf (.ref j2) >>= _) _ _ { s with heap:=g3,toks:=tk2 }
 have q2:S2 k g3:=D2.frame _ _ _ t2 fun c hc o e=>e3.extBut _ _ (fun y=>ap.fO.2 (y▸hc)) (e2.extBut _ _ (fun y=>ap.fj.2 (y▸hc)) (e1.extBut _ _ (fun y=>ap.fz.2 (y▸hc)) e))
 refine wpAny_bind (D2.item k _ _ _ l2 q2 fun y g4 tk4 hy u2 e4=>wpAny_pure ?_)
 have hO4:IsPair g4 TO x b:=e4.extBut _ _ ap.nO.2 hO3
 refine wpAny_bind (wpAny_seqItems hO4 rfl (wpAny_bind (wpAny_updateSeq_pair hO4 fun g5 hO5 e5=>?_)))
 replace hO5:IsPair g5 TO x y:=hO5
 refine wpAny_bind (wpAny_letGo (wpAny_pure (wpAny_pure (wpAny_bind (wpAny_seqItems hO5 rfl (wpAny_bind (wpAny_newTuple ?_)))))))
 have sz:g5.objs.size=s.heap.objs.size:=by rw [e5.1,e4.1,e3.1,e2.1,e1.1]
 have hz5:IsZip g5 z TI TO .ellipsis:=e5.extBut _ _ (Ne.symm ap.nz.2.1) (e4.extBut _ _ (Ne.symm ap.nz.2.2.2) (e3.extBut _ _ (Ne.symm ap.nz.2.1) (e2.extBut _ _ (Ne.symm ap.nz.2.2.1) hz1)))
 have k5:∀ c o,c≠z→c≠TO→c≠j1→c≠j2→s.heap.get? c=some o→g5.get? c=some o:=fun c o c1 c2 c3 c4 e=>e5.extBut _ _ c2 (e4.extBut _ _ c4 (e3.extBut _ _ c2 (e2.extBut _ _ c3 (e1.extBut _ _ c1 e))))
 have v1:S1 (k+1) g5:=D1.frame _ _ _ u1 fun c hc o e=>e5.extBut _ _ (fun y=>ap.fO.1 (y▸hc)) (e4.extBut _ _ (fun y=>ap.fj.1 (y▸hc)) (e3.extBut _ _ (fun y=>ap.fO.1 (y▸hc)) e))
 have v2:S2 (k+1) g5:=D2.frame _ _ _ u2 fun c hc o e=>e5.extBut _ _ (fun y=>ap.fO.2 (y▸hc)) e
 have ltz:z<g5.objs.size:=Heap.lt_size hz5
 show wpAny _ _ (Builtin.SmallTypes.ownedTupleHandOut (.ref z) (.ref g5.objs.size) >>= _) _ _ _
 refine wpAny_bind (show wpAny _ _ (Builtin.SmallTypes.ownedTupleHandOut (.ref z) (.ref g5.objs.size)) _ _ _ from ?_)
 unfold Builtin.SmallTypes.ownedTupleHandOut
 have hz6:IsZip (g5.push { cls:=.type "tuple",data:=.seq #[x,y] }) z TI TO .ellipsis:=Heap.get?_push_of_some _ hz5
 refine wpAny_bind (wpAny_setField_rec hz6 (by simp) fun g7 hz7 e7=>?_)
 replace hz7:IsZip g7 z TI TO (rawInt g5.objs.size):=hz7
 refine wpAny_setField_rec hz7 (by simp) fun g8 hz8 e8=>?_
 replace hz8:IsZip g8 z TI TO (rawInt g5.objs.size):=hz8
 have up:∀ c o,c≠z→g5.get? c=some o→g8.get? c=some o:=fun c o c1 e=>e8.extBut _ _ c1 (e7.extBut _ _ c1 (Heap.get?_push_of_some _ e))
 have hT8:IsPair g8 g5.objs.size x y:=e8.extBut _ _ (Nat.ne_of_gt ltz) (e7.extBut _ _ (Nat.ne_of_gt ltz) (Heap.get?_push_size _ rfl))
 have sz8:g8.objs.size=g5.objs.size+1:=by rw [e8.1,e7.1,Heap.size_push]
 rw [sz] at hz8 hT8 sz8
 refine wpAny_pure ⟨_,rfl,?_⟩
 show Q (.ref g5.objs.size) { s with heap:=g8,toks:=tk4 }
 rw [sz]
 exact hQ x y g8 tk4 hx hy hz8 (up _ _ ap.nz.2.1 hO5) (D1.frame _ _ _ v1 fun c hc o e=>up c o (fun y=>ap.fz.1 (y▸hc)) e) (D2.frame _ _ _ v2 fun c hc o e=>up c o (fun y=>ap.fz.2 (y▸hc)) e) hT8 sz8
  fun c o c1 c2 c3 c4 e=>up c o c1 (k5 c o c1 c2 c3 c4 e)
theorem zipD_end {Q:Fin→Shared→Prop} (D1:Draws prog w A j1 f1 n1 P1 S1) (D2:Draws prog w A j2 f2 n2 P2 S2) (ap:ZAp z TI TO j1 j2 f1 f2)
  (hz:IsZip s.heap z TI TO .none) (hI:IsPair s.heap TI (.ref j1) (.ref j2)) (hO:IsPair s.heap TO a b) (t1:S1 k s.heap) (t2:S2 k s.heap) (hk:k=n1∨k<n1∧k=n2)
  (hE:∀ g e tk,(∀ c o,c≠z→c≠TO→c≠j1→c≠j2→s.heap.get? c=some o→g.get? c=some o)→(∃ o,g.get? e=some o∧o.cls=.type "StopIteration")→E (.ref e) { s with heap:=g,toks:=tk }) :
  wpAny (model prog w) A (Builtin.«zip.__next__» ⟨[.ref z],[]⟩) Q E s:=by
 show wpAny _ _ (field (.ref z) 2 >>= _) _ _ s
 refine wpAny_bind (wpAny_field (x:=.bool false) hz rfl rfl ?_)
 show wpAny _ _ (field (.ref z) 3 >>= _) _ _ s
 refine wpAny_bind (wpAny_field (x:=.ref TI) hz rfl rfl (wpAny_bind (wpAny_seqItems hI rfl ?_)))
 show wpAny _ _ (Builtin.SmallTypes.ownedTupleIsFree (.ref z) >>= _) _ _ s
 refine wpAny_bind (show wpAny _ _ (Builtin.SmallTypes.ownedTupleIsFree (.ref z)) _ _ s from ?_)
 unfold Builtin.SmallTypes.ownedTupleIsFree
 refine wpAny_bind (wpAny_field (x:=.none) hz rfl rfl (wpAny_pure ?_))
 simp only [if_true]
 refine wpAny_bind (wpAny_rule (wpAny_bind (wpAny_field (x:=.ref TO) hz rfl rfl ?_)))
 refine wpAny_bind (wpAny_setField_rec hz (by simp) fun g1 hz1 e1=>?_)
 replace hz1:IsZip g1 z TI TO .ellipsis:=hz1
 refine wpAny_bind (show wpAny _ _ _ _ _ _ from ?_)
 simp only [List.zipIdx_nil,List.zipIdx_cons,List.forIn_nil,List.forIn_cons]
 refine wpAny_bind (wpAny_bind (wpAny_onRaise ?_))
 show wpAny _ _ (Builtin.SmallTypes.nextOf (.ref j1) >>= _) _ _ { s with heap:=g1 }
 have q1:S1 k g1:=D1.frame _ _ _ t1 fun c hc o e=>e1.extBut _ _ (fun y=>ap.fz.1 (y▸hc)) e
 rcases hk with rfl | ⟨hlt,rfl⟩
 ·refine wpAny_bind (D1.done _ _ _ q1 fun g2 e e2 he=>?_)
  obtain ⟨oe,hoe,hce⟩:=he
  have hz2:IsZip g2 z TI TO .ellipsis:=e2 _ _ (Ne.symm ap.nz.2.2.1) hz1
  have ez:e≠z:=fun y=>by subst y;rw [hz2] at hoe;cases hoe;simp at hce
  exact wpAny_setField_rec hz2 (by simp) fun g3 _ e3=>hE g3 e s.toks (fun c o c1 _ c3 _ y=>e3.extBut _ _ c1 (e2 _ _ c3 (e1.extBut _ _ c1 y))) ⟨oe,e3.extBut _ _ ez hoe,hce⟩
 ·refine wpAny_bind (D1.item _ _ _ _ hlt q1 fun x g2 tk2 hx u1 e2=>wpAny_pure ?_)
  have hO2:IsPair g2 TO a b:=e2.extBut _ _ ap.nO.1 (e1.extBut _ _ ap.nz.2.1 hO)
  refine wpAny_bind (wpAny_seqItems hO2 rfl (wpAny_bind (wpAny_updateSeq_pair hO2 fun g3 hO3 e3=>?_)))
  refine wpAny_bind (wpAny_letGo (wpAny_pure (wpAny_bind (wpAny_bind (wpAny_onRaise ?_)))))
  show wpAny _ _ (Builtin.SmallTypes.nextOf (.ref j2) >>= _) _ _ { s with heap:=g3,toks:=tk2 }
  have q2:S2 k g3:=D2.frame _ _ _ t2 fun c hc o e=>e3.extBut _ _ (fun y=>ap.fO.2 (y▸hc)) (e2.extBut _ _ (fun y=>ap.fj.2 (y▸hc)) (e1.extBut _ _ (fun y=>ap.fz.2 (y▸hc)) e))
  refine wpAny_bind (D2.done _ _ _ q2 fun g4 e e4 he=>?_)
  obtain ⟨oe,hoe,hce⟩:=he
  have hz4:IsZip g4 z TI TO .ellipsis:=e4 _ _ (Ne.symm ap.nz.2.2.2) (e3.extBut _ _ (Ne.symm ap.nz.2.1) (e2.extBut _ _ (Ne.symm ap.nz.2.2.1) hz1))
  have ez:e≠z:=fun y=>by subst y;rw [hz4] at hoe;cases hoe;simp at hce
  exact wpAny_setField_rec hz4 (by simp) fun g5 _ e5=>hE g5 e tk2 (fun c o c1 c2 c3 c4 y=>e5.extBut _ _ c1 (e4 _ _ c4 (e3.extBut _ _ c2 (e2.extBut _ _ c3 (e1.extBut _ _ c1 y))))) ⟨oe,e5.extBut _ _ ez hoe,hce⟩
theorem nextZ_item {Q:Option Value→Shared→Prop} (D1:Draws prog w A.in1 j1 f1 n1 P1 S1) (D2:Draws prog w A.in1 j2 f2 n2 P2 S2) (ap:ZAp z TI TO j1 j2 f1 f2)
  (hz:IsZip s.heap z TI TO .none) (hI:IsPair s.heap TI (.ref j1) (.ref j2)) (hO:IsPair s.heap TO a b) (t1:S1 k s.heap) (t2:S2 k s.heap) (l1:k<n1) (l2:k<n2)
  (hQ:∀ x y g tk,P1 k x→P2 k y→IsZip g z TI TO (rawInt s.heap.objs.size)→IsPair g TO x y→S1 (k+1) g→S2 (k+1) g→IsPair g s.heap.objs.size x y→g.objs.size=s.heap.objs.size+1 →
   (∀ c o,c≠z→c≠TO→c≠j1→c≠j2→s.heap.get? c=some o→g.get? c=some o)→Q (some (.ref s.heap.objs.size)) { s with heap:=g,toks:=tk }):wpAny (model prog w) A (pyNext (.ref z)) Q E s:=by
 have ty:s.TypeIs (.ref z) "zip":=⟨_,hz,rfl⟩
 unfold pyNext
 exact wpAny_bind (wpAny_attempt (wpAny_callSpecial?_slot (name:=Str.ofString "__next__") ty F.slot_zip_next (wpAny_call_entry F.slot_zip_next ty F.entry_zip_next
  (zipD_item D1 D2 ap hz hI hO t1 t2 l1 l2 fun x y g tk b1 b2 b3 b4 b5 b6 b7 b8 b9=>wpAny_pure (hQ x y g tk b1 b2 b3 b4 b5 b6 b7 b8 b9)) (F.args_zip_next_1 _))))
theorem nextZ_end {Q:Option Value→Shared→Prop} (D1:Draws prog w A.in1 j1 f1 n1 P1 S1) (D2:Draws prog w A.in1 j2 f2 n2 P2 S2) (ap:ZAp z TI TO j1 j2 f1 f2)
  (hz:IsZip s.heap z TI TO .none) (hI:IsPair s.heap TI (.ref j1) (.ref j2)) (hO:IsPair s.heap TO a b) (t1:S1 k s.heap) (t2:S2 k s.heap) (hk:k=n1∨k<n1∧k=n2)
  (hQ:∀ g tk,(∀ c o,c≠z→c≠TO→c≠j1→c≠j2→s.heap.get? c=some o→g.get? c=some o)→Q none { s with heap:=g,toks:=tk }):wpAny (model prog w) A (pyNext (.ref z)) Q E s:=by
 have ty:s.TypeIs (.ref z) "zip":=⟨_,hz,rfl⟩
 unfold pyNext
 refine wpAny_bind (wpAny_attempt (wpAny_callSpecial?_slot (name:=Str.ofString "__next__") ty F.slot_zip_next (wpAny_call_entry F.slot_zip_next ty F.entry_zip_next
  (zipD_end D1 D2 ap hz hI hO t1 t2 hk fun g e tk hc he=>?_) (F.args_zip_next_1 _))))
 obtain ⟨o,ho,hc2⟩:=he
 exact wpAny_bind (wpAny_isInstance (b:=true) (T:="StopIteration") ⟨o,ho,hc2⟩ isSubtype_stop (wpAny_pure (hQ _ _ hc)))
end
abbrev zh1LL (h:Heap) (l1:Addr):Heap:=h.push { cls:=.type "list_iterator",data:=.fields #[.ref l1,.int 0 0] }
abbrev zh2LL (h:Heap) (l1 l2:Addr):Heap:=(zh1LL h l1).push { cls:=.type "list_iterator",data:=.fields #[.ref l2,.int 0 0] }
abbrev zh3LL (h:Heap) (l1 l2:Addr):Heap:=(zh2LL h l1 l2).push { cls:=.type "tuple",data:=.seq #[.ref h.objs.size,.ref (zh1LL h l1).objs.size] }
abbrev zh4LL (h:Heap) (l1 l2:Addr):Heap:=(zh3LL h l1 l2).push { cls:=.type "tuple",data:=.seq #[.none,.none] }
abbrev zh5LL (h:Heap) (l1 l2:Addr):Heap:=(zh4LL h l1 l2).push { cls:=.type "zip",data:=.fields #[.none,.bool false,.bool false,.ref (zh2LL h l1 l2).objs.size,.ref (zh3LL h l1 l2).objs.size] }
theorem meets_zLL (l1 l2:Addr) (xs ys:Array Value):Meets (Builtin.«zip.__new__» ⟨[.type "zip",.ref l1,.ref l2],[]⟩) (fun _ R s=>s.heap.IsList l1 xs∧s.heap.IsList l2 ys ∧
   R (.ok (.ret (.ref (zh4LL s.heap l1 l2).objs.size))) { s with heap:=zh5LL s.heap l1 l2 }) :=
 .of_wp fun prog w A R s q=>by
  obtain ⟨hp,gs,dr,tk,os⟩:=s
  obtain ⟨q1,q2,q⟩:=q
  have hsub:=sub_zip
  have y1:Heap.IsList (Shared.heap ⟨hp,gs,dr,tk,os⟩) l1 xs:=q1
  have y2:Heap.IsList (Shared.heap ⟨hp.push { cls:=.type "list_iterator",data:=.fields #[.ref l1,.int 0 0] },gs,dr,tk,os⟩) l2 ys:=Heap.IsList.push q2 _
  wp_walk using wpAny_pyIter_list y1,wpAny_pyIter_list y2
  exact ⟨_,rfl,q⟩
theorem call_zLL {prog:Program} {w:World} {A:Around} {E:Value→Shared→Prop} {s:Shared} {l1 l2:Addr} {xs ys:Array Value} {Q:Value→Shared→Prop} (q1:s.heap.IsList l1 xs) (q2:s.heap.IsList l2 ys)
  (q:∀ g,IsZip g (s.heap.objs.size+4) (s.heap.objs.size+2) (s.heap.objs.size+3) .none→IsPair g (s.heap.objs.size+2) (.ref s.heap.objs.size) (.ref (s.heap.objs.size+1))→IsPair g (s.heap.objs.size+3) .none .none →
   g.IsListIter s.heap.objs.size l1 0→g.IsListIter (s.heap.objs.size+1) l2 0→g.objs.size=s.heap.objs.size+5→(∀ c o,s.heap.get? c=some o→g.get? c=some o)→Q (.ref (s.heap.objs.size+4)) { s with heap:=g }) :
  wpAny (model prog w) A (call (.type "zip") [.ref l1,.ref l2]) Q E s:=by
 refine callType_new F.called_zip (by decide) (F.typeCall_zip_2 _ _) (F.newCall_zip_2 _ _) (fun ob=>F.args_object_init_3 ob _ _) F.entry_zip_new (meets_zLL l1 l2 xs ys) ⟨q1,q2,?_⟩
 have a1:(zh1LL s.heap l1).objs.size=s.heap.objs.size+1:=Heap.size_push ..
 have a2:(zh2LL s.heap l1 l2).objs.size=s.heap.objs.size+2:=by rw [Heap.size_push,a1]
 have a3:(zh3LL s.heap l1 l2).objs.size=s.heap.objs.size+3:=by rw [Heap.size_push,a2]
 have a4:(zh4LL s.heap l1 l2).objs.size=s.heap.objs.size+4:=by rw [Heap.size_push,a3]
 have a5:(zh5LL s.heap l1 l2).objs.size=s.heap.objs.size+5:=by rw [Heap.size_push,a4]
 have b5:(zh5LL s.heap l1 l2).get? (zh4LL s.heap l1 l2).objs.size=some _:=Heap.get?_push_size _ rfl
 have b4:(zh5LL s.heap l1 l2).get? (zh3LL s.heap l1 l2).objs.size=some _:=Heap.get?_push_of_some _ (Heap.get?_push_size _ rfl)
 have b3:(zh5LL s.heap l1 l2).get? (zh2LL s.heap l1 l2).objs.size=some _:=Heap.get?_push_of_some _ (Heap.get?_push_of_some _ (Heap.get?_push_size _ rfl))
 have b2:(zh5LL s.heap l1 l2).get? (zh1LL s.heap l1).objs.size=some _:=Heap.get?_push_of_some _ (Heap.get?_push_of_some _ (Heap.get?_push_of_some _ (Heap.get?_push_size _ rfl)))
 have b1:(zh5LL s.heap l1 l2).get? s.heap.objs.size=some _:=Heap.get?_push_of_some _ (Heap.get?_push_of_some _ (Heap.get?_push_of_some _ (Heap.get?_push_of_some _ (Heap.get?_push_size _ rfl))))
 show _∧_
 rw [a2,a3,a4] at b5
 rw [a1,a2] at b3
 rw [a3] at b4
 rw [a1] at b2
 rw [a4]
 exact ⟨⟨_,b5,rfl⟩,q _ b5 b3 b4 ⟨_,b1,rfl,rfl⟩ ⟨_,b2,rfl,rfl⟩ a5 fun c o y=>Heap.get?_push_of_some _ (Heap.get?_push_of_some _ (Heap.get?_push_of_some _ (Heap.get?_push_of_some _ (Heap.get?_push_of_some _ y))))⟩
abbrev zh1LT (h:Heap) (l1:Addr):Heap:=h.push { cls:=.type "list_iterator",data:=.fields #[.ref l1,.int 0 0] }
abbrev zh2LT (h:Heap) (l1 l2:Addr):Heap:=(zh1LT h l1).push { cls:=.type "tuple_iterator",data:=.fields #[.ref l2,.int 0 0] }
abbrev zh3LT (h:Heap) (l1 l2:Addr):Heap:=(zh2LT h l1 l2).push { cls:=.type "tuple",data:=.seq #[.ref h.objs.size,.ref (zh1LT h l1).objs.size] }
abbrev zh4LT (h:Heap) (l1 l2:Addr):Heap:=(zh3LT h l1 l2).push { cls:=.type "tuple",data:=.seq #[.none,.none] }
abbrev zh5LT (h:Heap) (l1 l2:Addr):Heap:=(zh4LT h l1 l2).push { cls:=.type "zip",data:=.fields #[.none,.bool false,.bool false,.ref (zh2LT h l1 l2).objs.size,.ref (zh3LT h l1 l2).objs.size] }
theorem meets_zLT (l1 l2:Addr) (xs ys:Array Value):Meets (Builtin.«zip.__new__» ⟨[.type "zip",.ref l1,.ref l2],[]⟩) (fun _ R s=>s.heap.IsList l1 xs∧s.heap.IsTuple l2 ys ∧
   R (.ok (.ret (.ref (zh4LT s.heap l1 l2).objs.size))) { s with heap:=zh5LT s.heap l1 l2 }) :=
 .of_wp fun prog w A R s q=>by
  obtain ⟨hp,gs,dr,tk,os⟩:=s
  obtain ⟨q1,q2,q⟩:=q
  have hsub:=sub_zip
  have y1:Heap.IsList (Shared.heap ⟨hp,gs,dr,tk,os⟩) l1 xs:=q1
  have y2:Heap.IsTuple (Shared.heap ⟨hp.push { cls:=.type "list_iterator",data:=.fields #[.ref l1,.int 0 0] },gs,dr,tk,os⟩) l2 ys:=let ⟨o,ho,r⟩:=q2;⟨o,Heap.get?_push_of_some _ ho,r⟩
  wp_walk using wpAny_pyIter_list y1,wpAny_pyIter_tuple y2
  exact ⟨_,rfl,q⟩
theorem call_zLT {prog:Program} {w:World} {A:Around} {E:Value→Shared→Prop} {s:Shared} {l1 l2:Addr} {xs ys:Array Value} {Q:Value→Shared→Prop} (q1:s.heap.IsList l1 xs) (q2:s.heap.IsTuple l2 ys)
  (q:∀ g,IsZip g (s.heap.objs.size+4) (s.heap.objs.size+2) (s.heap.objs.size+3) .none→IsPair g (s.heap.objs.size+2) (.ref s.heap.objs.size) (.ref (s.heap.objs.size+1))→IsPair g (s.heap.objs.size+3) .none .none →
   g.IsListIter s.heap.objs.size l1 0→g.IsTupleIter (s.heap.objs.size+1) l2 0→g.objs.size=s.heap.objs.size+5→(∀ c o,s.heap.get? c=some o→g.get? c=some o)→Q (.ref (s.heap.objs.size+4)) { s with heap:=g }) :
  wpAny (model prog w) A (call (.type "zip") [.ref l1,.ref l2]) Q E s:=by
 refine callType_new F.called_zip (by decide) (F.typeCall_zip_2 _ _) (F.newCall_zip_2 _ _) (fun ob=>F.args_object_init_3 ob _ _) F.entry_zip_new (meets_zLT l1 l2 xs ys) ⟨q1,q2,?_⟩
 have a1:(zh1LT s.heap l1).objs.size=s.heap.objs.size+1:=Heap.size_push ..
 have a2:(zh2LT s.heap l1 l2).objs.size=s.heap.objs.size+2:=by rw [Heap.size_push,a1]
 have a3:(zh3LT s.heap l1 l2).objs.size=s.heap.objs.size+3:=by rw [Heap.size_push,a2]
 have a4:(zh4LT s.heap l1 l2).objs.size=s.heap.objs.size+4:=by rw [Heap.size_push,a3]
 have a5:(zh5LT s.heap l1 l2).objs.size=s.heap.objs.size+5:=by rw [Heap.size_push,a4]
 have b5:(zh5LT s.heap l1 l2).get? (zh4LT s.heap l1 l2).objs.size=some _:=Heap.get?_push_size _ rfl
 have b4:(zh5LT s.heap l1 l2).get? (zh3LT s.heap l1 l2).objs.size=some _:=Heap.get?_push_of_some _ (Heap.get?_push_size _ rfl)
 have b3:(zh5LT s.heap l1 l2).get? (zh2LT s.heap l1 l2).objs.size=some _:=Heap.get?_push_of_some _ (Heap.get?_push_of_some _ (Heap.get?_push_size _ rfl))
 have b2:(zh5LT s.heap l1 l2).get? (zh1LT s.heap l1).objs.size=some _:=Heap.get?_push_of_some _ (Heap.get?_push_of_some _ (Heap.get?_push_of_some _ (Heap.get?_push_size _ rfl)))
 have b1:(zh5LT s.heap l1 l2).get? s.heap.objs.size=some _:=Heap.get?_push_of_some _ (Heap.get?_push_of_some _ (Heap.get?_push_of_some _ (Heap.get?_push_of_some _ (Heap.get?_push_size _ rfl))))
 show _∧_
 rw [a2,a3,a4] at b5
 rw [a1,a2] at b3
 rw [a3] at b4
 rw [a1] at b2
 rw [a4]
 exact ⟨⟨_,b5,rfl⟩,q _ b5 b3 b4 ⟨_,b1,rfl,rfl⟩ ⟨_,b2,rfl,rfl⟩ a5 fun c o y=>Heap.get?_push_of_some _ (Heap.get?_push_of_some _ (Heap.get?_push_of_some _ (Heap.get?_push_of_some _ (Heap.get?_push_of_some _ y))))⟩
abbrev zh1TL (h:Heap) (l1:Addr):Heap:=h.push { cls:=.type "tuple_iterator",data:=.fields #[.ref l1,.int 0 0] }
abbrev zh2TL (h:Heap) (l1 l2:Addr):Heap:=(zh1TL h l1).push { cls:=.type "list_iterator",data:=.fields #[.ref l2,.int 0 0] }
abbrev zh3TL (h:Heap) (l1 l2:Addr):Heap:=(zh2TL h l1 l2).push { cls:=.type "tuple",data:=.seq #[.ref h.objs.size,.ref (zh1TL h l1).objs.size] }
abbrev zh4TL (h:Heap) (l1 l2:Addr):Heap:=(zh3TL h l1 l2).push { cls:=.type "tuple",data:=.seq #[.none,.none] }
abbrev zh5TL (h:Heap) (l1 l2:Addr):Heap:=(zh4TL h l1 l2).push { cls:=.type "zip",data:=.fields #[.none,.bool false,.bool false,.ref (zh2TL h l1 l2).objs.size,.ref (zh3TL h l1 l2).objs.size] }
theorem meets_zTL (l1 l2:Addr) (xs ys:Array Value):Meets (Builtin.«zip.__new__» ⟨[.type "zip",.ref l1,.ref l2],[]⟩) (fun _ R s=>s.heap.IsTuple l1 xs∧s.heap.IsList l2 ys ∧
   R (.ok (.ret (.ref (zh4TL s.heap l1 l2).objs.size))) { s with heap:=zh5TL s.heap l1 l2 }) :=
 .of_wp fun prog w A R s q=>by
  obtain ⟨hp,gs,dr,tk,os⟩:=s
  obtain ⟨q1,q2,q⟩:=q
  have hsub:=sub_zip
  have y1:Heap.IsTuple (Shared.heap ⟨hp,gs,dr,tk,os⟩) l1 xs:=q1
  have y2:Heap.IsList (Shared.heap ⟨hp.push { cls:=.type "tuple_iterator",data:=.fields #[.ref l1,.int 0 0] },gs,dr,tk,os⟩) l2 ys:=Heap.IsList.push q2 _
  wp_walk using wpAny_pyIter_tuple y1,wpAny_pyIter_list y2
  exact ⟨_,rfl,q⟩
theorem call_zTL {prog:Program} {w:World} {A:Around} {E:Value→Shared→Prop} {s:Shared} {l1 l2:Addr} {xs ys:Array Value} {Q:Value→Shared→Prop} (q1:s.heap.IsTuple l1 xs) (q2:s.heap.IsList l2 ys)
  (q:∀ g,IsZip g (s.heap.objs.size+4) (s.heap.objs.size+2) (s.heap.objs.size+3) .none→IsPair g (s.heap.objs.size+2) (.ref s.heap.objs.size) (.ref (s.heap.objs.size+1))→IsPair g (s.heap.objs.size+3) .none .none →
   g.IsTupleIter s.heap.objs.size l1 0→g.IsListIter (s.heap.objs.size+1) l2 0→g.objs.size=s.heap.objs.size+5→(∀ c o,s.heap.get? c=some o→g.get? c=some o)→Q (.ref (s.heap.objs.size+4)) { s with heap:=g }) :
  wpAny (model prog w) A (call (.type "zip") [.ref l1,.ref l2]) Q E s:=by
 refine callType_new F.called_zip (by decide) (F.typeCall_zip_2 _ _) (F.newCall_zip_2 _ _) (fun ob=>F.args_object_init_3 ob _ _) F.entry_zip_new (meets_zTL l1 l2 xs ys) ⟨q1,q2,?_⟩
 have a1:(zh1TL s.heap l1).objs.size=s.heap.objs.size+1:=Heap.size_push ..
 have a2:(zh2TL s.heap l1 l2).objs.size=s.heap.objs.size+2:=by rw [Heap.size_push,a1]
 have a3:(zh3TL s.heap l1 l2).objs.size=s.heap.objs.size+3:=by rw [Heap.size_push,a2]
 have a4:(zh4TL s.heap l1 l2).objs.size=s.heap.objs.size+4:=by rw [Heap.size_push,a3]
 have a5:(zh5TL s.heap l1 l2).objs.size=s.heap.objs.size+5:=by rw [Heap.size_push,a4]
 have b5:(zh5TL s.heap l1 l2).get? (zh4TL s.heap l1 l2).objs.size=some _:=Heap.get?_push_size _ rfl
 have b4:(zh5TL s.heap l1 l2).get? (zh3TL s.heap l1 l2).objs.size=some _:=Heap.get?_push_of_some _ (Heap.get?_push_size _ rfl)
 have b3:(zh5TL s.heap l1 l2).get? (zh2TL s.heap l1 l2).objs.size=some _:=Heap.get?_push_of_some _ (Heap.get?_push_of_some _ (Heap.get?_push_size _ rfl))
 have b2:(zh5TL s.heap l1 l2).get? (zh1TL s.heap l1).objs.size=some _:=Heap.get?_push_of_some _ (Heap.get?_push_of_some _ (Heap.get?_push_of_some _ (Heap.get?_push_size _ rfl)))
 have b1:(zh5TL s.heap l1 l2).get? s.heap.objs.size=some _:=Heap.get?_push_of_some _ (Heap.get?_push_of_some _ (Heap.get?_push_of_some _ (Heap.get?_push_of_some _ (Heap.get?_push_size _ rfl))))
 show _∧_
 rw [a2,a3,a4] at b5
 rw [a1,a2] at b3
 rw [a3] at b4
 rw [a1] at b2
 rw [a4]
 exact ⟨⟨_,b5,rfl⟩,q _ b5 b3 b4 ⟨_,b1,rfl,rfl⟩ ⟨_,b2,rfl,rfl⟩ a5 fun c o y=>Heap.get?_push_of_some _ (Heap.get?_push_of_some _ (Heap.get?_push_of_some _ (Heap.get?_push_of_some _ (Heap.get?_push_of_some _ y))))⟩
abbrev zh1TT (h:Heap) (l1:Addr):Heap:=h.push { cls:=.type "tuple_iterator",data:=.fields #[.ref l1,.int 0 0] }
abbrev zh2TT (h:Heap) (l1 l2:Addr):Heap:=(zh1TT h l1).push { cls:=.type "tuple_iterator",data:=.fields #[.ref l2,.int 0 0] }
abbrev zh3TT (h:Heap) (l1 l2:Addr):Heap:=(zh2TT h l1 l2).push { cls:=.type "tuple",data:=.seq #[.ref h.objs.size,.ref (zh1TT h l1).objs.size] }
abbrev zh4TT (h:Heap) (l1 l2:Addr):Heap:=(zh3TT h l1 l2).push { cls:=.type "tuple",data:=.seq #[.none,.none] }
abbrev zh5TT (h:Heap) (l1 l2:Addr):Heap:=(zh4TT h l1 l2).push { cls:=.type "zip",data:=.fields #[.none,.bool false,.bool false,.ref (zh2TT h l1 l2).objs.size,.ref (zh3TT h l1 l2).objs.size] }
theorem meets_zTT (l1 l2:Addr) (xs ys:Array Value):Meets (Builtin.«zip.__new__» ⟨[.type "zip",.ref l1,.ref l2],[]⟩) (fun _ R s=>s.heap.IsTuple l1 xs∧s.heap.IsTuple l2 ys ∧
   R (.ok (.ret (.ref (zh4TT s.heap l1 l2).objs.size))) { s with heap:=zh5TT s.heap l1 l2 }) :=
 .of_wp fun prog w A R s q=>by
  obtain ⟨hp,gs,dr,tk,os⟩:=s
  obtain ⟨q1,q2,q⟩:=q
  have hsub:=sub_zip
  have y1:Heap.IsTuple (Shared.heap ⟨hp,gs,dr,tk,os⟩) l1 xs:=q1
  have y2:Heap.IsTuple (Shared.heap ⟨hp.push { cls:=.type "tuple_iterator",data:=.fields #[.ref l1,.int 0 0] },gs,dr,tk,os⟩) l2 ys:=let ⟨o,ho,r⟩:=q2;⟨o,Heap.get?_push_of_some _ ho,r⟩
  wp_walk using wpAny_pyIter_tuple y1,wpAny_pyIter_tuple y2
  exact ⟨_,rfl,q⟩
theorem call_zTT {prog:Program} {w:World} {A:Around} {E:Value→Shared→Prop} {s:Shared} {l1 l2:Addr} {xs ys:Array Value} {Q:Value→Shared→Prop} (q1:s.heap.IsTuple l1 xs) (q2:s.heap.IsTuple l2 ys)
  (q:∀ g,IsZip g (s.heap.objs.size+4) (s.heap.objs.size+2) (s.heap.objs.size+3) .none→IsPair g (s.heap.objs.size+2) (.ref s.heap.objs.size) (.ref (s.heap.objs.size+1))→IsPair g (s.heap.objs.size+3) .none .none →
   g.IsTupleIter s.heap.objs.size l1 0→g.IsTupleIter (s.heap.objs.size+1) l2 0→g.objs.size=s.heap.objs.size+5→(∀ c o,s.heap.get? c=some o→g.get? c=some o)→Q (.ref (s.heap.objs.size+4)) { s with heap:=g }) :
  wpAny (model prog w) A (call (.type "zip") [.ref l1,.ref l2]) Q E s:=by
 refine callType_new F.called_zip (by decide) (F.typeCall_zip_2 _ _) (F.newCall_zip_2 _ _) (fun ob=>F.args_object_init_3 ob _ _) F.entry_zip_new (meets_zTT l1 l2 xs ys) ⟨q1,q2,?_⟩
 have a1:(zh1TT s.heap l1).objs.size=s.heap.objs.size+1:=Heap.size_push ..
 have a2:(zh2TT s.heap l1 l2).objs.size=s.heap.objs.size+2:=by rw [Heap.size_push,a1]
 have a3:(zh3TT s.heap l1 l2).objs.size=s.heap.objs.size+3:=by rw [Heap.size_push,a2]
 have a4:(zh4TT s.heap l1 l2).objs.size=s.heap.objs.size+4:=by rw [Heap.size_push,a3]
 have a5:(zh5TT s.heap l1 l2).objs.size=s.heap.objs.size+5:=by rw [Heap.size_push,a4]
 have b5:(zh5TT s.heap l1 l2).get? (zh4TT s.heap l1 l2).objs.size=some _:=Heap.get?_push_size _ rfl
 have b4:(zh5TT s.heap l1 l2).get? (zh3TT s.heap l1 l2).objs.size=some _:=Heap.get?_push_of_some _ (Heap.get?_push_size _ rfl)
 have b3:(zh5TT s.heap l1 l2).get? (zh2TT s.heap l1 l2).objs.size=some _:=Heap.get?_push_of_some _ (Heap.get?_push_of_some _ (Heap.get?_push_size _ rfl))
 have b2:(zh5TT s.heap l1 l2).get? (zh1TT s.heap l1).objs.size=some _:=Heap.get?_push_of_some _ (Heap.get?_push_of_some _ (Heap.get?_push_of_some _ (Heap.get?_push_size _ rfl)))
 have b1:(zh5TT s.heap l1 l2).get? s.heap.objs.size=some _:=Heap.get?_push_of_some _ (Heap.get?_push_of_some _ (Heap.get?_push_of_some _ (Heap.get?_push_of_some _ (Heap.get?_push_size _ rfl))))
 show _∧_
 rw [a2,a3,a4] at b5
 rw [a1,a2] at b3
 rw [a3] at b4
 rw [a1] at b2
 rw [a4]
 exact ⟨⟨_,b5,rfl⟩,q _ b5 b3 b4 ⟨_,b1,rfl,rfl⟩ ⟨_,b2,rfl,rfl⟩ a5 fun c o y=>Heap.get?_push_of_some _ (Heap.get?_push_of_some _ (Heap.get?_push_of_some _ (Heap.get?_push_of_some _ (Heap.get?_push_of_some _ y))))⟩
end L2
end
end
noncomputable section
noncomputable section
namespace L2
open PySem PySem.Spec PyProof.Rows
section
variable {X:Cx} {pins:List (Addr × Obj)} {σ:St} {H:Hp} {s:Shared} {h':Heap}
theorem Inv.turnedC {ch:List Addr} {t':Nat} (I:Inv X pins σ H s) (k:∀ b o,b∉ch→s.heap.get? b=some o→h'.get? b=some o) (f:∀ b∈ch,FpOk X pins H b):Inv X pins σ H { s with heap:=h',toks:=t' }:=by
 have nfp:∀ {b:Addr} {u:HO},H b=some u→b∉ch:=fun {b u} q z=>by rw [(f b z).1] at q;cases q
 refine I.step (g':=s.gens) (d':=s.drawn) (ch:=ch) (fun b hb=>⟨(f b hb).2.2.2.1,(f b hb).2.1,(f b hb).2.2.2.2.1,(f b hb).2.2.2.2.2⟩) (fun b o _ _ hc q _=>k b o hc q) (fun b o _ _ hc q _=>⟨o.slots,k b o hc q⟩)
  (fun b o hc q z=>z) (fun b o hc q=>⟨o,k b o hc q⟩) (fun b ys q=>q) (fun b o u q=>q) (fun b ps q=>⟨#[],by rw [q];simp⟩) (fun m hm=>?_) (fun b u q=>?_) I.bare
 ·obtain ⟨o,es,ep,ho,r⟩:=hm
  exact ⟨o,es,ep,k _ o (fun z=>(f _ z).2.1 rfl) ho,r⟩
 ·refine (I.hok b u q).stay (fun c v hc z=>?_) (fun c z=>z) fun c ys z=>z
  rcases hc with rfl | hc
  ·exact k c v (nfp q) z
  ·exact k c v (nfp hc) z
theorem Inv.turnedN {ch:List Addr} {T:Addr} {xs:List V} {t':Nat} (I:Inv X pins σ H s) (k:∀ b o,b∉ch→s.heap.get? b=some o→h'.get? b=some o) (f:∀ b∈ch,FpOk X pins H b)
  (hT:s.heap.objs.size≤T) (new:ObjOk X.prog X.w (upd H T (.tup xs)) h' T (.tup xs)):Inv X pins σ (upd H T (.tup xs)) { s with heap:=h',toks:=t' }:=by
 have hn:H T=none:=I.hok.fresh hT
 have nT:∀ {b:Addr} {o:Obj},s.heap.get? b=some o→b≠T:=fun {b o} q=>Nat.ne_of_lt (Nat.lt_of_lt_of_le (Heap.lt_size q) hT)
 have nfp:∀ {b:Addr} {u:HO},H b=some u→b∉ch:=fun {b u} q z=>by rw [(f b z).1] at q;cases q
 refine I.step (g':=s.gens) (d':=s.drawn) (ch:=ch) (fun b hb=>⟨(f b hb).2.2.2.1,(f b hb).2.1,(f b hb).2.2.2.2.1,(f b hb).2.2.2.2.2⟩) (fun b o _ _ hc q _=>k b o hc q) (fun b o _ _ hc q _=>⟨o.slots,k b o hc q⟩)
  (fun b o hc q z=>by rw [upd_ne (nT q)];exact z) (fun b o hc q=>⟨o,k b o hc q⟩)
  (fun b ys q=>by rw [upd_ne (ne_of_none q hn)];exact q) (fun b o u q=>by rw [upd_ne (ne_of_none q hn)];exact q) (fun b ps q=>⟨#[],by rw [upd_ne (ne_of_none q hn),q];simp⟩) (fun m hm=>?_) (fun b u q=>?_) I.bare
 ·obtain ⟨o,es,ep,ho,r⟩:=hm
  exact ⟨o,es,ep,k _ o (fun z=>(f _ z).2.1 rfl) ho,r⟩
 ·by_cases hb:b=T
  ·subst hb;rw [upd_same] at q;cases q;exact new
  ·rw [upd_ne hb] at q
   refine (I.hok b u q).stay (fun c v hc z=>?_) (fun c z=>by rw [upd_ne (ne_of_none z hn)];exact z) fun c ys z=>by rw [upd_ne (ne_of_none z hn)];exact z
   rcases hc with rfl | hc
   ·exact k c v (nfp q) z
   ·exact k c v (nfp hc) z
end
def SqB (t:Bool) (K:PySem.W.Frag) (H:Hp) (a:Addr) (xs:List V):Prop:=if t then SqT K H a xs else SqL K H a xs
def ItB (t:Bool) (h:Heap) (j l:Addr) (i:Nat):Prop:=if t then h.IsTupleIter j l i else h.IsListIter j l i
def IsB (t:Bool) (h:Heap) (l:Addr) (its:Array Value):Prop:=if t then h.IsTuple l its else h.IsList l its
theorem ItB.at {t:Bool} {h h':Heap} {j l:Addr} {i:Nat} (x:ItB t h j l i) (k:∀ o,h.get? j=some o→h'.get? j=some o):ItB t h' j l i:=by
 cases t with
 | true=>obtain ⟨o,e,r⟩:=(show h.IsTupleIter j l i from x);exact (show h'.IsTupleIter j l i from ⟨o,k o e,r⟩)
 | false=>obtain ⟨o,e,r⟩:=(show h.IsListIter j l i from x);exact (show h'.IsListIter j l i from ⟨o,k o e,r⟩)
theorem ItB.obj {t:Bool} {h:Heap} {j l:Addr} {i:Nat} (x:ItB t h j l i):∃ o,h.get? j=some o∧∀ v,o.data≠.cell v:=by
 cases t with
 | true=>obtain ⟨o,e,_,d⟩:=(show h.IsTupleIter j l i from x);exact ⟨o,e,fun v q=>by rw [d] at q;cases q⟩
 | false=>obtain ⟨o,e,_,d⟩:=(show h.IsListIter j l i from x);exact ⟨o,e,fun v q=>by rw [d] at q;cases q⟩
theorem Inv.sqB {X:Cx} {pins:List (Addr × Obj)} {σ:St} {H:Hp} {s:Shared} {t:Bool} {a:Addr} {xs:List V} (I:Inv X pins σ H s) (q:SqB t X.K H a xs):∃ its:List Value,Vals xs its∧IsB t s.heap a its.toArray∧a<s.heap.objs.size:=by
 cases t with
 | true =>
  obtain ⟨its,rv,p,_⟩:=I.tuple (show SqT X.K H a xs from q)
  obtain ⟨o,e,_⟩:=id p
  exact ⟨its,rv,p,Heap.lt_size e⟩
 | false =>
  obtain ⟨its,rv,p,_⟩:=I.list (show SqL X.K H a xs from q)
  obtain ⟨o,e,_⟩:=id p.isList
  exact ⟨its,rv,p.isList,Heap.lt_size e⟩
theorem Inv.sqB_inj {X:Cx} {pins:List (Addr × Obj)} {σ:St} {H:Hp} {s:Shared} {t:Bool} {a:Addr} {xs ys:List V} (I:Inv X pins σ H s) (q:SqB t X.K H a xs) (q':SqB t X.K H a ys):xs=ys:=by
 cases t with
 | true=>exact I.tuple_inj (show SqT X.K H a xs from q) q'
 | false=>exact I.list_inj (show SqL X.K H a xs from q) q'
theorem drawsB {prog:Program} {w:World} {A:Around} (t:Bool) (hh:A.handled=none) (j l:Addr) (hne:l≠j) (its:Array Value):Draws prog w A j [j,l] its.size (fun i v=>its[i]?=some v) (fun i h=>ItB t h j l i∧IsB t h l its):=by
 cases t with
 | true=>exact draws_tuple hh j l hne its
 | false=>exact Draws.list hh j l hne its
def Itz (K:PySem.W.Frag) (t1 t2:Bool) (l1 l2:Addr):It :=
 ⟨fun i H=>∃ xs ys x y,SqB t1 K H l1 xs∧SqB t2 K H l2 ys∧xs[i]?=some x∧ys[i]?=some y,
  fun i H v H'=>∃ p x y,H p=none∧v=.ref p∧H'=upd H p (.tup [x,y])∧(∀ xs,SqB t1 K H l1 xs→xs[i]?=some x)∧∀ ys,SqB t2 K H l2 ys→ys[i]?=some y,
  fun i H=>∃ xs ys,SqB t1 K H l1 xs∧SqB t2 K H l2 ys∧(i=xs.length∨i<xs.length∧i=ys.length)⟩
theorem ane {a b:Nat} (h:a<b∨b<a):(show Addr from a)≠(show Addr from b):=fun e=>by
 have e:a=b:=e
 omega
theorem anm {z a b:Nat} (h1:z<a∨a<z) (h2:z<b∨b<z):(show Addr from z)∉[(show Addr from a),(show Addr from b)]:=fun e=>by
 rcases omc e with e | e
 ·exact ane h1 e
 ·exact ane h2 (omg e)
theorem zap {N l1 l2:Nat} (h1:l1<N) (h2:l2<N):ZAp (N+4) (N+2) (N+3) N (N+1) [N,l1] [N+1,l2] :=
 ⟨⟨ane (by omega),ane (by omega),ane (by omega),ane (by omega)⟩,⟨ane (by omega),ane (by omega),ane (by omega)⟩,⟨ane (by omega),ane (by omega)⟩,ane (by omega),⟨anm (by omega) (by omega),anm (by omega) (by omega)⟩,⟨anm (by omega) (by omega),anm (by omega) (by omega)⟩,⟨anm (by omega) (by omega),anm (by omega) (by omega)⟩⟩
theorem turn_zip {P:Program} {w:World} {K:PySem.W.Frag} {elts:List Expr} {kx:Nat} {pos:Pos} (t1 t2:Bool) (l1 l2 N:Nat) (h1:l1<N) (h2:l2<N) :
  Turn P w K (.Tuple elts kx pos) (Itz K t1 t2 l1 l2) [N+4,N+2,N+3,N,N+1] (N+4)
   (fun i h=>IsZip h (N+4) (N+2) (N+3) .none∧IsPair h (N+2) (.ref N) (.ref (N+1))∧(∃ a b,IsPair h (N+3) a b)∧ItB t1 h N l1 i∧ItB t2 h (N+1) l2 i) where
 mem:=by simp
 obj:=fun i h st b hb=>by
  obtain ⟨s1,s2,⟨a,c,s3⟩,s4,s5⟩:=st
  simp only [List.mem_cons,List.not_mem_nil,or_false] at hb
  rcases hb with rfl | rfl | rfl | rfl | rfl
  ·exact ⟨_,s1,fun v q=>by cases q⟩
  ·exact ⟨_,s2,fun v q=>by cases q⟩
  ·exact ⟨_,s3,fun v q=>by cases q⟩
  ·exact s4.obj
  ·exact s5.obj
 keep:=fun i h h' st k=>by
  obtain ⟨s1,s2,⟨a,c,s3⟩,s4,s5⟩:=st
  exact ⟨k _ (by simp) _ s1,k _ (by simp) _ s2,⟨a,c,k _ (by simp) _ s3⟩,s4.at fun o e=>k _ (by simp) o e,s5.at fun o e=>k _ (by simp) o e⟩
 item:=by
  intro X hP hw hK hc i pins s σ H E I hf st hg
  subst hP hw hK
  obtain ⟨xs,ys,x,y,q1,q2,hx,hy⟩:=hg
  obtain ⟨s1,s2,⟨a,c,s3⟩,s4,s5⟩:=st
  obtain ⟨its,rv,p,_⟩:=I.sqB q1
  obtain ⟨jts,rw',p',_⟩:=I.sqB q2
  obtain ⟨u,hu,ru⟩:=rv.get hx
  obtain ⟨u',hu',ru'⟩:=rw'.get hy
  have hd:X.A.in1.handled=none:=I.ok.hd hc
  have D1:=drawsB (prog:=X.prog) (w:=X.w) (A:=X.A.in1) t1 hd N l1 (ane (.inl h1)) its.toArray
  have D2:=drawsB (prog:=X.prog) (w:=X.w) (A:=X.A.in1) t2 hd (N+1) l2 (ane (by omega)) jts.toArray
  have lt1:i<its.toArray.size:=by
   have:=(ome hu).1
   rw [List.size_toArray];exact this
  have lt2:i<jts.toArray.size:=by
   have:=(ome hu').1
   rw [List.size_toArray];exact this
  have zlt:N+4<s.heap.objs.size:=Heap.lt_size s1
  refine nextZ_item D1 D2 (zap h1 h2) s1 s2 s3 ⟨s4,p⟩ ⟨s5,p'⟩ lt1 lt2 fun v v' g tk hv hv' b3 b4 b5 b6 b7 b8 b9=>⟨_,rfl,wpAny_letOwnedTupleGo_zip b3 fun g2 z2 e2=>?_⟩
  have ev:v=u:=by
   have z:its[i]?=some v:=by simpa using hv
   rw [hu] at z;exact (Option.some.inj z).symm
  have ev':v'=u':=by
   have z:jts[i]?=some v':=by simpa using hv'
   rw [hu'] at z;exact (Option.some.inj z).symm
  subst ev ev'
  have up:∀ b o,b≠N+4→g.get? b=some o→g2.get? b=some o:=fun b o hb e=>(e2.2 b hb).trans e
  have hk2:∀ b o,b∉[N+4,N+2,N+3,N,N+1]→s.heap.get? b=some o→g2.get? b=some o:=fun b o hb e=>by
   simp only [List.mem_cons,List.not_mem_nil,or_false,not_or] at hb
   exact up b o hb.1 (b9 b o hb.1 hb.2.2.1 hb.2.2.2.1 hb.2.2.2.2 e)
  have nT:s.heap.objs.size≠N+4:=Nat.ne_of_gt zlt
  have I1:Inv X pins σ (upd H s.heap.objs.size (.tup [x,y])) { s with heap:=g2,toks:=tk }:=I.turnedN hk2 hf (Nat.le_refl _)
   ⟨by show 2≤sizeLine;decide,[v,v'],.cons ru (.cons ru' .nil),⟨_,up _ _ nT b7,rfl,_,rfl⟩⟩
  refine ⟨.ref s.heap.objs.size,_,I1,rfl,⟨_,x,y,I.fresh,rfl,rfl,fun zs hz=>by rw [I.sqB_inj hz q1];exact hx,fun zs hz=>by rw [I.sqB_inj hz q2];exact hy⟩,⟨z2,?_,⟨_,_,up _ _ (ane (a:=N+3) (b:=N+4) (by omega)) b4⟩,?_,?_⟩,fun b hb=>?_⟩
  ·exact up _ _ (ane (a:=N+2) (b:=N+4) (by omega)) (b9 _ _ (ane (a:=N+2) (b:=N+4) (by omega)) (ane (a:=N+2) (b:=N+3) (by omega)) (ane (a:=N+2) (b:=N) (by omega)) (ane (a:=N+2) (b:=N+1) (by omega)) s2)
  ·exact b5.1.at fun o e=>up _ o (ane (a:=N) (b:=N+4) (by omega)) e
  ·exact b6.1.at fun o e=>up _ o (ane (a:=N+1) (b:=N+4) (by omega)) e
  ·have hbl:b<s.heap.objs.size:=by
    have zl:N+4<s.heap.objs.size:=zlt
    simp only [List.mem_cons,List.not_mem_nil,or_false] at hb
    rcases hb with e | e | e | e | e<;>(rw [e];show (_:Nat)<_;omega)
   rw [upd_ne (Nat.ne_of_lt hbl)];exact (hf b hb).1
 done:=by
  intro X hP hw hK hc i pins s σ H E I hf st hg
  subst hP hw hK
  obtain ⟨xs,ys,q1,q2,hx⟩:=hg
  obtain ⟨s1,s2,⟨a,c,s3⟩,s4,s5⟩:=st
  obtain ⟨its,rv,p,_⟩:=I.sqB q1
  obtain ⟨jts,rw',p',_⟩:=I.sqB q2
  have hd:X.A.in1.handled=none:=I.ok.hd hc
  have D1:=drawsB (prog:=X.prog) (w:=X.w) (A:=X.A.in1) t1 hd N l1 (ane (.inl h1)) its.toArray
  have D2:=drawsB (prog:=X.prog) (w:=X.w) (A:=X.A.in1) t2 hd (N+1) l2 (ane (by omega)) jts.toArray
  refine nextZ_end D1 D2 (zap h1 h2) s1 s2 s3 ⟨s4,p⟩ ⟨s5,p'⟩ (k:=i) (by rw [List.size_toArray,List.size_toArray,← rv.length,← rw'.length];exact hx) fun g tk hk=>⟨rfl,I.turnedC (fun b o hb e=>?_) hf⟩
  simp only [List.mem_cons,List.not_mem_nil,or_false,not_or] at hb
  exact hk b o hb.1 hb.2.2.1 hb.2.2.2.1 hb.2.2.2.2 e
 self:=fun _ _ _ _ _ st q=>wpAny_pyIter_zip st.1 q
section
variable {X:Cx}
theorem pi_zip {a b:Expr} {ta:TA} {p pos p2:Pos} {elts:List Expr} {kx:Nat} (hg:Gl X "zip") (hm:X.mg "zip"=none) (ha:PA X [a,b] ta) (hs:starEach [a,b] X.env=[(false,eval a X.env),(false,eval b X.env)]) (hs2:starEach [b] X.env=[(false,eval b X.env)]) :
  PI X (.Tuple elts kx p2) (.Call (.Name "zip" p) [a,b] [] pos) (fun σ H R=>ta σ H fun vs H1=>∃ l1 l2 t1 t2 xs ys,vs=[.ref l1,.ref l2]∧SqB t1 X.K H1 l1 xs∧SqB t2 X.K H1 l2 ys∧R (Itz X.K t1 t2 l1 l2) H1):=by
 intro pins s σ H R I h
 refine Call_ (ld_blt I hg hm (show bootBuiltins "zip"=some (.type "zip") by decide +kernel) (PyProof.Rows.callWith_type1 (thn (ha pos pins s σ H _ I h) fun us s1 ⟨vs,H1,I1,r1,q1⟩=>?_) (by rw [hs,hs2]) (by rw [hs2];rfl)))
 obtain ⟨l1,l2,t1,t2,xs,ys,e,q1,q2,q⟩:=q1
 subst e
 obtain ⟨u,u',rfl,rx,ry⟩:=vals2 r1
 cases rx
 cases ry
 obtain ⟨its,rv,b1,lt1⟩:=I1.sqB q1
 obtain ⟨jts,rw',b2,lt2⟩:=I1.sqB q2
 have fin:∀ {g:Heap},IsZip g (s1.heap.objs.size+4) (s1.heap.objs.size+2) (s1.heap.objs.size+3) .none→IsPair g (s1.heap.objs.size+2) (.ref s1.heap.objs.size) (.ref (s1.heap.objs.size+1))→IsPair g (s1.heap.objs.size+3) .none .none →
   ItB t1 g s1.heap.objs.size l1 0→ItB t2 g (s1.heap.objs.size+1) l2 0→(∀ c o,s1.heap.get? c=some o→g.get? c=some o)→wpAny (model X.prog X.w) X.A (pyIter (.ref (s1.heap.objs.size+4))) (PIE X pins σ (.Tuple elts kx p2) R) X.xe { s1 with heap:=g }:=fun {g} y1 y2 y3 y4 y5 k=>by
  refine wpAny_pyIter_zip (s:={ s1 with heap:=g }) y1 ⟨_,_,_,_,H1,rfl,I1.kept (t':=s1.toks) k,turn_zip t1 t2 l1 l2 s1.heap.objs.size lt1 lt2,⟨y1,y2,⟨_,_,y3⟩,y4,y5⟩,fun b hb=>?_,q⟩
  have le:s1.heap.objs.size≤b:=by
   simp only [List.mem_cons,List.not_mem_nil,or_false] at hb
   rcases hb with e | e | e | e | e<;>(rw [e];show (_:Nat)≤_;omega)
  exact I1.fpOk le (I1.hok.fresh le)
 cases t1<;>cases t2
 ·exact call_zLL b1 b2 fun g y1 y2 y3 y4 y5 _ k=>fin y1 y2 y3 y4 y5 k
 ·exact call_zLT b1 b2 fun g y1 y2 y3 y4 y5 _ k=>fin y1 y2 y3 y4 y5 k
 ·exact call_zTL b1 b2 fun g y1 y2 y3 y4 y5 _ k=>fin y1 y2 y3 y4 y5 k
 ·exact call_zTT b1 b2 fun g y1 y2 y3 y4 y5 _ k=>fin y1 y2 y3 y4 y5 k
end
end L2
end
end
noncomputable section
noncomputable section
namespace Ev
open PySem PySem.Spec PyProof.Rows L2
section
variable {X:Cx} {c:Tc} {a b:Expr} {pos p:Pos}
structure Walk (K:PySem.W.Frag) (J:It) (ts:List T) (F':Hp):Prop where
 go:∀ (i:Nat) (H:Hp),i<ts.length→Same F' H→J.go i H
 yld:∀ (i:Nat) (H:Hp) (x:V) (H5 F:Hp) (t:T),ts[i]?=some t→Same F' F→Same F H→J.yld i H x H5→∃ F5,Step F H F5 H5∧Rep K F5 t x
 stop:∀ (H:Hp),Same F' H→J.stop ts.length H
def spI (X:Cx) (c:Tc) (f:Env→Option (List T)):TI:=fun σ H R=>∃ r F ts,EnvE X c r F σ H∧f r=some ts∧∀ J F' H',Step F H F' H'→Walk X.K J ts F'→R J H'
theorem pi_mono {tg it:Expr} {t t':TI} (h:PI X tg it t) (m:∀ σ H R,t' σ H R→t σ H R):PI X tg it t':=fun pins s σ H R I q=>h pins s σ H R I (m σ H R q)
theorem walk_list {K:PySem.W.Frag} {F':Hp} {l:Addr} {vs:List V} {ts:List T} (h1:Ls K F' l vs) (h2:Reps K F' ts vs):Walk K (Itl K l) ts F' where
 go:=fun i H hi sm=>by
  obtain ⟨v,hv,_⟩:=h2.get (List.getElem?_eq_getElem hi)
  exact ⟨vs,v,(Ls.same sm h1).sq,hv⟩
 yld:=fun i H x H5 F t ht sF fh y=>by
  obtain ⟨rfl,y⟩:=y
  obtain ⟨v,hv,hr⟩:=h2.get ht
  have e:=y vs ((Ls.same fh (Ls.same sF h1)).sq)
  rw [hv] at e
  cases e
  exact ⟨F,Step.refl fh,hr.mono sF⟩
 stop:=fun H sm=>⟨vs,(Ls.same sm h1).sq,by rw [h2.length];exact Nat.le_refl _⟩
theorem sqT_same {K:PySem.W.Frag} {F F':Hp} {a:Addr} {xs:List V} (e:Same F F') (h:SqT K F a xs):SqT K F' a xs:=by
 rcases h with h | h
 ·exact .inl (same_rd e h)
 ·exact .inr h
theorem walk_tup {K:PySem.W.Frag} {F':Hp} {l:Addr} {vs:List V} {ts:List T} (h1:Tq K F' l vs) (h2:Reps K F' ts vs):Walk K (Itt K l) ts F' where
 go:=fun i H hi sm=>by
  obtain ⟨v,hv,_⟩:=h2.get (List.getElem?_eq_getElem hi)
  exact ⟨vs,v,same_tup sm h1,hv⟩
 yld:=fun i H x H5 F t ht sF fh y=>by
  obtain ⟨rfl,y⟩:=y
  obtain ⟨v,hv,hr⟩:=h2.get ht
  have e:=y vs (same_tup (sF.trans fh) h1)
  rw [hv] at e
  cases e
  exact ⟨F,Step.refl fh,hr.mono sF⟩
 stop:=fun H sm=>⟨vs,same_tup sm h1,by rw [h2.length];exact Nat.le_refl _⟩
theorem range_get {n i:Nat} {t:T} (h:(rangeT n)[i]?=some t):i<n∧t=.int (i:Int):=by
 unfold rangeT at h
 rw [List.getElem?_map] at h
 obtain ⟨j,hj,e⟩:=oms h
 have:=ome hj
 obtain ⟨h1,h2⟩:=this
 rw [List.getElem_range] at h2
 subst h2
 exact ⟨by simpa using h1,e.symm⟩
theorem walk_range {K:PySem.W.Frag} {F':Hp} (n:Nat):Walk K (Itr 0 n) (rangeT n) F' where
 go:=fun i H hi _=>by
  have:i<n:=by simpa [rangeT] using hi
  exact this
 yld:=fun i H x H5 F t ht _ fh y=>by
  obtain ⟨rfl,rfl⟩:=y
  obtain ⟨_,rfl⟩:=range_get ht
  exact ⟨F,Step.refl fh,by show V.int (0+(i:Int))=V.int (i:Int);rw [Int.zero_add]⟩
 stop:=fun H _=>by show n≤(rangeT n).length;simp [rangeT]
theorem enum_get:∀ {ts:List T} {i j:Nat} {t:T},(enumT ts j)[i]?=some t→∃ u,ts[i]?=some u∧t=.tup [.int ((j+i:Nat):Int),u]
 | [],_,_,_,h=>by simp [enumT] at h
 | u::ts,0,j,t,h=>by simp [enumT] at h;exact ⟨u,rfl,by rw [← h];simp⟩
 | u::ts,i+1,j,t,h=>by
  simp only [enumT,List.getElem?_cons_succ] at h
  obtain ⟨w,h1,h2⟩:=enum_get (ts:=ts) (i:=i) (j:=j+1) h
  exact ⟨w,by simpa using h1,by rw [h2,show j+1+i=j+(i+1) by omega]⟩
theorem enum_len:∀ (ts:List T) (j:Nat),(enumT ts j).length=ts.length
 | [],_=>rfl
 | _::ts,j=>by simp [enumT,enum_len ts (j+1)]
theorem walk_enum {K:PySem.W.Frag} {F':Hp} {l:Addr} {vs:List V} {ts:List T} {sq:Hp→Addr→List V→Prop} (mono:∀ {F G:Hp} {xs:List V},Same F G→sq F l xs→sq G l xs) (h1:sq F' l vs) (h2:Reps K F' ts vs):Walk K (Ite sq l) (enumT ts 0) F' where
 go:=fun i H hi sm=>by
  rw [enum_len] at hi
  obtain ⟨v,hv,_⟩:=h2.get (List.getElem?_eq_getElem hi)
  exact ⟨vs,v,mono sm h1,hv⟩
 yld:=fun i H x H5 F t ht sF fh y=>by
  obtain ⟨p,v,hp,rfl,rfl,y⟩:=y
  obtain ⟨u,hu,rfl⟩:=enum_get ht
  obtain ⟨w,hw,hr⟩:=h2.get hu
  have e:=y vs (mono fh (mono sF h1))
  rw [hw] at e
  cases e
  have st:=(Step.refl fh).new (o:=.tup [.int (i:Int),v]) hp
  refine ⟨_,st,p,_,rfl,upd_same,.int (i:Int),[v],rfl,?_,v,[],rfl,(hr.mono sF).mono st.ff,rfl⟩
  show V.int (i:Int)=V.int ((0+i:Nat):Int)
  rw [Nat.zero_add]
 stop:=fun H sm=>⟨vs,mono sm h1,by rw [enum_len,h2.length]⟩
theorem ok_walk {tg:Expr} {f:Env→Option T} (ha:Oke X c a f):PI X tg a (spI X c fun r=>(f r).bind fun x=>items .plain [x]):=by
 refine pi_mono (pi_seq ha) fun σ H R q=>?_
 obtain ⟨r,F,ts,e,ht,q⟩:=q
 obtain ⟨t,e1,ht⟩:=obs ht
 refine ⟨r,F,t,e,e1,fun v F' H' s1 r1=>?_⟩
 cases t with
 | tup us =>
  cases ht
  obtain ⟨l,vs,rfl,h1,h2⟩:=r1
  exact ⟨l,rfl,.inr ⟨vs,same_tup s1.fh h1,q _ F' H' s1 (walk_tup h1 h2)⟩⟩
 | lst us =>
  cases ht
  obtain ⟨l,vs,rfl,h1,h2⟩:=r1
  exact ⟨l,rfl,.inl ⟨vs,(Ls.same s1.fh h1).sq,q _ F' H' s1 (walk_list h1 h2)⟩⟩
 | _=>cases ht
theorem ok_range {G:Glo} {k:Nat} (gd:Gd X c G k) {tg:Expr} {f:Env→Option T} (hg:glB c.sc "range"=true) (ha:Oke X c a f) (hs:starEach [a] X.env=[(false,eval a X.env)]) :
  PI X tg (.Call (.Name "range" p) [a] [] pos) (spI X c fun r=>(f r).bind fun x=>items .range [x]):=by
 refine pi_mono (pi_range1 (gd.gl _ hg) (gd.nob _ (by decide +kernel)) (one_arg ha hs) hs) fun σ H R q=>?_
 obtain ⟨r,F,ts,e,ht,q⟩:=q
 obtain ⟨t,e1,ht⟩:=obs ht
 refine ⟨r,F,[t],e,Option.bind_eq_some_iff.mpr ⟨t,e1,rfl⟩,fun vs F' H' s1 r1=>?_⟩
 obtain ⟨v,w,rfl,h1,h2⟩:=r1
 cases h2
 cases t with
 | int n =>
  cases h1
  simp only [items] at ht
  split at ht
  ·rename_i hz
   cases ht
   have e62:(2:Int) ^ 62=4611686018427387904:=by decide
   exact ⟨n,rfl,by rw [e62];exact hz.1,by rw [e62];exact hz.2,q _ F' H' s1 (walk_range _)⟩
  ·cases ht
 | _=>cases ht
theorem ok_enum {G:Glo} {k:Nat} (gd:Gd X c G k) {elts:List Expr} {kx:Nat} {p2:Pos} {f:Env→Option T} (hg:glB c.sc "enumerate"=true) (ha:Oke X c a f) (hs:starEach [a] X.env=[(false,eval a X.env)]) :
  PI X (.Tuple elts kx p2) (.Call (.Name "enumerate" p) [a] [] pos) (spI X c fun r=>(f r).bind fun x=>items .enum [x]):=by
 refine pi_mono (pi_enum (gd.gl _ hg) (gd.nob _ (by decide +kernel)) (one_arg ha hs) hs) fun σ H R q=>?_
 obtain ⟨r,F,ts,e,ht,q⟩:=q
 obtain ⟨t,e1,ht⟩:=obs ht
 refine ⟨r,F,[t],e,Option.bind_eq_some_iff.mpr ⟨t,e1,rfl⟩,fun vs F' H' s1 r1=>?_⟩
 obtain ⟨v,w,rfl,h1,h2⟩:=r1
 cases h2
 cases t with
 | tup us =>
  cases ht
  obtain ⟨l,vs,rfl,h1,h2⟩:=h1
  exact ⟨l,rfl,.inr ⟨vs,same_tup s1.fh h1,q _ F' H' s1 (walk_enum (sq:=SqT X.K) (fun e h=>sqT_same e h) (SqT.of h1) h2)⟩⟩
 | lst us =>
  cases ht
  obtain ⟨l,vs,rfl,h1,h2⟩:=h1
  exact ⟨l,rfl,.inl ⟨vs,(Ls.same s1.fh h1).sq,q _ F' H' s1 (walk_enum (sq:=SqL X.K) (fun e h=>e.seq h) h1.sq h2)⟩⟩
 | _=>cases ht
theorem zip_len:∀ (xs ys:List T),(zipT xs ys).length=min xs.length ys.length
 | [],_=>by simp [zipT]
 | _::_,[]=>by simp [zipT]
 | x::xs,y::ys=>by simp only [zipT,List.length_cons,zip_len xs ys];omega
theorem zip_at:∀ {xs ys:List T} {i:Nat} {t:T},(zipT xs ys)[i]?=some t→∃ x y,xs[i]?=some x∧ys[i]?=some y∧t=.tup [x,y]
 | [],_,_,_,h=>by simp [zipT] at h
 | _::_,[],_,_,h=>by simp [zipT] at h
 | x::xs,y::ys,0,t,h=>by simp [zipT] at h;exact ⟨x,y,rfl,rfl,h.symm⟩
 | x::xs,y::ys,i+1,t,h=>by
  simp only [zipT,List.getElem?_cons_succ] at h
  obtain ⟨u,v,h1,h2,h3⟩:=zip_at h
  exact ⟨u,v,by simpa using h1,by simpa using h2,h3⟩
theorem sqB_of {K:PySem.W.Frag} {F:Hp} {t:T} {ts:List T} {v:V} (h:seqOf t=some ts) (r:Rep K F t v):∃ b l vs,v=.ref l∧Reps K F ts vs∧∀ H,Same F H→SqB b K H l vs:=by
 cases t with
 | tup us=>cases h;obtain ⟨l,vs,rfl,h1,h2⟩:=r;exact ⟨true,l,vs,rfl,h2,fun H sm=>same_tup sm h1⟩
 | lst us=>cases h;obtain ⟨l,vs,rfl,h1,h2⟩:=r;exact ⟨false,l,vs,rfl,h2,fun H sm=>(Ls.same sm h1).sq⟩
 | _=>cases h
theorem walk_zip {K:PySem.W.Frag} {F':Hp} {b1 b2:Bool} {l1 l2:Addr} {vs ws:List V} {xs ys:List T} (q1:∀ H,Same F' H→SqB b1 K H l1 vs) (q2:∀ H,Same F' H→SqB b2 K H l2 ws) (h1:Reps K F' xs vs) (h2:Reps K F' ys ws):Walk K (Itz K b1 b2 l1 l2) (zipT xs ys) F' where
 go:=fun i H hi sm=>by
  rw [zip_len] at hi
  obtain ⟨v,hv,_⟩:=h1.get (List.getElem?_eq_getElem (show i<xs.length by omega))
  obtain ⟨u,hu,_⟩:=h2.get (List.getElem?_eq_getElem (show i<ys.length by omega))
  exact ⟨vs,ws,v,u,q1 H sm,q2 H sm,hv,hu⟩
 yld:=fun i H x H5 F t ht sF fh y=>by
  obtain ⟨p,v,u,hp,rfl,rfl,y1,y2⟩:=y
  obtain ⟨a,b,ha,hb,rfl⟩:=zip_at ht
  obtain ⟨va,hva,ra⟩:=h1.get ha
  obtain ⟨vb,hvb,rb⟩:=h2.get hb
  have e1:=y1 vs (q1 H (sF.trans fh))
  have e2:=y2 ws (q2 H (sF.trans fh))
  rw [hva] at e1
  rw [hvb] at e2
  cases e1
  cases e2
  have st:=(Step.refl fh).new (o:=.tup [v,u]) hp
  exact ⟨_,st,p,_,rfl,upd_same,v,[u],rfl,(ra.mono sF).mono st.ff,u,[],rfl,(rb.mono sF).mono st.ff,rfl⟩
 stop:=fun H sm=>⟨vs,ws,q1 H sm,q2 H sm,by rw [zip_len,h1.length,h2.length];omega⟩
theorem ok_zip {G:Glo} {k:Nat} (gd:Gd X c G k) {b:Expr} {elts:List Expr} {kx:Nat} {p2:Pos} {f g:Env→Option T} (hg:glB c.sc "zip"=true) (ha:Oke X c a f) (hb:Oke X c b g) (hs:starEach [a,b] X.env=[(false,eval a X.env),(false,eval b X.env)]) (hs2:starEach [b] X.env=[(false,eval b X.env)]) :
  PI X (.Tuple elts kx p2) (.Call (.Name "zip" p) [a,b] [] pos) (spI X c fun r=>(f r).bind fun x=>(g r).bind fun y=>items .zip [x,y]):=by
 refine pi_mono (pi_zip (gd.gl _ hg) (gd.nob _ (by decide +kernel)) (ok_cons ha (one_arg hb hs2) (by rw [hs,hs2])) hs hs2) fun σ H R q=>?_
 obtain ⟨r,F,ts,e,ht,q⟩:=q
 obtain ⟨t1,e1,ht⟩:=obs ht
 obtain ⟨t2,e2,ht⟩:=obs ht
 refine ⟨r,F,[t1,t2],e,Option.bind_eq_some_iff.mpr ⟨t1,e1,Option.bind_eq_some_iff.mpr ⟨[t2],Option.bind_eq_some_iff.mpr ⟨t2,e2,rfl⟩,rfl⟩⟩,fun vs F' H' s1 r1=>?_⟩
 obtain ⟨v,w1,rfl,r1,w,w2,rfl,r2,r3⟩:=r1
 cases r3
 obtain ⟨xs,x1,ht⟩:=obs ht
 obtain ⟨ys,y1,ht⟩:=obs ht
 cases ht
 obtain ⟨b1,l1,vs1,rfl,a1,a2⟩:=sqB_of x1 r1
 obtain ⟨b2,l2,vs2,rfl,a3,a4⟩:=sqB_of y1 r2
 exact ⟨l1,l2,b1,b2,vs1,vs2,rfl,a2 H' s1.fh,a4 H' s1.fh,q _ F' H' s1 (walk_zip a2 a4 a1 a3)⟩
def setV:List Nat→List V→L2.St→L2.St
 | i::is,v::vs,σ=>setV is vs (σ.set i (some v))
 | _,_,σ=>σ
def gL:List Nat→TGs
 | []=>gNil
 | i::is=>gCons (gName i) (gL is)
theorem gL_of:∀ {is:List Nat} {vs:List V} {σ:L2.St} {H:Hp} {Q:L2.St→Hp→Prop},vs.length=is.length→Q (setV is vs σ) H→gL is vs σ H Q
 | [],[],_,_,_,_,q=>⟨rfl,q⟩
 | [],_::_,_,_,_,h,_=>by simp at h
 | _::_,[],_,_,_,h,_=>by simp at h
 | i::is,v::vs,σ,H,Q,h,q=>⟨v,vs,rfl,gL_of (is:=is) (by simpa using h) q⟩
structure At (X:Cx) (x:Str) (i:Nat):Prop where
 ix:X.N[i]?=some x
 loc:Loc X.env.scope x
 fn:X.fn x=true∨X.env.scope.names.lookup x=some .local
inductive Ats (X:Cx):List Str→List Nat→Prop
 | nil:Ats X [] []
 | cons {x:Str} {i:Nat} {xs:List Str} {is:List Nat}:At X x i→Ats X xs is→Ats X (x::xs) (i::is)
theorem names_ok (hN:X.N.Nodup):∀ {es:List Expr} {xs:List Str} {is:List Nat},(es.mapM fun e=>match e with | .Name x _=>some x | _=>none)=some xs→Ats X xs is →
  PGs X es (gL is)∧(assignEach es X.env).length=xs.length∧(assignEach es X.env).findIdx? (·.1)=none
 | [],xs,is,h,ha=>by
  have e:xs=[]:=by simpa using h.symm
  subst e
  cases ha
  exact ⟨pgs_nil,rfl,rfl⟩
 | e::es,xs,is,h,ha=>by
  rw [List.mapM_cons] at h
  obtain ⟨x,h1,h⟩:=obs h
  obtain ⟨xs',h2,h⟩:=obs h
  cases h
  cases ha with
  | cons a1 a2 =>
   obtain ⟨q1,q2,q3⟩:=names_ok hN (es:=es) h2 a2
   cases e with
   | Name y pos =>
    cases h1
    refine ⟨pgs_cons (pg_name hN a1.ix a1.loc a1.fn) q1 rfl,?_,?_⟩
    ·show (assignEach es X.env).length+1=xs'.length+1
     rw [q2]
    ·show List.findIdx? (·.1) ((false,_)::assignEach es X.env)=none
     rw [List.findIdx?_cons]
     simp [q3]
   | _=>cases h1
def gT (K:PySem.W.Frag) (one:Bool) (is:List Nat):TG:=fun v σ H Q =>
 match one,is with
 | true,[i]=>Q (σ.set i (some v)) H
 | true,_=>False
 | false,is=>∃ a vs,v=.ref a∧SqT K H a vs∧vs.length=is.length∧Q (setV is vs σ) H
theorem ats_len:∀ {xs:List Str} {is:List Nat},Ats X xs is→xs.length=is.length
 | _,_,.nil=>rfl
 | _,_,.cons _ h=>by simp [ats_len h]
theorem tg_ok (hN:X.N.Nodup) (hc:X.calm=true) {tg:Expr} {xs:List Str} {is:List Nat} (h:tgNames tg=some xs) (ha:Ats X xs is):PG X tg (gT X.K (!isTupE tg) is):=by
 cases tg with
 | Name x pos =>
  cases h
  cases ha with
  | cons a1 a2 =>
   cases a2
   exact pg_name hN a1.ix a1.loc a1.fn
 | Tuple es k pos =>
  obtain ⟨q1,q2,q3⟩:=names_ok hN h ha
  intro pins s σ H v u Q I r hw
  obtain ⟨a,vs,rfl,h1,h2,q⟩:=hw
  exact pg_tup hc q1 (q2.trans (ats_len ha)) q3 pins s σ H _ u Q I r ⟨a,vs,rfl,h1,h2,gL_of h2 q⟩
 | _=>cases h
end
section
variable {M:Program} {W:World} {A:Around} {E:Value→Shared→Prop}
end
section
variable {X:Cx}
end
end Ev
end
end
noncomputable section
noncomputable section
namespace Ev
open PySem PySem.Spec PyProof.Rows L2
theorem nameIx_get:∀ {l:List Str} {x:Str} {i:Nat},nameIx l x=some i→l[i]?=some x
 | [],_,_,h=>by cases h
 | y::r,x,i,h=>by
  unfold nameIx at h
  split at h
  ·rename_i e
   cases h
   rw [eq_of_beq e];rfl
  ·obtain ⟨j,hj,rfl⟩:=oms h
   simpa using nameIx_get hj
theorem nameIx_app:∀ {l r:List Str} {x:Str} {i:Nat},nameIx (l++r) x=some i→(nameIx l x=some i∧i<l.length)∨(x∉l∧l.length≤i∧nameIx r x=some (i-l.length))
 | [],r,x,i,h=>.inr ⟨by simp,Nat.zero_le _,by simpa using h⟩
 | y::l,r,x,i,h=>by
  rw [List.cons_append,nameIx] at h
  split at h
  ·rename_i e
   cases h
   left
   rw [nameIx,if_pos e]
   exact ⟨rfl,by simp⟩
  ·rename_i e
   obtain ⟨j,hj,rfl⟩:=oms h
   rcases nameIx_app hj with ⟨h1,h2⟩ | ⟨h1,h2,h3⟩
   ·left
    rw [nameIx,if_neg e,h1]
    exact ⟨rfl,by simpa using h2⟩
   ·right
    refine ⟨fun z=>?_,by simpa using h2,?_⟩
    ·rcases omc z with q | q
     ·exact e (by rw [q];exact beq_self_eq_true _)
     ·exact h1 q
    ·rw [h3,List.length_cons,show j+1-(l.length+1)=j-l.length by omega]
theorem nodupB_of:∀ {xs:List Str},nodupB xs=true→xs.Nodup
 | [],_=>List.nodup_nil
 | x::r,h=>by
  simp only [nodupB,Bool.and_eq_true,Bool.not_eq_true'] at h
  refine List.nodup_cons.mpr ⟨fun z=>?_,nodupB_of h.2⟩
  have:=h.1
  rw [List.contains_iff_mem.mpr z] at this
  cases this
structure CsB (out sc:Scope) (xs:List Str):Prop where
 kind:sc.kind=.function
 nd:xs.Nodup
 own:∀ x∈xs,plainName x=true∧(sc.names.lookup x=some .local∨sc.names.lookup x=some .cell)
 free:∀ y∈sc.names,y.2=.free→sc.names.lookup y.1=some .free∧(out.names.lookup y.1=some .cell∨out.names.lookup y.1=some .free)
 loc:∀ y∈sc.names,y.2=.local→sc.names.lookup y.1=some .local∧(y.1∈xs∨y.1=".0")
 cel:∀ y∈sc.names,y.2=.cell→sc.names.lookup y.1=some .cell∧y.1∈xs
theorem csB_of {out sc:Scope} {xs:List Str} (h:compScope out sc xs=true):CsB out sc xs:=by
 simp only [compScope,Bool.and_eq_true] at h
 obtain ⟨⟨⟨h1,h2⟩,h3⟩,h4⟩:=h
 have all:=oml h4
 refine ⟨by simpa using h1,nodupB_of h2,fun x hx=>?_,fun y hy e=>?_,fun y hy e=>?_,fun y hy e=>?_⟩
 ·have:=oml h3 x hx
  simp only [Bool.and_eq_true,Bool.or_eq_true,beq_iff_eq] at this
  exact this
 ·have:=all y hy
  rw [e] at this
  simp only [Bool.and_eq_true,Bool.or_eq_true,beq_iff_eq] at this
  exact this
 ·have:=all y hy
  rw [e] at this
  simp only [Bool.and_eq_true,Bool.or_eq_true,beq_iff_eq] at this
  exact ⟨this.1,this.2.imp (fun z=>List.contains_iff_mem.mp z) id⟩
 ·have:=all y hy
  rw [e] at this
  simp only [Bool.and_eq_true,beq_iff_eq] at this
  exact ⟨this.1,List.contains_iff_mem.mp this.2⟩
section
variable {X:Cx} {c:Tc} {G:Glo} {k:Nat} {scope:Scope} {xs:List Str} {pins:List (Addr × Obj)} {fp:List Addr} {s₃:Shared} {H₃:Hp}
theorem CsB.sc (S:CsB c.sc scope xs) (gd:Gd X c G k):CompSc X scope xs :=
 ⟨S.kind,S.nd,fun x hx=>(S.own x hx).2,fun y hy e=>⟨(S.free y hy e).1,gd.cap y.1 (S.free y hy e).2⟩,fun y hy e=>(S.loc y hy e).1,fun y hy e=>(S.cel y hy e).1⟩
theorem capN_nd {N:List Str} (h:N.Nodup):(capN scope N).Nodup:=h.sublist List.filter_sublist
theorem blk_nd (S:CsB c.sc scope xs) (gd:Gd X c G k):(xs++capN scope X.N).Nodup:=by
 refine List.nodup_append.mpr ⟨S.nd,capN_nd gd.nd,fun x hx y hy e=>?_⟩
 subst e
 have h1:=(S.own x hx).2
 have h2:scope.names.lookup x=some .free:=by
  have:=(List.mem_filter.mp hy).2
  simpa using this
 rw [h2] at h1
 rcases h1 with z | z<;>cases z
theorem blk_gd (S:CsB c.sc scope xs) (gd:Gd X c G k):Gd (blk X pins scope xs fp s₃ H₃) ⟨scope,xs++c.nm⟩ G k where
 room:=gd.room
 calm:=gd.calm
 nob:=gd.nob
 call:=gd.call
 con:=gd.con
 vis:=fun x h=>by
  show (blk X pins scope xs fp s₃ H₃).env.scope.names.lookup x=_∨(blk X pins scope xs fp s₃ H₃).env.scope.names.lookup x=_∨(blk X pins scope xs fp s₃ H₃).env.scope.names.lookup x=_
  rw [blk_kind]
  have h:visB scope x=true:=h
  unfold visB at h
  cases e:scope.names.lookup x with
  | none=>rw [e] at h;cases h
  | some q =>
   rw [e] at h
   cases q with
   | «local»=>exact .inl rfl
   | cell=>exact .inr (.inl rfl)
   | free =>
    dsimp only
    split
    ·exact .inr (.inl rfl)
    ·exact .inr (.inr rfl)
   | _=>cases h
 gl:=fun x h=>by
  show (blk X pins scope xs fp s₃ H₃).env.scope.names.lookup x=_
  rw [blk_kind]
  have h:scope.names.lookup x=some .globalImplicit:=by simpa [glB] using h
  rw [h]
 cap:=fun x h=>by
  show (blk X pins scope xs fp s₃ H₃).env.scope.names.lookup x=_∨(blk X pins scope xs fp s₃ H₃).env.scope.names.lookup x=_
  rw [blk_kind]
  have h:scope.names.lookup x=some .cell∨scope.names.lookup x=some .free:=h
  rcases h with h | h<;>rw [h]
  ·exact .inl rfl
  ·dsimp only
   split
   ·exact .inl rfl
   ·exact .inr rfl
 nd:=blk_nd S gd
theorem blk_ats (S:CsB c.sc scope xs):∀ (l:List Str) (n:Nat),(∀ (j:Nat) (x:Str),l[j]?=some x→xs[n+j]?=some x)→Ats (blk X pins scope xs fp s₃ H₃) l (List.range' n l.length)
 | [],_,_=>.nil
 | x::l,n,h=>by
  have h0:xs[n]?=some x:=by simpa using h 0 x rfl
  have hx:x∈xs:=List.mem_of_getElem? h0
  have own:=(S.own x hx).2
  have hn:n<xs.length:=(ome h0).1
  rw [List.length_cons,List.range'_succ]
  refine .cons ⟨?_,?_,?_⟩ (blk_ats S l (n+1) fun j y e=>by have:=h (j+1) y (by simpa using e);rwa [show n+(j+1)=n+1+j by omega] at this)
  ·show (xs++capN scope X.N)[n]?=some x
   rw [List.getElem?_append_left hn];exact h0
  ·show (blk X pins scope xs fp s₃ H₃).env.scope.names.lookup x=_∨(blk X pins scope xs fp s₃ H₃).env.scope.names.lookup x=_
   rw [blk_kind]
   rcases own with e | e<;>rw [e]
   ·exact .inl rfl
   ·exact .inr rfl
  ·rcases own with e | e
   ·right
    rw [blk_kind,e]
   ·left
    show (scope.names.lookup x==some .cell)=true
    rw [e];rfl
theorem blk_env (S:CsB c.sc scope xs) {r:Env} {F:Hp} {σ:L2.St} {H Hc:Hp} (e:EnvE X c r F σ H) (hl:σ.length=X.N.length) {ts:List T} {vs:List V} (ht:ts.length=xs.length) (rv:Reps X.K F ts vs) (fh:Same F Hc) (tb:Tbk X.K F Hc) :
  EnvE (blk X pins scope xs fp s₃ H₃) ⟨scope,xs++c.nm⟩ (ts.map some++r) F (vs.map some++capS scope X.N σ) Hc where
 fh:=fh
 tb:=tb
 get:=fun x i t hpn hi hv hr=>by
  have hvl:vs.length=xs.length:=by rw [rv.length,ht]
  have hv:visB scope x=true:=hv
  rcases nameIx_app (show nameIx (xs++c.nm) x=some i from hi) with ⟨h1,h2⟩ | ⟨h1,h2,h3⟩
  ·have hi':i<ts.length:=by omega
   rw [List.getElem?_append_left (by simpa using hi'),List.getElem?_map] at hr
   obtain ⟨t',ht',e'⟩:=oms hr
   cases e'
   obtain ⟨v,hv1,hv2⟩:=rv.get ht'
   refine ⟨i,v,?_,?_,hv2⟩
   ·show (xs++capN scope X.N)[i]?=some x
    rw [List.getElem?_append_left h2]
    exact nameIx_get h1
   ·rw [List.getElem?_append_left (by simp;omega),List.getElem?_map,hv1];rfl
  ·rw [List.getElem?_append_right (by simp;omega)] at hr
   have hr':r[i-xs.length]?=some (some t):=by simpa [ht] using hr
   have hfree:scope.names.lookup x=some .free:=by
    unfold visB at hv
    cases q:scope.names.lookup x with
    | none=>rw [q] at hv;cases hv
    | some kd =>
     rw [q] at hv
     cases kd with
     | free=>rfl
     | «local» =>
      have:=(S.loc _ (mem_names q) rfl).2
      rcases this with z | z
      ·exact absurd z h1
      ·rw [show x=".0" from z] at hpn;exact absurd hpn (by decide +kernel)
     | cell=>exact absurd (S.cel _ (mem_names q) rfl).2 h1
     | _=>cases hv
   have hout:visB c.sc x=true:=by
    rcases (S.free _ (mem_names hfree) rfl).2 with z | z<;>simp [visB,z]
   obtain ⟨j,v,g1,g2,g3⟩:=e.get x (i-xs.length) t hpn h3 hout hr'
   obtain ⟨m,m1,m2⟩:=cap_get scope hfree X.N σ hl g1 g2
   refine ⟨xs.length+m,v,?_,?_,g3⟩
   ·show (xs++capN scope X.N)[xs.length+m]?=some x
    rw [List.getElem?_append_right (by omega)]
    simpa using m1
   ·rw [List.getElem?_append_right (by simp;omega)]
    simpa [hvl] using m2
end
end Ev
end
end
noncomputable section
noncomputable section
namespace Ev
open PySem PySem.Spec PyProof.Rows L2
theorem setV_range:∀ (vs:List V) (front pre rest:L2.St),pre.length=vs.length→setV (List.range' front.length vs.length) vs (front++pre++rest)=front++vs.map some++rest
 | [],front,pre,rest,h=>by
  cases pre with
  | nil=>simp [setV]
  | cons _ _=>simp at h
 | v::vs,front,pre,rest,h=>by
  cases pre with
  | nil=>simp at h
  | cons p pre =>
   rw [List.length_cons,List.range'_succ,setV]
   have e:(front++(p::pre)++rest).set front.length (some v)=(front++[some v])++pre++rest:=by
    rw [List.append_assoc,List.set_append,if_neg (Nat.lt_irrefl _)]
    simp
   have e2:(front++[some v]).length=front.length+1:=by simp
   rw [e,← e2,setV_range vs (front++[some v]) pre rest (by simpa using h)]
   simp
def spC (X:Cx) (c:Tc) (fc:Env→Option Bool):TT:=fun σ H Q=>∃ r F b,EnvE X c r F σ H∧fc r=some b∧∀ F' H',Step F H F' H'→Q b H'
def elM (n:Nat) (r:Env) (fc:Env→Option Bool) (fe:Env→Option T):T→Option (Option T):=fun x=>(bnd n x r).bind fun r'=>(fc r').bind fun b=>if b=true then (fe r').map some else some none
section
variable {X:Cx} {c:Tc} {G:Glo} {k:Nat} {scope:Scope} {xs:List Str}
theorem comp_tree {elt iter tg:Expr} {ifs:List Expr} {pos:Pos} {fe:Env→Option T} {fc:Env→Option Bool} (gd:Gd X c G k) (S:CsB c.sc scope xs) (htg:tgNames tg=some xs) (h2n:isTupE tg=true→2≤xs.length)
  (he:∀ pins fp s₃ H₃,Gd (blk X pins scope xs fp s₃ H₃) ⟨scope,xs++c.nm⟩ G k→Oke (blk X pins scope xs fp s₃ H₃) ⟨scope,xs++c.nm⟩ elt fe)
  (hi:∀ pins fp s₃ H₃,Gd (blk X pins scope xs fp s₃ H₃) ⟨scope,xs++c.nm⟩ G k→∀ (pn:List (Addr × Obj)) (s:Shared) (σ:L2.St) (H:Hp) (Q:Bool→Hp→Prop),L2.Inv (blk X pins scope xs fp s₃ H₃) pn σ H s→spC (blk X pins scope xs fp s₃ H₃) ⟨scope,xs++c.nm⟩ fc σ H Q →
   wpAny (model X.prog X.w) X.A (forIn ifs true fun c r=>if r=true then do let ok ← isTrue c (blk X pins scope xs fp s₃ H₃).env (eval c (blk X pins scope xs fp s₃ H₃).env);pure (ForInStep.yield ok) else pure (ForInStep.yield r)) (TP (blk X pins scope xs fp s₃ H₃) pn σ Q) (fun _ _=>False) s)
  {pins:List (Addr × Obj)} {fp:List Addr} {σ:L2.St} {H2 F2:Hp} {s2:Shared} {J:It} {it:Addr} {tn:Nat→Heap→Prop} {E:Value→Shared→Prop} {ts total:List T} {r:Env}
  (I2:L2.Inv X pins σ H2 s2) (Tn:Turn X.prog X.w X.K tg J fp it tn) (st2:tn 0 s2.heap) (f2:∀ b∈fp,FpOk X pins H2 b) (wk:Walk X.K J ts F2) (e2:EnvE X c r F2 σ H2) (hts:ts.length≤SZ) (hcm:compM (elM xs.length r fc fe) ts=some total) :
  wpAny (model X.prog X.w) X.A (newList []) (fun acc s₃=>wpAny (model X.prog X.w) X.A (newFunctionEnv scope X.env.globals (closFrom X.env scope.names []) [] X.env.qual none .none (some X.env)) (fun cenv s₄ =>
   codeAny (model X.prog X.w) X.A (.compStart (.ListComp elt [⟨tg,iter,ifs,0⟩] scope pos) 0 (.ref it) acc { cenv with scope:=relabel scope X.env })
    (fun r s'=>r=.ok .next∧∃ D H',acc=.ref D∧L2.Inv X pins σ H' s'∧FpOk X pins H' cenv.locals∧(∃ m,s'.heap.Ns cenv.locals m) ∧
     ∃ F vs,Step F2 H2 F H'∧F D=none∧H2 D=none∧H' D=some (.lst vs)∧Reps X.K F total vs) s₄) E s₃) E s2:=by
 have hl:σ.length=X.N.length:=I2.len
 have gb:∀ s₃ H₃,Gd (blk X pins scope xs fp s₃ H₃) ⟨scope,xs++c.nm⟩ G k:=fun s₃ H₃=>blk_gd S gd
 have hat:∀ s₃ H₃,Ats (blk X pins scope xs fp s₃ H₃) xs (List.range' 0 xs.length):=fun s₃ H₃=>blk_ats S xs 0 fun j x e=>by rw [Nat.zero_add];exact e
 refine comp_run (g:=fun _ _=>gT X.K (!isTupE tg) (List.range' 0 xs.length)) (tc:=fun s₃ H₃=>spC (blk X pins scope xs fp s₃ H₃) ⟨scope,xs++c.nm⟩ fc) (te:=fun s₃ H₃=>spE (blk X pins scope xs fp s₃ H₃) ⟨scope,xs++c.nm⟩ fe)
  gd.calm (S.sc gd) I2 Tn st2 f2 (fun s₃ H₃ _=>tg_ok (X:=blk X pins scope xs fp s₃ H₃) (gb s₃ H₃).nd gd.calm htg (hat s₃ H₃)) (fun s₃ H₃ _=>hi pins fp s₃ H₃ (gb s₃ H₃)) (fun s₃ H₃ _=>he pins fp s₃ H₃ (gb s₃ H₃))
  (fun D i m σ' H'=>i≤ts.length∧m=ts.length-i∧(∃ pre:L2.St,σ'=pre++capS scope X.N σ∧pre.length=xs.length)∧∃ F vs rs rest,Step F2 H2 F H'∧F D=none∧H2 D=none∧H' D=some (.lst vs)∧Reps X.K F rs vs∧vs.length≤i∧compM (elM xs.length r fc fe) (ts.drop i)=some rest∧rs++rest=total)
  (fun D H'=>∃ F vs,Step F2 H2 F H'∧F D=none∧H2 D=none∧H' D=some (.lst vs)∧Reps X.K F total vs) ?_ ?_
 ·intro D hD
  exact ⟨ts.length,Nat.zero_le _,rfl,⟨_,rfl,by simp⟩,F2,[],[],total,(Step.refl e2.fh).newH hD,e2.fh.free hD,hD,upd_same,rfl,Nat.le_refl _,hcm,rfl⟩
 ·rintro s₃ H₃ D i m σ' H' BOk ⟨hi1,rfl,⟨pre,rfl,hpre⟩,F,vs,rs,rest,st,hF,hH2,hH',hrs,hvl,hcr,htot⟩
  have sm:Same F2 H':=st.ff.trans st.fh
  by_cases hlt:i<ts.length
  ·right
   have hti:ts[i]?=some ts[i]:=List.getElem?_eq_getElem hlt
   generalize hT:ts[i]=t at hti
   rw [List.drop_eq_getElem_cons hlt,hT,compM] at hcr
   obtain ⟨o,ho,hcr⟩:=obs hcr
   obtain ⟨rest',hr',hcr⟩:=obs hcr
   obtain ⟨r',hb,ho⟩:=obs (show (bnd xs.length t r).bind _=some o from ho)
   obtain ⟨bb,hfc,ho⟩:=obs ho
   refine ⟨wk.go i H' hlt sm,fun σ'' H''=>i+1≤ts.length∧(∃ pre:L2.St,σ''=pre++capS scope X.N σ∧pre.length=xs.length)∧∃ F vs rs rest,Step F2 H2 F H''∧F D=none∧H2 D=none∧H'' D=some (.lst vs)∧Reps X.K F rs vs∧vs.length≤i+1∧compM (elM xs.length r fc fe) (ts.drop (i+1))=some rest∧rs++rest=total,?_,?_⟩
   ·rintro σ'' H'' ⟨a1,a2,a3⟩
    exact ⟨ts.length-(i+1),by omega,a1,rfl,a2,a3⟩
   ·intro x H5 y
    obtain ⟨F5,st5,r5⟩:=wk.yld i H' x H5 F t hti st.ff st.fh y
    have cont:∀ (us:List T) (ws:List V),us.length=xs.length→Reps X.K F5 us ws→r'=us.map some++r→(spC (blk X pins scope xs fp s₃ H₃) ⟨scope,xs++c.nm⟩ fc) (ws.map some++capS scope X.N σ) H5 fun ok H7=>if ok=true then (spE (blk X pins scope xs fp s₃ H₃) ⟨scope,xs++c.nm⟩ fe) (ws.map some++capS scope X.N σ) H7 fun y H8=>∃ ys,H8 D=some (.lst ys)∧ys.length<sizeLine ∧
      (i+1≤ts.length∧(∃ pre:L2.St,ws.map some++capS scope X.N σ=pre++capS scope X.N σ∧pre.length=xs.length)∧∃ F vs rs rest,Step F2 H2 F (upd H8 D (.lst (ys++[y])))∧F D=none∧H2 D=none∧upd H8 D (.lst (ys++[y])) D=some (.lst vs)∧Reps X.K F rs vs∧vs.length≤i+1∧compM (elM xs.length r fc fe) (ts.drop (i+1))=some rest∧rs++rest=total)
      else (i+1≤ts.length∧(∃ pre:L2.St,ws.map some++capS scope X.N σ=pre++capS scope X.N σ∧pre.length=xs.length)∧∃ F vs rs rest,Step F2 H2 F H7∧F D=none∧H2 D=none∧H7 D=some (.lst vs)∧Reps X.K F rs vs∧vs.length≤i+1∧compM (elM xs.length r fc fe) (ts.drop (i+1))=some rest∧rs++rest=total):=by
     intro us ws hul hrw hrr
     have hwl:(ws.map some:L2.St).length=xs.length:=by rw [List.length_map,hrw.length,hul]
     have e5:=blk_env (pins:=pins) (fp:=fp) (s₃:=s₃) (H₃:=H₃) S (e2.step (st.trans st5)) hl hul hrw st5.fh (e2.tb.up (st.trans st5))
     rw [← hrr] at e5
     refine ⟨r',F5,bb,e5,hfc,fun F7 H7 s7=>?_⟩
     have st7:=st5.trans s7
     have hD7:H7 D=some (.lst vs):=st7.hh.st D _ hH' rfl
     have nD:∀ {F8 H8:Hp},Step F H' F8 H8→F8 D=none:=fun {F8 H8} s8=>by
      cases q:F8 D with
      | none=>rfl
      | some o =>
       rcases s8.nw D (by rw [q];simp) with z | z | ⟨_,z⟩
       ·exact absurd hF z
       ·rw [hH'] at z;cases z
       ·rw [hH'] at z;cases z
     cases bb with
     | false =>
      dsimp only at ho ⊢
      rw [if_neg Bool.false_ne_true] at ho ⊢
      cases ho
      cases hcr
      exact ⟨hlt,⟨_,rfl,hwl⟩,F7,vs,rs,_,st.trans st7,nD st7,hH2,hD7,hrs.mono st7.ff,by omega,hr',htot⟩
     | true =>
      dsimp only at ho ⊢
      rw [if_pos rfl] at ho ⊢
      obtain ⟨yt,hye,rfl⟩:=oms ho
      cases hcr
      refine ⟨r',F7,yt,e5.step s7,hye,fun v F8 H8 s8 r8=>?_⟩
      have st8:=st7.trans s8
      have S8:=st.trans st8
      have hF8:=nD st8
      refine ⟨vs,st8.hh.st D _ hH' rfl,?_,hlt,⟨_,rfl,hwl⟩,F8,vs++[v],rs++[yt],_,⟨S8.hh.upd hH2 (st8.hh.st D _ hH' rfl) rfl (fun _ _ z=>nomatch z),S8.ff,fun b o q=>?_,S8.nw⟩,hF8,hH2,upd_same,(hrs.mono st8.ff).app ⟨v,[],rfl,r8,rfl⟩,by simp;omega,hr',by rw [List.append_assoc];exact htot⟩
      ·rw [← sz_eq];omega
      ·rw [upd_ne (ne_of_none q hF8)];exact S8.fh b o q
    cases htup:isTupE tg with
    | false =>
     have hx1:∃ z,xs=[z]:=by
      cases tg with
      | Name z p=>cases htg;exact ⟨z,rfl⟩
      | Tuple _ _ _=>cases htup
      | _=>cases htg
     obtain ⟨z,rfl⟩:=hx1
     have hb':some (some t::r)=some r':=hb
     cases hb'
     obtain ⟨p0,rfl⟩:∃ p0,pre=[p0]:=by
      cases pre with
      | nil=>simp at hpre
      | cons p0 q=>cases q with
       | nil=>exact ⟨p0,rfl⟩
       | cons _ _=>simp at hpre
     exact cont [t] [x] rfl ⟨x,[],rfl,r5,rfl⟩ rfl
    | true =>
     have hn2:=h2n htup
     unfold bnd at hb
     rw [if_neg (by omega)] at hb
     cases t with
     | tup us =>
      simp only at hb
      split at hb
      ·rename_i hul
       cases hb
       obtain ⟨a,ws,rfl,q1,q2⟩:=r5
       refine ⟨a,ws,rfl,same_tup st5.fh q1,by rw [List.length_range',q2.length,hul],?_⟩
       have es:=setV_range ws [] pre (capS scope X.N σ) (by rw [hpre,q2.length,hul])
       rw [q2.length,hul] at es
       simp only [List.length_nil,List.nil_append] at es
       rw [es]
       exact cont us ws hul q2 rfl
      ·cases hb
     | _=>cases hb
  ·left
   have hie:i=ts.length:=by omega
   subst hie
   rw [List.drop_length] at hcr
   cases hcr
   rw [List.append_nil] at htot
   subst htot
   exact ⟨wk.stop H' sm,F,vs,st,hF,hH2,hH',hrs⟩
end
end Ev
end
end
noncomputable section
noncomputable section
namespace Ev
open PySem PySem.Spec PyProof.Rows L2
section
variable {X:Cx} {c:Tc} {G:Glo} {k:Nat} {scope:Scope} {xs:List Str}
theorem step_acc {F H F2 H2 F3 H':Hp} {D:Addr} {vs:List V} (a:Step F H F2 H2) (b:Step F2 H2 F3 H') (h1:F3 D=none) (h2:H2 D=none) (h3:H' D=some (.lst vs)):Step F H (upd F3 D (.lst vs)) H' :=
 have S:=a.trans b
 ⟨S.hh,S.ff.trans (same_new h1),fun x o q=>by
  by_cases hx:x=D
  ·subst hx;rw [upd_same] at q;cases q;exact h3
  ·rw [upd_ne hx] at q;exact S.fh x o q,fun x z=>by
  by_cases hx:x=D
  ·subst hx;exact .inr (.inl (a.hh.free h2))
  ·rw [upd_ne hx] at z;exact S.nw x z⟩
def compF (xs:List Str) (fi:Env→Option (List T)) (fc:Env→Option Bool) (fe:Env→Option T):Env→Option T :=
 fun r=>((fi r).bind fun its=>if its.length≤SZ then some its else none).bind fun its=>(compM (elM xs.length r fc fe) its).map .lst
variable {elt iter tg:Expr} {ifs:List Expr} {pos:Pos} {fe:Env→Option T} {fc:Env→Option Bool} {fi:Env→Option (List T)}
theorem compF_inv {r:Env} {t:T} (h:compF xs fi fc fe r=some t):∃ its total,fi r=some its∧its.length≤SZ∧compM (elM xs.length r fc fe) its=some total∧t=.lst total:=by
 unfold compF at h
 obtain ⟨its,h1,h⟩:=obs h
 obtain ⟨its',h2,h1⟩:=obs h1
 split at h1
 ·rename_i hz
  cases h1
  obtain ⟨total,h3,rfl⟩:=oms h
  exact ⟨its,total,h2,hz,h3,rfl⟩
 ·cases h1
theorem ok_comp (gd:Gd X c G k) (S:CsB c.sc scope xs) (htg:tgNames tg=some xs) (h2n:isTupE tg=true→2≤xs.length)
  (he:∀ pins fp s₃ H₃,Gd (blk X pins scope xs fp s₃ H₃) ⟨scope,xs++c.nm⟩ G k→Oke (blk X pins scope xs fp s₃ H₃) ⟨scope,xs++c.nm⟩ elt fe)
  (hi:∀ pins fp s₃ H₃,Gd (blk X pins scope xs fp s₃ H₃) ⟨scope,xs++c.nm⟩ G k→∀ (pn:List (Addr × Obj)) (s:Shared) (σ:L2.St) (H:Hp) (Q:Bool→Hp→Prop),L2.Inv (blk X pins scope xs fp s₃ H₃) pn σ H s→spC (blk X pins scope xs fp s₃ H₃) ⟨scope,xs++c.nm⟩ fc σ H Q →
   wpAny (model X.prog X.w) X.A (forIn ifs true fun c r=>if r=true then do let ok ← isTrue c (blk X pins scope xs fp s₃ H₃).env (eval c (blk X pins scope xs fp s₃ H₃).env);pure (ForInStep.yield ok) else pure (ForInStep.yield r)) (TP (blk X pins scope xs fp s₃ H₃) pn σ Q) (fun _ _=>False) s)
  (hit:PI X tg iter (spI X c fi)) (hfs:∀ x,foldedSetIterable iter X.env x=pure x):Oke X c (.ListComp elt [⟨tg,iter,ifs,0⟩] scope pos) (compF xs fi fc fe):=by
 intro pins s σ H Q I q
 obtain ⟨r,F,t,e,ht,q⟩:=q
 obtain ⟨its,total,hf,hz,hcm,rfl⟩:=compF_inv ht
 rw [eval_ListComp]
 refine wpAny_comprehension_free (use:=none) rfl hfs (closureFor_eq ((S.sc gd).has I.ok)) S.kind (fun y hy e=>(S.loc y hy e).1)
  (thn (hit pins s σ H (fun J H'=>∃ F',Step F H F' H'∧Walk X.K J its F') I ⟨r,F,its,e,hf,fun J F' H' s1 wk=>⟨F',s1,wk⟩⟩) fun v s1 h1=>thn h1 fun itv s2 h2=>?_)
 obtain ⟨it,fp,tn,J,H2,rfl,I2,T,st2,f2,F2,s12,wk⟩:=h2
 refine thn (comp_tree (E:=X.xe) gd S htg h2n he hi I2 T st2 f2 wk (e.step s12) hz hcm) fun acc s3 h3=>thn h3 fun cenv s4 h4=>codeAny_mono h4 fun res s' hres=>?_
 obtain ⟨rfl,D,H',rfl,I',fC,⟨m,hm⟩,F3,vs,st3,d1,d2,d3,d4⟩:=hres
 refine ⟨m,hm,fun h' hsb=>⟨.ref D,H',I'.turned (t':=s'.toks) (fun b o hb q=>(hsb.2 b hb).trans q) fC.1 fC.2.1 fC.2.2.2.1 fC.2.2.2.2.1 fC.2.2.2.2.2,rfl,?_⟩⟩
 have S3:=step_acc s12 st3 d1 d2 d3
 exact q _ _ _ S3 ⟨D,vs,rfl,Ls.of upd_same,d4.mono (same_new d1)⟩
def spAsg (X:Cx) (c:Tc) (i:Nat) (f:Env→Option T):TS:=fun D σ H=>∃ r F t,EnvE X c r F σ H∧f r=some t∧∀ v F' H',Step F H F' H'→Rep X.K F' t v→D.nx (σ.set i (some v)) H'
theorem ok_setComp (gd:Gd X c G k) (S:CsB c.sc scope xs) (htg:tgNames tg=some xs) (h2n:isTupE tg=true→2≤xs.length)
  (he:∀ pins fp s₃ H₃,Gd (blk X pins scope xs fp s₃ H₃) ⟨scope,xs++c.nm⟩ G k→Oke (blk X pins scope xs fp s₃ H₃) ⟨scope,xs++c.nm⟩ elt fe)
  (hi:∀ pins fp s₃ H₃,Gd (blk X pins scope xs fp s₃ H₃) ⟨scope,xs++c.nm⟩ G k→∀ (pn:List (Addr × Obj)) (s:Shared) (σ:L2.St) (H:Hp) (Q:Bool→Hp→Prop),L2.Inv (blk X pins scope xs fp s₃ H₃) pn σ H s→spC (blk X pins scope xs fp s₃ H₃) ⟨scope,xs++c.nm⟩ fc σ H Q →
   wpAny (model X.prog X.w) X.A (forIn ifs true fun c r=>if r=true then do let ok ← isTrue c (blk X pins scope xs fp s₃ H₃).env (eval c (blk X pins scope xs fp s₃ H₃).env);pure (ForInStep.yield ok) else pure (ForInStep.yield r)) (TP (blk X pins scope xs fp s₃ H₃) pn σ Q) (fun _ _=>False) s)
  (hit:PI X tg iter (spI X c fi)) (hfs:∀ x,foldedSetIterable iter X.env x=pure x) {y:Str} {py spos:Pos} {i:Nat} (hy:At X y i):PS X (.Assign [.Name y py] (.ListComp elt [⟨tg,iter,ifs,0⟩] scope pos) spos) (spAsg X c i (compF xs fi fc fe)):=by
 obtain ⟨b,hb⟩:∃ b:Bool,swapsWith (.ListComp elt [⟨tg,iter,ifs,0⟩] scope pos) (some (.Name y py)) spos.line X.env=pure b:=⟨_,rfl⟩
 cases b with
 | false =>
  refine ps_mono (ps_set gd.nd hy.ix hy.loc (ok_comp gd S htg h2n he hi hit hfs) hb hy.fn) fun D σ H q=>?_
  exact q
 | true =>
  intro pins s σ H Dn I q
  obtain ⟨r,F,t,e,ht,q⟩:=q
  obtain ⟨its,total,hf,hz,hcm,rfl⟩:=compF_inv ht
  rw [exec_Assign_Name_used _ _ _ _ hb]
  refine wpAny_bind (wpAny_standAt (wpAny_bind ?_))
  show wpAny _ X.A (do let _ ← comprehension (.ListComp elt [⟨tg,iter,ifs,0⟩] scope pos) scope X.env _ (newList []) false (eval iter X.env) (some (assign (.Name y py) X.env))) _ _ s
  refine wpAny_bind (wpAny_mono (wpAny_comprehension_free (use:=some (assign (.Name y py) X.env)) (Q:=fun _ s'=>SP X pins Dn .next s') rfl hfs (closureFor_eq ((S.sc gd).has I.ok)) S.kind (fun y hy e=>(S.loc y hy e).1)
   (thn (hit pins s σ H (fun J H'=>∃ F',Step F H F' H'∧Walk X.K J its F') I ⟨r,F,its,e,hf,fun J F' H' s1 wk=>⟨F',s1,wk⟩⟩) fun v s1 h1=>thn h1 fun itv s2 h2=>?_)) (fun _ s' hq=>wpAny_pure (wpAny_pure hq)) fun _ _ e=>e)
  obtain ⟨it,fp,tn,J,H2,rfl,I2,T,st2,f2,F2,s12,wk⟩:=h2
  refine thn (comp_tree (E:=X.xe) gd S htg h2n he hi I2 T st2 f2 wk (e.step s12) hz hcm) fun acc s3 h3=>thn h3 fun cenv s4 h4=>codeAny_mono h4 fun res s' hres=>?_
  obtain ⟨rfl,D,H',rfl,I',fC,⟨m,hm⟩,F3,vs,st3,d1,d2,d3,d4⟩:=hres
  show wpAny _ X.A (assign (.Name y py) X.env (.ref D)) _ _ s'
  refine wpAny_assign_Name (store_ok2 I' gd.nd hy.ix hy.loc (v:=.ref D) (u:=.ref D) rfl (fun s'' I'' hsb=>?_) hy.fn)
  obtain ⟨a,hsb,ha⟩:=hsb
  have hCa:cenv.locals≠a:=by
   rcases ha with z | z
   ·rw [z];exact fC.2.1
   ·exact Ne.symm (fC.2.2.2.2.1 y a z)
  refine ⟨m,hm.sameBut hsb hCa,fun h' hsb2=>⟨_,H',I''.turned (t':=s''.toks) (fun b o hb q=>(hsb2.2 b hb).trans q) fC.1 fC.2.1 fC.2.2.2.1 fC.2.2.2.2.1 fC.2.2.2.2.2,?_⟩⟩
  have S3:=step_acc s12 st3 d1 d2 d3
  exact q _ _ _ S3 ⟨D,vs,rfl,Ls.of upd_same,d4.mono (same_new d1)⟩
end
end Ev
end
end
noncomputable section
noncomputable section
namespace Ev
open PySem PySem.Spec PyProof.Rows L2
theorem star_ok {n:Nat} {c:Tc} {e:Expr} {e':E} (h:trV n c e=some e') (es:List Expr) (env:PySem.Env):starEach (e::es) env=(false,eval e env)::starEach es env:=by
 cases n with
 | zero=>cases h
 | succ n=>cases e<;>first | rfl | (cases h)
theorem star_one {n:Nat} {c:Tc} {e:Expr} {e':E} (h:trV n c e=some e') (env:PySem.Env):starEach [e] env=[(false,eval e env)]:=star_ok h [] env
theorem star_any {n:Nat} {c:Tc} (pos:Pos) (env:PySem.Env):∀ {es:List Expr} {xs:List E},mapO (trV n c) es=some xs→(backTo pos (starEach es env)).any (·.1)=false
 | [],_,_=>rfl
 | e::es,xs,h=>by
  obtain ⟨x,h1,h⟩:=obs h
  obtain ⟨ys,h2,_⟩:=obs h
  rw [star_ok h1]
  have ih:=star_any pos env h2
  unfold backTo at ih ⊢
  rw [List.map_cons,List.any_cons,ih]
  rfl
theorem plain_ix {b:Expr} (h:sliceE b=false):PlainIx b:=by
 cases b<;>first | (intro o i;rfl) | (cases h)
theorem base_ok {n:Nat} {c:Tc} {o:Expr} {e':E} (h:trV n c o=some e') (m:Str) (env:PySem.Env) (w:Sem Value):attributeBase o m env w=w:=by
 cases n with
 | zero=>cases h
 | succ n =>
  cases o with
  | Call f args kws pos =>
   cases f with
   | Name id p =>
    cases args with
    | nil=>cases kws<;>(cases h;done)
    | cons _ _=>rfl
   | _=>rfl
  | _=>rfl
theorem evEs_len {G:Glo}:∀ {xs:List E} {r:Env} {ts:List T},evEs G xs r=some ts→ts.length=xs.length
 | [],_,_,h=>by rw [evEs] at h;cases h;rfl
 | x::xs,r,ts,h=>by
  rw [evEs] at h
  obtain ⟨t,_,h⟩:=obs h
  obtain ⟨us,h2,h⟩:=obs h
  cases h
  simp [evEs_len h2]
def isBO:Expr→Bool
 | .BoolOp ..=>true
 | _=>false
structure Snd (G:Glo) (k n:Nat):Prop where
 v:∀ {X:Cx} {c:Tc} {e:Expr} {e':E},Gd X c G k→trV n c e=some e'→Oke X c e (evE G e')
 t:∀ {X:Cx} {c:Tc} {e:Expr} {e':E},Gd X c G k→trT n c e=some e'→Okt X c e (evE G e')∧(isBO e=true→Okw X c e (evE G e'))
 i:∀ {X:Cx} {c:Tc} {tg e:Expr} {ki:Ik × List E},Gd X c G k→trI n c e=some ki→(ki.1.pair=true→isTupE tg=true)→PI X tg e (spI X c fun r=>(evEs G ki.2 r).bind fun xs=>items ki.1 xs)
section
variable {G:Glo} {k n:Nat} {X:Cx} {c:Tc}
theorem Snd.l (S:Snd G k n) (gd:Gd X c G k):∀ {es:List Expr} {xs:List E},mapO (trV n c) es=some xs→PA X es (spL X c (evEs G xs))
 | [],xs,h=>by
  cases h
  have e:evEs G []=fun _=>some []:=by funext r;rw [evEs]
  rw [e];exact ok_nil
 | a::es,xs,h=>by
  obtain ⟨x,h1,h⟩:=obs h
  obtain ⟨ys,h2,h⟩:=obs h
  cases h
  have e:evEs G (x::ys)=fun r=>(evE G x r).bind fun t=>(evEs G ys r).bind fun ts=>some (t::ts):=by funext r;rw [evEs]
  rw [e]
  exact ok_cons (S.v gd h1) (Snd.l S gd h2) (star_ok h1 es X.env)
theorem Snd.o (S:Snd G k n) (gd:Gd X c G k) {e:Option Expr} {x:Option E} (h:optO (trV n c) e=some x):PO X e (spO X c (evO G x)):=by
 cases e with
 | none =>
  cases h
  have e:evO G none=fun _=>some none:=by funext r;rw [evO]
  rw [e];exact ok_po_none
 | some a =>
  obtain ⟨y,h1,rfl⟩:=oms h
  have e:evO G (some y)=fun r=>(evE G y r).map some:=by funext r;rw [evO]
  rw [e];exact ok_po_some (S.v gd h1)
theorem Gd.hu (gd:Gd X c G k):X.A.units+100<cLine:=by have:=gd.room.un;omega
theorem snd_t (S:Snd G k n) {e:Expr} {e':E} (gd:Gd X c G k) (h:trT (n+1) c e=some e'):Okt X c e (evE G e')∧(isBO e=true→Okw X c e (evE G e')):=by
 have tru:∀ {a:Expr} {x:E},(∀ whole,isTrue a X.env whole=(do let v ← whole;standAt a.pos;holding [v] (truthy v)))→trV n c a=some x→Okt X c a (evE G (.tru x)):=fun {a x} he h1=>by
  have e:evE G (.tru x)=fun r=>(evE G x r).bind fun t=>(truT t).map .bl:=by funext r;rw [evE]
  rw [e];exact t_tru (S.v gd h1) he
 cases e with
 | BoolOp op vs pos =>
  have key:Okw X c (.BoolOp op vs pos) (evE G e'):=by
   cases vs with
   | nil=>cases op<;>(cases h;done)
   | cons a r =>
    cases r with
    | nil =>
     cases op with
     | And=>exact pw_and1 (S.t gd h).1
     | Or=>exact pw_or1 (S.t gd h).1
    | cons b r =>
     cases op with
     | And =>
      obtain ⟨x,h1,h⟩:=obs h
      obtain ⟨y,h2,h⟩:=obs h
      cases h
      have e:evE G (.land x y)=fun r=>(evE G x r).bind fun t=>match t with | .bl true=>evE G y r | .bl false=>some (.bl false) | _=>none:=by funext r;rw [evE];try rfl
      rw [e];exact tw_and (S.t gd h1).1 ((S.t gd h2).2 rfl)
     | Or =>
      obtain ⟨x,h1,h⟩:=obs h
      obtain ⟨y,h2,h⟩:=obs h
      cases h
      have e:evE G (.lor x y)=fun r=>(evE G x r).bind fun t=>match t with | .bl true=>some (.bl true) | .bl false=>evE G y r | _=>none:=by funext r;rw [evE];try rfl
      rw [e];exact tw_or (S.t gd h1).1 ((S.t gd h2).2 rfl)
  exact ⟨key.pt,fun _=>key⟩
 | UnaryOp op a pos =>
  refine ⟨?_,fun z=>by cases z⟩
  cases op with
  | Not =>
   obtain ⟨x,h1,h⟩:=obs h
   cases h
   have e:evE G (.lnot x)=fun r=>(evE G x r).bind fun t=>match t with | .bl b=>some (.bl (!b)) | _=>none:=by funext r;rw [evE];try rfl
   rw [e];exact t_not (S.t gd h1).1
  | _=>(cases h;done)
 | Compare a ops bs pos =>
  refine ⟨?_,fun z=>by cases z⟩
  match ops,bs,h with
  | [op],[b],h =>
   obtain ⟨o,h0,h⟩:=obs h
   obtain ⟨x,h1,h⟩:=obs h
   obtain ⟨y,h2,h⟩:=obs h
   cases h
   obtain ⟨q1,q2⟩:=ops_co (X:=X) gd.hu h0
   have e:evE G (.cmp o x y)=fun r=>(evE G x r).bind fun s=>(evE G y r).bind fun t=>cmpT o s t:=by funext r;rw [evE]
   rw [e];exact ok_cmpT q1 (S.v gd h1) (S.v gd h2) q2
  | [op,op'],[b,d],h=>(cases h;done)
  | [],_,h=>(cases h;done)
  | [_],[],h=>(cases h;done)
  | [_],_::_::_,h=>(cases h;done)
  | [_,_],[],h=>(cases h;done)
  | [_,_],[_],h=>(cases h;done)
  | [_,_],_::_::_::_,h=>(cases h;done)
  | _::_::_::_,_,h=>(cases h;done)
 | Name x pos =>
  refine ⟨?_,fun z=>by cases z⟩
  obtain ⟨y,h1,h⟩:=obs h
  cases h
  exact tru (fun _=>rfl) h1
 | Call f es ks pos =>
  refine ⟨?_,fun z=>by cases z⟩
  obtain ⟨y,h1,h⟩:=obs h
  cases h
  exact tru (fun _=>rfl) h1
 | Subscript a b pos =>
  refine ⟨?_,fun z=>by cases z⟩
  obtain ⟨y,h1,h⟩:=obs h
  cases h
  exact tru (fun _=>rfl) h1
 | _=>(cases h;done)
theorem snd_i (S:Snd G k n) {tg e:Expr} {ki:Ik × List E} (gd:Gd X c G k) (h:trI (n+1) c e=some ki) (ht:ki.1.pair=true→isTupE tg=true):PI X tg e (spI X c fun r=>(evEs G ki.2 r).bind fun xs=>items ki.1 xs):=by
 have one:∀ (x:E) (kk:Ik),(fun r=>(evEs G [x] r).bind fun xs=>items kk xs)=fun r=>(evE G x r).bind fun t=>items kk [t]:=fun x kk=>by
  funext r
  rw [evEs,evEs]
  cases evE G x r<;>rfl
 have plain:∀ {a:Expr},((trV n c a).bind fun x=>some (Ik.plain,[x]))=some ki→PI X tg a (spI X c fun r=>(evEs G ki.2 r).bind fun xs=>items ki.1 xs):=fun {a} h=>by
  obtain ⟨x,h1,h⟩:=obs h
  cases h
  rw [one]
  exact ok_walk (S.v gd h1)
 have call:∀ {f:Str} {p pos:Pos} {a:Expr},trI (n+1) c (.Call (.Name f p) [a] [] pos)=some ki→PI X tg (.Call (.Name f p) [a] [] pos) (spI X c fun r=>(evEs G ki.2 r).bind fun xs=>items ki.1 xs):=fun {f p pos a} h=>by
  unfold trI at h
  split at h
  ·rename_i hr
   rw [Bool.and_eq_true] at hr
   have hf:=eq_of_beq hr.1
   subst hf
   obtain ⟨x,h1,h⟩:=obs h
   cases h
   rw [one]
   exact ok_range gd hr.2 (S.v gd h1) (star_one h1 X.env)
  ·split at h
   ·rename_i hr
    rw [Bool.and_eq_true] at hr
    have hf:=eq_of_beq hr.1
    subst hf
    obtain ⟨x,h1,h⟩:=obs h
    cases h
    have htt:=ht rfl
    cases tg with
    | Tuple es kx p2 =>
     rw [one]
     exact ok_enum gd hr.2 (S.v gd h1) (star_one h1 X.env)
    | _=>cases htt
   ·exact plain h
 cases e with
 | Call f args kws pos =>
  cases f with
  | Name id p =>
   match args,kws,h with
   | [a],[],h=>exact call h
   | [],kws,h=>exact plain h
   | [_],_::_,h=>exact plain h
   | [a,b],[],h =>
    replace h:(if id==("zip":Str)&&glB c.sc id then (trV n c a).bind fun x=>(trV n c b).bind fun y=>some (Ik.zip,[x,y]) else (trV n c (.Call (.Name id p) [a,b] [] pos)).bind fun x=>some (Ik.plain,[x]))=some ki:=h
    split at h
    ·rename_i hr
     rw [Bool.and_eq_true] at hr
     obtain ⟨x,h1,g1⟩:=obs h
     obtain ⟨y,h2,g2⟩:=obs g1
     cases g2
     have hf:=eq_of_beq hr.1
     subst hf
     have htt:=ht rfl
     cases tg with
     | Tuple es kx p2 =>
      have two:(fun r=>(evEs G [x,y] r).bind fun xs=>items Ik.zip xs)=fun r=>(evE G x r).bind fun s=>(evE G y r).bind fun t=>items Ik.zip [s,t]:=by
       funext r
       rw [evEs,evEs,evEs]
       cases evE G x r<;>cases evE G y r<;>rfl
      show PI X _ _ (spI X c fun r=>(evEs G [x,y] r).bind fun xs=>items Ik.zip xs)
      rw [two]
      exact ok_zip gd hr.2 (S.v gd h1) (S.v gd h2) (by rw [star_ok h1,star_one h2]) (star_one h2 X.env)
     | _=>cases htt
    ·exact plain h
   | [_,_],_::_,h=>exact plain h
   | _::_::_::_,kws,h=>exact plain h
  | _=>exact plain h
 | _=>exact plain h
end
end Ev
end
end
noncomputable section
noncomputable section
namespace Ev
open PySem PySem.Spec PyProof.Rows L2
section
variable {G:Glo} {k n:Nat} {X:Cx} {c:Tc}
theorem folded_ok {e:Expr} {ki:Ik × List E} {m:Nat} (h:trI m c e=some ki) (env:PySem.Env):∀ x,foldedSetIterable e env x=pure x:=by
 intro x
 cases e with
 | Set es k p =>
  exfalso
  cases m with
  | zero=>cases h
  | succ m =>
   have h:((trV m c (.Set es k p)).bind fun x=>some (Ik.plain,[x]))=some ki:=h
   cases m with
   | zero=>cases h
   | succ m=>cases h
 | _=>rfl
structure CompParts (G:Glo) (n:Nat) (c:Tc) (elt tg iter:Expr) (ifs:List Expr) (scope:Scope) (e':E) (xs:List Str) (fi:Env→Option (List T)) (fc:Env→Option Bool) (fe:Env→Option T):Prop where
 htg:tgNames tg=some xs
 cs:CsB c.sc scope xs
 h2:isTupE tg=true→2≤xs.length
 ev:evE G e'=compF xs fi fc fe
theorem comp_el {r:Env} {fe:Env→Option T} {m:Nat}:(fun x=>(bnd m x r).bind fun r'=>((some none:Option (Option T))).bind fun c=>match c with
    | none=>(fe r').map some
    | some (.bl true)=>(fe r').map some
    | some (.bl false)=>some none
    | some _=>none)=elM m r (fun _=>some true) fe:=by
 funext x
 unfold elM
 cases bnd m x r<;>rfl
theorem comp_el1 {r:Env} {fe f1:Env→Option T} {m:Nat}:(fun x=>(bnd m x r).bind fun r'=>((f1 r').map some).bind fun c=>match c with
    | none=>(fe r').map some
    | some (.bl true)=>(fe r').map some
    | some (.bl false)=>some none
    | some _=>none)=elM m r (fun r'=>(f1 r').bind fun t=>match t with | .bl b=>some b | _=>none) fe:=by
 funext x
 unfold elM
 cases bnd m x r with
 | none=>rfl
 | some r' =>
  simp only [Option.bind_some]
  cases f1 r' with
  | none=>rfl
  | some t=>cases t<;>first | rfl | (rename_i b;cases b<;>rfl)
theorem comp_inv {n:Nat} {c:Tc} {elt:Expr} {gens:List Comprehension} {scope:Scope} {pos:Pos} {e':E} (h:trV (n+1) c (.ListComp elt gens scope pos)=some e') :
  ∃ tg iter ifs,gens=[⟨tg,iter,ifs,0⟩]∧∃ xs ki,tgNames tg=some xs∧trI n c iter=some ki∧(compScope c.sc scope xs&&(!ki.1.pair||isTupE tg)&&(!isTupE tg||decide (2≤xs.length)))=true ∧
   (match ifs with
   | []=>(trV n ⟨scope,xs++c.nm⟩ elt).bind fun x=>some (.comp x xs.length ki.1 ki.2 none)
   | [t]=>(trV n ⟨scope,xs++c.nm⟩ elt).bind fun x=>(trT n ⟨scope,xs++c.nm⟩ t).bind fun y=>some (.comp x xs.length ki.1 ki.2 (some y))
   | _=>none)=some e':=by
 match gens,h with
 | [⟨tg,iter,ifs,.ofNat 0⟩],h =>
  obtain ⟨xs,h0,h⟩:=obs (show ((tgNames tg).bind fun xs=>(trI n c iter).bind fun ki=>if compScope c.sc scope xs&&(!ki.1.pair||isTupE tg)&&(!isTupE tg||decide (2≤xs.length)) then
   (match ifs with
   | []=>(trV n ⟨scope,xs++c.nm⟩ elt).bind fun x=>some (.comp x xs.length ki.1 ki.2 none)
   | [t]=>(trV n ⟨scope,xs++c.nm⟩ elt).bind fun x=>(trT n ⟨scope,xs++c.nm⟩ t).bind fun y=>some (.comp x xs.length ki.1 ki.2 (some y))
   | _=>none) else none)=some e' from h)
  obtain ⟨ki,h1,h⟩:=obs h
  split at h
  ·rename_i hc
   exact ⟨tg,iter,ifs,rfl,xs,ki,h0,h1,hc,h⟩
  ·cases h
 | [⟨tg,iter,ifs,.ofNat (a+1)⟩],h=>cases h
 | [⟨tg,iter,ifs,.negSucc a⟩],h=>cases h
 | [],h=>cases h
 | g1::g2::gs,h =>
  obtain ⟨t1,i1,f1,a1⟩:=g1
  rcases a1 with (_ | _) | _<;>cases h
theorem snd_comp (S:Snd G k n) (gd:Gd X c G k) {elt:Expr} {gens:List Comprehension} {scope:Scope} {pos:Pos} {e':E} (h:trV (n+1) c (.ListComp elt gens scope pos)=some e') :
  Oke X c (.ListComp elt gens scope pos) (evE G e')∧∀ {y:Str} {py spos:Pos} {i:Nat},At X y i→PS X (.Assign [.Name y py] (.ListComp elt gens scope pos) spos) (spAsg X c i (evE G e')):=by
 obtain ⟨tg,iter,ifs,rfl,xs,ki,h0,h1,hcs,hr⟩:=comp_inv h
 simp only [Bool.and_eq_true,Bool.or_eq_true,Bool.not_eq_true',decide_eq_true_eq] at hcs
 have CS:=csB_of hcs.1.1
 have h2n:isTupE tg=true→2≤xs.length:=fun z=>hcs.2.elim (fun q=>by rw [q] at z;cases z) id
 have hen:ki.1.pair=true→isTupE tg=true:=fun z=>hcs.1.2.elim (fun q=>by rw [q] at z;cases z) id
 have hit:=S.i (tg:=tg) gd h1 hen
 have hfs:=folded_ok h1 X.env
 match ifs,hr with
 | [],hr =>
  obtain ⟨x,h3,hr⟩:=obs hr
  cases hr
  have he:∀ pins fp s₃ H₃,Gd (blk X pins scope xs fp s₃ H₃) ⟨scope,xs++c.nm⟩ G k→Oke (blk X pins scope xs fp s₃ H₃) ⟨scope,xs++c.nm⟩ elt (evE G x):=fun pins fp s₃ H₃ g=>S.v g h3
  have hi:∀ pins fp s₃ H₃,Gd (blk X pins scope xs fp s₃ H₃) ⟨scope,xs++c.nm⟩ G k→∀ (pn:List (Addr × Obj)) (s:Shared) (σ:L2.St) (H:Hp) (Q:Bool→Hp→Prop),L2.Inv (blk X pins scope xs fp s₃ H₃) pn σ H s→spC (blk X pins scope xs fp s₃ H₃) ⟨scope,xs++c.nm⟩ (fun _=>some true) σ H Q →
   wpAny (model X.prog X.w) X.A (forIn ([]:List Expr) true fun c r=>if r=true then do let ok ← isTrue c (blk X pins scope xs fp s₃ H₃).env (eval c (blk X pins scope xs fp s₃ H₃).env);pure (ForInStep.yield ok) else pure (ForInStep.yield r)) (TP (blk X pins scope xs fp s₃ H₃) pn σ Q) (fun _ _=>False) s:=fun pins fp s₃ H₃ g pn s σ H Q I q=>by
   obtain ⟨r,F,b,e,hb,q⟩:=q
   cases hb
   exact wpAny_tests_nil ⟨H,I,q F H (Step.refl e.fh)⟩
  have e:evE G (.comp x xs.length ki.1 ki.2 none)=compF xs (fun r=>(evEs G ki.2 r).bind fun xs=>items ki.1 xs) (fun _=>some true) (evE G x):=by
   funext r
   rw [evE]
   unfold compF itemsC
   rw [← comp_el]
   dsimp only
   cases evEs G ki.2 r with
   | none=>rfl
   | some ys=>simp only [Option.bind_some,evO]
  rw [e]
  exact ⟨ok_comp gd CS h0 h2n he hi hit hfs,fun {y py spos i} hy=>ok_setComp gd CS h0 h2n he hi hit hfs hy⟩
 | [t],hr =>
  obtain ⟨x,h3,hr⟩:=obs hr
  obtain ⟨y1,h4,hr⟩:=obs hr
  cases hr
  have he:∀ pins fp s₃ H₃,Gd (blk X pins scope xs fp s₃ H₃) ⟨scope,xs++c.nm⟩ G k→Oke (blk X pins scope xs fp s₃ H₃) ⟨scope,xs++c.nm⟩ elt (evE G x):=fun pins fp s₃ H₃ g=>S.v g h3
  have hi:∀ pins fp s₃ H₃,Gd (blk X pins scope xs fp s₃ H₃) ⟨scope,xs++c.nm⟩ G k→∀ (pn:List (Addr × Obj)) (s:Shared) (σ:L2.St) (H:Hp) (Q:Bool→Hp→Prop),L2.Inv (blk X pins scope xs fp s₃ H₃) pn σ H s→spC (blk X pins scope xs fp s₃ H₃) ⟨scope,xs++c.nm⟩ (fun r'=>(evE G y1 r').bind fun t=>match t with | .bl b=>some b | _=>none) σ H Q →
   wpAny (model X.prog X.w) X.A (forIn [t] true fun c r=>if r=true then do let ok ← isTrue c (blk X pins scope xs fp s₃ H₃).env (eval c (blk X pins scope xs fp s₃ H₃).env);pure (ForInStep.yield ok) else pure (ForInStep.yield r)) (TP (blk X pins scope xs fp s₃ H₃) pn σ Q) (fun _ _=>False) s:=fun pins fp s₃ H₃ g pn s σ H Q I q=>by
   obtain ⟨r,F,b,e,hb,q⟩:=q
   obtain ⟨tt,ht,hb⟩:=obs hb
   cases tt with
   | bl b' =>
    cases hb
    exact wpAny_tests_one ((S.t g h4).1 pn s σ H Q I ⟨r,F,b,e,ht,q⟩)
   | _=>cases hb
  have e:evE G (.comp x xs.length ki.1 ki.2 (some y1))=compF xs (fun r=>(evEs G ki.2 r).bind fun xs=>items ki.1 xs) (fun r'=>(evE G y1 r').bind fun t=>match t with | .bl b=>some b | _=>none) (evE G x):=by
   funext r
   rw [evE]
   unfold compF itemsC
   rw [← comp_el1]
   dsimp only
   cases evEs G ki.2 r with
   | none=>rfl
   | some ys=>simp only [Option.bind_some,evO];try rfl
  rw [e]
  exact ⟨ok_comp gd CS h0 h2n he hi hit hfs,fun {y py spos i} hy=>ok_setComp gd CS h0 h2n he hi hit hfs hy⟩
 | _::_::_,hr=>cases hr
theorem snd_call (S:Snd G k n) (gd:Gd X c G k) {f:Str} {a:Expr} {es:List Expr} {p pos:Pos} {xs:List E} (hg:glB c.sc f=true) (hp:plainName f=true) (h:mapO (trV n c) (a::es)=some xs):Oke X c (.Call (.Name f p) (a::es) [] pos) (evE G (.call f xs)):=by
 have e:evE G (.call f xs)=fun r=>(evEs G xs r).bind fun ys=>G.call f ys:=by funext r;rw [evE]
 rw [e]
 obtain ⟨x,h1,h'⟩:=obs h
 obtain ⟨ys,h2,_⟩:=obs h'
 exact ok_call gd hg hp (S.l gd h) (star_ok h1 es X.env) (star_any pos X.env h2)
theorem bn_sorted {f:Str} (h:bnOf f=some .sorted):f="sorted":=by
 unfold bnOf at h
 split at h
 ·cases h
 ·split at h
  ·cases h
  ·split at h
   ·cases h
   ·split at h
    ·rename_i e;exact eq_of_beq e
    ·cases h
theorem ssetArg_inv {kb:Bn} {e b:Expr} (h:ssetArg kb e=some b):∃ p2 q2,kb=.sorted∧e=.Call (.Name "set" p2) [b] [] q2:=by
 cases kb with
 | sorted =>
  cases e with
  | Call f es ks pos =>
   cases f with
   | Name g p2 =>
    rcases es with _ | ⟨b',_ | ⟨_,_⟩⟩
    ·cases h
    ·cases ks with
     | nil =>
      replace h:(if g==("set":Str) then some b' else none)=some b:=h
      split at h
      ·rename_i hc
       have e:=eq_of_beq hc
       subst e
       cases h
       exact ⟨p2,pos,rfl,rfl⟩
      ·cases h
     | cons _ _=>cases h
    ·cases h
   | _=>cases h
  | _=>cases h
 | _=>cases h
theorem snd_v (S:Snd G k n) {e:Expr} {e':E} (gd:Gd X c G k) (h:trV (n+1) c e=some e'):Oke X c e (evE G e'):=by
 have cst:∀ {t:T} {v:V} {a:Expr},PE X a (tC v)→(∀ F,Rep X.K F t v)→Oke X c a (evE G (.cst t)):=fun {t v a} h1 h2=>by
  have e:evE G (.cst t)=fun _=>some t:=by funext r;rw [evE]
  rw [e];exact ok_cst h1 h2
 cases e with
 | Constant cs q pos =>
  cases cs with
  | none=>cases (show some (E.cst .non)=some e' from h);exact cst pe_non fun _=>rfl
  | bool b=>cases (show some (E.cst (.bl b))=some e' from h);exact cst pe_bl fun _=>rfl
  | int i=>cases (show some (E.cst (.int i))=some e' from h);exact cst pe_int fun _=>rfl
  | str x=>cases (show some (E.cst (.str x))=some e' from h);exact cst pe_str fun _=>rfl
  | _=>(cases h;done)
 | Name x pos =>
  replace h:(if plainName x then (if visB c.sc x then (nameIx c.nm x).map E.var else if glB c.sc x&&!bnames.contains x then some (.glb x) else none) else none)=some e':=h
  split at h
  ·rename_i hp
   split at h
   ·rename_i hv
    obtain ⟨i,hi,rfl⟩:=oms h
    have e:evE G (.var i)=fun r=>(r[i]?).join:=by funext r;rw [evE]
    rw [e];exact ok_var gd hp hv hi
   ·split at h
    ·rename_i hg
     cases h
     rw [Bool.and_eq_true] at hg
     have e:evE G (.glb x)=fun _=>G.con x:=by funext r;rw [evE]
     rw [e];exact ok_glb gd hp hg.1
    ·cases h
  ·cases h
 | BinOp a op b pos =>
  obtain ⟨o,h0,h⟩:=obs h
  obtain ⟨x,h1,h⟩:=obs h
  obtain ⟨y,h2,h⟩:=obs h
  cases h
  have e:evE G (.bin o x y)=fun r=>(evE G x r).bind fun s=>(evE G y r).bind fun t=>binT o s t:=by funext r;rw [evE]
  rw [e];exact ok_op (ops_bo h0) (S.v gd h1) (S.v gd h2)
 | UnaryOp op a pos =>
  cases op with
  | Not =>
   obtain ⟨x,h1,h⟩:=obs h
   cases h
   have e:evE G (.lnot x)=fun r=>(evE G x r).bind fun t=>match t with | .bl b=>some (.bl (!b)) | _=>none:=by funext r;rw [evE];try rfl
   rw [e];exact ok_not (S.v gd h1)
  | USub =>
   obtain ⟨x,h1,h⟩:=obs h
   cases h
   have e:evE G (.neg x)=fun r=>(evE G x r).bind fun t=>match t with | .int b=>some (.int (-b)) | _=>none:=by funext r;rw [evE];try rfl
   rw [e];exact ok_neg (S.v gd h1)
  | _=>(cases h;done)
 | BoolOp op vs pos =>
  cases vs with
  | nil=>cases op<;>(cases h;done)
  | cons a r =>
   cases r with
   | nil=>exact pe_one (S.v gd h)
   | cons b r =>
    cases op with
    | And =>
     obtain ⟨x,h1,h⟩:=obs h
     obtain ⟨y,h2,h⟩:=obs h
     cases h
     have e:evE G (.land x y)=fun r=>(evE G x r).bind fun t=>match t with | .bl true=>evE G y r | .bl false=>some (.bl false) | _=>none:=by funext r;rw [evE];try rfl
     rw [e];exact ok_and (S.v gd h1) (S.v gd h2)
    | Or =>
     obtain ⟨x,h1,h⟩:=obs h
     obtain ⟨y,h2,h⟩:=obs h
     cases h
     have e:evE G (.lor x y)=fun r=>(evE G x r).bind fun t=>match t with | .bl true=>some (.bl true) | .bl false=>evE G y r | _=>none:=by funext r;rw [evE];try rfl
     rw [e];exact ok_or (S.v gd h1) (S.v gd h2)
 | Compare a ops bs pos =>
  match ops,bs,h with
  | [op],[b],h =>
   obtain ⟨o,h0,h⟩:=obs h
   obtain ⟨x,h1,h⟩:=obs h
   obtain ⟨y,h2,h⟩:=obs h
   cases h
   obtain ⟨q1,q2⟩:=ops_co (X:=X) gd.hu h0
   have e:evE G (.cmp o x y)=fun r=>(evE G x r).bind fun s=>(evE G y r).bind fun t=>cmpT o s t:=by funext r;rw [evE]
   rw [e];exact ok_cmp q1 (S.v gd h1) (S.v gd h2) q2
  | [op,op'],[b,d],h=>(cases h;done)
  | [],_,h=>(cases h;done)
  | [_],[],h=>(cases h;done)
  | [_],_::_::_,h=>(cases h;done)
  | [_,_],[],h=>(cases h;done)
  | [_,_],[_],h=>(cases h;done)
  | [_,_],_::_::_::_,h=>(cases h;done)
  | _::_::_::_,_,h=>(cases h;done)
 | Tuple es q pos =>
  obtain ⟨xs,h1,h⟩:=obs h
  cases h
  have e:evE G (.tup xs)=fun r=>if xs.length≤1000 then (evEs G xs r).map .tup else none:=by funext r;rw [evE]
  rw [e];exact ok_tup (S.l gd h1) fun r ts q=>evEs_len q
 | List es pos =>
  obtain ⟨xs,h1,h⟩:=obs h
  cases h
  have e:evE G (.lst xs)=fun r=>if xs.length≤1000 then (evEs G xs r).map .lst else none:=by funext r;rw [evE]
  rw [e];exact ok_lst (S.l gd h1) fun r ts q=>evEs_len q
 | Subscript a b pos =>
  have idx:sliceE b=false→((trV n c a).bind fun x=>(trV n c b).bind fun y=>some (E.idx x y))=some e'→Oke X c (.Subscript a b pos) (evE G e'):=fun hs h=>by
   obtain ⟨x,h1,h⟩:=obs h
   obtain ⟨y,h2,h⟩:=obs h
   cases h
   have e:evE G (.idx x y)=fun r=>(evE G x r).bind fun s=>(evE G y r).bind fun t=>idxT s t:=by funext r;rw [evE]
   rw [e];exact ok_idx (by have:=gd.hu;omega) (S.v gd h1) (S.v gd h2) (plain_ix hs)
  cases b with
  | Slice lo hi st p2 =>
   cases st with
   | some st =>
    replace h:(none:Option E)=some e':=h
    cases h
   | none =>
    obtain ⟨x,h1,h⟩:=obs h
    obtain ⟨l,h2,h⟩:=obs h
    obtain ⟨u,h3,h⟩:=obs h
    cases h
    have e:evE G (.sli x l u)=fun r=>(evE G x r).bind fun s=>(evO G l r).bind fun l1=>(evO G u r).bind fun u1=>(asI l1).bind fun l2=>(asI u1).bind fun u2=>sliT s l2 u2:=by funext r;rw [evE]
    rw [e];exact ok_sli (S.v gd h1) (S.o gd h2) (S.o gd h3)
  | Tuple _ _ _=>cases h
  | Starred _ _=>cases h
  | _=>exact idx rfl h
 | Call f args kws pos =>
  cases f with
  | Name f p =>
   match args,kws,h with
   | [],kws,h=>(cases h;done)
   | [a],[],h =>
    replace h:(if glB c.sc f&&plainName f then (match bnOf f with
  | some k=>(match ssetArg k a with
   | some b=>if glB c.sc ("set":Str) then (trV n c b).bind fun x=>some (.blt .sset x) else none
   | none=>(trV n c a).bind fun x=>some (.blt k x))
  | none=>if bnames.contains f then none else (trV n c a).bind fun x=>some (.call f [x])) else none)=some e':=h
    split at h
    ·rename_i hg
     rw [Bool.and_eq_true] at hg
     split at h
     ·rename_i kb hk
      split at h
      ·rename_i b hb
       obtain ⟨p2,q2,e1,e2⟩:=ssetArg_inv hb
       split at h
       ·rename_i hg2
        obtain ⟨x,h1,h⟩:=obs h
        cases h
        subst e1 e2
        have ef:=bn_sorted hk
        subst ef
        have e:evE G (.blt .sset x)=fun r=>(evE G x r).bind fun t=>bltT .sset t:=by funext r;rw [evE]
        rw [e];exact ok_sset gd hg.1 hg2 (S.v gd h1) (star_one h1 X.env)
       ·cases h
      ·obtain ⟨x,h1,h⟩:=obs h
       cases h
       have e:evE G (.blt kb x)=fun r=>(evE G x r).bind fun t=>bltT kb t:=by funext r;rw [evE]
       rw [e];exact ok_bn gd hk hg.1 (S.v gd h1) (star_one h1 X.env)
     ·split at h
      ·cases h
      ·obtain ⟨x,h1,h⟩:=obs h
       cases h
       exact snd_call S gd hg.1 hg.2 (by show (trV n c a).bind _=_;rw [h1];rfl)
    ·cases h
   | a::b::es,[],h =>
    replace h:(if glB c.sc f&&plainName f&&!bnames.contains f then (mapO (trV n c) (a::b::es)).bind fun xs=>some (.call f xs) else none)=some e':=h
    split at h
    ·rename_i hg
     simp only [Bool.and_eq_true] at hg
     obtain ⟨xs,h1,h⟩:=obs h
     cases h
     exact snd_call S gd hg.1.1 hg.1.2 h1
    ·cases h
   | _::bs,_::_,h=>rcases bs with _ | ⟨_,_⟩<;>cases h
  | Attribute o m apos =>
   match args,kws,h with
   | [a,b],[],h =>
    replace h:(if apos.endLine==pos.line&&m==("get":Str) then (trV n c o).bind fun x=>(trV n c a).bind fun y=>(trV n c b).bind fun z=>some (.dgt x y z) else none)=some e':=h
    split at h
    ·rename_i hl
     rw [Bool.and_eq_true] at hl
     obtain ⟨x,h1,h⟩:=obs h
     obtain ⟨y,h2,h⟩:=obs h
     obtain ⟨z,h3,h⟩:=obs h
     cases h
     have hm:=eq_of_beq hl.2
     subst hm
     have e:evE G (.dgt x y z)=fun r=>(evE G x r).bind fun s=>(evE G y r).bind fun t=>(evE G z r).bind fun u=>dgtT s t u:=by funext r;rw [evE]
     have hst:starEach [a,b] X.env=[(false,eval a X.env),(false,eval b X.env)]:=by rw [star_ok h2,star_one h3]
     rw [e];exact ok_dgt (by have:=gd.hu;omega) (S.v gd h1) (S.v gd h2) (S.v gd h3) ⟨base_ok h1 _ _ _,by rw [hst];rfl,hl.1,by rw [hst];rfl⟩
    ·cases h
   | [],_,h=>(cases h;done)
   | [_],_,h=>(cases h;done)
   | [_,_],_::_,h=>cases h
   | _::_::_::_,_,h=>cases h
  | _=>(cases h;done)
 | ListComp elt gens scope pos=>exact (snd_comp S gd h).1
 | _=>(cases h;done)
end
theorem snd_all (G:Glo) (k:Nat):∀ n,Snd G k n
 | 0=>⟨fun _ h=>(by cases h),fun _ h=>(by cases h),fun _ h=>(by cases h)⟩
 | n+1 =>
  have S:=snd_all G k n
  ⟨fun gd h=>snd_v S gd h,fun gd h=>snd_t S gd h,fun gd h ht=>snd_i S gd h ht⟩
end Ev
end
end
noncomputable section
noncomputable section
namespace Ev
open PySem PySem.Spec PyProof.Rows L2
def Sl.isOwn:Sl→Bool
 | .own _=>true
 | .dk _=>true
 | _=>false
def Own (K:PySem.W.Frag) (F:Hp):Sl→HO→Prop
 | .own ts,o=>∃ vs,o=.lst vs∧Reps K F ts vs
 | .dk kvs,o=>∃ ws:List (Key × V),o=.dK ws∧ws.map (·.1)=kvs.map (·.1)∧Reps K F (kvs.map (·.2)) (ws.map (·.2))
 | _,_=>False
theorem Own.mono {K:PySem.W.Frag} {F F':Hp} {s:Sl} {o:HO} (e:Same F F') (h:Own K F s o):Own K F' s o:=by
 cases s with
 | own ts=>obtain ⟨vs,h1,h2⟩:=h;exact ⟨vs,h1,h2.mono e⟩
 | dk kvs=>obtain ⟨ws,h1,h2,h3⟩:=h;exact ⟨ws,h1,h2,h3.mono e⟩
 | _=>exact h
theorem Own.noTup {K:PySem.W.Frag} {F:Hp} {s:Sl} {o:HO} {xs:List V} (h:Own K F s o):o≠.tup xs:=by
 cases s with
 | own ts=>obtain ⟨vs,rfl,_⟩:=h;exact fun z=>nomatch z
 | dk kvs=>obtain ⟨ws,rfl,_⟩:=h;exact fun z=>nomatch z
 | _=>exact h.elim
theorem Own.noTbl {K:PySem.W.Frag} {F:Hp} {s:Sl} {o:HO} (h:Own K F s o):isTbl o=false:=by
 cases s with
 | own ts=>obtain ⟨vs,rfl,_⟩:=h;rfl
 | dk kvs=>obtain ⟨ws,rfl,_⟩:=h;rfl
 | _=>exact h.elim
theorem Own.noFrz {K:PySem.W.Frag} {F:Hp} {s:Sl} {o:HO} (h:Own K F s o):∀ p u,o≠.frz p u:=by
 cases s with
 | own ts=>obtain ⟨vs,rfl,_⟩:=h;exact fun _ _ z=>nomatch z
 | dk kvs=>obtain ⟨ws,rfl,_⟩:=h;exact fun _ _ z=>nomatch z
 | _=>exact h.elim
theorem Own.frz {K:PySem.W.Frag} {F:Hp} {s:Sl} {o:HO} {a:Addr} (h:Own K F s o) (ha:F a=some o):∃ t,s.frz=.val t∧Rep K F t (.ref a):=by
 cases s with
 | own ts=>obtain ⟨vs,rfl,h2⟩:=h;exact ⟨_,rfl,a,vs,rfl,Ls.of ha,h2⟩
 | dk kvs=>obtain ⟨ws,rfl,h2,h3⟩:=h;exact ⟨_,rfl,a,ws,rfl,ha,h2,h3⟩
 | _=>exact h.elim
theorem Own.noDl {K:PySem.W.Frag} {F:Hp} {s:Sl} {o:HO} (h:Own K F s o):s.isDl=false:=by
 cases s with
 | dl kvs=>exact h.elim
 | _=>rfl
abbrev DRep (K:PySem.W.Frag) (F H:Hp):List (Kt × List T)→List (Key × V)→Prop:=Paired fun p q=>q.1=p.1∧∃ b vs,q.2=.ref b∧H b=some (.lst vs)∧Reps K F p.2 vs
abbrev foot (a:Addr) (ws:List (Key × V)):List V:=V.ref a::ws.map (·.2)
theorem DRep.mem {K:PySem.W.Frag} {F H:Hp} {kvs:List (Kt × List T)} {ws:List (Key × V)} (r:DRep K F H kvs ws) {v:V} (hv:v∈ws.map (·.2)):∃ b vs,v=.ref b∧H b=some (.lst vs):=by
 induction r with
 | nil=>cases hv
 | cons h t ih =>
  rcases omc hv with e | hv
  ·obtain ⟨_,b,vs,h1,h2,_⟩:=h;exact ⟨b,vs,e.trans h1,h2⟩
  ·exact ih hv
theorem DRep.up {K:PySem.W.Frag} {F H F' H':Hp} (hs:Same F F') {kvs:List (Kt × List T)} {ws:List (Key × V)} (r:DRep K F H kvs ws):(∀ b,V.ref b∈ws.map (·.2)→H' b=H b)→DRep K F' H' kvs ws:=by
 induction r with
 | nil=>exact fun _=>.nil
 | cons h t ih =>
  intro k
  obtain ⟨h0,b,vs,h1,h2,h3⟩:=h
  exact .cons ⟨h0,b,vs,h1,(k b (by rw [← h1];exact List.mem_cons_self)).trans h2,h3.mono hs⟩ (ih fun b hb=>k b (List.mem_cons_of_mem _ hb))
theorem DRep.keys {K:PySem.W.Frag} {F H:Hp} {kvs:List (Kt × List T)} {ws:List (Key × V)} (r:DRep K F H kvs ws):ws.map (·.1)=kvs.map (·.1):=by
 induction r with
 | nil=>rfl
 | cons h t ih=>rw [List.map_cons,List.map_cons,ih,h.1]
theorem DRep.vals {K:PySem.W.Frag} {F H F':Hp} {kvs:List (Kt × List T)} {ws:List (Key × V)} (r:DRep K F H kvs ws) (hs:Same F F'):(∀ b,V.ref b∈ws.map (·.2)→F' b=H b)→Reps K F' (kvs.map fun p=>T.lst p.2) (ws.map (·.2)):=by
 induction r with
 | nil=>exact fun _=>rfl
 | cons h t ih =>
  intro k
  obtain ⟨h0,b,vs,h1,h2,h3⟩:=h
  exact ⟨_,_,rfl,⟨b,vs,h1,Ls.of ((k b (by rw [← h1];exact List.mem_cons_self)).trans h2),h3.mono hs⟩,ih fun b hb=>k b (List.mem_cons_of_mem _ hb)⟩
structure DlAt (K:PySem.W.Frag) (F H H0:Hp) (τ:List Sl) (σ:L2.St) (i:Nat) (kvs:List (Kt × List T)) (a:Addr) (ws:List (Key × V)):Prop where
 ix:σ[i]?=some (some (.ref a))
 obj:H a=some (.dK ws)
 rep:DRep K F H kvs ws
 nd:(foot a ws).Nodup
 kn:(ws.map (·.1)).Nodup
 fr:∀ b,V.ref b∈foot a ws→F b=none∧H0 b=none∧∀ (j:Nat) (s:Sl),τ[j]?=some s→s.isOwn=true→σ[j]?≠some (some (.ref b))
 one:∀ (j:Nat) (s:Sl),τ[j]?=some s→s.isDl=true→j=i
section
variable {K:PySem.W.Frag} {F H H0 F' H':Hp} {τ τ':List Sl} {σ σ':L2.St} {i:Nat} {kvs:List (Kt × List T)} {a:Addr} {ws:List (Key × V)}
theorem DlAt.some' (d:DlAt K F H H0 τ σ i kvs a ws) {b:Addr} (hb:V.ref b∈foot a ws):∃ o,H b=some o∧isTbl o=false∧(∀ xs,o≠.tup xs)∧∀ p u,o≠.frz p u:=by
 rcases omc hb with e | hb
 ·cases e;exact ⟨_,d.obj,rfl,(fun _ z=>nomatch z),fun _ _ z=>nomatch z⟩
 ·obtain ⟨b',vs,e,h⟩:=d.rep.mem hb
  cases e
  exact ⟨_,h,rfl,(fun _ z=>nomatch z),fun _ _ z=>nomatch z⟩
theorem DlAt.up (d:DlAt K F H H0 τ σ i kvs a ws) (h1:σ'[i]?=σ[i]?) (hs:Same F F') (hh:∀ b,V.ref b∈foot a ws→H' b=H b) (hf:∀ b,V.ref b∈foot a ws→F' b=none)
  (ho:∀ b,V.ref b∈foot a ws→∀ (j:Nat) (s:Sl),τ'[j]?=some s→s.isOwn=true→σ'[j]?≠some (some (.ref b))) (ho':∀ (j:Nat) (s:Sl),τ'[j]?=some s→s.isDl=true→j=i):DlAt K F' H' H0 τ' σ' i kvs a ws :=
 ⟨h1.trans d.ix,(hh a List.mem_cons_self).trans d.obj,d.rep.up hs fun b hb=>hh b (List.mem_cons_of_mem _ hb),d.nd,d.kn,fun b hb=>⟨hf b hb,(d.fr b hb).2.1,ho b hb⟩,ho'⟩
end
structure EnvS (X:Cx) (F0 H0:Hp) (τ:List Sl) (σ:L2.St) (F H:Hp):Prop where
 st:Step F0 H0 F H
 t0:Tbk X.K F0 H0
 len:τ.length=σ.length
 val:∀ (i:Nat) (t:T),τ[i]?=some (.val t)→∃ v,σ[i]?=some (some v)∧Rep X.K F t v
 ownG:∀ (i:Nat) (s:Sl),τ[i]?=some s→s.isOwn=true→∃ a o,σ[i]?=some (some (.ref a))∧H a=some o∧F a=none∧H0 a=none∧Own X.K F s o
 disG:∀ (i j:Nat) (s u:Sl) (a:Addr),i≠j→τ[i]?=some s→τ[j]?=some u→s.isOwn=true→u.isOwn=true→σ[i]?=some (some (.ref a))→σ[j]?≠some (some (.ref a))
 dl:∀ (i:Nat) (kvs:List (Kt × List T)),τ[i]?=some (.dl kvs)→∃ a ws,DlAt X.K F H H0 τ σ i kvs a ws
section
variable {X:Cx} {c:Tc} {F0 H0:Hp} {τ:List Sl} {σ:L2.St} {F H F' H':Hp}
theorem EnvS.own (e:EnvS X F0 H0 τ σ F H) (i:Nat) (ts:List T) (h:τ[i]?=some (.own ts)):∃ a vs,σ[i]?=some (some (.ref a))∧H a=some (.lst vs)∧F a=none∧H0 a=none∧Reps X.K F ts vs:=by
 obtain ⟨a,o,h1,h2,h3,h4,vs,rfl,h5⟩:=e.ownG i _ h rfl
 exact ⟨a,vs,h1,h2,h3,h4,h5⟩
theorem EnvS.env (e:EnvS X F0 H0 τ σ F H) (hN:X.N=c.nm):EnvE X c (view τ) F σ H :=
 ⟨e.st.fh,e.t0.up e.st,fun x i t _ hi _ hr=>by
  unfold view at hr
  rw [List.getElem?_map] at hr
  obtain ⟨s,hs,hg⟩:=oms hr
  cases s with
  | val u =>
   cases hg
   obtain ⟨v,h1,h2⟩:=e.val i t hs
   exact ⟨i,v,by rw [hN];exact nameIx_get hi,h1,h2⟩
  | _=>cases hg⟩
theorem Step.off {F H F' H':Hp} {a:Addr} {o:HO} (s:Step F H F' H') (h3:F a=none) (h2:H a=some o) (ht:∀ xs,o≠.tup xs):F' a=none:=by
 cases q:F' a with
 | none=>rfl
 | some o' =>
  rcases s.nw a (by rw [q];simp) with z | z | ⟨xs,z⟩
  ·exact absurd h3 z
  ·rw [h2] at z;cases z
  ·rw [h2] at z;exact absurd (Option.some.inj z) (ht xs)
theorem EnvS.step (e:EnvS X F0 H0 τ σ F H) (s:Step F H F' H'):EnvS X F0 H0 τ σ F' H':=by
 refine ⟨e.st.trans s,e.t0,e.len,fun i t h=>let ⟨v,h1,h2⟩:=e.val i t h;⟨v,h1,h2.mono s.ff⟩,fun i sl h ho=>?_,e.disG,fun i kvs h=>?_⟩
 ·obtain ⟨a,o,h1,h2,h3,h4,h5⟩:=e.ownG i sl h ho
  exact ⟨a,o,h1,s.hh.st a _ h2 h5.noTbl,s.off h3 h2 fun xs=>h5.noTup,h4,h5.mono s.ff⟩
 ·obtain ⟨a,ws,d⟩:=e.dl i kvs h
  refine ⟨a,ws,d.up rfl s.ff (fun b hb=>?_) (fun b hb=>?_) (fun b hb=>(d.fr b hb).2.2) d.one⟩
  ·obtain ⟨o,h1,h2,_⟩:=d.some' hb
   rw [s.hh.st b o h1 h2,h1]
  ·obtain ⟨o,h1,h2,h3,_⟩:=d.some' hb
   exact s.off (d.fr b hb).1 h1 h3
theorem get_mod (τ:List Sl) (i j:Nat):(τ.modify i Sl.frz)[j]?=if i=j then (τ[j]?).map Sl.frz else τ[j]?:=by
 rw [List.getElem?_modify]
 by_cases h:i=j
 ·simp only [h,if_true]
  cases τ[j]?<;>rfl
 ·simp only [h,if_false]
  cases τ[j]?<;>rfl
theorem EnvS.frz1 (e:EnvS X F0 H0 τ σ F H) (i:Nat):∃ F',EnvS X F0 H0 (τ.modify i Sl.frz) σ F' H∧Same F F':=by
 by_cases ho:∃ s,τ[i]?=some s∧s.isOwn=true
 ·obtain ⟨sl,ho,hw⟩:=ho
  obtain ⟨a,ob,h1,h2,h3,h4,h5⟩:=e.ownG i sl ho hw
  have hs:Same F (upd F a ob):=same_new h3
  obtain ⟨t0,ef,r0⟩:=(h5.mono hs).frz (a:=a) upd_same
  have get:∀ (j:Nat) (s:Sl),(τ.modify i Sl.frz)[j]?=some s→(j=i∧s=.val t0)∨(j≠i∧τ[j]?=some s):=fun j s h=>by
   rw [get_mod] at h
   by_cases hj:i=j
   ·subst hj
    rw [if_pos rfl,ho] at h
    rw [← ef]
    exact .inl ⟨rfl,(Option.some.inj h).symm⟩
   ·rw [if_neg hj] at h
    exact .inr ⟨Ne.symm hj,h⟩
  refine ⟨upd F a ob,⟨⟨e.st.hh,e.st.ff.trans hs,fun b o q=>?_,fun b z=>?_⟩,e.t0,by rw [List.length_modify];exact e.len,fun j t h=>?_,fun j u h hu=>?_,fun j l u w b hjl hj hl hu hw'=>?_,fun j kvs h=>?_⟩,hs⟩
  ·by_cases hb:b=a
   ·subst hb;rw [upd_same] at q;cases q;exact h2
   ·rw [upd_ne hb] at q;exact e.st.fh b o q
  ·by_cases hb:b=a
   ·subst hb;exact .inr (.inl h4)
   ·rw [upd_ne hb] at z;exact e.st.nw b z
  ·rcases get j _ h with ⟨rfl,q⟩ | ⟨_,q⟩
   ·cases q
    exact ⟨.ref a,h1,r0⟩
   ·obtain ⟨v,q1,q2⟩:=e.val j t q
    exact ⟨v,q1,q2.mono hs⟩
  ·rcases get j _ h with ⟨rfl,q⟩ | ⟨hj,q⟩
   ·subst q;cases hu
   ·obtain ⟨b,o,q1,q2,q3,q4,q5⟩:=e.ownG j u q hu
    have hne:b≠a:=fun z=>by subst z;exact e.disG i j sl u b (Ne.symm hj) ho q hw hu h1 q1
    exact ⟨b,o,q1,q2,by rw [upd_ne hne];exact q3,q4,q5.mono hs⟩
  ·rcases get j _ hj with ⟨_,q⟩ | ⟨_,q⟩
   ·subst q;cases hu
   ·rcases get l _ hl with ⟨_,q'⟩ | ⟨_,q'⟩
    ·subst q';cases hw'
    ·exact e.disG j l u w b hjl q q' hu hw'
  ·rcases get j _ h with ⟨_,q⟩ | ⟨hj,q⟩
   ·cases q
   ·obtain ⟨a',ws,d⟩:=e.dl j kvs q
    have hne:∀ b,V.ref b∈foot a' ws→b≠a:=fun b hb z=>by subst z;exact (d.fr b hb).2.2 i sl ho hw h1
    refine ⟨a',ws,d.up rfl hs (fun b hb=>rfl) (fun b hb=>by rw [upd_ne (hne b hb)];exact (d.fr b hb).1) (fun b hb l u hl hu=>?_) fun l u hl hu=>?_⟩
    ·rcases get l _ hl with ⟨_,q'⟩ | ⟨_,q'⟩
     ·subst q';cases hu
     ·exact (d.fr b hb).2.2 l u q' hu
    ·rcases get l _ hl with ⟨_,q'⟩ | ⟨_,q'⟩
     ·subst q';cases hu
     ·exact d.one l u q' hu
 ·by_cases hdl:∃ kvs,τ[i]?=some (.dl kvs)
  ·obtain ⟨kvs,ho⟩:=hdl
   obtain ⟨a,ws,d⟩:=e.dl i kvs ho
   have get:∀ (j:Nat) (s:Sl),(τ.modify i Sl.frz)[j]?=some s→(j=i∧s=Sl.frz (.dl kvs))∨(j≠i∧τ[j]?=some s):=fun j s h=>by
    rw [get_mod] at h
    by_cases hj:i=j
    ·subst hj
     rw [if_pos rfl,ho] at h
     exact .inl ⟨rfl,(Option.some.inj h).symm⟩
    ·rw [if_neg hj] at h
     exact .inr ⟨Ne.symm hj,h⟩
   have hin:∀ b,V.ref b∈foot a ws→(fun b=>if V.ref b∈foot a ws then H b else F b:Hp) b=H b:=fun b hb=>if_pos hb
   have hno:∀ b,V.ref b∉foot a ws→(fun b=>if V.ref b∈foot a ws then H b else F b:Hp) b=F b:=fun b hb=>if_neg hb
   have hs:Same F (fun b=>if V.ref b∈foot a ws then H b else F b):=fun b o q=>by
    by_cases hb:V.ref b∈foot a ws
    ·rw [(d.fr b hb).1] at q;cases q
    ·exact (hno b hb).trans q
   refine ⟨_,⟨⟨e.st.hh,e.st.ff.trans hs,fun b o q=>?_,fun b z=>?_⟩,e.t0,by rw [List.length_modify];exact e.len,fun j t h=>?_,fun j u h hu=>?_,fun j l u w b hjl hj hl hu hw'=>?_,fun j kk h=>?_⟩,hs⟩
   ·by_cases hb:V.ref b∈foot a ws
    ·rw [← hin b hb];exact q
    ·exact e.st.fh b o ((hno b hb).symm.trans q)
   ·by_cases hb:V.ref b∈foot a ws
    ·exact .inr (.inl (d.fr b hb).2.1)
    ·exact e.st.nw b fun y=>z ((hno b hb).trans y)
   ·rcases get j _ h with ⟨rfl,q⟩ | ⟨_,q⟩
    ·cases q
     exact ⟨.ref a,d.ix,a,ws,rfl,(hin a List.mem_cons_self).trans d.obj,d.rep.keys,d.rep.vals hs fun b hb=>hin b (List.mem_cons_of_mem _ hb)⟩
    ·obtain ⟨v,q1,q2⟩:=e.val j t q
     exact ⟨v,q1,q2.mono hs⟩
   ·rcases get j _ h with ⟨_,q⟩ | ⟨hj,q⟩
    ·subst q;cases hu
    ·obtain ⟨b,o,q1,q2,q3,q4,q5⟩:=e.ownG j u q hu
     exact ⟨b,o,q1,q2,(hno b fun hb=>(d.fr b hb).2.2 j u q hu q1).trans q3,q4,q5.mono hs⟩
   ·rcases get j _ hj with ⟨_,q⟩ | ⟨_,q⟩
    ·subst q;cases hu
    ·rcases get l _ hl with ⟨_,q'⟩ | ⟨_,q'⟩
     ·subst q';cases hw'
     ·exact e.disG j l u w b hjl q q' hu hw'
   ·rcases get j _ h with ⟨_,q⟩ | ⟨hj,q⟩
    ·cases q
    ·exact absurd (d.one j _ q rfl) hj
  refine ⟨F,?_,Same.refl F⟩
  have:τ.modify i Sl.frz=τ:=by
   apply List.ext_getElem?
   intro j
   rw [get_mod]
   by_cases hj:i=j
   ·subst hj
    rw [if_pos rfl]
    cases q:τ[i]? with
    | none=>rfl
    | some s =>
     cases s with
     | own ts=>exact absurd ⟨_,q,rfl⟩ ho
     | dk ts=>exact absurd ⟨_,q,rfl⟩ ho
     | dl ts=>exact absurd ⟨_,q⟩ hdl
     | _=>rfl
   ·rw [if_neg hj]
  rw [this]
  exact e
theorem EnvS.frz:∀ (is:List Nat) {τ:List Sl} {F:Hp},EnvS X F0 H0 τ σ F H→∃ F',EnvS X F0 H0 (frzAt is τ) σ F' H∧Same F F'
 | [],_,F,e=>⟨F,e,Same.refl F⟩
 | i::is,τ,F,e=>by
  obtain ⟨F1,e1,s1⟩:=e.frz1 i
  obtain ⟨F2,e2,s2⟩:=EnvS.frz is e1
  exact ⟨F2,e2,s1.trans s2⟩
theorem get_set {α:Type} {l:List α} {i j:Nat} {x y:α} (h:(l.set i x)[j]?=some y):(j=i∧y=x)∨(j≠i∧l[j]?=some y):=by
 rw [List.getElem?_set] at h
 split at h
 ·rename_i hj
  split at h
  ·cases h;exact .inl ⟨hj.symm,rfl⟩
  ·cases h
 ·rename_i hj
  exact .inr ⟨Ne.symm hj,h⟩
theorem EnvS.setV1 (e:EnvS X F0 H0 τ σ F H) (i:Nat) {t:T} {v:V} (r:Rep X.K F t v):EnvS X F0 H0 (τ.set i (.val t)) (σ.set i (some v)) F H:=by
 refine ⟨e.st,e.t0,by rw [List.length_set,List.length_set];exact e.len,fun j u h=>?_,fun j u h hu=>?_,fun j l u w b hjl hj hl hu hw=>?_,fun j kvs h=>?_⟩
 ·rcases get_set h with ⟨rfl,q⟩ | ⟨hj,q⟩
  ·cases q
   refine ⟨v,?_,r⟩
   have hlt:j<(τ.set j (.val t)).length:=(ome h).1
   rw [List.length_set,e.len] at hlt
   rw [List.getElem?_set_self hlt]
  ·obtain ⟨w,q1,q2⟩:=e.val j u q
   exact ⟨w,by rw [List.getElem?_set_ne (Ne.symm hj)];exact q1,q2⟩
 ·rcases get_set h with ⟨rfl,q⟩ | ⟨hj,q⟩
  ·subst q;cases hu
  ·obtain ⟨a,o,q1,q2⟩:=e.ownG j u q hu
   exact ⟨a,o,by rw [List.getElem?_set_ne (Ne.symm hj)];exact q1,q2⟩
 ·rcases get_set hj with ⟨_,q⟩ | ⟨hji,q⟩
  ·subst q;cases hu
  ·rcases get_set hl with ⟨_,q'⟩ | ⟨hli,q'⟩
   ·subst q';cases hw
   ·rw [List.getElem?_set_ne (Ne.symm hji),List.getElem?_set_ne (Ne.symm hli)]
    exact e.disG j l u w b hjl q q' hu hw
 ·rcases get_set h with ⟨_,q⟩ | ⟨hj,q⟩
  ·cases q
  ·obtain ⟨a',ws,d⟩:=e.dl j kvs q
   refine ⟨a',ws,d.up (List.getElem?_set_ne (Ne.symm hj)) (Same.refl F) (fun b hb=>rfl) (fun b hb=>(d.fr b hb).1) (fun b hb l u hl hu=>?_) fun l u hl hu=>?_⟩
   ·rcases get_set hl with ⟨_,q'⟩ | ⟨hli,q'⟩
    ·subst q';cases hu
    ·rw [List.getElem?_set_ne (Ne.symm hli)];exact (d.fr b hb).2.2 l u q' hu
   ·rcases get_set hl with ⟨_,q'⟩ | ⟨hli,q'⟩
    ·subst q';cases hu
    ·exact d.one l u q' hu
theorem EnvS.setG (e:EnvS X F0 H0 τ σ F H) (i:Nat) {s:Sl} {p:Addr} {o:HO} (hp:H p=none) (r:Own X.K F s o):EnvS X F0 H0 (τ.set i s) (σ.set i (some (.ref p))) F (upd H p o):=by
 have hs:Same H (upd H p o):=same_new hp
 have nop:∀ {j:Nat} {u:Sl} {a:Addr},τ[j]?=some u→u.isOwn=true→σ[j]?=some (some (.ref a))→a≠p:=fun {j u a} q hu q1=>by
  obtain ⟨a',o',g1,g2,_⟩:=e.ownG j u q hu
  rw [q1] at g1;cases g1
  exact ne_of_none g2 hp
 refine ⟨e.st.newH hp,e.t0,by rw [List.length_set,List.length_set];exact e.len,fun j u h=>?_,fun j u h hu=>?_,fun j l u w b hjl hj hl hu hw=>?_,fun j kvs h=>?_⟩
 ·rcases get_set h with ⟨_,q⟩ | ⟨hj,q⟩
  ·subst q;exact r.elim
  ·obtain ⟨w,q1,q2⟩:=e.val j u q
   exact ⟨w,by rw [List.getElem?_set_ne (Ne.symm hj)];exact q1,q2⟩
 ·rcases get_set h with ⟨rfl,q⟩ | ⟨hj,q⟩
  ·subst q
   have hlt:j<(τ.set j u).length:=(ome h).1
   rw [List.length_set,e.len] at hlt
   exact ⟨p,o,by rw [List.getElem?_set_self hlt],upd_same,e.st.fh.free hp,e.st.hh.free hp,r⟩
  ·obtain ⟨a,o',q1,q2,q3⟩:=e.ownG j u q hu
   exact ⟨a,o',by rw [List.getElem?_set_ne (Ne.symm hj)];exact q1,hs a _ q2,q3⟩
 ·intro hb hb'
  rcases get_set hj with ⟨rfl,q⟩ | ⟨hji,q⟩
  ·rcases get_set hl with ⟨rfl,q'⟩ | ⟨hli,q'⟩
   ·exact hjl rfl
   ·rw [List.getElem?_set_ne (Ne.symm hli)] at hb'
    have hlt:j<σ.length:=by have:=(ome hj).1;rw [List.length_set,e.len] at this;exact this
    rw [List.getElem?_set_self hlt] at hb
    cases hb
    exact nop q' hw hb' rfl
  ·rw [List.getElem?_set_ne (Ne.symm hji)] at hb
   rcases get_set hl with ⟨rfl,q'⟩ | ⟨hli,q'⟩
   ·have hlt:l<σ.length:=by have:=(ome hl).1;rw [List.length_set,e.len] at this;exact this
    rw [List.getElem?_set_self hlt] at hb'
    cases hb'
    exact nop q hu hb rfl
   ·rw [List.getElem?_set_ne (Ne.symm hli)] at hb'
    exact e.disG j l u w b hjl q q' hu hw hb hb'
 ·rcases get_set h with ⟨_,q⟩ | ⟨hj,q⟩
  ·subst q;exact r.elim
  ·obtain ⟨a',ws,d⟩:=e.dl j kvs q
   have hne:∀ b,V.ref b∈foot a' ws→b≠p:=fun b hb=>let ⟨o,h1,_⟩:=d.some' hb;ne_of_none h1 hp
   refine ⟨a',ws,d.up (List.getElem?_set_ne (Ne.symm hj)) (Same.refl F) (fun b hb=>by rw [upd_ne (hne b hb)]) (fun b hb=>(d.fr b hb).1) (fun b hb l u hl hu z=>?_) fun l u hl hu=>?_⟩
   ·rcases get_set hl with ⟨rfl,q'⟩ | ⟨hli,q'⟩
    ·have hlt:l<σ.length:=by have:=(ome hl).1;rw [List.length_set,e.len] at this;exact this
     rw [List.getElem?_set_self hlt] at z
     cases z
     exact hne _ hb rfl
    ·rw [List.getElem?_set_ne (Ne.symm hli)] at z;exact (d.fr b hb).2.2 l u q' hu z
   ·rcases get_set hl with ⟨_,q'⟩ | ⟨hli,q'⟩
    ·subst q';rw [r.noDl] at hu;cases hu
    ·exact d.one l u q' hu
theorem EnvS.setO (e:EnvS X F0 H0 τ σ F H) (i:Nat) {ts:List T} {p:Addr} {vs:List V} (hp:H p=none) (r:Reps X.K F ts vs):EnvS X F0 H0 (τ.set i (.own ts)) (σ.set i (some (.ref p))) F (upd H p (.lst vs)):=e.setG i hp ⟨vs,rfl,r⟩
theorem EnvS.growG (e:EnvS X F0 H0 τ σ F H) {i:Nat} {s s':Sl} {a:Addr} {o:HO} (ho:τ[i]?=some s) (hs:s.isOwn=true) (ha:σ[i]?=some (some (.ref a))) (h3:F a=none) (h4:H0 a=none) (r:Own X.K F s' o):EnvS X F0 H0 (τ.set i s') σ F (upd H a o):=by
 refine ⟨⟨(by obtain ⟨a2,o2,g1,g2,_,_,g5⟩:=e.ownG i s ho hs;rw [ha] at g1;cases g1;exact e.st.hh.upd h4 g2 g5.noTbl g5.noFrz),e.st.ff,fun b u q=>by rw [upd_ne (ne_of_none q h3)];exact e.st.fh b u q,e.st.nw⟩,e.t0,by rw [List.length_set];exact e.len,fun j u h=>?_,fun j w h hw=>?_,fun j l w z b hjl hj hl hw hz=>?_,fun j kvs h=>?_⟩
 ·rcases get_set h with ⟨_,q⟩ | ⟨hj,q⟩
  ·subst q;exact r.elim
  ·exact e.val j u q
 ·rcases get_set h with ⟨rfl,q⟩ | ⟨hj,q⟩
  ·subst q
   exact ⟨a,o,ha,upd_same,h3,h4,r⟩
  ·obtain ⟨b,z,q1,q2,q3,q4,q5⟩:=e.ownG j w q hw
   have hne:b≠a:=fun z=>by subst z;exact e.disG i j s w b (Ne.symm hj) ho q hs hw ha q1
   exact ⟨b,z,q1,by rw [upd_ne hne];exact q2,q3,q4,q5⟩
 ·rcases get_set hj with ⟨rfl,q⟩ | ⟨hji,q⟩
  ·rcases get_set hl with ⟨rfl,q'⟩ | ⟨hli,q'⟩
   ·exact absurd rfl hjl
   ·exact e.disG j l s z b hjl ho q' hs hz
  ·rcases get_set hl with ⟨rfl,q'⟩ | ⟨hli,q'⟩
   ·exact e.disG j l w s b hjl q ho hw hs
   ·exact e.disG j l w z b hjl q q' hw hz
 ·rcases get_set h with ⟨_,q⟩ | ⟨hj,q⟩
  ·subst q;exact r.elim
  ·obtain ⟨a',ws,d⟩:=e.dl j kvs q
   refine ⟨a',ws,d.up rfl (Same.refl F) (fun b hb=>upd_ne fun z=>by subst z;exact (d.fr b hb).2.2 i s ho hs ha) (fun b hb=>(d.fr b hb).1) (fun b hb l u hl hu=>?_) fun l u hl hu=>?_⟩
   ·rcases get_set hl with ⟨rfl,q'⟩ | ⟨hli,q'⟩
    ·exact (d.fr b hb).2.2 l s ho hs
    ·exact (d.fr b hb).2.2 l u q' hu
   ·rcases get_set hl with ⟨_,q'⟩ | ⟨hli,q'⟩
    ·subst q';rw [r.noDl] at hu;cases hu
    ·exact d.one l u q' hu
theorem EnvS.grow (e:EnvS X F0 H0 τ σ F H) {i:Nat} {ts us:List T} {a:Addr} {vs:List V} (ho:τ[i]?=some (.own ts)) (ha:σ[i]?=some (some (.ref a))) (h3:F a=none) (h4:H0 a=none) (r:Reps X.K F us vs):EnvS X F0 H0 (τ.set i (.own us)) σ F (upd H a (.lst vs)):=e.growG ho rfl ha h3 h4 ⟨vs,rfl,r⟩
theorem EnvS.setAll (hN:X.N=c.nm):∀ {is:List Nat} {us:List T} {vs:List V} {τ τ':List Sl} {σ:L2.St},EnvS X F0 H0 τ σ F H→Reps X.K F us vs→setAll is us τ=some τ'→EnvS X F0 H0 τ' (setV is vs σ) F H∧vs.length=is.length
 | [],[],_,τ,τ',σ,e,r,h=>by cases r;cases h;exact ⟨e,rfl⟩
 | [],_::_,_,_,_,_,_,_,h=>by cases h
 | _::_,[],_,_,_,_,_,_,h=>by cases h
 | i::is,u::us,vs,τ,τ',σ,e,r,h=>by
  obtain ⟨v,ws,rfl,r1,r2⟩:=r
  obtain ⟨q1,q2⟩:=EnvS.setAll hN (is:=is) (e.setV1 i r1) r2 h
  exact ⟨q1,by simp [q2]⟩
end
def wantO (X:Cx) (F0 H0 F:Hp) (D:Ends):Out→Prop
 | .nx τ'=>∀ σ' F' H',EnvS X F0 H0 τ' σ' F' H'→Same F F'→D.nx σ' H'
 | .rt t=>∀ v F' H',Step F0 H0 F' H'→Rep X.K F' t v→D.rt v H'
def spS (X:Cx) (F0 H0:Hp) (f:List Sl→Option Out):TS:=fun D σ H=>∃ τ F o,EnvS X F0 H0 τ σ F H∧f τ=some o∧wantO X F0 H0 F D o
theorem wantO.up {X:Cx} {F0 H0 F F':Hp} {D:Ends} {o:Out} (s:Same F F') (h:wantO X F0 H0 F D o):wantO X F0 H0 F' D o:=by
 cases o with
 | nx τ=>exact fun σ' G' H' e s'=>h σ' G' H' e (s.trans s')
 | rt t=>exact h
end Ev
end
end
noncomputable section
noncomputable section
namespace Ev
open PySem PySem.Spec PyProof.Rows L2
structure Fx (X:Cx) (c:Tc):Prop where
 hN:X.N=c.nm
 loc:∀ x,(c.sc.names.lookup x=some .local∨c.sc.names.lookup x=some .cell)→Loc X.env.scope x
 fn:∀ x,X.fn x=true
 xe:X.xe=fun _ _=>False
section
variable {X:Cx} {c:Tc} {G:Glo} {k n:Nat} {F0 H0:Hp}
theorem Fx.at (fx:Fx X c) {x:Str} {i:Nat} (hl:c.sc.names.lookup x=some .local∨c.sc.names.lookup x=some .cell) (hi:nameIx c.nm x=some i):At X x i:=⟨by rw [fx.hN];exact nameIx_get hi,fx.loc x hl,.inl (fx.fn x)⟩
theorem Fx.ats (fx:Fx X c):∀ {xs:List Str} {is:List Nat},(xs.all fun x=>plainName x&&(c.sc.names.lookup x==some .local||c.sc.names.lookup x==some .cell))=true→mapO (nameIx c.nm) xs=some is→Ats X xs is
 | [],_,_,h=>by cases h;exact .nil
 | x::xs,is,hl,h=>by
  rw [List.all_cons,Bool.and_eq_true] at hl
  obtain ⟨i,h1,h⟩:=obs h
  obtain ⟨js,h2,h⟩:=obs h
  cases h
  have q:=hl.1
  simp only [Bool.and_eq_true,Bool.or_eq_true,beq_iff_eq] at q
  exact .cons (fx.at q.2 h1) (fx.ats hl.2 h2)
theorem swap_ok {e:Expr} {e':E} (h:trV n c e=some e') (hl:∀ a b s p,e≠.ListComp a b s p) (t:Option Expr) (l:Nat) (env:PySem.Env):swapsWith e t l env=pure false:=by
 cases n with
 | zero=>cases h
 | succ n =>
  cases e with
  | ListComp a b s p=>exact absurd rfl (hl a b s p)
  | SetComp _ _ _ _=>cases h
  | DictComp _ _ _ _ _=>cases h
  | _=>rfl
theorem mt_extend':MtM X "list.extend" (fun x vs H Q=>∃ l b xs zs,x=.ref l∧vs=[.ref b]∧H l=some (.lst xs)∧Ls X.K H b zs∧xs.length+zs.length≤sizeLine∧Q .non (upd H l (.lst (xs++zs)))):=by
 intro pins s σ H x vs v us Q I rx rv h
 obtain ⟨l,b,xs,zs,rfl,rfl,hH,hB,hz,q⟩:=h
 cases rx
 obtain ⟨u,rfl,ru⟩:=rv.one
 cases ru
 obtain ⟨z,its,n,r,hl,e⟩:=I.lstM hH
 obtain ⟨z2,its2,n2,r2,e2⟩:=hB.ok I
 have hl2:=r2.length
 have hsz:its.toArray.size+its2.toArray.size≤sizeLine:=by rw [List.size_toArray,List.size_toArray];omega
 have hlong:¬ (!its.toArray.isEmpty&&Builtin.List.listTooLong (its.toArray.size+its2.toArray.size))=true:=by
  rw [notLongL hsz,Bool.and_false]
  exact Bool.false_ne_true
 refine call_meets F.slot_list_extend ⟨_,e,rfl⟩ F.entry_list_extend (F.args_list_extend_2 _ _)
  (AutoSeq1.list_extend_list_list_0 l its.toArray n b its2.toArray n2 hlong (by rw [List.size_toArray];omega) (by omega)) ⟨e,e2,?_⟩
 refine ⟨.non,_,I.lset (its':=its++its2) hH e (by simp) (r.append r2) ?_,rfl,q⟩
 rw [List.length_append]
 omega
theorem ok_addN {a b:Expr} {pos:Pos} {f g:Env→Option T} (ha:Oke X c a f) (hb:Oke X c b g):PE X (.BinOp a .Add b pos) (spN X c (fun r=>(f r).bind fun x=>(g r).bind fun y=>addT x y)):=by
 refine pe_mono (pe_op op_cat' ha hb) fun σ H Q q=>?_
 obtain ⟨r,F,ts,e,ht,q⟩:=q
 obtain ⟨t1,e1,ht⟩:=obs ht
 obtain ⟨t2,e2,ht⟩:=obs ht
 refine ⟨r,F,t1,e,e1,fun v1 F1 H1 s1 r1=>⟨r,F1,t2,e.step s1,e2,fun v2 F2 H2 s2 r2=>?_⟩⟩
 have key:∃ us ws,t1=.lst us∧t2=.lst ws∧us.length+ws.length≤SZ∧ts=us++ws:=by
  cases t1 with
  | lst us =>
   cases t2 with
   | lst ws =>
    simp only [addT] at ht
    split at ht
    ·rename_i hz
     cases ht
     exact ⟨_,_,rfl,rfl,hz,rfl⟩
    ·cases ht
   | _=>simp [addT] at ht
  | _=>cases t2<;>simp only [addT] at ht<;>(try split at ht)<;>cases ht
 obtain ⟨us,ws,rfl,rfl,hz,rfl⟩:=key
 obtain ⟨l,vs,rfl,g1,g2⟩:=r1
 obtain ⟨l',vs',rfl,g3,g4⟩:=r2
 refine ⟨l,l',vs,vs',rfl,rfl,Ls.same (s2.ff.trans s2.fh) g1,Ls.same s2.fh g3,by rw [g2.length,g4.length,← sz_eq];exact hz,fun p hp=>?_⟩
 exact q p _ F2 H2 (s1.trans s2) hp ((g2.mono s2.ff).app g4)
theorem slot_val {y:E} {t:T} (h:fresh y=false∨∀ ts,t≠.lst ts):slotOf y t=.val t:=by
 unfold slotOf
 rcases h with h | h
 ·rw [h]
 ·cases fresh y with
  | false=>rfl
  | true=>cases t with
   | lst ts=>exact absurd rfl (h ts)
   | _=>rfl
theorem slot_own {y:E} {ts:List T} (h:fresh y=true):slotOf y (.lst ts)=.own ts:=by unfold slotOf;rw [h]
theorem snd_asg (gd:Gd X c G k) (fx:Fx X c) {x:Str} {e:Expr} {y:E} {py pos:Pos} {i:Nat} (hl:c.sc.names.lookup x=some .local∨c.sc.names.lookup x=some .cell) (hi:nameIx c.nm x=some i) (h:trV (n+1) c e=some y) (hfl:fresh y=true→litE e=true) :
  PS X (.Assign [.Name x py] e pos) (spS X F0 H0 (evS G (.asg i y))):=by
 have S:=snd_all G k n
 have at_:=fx.at hl hi
 intro pins s σ H D I q
 obtain ⟨τ,F,o,en,hf,hw⟩:=q
 rw [evS] at hf
 obtain ⟨F1,e1,s1⟩:=en.frz (vars y)
 obtain ⟨t,ht,hf⟩:=obs hf
 cases hf
 have val:slotOf y t=.val t→spAsg X c i (evE G y) D σ H:=fun hs=>⟨_,F1,t,e1.env fx.hN,ht,fun v F' H' st r=>hw _ F' H' (by rw [hs];exact (e1.step st).setV1 i r) (s1.trans st.ff)⟩
 have valN:slotOf y t=.val t→(∀ a b s p,e≠.ListComp a b s p)→wpAny (model X.prog X.w) X.A (exec (.Assign [.Name x py] e pos) X.env) (SP X pins D) X.xe s:=fun hs hne =>
  ps_set gd.nd at_.ix at_.loc (snd_v S gd h) (swap_ok h hne _ _ _) at_.fn pins s σ H D I (by
   obtain ⟨r,F2,t2,a1,a2,a3⟩:=val hs
   exact ⟨r,F2,t2,a1,a2,a3⟩)
 have own:∀ {ts:List T},t=.lst ts→fresh y=true→(∀ a b s p,e≠.ListComp a b s p)→PE X e (spN X c (evE G y))→wpAny (model X.prog X.w) X.A (exec (.Assign [.Name x py] e pos) X.env) (SP X pins D) X.xe s:=fun {ts} et hfr hne hp=>by
  subst et
  refine ps_set gd.nd at_.ix at_.loc hp (swap_ok h hne _ _ _) at_.fn pins s σ H D I ⟨_,F1,ts,e1.env fx.hN,ht,fun p vs F' H1 st hp r=>hw _ F' _ ?_ (s1.trans st.ff)⟩
  rw [slot_own hfr]
  exact (e1.step st).setO i hp r
 cases e with
 | ListComp a b sc p =>
  have hy:fresh y=false:=by
   obtain ⟨tg,iter,ifs,rfl,xs,ki,h0,h1,hcs,hr⟩:=comp_inv h
   match ifs,hr with
   | [],hr =>
    obtain ⟨z,h2,hr⟩:=obs hr
    cases hr;rfl
   | [t],hr =>
    obtain ⟨z,h2,hr⟩:=obs hr
    obtain ⟨w,h3,hr⟩:=obs hr
    cases hr;rfl
   | _::_::_,hr=>cases hr
  exact (snd_comp S gd h).2 at_ pins s σ H D I (val (slot_val (.inl hy)))
 | List es p =>
  have h':=h
  obtain ⟨zs,h1,h'⟩:=obs h'
  cases h'
  have ee:evE G (.lst zs)=fun r=>if zs.length≤1000 then (evEs G zs r).map .lst else none:=by funext r;rw [evE]
  have hlst:∃ ts,t=.lst ts:=by
   rw [ee] at ht
   dsimp only at ht
   split at ht
   ·obtain ⟨ts,_,rfl⟩:=oms ht
    exact ⟨ts,rfl⟩
   ·cases ht
  obtain ⟨ts,rfl⟩:=hlst
  exact own rfl rfl (fun _ _ _ _ z=>by cases z) (by rw [ee];exact ok_lstN (S.l gd h1) fun r ts q=>evEs_len q)
 | BinOp a op b p =>
  have h':=h
  obtain ⟨o,h0,h'⟩:=obs h'
  obtain ⟨x1,h1,h'⟩:=obs h'
  obtain ⟨y1,h2,h'⟩:=obs h'
  cases h'
  by_cases hadd:op=.Add
  ·subst hadd
   cases h0
   by_cases hlst:∃ ts,t=.lst ts
   ·obtain ⟨ts,rfl⟩:=hlst
    have ee:evE G (.bin .add x1 y1)=fun r=>(evE G x1 r).bind fun s=>(evE G y1 r).bind fun t=>addT s t:=by funext r;rw [evE];try rfl
    exact own rfl rfl (fun _ _ _ _ z=>by cases z) (by rw [ee];exact ok_addN (S.v gd h1) (S.v gd h2))
   ·exact valN (slot_val (.inr fun ts z=>hlst ⟨ts,z⟩)) (fun _ _ _ _ z=>by cases z)
  ·refine valN (slot_val (.inl ?_)) (fun _ _ _ _ z=>by cases z)
   cases op<;>first | exact absurd rfl hadd | (cases h0;done) | (cases h0;rfl)
 | _ =>
  refine valN (slot_val (.inl ?_)) (fun _ _ _ _ z=>by cases z)
  cases hfr:fresh y with
  | false=>rfl
  | true=>cases hfl hfr
end
end Ev
end
end
noncomputable section
noncomputable section
namespace Ev
open PySem PySem.Spec PyProof.Rows L2
section
variable {X:Cx} {c:Tc} {G:Glo} {k n:Nat} {F0 H0:Hp}
theorem plain_dbg {x:Str} (h:plainName x=true):(x==("__debug__":Str))=false∧(x==("__classdict__":Str))=false:=by
 unfold plainName at h
 simp only [Bool.and_eq_true,Bool.not_eq_true'] at h
 exact ⟨h.1.1.1,h.1.1.2⟩
theorem snd_app (gd:Gd X c G k) (fx:Fx X c) {x:Str} {a:Expr} {y:E} {px apos cpos pos:Pos} {i:Nat} (hv:visB c.sc x=true) (hp:plainName x=true) (hi:nameIx c.nm x=some i) (h:trV n c a=some y) (hl:(apos.endLine==cpos.line)=true) :
  PS X (.Expr (.Call (.Attribute (.Name x px) "append" apos) [a] [] cpos) pos) (spS X F0 H0 (evS G (.app i y))):=by
 have S:=snd_all G k n
 have hN:X.N[i]?=some x:=by rw [fx.hN];exact nameIx_get hi
 have hs:=star_one h X.env
 refine ps_mono (ps_expr (pe_bm F.plainAttrs_list F.slot_list_append F.type_list_append mt_append (pe_var hN (gd.vis x hv) (plain_dbg hp).1 (plain_dbg hp).2) (one_arg (S.v gd h) hs) rfl (by rw [hs];rfl) hl hs rfl) rfl) fun D σ H q=>?_
 obtain ⟨τ,F,o,en,hf,hw⟩:=q
 rw [evS] at hf
 obtain ⟨F1,e1,s1⟩:=en.frz (vars y)
 obtain ⟨t,ht,hf⟩:=obs hf
 split at hf
 ·rename_i ts ho
  split at hf
  ·rename_i hz
   cases hf
   obtain ⟨b,vs,q1,q2,q3,q4,q5⟩:=e1.own i ts ho
   refine ⟨.ref b,q1,.inl ⟨rfl,_,SqL.of q2⟩,_,F1,[t],e1.env fx.hN,Option.bind_eq_some_iff.mpr ⟨t,ht,rfl⟩,fun ws F' H' st r=>?_⟩
   obtain ⟨v,r',rfl,r1,r2⟩:=r
   cases r2
   have e2:=e1.step st
   obtain ⟨b',vs',p1,p2,p3,p4,p5⟩:=e2.own i ts ho
   rw [q1] at p1;cases p1
   refine ⟨b,vs',v,rfl,rfl,p2,by rw [p5.length,← sz_eq];exact hz,?_⟩
   exact hw σ F' _ (e2.grow ho q1 p3 p4 (p5.app (.cons r1 rfl))) (s1.trans st.ff)
  ·cases hf
 ·cases hf
theorem snd_ext (gd:Gd X c G k) (fx:Fx X c) {x:Str} {a:Expr} {y:E} {px apos cpos pos:Pos} {i:Nat} (hv:visB c.sc x=true) (hp:plainName x=true) (hi:nameIx c.nm x=some i) (h:trV n c a=some y) (hl:(apos.endLine==cpos.line)=true) :
  PS X (.Expr (.Call (.Attribute (.Name x px) "extend" apos) [a] [] cpos) pos) (spS X F0 H0 (evS G (.ext i y))):=by
 have S:=snd_all G k n
 have hN:X.N[i]?=some x:=by rw [fx.hN];exact nameIx_get hi
 have hs:=star_one h X.env
 refine ps_mono (ps_expr (pe_bm F.plainAttrs_list F.slot_list_extend F.type_list_extend mt_extend' (pe_var hN (gd.vis x hv) (plain_dbg hp).1 (plain_dbg hp).2) (one_arg (S.v gd h) hs) rfl (by rw [hs];rfl) hl hs rfl) rfl) fun D σ H q=>?_
 obtain ⟨τ,F,o,en,hf,hw⟩:=q
 rw [evS] at hf
 obtain ⟨F1,e1,s1⟩:=en.frz (vars y)
 obtain ⟨t,ht,hf⟩:=obs hf
 split at hf
 ·rename_i us ts ho
  split at hf
  ·rename_i hz
   cases hf
   obtain ⟨b,vs,q1,q2,q3,q4,q5⟩:=e1.own i ts ho
   refine ⟨.ref b,q1,.inl ⟨rfl,_,SqL.of q2⟩,_,F1,[.lst us],e1.env fx.hN,Option.bind_eq_some_iff.mpr ⟨_,ht,rfl⟩,fun ws F' H' st r=>?_⟩
   obtain ⟨v,r',rfl,r1,r2⟩:=r
   cases r2
   obtain ⟨l,zs,rfl,g1,g2⟩:=r1
   have e2:=e1.step st
   obtain ⟨b',vs',p1,p2,p3,p4,p5⟩:=e2.own i ts ho
   rw [q1] at p1;cases p1
   refine ⟨b,l,vs',zs,rfl,rfl,p2,Ls.same st.fh g1,by rw [p5.length,g2.length,← sz_eq];exact hz,?_⟩
   exact hw σ F' _ (e2.grow ho q1 p3 p4 (p5.app g2)) (s1.trans st.ff)
  ·cases hf
 ·cases hf
theorem snd_ret (gd:Gd X c G k) (fx:Fx X c) {a:Expr} {y:E} {pos:Pos} (h:trV n c a=some y):PS X (.Return (some a) pos) (spS X F0 H0 (evS G (.ret y))):=by
 have S:=snd_all G k n
 refine ps_mono (ps_ret (S.v gd h)) fun D σ H q=>?_
 obtain ⟨τ,F,o,en,hf,hw⟩:=q
 rw [evS] at hf
 obtain ⟨F1,e1,s1⟩:=en.frz (vars y)
 obtain ⟨t,ht,rfl⟩:=oms hf
 exact ⟨_,F1,t,e1.env fx.hN,ht,fun v F' H' st r=>hw v F' H' (e1.st.trans st) r⟩
theorem snd_if (gd:Gd X c G k) (fx:Fx X c) {t:Expr} {a b:List Stmt} {z:E} {x y:List S} {pos:Pos} (h:trT n c t=some z) (ha:PSs X a (spS X F0 H0 (evSs G x))) (hb:PSs X b (spS X F0 H0 (evSs G y))):PS X (.If t a b pos) (spS X F0 H0 (evS G (.ite z x y))):=by
 have S:=snd_all G k n
 refine ps_mono (ps_if (S.t gd h).1 ha hb) fun D σ H q=>?_
 obtain ⟨τ,F,o,en,hf,hw⟩:=q
 rw [evS] at hf
 obtain ⟨F1,e1,s1⟩:=en.frz (vars z)
 obtain ⟨t,ht,hf⟩:=obs hf
 cases t with
 | bl d =>
  refine ⟨_,F1,d,e1.env fx.hN,ht,fun F' H' st=>?_⟩
  cases d with
  | true=>exact ⟨_,F',o,e1.step st,hf,hw.up (s1.trans st.ff)⟩
  | false=>exact ⟨_,F',o,e1.step st,hf,hw.up (s1.trans st.ff)⟩
 | _=>cases hf
theorem for_core (fx:Fx X c) {tg:Expr} {xs:List Str} {is:List Nat} {b:List S} (h1:tgNames tg=some xs) (h2n:isTupE tg=true→2≤xs.length) (hat:Ats X xs is) {J:It} {its:List T} {τ2:List Sl} {σ:L2.St} {F2 H2:Hp} {D:Ends} {o:Out}
  (e2:EnvS X F0 H0 τ2 σ F2 H2) (wk:Walk X.K J its F2) (hf:loopM (fun x τ=>(bndS is x τ).bind fun τ'=>evSs G b τ') its τ2=some o) (hw:wantO X F0 H0 F2 D o) :
  ∃ W:Nat→Nat→L2.St→Hp→Prop,(∃ m,W 0 m σ H2)∧∀ i m σ H,W i m σ H →
 (J.stop i H∧D.nx σ H)∨(J.go i H∧∃ N:L2.St→Hp→Prop,(∀ σ' H',N σ' H'→∃ m',m'<m∧W (i+1) m' σ' H')∧∀ x H',J.yld i H x H'→gT X.K (!isTupE tg) is x σ H' fun σ2 H2=>spS X F0 H0 (evSs G b) { D with nx:=N,ct:=N,bk:=D.nx } σ2 H2):=by
 refine ⟨fun i m σ' H'=>i≤its.length∧m=its.length-i∧∃ τ' F',EnvS X F0 H0 τ' σ' F' H'∧Same F2 F'∧loopM (fun x τ=>(bndS is x τ).bind fun τ'=>evSs G b τ') (its.drop i) τ'=some o,⟨its.length,Nat.zero_le _,rfl,_,F2,e2,Same.refl F2,hf⟩,?_⟩
 rintro i m σ' H' ⟨hle,rfl,τ',F',e',s',hlo⟩
 have sm:Same F2 H':=s'.trans e'.st.fh
 have wup:wantO X F0 H0 F' D o:=hw.up s'
 by_cases hlt:i<its.length
 ·refine .inr ⟨wk.go i H' hlt sm,?_⟩
  rw [List.drop_eq_getElem_cons hlt,loopM] at hlo
  obtain ⟨o1,ho1,hlo⟩:=obs hlo
  obtain ⟨τ1,hb1,ho1⟩:=obs ho1
  refine ⟨fun σ'' H''=>∃ τ'' F'',EnvS X F0 H0 τ'' σ'' F'' H''∧Same F2 F''∧loopM (fun x τ=>(bndS is x τ).bind fun τ'=>evSs G b τ') (its.drop (i+1)) τ''=some o,fun σ'' H'' hN=>⟨its.length-(i+1),by omega,hlt,rfl,hN⟩,fun x H5 hy=>?_⟩
  obtain ⟨F5,st5,r5⟩:=wk.yld i H' x H5 F' its[i] (by simp [hlt]) s' e'.st.fh hy
  have e5:=e'.step st5
  have fin:∀ σ6,EnvS X F0 H0 τ1 σ6 F5 H5→spS X F0 H0 (evSs G b) { D with nx:=fun σ'' H''=>∃ τ'' F'',EnvS X F0 H0 τ'' σ'' F'' H''∧Same F2 F''∧loopM (fun x τ=>(bndS is x τ).bind fun τ'=>evSs G b τ') (its.drop (i+1)) τ''=some o,ct:=fun σ'' H''=>∃ τ'' F'',EnvS X F0 H0 τ'' σ'' F'' H''∧Same F2 F''∧loopM (fun x τ=>(bndS is x τ).bind fun τ'=>evSs G b τ') (its.drop (i+1)) τ''=some o,bk:=D.nx } σ6 H5:=fun σ6 e6=>by
   refine ⟨τ1,F5,o1,e6,ho1,?_⟩
   cases o1 with
   | nx τ2=>exact fun σ7 F7 H7 e7 s7=>⟨τ2,F7,e7,s'.trans (st5.ff.trans s7),hlo⟩
   | rt t =>
    cases hlo
    exact wup
  have hlen:=ats_len hat
  cases htup:isTupE tg with
  | false =>
   have one:∃ i0,is=[i0]:=by
    cases tg with
    | Name y p =>
     cases h1
     match is,hlen with
     | [i0],_=>exact ⟨i0,rfl⟩
    | Tuple _ _ _=>cases htup
    | _=>cases h1
   obtain ⟨i0,rfl⟩:=one
   cases hb1
   exact fin _ (e5.setV1 i0 r5)
  | true =>
   have h2n:=h2n htup
   have hb2:∃ ts,its[i]=.tup ts∧setAll is ts τ'=some τ1:=by
    match is,hlen,hb1 with
    | [],hl,_=>rw [hl] at h2n;simp at h2n
    | [_],hl,_=>rw [hl] at h2n;simp at h2n
    | i0::i1::ir,_,hb1 =>
     cases hq:its[i] with
     | tup ts=>rw [hq] at hb1;exact ⟨ts,rfl,hb1⟩
     | _=>rw [hq] at hb1;cases hb1
   obtain ⟨ts,et,hb2⟩:=hb2
   rw [et] at r5
   obtain ⟨a,vs,rfl,q1,q2⟩:=r5
   obtain ⟨e6,hl6⟩:=e5.setAll fx.hN q2 hb2
   exact ⟨a,vs,rfl,same_tup st5.fh q1,hl6,fin _ e6⟩
 ·have e:i=its.length:=by omega
  subst e
  rw [List.drop_length,loopM] at hlo
  cases hlo
  exact .inl ⟨wk.stop H' sm,wup σ' F' H' e' (Same.refl F')⟩
theorem snd_for (gd:Gd X c G k) (fx:Fx X c) {tg iter:Expr} {body:List Stmt} {xs:List Str} {is:List Nat} {ki:Ik × List E} {b:List S} {pos:Pos} (h1:tgNames tg=some xs) (h2:mapO (nameIx c.nm) xs=some is) (h3:trI n c iter=some ki)
  (ht:ki.1.pair=true→isTupE tg=true) (h2n:isTupE tg=true→2≤xs.length) (hat:Ats X xs is) (hb:PSs X body (spS X F0 H0 (evSs G b))):PS X (.For tg iter body [] pos) (spS X F0 H0 (evS G (.loop is ki.1 ki.2 b))):=by
 have S:=snd_all G k n
 refine ps_mono (ps_for (by rw [fx.xe];exact PassesOwn.never) gd.calm (S.i gd h3 ht) (tg_ok gd.nd gd.calm h1 hat) hb (folded_ok h3 X.env)) fun D σ H q=>?_
 obtain ⟨τ,F,o,en,hf,hw⟩:=q
 rw [evS] at hf
 obtain ⟨F1,e1,s1⟩:=en.frz (varsL ki.2)
 obtain ⟨us,hu,hf⟩:=obs hf
 obtain ⟨its,hi,hf⟩:=obs hf
 refine ⟨_,F1,its,e1.env fx.hN,Option.bind_eq_some_iff.mpr ⟨us,hu,hi⟩,fun J F2 H2 st wk=>?_⟩
 have e2:=e1.step st
 exact for_core fx h1 h2n hat e2 wk hf (hw.up (s1.trans st.ff))
end
end Ev
end
end
noncomputable section
noncomputable section
namespace Ev
open PySem PySem.Spec PyProof.Rows L2
abbrev PRep {κ:Type} (K:PySem.W.Frag) (F:Hp):List (κ × T)→List (κ × V)→Prop:=Paired fun p q=>q.1=p.1∧Rep K F p.2 q.2
section
variable {κ:Type} [DecidableEq κ] {K:PySem.W.Frag} {F:Hp}
theorem PRep.of:∀ {kvs:List (κ × T)} {ws:List (κ × V)},ws.map (·.1)=kvs.map (·.1)→Reps K F (kvs.map (·.2)) (ws.map (·.2))→PRep K F kvs ws
 | [],[],_,_=>.nil
 | [],_::_,h,_=>by simp at h
 | _::_,[],h,_=>by simp at h
 | p::kvs,q::ws,h,r=>by
  rw [List.map_cons,List.map_cons] at h
  injection h with h1 h2
  obtain ⟨v,vr,e,r1,r2⟩:=r
  rw [List.map_cons] at e
  injection e with e1 e2
  exact .cons ⟨h1,by rw [e1];exact r1⟩ (PRep.of h2 (by rw [e2];exact r2))
theorem PRep.keys {kvs:List (κ × T)} {ws:List (κ × V)} (r:PRep K F kvs ws):ws.map (·.1)=kvs.map (·.1):=by
 induction r with
 | nil=>rfl
 | cons h t ih=>rw [List.map_cons,List.map_cons,ih,h.1]
theorem PRep.vals {kvs:List (κ × T)} {ws:List (κ × V)} (r:PRep K F kvs ws):Reps K F (kvs.map (·.2)) (ws.map (·.2)):=by
 induction r with
 | nil=>rfl
 | cons h t ih=>exact ⟨_,_,rfl,h.2,ih⟩
theorem PRep.any {kvs:List (κ × T)} {ws:List (κ × V)} (r:PRep K F kvs ws) (k:κ):(ws.any fun kv=>decide (kv.1=k))=kvs.any fun kv=>decide (kv.1=k):=by
 induction r with
 | nil=>rfl
 | cons h t ih=>rw [List.any_cons,List.any_cons,ih,h.1]
theorem PRep.put {kvs:List (κ × T)} {ws:List (κ × V)} (r:PRep K F kvs ws) (k:κ) {y:T} {v:V} (ry:Rep K F y v):PRep K F (putP kvs k y) (putK ws k v):=by
 unfold putP putK
 rw [r.any k]
 by_cases e:(kvs.any fun kv=>decide (kv.1=k))=true
 ·rw [if_pos e,if_pos e]
  clear e
  induction r with
  | nil=>exact .nil
  | @cons p q ps qs h t ih =>
   rw [List.map_cons,List.map_cons]
   refine .cons ?_ ih
   by_cases e:p.1=k
   ·rw [if_pos e,if_pos (h.1.trans e)];exact ⟨h.1,ry⟩
   ·rw [if_neg e,if_neg (fun z=>e (h.1.symm.trans z))];exact h
 ·rw [if_neg e,if_neg e];exact Paired.snoc r ⟨rfl,ry⟩
theorem PRep.drop {kvs:List (κ × T)} {ws:List (κ × V)} (r:PRep K F kvs ws) (k:κ):PRep K F (dropP kvs k) (dropK ws k):=by
 unfold dropP dropK
 induction r with
 | nil=>exact .nil
 | @cons p q ps qs h t ih =>
  rw [List.filter_cons,List.filter_cons,h.1]
  by_cases e:p.1=k
  ·rw [if_neg (by simp [e]),if_neg (by simp [e])];exact ih
  ·rw [if_pos (by simp [e]),if_pos (by simp [e])];exact .cons h ih
theorem PRep.val {kvs:List (κ × T)} {ws:List (κ × V)} (r:PRep K F kvs ws) (k:κ):(valP kvs k=none∧valV ws k=none)∨∃ t v,valP kvs k=some t∧valV ws k=some v∧Rep K F t v:=by
 induction r with
 | nil=>exact .inl ⟨rfl,rfl⟩
 | @cons p q ps qs h t ih =>
  rw [valP]
  by_cases e:p.1=k
  ·rw [if_pos e,valV_pos (h.1.trans e)];exact .inr ⟨_,_,rfl,rfl,h.2⟩
  ·rw [if_neg e,valV_neg (fun z=>e (h.1.symm.trans z))];exact ih
end
end Ev
end
end
noncomputable section
noncomputable section
namespace Ev
open PySem PySem.Spec PyProof.Rows L2
theorem view_set {τ:List Sl} {i:Nat} {s s':Sl} (h:τ[i]?=some s) (e:s.get=s'.get):view (τ.set i s')=view τ:=by
 unfold view
 rw [List.map_set]
 apply List.ext_getElem?
 intro j
 rw [List.getElem?_set]
 by_cases hj:i=j
 ·subst hj
  rw [if_pos rfl,List.length_map]
  have hlt:=(ome h).1
  rw [if_pos hlt,List.getElem?_map,h,← e];rfl
 ·rw [if_neg hj]
section
variable {X:Cx} {c:Tc} {G:Glo} {k n:Nat} {F0 H0:Hp}
theorem snd_dnew (gd:Gd X c G k) (fx:Fx X c) {x:Str} {py dp pos:Pos} {i:Nat} (hl:c.sc.names.lookup x=some .local∨c.sc.names.lookup x=some .cell) (hi:nameIx c.nm x=some i) :
  PS X (.Assign [.Name x py] (.Dict [] [] dp) pos) (spS X F0 H0 (evS G (.dnew i))):=by
 have at_:=fx.at hl hi
 intro pins s σ H D I q
 obtain ⟨τ,F,o,en,hf,hw⟩:=q
 rw [evS] at hf
 cases hf
 exact ps_set gd.nd at_.ix at_.loc pe_dnewK rfl at_.fn pins s σ H D I fun p hp=>hw _ F _ (en.setG i hp ⟨[],rfl,rfl,rfl⟩) (Same.refl F)
theorem snd_dput (gd:Gd X c G k) (fx:Fx X c) {x:Str} {ke ve:Expr} {y z:E} {px tp pos:Pos} {i:Nat} (hv:visB c.sc x=true) (hp:plainName x=true) (hi:nameIx c.nm x=some i) (h1:trV n c ke=some y) (h2:trV n c ve=some z) (hc:isCompE ve=false) :
  PS X (.Assign [.Subscript (.Name x px) ke tp] ve pos) (spS X F0 H0 (evS G (.dput i y z))):=by
 have S:=snd_all G k n
 have hu:X.A.units+1<cLine:=by have:=gd.hu;omega
 have hN:X.N[i]?=some x:=by rw [fx.hN];exact nameIx_get hi
 refine ps_mono (ps_dput hu (pe_var (pos:=px) hN (gd.vis x hv) (plain_dbg hp).1 (plain_dbg hp).2) (S.v gd h1) (S.v gd h2) (swap_ok h2 (fun a b s p z=>by subst z;cases hc) _ _ _)) fun D σ H q=>?_
 obtain ⟨τ,F,o,en,hf,hw⟩:=q
 rw [evS] at hf
 obtain ⟨F1,e1,s1⟩:=en.frz (vars z++vars y)
 obtain ⟨vt,g1,hf⟩:=obs hf
 obtain ⟨kt,g2,hf⟩:=obs hf
 obtain ⟨s',g3,rfl⟩:=oms hf
 unfold putS at g3
 split at g3
 ·rename_i kvs hsl
  obtain ⟨q,hkk,g3⟩:=obs g3
  split at g3
  ·rename_i hz
   cases g3
   refine ⟨_,F1,vt,e1.env fx.hN,g1,fun v F2 H2 st2 rv=>?_⟩
   have e3:=e1.step st2
   obtain ⟨b,ob,q1,q2,q3,q4,q5⟩:=e3.ownG i _ hsl rfl
   refine ⟨.ref b,q1,_,F2,kt,e3.env fx.hN,g2,fun u F3 H3 st3 rk=>?_⟩
   have e4:=e3.step st3
   obtain ⟨b',ob',p1,p2,p3,p4,ws,rfl,w1,w2⟩:=e4.ownG i _ hsl rfl
   rw [q1] at p1;cases p1
   have ek:=keyO_rep rk hkk
   subst ek
   have rel:=PRep.of w1 w2
   have hl:ws.length=kvs.length:=by have:=congrArg List.length w1;simpa using this
   refine ⟨b,_,rfl,DPut.k p2 (by rw [hl,← sz_eq];exact hz),?_⟩
   have rel2:=rel.put q (rv.mono st3.ff)
   exact hw _ _ _ (e4.growG (s':=.dk (putP kvs q vt)) (o:=.dK (putK ws q v)) hsl rfl q1 p3 p4 ⟨_,rfl,rel2.keys,rel2.vals⟩) (s1.trans (st2.ff.trans st3.ff))
  ·cases g3
 ·cases g3
theorem snd_dnew1 (gd:Gd X c G k) (fx:Fx X c) {x:Str} {ke ve:Expr} {y z:E} {py dp pos:Pos} {i:Nat} (hl:c.sc.names.lookup x=some .local∨c.sc.names.lookup x=some .cell) (hi:nameIx c.nm x=some i) (h1:trV n c ke=some y) (h2:trV n c ve=some z) :
  PS X (.Assign [.Name x py] (.Dict [some ke] [ve] dp) pos) (spS X F0 H0 (evS G (.dnew1 i y z))):=by
 have S:=snd_all G k n
 have at_:=fx.at hl hi
 intro pins s σ H D I q
 refine ps_set gd.nd at_.ix at_.loc (pe_disp (pps_cons (S.v gd h1) (S.v gd h2) pps_nil) rfl rfl (by simp) (by simp)) rfl at_.fn pins s σ H D I ?_
 obtain ⟨τ,F,o,en,hf,hw⟩:=q
 rw [evS] at hf
 obtain ⟨F1,e1,s1⟩:=en.frz (vars y++vars z)
 obtain ⟨kt,g1,hf⟩:=obs hf
 obtain ⟨vt,g2,hf⟩:=obs hf
 obtain ⟨q,hq,hf⟩:=obs hf
 cases hf
 intro p hp
 have st0:=(Step.refl e1.st.fh).newH (o:=.dK []) hp
 have e2:=e1.step st0
 refine ⟨_,F1,kt,e2.env fx.hN,g1,fun u F2 H2 st2 rk=>⟨_,F2,vt,(e2.step st2).env fx.hN,g2,fun v F3 H3 st3 rv=>?_⟩⟩
 have ek:=keyO_rep rk hq
 subst ek
 have st23:=st2.trans st3
 have hp2:H3 p=some (.dK []):=st23.hh.st p _ upd_same rfl
 have hpF:F3 p=none:=st23.off (e1.st.fh.free hp) (upd_same) (fun xs z=>nomatch z)
 refine ⟨hp2,[(q,v)],rfl,by simp,hw _ F3 _ ?_ (s1.trans st23.ff)⟩
 have e4:EnvS X F0 H0 ((frzAt (vars y++vars z) τ).set i (.dk [])) (σ.set i (some (.ref p))) F3 H3:=by
  have:=e1.setG (s:=.dk []) (o:=.dK []) i hp ⟨[],rfl,rfl,rfl⟩
  exact this.step st23
 have hlt:i<(frzAt (vars y++vars z) τ).length:=by
  have:=(ome at_.ix).1
  rw [e1.len,I.len]
  exact this
 have:=e4.growG (s:=.dk []) (s':=.dk [(q,vt)]) (o:=.dK [(q,v)]) (a:=p) (by rw [List.getElem?_set_self hlt]) rfl (by rw [List.getElem?_set_self (by rw [← e1.len];exact hlt)]) hpF (e1.st.hh.free hp) ⟨[(q,v)],rfl,rfl,_,_,rfl,rv,rfl⟩
 rw [List.set_set] at this
 exact this
end
end Ev
end
end
noncomputable section
noncomputable section
namespace Ev
open PySem PySem.Spec PyProof.Rows L2
theorem reps_get {K:PySem.W.Frag} {F:Hp}:∀ {ts:List T} {vs:List V} {i:Nat} {t:T},Reps K F ts vs→ts[i]?=some t→∃ v,vs[i]?=some v∧Rep K F t v
 | [],_,i,t,_,h=>by simp at h
 | u::ts,_,0,t,r,h=>by
  obtain ⟨v,vr,rfl,r1,r2⟩:=r
  cases h
  exact ⟨v,rfl,r1⟩
 | u::ts,_,i+1,t,r,h=>by
  obtain ⟨v,vr,rfl,r1,r2⟩:=r
  exact reps_get (i:=i) r2 (by simpa using h)
theorem reps_dropLast {K:PySem.W.Frag} {F:Hp}:∀ {ts:List T} {vs:List V},Reps K F ts vs→Reps K F ts.dropLast vs.dropLast
 | [],_,r=>by cases r;rfl
 | [u],_,r=>by
  obtain ⟨v,vr,rfl,r1,r2⟩:=r
  cases r2
  rfl
 | u::t::ts,_,r=>by
  obtain ⟨v,vr,rfl,r1,r2⟩:=r
  obtain ⟨v',vr',rfl,r3,r4⟩:=id r2
  exact ⟨v,_,rfl,r1,reps_dropLast r2⟩
section
variable {X:Cx} {c:Tc} {G:Glo} {k n:Nat} {F0 H0:Hp}
theorem snd_lpop (gd:Gd X c G k) (fx:Fx X c) {x y:Str} {py p1 apos cpos pos:Pos} {i j:Nat} (hl:c.sc.names.lookup x=some .local∨c.sc.names.lookup x=some .cell) (hi:nameIx c.nm x=some i) (hv:visB c.sc y=true) (hp:plainName y=true) (hj:nameIx c.nm y=some j) (hln:(apos.endLine==cpos.line)=true) :
  PS X (.Assign [.Name x py] (.Call (.Attribute (.Name y p1) "pop" apos) [] [] cpos) pos) (spS X F0 H0 (evS G (.lpop i j))):=by
 have at_:=fx.at hl hi
 have hN:X.N[j]?=some y:=by rw [fx.hN];exact nameIx_get hj
 refine ps_mono (ps_set gd.nd at_.ix at_.loc (pe_bm0 PySem.F.plainAttrs_list PySem.F.slot_list_pop PySem.F.type_list_pop mt_pop (pe_var (pos:=p1) hN (gd.vis y hv) (plain_dbg hp).1 (plain_dbg hp).2) rfl hln) rfl at_.fn) fun D σ H q=>?_
 obtain ⟨τ,F,o,en,hf,hw⟩:=q
 rw [evS] at hf
 split at hf
 ·rename_i ts ho
  split at hf
  ·rename_i t ht
   split at hf
   ·cases hf
   ·cases hf
    obtain ⟨b,vs,q1,q2,q3,q4,q5⟩:=en.own j ts ho
    obtain ⟨v,hv',rv⟩:=reps_get q5 ht
    rw [← q5.length] at hv'
    exact ⟨.ref b,q1,.inl ⟨rfl,_,SqL.of q2⟩,b,vs,v,rfl,rfl,q2,hv',hw _ F _ ((en.growG (s':=.own ts.dropLast) ho rfl q1 q3 q4 ⟨_,rfl,reps_dropLast q5⟩).setV1 i rv) (Same.refl F)⟩
  ·cases hf
 ·cases hf
theorem snd_wloop (gd:Gd X c G k) (fx:Fx X c) {y:Str} {p1 pos:Pos} {i:Nat} {body:List Stmt} {b:List S} (hv:visB c.sc y=true) (hp:plainName y=true) (hi:nameIx c.nm y=some i) (hb:PSs X body (spS X F0 H0 (evSs G b))) :
  PS X (.While (.Name y p1) body [] pos) (spS X F0 H0 (evS G (.wloop i b))):=by
 have hN:X.N[i]?=some y:=by rw [fx.hN];exact nameIx_get hi
 refine ps_mono (ps_while (by rw [fx.xe];exact PassesOwn.never) (pt_truth (pe_var (pos:=p1) hN (gd.vis y hv) (plain_dbg hp).1 (plain_dbg hp).2) (fun _=>rfl)) hb) fun D σ H q=>?_
 obtain ⟨τ,F,o,en,hf,hw⟩:=q
 rw [evS] at hf
 refine ⟨fun m σ' H'=>∃ τ' F',EnvS X F0 H0 τ' σ' F' H'∧Same F F'∧whileM (fun τ=>evSs G b τ) i m τ'=some o,⟨100,τ,F,en,Same.refl F,hf⟩,?_⟩
 rintro m σ' H' ⟨τ',F',e',s',hlo⟩
 cases m with
 | zero=>cases hlo
 | succ m =>
  rw [whileM] at hlo
  split at hlo
  ·rename_i ts ho
   obtain ⟨a,vs,q1,q2,q3,q4,q5⟩:=e'.own i ts ho
   have he:vs.isEmpty=ts.isEmpty:=by
    have:=q5.length
    cases ts<;>cases vs<;>simp_all
   refine ⟨.ref a,q1,!vs.isEmpty,.inl ⟨vs,SqL.of q2,rfl⟩,?_⟩
   rw [he]
   split at hlo
   ·rename_i hte
    cases hlo
    rw [hte,if_neg (by decide)]
    exact hw σ' F' H' e' s'
   ·rename_i hte
    rw [Bool.not_eq_true] at hte
    rw [hte,if_pos (by decide)]
    obtain ⟨o1,ho1,hlo⟩:=obs hlo
    refine ⟨fun σ'' H''=>∃ τ'' F'',EnvS X F0 H0 τ'' σ'' F'' H''∧Same F F''∧whileM (fun τ=>evSs G b τ) i m τ''=some o,fun σ'' H'' hN=>⟨m,Nat.lt_succ_self _,hN⟩,τ',F',o1,e',ho1,?_⟩
    cases o1 with
    | nx τ2=>exact fun σ7 F7 H7 e7 s7=>⟨τ2,F7,e7,s'.trans s7,hlo⟩
    | rt t =>
     cases hlo
     exact hw
  ·cases hlo
theorem snd_ifnin (gd:Gd X c G k) (fx:Fx X c) {ke:Expr} {z:E} {y:Str} {p1 cp pos:Pos} {i:Nat} {body:List Stmt} {b:List S} (hv:visB c.sc y=true) (hp:plainName y=true) (hi:nameIx c.nm y=some i) (h1:trV n c ke=some z) (hb:PSs X body (spS X F0 H0 (evSs G b))) :
  PS X (.If (.Compare ke [.NotIn] [.Name y p1] cp) body [] pos) (spS X F0 H0 (evS G (.ifnin z i b))):=by
 have S:=snd_all G k n
 have hu:X.A.units+1<cLine:=by have:=gd.hu;omega
 have hN:X.N[i]?=some y:=by rw [fx.hN];exact nameIx_get hi
 refine ps_mono (ps_if (pt_cmp (pc_dnotin hu (S.v gd h1) (pe_var (pos:=p1) hN (gd.vis y hv) (plain_dbg hp).1 (plain_dbg hp).2)) rfl) hb pss_nil) fun D σ H q=>?_
 obtain ⟨τ,F,o,en,hf,hw⟩:=q
 rw [evS] at hf
 obtain ⟨F1,e1,s1⟩:=en.frz (vars z)
 obtain ⟨kt,g1,hf⟩:=obs hf
 obtain ⟨q,hq,hf⟩:=obs hf
 split at hf
 ·rename_i kvs hsl
  refine ⟨_,F1,kt,e1.env fx.hN,g1,fun u F2 H2 st rk=>?_⟩
  have e2:=e1.step st
  have ek:=keyO_rep rk hq
  subst ek
  obtain ⟨a,ob,q1,q2,q3,q4,ws,rfl,w1,w2⟩:=e2.ownG i _ hsl rfl
  refine ⟨.ref a,q1,a,valV ws q,rfl,DGet.k q2,_,rfl,?_⟩
  have rel:=(PRep.of w1 w2).any q
  rw [valV_any] at rel
  rw [rel]
  split at hf
  ·rename_i hk
   cases hf
   rw [hk]
   exact iteF (hw σ F2 H2 e2 (s1.trans st.ff))
  ·rename_i hk
   rw [Bool.not_eq_true] at hk
   rw [hk]
   exact iteT ⟨_,F2,o,e2,hf,hw.up (s1.trans st.ff)⟩
 ·cases hf
end
end Ev
end
end
noncomputable section
noncomputable section
namespace Ev
open PySem PySem.W PySem.Spec PyProof.Rows L2
section
variable {X:Cx}
theorem mt_setdef:MtR X "dict.setdefault" (fun x xs H Q=>∃ a kvs k d,x=.ref a∧xs=[kV k,d]∧H a=some (.dK kvs)∧kvs.length<sizeLine ∧
  (∀ v,valV kvs k=some v→Q v H)∧(valV kvs k=none→Q d (upd H a (.dK (putK kvs k d))))):=by
 intro pins s σ H x xs v us Q I rx rs h
 obtain ⟨a,kvs,k,d,rfl,rfl,ha,hl,q1,q2⟩:=h
 cases rx
 obtain ⟨u,w,rfl,r1,r2⟩:=rs.two
 obtain ⟨z,hd,vs,rel,dd⟩:=dk_of I.hok ha
 have hl':(putK kvs k d).length≤sizeLine:=by have:=length_putK kvs k d;omega
 have rv:=rel.val k
 refine call_meetsIn PySem.F.slot_dict_setdefault dd.typeIs PySem.F.entry_dict_setdefault (PySem.F.args_dict_setdefault_3 _ _ _) (kt_meets_setdefault (mixKind X.prog X.w) a (kV_is r1) hd w) ⟨vs,dd,by rw [← rel.length];exact z,fun v' hv'=>?_,fun hn h' dd' hs=>?_⟩
 ·rw [hv'] at rv
  cases hv:valV kvs k with
  | none=>rw [hv] at rv;exact rv.elim
  | some v=>rw [hv] at rv;exact ⟨v,H,I.tok _,rv,q1 v hv⟩
 ·rw [hn] at rv
  cases hv:valV kvs k with
  | some v=>rw [hv] at rv;exact rv.elim
  | none=>exact ⟨d,upd H a (.dK (putK kvs k d)),d_write I (by rw [ha];exact True.intro) hs (let ⟨q,_,_,hq,_⟩:=dd';⟨q,hq⟩) (dk_new hl' hd (rel.put k r2) dd'),r2,q2 hv⟩
end
end Ev
end
end
noncomputable section
noncomputable section
namespace Ev
open PySem PySem.Spec PyProof.Rows L2
section
variable {K:PySem.W.Frag} {F H:Hp} {q:Kt} {b:Addr} {y:T} {v:V} {vs:List V}
theorem DRep.any {kvs:List (Kt × List T)} {ws:List (Key × V)} (r:DRep K F H kvs ws) (k:Kt):(ws.any fun kv=>decide (kv.1=k))=kvs.any fun kv=>decide (kv.1=k):=by
 induction r with
 | nil=>rfl
 | cons h t ih=>rw [List.any_cons,List.any_cons,ih,h.1]
theorem DRep.val {kvs:List (Kt × List T)} {ws:List (Key × V)} (r:DRep K F H kvs ws) (h:valV ws q=some v):v∈ws.map (·.2)∧∃ p b vs,p∈kvs∧v=.ref b∧H b=some (.lst vs)∧Reps K F p.2 vs:=by
 induction r with
 | nil=>cases h
 | @cons p w ps ws' r t ih =>
  by_cases e:w.1=q
  ·rw [valV_pos e] at h
   cases h
   obtain ⟨_,b,vs,h1,h2,h3⟩:=r
   exact ⟨List.mem_cons_self,p,b,vs,List.mem_cons_self,h1,h2,h3⟩
  ·rw [valV_neg e] at h
   obtain ⟨h1,p',b,vs,h2,h3⟩:=ih h
   exact ⟨List.mem_cons_of_mem _ h1,p',b,vs,List.mem_cons_of_mem _ h2,h3⟩
theorem DRep.skip {kvs:List (Kt × List T)} {ws:List (Key × V)} (r:DRep K F H kvs ws):q∉ws.map (·.1)→V.ref b∉ws.map (·.2)→DRep K F (upd H b (.lst vs)) (apP kvs q y) ws:=by
 induction r with
 | nil=>exact fun _ _=>.nil
 | @cons p w _ _ r t ih =>
  intro h1 h2
  obtain ⟨e,b',vs',g1,g2,g3⟩:=r
  rw [List.map_cons,List.mem_cons,not_or] at h1 h2
  unfold apP
  rw [List.map_cons,if_neg fun z=>h1.1 (z.symm.trans e.symm)]
  refine .cons ⟨e,b',vs',g1,?_,g3⟩ (ih h1.2 h2.2)
  rw [upd_ne fun z=>h2.1 (by rw [g1,z])]
  exact g2
theorem DRep.app {kvs:List (Kt × List T)} {ws:List (Key × V)} (r:DRep K F H kvs ws) (n1:(ws.map (·.1)).Nodup) (n2:(ws.map (·.2)).Nodup) (h:valV ws q=some (.ref b)) (hb:H b=some (.lst vs)) (ry:Rep K F y v):DRep K F (upd H b (.lst (vs++[v]))) (apP kvs q y) ws:=by
 induction r with
 | nil=>cases h
 | @cons p w _ _ r t ih =>
  obtain ⟨e,b',vs',g1,g2,g3⟩:=r
  rw [List.map_cons,List.nodup_cons] at n1 n2
  by_cases ew:w.1=q
  ·rw [valV_pos ew] at h
   have hw:=Option.some.inj h
   rw [g1] at hw
   cases hw
   rw [hb] at g2
   cases g2
   unfold apP
   rw [List.map_cons,if_pos (e.symm.trans ew)]
   refine .cons ⟨e,b,_,g1,upd_same,g3.app (.cons ry rfl)⟩ (DRep.skip t (by rw [← ew];exact n1.1) (by rw [← g1];exact n2.1))
  ·rw [valV_neg ew] at h
   have hm:=(DRep.val t h).1
   unfold apP
   rw [List.map_cons,if_neg fun z=>ew (e.trans z)]
   refine .cons ⟨e,b',vs',g1,?_,g3⟩ (ih n1.2 n2.2 h)
   rw [upd_ne fun z=>n2.1 (by rw [g1,z];exact hm)]
   exact g2
end
section
variable {X:Cx} {c:Tc} {F0 H0:Hp} {τ:List Sl} {σ:L2.St} {F H H':Hp} {i:Nat} {kvs kvs':List (Kt × List T)} {a:Addr} {ws ws':List (Key × V)}
theorem EnvS.dlSet (e:EnvS X F0 H0 τ σ F H) (hone:∀ (j:Nat) (s:Sl),τ[j]?=some s→s.isDl=true→j=i) (hst:SameT H0 H') (hF:Same F H')
  (hown:∀ (j:Nat) (s:Sl) (b:Addr),j≠i→τ[j]?=some s→s.isOwn=true→σ[j]?=some (some (.ref b))→H' b=H b) (d':DlAt X.K F H' H0 (τ.set i (.dl kvs')) σ i kvs' a ws'):EnvS X F0 H0 (τ.set i (.dl kvs')) σ F H':=by
 refine ⟨⟨hst,e.st.ff,hF,e.st.nw⟩,e.t0,by rw [List.length_set];exact e.len,fun j u h=>?_,fun j u h hu=>?_,fun j l u w b hjl hj hl hu hw=>?_,fun j kk h=>?_⟩
 ·rcases get_set h with ⟨_,q⟩ | ⟨hj,q⟩
  ·cases q
  ·exact e.val j u q
 ·rcases get_set h with ⟨_,q⟩ | ⟨hj,q⟩
  ·subst q;cases hu
  ·obtain ⟨b,o,q1,q2,q3⟩:=e.ownG j u q hu
   exact ⟨b,o,q1,(hown j u b hj q hu q1).trans q2,q3⟩
 ·rcases get_set hj with ⟨_,q⟩ | ⟨_,q⟩
  ·subst q;cases hu
  ·rcases get_set hl with ⟨_,q'⟩ | ⟨_,q'⟩
   ·subst q';cases hw
   ·exact e.disG j l u w b hjl q q' hu hw
 ·rcases get_set h with ⟨rfl,q⟩ | ⟨hj,q⟩
  ·cases q;exact ⟨a,ws',d'⟩
  ·exact absurd (hone j _ q rfl) hj
theorem one_set (hone:∀ (j:Nat) (s:Sl),τ[j]?=some s→s.isDl=true→j=i):∀ (j:Nat) (s:Sl),(τ.set i (.dl kvs'))[j]?=some s→s.isDl=true→j=i:=fun j s h hs=>by
 rcases get_set h with ⟨q,_⟩ | ⟨_,q⟩
 ·exact q
 ·exact hone j s q hs
theorem EnvS.toDl (e:EnvS X F0 H0 τ σ F H) (h:τ[i]?=some (.dk [])) (hone:∀ (j:Nat) (s:Sl),τ[j]?=some s→s.isDl=true→j=i):EnvS X F0 H0 (τ.set i (.dl [])) σ F H:=by
 obtain ⟨b,o,q1,q2,q3,q4,ws,rfl,w1,w2⟩:=e.ownG i _ h rfl
 have hws:ws=[]:=by cases ws with | nil=>rfl | cons _ _=>simp at w1
 subst hws
 refine e.dlSet (a:=b) (ws':=[]) hone e.st.hh e.st.fh (fun _ _ _ _ _ _ _=>rfl) ⟨q1,q2,.nil,by simp [foot],List.nodup_nil,fun c hc=>?_,one_set hone⟩
 rw [foot,List.map_nil,List.mem_singleton] at hc
 cases hc
 refine ⟨q3,q4,fun j s hj hs z=>?_⟩
 rcases get_set hj with ⟨_,q⟩ | ⟨hji,q⟩
 ·subst q;cases hs
 ·exact e.disG j i s _ b hji q h hs rfl z q1
theorem putK_new {ws:List (Key × V)} {k:Key} {v:V} (h:valV ws k=none):putK ws k v=ws++[(k,v)]:=by
 unfold putK
 rw [if_neg (by rw [valV_any,h];exact Bool.false_ne_true)]
theorem EnvS.dlNew (e:EnvS X F0 H0 τ σ F H) (h:τ[i]?=some (.dl kvs)) (d:DlAt X.K F H H0 τ σ i kvs a ws) {q:Kt} {p:Addr} (hp:H p=none) (hv:valV ws q=none) :
  EnvS X F0 H0 (τ.set i (.dl (kvs++[(q,[])]))) σ F (upd (upd H p (.lst [])) a (.dK (ws++[(q,.ref p)])))∧DlAt X.K F (upd (upd H p (.lst [])) a (.dK (ws++[(q,.ref p)]))) H0 (τ.set i (.dl (kvs++[(q,[])]))) σ i (kvs++[(q,[])]) a (ws++[(q,.ref p)]):=by
 have hap:a≠p:=ne_of_none d.obj hp
 have hfa:=d.fr a List.mem_cons_self
 have hbp:∀ b,V.ref b∈foot a ws→b≠p:=fun b hb=>let ⟨o,h1,_⟩:=d.some' hb;ne_of_none h1 hp
 have hba:∀ b,V.ref b∈ws.map (·.2)→b≠a:=fun b hb z=>by
  subst z
  exact (List.nodup_cons.mp d.nd).1 hb
 have hown:∀ (j:Nat) (s:Sl) (b:Addr),τ[j]?=some s→s.isOwn=true→σ[j]?=some (some (.ref b))→b≠p∧b≠a:=fun j s b hj hs hb=>by
  obtain ⟨b',o,g1,g2,_⟩:=e.ownG j s hj hs
  rw [hb] at g1;cases g1
  exact ⟨ne_of_none g2 hp,fun z=>by subst z;exact hfa.2.2 j s hj hs hb⟩
 have d':DlAt X.K F (upd (upd H p (.lst [])) a (.dK (ws++[(q,.ref p)]))) H0 (τ.set i (.dl (kvs++[(q,[])]))) σ i (kvs++[(q,[])]) a (ws++[(q,.ref p)]):=by
  have fe:foot a (ws++[(q,.ref p)])=foot a ws++[V.ref p]:=by simp [foot]
  refine ⟨d.ix,upd_same,Paired.snoc (d.rep.up (Same.refl F) fun b hb=>by rw [upd_ne (hba b hb),upd_ne (hbp b (List.mem_cons_of_mem _ hb))]) ⟨rfl,p,[],rfl,by rw [upd_ne (Ne.symm hap),upd_same],rfl⟩,?_,?_,fun b hb=>?_,one_set d.one⟩
  ·rw [fe,List.nodup_append]
   refine ⟨d.nd,by simp,fun u hu w hw=>?_⟩
   rw [omg hw]
   intro z
   subst z
   exact hbp p hu rfl
  ·rw [List.map_append,List.nodup_append]
   refine ⟨d.kn,by simp,fun u hu w hw=>?_⟩
   rw [List.map_cons,List.map_nil,List.mem_singleton] at hw
   rw [hw]
   intro z
   subst z
   exact valV_not hv hu
  ·rw [fe] at hb
   have own':∀ {b:Addr},(∀ (j:Nat) (s:Sl),τ[j]?=some s→s.isOwn=true→σ[j]?≠some (some (.ref b)))→∀ (j:Nat) (s:Sl),(τ.set i (.dl (kvs++[(q,[])])))[j]?=some s→s.isOwn=true→σ[j]?≠some (some (.ref b)):=fun hh j s hj hs=>by
    rcases get_set hj with ⟨_,z⟩ | ⟨_,z⟩
    ·subst z;cases hs
    ·exact hh j s z hs
   rcases oma hb with hb | hb
   ·obtain ⟨g1,g2,g3⟩:=d.fr b hb
    exact ⟨g1,g2,own' g3⟩
   ·rw [List.mem_singleton] at hb
    cases hb
    exact ⟨e.st.fh.free hp,e.st.hh.free hp,own' fun j s hj hs z=>(hown j s p hj hs z).1 rfl⟩
 refine ⟨e.dlSet d.one ((e.st.hh.trans (sameT (same_new hp))).upd hfa.2.1 (o1:=.dK ws) (by rw [upd_ne hap];exact d.obj) rfl fun _ _ z=>nomatch z) (fun b u z=>?_) (fun j s b _ hj hs hb=>?_) d',d'⟩
 ·rw [upd_ne (ne_of_none z hfa.1),upd_ne (ne_of_none (e.st.fh b u z) hp)];exact e.st.fh b u z
 ·obtain ⟨g1,g2⟩:=hown j s b hj hs hb
  rw [upd_ne g2,upd_ne g1]
theorem EnvS.dlApp (e:EnvS X F0 H0 τ σ F H) (h:τ[i]?=some (.dl kvs)) (d:DlAt X.K F H H0 τ σ i kvs a ws) {q:Kt} {b:Addr} {vs:List V} {y:T} {v:V} (hv:valV ws q=some (.ref b)) (hb:H b=some (.lst vs)) (r:Rep X.K F y v) :
  EnvS X F0 H0 (τ.set i (.dl (apP kvs q y))) σ F (upd H b (.lst (vs++[v]))):=by
 have hbw:=(d.rep.val hv).1
 have hbf:V.ref b∈foot a ws:=List.mem_cons_of_mem _ hbw
 obtain ⟨g1,g2,g3⟩:=d.fr b hbf
 have hab:a≠b:=ne_of d.obj hb fun z=>nomatch z
 refine e.dlSet (a:=a) (ws':=ws) d.one (e.st.hh.upd g2 hb rfl fun _ _ z=>nomatch z) (fun c u z=>by rw [upd_ne (ne_of_none z g1)];exact e.st.fh c u z) (fun j s c _ hj hs hc=>upd_ne fun z=>by subst z;exact g3 j s hj hs hc)
  ⟨d.ix,by rw [upd_ne hab];exact d.obj,d.rep.app d.kn (List.nodup_cons.mp d.nd).2 hv hb r,d.nd,d.kn,fun c hc=>⟨(d.fr c hc).1,(d.fr c hc).2.1,fun j s hj hs=>?_⟩,one_set d.one⟩
 rcases get_set hj with ⟨_,z⟩ | ⟨_,z⟩
 ·subst z;cases hs
 ·exact (d.fr c hc).2.2 j s z hs
end
section
variable {X:Cx} {c:Tc} {G:Glo} {k n:Nat} {F0 H0:Hp}
theorem dapp_core {ke ve:Expr} {p1 ap1 cp1 ap2 cp2 lp pos:Pos} {x:Str} {i:Nat} {fk fv:Env→Option T} (gd:Gd X c G k) (fx:Fx X c) (hv:visB c.sc x=true) (hp:plainName x=true) (hi:nameIx c.nm x=some i) (hk:Oke X c ke fk) (hve:Oke X c ve fv)
  (hs1:starEach [ke,.List [] lp] X.env=(false,eval ke X.env)::starEach [.List [] lp] X.env) (hs2:starEach [ve] X.env=[(false,eval ve X.env)]) (hl1:(ap1.endLine==cp1.line)=true) (hl2:(ap2.endLine==cp2.line)=true)
  {pins:List (Addr × Obj)} {s:Shared} {σ:L2.St} {H:Hp} {D:Ends} (I:L2.Inv X pins σ H s) {τ:List Sl} {F:Hp} (e1:EnvS X F0 H0 τ σ F H) {kvs:List (Kt × List T)} (hsl:τ[i]?=some (.dl kvs)) (hz:kvs.length<SZ) {kt y:T} {q:Kt} (h1:fk (view τ)=some kt) (hq:keyO kt=some q) (h2:fv (view τ)=some y)
  (hz2:((sdP kvs q).all fun p=>decide (p.2.length<SZ))=true)
  (hw:∀ σ' F' H',EnvS X F0 H0 (τ.set i (.dl (apP (sdP kvs q) q y))) σ' F' H'→Same F F'→D.nx σ' H') :
  wpAny (model X.prog X.w) X.A (exec (.Expr (.Call (.Attribute (.Call (.Attribute (.Name x p1) "setdefault" ap1) [ke,.List [] lp] [] cp1) "append" ap2) [ve] [] cp2) pos) X.env) (SP X pins D) X.xe s:=by
 have hu:X.A.units+1<cLine:=by have:=gd.hu;omega
 have hN:X.N[i]?=some x:=by rw [fx.hN];exact nameIx_get hi
 have hA:=pa_cons hk (pa_cons (pe_lst (pos:=lp) (pa_nil (X:=X))) pa_nil) hs1
 have hG:=pe_bm (cpos:=cp1) (apos:=ap1) PySem.F.plainAttrs_dict PySem.F.slot_dict_setdefault PySem.F.type_dict_setdefault mt_setdef (pe_var (pos:=p1) hN (gd.vis x hv) (plain_dbg hp).1 (plain_dbg hp).2) hA rfl (by rw [hs1];rfl) hl1 hs1 rfl
 have P:=ps_expr (pos:=pos) (pe_bm (cpos:=cp2) (apos:=ap2) PySem.F.plainAttrs_list PySem.F.slot_list_append PySem.F.type_list_append mt_append hG (one_arg hve hs2) rfl (by rw [hs2];rfl) hl2 hs2 rfl) rfl
 refine P pins s σ H D I ?_
 obtain ⟨a,ws,d⟩:=e1.dl i kvs hsl
 refine ⟨.ref a,d.ix,.inr (.inr (.inl ⟨rfl,.inl ⟨ws,d.obj⟩⟩)),view τ,F,kt,e1.env fx.hN,h1,fun kv F2 H2 st2 rk=>⟨Nat.zero_le _,fun p hpn=>?_⟩⟩
 have e2:=e1.step st2
 obtain ⟨a2,ws2,d2⟩:=e2.dl i kvs hsl
 have ea:a2=a:=by have:=d2.ix;rw [d.ix] at this;cases this;rfl
 subst ea
 have last:∀ (τ3:List Sl) (kvs3:List (Kt × List T)) (ws3:List (Key × V)) (H3:Hp) (b:V),EnvS X F0 H0 τ3 σ F2 H3→τ3[i]?=some (.dl kvs3)→kvs3=sdP kvs q→view τ3=view τ→DlAt X.K F2 H3 H0 τ3 σ i kvs3 a2 ws3→valV ws3 q=some b→τ3.set i (.dl (apP kvs3 q y))=τ.set i (.dl (apP (sdP kvs q) q y)) →
   tyV X.K "list" b H3∧spL X c (fun r=>(fv r).bind fun x=>some [x]) σ H3 fun xs H4=>rAppend b xs H4 fun _ H'=>D.nx σ H':=fun τ3 kvs3 ws3 H3 b e3 hs3 ek hvw d3 hb hset=>by
  obtain ⟨hm,p',b',vs,hmem,rfl,hl,hr⟩:=d3.rep.val hb
  refine ⟨.inl ⟨rfl,_,SqL.of hl⟩,view τ3,F2,[y],e3.env fx.hN,by rw [hvw];exact Option.bind_eq_some_iff.mpr ⟨y,h2,rfl⟩,fun us F4 H4 st4 r4=>?_⟩
  obtain ⟨v,r',rfl,r1,r2⟩:=r4
  cases r2
  have e4:=e3.step st4
  obtain ⟨a4,ws4,d4⟩:=e4.dl i kvs3 hs3
  have ea:a4=a2:=by have:=d4.ix;rw [d3.ix] at this;cases this;rfl
  subst ea
  have ew:ws4=ws3:=by
   have:=d4.obj
   rw [st4.hh.st _ _ d3.obj rfl] at this
   cases this;rfl
  subst ew
  have hl4:H4 b'=some (.lst vs):=st4.hh.st _ _ hl rfl
  have hlen:vs.length<sizeLine:=by
   rw [hr.length,← sz_eq]
   subst ek
   exact of_decide_eq_true (oml hz2 p' hmem)
  refine ⟨b',vs,v,rfl,rfl,hl4,hlen,hw σ F4 _ ?_ (st2.ff.trans st4.ff)⟩
  rw [← hset]
  exact e4.dlApp hs3 d4 hb hl4 r1
 have ek:=keyO_rep rk hq
 subst ek
 have hda:upd H2 p (.lst []) a2=some (.dK ws2):=by rw [upd_ne (ne_of_none d2.obj hpn)];exact d2.obj
 have hlen:ws2.length<sizeLine:=by rw [← Paired.length d2.rep,← sz_eq];exact hz
 refine ⟨a2,ws2,q,.ref p,rfl,rfl,hda,hlen,fun v hv=>?_,fun hn=>?_⟩
 ·have e3:=e2.step ((Step.refl e2.st.fh).newH (o:=.lst []) hpn)
  obtain ⟨a3,ws3,d3⟩:=e3.dl i kvs hsl
  have ea:a3=a2:=by have:=d3.ix;rw [d2.ix] at this;cases this;rfl
  subst ea
  have ew:ws3=ws2:=by have:=d3.obj;rw [hda] at this;cases this;rfl
  subst ew
  have hany:(kvs.any fun p=>decide (p.1=q))=true:=by rw [← d2.rep.any,valV_any,hv];rfl
  have es:kvs=sdP kvs q:=by unfold sdP;rw [if_pos hany]
  exact last τ kvs ws3 _ v e3 hsl es rfl d3 hv (by rw [← es])
 ·have hany:¬ (kvs.any fun p=>decide (p.1=q))=true:=by rw [← d2.rep.any,valV_any,hn];exact Bool.false_ne_true
  have es:kvs++[(q,[])]=sdP kvs q:=by unfold sdP;rw [if_neg hany]
  rw [putK_new hn]
  obtain ⟨e3,d3⟩:=e2.dlNew hsl d2 hpn hn
  have hlt:=(ome hsl).1
  exact last _ _ _ _ _ e3 (List.getElem?_set_self hlt) es (view_set hsl rfl) d3 (by rw [valV_snoc _ _ _ _ hn,if_pos rfl]) (by rw [List.set_set,es])
theorem dk_dl {pins:List (Addr × Obj)} {s:Shared} {σ:L2.St} {H F:Hp} {τ:List Sl} {i:Nat} {kvs:List (Kt × T)} (I:L2.Inv X pins σ H s) (e1:EnvS X F0 H0 τ σ F H) (hsl:τ[i]?=some (.dk kvs)) (hc:(kvs.isEmpty&&!τ.any Sl.isDl)=true) :
  ∃ H',L2.Inv X pins σ H' s∧EnvS X F0 H0 (τ.set i (.dl [])) σ F H':=by
 rw [Bool.and_eq_true] at hc
 cases kvs with
 | cons _ _=>cases hc.1
 | nil =>
  obtain ⟨b,ob,q1,q2,q3,q4,ws,rfl,w1,w2⟩:=e1.ownG i _ hsl rfl
  have hws:ws=[]:=by cases ws with | nil=>rfl | cons _ _=>simp at w1
  subst hws
  have hone:∀ (j:Nat) (s:Sl),τ[j]?=some s→s.isDl=true→j=i:=fun j s hj hs=>by
   have h:=hc.2
   rw [Bool.not_eq_true',List.any_eq_false] at h
   exact absurd hs (h s (List.mem_of_getElem? hj))
  exact ⟨H,I,e1.toDl hsl hone⟩
theorem snd_dapp (gd:Gd X c G k) (fx:Fx X c) {x:Str} {ke ve:Expr} {y z:E} {p1 ap1 cp1 ap2 cp2 lp pos:Pos} {i:Nat} (hv:visB c.sc x=true) (hp:plainName x=true) (hi:nameIx c.nm x=some i) (h1:trV n c ke=some y) (h2:trV n c ve=some z) (hl1:(ap1.endLine==cp1.line)=true) (hl2:(ap2.endLine==cp2.line)=true) :
  PS X (.Expr (.Call (.Attribute (.Call (.Attribute (.Name x p1) "setdefault" ap1) [ke,.List [] lp] [] cp1) "append" ap2) [ve] [] cp2) pos) (spS X F0 H0 (evS G (.dapp i y z))):=by
 have S:=snd_all G k n
 intro pins s σ H D I q
 obtain ⟨τ,F,o,en,hf,hw⟩:=q
 rw [evS] at hf
 obtain ⟨F1,e1,s1⟩:=en.frz (vars y++vars z)
 obtain ⟨kt,g1,hf⟩:=obs hf
 obtain ⟨q,hq,hf⟩:=obs hf
 obtain ⟨kvs3,hsd,hf⟩:=obs hf
 obtain ⟨vt,g2,hf⟩:=obs hf
 split at hf
 ·rename_i hz2
  cases hf
  have hs1:=star_ok h1 [.List [] lp] X.env
  have hs2:=star_one h2 X.env
  unfold sdS at hsd
  split at hsd
  ·rename_i kvs hsl
   split at hsd
   ·rename_i hc
    cases hsd
    obtain ⟨H1,I1,e3⟩:=dk_dl I e1 hsl hc
    have hlt:=(ome hsl).1
    have hvw:view ((frzAt (vars y++vars z) τ).set i (.dl []))=view (frzAt (vars y++vars z) τ):=view_set hsl rfl
    refine dapp_core (kvs:=[]) gd fx hv hp hi (S.v gd h1) (S.v gd h2) hs1 hs2 hl1 hl2 I1 e3 (List.getElem?_set_self hlt) (by decide) (by rw [hvw];exact g1) hq (by rw [hvw];exact g2) hz2 fun σ' F' H' e' s'=>?_
    rw [List.set_set] at e'
    exact hw σ' F' H' e' (s1.trans s')
   ·cases hsd
  ·rename_i kvs hsl
   split at hsd
   ·rename_i hz
    cases hsd
    exact dapp_core gd fx hv hp hi (S.v gd h1) (S.v gd h2) hs1 hs2 hl1 hl2 I e1 hsl hz g1 hq g2 hz2 fun σ' F' H' e' s'=>hw σ' F' H' e' (s1.trans s')
   ·cases hsd
  ·cases hsd
 ·cases hf
end
end Ev
end
end
noncomputable section
noncomputable section
namespace Ev
open PySem PySem.Spec PyProof.Rows L2
section
variable {X:Cx} {c:Tc} {G:Glo} {k:Nat} {F0 H0:Hp}
theorem snd_nil:PSs X [] (spS X F0 H0 (evSs G [])):=by
 refine pss_mono pss_nil fun D σ H q=>?_
 obtain ⟨τ,F,o,en,hf,hw⟩:=q
 rw [evSs] at hf
 cases hf
 exact hw _ F H en (Same.refl F)
theorem snd_cons {st:Stmt} {rest:List Stmt} {s:S} {ss:List S} (h1:PS X st (spS X F0 H0 (evS G s))) (h2:PSs X rest (spS X F0 H0 (evSs G ss))):PSs X (st::rest) (spS X F0 H0 (evSs G (s::ss))):=by
 refine pss_mono (pss_cons h1 h2) fun D σ H q=>?_
 obtain ⟨τ,F,o,en,hf,hw⟩:=q
 rw [evSs] at hf
 obtain ⟨o1,ho1,hf⟩:=obs hf
 refine ⟨τ,F,o1,en,ho1,?_⟩
 cases o1 with
 | nx τ'=>exact fun σ' F' H' e s'=>⟨τ',F',o,e,hf,hw.up s'⟩
 | rt t=>cases hf;exact hw
theorem dictE_inv {e:Expr} (h:isDictE e=true):∃ p,e=.Dict [] [] p:=by
 cases e with
 | Dict ks vs p =>
  match ks,vs,h with
  | [],[],_=>exact ⟨p,rfl⟩
  | _::_,_,h=>cases h
  | [],_::_,h=>cases h
 | _=>cases h
theorem methC_inv {e:Expr} {x:Str × Str × Pos × Pos × List Expr × Pos} (h:methC e=some x):e=.Call (.Attribute (.Name x.1 x.2.2.1) x.2.1 x.2.2.2.1) x.2.2.2.2.1 [] x.2.2.2.2.2:=by
 cases e with
 | Call f es ks cpos =>
  cases f with
  | Attribute o m apos =>
   cases o with
   | Name y p =>
    cases ks with
    | nil=>cases h;rfl
    | cons _ _=>cases h
   | _=>cases h
  | _=>cases h
 | _=>cases h
theorem emL_inv {e:Expr} (h:emL e=true):∃ p,e=.List [] p:=by
 cases e with
 | List l p =>
  cases l with
  | nil=>exact ⟨p,rfl⟩
  | cons _ _=>cases h
 | _=>cases h
theorem sdC_inv {o k':Expr} {y:Str} (h:sdC o=some (y,k')):∃ p1 apos cpos lp,o=.Call (.Attribute (.Name y p1) "setdefault" apos) [k',.List [] lp] [] cpos∧(apos.endLine==cpos.line)=true:=by
 obtain ⟨⟨z,m,p,apos,es,cpos⟩,h1,h⟩:=obs h
 have e:=methC_inv h1
 subst e
 rcases es with _ | ⟨k,_ | ⟨l,_ | ⟨_,_⟩⟩⟩
 ·cases h
 ·cases h
 ·replace h:(if emL l&&(m==("setdefault":Str)&&apos.endLine==cpos.line) then some (z,k) else none)=some (y,k'):=h
  split at h
  ·rename_i hc
   rw [Bool.and_eq_true,Bool.and_eq_true] at hc
   cases h
   obtain ⟨lp,rfl⟩:=emL_inv hc.1
   have e:=eq_of_beq hc.2.1
   subst e
   exact ⟨_,_,_,lp,rfl,hc.2.2⟩
  ·cases h
 ·cases h
theorem popC_inv {e:Expr} {y:Str} (h:popC e=some y):∃ p1 apos cpos,e=.Call (.Attribute (.Name y p1) "pop" apos) [] [] cpos∧(apos.endLine==cpos.line)=true:=by
 obtain ⟨⟨z,m,p,apos,es,cpos⟩,h1,h⟩:=obs h
 have e:=methC_inv h1
 subst e
 rcases es with _ | ⟨_,_⟩
 ·replace h:(if m==("pop":Str)&&apos.endLine==cpos.line then some z else none)=some y:=h
  split at h
  ·rename_i hc
   rw [Bool.and_eq_true] at hc
   cases h
   have e:=eq_of_beq hc.1
   subst e
   exact ⟨_,_,_,rfl,hc.2⟩
  ·cases h
 ·cases h
theorem one1_inv {e:Expr} {p:Expr × Expr} (h:one1 e=some p):∃ dp,e=.Dict [some p.1] [p.2] dp:=by
 cases e with
 | Dict ks vs dp =>
  rcases ks with _ | ⟨k,_ | ⟨_,_⟩⟩
  ·cases h
  ·cases k with
   | none=>cases h
   | some k =>
    rcases vs with _ | ⟨v,_ | ⟨_,_⟩⟩
    ·cases h
    ·cases h;exact ⟨dp,rfl⟩
    ·cases h
  ·cases k<;>cases h
 | _=>cases h
theorem ninC_inv {e:Expr} {p:Expr × Str} (h:ninC e=some p):∃ p1 cp,e=.Compare p.1 [.NotIn] [.Name p.2 p1] cp:=by
 cases e with
 | Compare k ops es cp =>
  rcases ops with _ | ⟨op,_ | ⟨_,_⟩⟩
  ·cases h
  ·cases op with
   | NotIn =>
    rcases es with _ | ⟨e,_ | ⟨_,_⟩⟩
    ·cases h
    ·cases e with
     | Name y p1=>cases h;exact ⟨p1,cp,rfl⟩
     | _=>cases h
    ·cases e<;>cases h
   | _=>cases h
  ·cases op<;>cases h
 | _=>cases h
theorem nameC_inv {e:Expr} {y:Str} (h:nameC e=some y):∃ p1,e=.Name y p1:=by
 cases e with
 | Name z p1=>cases h;exact ⟨p1,rfl⟩
 | _=>cases h
theorem snd_stmts (gd:Gd X c G k) (fx:Fx X c):∀ n,(∀ st s,trS n c st=some s→PS X st (spS X F0 H0 (evS G s)))∧(∀ sts ss,trSs n c sts=some ss→PSs X sts (spS X F0 H0 (evSs G ss)))
 | 0=>⟨fun _ _ h=>(by (cases h;done)),fun _ _ h=>(by (cases h;done))⟩
 | n+1=>by
  obtain ⟨i1,i2⟩:=snd_stmts gd fx n
  refine ⟨fun st s h=>?_,fun sts ss h=>?_⟩
  ·cases st with
   | Assign tgs e pos =>
    match tgs,h with
    | [],h=>(cases h;done)
    | t::_::_,h =>
     cases t with
     | Subscript o _ _=>cases o<;>(cases h;done)
     | _=>(cases h;done)
    | [t],h =>
     cases t with
     | Name x px =>
      replace h:(if plainName x&&(c.sc.names.lookup x==some .local||c.sc.names.lookup x==some .cell) then (nameIx c.nm x).bind fun i=>if isDictE e then some (S.dnew i) else (match one1 e with
   | some p=>(trV n c p.1).bind fun x=>(trV n c p.2).bind fun y=>some (S.dnew1 i x y)
   | none=>(match popC e with
    | some y=>if visB c.sc y&&plainName y then (nameIx c.nm y).bind fun j=>some (S.lpop i j) else none
    | none=>(trV n c e).bind fun y=>if fresh y&&!litE e then none else some (S.asg i y))) else none)=some s:=h
      split at h
      ·rename_i hc
       simp only [Bool.and_eq_true,Bool.or_eq_true,beq_iff_eq] at hc
       obtain ⟨i,h1,g1⟩:=obs h
       clear h
       by_cases hd:isDictE e=true
       ·rw [if_pos hd] at g1
        cases g1
        obtain ⟨dp,rfl⟩:=dictE_inv hd
        exact snd_dnew gd fx hc.2 h1
       ·rw [if_neg hd] at g1
        cases ho:one1 e with
        | some p =>
         rw [ho] at g1
         obtain ⟨x',h2,g2⟩:=obs g1
         obtain ⟨y',h3,g3⟩:=obs g2
         clear g1
         cases g3
         obtain ⟨dp,rfl⟩:=one1_inv ho
         exact snd_dnew1 gd fx hc.2 h1 h2 h3
        | none =>
         rw [ho] at g1
         cases hpp:popC e with
         | some y' =>
          rw [hpp] at g1
          replace g1:(if visB c.sc y'&&plainName y' then (nameIx c.nm y').bind fun j=>some (S.lpop i j) else none)=some s:=g1
          split at g1
          ·rename_i hvp
           rw [Bool.and_eq_true] at hvp
           obtain ⟨j',h2,g2⟩:=obs g1
           clear g1
           cases g2
           obtain ⟨p1,ap,cp,rfl,hln⟩:=popC_inv hpp
           exact snd_lpop gd fx hc.2 h1 hvp.1 hvp.2 h2 hln
          ·cases g1
         | none =>
          rw [hpp] at g1
          obtain ⟨y,h2,g2⟩:=obs g1
          clear g1
          by_cases hfl:(fresh y&&!litE e)=true
          ·rw [if_pos hfl] at g2;cases g2
          ·rw [if_neg hfl] at g2
           cases g2
           cases n with
           | zero=>cases h2
           | succ m =>
            exact snd_asg gd fx hc.2 h1 h2 fun hfr=>by
             rw [hfr,Bool.true_and] at hfl
             simpa using hfl
      ·cases h
     | Subscript o ke tp =>
      cases o with
      | Name x px =>
       replace h:(if visB c.sc x&&plainName x&&!sliceE ke then (nameIx c.nm x).bind fun i=>(trV n c ke).bind fun y=>(if isCompE e then none else (trV n c e).bind fun z=>some (S.dput i y z)) else none)=some s:=h
       split at h
       ·rename_i hc
        simp only [Bool.and_eq_true] at hc
        obtain ⟨i,h1,g1⟩:=obs h
        obtain ⟨y,h2,g2⟩:=obs g1
        clear g1 h
        split at g2
        ·cases g2
        ·rename_i hcomp
         obtain ⟨z,h3,g3⟩:=obs g2
         cases g3
         exact snd_dput gd fx hc.1.1 hc.1.2 h1 h2 h3 (by simpa using hcomp)
       ·cases h
      | _=>(cases h;done)
     | _=>(cases h;done)
   | Expr e pos =>
    cases e with
    | Constant cst kk p =>
     cases cst with
     | str x=>(cases h;done)
     | _=>(cases h;done)
    | Call f es ks cpos =>
     cases f with
     | Attribute o m apos =>
      match es,ks,h with
      | [a],[],h =>
       have key:(∀ x p,o≠.Name x p)→PS X (.Expr (.Call (.Attribute o m apos) [a] [] cpos) pos) (spS X F0 H0 (evS G s)):=fun hn=>by
        replace h:(if apos.endLine==cpos.line&&m==("append":Str) then (sdC o).bind fun p=>if visB c.sc p.1&&plainName p.1 then (nameIx c.nm p.1).bind fun i=>(trV n c p.2).bind fun x=>(trV n c a).bind fun y=>some (S.dapp i x y) else none else none)=some s:=by
         cases o with
         | Name x p=>exact absurd rfl (hn x p)
         | _=>exact h
        split at h
        ·rename_i hc
         rw [Bool.and_eq_true] at hc
         obtain ⟨⟨y,ke⟩,h1,h⟩:=obs h
         split at h
         ·rename_i hv
          rw [Bool.and_eq_true] at hv
          obtain ⟨i,h2,h⟩:=obs h
          obtain ⟨z,h3,h⟩:=obs h
          obtain ⟨w,h4,h⟩:=obs h
          cases h
          obtain ⟨p1,ap,cp,lp,rfl,hl⟩:=sdC_inv h1
          have hm:=eq_of_beq hc.2
          subst hm
          exact snd_dapp gd fx hv.1 hv.2 h2 h3 h4 hl hc.1
         ·cases h
        ·cases h
       cases o with
       | Name x px =>
         replace h:(if apos.endLine==cpos.line&&visB c.sc x&&plainName x then (nameIx c.nm x).bind fun i=>(trV n c a).bind fun y=>(if m==("append":Str) then some (S.app i y) else if m==("extend":Str) then some (S.ext i y) else none) else none)=some s:=h
         split at h
         ·rename_i hc
          simp only [Bool.and_eq_true] at hc
          obtain ⟨i,h1,g1⟩:=obs h
          obtain ⟨y,h2,g2⟩:=obs g1
          clear g1 h
          by_cases hm:(m==("append":Str))=true
          ·rw [if_pos hm] at g2
           have hm:=eq_of_beq hm
           subst hm
           cases g2
           exact snd_app gd fx hc.1.2 hc.2 h1 h2 hc.1.1
          ·rw [if_neg hm] at g2
           by_cases hm:(m==("extend":Str))=true
           ·rw [if_pos hm] at g2
            have hm:=eq_of_beq hm
            subst hm
            cases g2
            exact snd_ext gd fx hc.1.2 hc.2 h1 h2 hc.1.1
           ·rw [if_neg hm] at g2;cases g2
         ·cases h
       | _=>exact key fun _ _ z=>by cases z
      | [],_,h=>cases o<;>(cases h;done)
      | [_],_::_,h=>cases o<;>(cases h;done)
      | _::_::_,_,h=>cases o<;>(cases h;done)
     | _=>(cases h;done)
    | _=>(cases h;done)
   | Return e pos =>
    cases e with
    | none=>(cases h;done)
    | some e =>
     obtain ⟨y,h2,g⟩:=obs h
     cases g
     exact snd_ret gd fx h2
   | If t a b pos =>
    cases hn:ninC t with
    | none =>
     have h:(match ninC t with
      | some p=>(match (generalizing:=false) b with
       | []=>if visB c.sc p.2&&plainName p.2 then (nameIx c.nm p.2).bind fun i=>(trV n c p.1).bind fun x=>(trSs n c a).bind fun y=>some (S.ifnin x i y) else none
       | _=>none)
      | none=>(trT n c t).bind fun z=>(trSs n c a).bind fun x=>(trSs n c b).bind fun y=>some (S.ite z x y))=some s:=h
     rw [hn] at h
     obtain ⟨z,h1,g⟩:=obs h
     obtain ⟨x,h2,g⟩:=obs g
     obtain ⟨y,h3,g⟩:=obs g
     cases g
     exact snd_if gd fx h1 (i2 _ _ h2) (i2 _ _ h3)
    | some p =>
     have h:(match ninC t with
      | some p=>(match (generalizing:=false) b with
       | []=>if visB c.sc p.2&&plainName p.2 then (nameIx c.nm p.2).bind fun i=>(trV n c p.1).bind fun x=>(trSs n c a).bind fun y=>some (S.ifnin x i y) else none
       | _=>none)
      | none=>(trT n c t).bind fun z=>(trSs n c a).bind fun x=>(trSs n c b).bind fun y=>some (S.ite z x y))=some s:=h
     rw [hn] at h
     cases b with
     | cons _ _=>cases h
     | nil =>
      replace h:(if visB c.sc p.2&&plainName p.2 then (nameIx c.nm p.2).bind fun i=>(trV n c p.1).bind fun x=>(trSs n c a).bind fun y=>some (S.ifnin x i y) else none)=some s:=h
      split at h
      ·rename_i hvp
       rw [Bool.and_eq_true] at hvp
       obtain ⟨i,h1,g⟩:=obs h
       obtain ⟨x,h2,g⟩:=obs g
       obtain ⟨y,h3,g⟩:=obs g
       cases g
       obtain ⟨p1,cp,rfl⟩:=ninC_inv hn
       exact snd_ifnin gd fx hvp.1 hvp.2 h1 h2 (i2 _ _ h3)
      ·cases h
   | While t body els pos =>
    cases els with
    | cons _ _=>(cases h;done)
    | nil =>
     obtain ⟨y,h1,g⟩:=obs h
     split at g
     ·rename_i hvp
      rw [Bool.and_eq_true] at hvp
      obtain ⟨i,h2,g⟩:=obs g
      obtain ⟨b,h3,g⟩:=obs g
      cases g
      obtain ⟨p1,rfl⟩:=nameC_inv h1
      exact snd_wloop gd fx hvp.1 hvp.2 h2 (i2 _ _ h3)
     ·cases g
   | For tg iter body els pos =>
    cases els with
    | cons _ _=>(cases h;done)
    | nil =>
     obtain ⟨xs,h1,g⟩:=obs h
     obtain ⟨is,h2,g⟩:=obs g
     obtain ⟨ki,h3,g⟩:=obs g
     obtain ⟨b,h4,g⟩:=obs g
     split at g
     ·rename_i hc
      simp only [Bool.and_eq_true] at hc
      obtain ⟨⟨⟨c1,c2⟩,c3⟩,c4⟩:=hc
      cases g
      refine snd_for gd fx h1 h2 h3 (fun e=>?_) (fun e=>?_) (fx.ats c4 h2) (i2 _ _ h4)
      ·rw [e] at c1
       simpa using c1
      ·rw [e] at c2
       simpa using c2
     ·cases g
   | _=>(cases h;done)
  ·cases sts with
   | nil=>cases (show some ([]:List S)=some ss from h);exact snd_nil
   | cons st rest =>
    obtain ⟨x,h1,h⟩:=obs h
    obtain ⟨xs,h2,h⟩:=obs h
    cases h
    exact snd_cons (i1 _ _ h1) (i2 _ _ h2)
end
section
variable {P:Program} {w:World} {K:PySem.W.Frag} {mg:Str→Option Value} {base:Heap} {R:Pr}
structure FnD (K:PySem.W.Frag) (mg:Str→Option Value) (f:Str) (D:Fd) (st:Stmt) (a:Addr) (fd:FuncData) (ps:List Str):Prop where
 qu:∃ x qual,Fun K x qual st a fd
 sc:FnScope (fnNames (defScope st)) ps (defScope st)
 np:ps.length=D.np
 ns:(fnNames (defScope st)).length=D.ns
 tr:trSs 60 ⟨defScope st,fnNames (defScope st)⟩ (defBody st)=some D.body
 mg:mg f=some (.ref a)
 kp:PySem.W.keepIn K (.ref a)=true
 bi:Binds K fd ps []
theorem start_ok {X:Cx} {D:Fd} {N:List Str} {ts:List T} {vs:List V} {F H:Hp} (hN:N.length=D.ns) (fh:Same F H) (tb:Tbk X.K F H) (r:Reps X.K F ts vs):EnvS X F H (begin' D ts) (L2.start N vs) F H:=by
 have hl:=r.length
 have none:∀ i s,(begin' D ts)[i]?=some s→¬ i<ts.length→s=.no:=fun i s h hi=>by
  unfold begin' at h
  rw [List.getElem?_append_right (by simpa using hi)] at h
  rw [List.getElem?_replicate] at h
  split at h
  ·cases h;rfl
  ·cases h
 have some':∀ i s,(begin' D ts)[i]?=some s→i<ts.length→∃ t,ts[i]?=some t∧s=.val t:=fun i s h hi=>by
  unfold begin' at h
  rw [List.getElem?_append_left (by simpa using hi),List.getElem?_map] at h
  obtain ⟨t,h1,h2⟩:=oms h
  exact ⟨t,h1,h2.symm⟩
 have noown:∀ i (u:Sl),(begin' D ts)[i]?=some u→u.isOwn=true→False:=fun i u h hu=>by
  by_cases hi:i<ts.length
  ·obtain ⟨t,_,e⟩:=some' i _ h hi
   subst e;cases hu
  ·have:=none i _ h hi
   subst this;cases hu
 refine ⟨Step.refl fh,tb,?_,fun i t h=>?_,fun i u h hu=>(noown i u h hu).elim,fun i j u _ a _ h _ hu=>(noown i u h hu).elim,fun i kk h=>?_⟩
 ·unfold begin' L2.start
  simp only [List.length_append,List.length_map,List.length_replicate]
  rw [hl,hN]
 ·by_cases hi:i<ts.length
  ·obtain ⟨u,h1,e⟩:=some' i _ h hi
   cases e
   obtain ⟨v,h2,h3⟩:=r.get h1
   refine ⟨v,?_,h3⟩
   unfold L2.start
   rw [List.getElem?_append_left (by rw [List.length_map,hl];exact hi),List.getElem?_map,h2]
   rfl
  ·cases none i _ h hi
 ·by_cases hi:i<ts.length
  ·obtain ⟨t,_,e⟩:=some' i _ h hi
   cases e
  ·cases none i _ h hi
def Kn (P:Program) (w:World) (K:PySem.W.Frag) (mg:Str→Option Value) (base:Heap) (R:Pr) (n:Nat) (f:Str):Prop :=
 ∃ (a:Addr) (fd:FuncData) (ps:List Str),FnOk P w K mg base CX0 n a fd ps (spT K (run R n f))∧mg f=some (.ref a)∧PySem.W.keepIn K (.ref a)=true∧Binds K fd ps []
abbrev KnAll (P:Program) (w:World) (K:PySem.W.Frag) (mg:Str→Option Value) (base:Heap) (R:Pr) (n:Nat):Prop:=∀ m,m≤n→∀ f D,plainF f=true→R.fn f=some D→Kn P w K mg base R m f
theorem fn_zero {a:Addr} {fd:FuncData} {ps:List Str} {f:Str}:FnOk P w K mg base CX0 0 a fd ps (spT K (run R 0 f)):=by
 have no:∀ vs H Q E,¬ spT K (run R 0 f) vs H Q E:=fun vs H Q E h=>by
  obtain ⟨F,ts,t,_,_,_,h,_⟩:=h
  cases h
 exact ⟨fun vs H Q E h=>absurd h (no vs H Q E),fun A outer s H args us vs Q E _ _ _ _ h=>absurd h (no vs H Q E)⟩
theorem gd_fn {n:Nat} (ih:KnAll P w K mg base R n) (nob:∀ x∈bnames,mg x=none) (con:∀ x t,R.con x=some t→∃ u v,mg x=some u∧RelV v u∧∀ F,Rep K F t v)
  {st:Stmt} {ps:List Str} (sc:FnScope (fnNames (defScope st)) ps (defScope st)) {qual:Str} {a:Addr} {cdv:Value} {A:Around} {outer:List PySem.Env} {s:Shared} {H:Hp} {E:XK} (hr:Room n (A.deeper (envOfC qual (defScope st) s.heap.objs.size a cdv))) :
  Gd (cxOf CX0 P w K mg base (fnNames (defScope st)) qual (defScope st) a cdv A outer s H E).nox ⟨defScope st,fnNames (defScope st)⟩ (glo R (run R n)) n:={
   room:=hr
   calm:=rfl
   nob:=nob
   call:=fun g ts t hp hg=>by
    have hD:∃ D',R.fn g=some D':=by
     cases n with
     | zero=>cases hg
     | succ m =>
      have hg:run R (m+1) g ts=some t:=hg
      rw [run] at hg
      obtain ⟨D',h1,_⟩:=obs hg
      exact ⟨D',h1⟩
    obtain ⟨D',hD⟩:=hD
    exact ih n (Nat.le_refl n) g D' hp hD
   con:=con
   vis:=fun x h=>by
    show (defScope st).names.lookup x=_∨(defScope st).names.lookup x=_∨(defScope st).names.lookup x=_
    have h:visB (defScope st) x=true:=h
    unfold visB at h
    cases e:(defScope st).names.lookup x with
    | none=>rw [e] at h;cases h
    | some q =>
     rw [e] at h
     cases q with
     | «local»=>exact .inl rfl
     | cell=>exact .inr (.inl rfl)
     | free=>exact .inr (.inr rfl)
     | _=>cases h
   gl:=fun x h=>by
    show (defScope st).names.lookup x=_
    simpa [glB] using h
   cap:=fun x h=>h
   nd:=sc.nd }
theorem fn_one {n:Nat} (ih:KnAll P w K mg base R n) (nob:∀ x∈bnames,mg x=none) (con:∀ x t,R.con x=some t→∃ u v,mg x=some u∧RelV v u∧∀ F,Rep K F t v)
  {f:Str} {D:Fd} {st:Stmt} {a:Addr} {fd:FuncData} {ps:List Str} (hf:R.fn f=some D) (d:FnD K mg f D st a fd ps):FnOk P w K mg base CX0 (n+1) a fd ps (spT K (run R (n+1) f)):=by
  obtain ⟨x,qual,FU⟩:=d.qu
  have inv:∀ {ts:List T} {t:T},run R (n+1) f ts=some t→ts.length=D.np∧resultOf (evSs (glo R (run R n)) D.body (begin' D ts))=some t:=fun {ts t} h=>by
   rw [run,hf] at h
   simp only [Option.bind_some] at h
   split at h
   ·rename_i e;exact ⟨e,h⟩
   ·cases h
  refine FU.ok d.sc (fun vs H Q E h=>?_) (fun cdv A outer s H vs Q E hr h=>?_)
  ·obtain ⟨F,ts,t,fh,tb,r,h,_⟩:=h
   rw [r.length,(inv h).1,d.np]
  obtain ⟨F,ts,t,fh,tb,r,h,q⟩:=h
  obtain ⟨hl,he⟩:=inv h
  have gd:=gd_fn (outer:=outer) (H:=H) (E:=E) ih nob con d.sc hr
  have fx:Fx (cxOf CX0 P w K mg base (fnNames (defScope st)) qual (defScope st) a cdv A outer s H E).nox ⟨defScope st,fnNames (defScope st)⟩:=⟨rfl,fun x h=>h,fun _=>rfl,rfl⟩
  refine ⟨_,(snd_stmts (F0:=F) (H0:=H) gd fx 60).2 _ _ d.tr,?_⟩
  cases ho:evSs (glo R (run R n)) D.body (begin' D ts) with
  | none=>rw [ho] at he;cases he
  | some o =>
   refine ⟨begin' D ts,F,o,start_ok d.ns fh tb r,ho,?_⟩
   rw [ho] at he
   cases o with
   | nx τ=>cases he;exact fun σ' F' H' e _=>q .non F' H' e.st rfl
   | rt t=>cases he;exact fun v F' H' s r=>q v F' H' s r
theorem fn_all (L:∀ f D,plainF f=true→R.fn f=some D→(∃ st a fd ps,FnD K mg f D st a fd ps) ∨
   ∃ (a:Addr) (fd:FuncData) (ps:List Str),mg f=some (.ref a)∧PySem.W.keepIn K (.ref a)=true∧Binds K fd ps []∧∀ n,KnAll P w K mg base R n→FnOk P w K mg base CX0 (n+1) a fd ps (spT K (run R (n+1) f)))
  (nob:∀ x∈bnames,mg x=none) (con:∀ x t,R.con x=some t→∃ u v,mg x=some u∧RelV v u∧∀ F,Rep K F t v):∀ n,KnAll P w K mg base R n
 | 0=>fun m hm f D hp hf=>by
  obtain rfl:m=0:=by omega
  rcases L f D hp hf with ⟨st,a,fd,ps,d⟩ | ⟨a,fd,ps,h1,h2,h3,_⟩
  ·exact ⟨a,fd,ps,fn_zero,d.mg,d.kp,d.bi⟩
  ·exact ⟨a,fd,ps,fn_zero,h1,h2,h3⟩
 | n+1=>fun m hm f D hp hf=>by
  have ih:=fn_all L nob con n
  by_cases hmn:m≤n
  ·exact ih m hmn f D hp hf
  ·obtain rfl:m=n+1:=by omega
   rcases L f D hp hf with ⟨st,a,fd,ps,d⟩ | ⟨a,fd,ps,h1,h2,h3,h4⟩
   ·exact ⟨a,fd,ps,fn_one ih nob con hf d,d.mg,d.kp,d.bi⟩
   ·exact ⟨a,fd,ps,h4 n ih,h1,h2,h3⟩
end
end Ev
end
end
noncomputable section
noncomputable section
namespace Ev
open PySem PySem.Spec PyProof.Rows L2
theorem law_call' {P:Program} {w:World} {K:PySem.W.Frag} {mg mb:Str→Option Value} {CX:CXT} {k:Nat} {fa a:Addr} {fd:FuncData} {x:Str} {sp:Sp} {s₁:Shared} {vs:List Value} {ns:List Int}
  (KX:K.In s₁.heap) (hns:s₁.heap.Ns mainGlobals mg) (hb:s₁.heap.Ns builtinsNs mb) (hbb:∀ x:Str,x≠"__name__"→mb x=bootBuiltins x) (hlim:s₁.heap.NoLimit) (hg:s₁.gens=#[])
  (ha:s₁.heap.get? a=some { cls:=.type "list",data:=.seq vs.toArray }) (hi:IntsAre vs ns) (hl:ns.length≤sizeLine) (hr:Room k callerA)
  (F:∀ base:Heap,K.In base→base.Ns mainGlobals mg→FnOk P w K mg base CX k fa fd [x] sp) (hbind:∀ (s:Shared) (u:Value),BindsTo s fd ⟨[u],[]⟩ [(x,u)])
  (hsp:∀ H:Hp,Only H→Ls K H a (ns.map V.int)→sp [.ref a] H (fun v _=>v=.bl true) fun _ _ _=>False)
  (hCX:∀ H e s',CX [] H s₁ (fun _ _ _=>False) e s'→False) :
  codeAny (model P w) callerA (.call (.ref fa) ⟨[.ref a],[]⟩) (fun r s'=>r=.ok (.ret (.bool true))∧OldK s₁.heap s'.heap∧s'.os=s₁.os∧AllBare s'.gens) s₁:=by
 have rv:=vals_ints hi
 have lenV:=hi.length
 have core:∀ H:Hp,Only H→Ls K H a (ns.map V.int)→HOk P w H s₁.heap→(∀ b,H b≠none→b=a)→(H a≠none→K.lookup a=none) →
   codeAny (model P w) callerA (.call (.ref fa) ⟨[.ref a],[]⟩) (fun r s'=>r=.ok (.ret (.bool true))∧OldK s₁.heap s'.heap∧s'.os=s₁.os∧AllBare s'.gens) s₁:=by
  intro H hO hS hok hA hK
  have base_of:∀ {b:Addr} {o:Obj},s₁.heap.get? b=some o→H b=none→(hidT s₁.heap H).get? b=some o:=fun e n=>hidT_get e n
  have noA:∀ {b:Addr} {o:Obj} {es:Array DictEntry} {ep:Nat},s₁.heap.get? b=some o→o.data=.dict es ep→H b=none:=fun {b o es ep} e d=>by
   cases q:H b with
   | none=>rfl
   | some u =>
    have e':b=a:=hA b (by rw [q];simp)
    subst e'
    rw [ha] at e;cases e
    have d':Data.seq vs.toArray _=Data.dict es ep:=d
    cases d'
  have nsK:∀ {b:Addr} {m:Str→Option Value},s₁.heap.Ns b m→(hidT s₁.heap H).Ns b m:=fun {b m} ⟨o,es,ep,e,d,r⟩=>⟨o,es,ep,base_of e (noA e d),d,r⟩
  have hKb:K.In (hidT s₁.heap H):=fun b o e=>base_of (KX b o e) (by
   cases q:H b with
   | none=>rfl
   | some u =>
    have e':b=a:=hA b (by rw [q];simp)
    subst e'
    rw [hK (by rw [q];simp)] at e;cases e)
  have hM:Mod K mg (hidT s₁.heap H):=⟨hKb,nsK hns,⟨mb,nsK hb,hbb⟩,let ⟨mc,h1,h2⟩:=hlim;⟨mc,nsK h1,h2⟩⟩
  have e0:Env0 P w K mg (hidT s₁.heap H) callerA [] s₁ H:=⟨rfl,hM,fun b o e=>of_hidT e,Nat.le_of_eq (hidT_size _ _),trivial,fun b hb=>absurd (show b∈([]:List Addr) from hb) (by simp),hok,.of_eq hg⟩
  refine codeAny_mono ((F _ hKb (nsK hns)).run callerA [] s₁ H ⟨[.ref a],[]⟩ [.ref a] [.ref a] _ _ hr e0 (hbind s₁ (.ref a)) (.cons rfl .nil) (hsp H hO hS)) fun r s' h=>?_
  cases r with
  | error e=>exact (hCX H e s' h).elim
  | ok fl =>
   cases fl with
   | next=>exact False.elim h
   | brk=>exact False.elim h
   | cont=>exact False.elim h
   | ret u =>
    obtain ⟨v,H',os,bare,un,hok',r',q⟩:=h
    have q':v=.bl true:=q
    subst q'
    obtain rfl:u=Value.bool true:=r'
    refine ⟨rfl,OldK.of_keep fun b o e=>?_,os,bare⟩
    cases q:H b with
    | none=>exact un.keep b o e q (by intro z;exact absurd (show b∈([]:List Addr) from z) (by simp)) (by simp)
    | some u =>
     rcases hO b with z | ⟨ob,xs,z⟩
     ·rw [q] at z;cases z
     ·have z2:=un.frzs b ob _ z
      obtain ⟨e1,_⟩:=hok b _ z
      obtain ⟨e2,_⟩:=hok' b _ z2
      rw [e] at e1;cases e1
      exact e2
 cases hk:K.lookup a with
 | some o =>
  have e:=KX a o hk
  rw [ha] at e
  cases e
  refine core (fun _=>none) (fun _=>.inl rfl) (.inr ⟨vs.toArray,_,hk,by rw [List.size_toArray,lenV];exact hl,by simpa using rv⟩) (fun b u z=>by have z':(none:Option HO)=some u:=z;cases z') (fun b z=>absurd rfl z) fun z=>absurd rfl z
 | none =>
  refine core (fun b=>if b=a then some (.frz { cls:=.type "list",data:=.seq vs.toArray } (.lst (ns.map V.int))) else none) (fun b=>?_) (.inl (.inr ⟨{ cls:=.type "list",data:=.seq vs.toArray },if_pos rfl⟩)) (fun b u z=>?_) (fun b z=>?_) fun _=>hk
  ·by_cases hb:b=a
   ·exact .inr ⟨_,_,if_pos hb⟩
   ·exact .inl (if_neg hb)
  ·by_cases hb:b=a
   ·have z':=(if_pos hb).symm.trans z
    cases z'
    subst hb
    exact ⟨ha,by rw [List.length_map];exact hl,vs,_,rv,ha⟩
   ·have z':=(if_neg hb).symm.trans z
    cases z'
  ·by_cases hb:b=a
   ·exact hb
   ·exact absurd (if_neg hb) z
end Ev
end
end
noncomputable section
noncomputable section
namespace Ev
open PySem PySem.Spec PyProof.Rows L2
def seeNs (h:Heap) (ns:Addr) (x:Str):Option (Option Value):=match h.get? ns with
 | some ⟨_,_,.dict es _,_⟩=>(match es.toList.find? (·.key.isStr x) with
   | some e=>some (some e.val)
   | none=>if es.toList.any (·.refKey) then none else some none)
 | _=>none
structure FnV where
 name:Str
 qual:Str
 params:Arguments
 body:FuncBody
 scope:Scope
 globals:Addr
 closure:List (Str × Addr)
 defaults:Value
 builtins:Addr
def fnV (f:FuncData):FnV:=⟨f.name,f.qualname,f.params,f.body,f.scope,f.globals,f.closure,f.defaults,f.builtins⟩
def fnVOf (x:Str) (st:Stmt):FnV:=fnV (PySem.W.fnOf x x (defArgs st) (defBody st) (defScope st) .none .none .none .none none .none .none)
def seeCode (h:Heap) (cd:Value) (q:Str):Bool:=match cd with
 | .ref c=>(match h.get? c with
   | some ⟨_,_,.fields vs,_⟩=>(match vs.toList with | _::.str n _::_=>n==q | _=>false)
   | _=>false)
 | _=>false
def seeFn (h:Heap) (x:Str):Option (FnV × Bool):=match seeNs h mainGlobals x with
 | some (some (.ref a))=>(match h.get? a with
   | some ⟨_,_,.func f,_⟩=>some (fnV f,seeCode h f.code x)
   | _=>none)
 | _=>none
def seeT (h:Heap):Nat→Value→Option T
 | _,.none=>some .non
 | _,.bool b=>some (.bl b)
 | _,.int i _=>some (.int i)
 | _,.str x _=>some (.str x)
 | _,_=>none
def seeC (h:Heap) (x:Str):Option T:=match seeNs h mainGlobals x with
 | some (some v)=>seeT h 4 v
 | _=>none
def seeAll (fs bs cs:List Str) (h:Heap):List (Option (FnV × Bool)) × List (Option (Option Value)) × List (Option T):=(fs.map (seeFn h),bs.map (seeNs h mainGlobals),cs.map (seeC h))
def dueAll (fs:List (Str × Stmt)) (bs:List Str) (cs:List (Str × T)):List (Option (FnV × Bool)) × List (Option (Option Value)) × List (Option T):=(fs.map fun p=>some (fnVOf p.1 p.2,true),bs.map fun _=>some none,cs.map fun p=>some p.2)
def seeHook (fs:List (Str × Stmt)) (bs:List Str) (cs:List (Str × T)):PySem.W.Hook :=
 ⟨_,fun s=>seeAll (fs.map (·.1)) bs (cs.map (·.1)) s.heap,fun _=>dueAll fs bs cs,fun _ h=>∃ h0:Heap,(∀ b o,h0.get? b=some o→h.get? b=some o)∧seeAll (fs.map (·.1)) bs (cs.map (·.1)) h0=dueAll fs bs cs,
  fun _ s e=>⟨s.heap,fun _ _ e=>e,e⟩,fun _ _ _ ⟨h0,a,b⟩ k=>⟨h0,fun c o e=>k c o (a c o e),b⟩⟩
def KH (h:Heap):PySem.W.Frag:=(List.range h.objs.size).filterMap fun a=>(h.get? a).map fun o=>(a,o)
theorem get_lt {h:Heap} {a:Addr} {o:Obj} (e:h.get? a=some o):a<h.objs.size:=by
 by_cases hl:a<h.objs.size
 ·exact hl
 ·have:h.objs[a]?=none:=Array.getElem?_eq_none (Nat.le_of_not_lt hl)
  unfold Heap.get? at e
  rw [this] at e
  cases e
theorem look_fm {f:Addr→Option Obj} {a:Addr}:∀ l:List Addr,((l.filterMap fun b=>(f b).map fun o=>(b,o)).lookup a)=if a∈l then f a else none
 | []=>rfl
 | b::l=>by
  have ih:=look_fm (f:=f) (a:=a) l
  rw [List.filterMap_cons]
  by_cases hab:a=b
  ·subst hab
   cases hf:f a with
   | none=>simp only [Option.map_none];rw [ih,hf];simp
   | some o=>simp only [Option.map_some];rw [List.lookup_cons];simp
  ·cases hf:f b with
   | none=>simp only [Option.map_none];rw [ih];simp [hab]
   | some o =>
    simp only [Option.map_some]
    rw [List.lookup_cons,show (a==b)=false by simpa using hab,ih]
    simp [hab]
theorem kh_look (h:Heap) (a:Addr):(KH h).lookup a=h.get? a:=by
 unfold KH
 rw [look_fm]
 split
 ·rfl
 ·rename_i hn
  cases e:h.get? a with
  | none=>rfl
  | some o=>exact absurd (List.mem_range.mpr (get_lt e)) hn
theorem kh_in {h h':Heap} (k:∀ b o,h.get? b=some o→h'.get? b=some o):(KH h).In h':=fun a o e=>k a o (by rw [← kh_look];exact e)
theorem kh_ns {h:Heap} {ns:Addr} {x:Str}:PySem.W.nsIn (KH h) ns x=seeNs h ns x:=by
 unfold PySem.W.nsIn seeNs
 rw [kh_look]
 rfl
theorem kh_code {h:Heap} {cd:Value} {q:Str}:PySem.W.codeIn (KH h) cd q=seeCode h cd q:=by
 unfold PySem.W.codeIn seeCode
 cases cd with
 | ref c=>simp only [kh_look];rfl
 | _=>rfl
theorem see_fun {h:Heap} {x:Str} {st:Stmt} (e:seeFn h x=some (fnVOf x st,true)):∃ f fd,PySem.W.nsIn (KH h) mainGlobals x=some (some (.ref f))∧Fun (KH h) x x st f fd:=by
 unfold seeFn at e
 split at e
 ·rename_i a ha
  split at e
  ·rename_i oc od f sl ho
   have e:=Option.some.inj e
   have e1:=congrArg Prod.fst e
   have e2:=congrArg Prod.snd e
   dsimp only at e1 e2
   obtain ⟨n,q,p,b,sc,g,cl,df,kd,doc,pm,an,cd,ct,bi⟩:=f
   unfold fnVOf fnV at e1
   dsimp only [PySem.W.fnOf] at e1
   obtain ⟨rfl,rfl,rfl,rfl,rfl,rfl,rfl,rfl,rfl⟩:=FnV.mk.inj e1
   have hl:(KH h).lookup a=some ⟨oc,od,.func (PySem.W.fnOf q q (defArgs st) (defBody st) (defScope st) .none kd doc pm an cd ct),sl⟩:=by rw [kh_look];exact ho
   refine ⟨a,_,by rw [kh_ns];exact ha,fun_mk hl (by rw [kh_code];exact e2) ?_⟩
   simp only [PySem.W.keepIn,hl]
  ·cases e
 ·cases e
theorem see_fn {fs:List (Str × Stmt)} {bs:List Str} {cs:List (Str × T)} {h:Heap} (e:seeAll (fs.map (·.1)) bs (cs.map (·.1)) h=dueAll fs bs cs) {p:Str × Stmt} (hp:p∈fs):seeFn h p.1=some (fnVOf p.1 p.2,true):=by
 have e1:=congrArg Prod.fst e
 unfold seeAll dueAll at e1
 dsimp only at e1
 rw [List.map_map] at e1
 exact List.map_inj_left.mp e1 p hp
theorem see_b {fs:List (Str × Stmt)} {bs:List Str} {cs:List (Str × T)} {h:Heap} (e:seeAll (fs.map (·.1)) bs (cs.map (·.1)) h=dueAll fs bs cs) {x:Str} (hx:x∈bs):seeNs h mainGlobals x=some none:=by
 have e1:=congrArg (fun p=>p.2.1) e
 unfold seeAll dueAll at e1
 dsimp only at e1
 exact List.map_inj_left.mp e1 x hx
theorem see_c {fs:List (Str × Stmt)} {bs:List Str} {cs:List (Str × T)} {h:Heap} (e:seeAll (fs.map (·.1)) bs (cs.map (·.1)) h=dueAll fs bs cs) {p:Str × T} (hp:p∈cs):seeC h p.1=some p.2:=by
 have e1:=congrArg (fun p=>p.2.2) e
 unfold seeAll dueAll at e1
 dsimp only at e1
 rw [List.map_map] at e1
 exact List.map_inj_left.mp e1 p hp
theorem see_rep {h:Heap}:∀ (n:Nat) (v:Value) (t:T),seeT h n v=some t→∃ x,RelV x v∧∀ F,Rep (KH h) F t x
 | n,.none,t,e=>by cases n<;>(cases e;exact ⟨.non,rfl,fun _=>rfl⟩)
 | n,.bool b,t,e=>by cases n<;>(cases e;exact ⟨.bl b,rfl,fun _=>rfl⟩)
 | n,.int i k,t,e=>by cases n<;>(cases e;exact ⟨.int i,⟨k,rfl⟩,fun _=>rfl⟩)
 | n,.str x k,t,e=>by cases n<;>(cases e;exact ⟨.str x,⟨k,rfl⟩,fun _=>rfl⟩)
 | n,.ref a,t,e=>by cases n<;>cases e
 | n,.float ..,t,e=>by cases n<;>cases e
 | n,.ellipsis,t,e=>by cases n<;>cases e
 | n,.notImplemented,t,e=>by cases n<;>cases e
 | n,.bytes ..,t,e=>by cases n<;>cases e
 | n,.type ..,t,e=>by cases n<;>cases e
 | n,.builtin ..,t,e=>by cases n<;>cases e
theorem see_con {h0 h:Heap} {mg:Str→Option Value} {x:Str} {t:T} (KX:(KH h0).In h) (G:h.Ns mainGlobals mg) (e:seeC h0 x=some t):∃ u v,mg x=some u∧RelV v u∧∀ F,Rep (KH h0) F t v:=by
 unfold seeC at e
 split at e
 ·rename_i v hv
  obtain ⟨y,a,b⟩:=see_rep _ _ _ e
  exact ⟨v,y,PySem.W.mg_of KX G (by rw [kh_ns];exact hv),a,b⟩
 ·cases e
structure St (x:Str) (D:Fd) (st:Stmt) (ps:List Str):Prop where
 sc:FnScope (fnNames (defScope st)) ps (defScope st)
 np:ps.length=D.np
 ns:(fnNames (defScope st)).length=D.ns
 tr:trSs 60 ⟨defScope st,fnNames (defScope st)⟩ (defBody st)=some D.body
 bi:∀ (kV doc pm:Value) (an:Option Addr) (cdv ct:Value) (us:List Value),us.length=ps.length→bindArgs (PySem.W.fnOf x x (defArgs st) (defBody st) (defScope st) .none kV doc pm an cdv ct) ⟨us,[]⟩=pure (ps.zip us)
abbrev Tab:=List (Str × Fd × Stmt × List Str)
def Tab.fns (t:Tab):List (Str × Fd):=t.map fun p=>(p.1,p.2.1)
def Tab.sts (t:Tab):List (Str × Stmt):=t.map fun p=>(p.1,p.2.2.1)
def Tab.pr (t:Tab) (cs:List (Str × T)):Pr:=⟨fun f=>t.fns.lookup f,fun x=>cs.lookup x⟩
theorem mem_look {α:Type}:∀ {l:List (Str × α)} {f:Str} {D:α},l.lookup f=some D→(f,D)∈l
 | [],_,_,h=>by cases h
 | (g,E)::l,f,D,h=>by
  rw [List.lookup_cons] at h
  split at h
  ·rename_i e
   cases h
   rw [eq_of_beq e]
   exact List.mem_cons_self
  ·exact List.mem_cons_of_mem _ (mem_look h)
theorem no_tbk {h:Heap} {F H:Hp} (e:seeNs h mainGlobals "_law_spoilt"=some none):Tbk (KH h) F H:=fun p q=>by
 unfold tabOf at q
 rw [kh_ns,e] at q
 cases q
theorem walk_see {l:PySem.W.OpenLaw} {n k:Nat} {q:Program} {loose:List Str} {XP:(Str→Option Value)→Heap→Prop} {d:DefRec} {x:Str} {R:Pr} {fs:List (Str × Stmt)} {bs:List Str} {cs:List (Str × T)}
  (hn:l.most=some n) (hn2:n≤sizeLine) (hdf:d.params.defaults=[]) (hr:Room k callerA)
  (F:∀ (w:World) (mg:Str→Option Value) (fa:Addr) (h0 h:Heap),(KH h0).In h→seeAll (fs.map (·.1)) bs (cs.map (·.1)) h0=dueAll fs bs cs→h.Ns mainGlobals mg→mg d.name=some (.ref fa) →
   ∃ fd:FuncData,(∀ (s:Shared) (u:Value),BindsTo s fd ⟨[u],[]⟩ [(x,u)])∧∀ base:Heap,(KH h0).In base→base.Ns mainGlobals mg→FnOk l.prog w (KH h0) mg base CX0 k fa fd [x] (spT (KH h0) (run R k "law")))
  (hsp:("_law_spoilt":Str)∈bs) (law:∀ ns:List Int,ns.length≤n→run R k "law" [.lst (ns.map .int)]=some (.bl true)) :
  PySem.W.WalkO q loose XP (seeHook fs bs cs).says l.row.toRowW d [] (fun f vs=>PySem.call f vs):=by
 refine Att.attach_call hn hdf fun w s₀ s₁ mg mb fa o pm cd doc a vs ns G Y ho hd hcd hmg hobj hints hlen hg=>?_
 obtain ⟨h0,k0,e0⟩:=Y
 have KX:=kh_in k0
 obtain ⟨fd,hb,hF⟩:=F w mg fa h0 _ KX e0 G.T.g hmg
 exact law_call' KX G.T.g G.T.b G.T.builtins G.T.nolimit hg hobj hints (Nat.le_trans hlen hn2) hr hF hb (fun H hO hS=>by
  have ri:∀ ns:List Int,Reps (KH h0) H (ns.map .int) (ns.map V.int):=fun ns=>by
   induction ns with
   | nil=>exact rfl
   | cons i r ih=>exact ⟨_,_,rfl,rfl,ih⟩
  exact ⟨H,[.lst (ns.map .int)],.bl true,Same.refl H,no_tbk (see_b e0 hsp),⟨_,_,rfl,⟨a,_,rfl,hS,ri ns⟩,rfl⟩,law ns hlen,fun v F' H' _ r=>r⟩) fun H e s' z=>z
theorem all_see {P:Program} {w:World} {mg:Str→Option Value} {fa:Addr} {h0 h:Heap} {tab:Tab} {cs:List (Str × T)} {x:Str} {D:Fd} {st:Stmt} {k:Nat} (hst:∀ p∈tab,St p.1 p.2.1 p.2.2.1 p.2.2.2) (KX:(KH h0).In h)
  (e0:seeAll (tab.sts.map (·.1)) ("_law_spoilt"::bnames) (cs.map (·.1)) h0=dueAll tab.sts ("_law_spoilt"::bnames) cs) (G:h.Ns mainGlobals mg) (hfa:mg "law"=some (.ref fa)) (hl:(("law":Str),D,st,[x])∈tab) (hD:tab.fns.lookup ("law":Str)=some D) :
  ∃ fd:FuncData,(∀ (s:Shared) (u:Value),BindsTo s fd ⟨[u],[]⟩ [(x,u)])∧∀ base:Heap,(KH h0).In base→base.Ns mainGlobals mg→FnOk P w (KH h0) mg base CX0 (k+1) fa fd [x] (spT (KH h0) (run (tab.pr cs) (k+1) "law")):=by
 have nob:∀ x∈bnames,mg x=none:=fun x hx=>PySem.W.mg_none_of KX G (by rw [kh_ns];exact see_b e0 (List.mem_cons_of_mem _ hx))
 have C:∀ x t,(tab.pr cs).con x=some t→∃ u v,mg x=some u∧RelV v u∧∀ F,Rep (KH h0) F t v:=fun x t h=>see_con KX G (see_c (p:=(x,t)) e0 (mem_look h))
 have one:∀ p∈tab,∃ a fd,FnD (KH h0) mg p.1 p.2.1 p.2.2.1 a fd p.2.2.2:=fun p hp=>by
  obtain ⟨f,fd,h1,F⟩:=see_fun (see_fn (p:=(p.1,p.2.2.1)) e0 (List.mem_map.mpr ⟨p,hp,rfl⟩))
  have S:=hst p hp
  exact ⟨f,fd,⟨_,_,F⟩,S.sc,S.np,S.ns,S.tr,PySem.W.mg_of KX G h1,F.kp,F.binds S.bi⟩
 have L:∀ f D,(tab.pr cs).fn f=some D→∃ st a fd ps,FnD (KH h0) mg f D st a fd ps:=fun f D hf=>by
  obtain ⟨p,hp,e⟩:=omm (mem_look (show tab.fns.lookup f=some D from hf))
  cases e
  obtain ⟨a,fd,M⟩:=one p hp
  exact ⟨_,_,_,_,M⟩
 obtain ⟨f,fd,h1,F⟩:=see_fun (see_fn (p:=(("law":Str),st)) e0 (List.mem_map.mpr ⟨(("law":Str),D,st,[x]),hl,rfl⟩))
 have hm:=PySem.W.mg_of KX G h1
 rw [hfa] at hm
 cases hm
 have S:=hst _ hl
 have M:FnD (KH h0) mg "law" D st fa fd [x]:=⟨⟨_,_,F⟩,S.sc,S.np,S.ns,S.tr,hfa,F.kp,F.binds S.bi⟩
 refine ⟨fd,fun s u=>?_,fun base _ _=>fn_one (fn_all (fun f D _ hf=>.inl (L f D hf)) nob C k) nob C hD M⟩
 obtain ⟨oc,od,kV,doc,pm,an,cdv,ct,osl,rfl,_,_⟩:=F.ex
 exact .of_eq (S.bi kV doc pm an cdv ct [u] rfl)
theorem zip_look:∀ (ps:List Str) (us:List Value),us.length=ps.length→∀ n∈ps,((ps.zip us).lookup n).isNone=false
 | p::ps,u::us,hl,n,hn=>by
  rw [List.zip_cons_cons,List.lookup_cons]
  cases e:n==p with
  | true=>rfl
  | false=>exact zip_look ps us (by simpa using hl) n ((omc hn).resolve_left fun z=>by subst z;simp at e)
theorem zip_fm:∀ (ps:List Str) (us:List Value),us.length=ps.length→ps.Nodup→ps.filterMap (fun n=>((ps.zip us).lookup n).map (n,·))=ps.zip us
 | [],us,_,_=>by cases us<;>rfl
 | p::ps,u::us,hl,hn=>by
  rw [List.nodup_cons] at hn
  rw [List.zip_cons_cons,List.filterMap_cons,List.lookup_cons,beq_self_eq_true]
  simp only [Option.map_some]
  congr 1
  refine Eq.trans (fm_congr fun n h=>?_) (zip_fm ps us (by simpa using hl) hn.2)
  rw [List.lookup_cons]
  cases e:n==p with
  | true=>rw [eq_of_beq e] at h;exact absurd h hn.1
  | false=>rfl
theorem bind_plain {fd:FuncData} {as:List Arg} {us:List Value} (h:fd.params=⟨[],as,none,[],[],none,[]⟩) (hd:fd.defaults=.none) (hn:(as.map (·.arg)).Nodup) (hl:us.length=(as.map (·.arg)).length):bindArgs fd ⟨us,[]⟩=pure ((as.map (·.arg)).zip us):=by
 have e1:((as.map (·.arg)).filter fun n=>(((as.map (·.arg)).zip us).lookup n).isNone)=[]:=List.filter_eq_nil_iff.mpr fun n hn=>by rw [zip_look _ us hl n hn];simp
 have e2:=zip_fm _ us hl hn
 have e3:seqItems? Value.none=(pure none:Sem _):=rfl
 unfold bindArgs
 rw [h,hd]
 dsimp only
 generalize as.map (·.arg)=ps at hn hl e1 e2 ⊢
 simp only [List.map_nil,List.nil_append,List.append_nil,List.forIn_nil,pure_bind,e3,Option.getD_none,List.length_nil,hl,gt_iff_lt,Nat.lt_irrefl,decide_false,Bool.false_and,Bool.false_eq_true,if_false,Nat.zero_sub,List.drop_zero,Nat.sub_zero,List.take_length,e1,List.isEmpty_nil,Bool.not_true,List.drop_length,List.zip_nil_left,e2]
 done
def stOk (D:Fd) (st:Stmt) (ps:List Str):Bool :=
 (defScope st).kind==.function&&!(defScope st).isCoroutine&&!(defScope st).isGenerator&&decide ((fnNames (defScope st)).Nodup)&&decide ((fnNames (defScope st)).take ps.length=ps) &&
 (ps.all fun x=>(defScope st).names.lookup x==some .local||(defScope st).names.lookup x==some .cell)&&((defScope st).names.all fun y=>!(y.2==.free)) &&
 decide (ps.length=D.np)&&decide ((fnNames (defScope st)).length=D.ns) &&
 (match defArgs st with | ⟨[],as,none,[],[],none,[]⟩=>decide (as.map (·.arg)=ps) | _=>false)
theorem st_of {x:Str} {D:Fd} {st:Stmt} {ps:List Str} (h:stOk D st ps=true) (tr:trSs 60 ⟨defScope st,fnNames (defScope st)⟩ (defBody st)=some D.body):St x D st ps:=by
 unfold stOk at h
 simp only [Bool.and_eq_true,Bool.not_eq_true',decide_eq_true_eq,beq_iff_eq] at h
 obtain ⟨⟨⟨⟨⟨⟨⟨⟨⟨h1,h2⟩,h3⟩,h4⟩,h5⟩,h6⟩,h7⟩,h8⟩,h9⟩,h10⟩:=h
 have hnd:ps.Nodup:=by rw [← h5];exact h4.sublist (List.take_sublist _ _)
 refine ⟨⟨h1,h2,h3,h4,h5,fun y hy=>by simpa using oml h6 y hy,fun y hy=>by simpa using oml h7 y hy⟩,h8,h9,tr,fun kV doc pm an cdv ct us hl=>?_⟩
 split at h10
 ·rename_i as ha
  rw [decide_eq_true_eq] at h10
  subst h10
  exact bind_plain ha rfl hnd hl
 ·cases h10
end Ev
end
end
noncomputable section
noncomputable section
namespace Ev.K04
open PySem
noncomputable def d_law_cell_at:Fd:=⟨2,2,[.ite (.cmp .lt (.var 1) (.blt .len (.var 0))) [.ret (.idx (.var 0) (.var 1))] [],
  .ret (.cst (.int 0))]⟩
noncomputable def d_law_mixed:Fd:=⟨2,3,[.asg 2 (.bin .mod (.bin .mul (.bin .add (.bin .add (.call "_law_cell_at" [.var 0,.var 1]) (.bin .mul (.cst (.int 7919)) (.var 1))) (.cst (.int 1))) (.cst (.int 48271))) (.cst (.int 2147483647))),
  .ret (.bin .mod (.bin .add (.bin .add (.bin .mul (.var 2) (.var 2)) (.bin .mul (.cst (.int 7)) (.var 2))) (.var 1)) (.cst (.int 2147483629)))]⟩
noncomputable def d_law_drawn:Fd:=⟨2,3,[.asg 2 (.bin .mod (.bin .mul (.bin .add (.bin .add (.var 0) (.bin .mul (.cst (.int 104729)) (.var 1))) (.cst (.int 17))) (.cst (.int 69621))) (.cst (.int 2147483647))),
  .ret (.bin .mod (.bin .add (.bin .add (.bin .mul (.var 2) (.var 2)) (.bin .mul (.cst (.int 3)) (.var 2))) (.var 1)) (.cst (.int 2147483629)))]⟩
noncomputable def d_law_test:Fd:=⟨3,9,[.asg 3 (.idx (.var 0) (.cst (.int 1))),
  .asg 4 (.idx (.var 3) (.bin .mod (.bin .fdiv (.var 1) (.cst (.int 8))) (.blt .len (.var 3)))),
  .asg 5 (.bin .mod (.var 1) (.cst (.int 8))),
  .ite (.land (.cmp .gt (.var 2) (.cst (.int 1))) (.cmp .gt (.var 5) (.cst (.int 4)))) [.asg 6 (.comp (.call "_law_test" [.var 1,.bin .fdiv (.call "_law_drawn" [.var 2,.var 0]) (.cst (.int 4)),.bin .sub (.var 3) (.cst (.int 1))]) 1 .plain [.tup [.cst (.int 1),.cst (.int 2)]] none),
  .ret (.idx (.lst [.tup [.cst (.str "not"),.idx (.var 6) (.cst (.int 0))],.tup [.cst (.str "and"),.idx (.var 6) (.cst (.int 0)),.idx (.var 6) (.cst (.int 1))],.tup [.cst (.str "or"),.idx (.var 6) (.cst (.int 0)),.idx (.var 6) (.cst (.int 1))]]) (.bin .sub (.var 5) (.cst (.int 5))))] [],
  .ite (.cmp .eq (.var 5) (.cst (.int 0))) [.ret (.tup [.cst (.str "empty"),.idx (.var 4) (.cst (.int 0))])] [],
  .asg 7 (.comp (.idx (.var 0) (.cst (.int 0))) 1 .plain [.var 3] (some (.cmp .eq (.idx (.var 0) (.cst (.int 1))) (.idx (.var 5) (.cst (.int 1)))))),
  .ite (.cmp .eq (.var 5) (.cst (.int 1))) [.ret (.tup [.cst (.str "below"),.idx (.var 4) (.cst (.int 0)),.idx (.var 7) (.bin .mod (.bin .fdiv (.var 1) (.cst (.int 64))) (.blt .len (.var 7)))])] [],
  .asg 8 (.idx (.lst [.tup [.cst (.int 0),.cst (.int 1),.cst (.int 2),.cst (.int 3),.neg (.cst (.int 5)),.cst (.int 999)],.tup [.cst (.str ""),.cst (.str "a"),.cst (.str "b"),.cst (.str "ab"),.cst (.str "x9"),.cst (.str "zzzzzz")]]) (.blt .toInt (.cmp .eq (.idx (.var 4) (.cst (.int 1))) (.cst (.str "text"))))),
  .ret (.tup [.cst (.str "is"),.idx (.var 4) (.cst (.int 0)),.idx (.var 8) (.bin .mod (.bin .fdiv (.var 1) (.cst (.int 64))) (.cst (.int 6)))])]⟩
noncomputable def d_law_bare:Fd:=⟨2,10,[.asg 2 (.tup [.cst (.str "whole"),.cst (.str "whole"),.cst (.str "text"),.cst (.str "whole"),.cst (.str "text"),.cst (.str "whole")]),
  .asg 3 (.lst [.tup [.cst (.str "id"),.idx (.var 2) (.bin .mod (.var 1) (.cst (.int 6))),.cst (.bl false)]]),
  .loop [4,5] .enum [.tup [.cst (.str "n"),.cst (.str "t"),.cst (.str "u")]] [.asg 6 (.bin .fdiv (.call "_law_drawn" [.var 1,.bin .add (.cst (.int 10)) (.var 4)]) (.cst (.int 4))),
  .ite (.cmp .gt (.bin .mod (.var 6) (.cst (.int 4))) (.cst (.int 0))) [.app 3 (.tup [.var 5,.idx (.var 2) (.bin .mod (.bin .fdiv (.var 6) (.cst (.int 4))) (.cst (.int 6))),.cmp .gt (.bin .mod (.bin .fdiv (.var 6) (.cst (.int 32))) (.cst (.int 3))) (.cst (.int 0))])] []],
  .asg 7 (.comp (.idx (.var 0) (.cst (.int 0))) 1 .plain [.var 3] (some (.lnot (.tru (.idx (.var 0) (.cst (.int 2))))))),
  .asg 8 (.tup [.cst (.str "id")]),
  .ite (.land (.cmp .eq (.bin .mod (.bin .fdiv (.var 1) (.cst (.int 8))) (.cst (.int 4))) (.cst (.int 0))) (.cmp .gt (.blt .len (.var 7)) (.cst (.int 1)))) [.asg 8 (.idx (.lst [.tup [.cst (.str "id"),.idx (.var 7) (.cst (.int 1))],.tup [.idx (.var 7) (.cst (.int 1)),.cst (.str "id")]]) (.bin .mod (.bin .fdiv (.var 1) (.cst (.int 32))) (.cst (.int 2))))] [],
  .asg 9 (.bin .mod (.bin .fdiv (.var 1) (.cst (.int 64))) (.blt .len (.var 3))),
  .ret (.tup [.var 0,.blt .toTuple (.bin .add (.sli (.var 3) (some (.var 9)) none) (.sli (.var 3) none (some (.var 9)))),.var 8,.tup []])]⟩
noncomputable def d_law_pairs:Fd:=⟨2,6,[.asg 2 (.lst [.tup []]),
  .loop [3] .plain [.var 1] [.asg 4 (.lst []),
  .loop [5] .plain [.var 2] [.asg 4 (.bin .add (.var 4) (.comp (.bin .add (.var 6) (.tup [.idx (.var 0) (.cst (.int 0))])) 1 .plain [.idx (.var 0) (.cst (.int 1))] (some (.land (.cmp .eq (.idx (.var 0) (.cst (.int 1))) (.var 4)) (.cmp .notin (.idx (.var 0) (.cst (.int 0))) (.var 6))))))],
  .asg 2 (.var 4)],
  .ret (.var 2)]⟩
noncomputable def d_law_rule:Fd:=⟨3,11,[.asg 3 (.idx (.var 0) (.bin .mod (.bin .fdiv (.var 2) (.cst (.int 8))) (.blt .len (.var 0)))),
  .asg 4 (.comp (.idx (.comp (.idx (.var 0) (.cst (.int 1))) 1 .plain [.idx (.var 4) (.cst (.int 1))] (some (.cmp .eq (.idx (.var 0) (.cst (.int 0))) (.var 1)))) (.cst (.int 0))) 1 .plain [.idx (.var 3) (.cst (.int 2))] none),
  .asg 5 (.call "_law_pairs" [.var 1,.var 4]),
  .ite (.land (.cmp .lt (.bin .mod (.var 2) (.cst (.int 8))) (.cst (.int 5))) (.cmp .ne (.var 5) (.lst []))) [.asg 6 (.idx (.var 5) (.bin .mod (.bin .fdiv (.var 2) (.cst (.int 64))) (.blt .len (.var 5)))),
  .asg 7 (.idx (.tup [.cst (.str "along"),.cst (.str "stop"),.cst (.str "late"),.cst (.str "gap"),.cst (.str "along"),.cst (.str "gap")]) (.bin .mod (.bin .fdiv (.var 2) (.cst (.int 1024))) (.cst (.int 6)))),
  .asg 8 (.comp (.var 0) 1 .plain [.idx (.var 1) (.cst (.int 1))] (some (.land (.cmp .isin (.idx (.var 0) (.cst (.int 0))) (.var 7)) (.lnot (.tru (.idx (.var 0) (.cst (.int 2)))))))),
  .ite (.land (.cmp .ne (.var 8) (.lst [])) (.cmp .eq (.var 7) (.cst (.str "gap")))) [.asg 7 (.cst (.str "late"))] [],
  .ret (.tup [.cst (.str "refers"),.var 6,.idx (.var 3) (.cst (.int 0)),.var 7])] [],
  .asg 9 (.comp (.idx (.var 0) (.cst (.int 0))) 1 .plain [.idx (.var 1) (.cst (.int 1))] none),
  .ite (.cmp .eq (.bin .mod (.var 2) (.cst (.int 8))) (.cst (.int 5))) [.asg 10 (.bin .mod (.bin .fdiv (.var 2) (.cst (.int 64))) (.blt .len (.var 9))),
  .ret (.tup [.cst (.str "unlike"),.sli (.bin .add (.sli (.var 9) (some (.var 10)) none) (.sli (.var 9) none (some (.var 10)))) none (some (.bin .add (.cst (.int 1)) (.bin .mod (.bin .fdiv (.var 2) (.cst (.int 1024))) (.cst (.int 2)))))])] [],
  .ret (.tup [.cst (.str "check"),.call "_law_test" [.var 1,.bin .fdiv (.var 2) (.cst (.int 64)),.bin .add (.cst (.int 1)) (.bin .mod (.bin .fdiv (.var 2) (.cst (.int 1024))) (.cst (.int 3)))]])]⟩
noncomputable def d_law_schema:Fd:=⟨1,11,[.asg 1 (.lst [.cst (.str "item"),.cst (.str "user"),.cst (.str "box"),.cst (.str "log")]),
  .asg 2 (.bin .mod (.var 0) (.cst (.int 4))),
  .asg 1 (.sli (.bin .add (.sli (.var 1) (some (.var 2)) none) (.sli (.var 1) none (some (.var 2)))) none (some (.idx (.tup [.cst (.int 2),.cst (.int 1),.cst (.int 3),.cst (.int 4),.cst (.int 2),.cst (.int 3)]) (.bin .mod (.bin .fdiv (.var 0) (.cst (.int 4))) (.cst (.int 6)))))),
  .asg 4 (.comp (.call "_law_bare" [.var 1,.bin .fdiv (.call "_law_drawn" [.var 2,.var 0]) (.cst (.int 4))]) 2 .enum [.var 1] none),
  .asg 5 (.tup []),
  .loop [3,6] .enum [.var 4] [.asg 7 (.bin .fdiv (.call "_law_drawn" [.var 0,.bin .add (.cst (.int 20)) (.var 3)]) (.cst (.int 4))),
  .asg 8 (.lst []),
  .loop [9] .range [.idx (.tup [.cst (.int 1),.cst (.int 2),.cst (.int 0),.cst (.int 1),.cst (.int 3)]) (.bin .mod (.var 7) (.cst (.int 5)))] [.app 8 (.call "_law_rule" [.var 4,.var 6,.bin .fdiv (.call "_law_drawn" [.var 7,.var 9]) (.cst (.int 4))])],
  .asg 10 (.blt .toTuple (.comp (.bin .add (.tup [.idx (.var 0) (.cst (.int 0)),.blt .toTuple (.idx (.var 0) (.cst (.int 1)))]) (.sli (.var 0) (some (.cst (.int 2))) none)) 1 .plain [.var 8] none)),
  .asg 5 (.bin .add (.var 5) (.tup [.bin .add (.sli (.var 6) none (some (.cst (.int 3)))) (.tup [.var 10])]))],
  .ret (.var 5)]⟩
theorem run_succ {P:Pr} {n:Nat} {f:Str} {D:Fd} {ts:List T} (h:P.fn f=some D) (hl:ts.length=D.np):run P (n+1) f ts=resultOf (evSs (glo P (run P n)) D.body (begin' D ts)):=by
 rw [run,h]
 simp [hl]
noncomputable def drawnI (a k:Int):Int:=((a+104729*k+17)*69621%2147483647*((a+104729*k+17)*69621%2147483647)+3*((a+104729*k+17)*69621%2147483647)+k)%2147483629
noncomputable def mixedI (a k:Int):Int:=((a+7919*k+1)*48271%2147483647*((a+7919*k+1)*48271%2147483647)+7*((a+7919*k+1)*48271%2147483647)+k)%2147483629
theorem small_lit {a:Int} (h0:0≤a) (h1:a<2147483647):small a=true:=by
 unfold small
 rw [decide_eq_true (by omega),decide_eq_true (by omega)]
 rfl
theorem small_mod (a:Int):small (a%2147483647)=true:=small_lit (Int.emod_nonneg _ (by decide)) (Int.emod_lt_of_pos _ (by decide))
theorem drawn_run {P:Pr} (h:P.fn "_law_drawn"=some d_law_drawn) (n:Nat) (a k:Int):run P (n+1) "_law_drawn" [.int a,.int k]=some (.int (drawnI a k)):=by
 rw [run_succ h rfl]
 simp [d_law_drawn,evSs,evS,evE,begin',view,frzAt,vars,Sl.get,Sl.frz,binT,addT,mulT,modT,slotOf,fresh,resultOf,glo,SZ,small_mod,small_lit,drawnI]
noncomputable def cellI (ns:List Int) (k:Nat):Int:=ns.getD k 0
theorem getI_nat {xs:List T} {k:Nat} {t:T} (h:xs[k]?=some t):getI xs (k:Int)=some t:=by
 have hk:k<xs.length:=(ome h).1
 unfold getI ixI
 rw [if_pos (by omega),if_pos (by omega)]
 simpa using h
theorem cell_run {P:Pr} (h:P.fn "_law_cell_at"=some d_law_cell_at) (n:Nat) (ns:List Int) (k:Nat):run P (n+1) "_law_cell_at" [.lst (ns.map .int),.int (k:Int)]=some (.int (cellI ns k)):=by
 rw [run_succ h rfl]
 by_cases hk:k<ns.length
 ·have e:getI (ns.map T.int) (k:Int)=some (.int (cellI ns k)):=getI_nat (by simp [cellI,hk])
  have hd:decide ((k:Int)<(ns.length:Int))=true:=decide_eq_true (by omega)
  simp [d_law_cell_at,evSs,evS,evE,begin',view,frzAt,vars,Sl.get,Sl.frz,resultOf,cmpT,idxT,bltT,glo,ltC,hk,e]
 ·have e:cellI ns k=0:=by simp [cellI,List.getD_eq_getElem?_getD,List.getElem?_eq_none (Nat.le_of_not_lt hk)]
  simp [d_law_cell_at,evSs,evS,evE,begin',view,frzAt,vars,Sl.get,Sl.frz,resultOf,cmpT,idxT,bltT,glo,ltC,hk,e]
theorem mixed_run {P:Pr} (hc:P.fn "_law_cell_at"=some d_law_cell_at) (h:P.fn "_law_mixed"=some d_law_mixed) (n:Nat) (ns:List Int) (k:Nat):run P (n+2) "_law_mixed" [.lst (ns.map .int),.int (k:Int)]=some (.int (mixedI (cellI ns k) k)):=by
 rw [run_succ h rfl]
 have e:=cell_run hc n ns k
 simp [d_law_mixed,evSs,evS,evE,evEs,begin',view,frzAt,vars,varsL,Sl.get,Sl.frz,binT,addT,mulT,modT,slotOf,fresh,resultOf,glo,SZ,small_mod,small_lit,mixedI,e]
structure Col where
 n:Str
 k:Str
 g:Bool
noncomputable def Col.t (c:Col):T:=.tup [.str c.n,.str c.k,.bl c.g]
noncomputable def kinds6:List Str:=["whole", "whole", "text", "whole", "text", "whole"]
noncomputable def kindAt (i:Int):Str:=kinds6.getD (i%6).toNat "whole"
theorem getI_mod {xs:List T} {m:Nat} (hm:xs.length=m) (h0:0<m) (i:Int):getI xs (i%(m:Int))=some (xs.getD (i%(m:Int)).toNat .non):=by
 have h1:0≤i%(m:Int):=Int.emod_nonneg _ (by omega)
 have h2:i%(m:Int)<(m:Int):=Int.emod_lt_of_pos _ (by omega)
 unfold getI ixI
 rw [if_pos h1,if_pos (by omega)]
 simp only [Option.bind_some,List.getD_eq_getElem?_getD]
 rw [List.getElem?_eq_getElem (by omega)]
 rfl
theorem getI_kinds (i:Int):getI [.str "whole",.str "whole",.str "text",.str "whole",.str "text",.str "whole"] (i%6)=some (.str (kindAt i)):=by
 have h1:0≤i%6:=Int.emod_nonneg _ (by decide)
 have h2:i%6<6:=Int.emod_lt_of_pos _ (by decide)
 have e:=getI_mod (xs:=[.str "whole",.str "whole",.str "text",.str "whole",.str "text",.str "whole"]) (m:=6) rfl (by decide) i
 have e':((6:Nat):Int)=6:=rfl
 rw [e'] at e
 rw [e,kindAt,kinds6]
 have:(i%6).toNat=0∨(i%6).toNat=1∨(i%6).toNat=2∨(i%6).toNat=3∨(i%6).toNat=4∨(i%6).toNat=5:=by omega
 rcases this with z | z | z | z | z | z<;>rw [z]<;>rfl
noncomputable def colAt (k j:Int) (nm:Str):List Col:=if 0<drawnI k (10+j)/4%4 then [⟨nm,kindAt (drawnI k (10+j)/4/4),decide (0<drawnI k (10+j)/4/32%3)⟩] else []
noncomputable def bareCols (k:Int):List Col:=[⟨"id",kindAt k,false⟩]++(colAt k 0 "n"++(colAt k 1 "t"++colAt k 2 "u"))
end Ev.K04
end
end
noncomputable section
noncomputable section
namespace Ev.K04
open PySem
theorem nx_of {G:Glo} {s:S} {ss:List S} {τ τ':List Sl} (h:evS G s τ=some (.nx τ')):evSs G (s::ss) τ=evSs G ss τ':=by rw [evSs,h];rfl
theorem rt_of {G:Glo} {s:S} {ss:List S} {τ:List Sl} {t:T} (h:evS G s τ=some (.rt t)):evSs G (s::ss) τ=some (.rt t):=by rw [evSs,h];rfl
theorem asg_p {G:Glo} {i:Nat} {e:E} {ss:List S} {τ τ':List Sl} {t:T} (h0:frzAt (vars e) τ=τ) (h1:evE G e (view τ)=some t) (h2:τ.set i (slotOf e t)=τ'):evSs G (.asg i e::ss) τ=evSs G ss τ':=nx_of (by rw [evS,h0,h1,← h2];rfl)
theorem ret_p {G:Glo} {e:E} {ss:List S} {τ:List Sl} {t:T} (h0:frzAt (vars e) τ=τ) (h1:evE G e (view τ)=some t):evSs G (.ret e::ss) τ=some (.rt t):=rt_of (by rw [evS,h0,h1];rfl)
theorem ite_n {G:Glo} {c:E} {a:List S} {ss:List S} {τ:List Sl} (h0:frzAt (vars c) τ=τ) (h1:evE G c (view τ)=some (.bl false)):evSs G (.ite c a []::ss) τ=evSs G ss τ:=nx_of (by rw [evS,h0,h1];rfl)
theorem ite_g {G:Glo} {c:E} {a b ss:List S} {τ:List Sl} {t:T} (h0:frzAt (vars c) τ=τ) (h1:evE G c (view τ)=some (.bl true)) (h2:evSs G a τ=some (.rt t)):evSs G (.ite c a b::ss) τ=some (.rt t):=rt_of (by rw [evS,h0,h1];exact h2)
theorem compM_map {α:Type} {enc:α→T} {f:T→Option (Option T)} (g:α→Option T):∀ {l:List α},(∀ a∈l,f (enc a)=some (g a))→compM f (l.map enc)=some (l.filterMap g)
 | [],_=>rfl
 | a::l,h=>by
  rw [List.map_cons,compM,h a List.mem_cons_self,compM_map g fun b hb=>h b (List.mem_cons_of_mem _ hb),List.filterMap_cons]
  cases g a<;>rfl
noncomputable def plainOf (cs:List Col):List Str:=cs.filterMap fun c=>if c.g then none else some c.n
noncomputable def keyOf (k:Int) (cs:List Col):List Str:=if k/8%4=0∧1<(plainOf cs).length then (if k/32%2=0 then ["id",(plainOf cs).getD 1 "id"] else [(plainOf cs).getD 1 "id", "id"]) else ["id"]
noncomputable def rotC {α:Type} (cs:List α) (b:Nat):List α:=cs.drop b++cs.take b
theorem colAt_len (k j:Int) (nm:Str):(colAt k j nm).length≤1:=by unfold colAt;split<;>simp
theorem bareCols_len (k:Int):1≤(bareCols k).length∧(bareCols k).length≤4:=by
 have h1:=colAt_len k 0 "n"
 have h2:=colAt_len k 1 "t"
 have h3:=colAt_len k 2 "u"
 unfold bareCols
 simp only [List.length_append,List.length_cons,List.length_nil]
 omega
theorem cut_from (xs:List T) (b:Nat) (h:b≤xs.length):cut xs (some (b:Int)) none=xs.drop b:=by
 unfold cut clip
 have e:min ((b:Int)).toNat xs.length=b:=by omega
 simp only [show ¬ ((b:Int)<0) by omega,if_false,e]
 rw [List.take_of_length_le]
 simp
theorem cut_to (xs:List T) (b:Nat) (h:b≤xs.length):cut xs none (some (b:Int))=xs.take b:=by
 unfold cut clip
 have e:min ((b:Int)).toNat xs.length=b:=by omega
 simp only [show ¬ ((b:Int)<0) by omega,if_false,e]
 simp
noncomputable def bareT (nm:Str) (cs:List Col) (key:List Str) (rules:List T):T:=.tup [.str nm,.tup (cs.map Col.t),.tup (key.map .str),.tup rules]
abbrev kd6:T:=.tup [.str "whole",.str "whole",.str "text",.str "whole",.str "text",.str "whole"]
noncomputable def bareLp:List S:=[.asg 6 (.bin .fdiv (.call "_law_drawn" [.var 1,.bin .add (.cst (.int 10)) (.var 4)]) (.cst (.int 4))),
  .ite (.cmp .gt (.bin .mod (.var 6) (.cst (.int 4))) (.cst (.int 0))) [.app 3 (.tup [.var 5,.idx (.var 2) (.bin .mod (.bin .fdiv (.var 6) (.cst (.int 4))) (.cst (.int 6))),.cmp .gt (.bin .mod (.bin .fdiv (.var 6) (.cst (.int 32))) (.cst (.int 3))) (.cst (.int 0))])] []]
theorem bare_step {G:Glo} {nm:T} {k j:Int} {x:Str} {cs:List Col} {s4 s5 s6:Sl} (e:G.call "_law_drawn" [.int k,.int (10+j)]=some (.int (drawnI k (10+j)))) (hl:cs.length≤10) :
  ((bndS [4,5] (.tup [.int j,.str x]) [.val nm,.val (.int k),.val kd6,.own (cs.map Col.t),s4,s5,s6,.no,.no,.no]).bind fun τ'=>evSs G bareLp τ') =
   some (.nx [.val nm,.val (.int k),.val kd6,.own ((cs++colAt k j x).map Col.t),.val (.int j),.val (.str x),.val (.int (drawnI k (10+j)/4)),.no,.no,.no]):=by
 show evSs G bareLp [.val nm,.val (.int k),.val kd6,.own (cs.map Col.t),.val (.int j),.val (.str x),s6,.no,.no,.no]=_
 generalize hq:drawnI k (10+j)=q at e
 refine (asg_p (t:=.int (q/4)) (τ':=[.val nm,.val (.int k),.val kd6,.own (cs.map Col.t),.val (.int j),.val (.str x),.val (.int (q/4)),.no,.no,.no]) rfl (by simp [evE,evEs,view,Sl.get,binT,addT,fdivT,e]) rfl).trans ?_
 unfold colAt
 rw [hq]
 have hc:evE G (.cmp .gt (.bin .mod (.var 6) (.cst (.int 4))) (.cst (.int 0))) (view [.val nm,.val (.int k),.val kd6,.own (cs.map Col.t),.val (.int j),.val (.str x),.val (.int (q/4)),.no,.no,.no])=some (.bl (decide (0<q/4%4))):=rfl
 by_cases h:0<q/4%4
 ·rw [if_pos h]
  have hz:(cs.map Col.t).length<16777216:=by rw [List.length_map];omega
  have e3:evE G (.tup [.var 5,.idx (.var 2) (.bin .mod (.bin .fdiv (.var 6) (.cst (.int 4))) (.cst (.int 6))),.cmp .gt (.bin .mod (.bin .fdiv (.var 6) (.cst (.int 32))) (.cst (.int 3))) (.cst (.int 0))]) (view [.val nm,.val (.int k),.val kd6,.own (cs.map Col.t),.val (.int j),.val (.str x),.val (.int (q/4)),.no,.no,.no])=some (Col.t ⟨x,kindAt (q/4/4),decide (0<q/4/32%3)⟩):=by
   simp [evE,evEs,view,Sl.get,binT,modT,fdivT,idxT,getI_kinds,cmpT,Col.t]
  have e4:evSs G [.app 3 (.tup [.var 5,.idx (.var 2) (.bin .mod (.bin .fdiv (.var 6) (.cst (.int 4))) (.cst (.int 6))),.cmp .gt (.bin .mod (.bin .fdiv (.var 6) (.cst (.int 32))) (.cst (.int 3))) (.cst (.int 0))])] [.val nm,.val (.int k),.val kd6,.own (cs.map Col.t),.val (.int j),.val (.str x),.val (.int (q/4)),.no,.no,.no]=some (.nx [.val nm,.val (.int k),.val kd6,.own ((cs++[(⟨x,kindAt (q/4/4),decide (0<q/4/32%3)⟩:Col)]).map Col.t),.val (.int j),.val (.str x),.val (.int (q/4)),.no,.no,.no]):=by
   refine (nx_of (τ':=[.val nm,.val (.int k),.val kd6,.own ((cs++[(⟨x,kindAt (q/4/4),decide (0<q/4/32%3)⟩:Col)]).map Col.t),.val (.int j),.val (.str x),.val (.int (q/4)),.no,.no,.no]) ?_).trans rfl
   rw [evS]
   refine Eq.trans (congrArg (fun o=>Option.bind o _) e3) ?_
   show (if (cs.map Col.t).length<SZ then _ else none)=_
   rw [if_pos hz,List.map_append]
   rfl
  exact (nx_of (τ':=[.val nm,.val (.int k),.val kd6,.own ((cs++[(⟨x,kindAt (q/4/4),decide (0<q/4/32%3)⟩:Col)]).map Col.t),.val (.int j),.val (.str x),.val (.int (q/4)),.no,.no,.no]) (by
   rw [evS]
   refine Eq.trans (congrArg (fun o=>Option.bind o _) (hc.trans (by rw [decide_eq_true h]))) ?_
   exact e4)).trans rfl
 ·rw [if_neg h,List.append_nil]
  exact (ite_n rfl (hc.trans (by rw [decide_eq_false h]))).trans rfl
theorem bare_loop {P:Pr} (hd:P.fn "_law_drawn"=some d_law_drawn) (n:Nat) (nm:T) (k:Int) :
  ∃ a b c,loopM (fun x τ=>(bndS [4,5] x τ).bind fun τ'=>evSs (glo P (run P (n+1))) bareLp τ')
   [.tup [.int 0,.str "n"],.tup [.int 1,.str "t"],.tup [.int 2,.str "u"]]
   [.val nm,.val (.int k),.val kd6,.own [Col.t ⟨"id",kindAt k,false⟩],.no,.no,.no,.no,.no,.no] =
   some (.nx [.val nm,.val (.int k),.val kd6,.own ((bareCols k).map Col.t),.val a,.val b,.val c,.no,.no,.no]):=by
 have c0:=colAt_len k 0 "n"
 have c1:=colAt_len k 1 "t"
 have st:=fun (j:Int) (x:Str) (cs:List Col) (s4 s5 s6:Sl) (hl:cs.length≤10)=>bare_step (G:=glo P (run P (n+1))) (nm:=nm) (k:=k) (j:=j) (x:=x) (cs:=cs) (s4:=s4) (s5:=s5) (s6:=s6) (drawn_run hd n k (10+j)) hl
 refine ⟨.int 2,.str "u",.int (drawnI k (10+2)/4),?_⟩
 rw [loopM,show [Col.t ⟨"id",kindAt k,false⟩]=([⟨"id",kindAt k,false⟩]:List Col).map Col.t from rfl,st 0 "n" _ _ _ _ (by simp)]
 dsimp only [Option.bind_some]
 rw [loopM,st 1 "t" _ _ _ _ (by simp;omega)]
 dsimp only [Option.bind_some]
 rw [loopM,st 2 "u" _ _ _ _ (by simp;omega)]
 dsimp only [Option.bind_some]
 rw [loopM,bareCols,List.append_assoc,List.append_assoc]
end Ev.K04
end
end
noncomputable section
noncomputable section
namespace Ev.K04
open PySem
theorem plain_map (cs:List Col):(cs.filterMap fun c=>if c.g then none else some (T.str c.n))=(plainOf cs).map T.str:=by
 unfold plainOf
 induction cs with
 | nil=>rfl
 | cons c cs ih=>simp only [List.filterMap_cons];cases c.g<;>simp [ih]
theorem getI0 (a:T) (r:List T):getI (a::r) 0=some a:=by simp [getI,ixI]
theorem getI1 (a b:T) (r:List T):getI (a::b::r) 1=some b:=by
 have:=getI_nat (xs:=a::b::r) (k:=1) (t:=b) rfl
 exact this
theorem getI2 (a b c:T) (r:List T):getI (a::b::c::r) 2=some c:=by
 have:=getI_nat (xs:=a::b::c::r) (k:=2) (t:=c) rfl
 exact this
theorem two_mod (i:Int):i%2=0∨i%2=1:=by omega
theorem asg_q {G:Glo} {i:Nat} {e:E} {ss:List S} {τ τ0 τ':List Sl} {t:T} (h0:frzAt (vars e) τ=τ0) (h1:evE G e (view τ0)=some t) (h2:τ0.set i (slotOf e t)=τ'):evSs G (.asg i e::ss) τ=evSs G ss τ':=nx_of (by rw [evS,h0,h1,← h2];rfl)
noncomputable def bareT2:List S:=d_law_bare.body.drop 3
section
variable {G:Glo} {nm CL KT PL:T} {k:Int} {s4 s5 s6:Sl} {l p:Nat}
theorem bare_tail {by_:Nat} {cs:List T} {id1:Str} {key:List Str} (hcs:CL=.lst cs) (hl:0<cs.length) (hz:cs.length≤1000) (hb:k/64%(cs.length:Int)=(by_:Int)) (hbl:by_≤cs.length)
  (lp:bltT .len PL=some (.int (p:Int))) (ip:1<p→idxT PL (.int 1)=some (.str id1)) (hk:key=if k/8%4=0∧1<p then (if k/32%2=0 then ([("id":Str),id1]:List Str) else ([id1, "id"]:List Str)) else (["id"]:List Str)) :
  evSs G (bareT2.drop 1) [.val nm,.val (.int k),.val KT,.val CL,s4,s5,s6,.val PL,.no,.no]=some (.rt (.tup [nm,.tup (cs.drop by_++cs.take by_),.tup (key.map .str),.tup []])):=by
 refine (asg_p (t:=.tup [.str "id"]) (τ':=[.val nm,.val (.int k),.val KT,.val CL,s4,s5,s6,.val PL,.val (.tup [.str "id"]),.no]) rfl (by simp [evE,evEs]) rfl).trans ?_
 have hc:evE G (.land (.cmp .eq (.bin .mod (.bin .fdiv (.var 1) (.cst (.int 8))) (.cst (.int 4))) (.cst (.int 0))) (.cmp .gt (.blt .len (.var 7)) (.cst (.int 1)))) (view [.val nm,.val (.int k),.val KT,.val CL,s4,s5,s6,.val PL,.val (.tup [.str "id"]),.no])=some (.bl (decide (k/8%4=0∧1<p))):=by
  have e1:evE G (.cmp .eq (.bin .mod (.bin .fdiv (.var 1) (.cst (.int 8))) (.cst (.int 4))) (.cst (.int 0))) (view [.val nm,.val (.int k),.val KT,.val CL,s4,s5,s6,.val PL,.val (.tup [.str "id"]),.no])=some (.bl (k/8%4==0)):=rfl
  rw [evE,e1]
  by_cases h1:k/8%4=0
  ·rw [show (k/8%4==0)=true by simpa using h1]
   simp [evE,view,Sl.get,lp,cmpT,h1]
   omega
  ·rw [show (k/8%4==0)=false by simpa using h1]
   simp [h1]
 have mid:evSs G (bareT2.drop 2) [.val nm,.val (.int k),.val KT,.val CL,s4,s5,s6,.val PL,.val (.tup [.str "id"]),.no]=evSs G (bareT2.drop 3) [.val nm,.val (.int k),.val KT,.val CL,s4,s5,s6,.val PL,.val (.tup (key.map .str)),.no]:=by
  by_cases h:k/8%4=0∧1<p
  ·rw [if_pos h] at hk
   have i1:=ip h.2
   have e8:evE G (.idx (.lst [.tup [.cst (.str "id"),.idx (.var 7) (.cst (.int 1))],.tup [.idx (.var 7) (.cst (.int 1)),.cst (.str "id")]]) (.bin .mod (.bin .fdiv (.var 1) (.cst (.int 32))) (.cst (.int 2)))) (view [.val nm,.val (.int k),.val KT,.val CL,s4,s5,s6,.val PL,.val (.tup [.str "id"]),.no])=getI [.tup [.str "id",.str id1],.tup [.str id1,.str "id"]] (k/32%2):=by
    have il:∀ l i,idxT (.lst l) (.int i)=getI l i:=fun _ _=>rfl
    simp [evE,evEs,view,Sl.get,i1,binT,modT,fdivT,il]
   refine nx_of ?_
   rw [evS]
   refine Eq.trans (congrArg (fun o=>Option.bind o _) (hc.trans (by rw [decide_eq_true h]))) ?_
   refine (asg_p (t:=.tup (key.map .str)) rfl (e8.trans ?_) rfl).trans rfl
   rw [hk]
   rcases two_mod (k/32) with z | z
   ·rw [z,if_pos rfl];exact getI0 _ _
   ·rw [z,if_neg (by decide)];exact getI1 _ _ _
  ·rw [if_neg h] at hk
   subst hk
   exact ite_n rfl (hc.trans (by rw [decide_eq_false h]))
 refine (show evSs G (bareT2.drop 2) _=_ from mid).trans ?_
 subst hcs
 refine (asg_p (t:=.int (by_:Int)) (τ':=[.val nm,.val (.int k),.val KT,.val (.lst cs),s4,s5,s6,.val PL,.val (.tup (key.map .str)),.val (.int (by_:Int))]) rfl (by
  have lc:bltT .len (.lst cs)=some (.int (cs.length:Int)):=rfl
  simp [evE,view,Sl.get,lc,binT,modT,fdivT,hl,hb]) rfl).trans (ret_p rfl ?_)
 have hz1:cs.length-by_+min by_ cs.length≤16777216:=by omega
 simp [evE,evEs,evO,view,Sl.get,asI,sliT,cut_from _ _ hbl,cut_to _ _ hbl,binT,addT,SZ,hz1,bltT]
end
theorem bare_run {P:Pr} (hd:P.fn "_law_drawn"=some d_law_drawn) (hb:P.fn "_law_bare"=some d_law_bare) (n:Nat) (nm:Str) (k:Int) :
  run P (n+2) "_law_bare" [.str nm,.int k]=some (bareT nm (rotC (bareCols k) (k/64%((bareCols k).length:Int)).toNat) (keyOf k (bareCols k)) []):=by
 rw [run_succ hb rfl]
 obtain ⟨a,b,c,el⟩:=bare_loop hd n (.str nm) k
 show resultOf (evSs (glo P (run P (n+1))) d_law_bare.body [.val (.str nm),.val (.int k),.no,.no,.no,.no,.no,.no,.no,.no])=_
 generalize glo P (run P (n+1))=G at *
 have hlen:=bareCols_len k
 have hm0:0≤k/64%((bareCols k).length:Int):=Int.emod_nonneg _ (by omega)
 have hm1:k/64%((bareCols k).length:Int)<((bareCols k).length:Int):=Int.emod_lt_of_pos _ (by omega)
 generalize hby:(k/64%((bareCols k).length:Int)).toNat=by_ at *
 have hbi:k/64%((bareCols k).length:Int)=(by_:Int):=by omega
 generalize hC:bareCols k=cs at *
 have hbl:by_≤cs.length:=by rw [hbi] at hm1;omega
 have p1:evSs G d_law_bare.body [.val (.str nm),.val (.int k),.no,.no,.no,.no,.no,.no,.no,.no]=evSs G (d_law_bare.body.drop 2) [.val (.str nm),.val (.int k),.val kd6,.own [Col.t ⟨"id",kindAt k,false⟩],.no,.no,.no,.no,.no,.no] :=
  (asg_p (t:=kd6) (τ':=[.val (.str nm),.val (.int k),.val kd6,.no,.no,.no,.no,.no,.no,.no]) rfl (by simp [evE,evEs,kd6]) rfl).trans (asg_p (t:=.lst [Col.t ⟨"id",kindAt k,false⟩]) rfl (by simp [evE,evEs,view,Sl.get,kd6,binT,modT,idxT,getI_kinds,Col.t]) rfl)
 have p2:evSs G (d_law_bare.body.drop 2) [.val (.str nm),.val (.int k),.val kd6,.own [Col.t ⟨"id",kindAt k,false⟩],.no,.no,.no,.no,.no,.no]=evSs G bareT2 [.val (.str nm),.val (.int k),.val kd6,.own (cs.map Col.t),.val a,.val b,.val c,.no,.no,.no]:=nx_of (by
  rw [evS]
  simp only [varsL,vars,List.append_nil,frzAt,evEs,evE,List.length_cons,List.length_nil]
  simp only [Nat.reduceAdd,Nat.reduceLeDiff,if_true,Option.map_some,Option.bind_some,items,enumT]
  exact el)
 have e7:evE G (.comp (.idx (.var 0) (.cst (.int 0))) 1 .plain [.var 3] (some (.lnot (.tru (.idx (.var 0) (.cst (.int 2))))))) (view [.val (.str nm),.val (.int k),.val kd6,.val (.lst (cs.map Col.t)),.val a,.val b,.val c,.no,.no,.no])=some (.lst ((plainOf cs).map .str)):=by
  have hz':cs.length≤16777216:=by omega
  simp [evE,evEs,evO,view,Sl.get,items,itemsC,bnd,SZ,hz']
  rw [compM_map (enc:=Col.t) (fun c=>if c.g then none else some (T.str c.n)) (fun c _=>by cases hg:c.g<;>simp [Col.t,hg,idxT,getI0,getI2,truT]),plain_map]
 have p3:evSs G bareT2 [.val (.str nm),.val (.int k),.val kd6,.own (cs.map Col.t),.val a,.val b,.val c,.no,.no,.no]=evSs G (bareT2.drop 1) [.val (.str nm),.val (.int k),.val kd6,.val (.lst (cs.map Col.t)),.val a,.val b,.val c,.val (.lst ((plainOf cs).map .str)),.no,.no]:=asg_q rfl e7 rfl
 rw [p1,p2,p3]
 have hk:=bare_tail (G:=G) (nm:=.str nm) (KT:=kd6) (CL:=.lst (cs.map Col.t)) (cs:=cs.map Col.t) (PL:=.lst ((plainOf cs).map .str)) (k:=k) (s4:=.val a) (s5:=.val b) (s6:=.val c) (p:=(plainOf cs).length) (by_:=by_) (id1:=(plainOf cs).getD 1 "id") (key:=keyOf k cs) rfl (by rw [List.length_map];omega) (by rw [List.length_map];omega) (by rw [List.length_map];exact hbi) (by rw [List.length_map];exact hbl) (by simp [bltT]) (fun h2=>getI_nat (xs:=(plainOf cs).map T.str) (k:=1) (by rw [List.getElem?_map,List.getElem?_eq_getElem h2,List.getD_eq_getElem?_getD,List.getElem?_eq_getElem h2];rfl)) rfl
 rw [hk,bareT,rotC,List.map_append,List.map_drop,List.map_take]
 rfl
end Ev.K04
end
end
noncomputable section
noncomputable section
namespace Ev.K04
open PySem
theorem loopM_from {α:Type} {enc:α→T} {f:T→List Sl→Option Out} (I:List α→List Sl→Prop):∀ (l done:List α) (τ:List Sl),I done τ →
  (∀ l1 a l2,l=l1++a::l2→∀ τ,I (done++l1) τ→∃ τ',f (enc a) τ=some (.nx τ')∧I (done++l1++[a]) τ')→∃ τ',loopM f (l.map enc) τ=some (.nx τ')∧I (done++l) τ'
 | [],done,τ,h,_=>⟨τ,rfl,by rw [List.append_nil];exact h⟩
 | a::l,done,τ,h,hs=>by
  obtain ⟨τ1,e1,h1⟩:=hs [] a l rfl τ (by rw [List.append_nil];exact h)
  rw [List.append_nil] at h1
  obtain ⟨τ2,e2,h2⟩:=loopM_from I l (done++[a]) τ1 h1 fun l1 b l2 e τ hd=>by
   have:=hs (a::l1) b l2 (by rw [e];rfl) τ (by simpa using hd)
   simpa using this
  refine ⟨τ2,?_,by rw [List.append_assoc] at h2;exact h2⟩
  rw [List.map_cons,loopM,e1]
  exact e2
theorem loopM_inv {α:Type} {enc:α→T} {f:T→List Sl→Option Out} (I:List α→List Sl→Prop) (l:List α) (τ:List Sl) (h:I [] τ)
  (hs:∀ l1 a l2,l=l1++a::l2→∀ τ,I l1 τ→∃ τ',f (enc a) τ=some (.nx τ')∧I (l1++[a]) τ'):∃ τ',loopM f (l.map enc) τ=some (.nx τ')∧I l τ':=by
 have:=loopM_from I l [] τ h fun l1 a l2 e τ hd=>by
  have:=hs l1 a l2 e τ (by simpa using hd)
  simpa using this
 simpa using this
theorem getI_mem {α:Type} {enc:α→T} {cs:List α} (h:cs≠[]) (i:Int):∃ c∈cs,getI (cs.map enc) (i%(cs.length:Int))=some (enc c):=by
 have hl:0<cs.length:=by cases cs with | nil=>exact absurd rfl h | cons _ _=>simp
 have h1:0≤i%(cs.length:Int):=Int.emod_nonneg _ (by omega)
 have h2:i%(cs.length:Int)<(cs.length:Int):=Int.emod_lt_of_pos _ (by omega)
 obtain ⟨j,hj⟩:∃ j:Nat,i%(cs.length:Int)=(j:Int):=⟨(i%(cs.length:Int)).toNat,by omega⟩
 rw [hj] at h2 ⊢
 have hj':j<cs.length:=by omega
 refine ⟨cs[j],List.getElem_mem _,getI_nat ?_⟩
 rw [List.getElem?_map,List.getElem?_eq_getElem hj']
 rfl
inductive Tst where
 | emp (c:Str) | bel (a b:Str) | isI (c:Str) (i:Int) | isS (c x:Str) | neg (t:Tst) | cnj (a b:Tst) | dsj (a b:Tst)
noncomputable def Tst.t:Tst→T
 | .emp c=>.tup [.str "empty",.str c]
 | .bel a b=>.tup [.str "below",.str a,.str b]
 | .isI c i=>.tup [.str "is",.str c,.int i]
 | .isS c x=>.tup [.str "is",.str c,.str x]
 | .neg t=>.tup [.str "not",t.t]
 | .cnj a b=>.tup [.str "and",a.t,b.t]
 | .dsj a b=>.tup [.str "or",a.t,b.t]
noncomputable def worthI:List Int:=[0,1,2,3,-5,999]
noncomputable def Tst.ok:Nat→Tst→Prop
 | d,.emp c=>1≤d∧c.length≤6
 | d,.bel a b=>1≤d∧a.length≤6∧b.length≤6
 | d,.isI c i=>1≤d∧c.length≤6 ∧ -1000<i∧i<1000∧i∈worthI
 | d,.isS c x=>1≤d∧c.length≤6∧x.length≤6∧ascii x=true
 | d+1,.neg t=>t.ok d
 | d+1,.cnj a b=>a.ok d∧b.ok d
 | d+1,.dsj a b=>a.ok d∧b.ok d
 | 0,_=>False
noncomputable def Tst.inn (cs:List Col):Tst→Prop
 | .emp c=>∃ o∈cs,o.n=c
 | .bel a b=>∃ o∈cs,∃ p∈cs,o.n=a∧p.n=b∧o.k=p.k
 | .isI c _=>∃ o∈cs,o.n=c∧(o.k==("text":Str))=false
 | .isS c _=>∃ o∈cs,o.n=c∧(o.k==("text":Str))=true
 | .neg t=>t.inn cs
 | .cnj a b=>a.inn cs∧b.inn cs
 | .dsj a b=>a.inn cs∧b.inn cs
noncomputable def Sh (x:Str):Prop:=x.length≤6∧ascii x=true
noncomputable def ColsOk (cs:List Col):Prop:=cs≠[]∧cs.length≤4∧∀ c∈cs,Sh c.n∧c.k.length≤6
noncomputable def worthS:List Str:=["", "a", "b", "ab", "x9", "zzzzzz"]
theorem worthS_asc:∀ x∈worthS,ascii x=true:=by decide +kernel
theorem worthS_len:∀ x∈worthS,x.length≤6:=by decide +kernel
theorem worthI_mem:∀ i∈worthI,-1000<i∧i<1000:=by decide
theorem getI_worthI (k:Int):∃ i∈worthI,getI [.int 0,.int 1,.int 2,.int 3,.int (-5),.int 999] (k%6)=some (.int i):=by
 obtain ⟨c,hc,e⟩:=getI_mem (enc:=T.int) (cs:=worthI) (by simp [worthI]) k
 exact ⟨c,hc,e⟩
theorem getI_worthS (k:Int):∃ x∈worthS,getI [.str "",.str "a",.str "b",.str "ab",.str "x9",.str "zzzzzz"] (k%6)=some (.str x):=by
 obtain ⟨c,hc,e⟩:=getI_mem (enc:=T.str) (cs:=worthS) (by simp [worthS]) k
 exact ⟨c,hc,e⟩
noncomputable def alike (cs:List Col) (c:Col):List Str:=cs.filterMap fun o=>if o.k==c.k then some o.n else none
theorem alike_map (cs:List Col) (c:Col):(cs.filterMap fun o=>if o.k==c.k then some (T.str o.n) else none)=(alike cs c).map T.str:=by
 unfold alike
 induction cs with
 | nil=>rfl
 | cons o cs ih=>simp only [List.filterMap_cons];split<;>simp_all
theorem alike_mem {cs:List Col} {c:Col} {x:Str} (h:x∈alike cs c):∃ o∈cs,o.n=x∧o.k=c.k:=by
 unfold alike at h
 obtain ⟨o,ho,e⟩:=List.mem_filterMap.mp h
 split at e
 ·rename_i hk;cases e;exact ⟨o,ho,rfl,eq_of_beq hk⟩
 ·cases e
theorem alike_ne {cs:List Col} {c:Col} (h:c∈cs):alike cs c≠[]:=by
 intro e
 have:c.n∈alike cs c:=List.mem_filterMap.mpr ⟨c,h,by simp⟩
 rw [e] at this
 cases this
end Ev.K04
end
end
noncomputable section
noncomputable section
namespace Ev.K04
open PySem
noncomputable def tabT (nm:T) (cs:List Col) (key rules:T):T:=.tup [nm,.tup (cs.map Col.t),key,rules]
noncomputable def teB:List S:=d_law_test.body.drop 3
noncomputable def teC:List S:=d_law_test.body.drop 4
theorem te_eq {G:Glo} {k j:Int} {s0 s1 s2 s3 s4 s6 s7 s8:Sl}:evE G (.cmp .eq (.var 5) (.cst (.int j))) (view [s0,s1,s2,s3,s4,.val (.int k),s6,s7,s8])=some (.bl (k==j)):=rfl
theorem te_nm {G:Glo} {c:Col} {s0 s1 s2 s3 s5 s6 s7 s8:Sl}:evE G (.idx (.var 4) (.cst (.int 0))) (view [s0,s1,s2,s3,.val c.t,s5,s6,s7,s8])=some (.str c.n):=by simp [evE,view,Sl.get,Col.t,idxT,getI0]
theorem test_tail {G:Glo} {cs:List Col} (hc:ColsOk cs) {c:Col} (hm:c∈cs) (TB:T) (k d:Int) :
  ∃ t:Tst,evSs G teC [.val TB,.val (.int k),.val (.int d),.val (.tup (cs.map Col.t)),.val c.t,.val (.int (k%8)),.no,.no,.no]=some (.rt t.t)∧(∀ n,t.ok (n+1))∧t.inn cs:=by
 have hl:cs.length≤16777216:=by have:=hc.2.1;omega
 have hcm:=hc.2.2 c hm
 by_cases h0:k%8=0
 ·exact ⟨.emp c.n,ite_g rfl (te_eq.trans (by rw [h0];rfl)) (ret_p rfl (by rw [evE,evEs,evEs,te_nm];rfl)),fun n=>⟨by omega,hcm.1.1⟩,c,hm,rfl⟩
 ·have e7:evE G (.comp (.idx (.var 0) (.cst (.int 0))) 1 .plain [.var 3] (some (.cmp .eq (.idx (.var 0) (.cst (.int 1))) (.idx (.var 5) (.cst (.int 1)))))) (view [.val TB,.val (.int k),.val (.int d),.val (.tup (cs.map Col.t)),.val c.t,.val (.int (k%8)),.no,.no,.no])=some (.lst ((alike cs c).map .str)):=by
   simp [evE,evEs,evO,view,Sl.get,cmpT,idxT,items,itemsC,bnd,SZ,hl]
   rw [compM_map (enc:=Col.t) (fun o=>if o.k==c.k then some (T.str o.n) else none) (fun o _=>by
    cases hk:(o.k==c.k)<;>simp [Col.t,getI0,getI1,eqC,dpP,eqT,hk]),alike_map]
  have pre:evSs G teC [.val TB,.val (.int k),.val (.int d),.val (.tup (cs.map Col.t)),.val c.t,.val (.int (k%8)),.no,.no,.no]=evSs G (teC.drop 2) [.val TB,.val (.int k),.val (.int d),.val (.tup (cs.map Col.t)),.val c.t,.val (.int (k%8)),.no,.val (.lst ((alike cs c).map .str)),.no] :=
   (ite_n rfl (te_eq.trans (by rw [show (k%8==0)=false by simpa using h0]))).trans (asg_p rfl e7 rfl)
  rw [pre]
  generalize T.tup (cs.map Col.t)=CT
  by_cases h1:k%8=1
  ·obtain ⟨x,hx,e⟩:=getI_mem (enc:=T.str) (alike_ne hm) (k/64)
   have hp:0<(alike cs c).length:=by
    have:=alike_ne hm
    cases q:alike cs c with
    | nil=>exact absurd q this
    | cons _ _=>simp
   obtain ⟨o,ho,rfl,hk⟩:=alike_mem hx
   refine ⟨.bel c.n o.n,ite_g rfl (te_eq.trans (by rw [h1];rfl)) (ret_p rfl ?_),fun n=>⟨by omega,hcm.1.1,(hc.2.2 o ho).1.1⟩,c,hm,o,ho,rfl,rfl,hk.symm⟩
   have e':evE G (.idx (.var 7) (.bin .mod (.bin .fdiv (.var 1) (.cst (.int 64))) (.blt .len (.var 7)))) (view [.val TB,.val (.int k),.val (.int d),.val CT,.val c.t,.val (.int (k%8)),.no,.val (.lst ((alike cs c).map .str)),.no])=some (.str o.n):=by
    simp [evE,view,Sl.get,bltT,binT,modT,fdivT,hp,idxT,e]
   rw [evE,evEs,evEs,evEs,te_nm,e']
   rfl
  ·have pre2:evSs G (teC.drop 2) [.val TB,.val (.int k),.val (.int d),.val CT,.val c.t,.val (.int (k%8)),.no,.val (.lst ((alike cs c).map .str)),.no]=evSs G (teC.drop 3) [.val TB,.val (.int k),.val (.int d),.val CT,.val c.t,.val (.int (k%8)),.no,.val (.lst ((alike cs c).map .str)),.no]:=ite_n rfl (te_eq.trans (by rw [show (k%8==1)=false by simpa using h1]))
   rw [pre2]
   generalize T.lst ((alike cs c).map T.str)=AL
   obtain ⟨i,hi,ei⟩:=getI_worthI (k/64)
   obtain ⟨x,hx,ex⟩:=getI_worthS (k/64)
   cases ht:(c.k==("text":Str)) with
   | true =>
    refine ⟨.isS c.n x,(asg_p (t:=.tup [.str "",.str "a",.str "b",.str "ab",.str "x9",.str "zzzzzz"]) (τ':=[.val TB,.val (.int k),.val (.int d),.val CT,.val c.t,.val (.int (k%8)),.no,.val AL,.val (.tup [.str "",.str "a",.str "b",.str "ab",.str "x9",.str "zzzzzz"])]) rfl (by simp [evE,evEs,view,Sl.get,Col.t,idxT,getI1,cmpT,eqC,dpP,eqT,ht,bltT]) rfl).trans (ret_p rfl ?_),fun n=>⟨by omega,hcm.1.1,worthS_len x hx,worthS_asc x hx⟩,c,hm,rfl,ht⟩
    rw [evE,evEs,evEs,evEs,te_nm]
    simp [evE,evEs,view,Sl.get,binT,modT,fdivT,idxT,ex,Tst.t]
   | false =>
    refine ⟨.isI c.n i,(asg_p (t:=.tup [.int 0,.int 1,.int 2,.int 3,.int (-5),.int 999]) (τ':=[.val TB,.val (.int k),.val (.int d),.val CT,.val c.t,.val (.int (k%8)),.no,.val AL,.val (.tup [.int 0,.int 1,.int 2,.int 3,.int (-5),.int 999])]) rfl (by simp [evE,evEs,view,Sl.get,Col.t,idxT,getI0,getI1,cmpT,eqC,dpP,eqT,ht,bltT]) rfl).trans (ret_p rfl ?_),fun n=>⟨by omega,hcm.1.1,(worthI_mem i hi).1,(worthI_mem i hi).2,hi⟩,c,hm,rfl,ht⟩
    rw [evE,evEs,evEs,evEs,te_nm]
    simp [evE,evEs,view,Sl.get,binT,modT,fdivT,idxT,ei,Tst.t]
theorem test_pre {G:Glo} {TB CT ct:T} {k D:Int} {l:Nat} (i1:idxT TB (.int 1)=some CT) (l1:bltT .len CT=some (.int (l:Int))) (hp:0<l) (i2:idxT CT (.int (k/8%(l:Int)))=some ct) :
  evSs G d_law_test.body [.val TB,.val (.int k),.val (.int D),.no,.no,.no,.no,.no,.no]=evSs G teB [.val TB,.val (.int k),.val (.int D),.val CT,.val ct,.val (.int (k%8)),.no,.no,.no] :=
 (asg_p (t:=CT) (τ':=[.val TB,.val (.int k),.val (.int D),.val CT,.no,.no,.no,.no,.no]) rfl (by simp [evE,view,Sl.get,i1]) rfl).trans ((asg_p (t:=ct) (τ':=[.val TB,.val (.int k),.val (.int D),.val CT,.val ct,.no,.no,.no,.no]) rfl (by simp [evE,view,Sl.get,l1,binT,modT,fdivT,hp,i2]) rfl).trans (asg_p (t:=.int (k%8)) rfl (by simp [evE,view,Sl.get,binT,modT]) rfl))
theorem te_two {G:Glo} {k D:Int} {s0 s3 s4 s6 s7 s8:Sl}:evE G (.land (.cmp .gt (.var 2) (.cst (.int 1))) (.cmp .gt (.var 5) (.cst (.int 4)))) (view [s0,.val (.int k),.val (.int D),s3,s4,.val (.int (k%8)),s6,s7,s8])=some (.bl (decide (1<D)&&decide (4<k%8))):=by
 cases h1:decide (1<D)<;>simp [evE,view,Sl.get,cmpT,h1]
theorem test_run {P:Pr} (hd:P.fn "_law_drawn"=some d_law_drawn) (ht:P.fn "_law_test"=some d_law_test) {cs:List Col} (hc:ColsOk cs) (nm key rules:T) :
  ∀ (d:Nat) (n:Nat) (k:Int),∃ t:Tst,run P (n+d+2) "_law_test" [tabT nm cs key rules,.int k,.int ((d+1:Nat):Int)]=some t.t∧t.ok (d+1)∧t.inn cs:=by
 have i1:idxT (tabT nm cs key rules) (.int 1)=some (.tup (cs.map Col.t)):=by simp [tabT,idxT,getI1]
 have l1:bltT .len (.tup (cs.map Col.t))=some (.int (cs.length:Int)):=by simp [bltT]
 have hp:0<cs.length:=by cases cs with | nil=>exact absurd rfl hc.1 | cons _ _=>simp
 have i2:∀ k:Int,∃ c∈cs,idxT (.tup (cs.map Col.t)) (.int (k/8%(cs.length:Int)))=some c.t:=fun k=>by
  obtain ⟨c,hm,ec⟩:=getI_mem (enc:=Col.t) hc.1 (k/8)
  exact ⟨c,hm,ec⟩
 intro d
 induction d with
 | zero =>
  intro n k
  rw [run_succ ht rfl]
  show ∃ t:Tst,resultOf (evSs (glo P (run P (n+1))) d_law_test.body [.val (tabT nm cs key rules),.val (.int k),.val (.int 1),.no,.no,.no,.no,.no,.no])=_∧_
  obtain ⟨c,hm,ec⟩:=i2 k
  obtain ⟨t,e,h,hin⟩:=test_tail (G:=glo P (run P (n+1))) hc hm (tabT nm cs key rules) k 1
  refine ⟨t,?_,h 0,hin⟩
  rw [test_pre i1 l1 hp ec]
  exact congrArg resultOf ((ite_n rfl (te_two.trans rfl)).trans e)
 | succ d ih =>
  intro n k
  rw [show n+(d+1)+2=(n+d+2)+1 by omega,run_succ ht rfl]
  obtain ⟨c,hm,ec⟩:=i2 k
  have e1:(glo P (run P (n+d+2))).call "_law_drawn" [.int k,.int 1]=_:=drawn_run hd (n+d+1) k 1
  have e2:(glo P (run P (n+d+2))).call "_law_drawn" [.int k,.int 2]=_:=drawn_run hd (n+d+1) k 2
  obtain ⟨t1,r1,o1,n1⟩:=ih n (drawnI k 1/4)
  obtain ⟨t2,r2,o2,n2⟩:=ih n (drawnI k 2/4)
  have hd1:((d+1+1:Nat):Int)-1=((d+1:Nat):Int):=by omega
  rw [← hd1] at r1 r2
  clear hd1 ih
  generalize hD:((d+1+1:Nat):Int)=D at *
  have hD1:decide (1<D)=true:=decide_eq_true (by omega)
  have r1:(glo P (run P (n+d+2))).call "_law_test" [tabT nm cs key rules,.int (drawnI k 1/4),.int (D-1)]=some t1.t:=r1
  have r2:(glo P (run P (n+d+2))).call "_law_test" [tabT nm cs key rules,.int (drawnI k 2/4),.int (D-1)]=some t2.t:=r2
  show ∃ t:Tst,resultOf (evSs (glo P (run P (n+d+2))) d_law_test.body [.val (tabT nm cs key rules),.val (.int k),.val (.int D),.no,.no,.no,.no,.no,.no])=_∧_
  rw [test_pre i1 l1 hp ec]
  obtain ⟨t,e,h,hin⟩:=test_tail (G:=glo P (run P (n+d+2))) hc hm (tabT nm cs key rules) k D
  generalize glo P (run P (n+d+2))=G at *
  generalize tabT nm cs key rules=TB at *
  generalize T.tup (cs.map Col.t)=CT at *
  generalize c.t=ct at *
  by_cases h4:4<k%8
  ·have h4':decide (4<k%8)=true:=decide_eq_true h4
   have e6:evE G (.comp (.call "_law_test" [.var 1,.bin .fdiv (.call "_law_drawn" [.var 2,.var 0]) (.cst (.int 4)),.bin .sub (.var 3) (.cst (.int 1))]) 1 .plain [.tup [.cst (.int 1),.cst (.int 2)]] none) (view [.val TB,.val (.int k),.val (.int D),.val CT,.val ct,.val (.int (k%8)),.no,.no,.no])=some (.lst [t1.t,t2.t]):=by
    simp [evE,evEs,evO,view,Sl.get,binT,subT,fdivT,items,itemsC,compM,bnd,SZ,e1,e2,r1,r2]
   have pre:∀ u:T,evE G (.idx (.lst [.tup [.cst (.str "not"),.idx (.var 6) (.cst (.int 0))],.tup [.cst (.str "and"),.idx (.var 6) (.cst (.int 0)),.idx (.var 6) (.cst (.int 1))],.tup [.cst (.str "or"),.idx (.var 6) (.cst (.int 0)),.idx (.var 6) (.cst (.int 1))]]) (.bin .sub (.var 5) (.cst (.int 5)))) (view [.val TB,.val (.int k),.val (.int D),.val CT,.val ct,.val (.int (k%8)),.val (.lst [t1.t,t2.t]),.no,.no])=some u→evSs G teB [.val TB,.val (.int k),.val (.int D),.val CT,.val ct,.val (.int (k%8)),.no,.no,.no]=some (.rt u):=fun u hu =>
    ite_g rfl (te_two.trans (by rw [hD1,h4'];rfl)) ((asg_p rfl e6 rfl).trans (ret_p rfl hu))
   have hk:k%8=5∨k%8=6∨k%8=7:=by omega
   have ev:evE G (.idx (.lst [.tup [.cst (.str "not"),.idx (.var 6) (.cst (.int 0))],.tup [.cst (.str "and"),.idx (.var 6) (.cst (.int 0)),.idx (.var 6) (.cst (.int 1))],.tup [.cst (.str "or"),.idx (.var 6) (.cst (.int 0)),.idx (.var 6) (.cst (.int 1))]]) (.bin .sub (.var 5) (.cst (.int 5)))) (view [.val TB,.val (.int k),.val (.int D),.val CT,.val ct,.val (.int (k%8)),.val (.lst [t1.t,t2.t]),.no,.no])=getI [.tup [.str "not",t1.t],.tup [.str "and",t1.t,t2.t],.tup [.str "or",t1.t,t2.t]] (k%8-5):=by
    simp [evE,evEs,view,Sl.get,idxT,getI0,getI1,binT,subT]
   rcases hk with hk | hk | hk
   ·exact ⟨.neg t1,congrArg resultOf (pre _ (ev.trans (by rw [hk];exact getI0 _ _))),o1,n1⟩
   ·exact ⟨.cnj t1 t2,congrArg resultOf (pre _ (ev.trans (by rw [hk];exact getI1 _ _ _))),⟨o1,o2⟩,n1,n2⟩
   ·exact ⟨.dsj t1 t2,congrArg resultOf (pre _ (ev.trans (by rw [hk];exact getI2 _ _ _ _))),⟨o1,o2⟩,n1,n2⟩
  ·refine ⟨t,congrArg resultOf ((ite_n rfl (te_two.trans (by rw [hD1,decide_eq_false h4];rfl))).trans e),h (d+1),hin⟩
end Ev.K04
end
end
noncomputable section
noncomputable section
namespace Ev.K04
open PySem
noncomputable def strT (xs:List Str):T:=.tup (xs.map .str)
noncomputable def Short (xs:List Str):Prop:=∀ x∈xs,Sh x
noncomputable def CSh (cs:List Col) (xs:List Str):Prop:=∀ x∈xs,Sh x∧∃ c∈cs,c.n=x
theorem str_in {x:Str}:∀ (xs:List Str),(xs.map T.str).any (fun z=>eqT z (.str x))=xs.any fun y=>y==x
 | []=>rfl
 | y::ys=>by rw [List.map_cons,List.any_cons,List.any_cons,str_in ys,eqT]
theorem dp_str (y x:Str):dpP (.str y) (.str x)=0:=rfl
theorem dpI_str (x:Str) (xs:List Str):dpI (.str x) (xs.map .str)=true:=by
 unfold dpI
 rw [List.all_eq_true]
 intro z hz
 obtain ⟨y,_,rfl⟩:=omm hz
 rw [dp_str];rfl
theorem inC_str (x:Str) (xs:List Str):inC (.str x) (.tup (xs.map .str))=some (xs.any fun y=>y==x):=by
 simp only [inC,dpI_str,if_true,str_in]
noncomputable def more (cs:List Col) (kd:Str) (row:List Str):List (List Str):=cs.filterMap fun o=>if (o.k==kd)&&!(row.any fun y=>y==o.n) then some (row++[o.n]) else none
theorem more_map (cs:List Col) (kd:Str) (row:List Str):(cs.filterMap fun o=>if (o.k==kd)&&!(row.any fun y=>y==o.n) then some (strT (row++[o.n])) else none)=(more cs kd row).map strT:=by
 unfold more
 rw [List.map_filterMap]
 congr
 funext o
 split<;>rfl
theorem more_len (cs:List Col) (kd:Str) (row:List Str):(more cs kd row).length≤cs.length:=List.length_filterMap_le _ _
theorem more_short {cs:List Col} (hc:ColsOk cs) {kd:Str} {row r:List Str} (hr:CSh cs row) (h:r∈more cs kd row):CSh cs r∧r.length=row.length+1:=by
 unfold more at h
 obtain ⟨o,ho,e⟩:=List.mem_filterMap.mp h
 split at e
 ·cases e
  refine ⟨fun x hx=>?_,by simp⟩
  rcases oma hx with q | q
  ·exact hr x q
  ·rw [omg q];exact ⟨(hc.2.2 o ho).1,o,ho,rfl⟩
 ·cases e
noncomputable def Rows (cs:List Col) (j:Nat) (ps:List (List Str)):Prop:=ps.length≤4 ^ j∧∀ p∈ps,CSh cs p∧p.length=j
theorem pairs_inner {G:Glo} {cs:List Col} (hc:ColsOk cs) (nm key rules kt s2:T) (kd:Str) (j:Nat) (hj:j≤1) (ps:List (List Str)) (hp:Rows cs j ps) (s3:Sl) :
  ∃ (qs:List (List Str)) (s5:Sl),loopM (fun x τ=>(bndS [5] x τ).bind fun τ'=>evSs G [.asg 4 (.bin .add (.var 4) (.comp (.bin .add (.var 6) (.tup [.idx (.var 0) (.cst (.int 0))])) 1 .plain [.idx (.var 0) (.cst (.int 1))] (some (.land (.cmp .eq (.idx (.var 0) (.cst (.int 1))) (.var 4)) (.cmp .notin (.idx (.var 0) (.cst (.int 0))) (.var 6))))))] τ')
   (ps.map strT) [.val (tabT nm cs key rules),.val kt,.val s2,.val (.str kd),.own [],s3] =
   some (.nx [.val (tabT nm cs key rules),.val kt,.val s2,.val (.str kd),.own (qs.map strT),s5])∧Rows cs (j+1) qs:=by
 have hl4:=hc.2.1
 have hl:cs.length≤16777216:=by omega
 have h4j:4 ^ j≤4:=by
  rcases (by omega:j=0∨j=1) with rfl | rfl<;>decide
 have hpl:ps.length≤4:=Nat.le_trans hp.1 h4j
 obtain ⟨τ',e,qs,s5,rfl,h1,h2⟩:=loopM_inv (enc:=strT) (f:=fun x τ=>(bndS [5] x τ).bind fun τ'=>evSs G [.asg 4 (.bin .add (.var 4) (.comp (.bin .add (.var 6) (.tup [.idx (.var 0) (.cst (.int 0))])) 1 .plain [.idx (.var 0) (.cst (.int 1))] (some (.land (.cmp .eq (.idx (.var 0) (.cst (.int 1))) (.var 4)) (.cmp .notin (.idx (.var 0) (.cst (.int 0))) (.var 6))))))] τ')
  (fun done τ=>∃ qs s5,τ=[.val (tabT nm cs key rules),.val kt,.val s2,.val (.str kd),.own (qs.map strT),s5]∧qs.length≤4*done.length∧∀ q∈qs,CSh cs q∧q.length=j+1)
  ps [.val (tabT nm cs key rules),.val kt,.val s2,.val (.str kd),.own [],s3] ⟨[],s3,rfl,by simp,fun q hq=>by cases hq⟩ (by
   rintro done row rest hsp τ ⟨qs,s5,rfl,h1,h2⟩
   have hrow:row∈ps:=by rw [hsp];simp
   have hdl:done.length≤ps.length:=by rw [hsp];simp
   have hrs:=(hp.2 row hrow).1
   have hml:=more_len cs kd row
   have hz:qs.length+(more cs kd row).length≤16777216:=by omega
   have hrl:row.length+1≤16777216:=by rw [(hp.2 row hrow).2];omega
   refine ⟨[.val (tabT nm cs key rules),.val kt,.val s2,.val (.str kd),.own ((qs++more cs kd row).map strT),.val (strT row)],?_,qs++more cs kd row,_,rfl,?_,?_⟩
   ·simp [evSs,evS,evE,evEs,evO,view,frzAt,vars,varsL,varsO,Sl.get,Sl.frz,binT,addT,slotOf,fresh,cmpT,idxT,items,itemsC,bndS,bnd,SZ,tabT,getI1,hl]
    rw [compM_map (enc:=Col.t) (fun o=>if (o.k==kd)&&!(row.any fun y=>y==o.n) then some (strT (row++[o.n])) else none) (fun o _=>by
     cases hk:(o.k==kd) with
     | false=>simp [Col.t,getI0,getI1,eqC,dpP,eqT,hk]
     | true =>
      have hin:=inC_str o.n row
      cases ha:(row.any fun y=>y==o.n)<;>rw [ha] at hin<;>simp [Col.t,getI0,getI1,eqC,dpP,eqT,hk,strT,hin,hrl]),more_map]
    simp [hz]
   ·simp only [List.length_append,List.length_cons,List.length_nil];omega
   ·intro q hq
    rcases oma hq with z | z
    ·exact h2 q z
    ·have:=more_short hc hrs z
     exact ⟨this.1,by rw [this.2,(hp.2 row hrow).2]⟩)
 refine ⟨qs,s5,e,?_,h2⟩
 have:=hp.1
 rw [Nat.pow_succ]
 omega
end Ev.K04
end
end
noncomputable section
noncomputable section
namespace Ev.K04
open PySem
theorem pairs_run {P:Pr} (h:P.fn "_law_pairs"=some d_law_pairs) (n:Nat) {cs:List Col} (hc:ColsOk cs) (nm key rules:T) (ks:List Str) (hk:ks.length≤2) :
  ∃ ps,run P (n+1) "_law_pairs" [tabT nm cs key rules,.lst (ks.map .str)]=some (.lst (ps.map strT))∧Rows cs ks.length ps:=by
 rw [run_succ h rfl]
 unfold d_law_pairs
 dsimp only
 rw [nx_of (τ':=[.val (tabT nm cs key rules),.val (.lst (ks.map .str)),.own ([[]].map strT),.no,.no,.no]) (by simp [evS,evE,evEs,begin',frzAt,vars,varsL,slotOf,fresh,strT])]
 obtain ⟨τ',e,ps,s2,s3,s4,s5,rfl,h1,h2⟩:=loopM_inv (enc:=T.str) (f:=fun x τ=>(bndS [3] x τ).bind fun τ'=>evSs (glo P (run P n)) [.asg 4 (.lst []),
  .loop [5] .plain [.var 2] [.asg 4 (.bin .add (.var 4) (.comp (.bin .add (.var 6) (.tup [.idx (.var 0) (.cst (.int 0))])) 1 .plain [.idx (.var 0) (.cst (.int 1))] (some (.land (.cmp .eq (.idx (.var 0) (.cst (.int 1))) (.var 4)) (.cmp .notin (.idx (.var 0) (.cst (.int 0))) (.var 6))))))],
  .asg 2 (.var 4)] τ')
  (fun done τ=>∃ ps s2 s3 s4 s5,τ=[.val (tabT nm cs key rules),.val (.lst (ks.map .str)),s2,s3,s4,s5]∧(s2=.own (ps.map strT)∨s2=.val (.lst (ps.map strT)))∧Rows cs done.length ps)
  ks [.val (tabT nm cs key rules),.val (.lst (ks.map .str)),.own ([[]].map strT),.no,.no,.no] ⟨[[]],_,_,_,_,rfl,.inl rfl,by simp,fun p hp=>by rw [omg hp];exact ⟨fun x hx=>(by cases hx),rfl⟩⟩ (by
   rintro done kd rest hsp τ ⟨ps,s2,s3,s4,s5,rfl,h1,h2⟩
   have hdl:done.length≤1:=by rw [hsp] at hk;simp at hk;omega
   have hfz:Sl.frz s2=.val (.lst (ps.map strT)):=by rcases h1 with rfl | rfl<;>rfl
   obtain ⟨qs,s5',el,hq⟩:=pairs_inner (G:=glo P (run P n)) hc nm key rules (.lst (ks.map .str)) (.lst (ps.map strT)) kd done.length hdl ps h2 s5
   refine ⟨[.val (tabT nm cs key rules),.val (.lst (ks.map .str)),.val (.lst (qs.map strT)),.val (.str kd),.val (.lst (qs.map strT)),s5'],?_,qs,_,_,_,_,rfl,.inr rfl,by rw [List.length_append];exact hq⟩
   simp only [bndS,Option.bind_some,List.set_cons_succ,List.set_cons_zero]
   rw [nx_of (τ':=[.val (tabT nm cs key rules),.val (.lst (ks.map .str)),s2,.val (.str kd),.own [],s5]) (by simp [evS,evE,evEs,frzAt,vars,varsL,slotOf,fresh])]
   rw [nx_of (s:=.loop _ _ _ _) (τ':=[.val (tabT nm cs key rules),.val (.lst (ks.map .str)),.val (.lst (ps.map strT)),.val (.str kd),.own (qs.map strT),s5']) (by
    rw [evS]
    simp only [varsL,vars,List.append_nil,frzAt,evEs,evE,view,List.modify_succ_cons,List.modify_zero_cons,hfz,List.map_cons,Sl.get,List.map_nil]
    simp only [List.getElem?_cons_succ,List.getElem?_cons_zero,Option.join_some,Option.bind_some,items]
    exact el)]
   simp [evSs,evS,evE,view,frzAt,vars,Sl.get,Sl.frz,slotOf,fresh])
 rw [nx_of (s:=.loop _ _ _ _) (τ':=[.val (tabT nm cs key rules),.val (.lst (ks.map .str)),s2,s3,s4,s5]) (by
  rw [evS]
  simp only [varsL,vars,List.append_nil,frzAt,evEs,evE,view,List.modify_succ_cons,List.modify_zero_cons,List.map_cons,Sl.get,Sl.frz,List.map_nil]
  simp only [List.getElem?_cons_succ,List.getElem?_cons_zero,Option.join_some,Option.bind_some,items]
  exact e)]
 refine ⟨ps,?_,h2⟩
 rcases h1 with rfl | rfl<;>simp [evSs,evS,evE,view,frzAt,vars,Sl.get,Sl.frz,resultOf]
end Ev.K04
end
end
noncomputable section
noncomputable section
namespace Ev.K04
open PySem
structure Bt where
 nm:Str
 cs:List Col
 key:List Str
 rs:List T
noncomputable def Bt.t (b:Bt):T:=bareT b.nm b.cs b.key b.rs
noncomputable def cnames:List Str:=["id", "n", "t", "u"]
structure Bt.ok (b:Bt):Prop where
 nm:b.nm.length≤6
 cs:ColsOk b.cs
 k1:b.key.length≤2
 ks:Short b.key
 inn:∀ x∈b.key,∃ c∈b.cs,c.n=x
 kn:b.key≠[]
 nd:(b.cs.map (·.n)).Nodup
 kk:∀ c∈b.cs,c.k="whole"∨c.k="text"
 as:∀ c∈b.cs,c.n∈cnames
 na:ascii b.nm=true
 kg:∀ x∈b.key,∃ c∈b.cs,c.n=x∧c.g=false
inductive Rl where
 | ref (cs:List Str) (t w:Str) | unl (cs:List Str) | chk (t:Tst)
noncomputable def Rl.raw:Rl→T
 | .ref cs t w=>.tup [.str "refers",strT cs,.str t,.str w]
 | .unl cs=>.tup [.str "unlike",.lst (cs.map .str)]
 | .chk t=>.tup [.str "check",t.t]
noncomputable def Rl.t:Rl→T
 | .ref cs t w=>.tup [.str "refers",strT cs,.str t,.str w]
 | .unl cs=>.tup [.str "unlike",strT cs]
 | .chk t=>.tup [.str "check",t.t]
noncomputable def Rl.ok:Rl→Prop
 | .ref cs t w=>Short cs∧cs.length≤4∧t.length≤6∧w.length≤6
 | .unl cs=>Short cs∧cs.length≤4
 | .chk t=>t.ok 3
noncomputable def Rl.asc:Rl→Prop
 | .ref _ t w=>ascii t=true∧ascii w=true
 | .unl _=>True
 | .chk t=>∃ cs:List Col,(∀ c∈cs,c.n∈cnames)∧t.inn cs
noncomputable def Rl.fits (ns:List Str) (cs:List Col):Rl→Prop
 | .ref ks t _=>(∀ x∈ks,∃ c∈cs,c.n=x)∧t∈ns
 | .unl ks=>∀ x∈ks,∃ c∈cs,c.n=x
 | .chk t=>t.inn cs
noncomputable def kindFor (cs:List Col) (x:Str):List Str:=cs.filterMap fun c=>if c.n==x then some c.k else none
theorem kindFor_map (cs:List Col) (x:Str):(cs.filterMap fun c=>if c.n==x then some (T.str c.k) else none)=(kindFor cs x).map T.str:=by
 unfold kindFor
 rw [List.map_filterMap]
 congr
 funext o
 split<;>rfl
theorem kindFor_ne {cs:List Col} {x:Str} (h:∃ c∈cs,c.n=x):∃ y r,kindFor cs x=y::r:=by
 obtain ⟨c,hc,rfl⟩:=h
 have:c.k∈kindFor cs c.n:=List.mem_filterMap.mpr ⟨c,hc,by simp⟩
 cases q:kindFor cs c.n with
 | nil=>rw [q] at this;cases this
 | cons y r=>exact ⟨y,r,rfl⟩
noncomputable def ways6:List Str:=["along", "stop", "late", "gap", "along", "gap"]
theorem ways_asc:∀ x∈ways6,ascii x=true:=by decide +kernel
theorem late_asc:ascii "late"=true:=by decide +kernel
theorem ways_len:∀ x∈ways6,x.length≤6:=by decide +kernel
theorem late_len:("late":Str).length≤6:=by decide +kernel
theorem getI_ways (k:Int):∃ x∈ways6,getI [.str "along",.str "stop",.str "late",.str "gap",.str "along",.str "gap"] (k%6)=some (.str x):=by
 obtain ⟨c,hc,e⟩:=getI_mem (enc:=T.str) (cs:=ways6) (by simp [ways6]) k
 exact ⟨c,hc,e⟩
noncomputable def stiff (cs:List Col) (p:List Str):List Col:=cs.filterMap fun c=>if (p.any fun y=>y==c.n)&&!c.g then some c else none
theorem stiff_map (cs:List Col) (p:List Str):(cs.filterMap fun c=>if (p.any fun y=>y==c.n)&&!c.g then some c.t else none)=(stiff cs p).map Col.t:=by
 unfold stiff
 rw [List.map_filterMap]
 congr
 funext o
 split<;>rfl
theorem eqTs_map_nil {α:Type} (f:α→T) (l:List α):eqTs (l.map f) []=l.isEmpty:=by cases l<;>rfl
theorem colnames (cs:List Col):(cs.filterMap fun c=>some (T.str c.n))=(cs.map (·.n)).map T.str:=by
 induction cs with
 | nil=>rfl
 | cons c cs ih=>simp [ih]
theorem cut_to' (xs:List T) (j:Nat):cut xs none (some (j:Int))=xs.take j:=by
 unfold cut clip
 simp only [show ¬ ((j:Int)<0) by omega,if_false,Int.toNat_natCast,Nat.sub_zero,List.drop_zero]
 by_cases h:j≤xs.length
 ·rw [Nat.min_eq_left h]
 ·rw [Nat.min_eq_right (by omega),List.take_of_length_le (by omega),List.take_of_length_le (by omega)]
theorem Tst.up:∀ {d:Nat} {t:Tst},t.ok d→t.ok (d+1)
 | 0,_,h=>by cases ‹Tst›<;>simp [Tst.ok] at h
 | d+1,.emp c,h=>⟨by omega,h.2⟩
 | d+1,.bel a b,h=>⟨by omega,h.2⟩
 | d+1,.isI c i,h=>⟨by omega,h.2⟩
 | d+1,.isS c x,h=>⟨by omega,h.2⟩
 | d+1,.neg t,h=>Tst.up (d:=d) (t:=t) h
 | d+1,.cnj a b,h=>⟨Tst.up (d:=d) (t:=a) h.1,Tst.up (d:=d) (t:=b) h.2⟩
 | d+1,.dsj a b,h=>⟨Tst.up (d:=d) (t:=a) h.1,Tst.up (d:=d) (t:=b) h.2⟩
theorem ite_x {G:Glo} {c:E} {a b ss:List S} {τ τ':List Sl} (h0:frzAt (vars c) τ=τ) (h1:evE G c (view τ)=some (.bl true)) (h2:evSs G a τ=some (.nx τ')):evSs G (.ite c a b::ss) τ=evSs G ss τ':=nx_of (by rw [evS,h0,h1];exact h2)
section
variable {G:Glo} {BL bt gt KL PL NL ST pt:T} {k:Int} {s6 s7 s8 s9 s10:Sl}
noncomputable def ruD:List S:=d_law_rule.body.drop 3
noncomputable def ruE:List S:=d_law_rule.body.drop 4
theorem ru_lt:evE G (.cmp .lt (.bin .mod (.var 2) (.cst (.int 8))) (.cst (.int 5))) (view [.val BL,.val bt,.val (.int k),.val gt,.val KL,.val PL,s6,s7,s8,s9,s10])=some (.bl (decide (k%8<5))):=rfl
theorem ru_eq:evE G (.cmp .eq (.bin .mod (.var 2) (.cst (.int 8))) (.cst (.int 5))) (view [.val BL,.val bt,.val (.int k),.val gt,.val KL,.val PL,s6,s7,s8,s9,s10])=some (.bl (k%8==5)):=rfl
theorem ru_ref {w w' gn:Str} {cl:Nat} (hc:evE G (.land (.cmp .lt (.bin .mod (.var 2) (.cst (.int 8))) (.cst (.int 5))) (.cmp .ne (.var 5) (.lst []))) (view [.val BL,.val bt,.val (.int k),.val gt,.val KL,.val PL,.no,.no,.no,.no,.no])=some (.bl true))
  (l5:bltT .len PL=some (.int (cl:Int))) (hcl:0<cl) (i5:idxT PL (.int (k/64%(cl:Int)))=some pt) (iw:getI [.str "along",.str "stop",.str "late",.str "gap",.str "along",.str "gap"] (k/1024%6)=some (.str w))
  (e8:evE G (.comp (.var 0) 1 .plain [.idx (.var 1) (.cst (.int 1))] (some (.land (.cmp .isin (.idx (.var 0) (.cst (.int 0))) (.var 7)) (.lnot (.tru (.idx (.var 0) (.cst (.int 2))))))))  (view [.val BL,.val bt,.val (.int k),.val gt,.val KL,.val PL,.val pt,.val (.str w),.no,.no,.no])=some ST)
  (v:Bool) (hne:neC ST (.lst [])=some (.bl v)) (hw:w'=if v&&(w=="gap") then ("late":Str) else w) (ig:idxT gt (.int 0)=some (.str gn)) :
  evSs G ruD [.val BL,.val bt,.val (.int k),.val gt,.val KL,.val PL,.no,.no,.no,.no,.no]=some (.rt (.tup [.str "refers",pt,.str gn,.str w'])):=by
 refine ite_g rfl hc ?_
 refine (asg_p (t:=pt) (τ':=[.val BL,.val bt,.val (.int k),.val gt,.val KL,.val PL,.val pt,.no,.no,.no,.no]) rfl (by simp [evE,view,Sl.get,l5,binT,modT,fdivT,hcl,i5]) rfl).trans ?_
 refine (asg_p (t:=.str w) (τ':=[.val BL,.val bt,.val (.int k),.val gt,.val KL,.val PL,.val pt,.val (.str w),.no,.no,.no]) rfl (by simp [evE,evEs,view,Sl.get,binT,modT,fdivT,idxT,iw]) rfl).trans ?_
 refine (asg_p (t:=ST) (τ':=[.val BL,.val bt,.val (.int k),.val gt,.val KL,.val PL,.val pt,.val (.str w),.val ST,.no,.no]) rfl e8 rfl).trans ?_
 have hcd:evE G (.land (.cmp .ne (.var 8) (.lst [])) (.cmp .eq (.var 7) (.cst (.str "gap")))) (view [.val BL,.val bt,.val (.int k),.val gt,.val KL,.val PL,.val pt,.val (.str w),.val ST,.no,.no])=some (.bl (v&&(w=="gap"))):=by
  cases v<;>simp [evE,evEs,view,Sl.get,cmpT,hne,eqC,dpP,eqT]
 cases q:(v&&(w==("gap":Str))) with
 | true =>
  rw [q] at hw hcd
  subst hw
  exact (ite_x (τ':=[.val BL,.val bt,.val (.int k),.val gt,.val KL,.val PL,.val pt,.val (.str "late"),.val ST,.no,.no]) rfl hcd (asg_p (t:=.str "late") rfl rfl rfl)).trans (ret_p rfl (by simp [evE,evEs,view,Sl.get,ig]))
 | false =>
  rw [q] at hw hcd
  subst hw
  exact (ite_n rfl hcd).trans (ret_p rfl (by simp [evE,evEs,view,Sl.get,ig]))
end
theorem rule_run {P:Pr} (hd:P.fn "_law_drawn"=some d_law_drawn) (ht:P.fn "_law_test"=some d_law_test) (hp:P.fn "_law_pairs"=some d_law_pairs) (h:P.fn "_law_rule"=some d_law_rule) (n:Nat)
  {bs:List Bt} (hb:∀ b∈bs,b.ok) {b:Bt} (hm:b∈bs) (k:Int):∃ r:Rl,run P (n+6) "_law_rule" [.lst (bs.map Bt.t),b.t,.int k]=some r.raw∧r.ok∧r.asc∧r.fits (bs.map (·.nm)) b.cs:=by
 rw [run_succ h rfl]
 show ∃ r:Rl,resultOf (evSs (glo P (run P (n+5))) d_law_rule.body [.val (.lst (bs.map Bt.t)),.val b.t,.val (.int k),.no,.no,.no,.no,.no,.no,.no,.no])=_∧_
 have hne:bs≠[]:=by intro e;rw [e] at hm;cases hm
 obtain ⟨g,hg,eg⟩:=getI_mem (enc:=Bt.t) hne (k/8)
 have hbo:=hb b hm
 have hgo:=hb g hg
 have hbl:0<bs.length:=by cases bs with | nil=>exact absurd rfl hne | cons _ _=>simp
 have hgl:g.cs.length≤16777216:=by have:=hgo.cs.2.1;omega
 have hbcl:b.cs.length≤16777216:=by have:=hbo.cs.2.1;omega
 have hkl:g.key.length≤16777216:=by have:=hgo.k1;omega
 have hb0:0<b.cs.length:=by have:=hbo.cs.1;cases q:b.cs with | nil=>exact absurd q this | cons _ _=>simp
 obtain ⟨ps,ep,hps⟩:=pairs_run hp (n+4) hbo.cs (.str b.nm) (.tup (b.key.map .str)) (.tup b.rs) (g.key.map fun x=>(kindFor g.cs x).headD "") (by rw [List.length_map];exact hgo.k1)
 have ep:(glo P (run P (n+5))).call "_law_pairs" [b.t,.lst ((g.key.map fun x=>(kindFor g.cs x).headD "").map .str)]=some (.lst (ps.map strT)):=ep
 have tests:∀ d:Nat,d≤2→∃ t:Tst,(glo P (run P (n+5))).call "_law_test" [b.t,.int (k/64),.int ((d+1:Nat):Int)]=some t.t∧t.ok 3∧t.inn b.cs:=fun d hd2=>by
  obtain ⟨t,e,o,hin⟩:=test_run hd ht hbo.cs (.str b.nm) (.tup (b.key.map .str)) (.tup b.rs) d (n+3-d) (k/64)
  rw [show n+3-d+d+2=n+5 by omega] at e
  refine ⟨t,e,?_,hin⟩
  rcases (by omega:d=0∨d=1∨d=2) with rfl | rfl | rfl
  ·exact Tst.up (Tst.up o)
  ·exact Tst.up o
  ·exact o
 generalize glo P (run P (n+5))=G at *
 have lB:bltT .len (.lst (bs.map Bt.t))=some (.int (bs.length:Int)):=by simp [bltT]
 have iB:idxT (.lst (bs.map Bt.t)) (.int (k/8%(bs.length:Int)))=some g.t:=eg
 have ib1:idxT b.t (.int 1)=some (.tup (b.cs.map Col.t)):=by simp [Bt.t,bareT,idxT,getI1]
 have ig0:idxT g.t (.int 0)=some (.str g.nm):=by simp [Bt.t,bareT,idxT,getI0]
 have ig1:idxT g.t (.int 1)=some (.tup (g.cs.map Col.t)):=by simp [Bt.t,bareT,idxT,getI1]
 have ig2:idxT g.t (.int 2)=some (.tup (g.key.map .str)):=by simp [Bt.t,bareT,idxT,getI2]
 generalize T.lst (bs.map Bt.t)=BL at *
 generalize b.t=bt at *
 generalize g.t=gt at *
 have e4:evE G (.comp (.idx (.comp (.idx (.var 0) (.cst (.int 1))) 1 .plain [.idx (.var 4) (.cst (.int 1))] (some (.cmp .eq (.idx (.var 0) (.cst (.int 0))) (.var 1)))) (.cst (.int 0))) 1 .plain [.idx (.var 3) (.cst (.int 2))] none) (view [.val BL,.val bt,.val (.int k),.val gt,.no,.no,.no,.no,.no,.no,.no])=some (.lst ((g.key.map fun x=>(kindFor g.cs x).headD "").map .str)):=by
  simp [evE,evEs,evO,view,Sl.get,items,itemsC,bnd,SZ,cmpT,ig1,ig2,hkl]
  rw [compM_map (enc:=T.str) (fun x=>some (T.str ((kindFor g.cs x).headD ""))) (fun x hx=>by
   obtain ⟨y,r,ey⟩:=kindFor_ne (hgo.inn x hx)
   simp [hgl]
   rw [compM_map (enc:=Col.t) (fun c=>if c.n==x then some (T.str c.k) else none) (fun c _=>by
    cases hk:(c.n==x)<;>simp [Col.t,idxT,getI0,getI1,eqC,dpP,eqT,hk]),kindFor_map,ey]
   simp [idxT,getI0])]
  simp [List.filterMap_eq_map']
 generalize T.lst ((g.key.map fun x=>(kindFor g.cs x).headD "").map T.str)=KL at *
 have pre:∀ PL:T,G.call "_law_pairs" [bt,KL]=some PL→evSs G d_law_rule.body [.val BL,.val bt,.val (.int k),.no,.no,.no,.no,.no,.no,.no,.no]=evSs G ruD [.val BL,.val bt,.val (.int k),.val gt,.val KL,.val PL,.no,.no,.no,.no,.no]:=fun PL hPL =>
  (asg_p (t:=gt) (τ':=[.val BL,.val bt,.val (.int k),.val gt,.no,.no,.no,.no,.no,.no,.no]) rfl (by simp [evE,view,Sl.get,lB,binT,modT,fdivT,hbl,iB]) rfl).trans
   ((asg_p (t:=KL) (τ':=[.val BL,.val bt,.val (.int k),.val gt,.val KL,.no,.no,.no,.no,.no,.no]) rfl e4 rfl).trans (asg_p (t:=PL) rfl (by simp [evE,evEs,view,Sl.get,hPL]) rfl))
 rw [pre _ ep]
 have hcd:evE G (.land (.cmp .lt (.bin .mod (.var 2) (.cst (.int 8))) (.cst (.int 5))) (.cmp .ne (.var 5) (.lst []))) (view [.val BL,.val bt,.val (.int k),.val gt,.val KL,.val (.lst (ps.map strT)),.no,.no,.no,.no,.no])=some (.bl (decide (k%8<5)&&!ps.isEmpty)):=by
  rw [evE,ru_lt]
  cases decide (k%8<5) with
  | false=>rfl
  | true=>cases ps<;>simp [evE,evEs,view,Sl.get,cmpT,neC,dpP,dpPs,eqT,eqTs]
 cases hw:(decide (k%8<5)&&!ps.isEmpty) with
 | true =>
  rw [hw] at hcd
  rw [Bool.and_eq_true] at hw
  have hpn:ps≠[]:=by intro e;rw [e] at hw;simp at hw
  obtain ⟨p,hp',epi⟩:=getI_mem (enc:=strT) hpn (k/64)
  have hpl:0<ps.length:=by cases q:ps with | nil=>exact absurd q hpn | cons _ _=>simp
  obtain ⟨w,hwm,ew⟩:=getI_ways (k/1024)
  have hpo:=hps.2 p hp'
  have e8:evE G (.comp (.var 0) 1 .plain [.idx (.var 1) (.cst (.int 1))] (some (.land (.cmp .isin (.idx (.var 0) (.cst (.int 0))) (.var 7)) (.lnot (.tru (.idx (.var 0) (.cst (.int 2))))))))  (view [.val BL,.val bt,.val (.int k),.val gt,.val KL,.val (.lst (ps.map strT)),.val (strT p),.val (.str w),.no,.no,.no])=some (.lst ((stiff b.cs p).map Col.t)):=by
   simp [evE,evEs,evO,view,Sl.get,items,itemsC,bnd,SZ,cmpT,ib1,hbcl]
   rw [compM_map (enc:=Col.t) (fun c=>if (p.any fun y=>y==c.n)&&!c.g then some c.t else none) (fun c _=>by
    have hin:=inC_str c.n p
    cases ha:(p.any fun y=>y==c.n)<;>rw [ha] at hin<;>cases hgg:c.g<;>simp [Col.t,idxT,getI0,getI2,strT,hin,hgg,truT]),stiff_map]
  have hne2:neC (.lst ((stiff b.cs p).map Col.t)) (.lst [])=some (.bl (!(stiff b.cs p).isEmpty)):=by
   unfold neC
   rw [if_pos (by simp [dpP,dpPs]),eqT,eqTs_map_nil]
  have key:=ru_ref (G:=G) (w:=w) hcd (by simp [bltT]) hpl epi ew e8 _ hne2 rfl ig0
  refine ⟨.ref p g.nm (if (!(stiff b.cs p).isEmpty)&&(w=="gap") then ("late":Str) else w),congrArg resultOf key,⟨fun x hx=>(hpo.1 x hx).1,?_,hgo.nm,?_⟩,⟨hgo.na,?_⟩,fun x hx=>(hpo.1 x hx).2,List.mem_map.mpr ⟨g,hg,rfl⟩⟩
  ·rw [hpo.2,List.length_map];have:=hgo.k1;omega
  ·split
   ·exact late_len
   ·exact ways_len w hwm
  ·split
   ·exact late_asc
   ·exact ways_asc w hwm
 | false =>
  rw [hw] at hcd
  generalize T.lst (ps.map strT)=PL at *
  have e9:evE G (.comp (.idx (.var 0) (.cst (.int 0))) 1 .plain [.idx (.var 1) (.cst (.int 1))] none) (view [.val BL,.val bt,.val (.int k),.val gt,.val KL,.val PL,.no,.no,.no,.no,.no])=some (.lst ((b.cs.map (·.n)).map .str)):=by
   simp [evE,evEs,evO,view,Sl.get,items,itemsC,bnd,SZ,ib1,hbcl]
   rw [compM_map (enc:=Col.t) (fun c=>some (T.str c.n)) (fun c _=>by simp [Col.t,idxT,getI0]),colnames]
   simp
  have pre2:evSs G ruD [.val BL,.val bt,.val (.int k),.val gt,.val KL,.val PL,.no,.no,.no,.no,.no]=evSs G (ruE.drop 1) [.val BL,.val bt,.val (.int k),.val gt,.val KL,.val PL,.no,.no,.no,.val (.lst ((b.cs.map (·.n)).map .str)),.no] :=
   (ite_n rfl hcd).trans (asg_p rfl e9 rfl)
  rw [pre2]
  by_cases h5:k%8=5
  ·obtain ⟨j,hj⟩:∃ j:Nat,k/64%(b.cs.length:Int)=(j:Int):=⟨(k/64%(b.cs.length:Int)).toNat,by have:=Int.emod_nonneg (k/64) (show (b.cs.length:Int)≠0 by omega);omega⟩
   have hx1:k/64%(b.cs.length:Int)<(b.cs.length:Int):=Int.emod_lt_of_pos _ (by omega)
   obtain ⟨m,hm2⟩:∃ m:Nat,1+k/1024%2=(m:Int):=⟨(1+k/1024%2).toNat,by omega⟩
   have hjl:j≤((b.cs.map (·.n)).map T.str).length:=by simp;omega
   have hz:b.cs.length-j+min j b.cs.length≤16777216:=by omega
   have e10:evE G (.tup [.cst (.str "unlike"),.sli (.bin .add (.sli (.var 9) (some (.var 10)) none) (.sli (.var 9) none (some (.var 10)))) none (some (.bin .add (.cst (.int 1)) (.bin .mod (.bin .fdiv (.var 2) (.cst (.int 1024))) (.cst (.int 2)))))]) (view [.val BL,.val bt,.val (.int k),.val gt,.val KL,.val PL,.no,.no,.no,.val (.lst ((b.cs.map (·.n)).map .str)),.val (.int (j:Int))])=some (Rl.unl ((rotC (b.cs.map (·.n)) j).take m)).raw:=by
    have q1:=cut_from _ _ hjl
    have q2:=cut_to _ _ hjl
    simp only [List.map_map] at q1 q2
    simp [evE,evEs,evO,view,Sl.get,binT,addT,modT,fdivT,asI,sliT,hm2,q1,q2,SZ,hz,cut_to',Rl.raw,rotC]
   refine ⟨.unl ((rotC (b.cs.map (·.n)) j).take m),congrArg resultOf (ite_g rfl (ru_eq.trans (by rw [h5];rfl)) ((asg_p (t:=.int (j:Int)) (τ':=[.val BL,.val bt,.val (.int k),.val gt,.val KL,.val PL,.no,.no,.no,.val (.lst ((b.cs.map (·.n)).map .str)),.val (.int (j:Int))]) rfl (by simp [evE,view,Sl.get,bltT,binT,modT,fdivT,hb0,hj]) rfl).trans (ret_p rfl e10))),⟨fun x hx=>?_,?_⟩,trivial,fun x hx=>?_⟩
   ·have hx':=List.mem_of_mem_take hx
    unfold rotC at hx'
    have hx2:x∈b.cs.map (·.n):=by
     rcases oma hx' with z | z
     ·exact List.mem_of_mem_drop z
     ·exact List.mem_of_mem_take z
    obtain ⟨c,hc,rfl⟩:=omm hx2
    exact (hbo.cs.2.2 c hc).1
   ·unfold rotC
    simp only [List.length_take,List.length_append,List.length_drop,List.length_map]
    have:=hbo.cs.2.1
    omega
   ·have hx':=List.mem_of_mem_take hx
    unfold rotC at hx'
    have hx2:x∈b.cs.map (·.n):=by
     rcases oma hx' with z | z
     ·exact List.mem_of_mem_drop z
     ·exact List.mem_of_mem_take z
    exact omm hx2
  ·obtain ⟨d,hd2,hdz⟩:∃ d:Nat,d≤2∧1+k/1024%3=((d+1:Nat):Int):=⟨(k/1024%3).toNat,by omega,by omega⟩
   obtain ⟨t,e,o,hin⟩:=tests d hd2
   exact ⟨.chk t,congrArg resultOf ((ite_n rfl (ru_eq.trans (by rw [show (k%8==5)=false by simpa using h5]))).trans (ret_p rfl (by
    simp only [Int.natCast_add,Int.cast_ofNat_Int] at e hdz
    simp [evE,evEs,view,Sl.get,binT,addT,modT,fdivT,hdz,e,Rl.raw]))),o,⟨b.cs,hbo.as,hin⟩,hin⟩
end Ev.K04
end
end
noncomputable section
noncomputable section
namespace Ev.K04
open PySem
structure Tb where
 nm:Str
 cs:List Col
 key:List Str
 rs:List Rl
noncomputable def Tb.t (b:Tb):T:=bareT b.nm b.cs b.key (b.rs.map Rl.t)
structure Tb.ok (b:Tb):Prop where
 nm:b.nm.length≤6
 cl:b.cs.length≤4
 cs:∀ c∈b.cs,Sh c.n∧c.k.length≤6
 k1:b.key.length≤2
 ks:Short b.key
 rl:b.rs.length≤4
 rs:∀ r∈b.rs,r.ok
 kn:b.key≠[]
 cn:b.cs≠[]
 nd:(b.cs.map (·.n)).Nodup
 kk:∀ c∈b.cs,c.k="whole"∨c.k="text"
 as:∀ c∈b.cs,c.n∈cnames
 na:ascii b.nm=true
 inn:∀ x∈b.key,∃ c∈b.cs,c.n=x
 ra:∀ r∈b.rs,r.asc
 kg:∀ x∈b.key,∃ c∈b.cs,c.n=x∧c.g=false
theorem kind_len (i:Int):(kindAt i).length≤6:=by
 have all:∀ x∈kinds6,x.length≤6:=by decide +kernel
 unfold kindAt
 rw [List.getD_eq_getElem?_getD]
 cases e:kinds6[(i%6).toNat]? with
 | none=>decide +kernel
 | some x=>exact all x (List.mem_of_getElem? e)
theorem cols_short (k:Int):∀ c∈bareCols k,c.n.length≤6∧c.k.length≤6:=by
 have hc:∀ (j:Int) (nm:Str),nm.length≤6→∀ c∈colAt k j nm,c.n.length≤6∧c.k.length≤6:=fun j nm hn c h=>by
  unfold colAt at h
  split at h
  ·rw [omg h];exact ⟨hn,kind_len _⟩
  ·cases h
 intro c h
 unfold bareCols at h
 rcases oma h with h | h
 ·rw [omg h];exact ⟨(by decide +kernel:("id":Str).length≤6),kind_len _⟩
 ·rcases oma h with h | h
  ·exact hc _ _ (by decide +kernel) c h
  ·rcases oma h with h | h
   ·exact hc _ _ (by decide +kernel) c h
   ·exact hc _ _ (by decide +kernel) c h
theorem rotC_mem {α:Type} {l:List α} {b:Nat} {x:α}:x∈rotC l b↔x∈l:=by
 unfold rotC
 rw [List.mem_append]
 constructor
 ·rintro (h | h)
  ·exact List.mem_of_mem_drop h
  ·exact List.mem_of_mem_take h
 ·intro h
  rw [← List.take_append_drop b l,List.mem_append] at h
  exact h.symm
theorem rotC_len {α:Type} (l:List α) (b:Nat):(rotC l b).length=l.length:=by
 unfold rotC
 simp only [List.length_append,List.length_drop,List.length_take]
 omega
theorem plain_mem {cs:List Col} {x:Str} (h:x∈plainOf cs):∃ c∈cs,c.n=x:=by
 unfold plainOf at h
 obtain ⟨c,hc,e⟩:=List.mem_filterMap.mp h
 split at e
 ·cases e
 ·cases e;exact ⟨c,hc,rfl⟩
theorem id_mem (k:Int):∃ c∈bareCols k,c.n="id":=⟨⟨"id",kindAt k,false⟩,by unfold bareCols;simp,rfl⟩
noncomputable def mkB (nm:Str) (k:Int):Bt:=⟨nm,rotC (bareCols k) (k/64%((bareCols k).length:Int)).toNat,keyOf k (bareCols k),[]⟩
theorem key_inn (k:Int):∀ x∈keyOf k (bareCols k),∃ c∈bareCols k,c.n=x:=by
 intro x hx
 have hid:=id_mem k
 unfold keyOf at hx
 split at hx
 ·rename_i h
  have hg:∃ c∈bareCols k,c.n=(plainOf (bareCols k)).getD 1 "id":=by
   refine plain_mem ?_
   rw [List.getD_eq_getElem?_getD,List.getElem?_eq_getElem h.2]
   exact List.getElem_mem _
  split at hx<;>simp only [List.mem_cons,List.not_mem_nil,or_false] at hx<;>rcases hx with rfl | rfl<;>assumption
 ·rw [omg hx];exact hid
theorem plain_g {cs:List Col} {x:Str} (h:x∈plainOf cs):∃ c∈cs,c.n=x∧c.g=false:=by
 unfold plainOf at h
 obtain ⟨c,hc,e⟩:=List.mem_filterMap.mp h
 cases hg:c.g with
 | true=>rw [hg] at e;cases e
 | false=>rw [hg] at e;exact ⟨c,hc,Option.some.inj e,hg⟩
theorem key_g (k:Int):∀ x∈keyOf k (bareCols k),∃ c∈bareCols k,c.n=x∧c.g=false:=by
 intro x hx
 have hid:∃ c∈bareCols k,c.n="id"∧c.g=false:=⟨⟨"id",kindAt k,false⟩,by unfold bareCols;simp,rfl,rfl⟩
 unfold keyOf at hx
 split at hx
 ·rename_i h
  have hg:∃ c∈bareCols k,c.n=(plainOf (bareCols k)).getD 1 "id"∧c.g=false:=by
   refine plain_g ?_
   rw [List.getD_eq_getElem?_getD,List.getElem?_eq_getElem h.2]
   exact List.getElem_mem _
  split at hx<;>simp only [List.mem_cons,List.not_mem_nil,or_false] at hx<;>rcases hx with rfl | rfl<;>assumption
 ·rw [omg hx];exact hid
theorem key_len (k:Int) (cs:List Col):(keyOf k cs).length≤2:=by unfold keyOf;split<;>(try split)<;>simp
theorem cols_nd (k:Int):((bareCols k).map (·.n)).Nodup:=by
 have e1:(("id":Str)=="n")=false∧(("id":Str)=="t")=false∧(("id":Str)=="u")=false∧(("n":Str)=="t")=false∧(("n":Str)=="u")=false∧(("t":Str)=="u")=false:=by decide +kernel
 obtain ⟨a1,a2,a3,a4,a5,a6⟩:=e1
 have b1:=ne_of_beq_false a1
 have b2:=ne_of_beq_false a2
 have b3:=ne_of_beq_false a3
 have b4:=ne_of_beq_false a4
 have b5:=ne_of_beq_false a5
 have b6:=ne_of_beq_false a6
 unfold bareCols colAt
 split<;>split<;>split<;>simp [b1,b2,b3,b4,b5,b6]
theorem kind_two (i:Int):kindAt i="whole"∨kindAt i="text":=by
 have all:∀ x∈kinds6,(x==("whole":Str))=true∨(x==("text":Str))=true:=by decide +kernel
 unfold kindAt
 rw [List.getD_eq_getElem?_getD]
 cases e:kinds6[(i%6).toNat]? with
 | none=>exact .inl rfl
 | some x =>
  rcases all x (List.mem_of_getElem? e) with h | h
  ·exact .inl (eq_of_beq h)
  ·exact .inr (eq_of_beq h)
theorem cols_two (k:Int):∀ c∈bareCols k,c.k="whole"∨c.k="text":=by
 have one:∀ (j:Int) (nm:Str),∀ c∈colAt k j nm,c.k="whole"∨c.k="text":=by
  intro j nm c hc
  unfold colAt at hc
  split at hc
  ·rw [omg hc];exact kind_two _
  ·cases hc
 intro c hc
 unfold bareCols at hc
 rcases oma hc with h | h
 ·rw [omg h];exact kind_two _
 ·rcases oma h with h | h
  ·exact one _ _ c h
  ·rcases oma h with h | h
   ·exact one _ _ c h
   ·exact one _ _ c h
theorem cols_as (k:Int):∀ c∈bareCols k,c.n∈cnames:=by
 have one:∀ (j:Int) (nm:Str),nm∈cnames→∀ c∈colAt k j nm,c.n∈cnames:=by
  intro j nm hn c hc
  unfold colAt at hc
  split at hc
  ·rw [omg hc];exact hn
  ·cases hc
 intro c hc
 unfold bareCols at hc
 rcases oma hc with h | h
 ·rw [omg h];simp [cnames]
 ·rcases oma h with h | h
  ·exact one _ _ (by simp [cnames]) c h
  ·rcases oma h with h | h
   ·exact one _ _ (by simp [cnames]) c h
   ·exact one _ _ (by simp [cnames]) c h
theorem cn_asc:∀ x∈cnames,ascii x=true:=by decide +kernel
theorem mkB_ok (nm:Str) (hn:nm.length≤6) (ha:ascii nm=true) (k:Int):(mkB nm k).ok where
 kg:=fun x hx=>by
  obtain ⟨c,hc,e⟩:=key_g k x hx
  exact ⟨c,rotC_mem.mpr hc,e⟩
 nm:=hn
 cs:=by
  have h:=bareCols_len k
  refine ⟨fun e=>?_,by show (rotC _ _).length≤4;rw [rotC_len];exact h.2,fun c hc=>⟨⟨(cols_short k c (rotC_mem.mp hc)).1,cn_asc _ (cols_as k c (rotC_mem.mp hc))⟩,(cols_short k c (rotC_mem.mp hc)).2⟩⟩
  have e':(rotC (bareCols k) (k/64%((bareCols k).length:Int)).toNat).length=([]:List Col).length:=congrArg List.length e
  rw [rotC_len] at e'
  simp at e'
  rw [e'] at h
  simp at h
 k1:=key_len k _
 ks:=fun x hx=>by
  obtain ⟨c,hc,rfl⟩:=key_inn k x hx
  exact ⟨(cols_short k c hc).1,cn_asc _ (cols_as k c hc)⟩
 inn:=fun x hx=>by
  obtain ⟨c,hc,e⟩:=key_inn k x hx
  exact ⟨c,rotC_mem.mpr hc,e⟩
 kn:=by
  show keyOf k (bareCols k)≠[]
  unfold keyOf
  split<;>(try split)<;>simp
 nd:=by
  show ((rotC (bareCols k) _).map (·.n)).Nodup
  have h:=cols_nd k
  unfold rotC
  rw [List.map_append]
  rw [← List.take_append_drop (k/64%((bareCols k).length:Int)).toNat (bareCols k),List.map_append] at h
  exact (List.perm_append_comm.nodup_iff).mp h
 kk:=fun c hc=>cols_two k c (rotC_mem.mp hc)
 as:=fun c hc=>cols_as k c (rotC_mem.mp hc)
 na:=ha
theorem enumT_map {α:Type} (enc:α→T):∀ (l:List α) (i:Nat),enumT (l.map enc) i=(l.zipIdx i).map fun p=>.tup [.int (p.2:Int),enc p.1]
 | [],_=>rfl
 | a::l,i=>by rw [List.map_cons,enumT,enumT_map enc l (i+1),List.zipIdx_cons,List.map_cons]
theorem enumT_len:∀ (l:List T) (i:Nat),(enumT l i).length=l.length
 | [],_=>rfl
 | a::l,i=>by rw [enumT,List.length_cons,List.length_cons,enumT_len l (i+1)]
theorem rule_form {G:Glo} (r:Rl) (e:Env):evE G (.bin .add (.tup [.idx (.var 0) (.cst (.int 0)),.blt .toTuple (.idx (.var 0) (.cst (.int 1)))]) (.sli (.var 0) (some (.cst (.int 2))) none)) (some r.raw::e)=some r.t:=by
 cases r with
 | ref cs t w=>simp [evE,evEs,evO,binT,addT,idxT,bltT,asI,sliT,SZ,Rl.raw,Rl.t,getI0,getI1,cut,clip,strT]
 | unl cs=>simp [evE,evEs,evO,binT,addT,idxT,bltT,asI,sliT,SZ,Rl.raw,Rl.t,getI0,getI1,cut,clip,strT]
 | chk t=>cases t<;>simp [evE,evEs,evO,binT,addT,idxT,bltT,asI,sliT,SZ,Rl.raw,Rl.t,Tst.t,getI0,getI1,cut,clip]
theorem rules_loop {P:Pr} (hd:P.fn "_law_drawn"=some d_law_drawn) (ht:P.fn "_law_test"=some d_law_test) (hp:P.fn "_law_pairs"=some d_law_pairs) (hr:P.fn "_law_rule"=some d_law_rule) (n:Nat)
  {bs:List Bt} (hb:∀ b∈bs,b.ok) {b:Bt} (hm:b∈bs) (k d c:Int) (s1 s2 s3 s5:T) (m:Nat) (hm3:m≤3) (s9 s10:Sl) :
  ∃ (rs:List Rl) (s9':Sl),loopM (fun x τ=>(bndS [9] x τ).bind fun τ'=>evSs (glo P (run P (n+6))) [.app 8 (.call "_law_rule" [.var 4,.var 6,.bin .fdiv (.call "_law_drawn" [.var 7,.var 9]) (.cst (.int 4))])] τ')
   ((List.range m).map fun (i:Nat)=>T.int (i:Int)) [.val (.int k),.val s1,.val s2,.val s3,.val (.lst (bs.map Bt.t)),.val s5,.val b.t,.val (.int d),.own [],s9,s10] =
   some (.nx [.val (.int k),.val s1,.val s2,.val s3,.val (.lst (bs.map Bt.t)),.val s5,.val b.t,.val (.int d),.own (rs.map Rl.raw),s9',s10])∧rs.length=m∧∀ r∈rs,r.ok∧r.asc∧r.fits (bs.map (·.nm)) b.cs:=by
 obtain ⟨τ',e,rs,s9',rfl,h1,h2⟩:=loopM_inv (enc:=fun (i:Nat)=>T.int (i:Int)) (f:=fun x τ=>(bndS [9] x τ).bind fun τ'=>evSs (glo P (run P (n+6))) [.app 8 (.call "_law_rule" [.var 4,.var 6,.bin .fdiv (.call "_law_drawn" [.var 7,.var 9]) (.cst (.int 4))])] τ')
  (fun done τ=>∃ rs s9',τ=[.val (.int k),.val s1,.val s2,.val s3,.val (.lst (bs.map Bt.t)),.val s5,.val b.t,.val (.int d),.own (rs.map Rl.raw),s9',s10]∧rs.length=done.length∧∀ r∈rs,r.ok∧r.asc∧r.fits (bs.map (·.nm)) b.cs)
  (List.range m) [.val (.int k),.val s1,.val s2,.val s3,.val (.lst (bs.map Bt.t)),.val s5,.val b.t,.val (.int d),.own [],s9,s10] ⟨[],s9,rfl,rfl,fun r h=>by cases h⟩ (by
   rintro done i rest hsp τ ⟨rs,s9',rfl,h1,h2⟩
   obtain ⟨r,er,hro⟩:=rule_run hd ht hp hr n hb hm (drawnI d i/4)
   have ed:=drawn_run hd (n+5) d i
   have hdl:done.length≤3:=by
    have:=congrArg List.length hsp
    simp at this
    omega
   have hz:rs.length<16777216:=by omega
   refine ⟨[.val (.int k),.val s1,.val s2,.val s3,.val (.lst (bs.map Bt.t)),.val s5,.val b.t,.val (.int d),.own ((rs++[r]).map Rl.raw),.val (.int i),s10],?_,rs++[r],_,rfl,by simp [h1],fun q hq=>?_⟩
   ·simp [evSs,evS,evE,evEs,view,frzAt,vars,varsL,Sl.get,Sl.frz,binT,fdivT,bndS,glo,SZ,ed,er,hz]
   ·rcases oma hq with z | z
    ·exact h2 q z
    ·rw [omg z];exact hro)
 exact ⟨rs,s9',e,by rw [h1];simp,h2⟩
end Ev.K04
end
end
noncomputable section
noncomputable section
namespace Ev.K04
open PySem
noncomputable def names4:List Str:=["item", "user", "box", "log"]
theorem names4_len:∀ x∈names4,x.length≤6:=by decide +kernel
theorem names4_as:∀ x∈names4,ascii x=true:=by decide +kernel
noncomputable def cnt6:List Int:=[2,1,3,4,2,3]
noncomputable def cnt5:List Int:=[1,2,0,1,3]
theorem cnt6_mem:∀ c∈cnt6,1≤c∧c≤4:=by decide
theorem cnt5_mem:∀ c∈cnt5,0≤c∧c≤3:=by decide
theorem getI_cnt6 (k:Int):∃ i∈cnt6,getI [.int 2,.int 1,.int 3,.int 4,.int 2,.int 3] (k%6)=some (.int i):=by
 obtain ⟨c,hc,e⟩:=getI_mem (enc:=T.int) (cs:=cnt6) (by simp [cnt6]) k
 exact ⟨c,hc,e⟩
theorem getI_cnt5 (k:Int):∃ i∈cnt5,getI [.int 1,.int 2,.int 0,.int 1,.int 3] (k%5)=some (.int i):=by
 obtain ⟨c,hc,e⟩:=getI_mem (enc:=T.int) (cs:=cnt5) (by simp [cnt5]) k
 exact ⟨c,hc,e⟩
theorem some_map {α β:Type} (f:α→β) (l:List α):(l.filterMap fun a=>some (f a))=l.map f:=by
 induction l with
 | nil=>rfl
 | cons a l ih=>simp [ih]
theorem evE_comp (G:Glo) (elt:E) (n:Nat) (k:Ik) (src:List E) (cond:Option E) (r:Env):evE G (.comp elt n k src cond) r=(evEs G src r).bind fun xs=>(itemsC k xs).bind fun its =>
   (compM (fun x=>(bnd n x r).bind fun r'=>(evO G cond r').bind fun c=>match c with
    | none=>(evE G elt r').map some
    | some (.bl true)=>(evE G elt r').map some
    | some (.bl false)=>some none
    | some _=>none) its).map .lst:=by rw [evE];try rfl
theorem evE_var (G:Glo) (i:Nat) (r:Env):evE G (.var i) r=(r[i]?).join:=by rw [evE]
theorem evE_blt (G:Glo) (f:Bn) (a:E) (r:Env):evE G (.blt f a) r=(evE G a r).bind fun x=>bltT f x:=by rw [evE]
theorem items_range (q:Nat) (h:q≤3):items .range [.int (q:Int)]=some ((List.range q).map fun (i:Nat)=>T.int (i:Int)):=by
 simp only [items,rangeT,Int.toNat_natCast]
 rw [if_pos (by omega)]
theorem loop_of {G:Glo} {is:List Nat} {k:Ik} {src:List E} {body:List S} {τ τ0:List Sl} {xs its:List T} {o:Out} (h0:frzAt (varsL src) τ=τ0) (h1:evEs G src (view τ0)=some xs) (h2:items k xs=some its)
  (h3:loopM (fun x τ=>(bndS is x τ).bind fun τ'=>evSs G body τ') its τ0=some o):evS G (.loop is k src body) τ=some o:=by
 rw [evS,h0,h1,Option.bind_some,h2,Option.bind_some]
 exact h3
noncomputable def sbody:List S:=[.asg 7 (.bin .fdiv (.call "_law_drawn" [.var 0,.bin .add (.cst (.int 20)) (.var 3)]) (.cst (.int 4))),
  .asg 8 (.lst []),
  .loop [9] .range [.idx (.tup [.cst (.int 1),.cst (.int 2),.cst (.int 0),.cst (.int 1),.cst (.int 3)]) (.bin .mod (.var 7) (.cst (.int 5)))] [.app 8 (.call "_law_rule" [.var 4,.var 6,.bin .fdiv (.call "_law_drawn" [.var 7,.var 9]) (.cst (.int 4))])],
  .asg 10 (.blt .toTuple (.comp (.bin .add (.tup [.idx (.var 0) (.cst (.int 0)),.blt .toTuple (.idx (.var 0) (.cst (.int 1)))]) (.sli (.var 0) (some (.cst (.int 2))) none)) 1 .plain [.var 8] none)),
  .asg 5 (.bin .add (.var 5) (.tup [.bin .add (.sli (.var 6) none (some (.cst (.int 3)))) (.tup [.var 10])]))]
set_option maxRecDepth 1000000 in
theorem schema_step {P:Pr} (hd:P.fn "_law_drawn"=some d_law_drawn) (ht:P.fn "_law_test"=some d_law_test) (hp:P.fn "_law_pairs"=some d_law_pairs) (hr:P.fn "_law_rule"=some d_law_rule) (n:Nat)
  {bs:List Bt} (hbo:∀ b∈bs,b.ok) {b:Bt} (hbm:b∈bs) (k:Int) (s1:T) (s2:Int) (i:Nat) (S:List Tb) (hS:S.length≤4) (s7 s8 s9 s10:Sl) :
  ∃ (rs:List Rl) (s9':Sl),evSs (glo P (run P (n+6))) sbody [.val (.int k),.val s1,.val (.int s2),.val (.int (i:Int)),.val (.lst (bs.map Bt.t)),.val (.tup (S.map Tb.t)),.val b.t,s7,s8,s9,s10] =
   some (.nx [.val (.int k),.val s1,.val (.int s2),.val (.int (i:Int)),.val (.lst (bs.map Bt.t)),.val (.tup ((S++[(⟨b.nm,b.cs,b.key,rs⟩:Tb)]).map Tb.t)),.val b.t,.val (.int (drawnI k (20+i)/4)),.val (.lst (rs.map Rl.raw)),s9',.val (.tup (rs.map Rl.t))])∧rs.length≤3∧∀ r∈rs,r.ok∧r.asc∧r.fits (bs.map (·.nm)) b.cs:=by
 have e1:=drawn_run hd (n+5) k (20+i)
 obtain ⟨c,hc,ecn⟩:=getI_cnt5 (drawnI k (20+i)/4)
 have hcm:=cnt5_mem c hc
 obtain ⟨q,rfl⟩:∃ q:Nat,c=(q:Int):=⟨c.toNat,by omega⟩
 have hq3:q≤3:=by omega
 obtain ⟨rs,s9',el,hrl,hro⟩:=rules_loop hd ht hp hr n hbo hbm k (drawnI k (20+i)/4) 0 s1 (.int s2) (.int (i:Int)) (.tup (S.map Tb.t)) q hq3 s9 s10
 have hz1:rs.length≤16777216:=by omega
 have hz2:S.length+1≤16777216:=by omega
 refine ⟨rs,s9',?_,by omega,hro⟩
 unfold sbody
 rw [nx_of (τ':=[.val (.int k),.val s1,.val (.int s2),.val (.int (i:Int)),.val (.lst (bs.map Bt.t)),.val (.tup (S.map Tb.t)),.val b.t,.val (.int (drawnI k (20+i)/4)),s8,s9,s10]) (by simp [evS,evE,evEs,view,frzAt,vars,varsL,Sl.get,Sl.frz,binT,addT,fdivT,slotOf,fresh,glo,SZ,e1])]
 rw [nx_of (τ':=[.val (.int k),.val s1,.val (.int s2),.val (.int (i:Int)),.val (.lst (bs.map Bt.t)),.val (.tup (S.map Tb.t)),.val b.t,.val (.int (drawnI k (20+i)/4)),.own [],s9,s10]) (by simp [evS,evE,evEs,frzAt,vars,varsL,slotOf,fresh])]
 rw [nx_of (s:=.loop _ _ _ _) (τ':=[.val (.int k),.val s1,.val (.int s2),.val (.int (i:Int)),.val (.lst (bs.map Bt.t)),.val (.tup (S.map Tb.t)),.val b.t,.val (.int (drawnI k (20+i)/4)),.own (rs.map Rl.raw),s9',s10]) (by
  refine loop_of (its:=(List.range q).map fun (i:Nat)=>T.int (i:Int)) (xs:=[.int (q:Int)]) (τ0:=[.val (.int k),.val s1,.val (.int s2),.val (.int (i:Int)),.val (.lst (bs.map Bt.t)),.val (.tup (S.map Tb.t)),.val b.t,.val (.int (drawnI k (20+i)/4)),.own [],s9,s10]) (by simp [varsL,vars,frzAt,Sl.frz]) ?_ (items_range q hq3) el
  simp [evE,evEs,view,Sl.get,binT,modT,idxT,ecn])]
 rw [nx_of (τ':=[.val (.int k),.val s1,.val (.int s2),.val (.int (i:Int)),.val (.lst (bs.map Bt.t)),.val (.tup (S.map Tb.t)),.val b.t,.val (.int (drawnI k (20+i)/4)),.val (.lst (rs.map Rl.raw)),s9',.val (.tup (rs.map Rl.t))]) (by
  simp only [evS,view,frzAt,vars,varsL,varsO,List.append_nil,List.nil_append,List.cons_append,List.filterMap_cons,List.filterMap_nil,Nat.reduceLeDiff,if_false,List.modify_succ_cons,List.modify_zero_cons,Sl.frz,List.map_cons,List.map_nil,Sl.get]
  rw [evE_blt,evE_comp]
  simp only [evEs,evE_var,List.getElem?_cons_succ,List.getElem?_cons_zero,Option.join_some,Option.bind_some,itemsC,items,List.length_map,SZ,hz1,if_true]
  rw [compM_map (enc:=Rl.raw) (fun r=>some r.t) (fun r _=>by
   simp only [bnd,if_true,Option.bind_some,evO]
   rw [rule_form]
   rfl),some_map]
  simp [slotOf,fresh,bltT])]
 simp [evSs,evS,evE,evEs,evO,view,frzAt,vars,varsL,varsO,Sl.get,Sl.frz,binT,addT,slotOf,fresh,asI,sliT,SZ,Bt.t,bareT,cut,clip,hz2,Tb.t]
theorem schema_run2 {P:Pr} (hd:P.fn "_law_drawn"=some d_law_drawn) (ht:P.fn "_law_test"=some d_law_test) (hp:P.fn "_law_pairs"=some d_law_pairs) (hr:P.fn "_law_rule"=some d_law_rule)
  (hb:P.fn "_law_bare"=some d_law_bare) (h:P.fn "_law_schema"=some d_law_schema) (n:Nat) (k:Int) :
  ∃ S:List Tb,run P (n+7) "_law_schema" [.int k]=some (.tup (S.map Tb.t))∧S.length≤4∧(∀ b∈S,b.ok)∧0<S.length∧(S.map (·.nm)).Nodup∧∀ b∈S,b.rs.length≤3∧∀ r∈b.rs,r.fits (S.map (·.nm)) b.cs:=by
 rw [run_succ h rfl]
 obtain ⟨c,hc,ec⟩:=getI_cnt6 (k/4)
 have hc':=cnt6_mem c hc
 obtain ⟨m,rfl⟩:∃ m:Nat,c=(m:Int):=⟨c.toNat,by omega⟩
 have hk0:0≤k%4:=Int.emod_nonneg _ (by decide)
 have hk1:k%4<4:=Int.emod_lt_of_pos _ (by decide)
 obtain ⟨j,hj⟩:∃ j:Nat,k%4=(j:Int):=⟨(k%4).toNat,by omega⟩
 have hjl:j≤(names4.map T.str).length:=by simp [names4];omega
 generalize hN:(rotC names4 j).take m=N
 have hNl:N.length≤4:=by rw [← hN,List.length_take,rotC_len];simp [names4];omega
 have hNp:0<N.length:=by rw [← hN,List.length_take,rotC_len];simp [names4];omega
 have hNs:∀ x∈N,x.length≤6:=fun x hx=>by rw [← hN] at hx;exact names4_len x (rotC_mem.mp (List.mem_of_mem_take hx))
 have hNa:∀ x∈N,ascii x=true:=fun x hx=>by rw [← hN] at hx;exact names4_as x (rotC_mem.mp (List.mem_of_mem_take hx))
 unfold d_law_schema
 dsimp only
 rw [nx_of (τ':=[.val (.int k),.own (names4.map .str),.no,.no,.no,.no,.no,.no,.no,.no,.no]) (by simp [evS,evE,evEs,begin',frzAt,vars,varsL,slotOf,fresh,names4])]
 rw [nx_of (τ':=[.val (.int k),.own (names4.map .str),.val (.int (j:Int)),.no,.no,.no,.no,.no,.no,.no,.no]) (by simp [evS,evE,view,frzAt,vars,Sl.get,Sl.frz,binT,modT,slotOf,fresh,hj])]
 rw [nx_of (τ':=[.val (.int k),.val (.lst (N.map .str)),.val (.int (j:Int)),.no,.no,.no,.no,.no,.no,.no,.no]) (by
  have hz:(names4.map T.str).length-j+min j (names4.map T.str).length≤16777216:=by simp [names4];omega
  have hz':names4.length-j+min j names4.length≤16777216:=by simpa using hz
  simp only [evS,evE,evEs,evO,view,frzAt,vars,varsL,varsO,List.append_nil,List.nil_append,List.cons_append,List.modify_succ_cons,List.modify_zero_cons,Sl.frz,List.map_cons,List.map_nil,Sl.get,List.getElem?_cons_succ,List.getElem?_cons_zero,Option.join_some,Option.bind_some,Option.map_some,asI,sliT,cut_from _ _ hjl,cut_to _ _ hjl]
  simp [binT,addT,modT,fdivT,slotOf,fresh,idxT,SZ,hz',ec,cut_to',rotC,← hN])]
 generalize hB:(N.zipIdx 0).map (fun p=>mkB p.1 (drawnI k p.2/4))=bs
 have hbl:bs.length=N.length:=by rw [← hB];simp
 have hbo:∀ b∈bs,b.ok:=fun b hb'=>by
  rw [← hB] at hb'
  obtain ⟨p,hp',rfl⟩:=omm hb'
  have hmm:p.1∈N:=by have:=List.mem_zipIdx' hp';rw [this.2];exact List.getElem_mem _
  exact mkB_ok _ (hNs _ hmm) (hNa _ hmm) _
 rw [nx_of (τ':=[.val (.int k),.val (.lst (N.map .str)),.val (.int (j:Int)),.no,.val (.lst (bs.map Bt.t)),.no,.no,.no,.no,.no,.no]) (by
  have hz:N.length≤16777216:=by omega
  simp only [evS,evE,evEs,evO,view,frzAt,vars,varsL,varsO,List.append_nil,List.nil_append,List.cons_append,List.filterMap_cons,List.filterMap_nil,Nat.reduceLeDiff,if_true,if_false,Nat.reduceSub,List.modify_succ_cons,List.modify_zero_cons,Sl.frz,List.map_cons,List.map_nil,Sl.get,List.getElem?_cons_succ,List.getElem?_cons_zero,Option.join_some,Option.bind_some,itemsC,items,enumT_len,List.length_map,SZ,hz]
  rw [enumT_map T.str N 0,compM_map (enc:=fun (p:Str × Nat)=>T.tup [.int (p.2:Int),.str p.1]) (fun p=>some (mkB p.1 (drawnI k p.2/4)).t) (fun p _=>by
   have e1:=drawn_run hd (n+5) k p.2
   have e2:=bare_run hd hb (n+4) p.1 (drawnI k p.2/4)
   simp [bnd,binT,fdivT,glo,e1,e2,mkB,Bt.t]),some_map]
  simp [slotOf,fresh,← hB])]
 rw [nx_of (τ':=[.val (.int k),.val (.lst (N.map .str)),.val (.int (j:Int)),.no,.val (.lst (bs.map Bt.t)),.val (.tup []),.no,.no,.no,.no,.no]) (by simp [evS,evE,evEs,frzAt,vars,varsL,slotOf,fresh])]
 obtain ⟨τ',e,S,s3,s6,s7,s8,s9,s10,rfl,h1,h2,h3,h4⟩:=loopM_inv (enc:=fun (p:Bt × Nat)=>T.tup [.int (p.2:Int),p.1.t]) (f:=fun x τ=>(bndS [3,6] x τ).bind fun τ'=>evSs (glo P (run P (n+6))) sbody τ')
  (fun done τ=>∃ (S:List Tb),∃ s3 s6 s7 s8 s9 s10,τ=[.val (.int k),.val (.lst (N.map .str)),.val (.int (j:Int)),s3,.val (.lst (bs.map Bt.t)),.val (.tup (S.map Tb.t)),s6,s7,s8,s9,s10]∧S.length=done.length∧(∀ b∈S,b.ok)∧S.map (·.nm)=done.map (·.1.nm)∧∀ b∈S,b.rs.length≤3∧∀ r∈b.rs,r.fits (bs.map (·.nm)) b.cs)
  (bs.zipIdx 0) [.val (.int k),.val (.lst (N.map .str)),.val (.int (j:Int)),.no,.val (.lst (bs.map Bt.t)),.val (.tup []),.no,.no,.no,.no,.no] ⟨[],_,_,_,_,_,_,rfl,rfl,(fun b hb'=>by cases hb'),rfl,fun b hb'=>by cases hb'⟩ (by
   rintro done ⟨b,i⟩ rest hsp τ ⟨S,s3,s6,s7,s8,s9,s10,rfl,h1,h2,h3,h4⟩
   have hbm:b∈bs:=by
    have:(b,i)∈bs.zipIdx 0:=by rw [hsp];simp
    have:=List.mem_zipIdx' this
    rw [this.2];exact List.getElem_mem _
   have hdl:done.length≤4:=by
    have:=congrArg List.length hsp
    simp at this
    omega
   obtain ⟨rs,s9',est,hrl,hro⟩:=schema_step hd ht hp hr n hbo hbm k (.lst (N.map .str)) (j:Int) i S (by omega) s7 s8 s9 s10
   refine ⟨[.val (.int k),.val (.lst (N.map .str)),.val (.int (j:Int)),.val (.int (i:Int)),.val (.lst (bs.map Bt.t)),.val (.tup ((S++[(⟨b.nm,b.cs,b.key,rs⟩:Tb)]).map Tb.t)),.val b.t,.val (.int (drawnI k (20+i)/4)),.val (.lst (rs.map Rl.raw)),s9',.val (.tup (rs.map Rl.t))],?_,S++[(⟨b.nm,b.cs,b.key,rs⟩:Tb)],_,_,_,_,_,_,rfl,by simp [h1],fun x hx=>?_,by simp [h3],fun x hx=>?_⟩
   ·simp only [bndS,setAll,Option.bind_some,List.set_cons_succ,List.set_cons_zero]
    exact est
   ·rcases oma hx with z | z
    ·exact h2 x z
    ·rw [omg z]
     have bo:=hbo b hbm
     exact ⟨bo.nm,bo.cs.2.1,bo.cs.2.2,bo.k1,bo.ks,by show rs.length≤4;omega,fun r hr=>(hro r hr).1,bo.kn,bo.cs.1,bo.nd,bo.kk,bo.as,bo.na,bo.inn,fun r hr=>(hro r hr).2.1,bo.kg⟩
   ·rcases oma hx with z | z
    ·exact h4 x z
    ·rw [omg z]
     exact ⟨by show rs.length≤3;omega,fun r hr=>(hro r hr).2.2⟩)
 rw [nx_of (s:=.loop _ _ _ _) (τ':=[.val (.int k),.val (.lst (N.map .str)),.val (.int (j:Int)),s3,.val (.lst (bs.map Bt.t)),.val (.tup (S.map Tb.t)),s6,s7,s8,s9,s10]) (by
  rw [evS]
  simp only [varsL,vars,List.append_nil,frzAt,evEs,evE,view,List.modify_succ_cons,List.modify_zero_cons,List.map_cons,Sl.get,Sl.frz,List.map_nil]
  simp only [List.getElem?_cons_succ,List.getElem?_cons_zero,Option.join_some,Option.bind_some,items,enumT_map]
  exact e)]
 refine ⟨S,by simp [evSs,evS,evE,view,frzAt,vars,Sl.get,Sl.frz,resultOf],by rw [h1];simp;omega,h2,by rw [h1];simp;omega,?_,?_⟩
 ·have e1:(bs.zipIdx 0).map (·.1.nm)=N:=by
   have z:(bs.zipIdx 0).map (·.1.nm)=((bs.zipIdx 0).map Prod.fst).map (·.nm):=by rw [List.map_map];rfl
   rw [z,List.zipIdx_map_fst,← hB,List.map_map]
   have y:(N.zipIdx 0).map ((·.nm)∘fun p=>mkB p.1 (drawnI k p.2/4))=(N.zipIdx 0).map Prod.fst:=rfl
   rw [y,List.zipIdx_map_fst]
  rw [h3,e1,← hN]
  have all:∀ j:Fin 4,∀ m:Fin 5,((rotC names4 j.val).take m.val).Nodup:=by decide +kernel
  exact all ⟨j,by omega⟩ ⟨m,by omega⟩
 ·have e2:S.map (·.nm)=bs.map (·.nm):=by
   have z:(bs.zipIdx 0).map (·.1.nm)=((bs.zipIdx 0).map Prod.fst).map (·.nm):=by rw [List.map_map];rfl
   rw [h3,z,List.zipIdx_map_fst]
  rw [e2]
  exact h4
end Ev.K04
end
end
noncomputable section
noncomputable section
namespace Ev.K04
open PySem
noncomputable def d_along_with:Fd:=⟨2,8,[.dnew 2,
  .loop [3,4,5] .plain [.var 0] [.ite (.cmp .eq (.idx (.var 4) (.cst (.int 3))) (.cst (.str "along"))) [.dapp 2 (.var 5) (.var 3)] []],
  .dnew1 6 (.var 1) (.cst (.bl true)),
  .asg 7 (.lst [.var 1]),
  .wloop 7 [.lpop 5 7,
  .loop [3] .plain [.dgt (.var 2) (.var 5) (.lst [])] [.ifnin (.var 3) 6 [.dput 6 (.var 3) (.cst (.bl true)),
  .app 7 (.var 3)]]],
  .ret (.var 6)]⟩
noncomputable def d_may_go:Fd:=⟨2,2,[.ret (.blt .toTuple (.blt .sorted (.call "along_with" [.call "references_between" [.var 0],.var 1])))]⟩
noncomputable def d_may_gap:Fd:=⟨2,2,[.ret (.call "names_that_refer" [.var 0,.var 1,.cst (.str "gap")])]⟩
noncomputable def d_may_hold:Fd:=⟨2,2,[.ret (.call "names_that_refer" [.var 0,.var 1,.cst (.str "stop")])]⟩
noncomputable def d_names_that_refer:Fd:=⟨3,5,[.asg 3 (.call "references_between" [.var 0]),
  .asg 4 (.call "along_with" [.var 3,.var 1]),
  .ret (.blt .toTuple (.blt .sset (.comp (.var 0) 3 .plain [.var 3] (some (.land (.cmp .eq (.idx (.var 1) (.cst (.int 3))) (.var 5)) (.cmp .isin (.var 2) (.var 7)))))))]⟩
noncomputable def d_references_between:Fd:=⟨1,3,[.asg 1 (.lst []),
  .loop [2] .plain [.var 0] [.ext 1 (.comp (.tup [.idx (.var 3) (.cst (.int 0)),.var 0,.idx (.var 0) (.cst (.int 2))]) 1 .plain [.idx (.var 2) (.cst (.int 3))] (some (.cmp .eq (.idx (.var 0) (.cst (.int 0))) (.cst (.str "refers")))))],
  .ret (.var 1)]⟩
noncomputable def d_law_refer:Fd:=⟨3,5,[.asg 3 (.lst []),
  .loop [4] .plain [.var 0] [.ite (.cmp .ne (.comp (.var 0) 1 .plain [.idx (.var 4) (.cst (.int 3))] (some (.land (.cmp .eq (.idx (.var 0) (.cst (.int 0))) (.cst (.str "refers"))) (.land (.cmp .isin (.idx (.var 0) (.cst (.int 2))) (.var 2)) (.cmp .eq (.idx (.var 0) (.cst (.int 3))) (.var 3)))))) (.lst [])) [.app 3 (.idx (.var 4) (.cst (.int 0)))] []],
  .ret (.blt .sorted (.var 3))]⟩
noncomputable def d_law60:Fd:=⟨1,5,[.asg 1 (.call "_law_schema" [.call "_law_mixed" [.var 0,.cst (.int 0)]]),
  .loop [2] .plain [.var 1] [.asg 3 (.lst [.idx (.var 2) (.cst (.int 0))]),
  .loop [4] .range [.cst (.int 5)] [.asg 3 (.blt .sset (.bin .add (.var 3) (.call "_law_refer" [.var 1,.var 3,.cst (.str "along")])))],
  .ite (.cmp .ne (.call "may_go" [.var 1,.idx (.var 2) (.cst (.int 0))]) (.blt .toTuple (.var 3))) [.ret (.cst (.bl false))] [],
  .ite (.cmp .ne (.call "may_gap" [.var 1,.idx (.var 2) (.cst (.int 0))]) (.blt .toTuple (.call "_law_refer" [.var 1,.var 3,.cst (.str "gap")]))) [.ret (.cst (.bl false))] [],
  .ite (.cmp .ne (.call "may_hold" [.var 1,.idx (.var 2) (.cst (.int 0))]) (.blt .toTuple (.call "_law_refer" [.var 1,.var 3,.cst (.str "stop")]))) [.ret (.cst (.bl false))] []],
  .ret (.cst (.bl true))]⟩
structure Rf where
 s:Str
 cs:List Str
 g:Str
 w:Str
noncomputable def Rf.t (r:Rf):T:=.tup [.str r.s,(Rl.ref r.cs r.g r.w).t,.str r.g]
noncomputable def rfO (nm:Str):Rl→Option Rf
 | .ref cs t w=>some ⟨nm,cs,t,w⟩
 | _=>none
noncomputable def refsB (b:Tb):List Rf:=b.rs.filterMap (rfO b.nm)
noncomputable def refs (S:List Tb):List Rf:=S.flatMap refsB
theorem refs_mem {S:List Tb} {r:Rf}:r∈refs S↔∃ b∈S,Rl.ref r.cs r.g r.w∈b.rs∧b.nm=r.s:=by
 unfold refs refsB
 rw [List.mem_flatMap]
 constructor
 ·rintro ⟨b,hb,h⟩
  obtain ⟨l,hl,e⟩:=List.mem_filterMap.mp h
  cases l with
  | ref cs t w=>cases e;exact ⟨b,hb,hl,rfl⟩
  | _=>cases e
 ·rintro ⟨b,hb,h,e⟩
  exact ⟨b,hb,List.mem_filterMap.mpr ⟨_,h,by rw [rfO,e]⟩⟩
theorem refs_len {S:List Tb} (h4:S.length≤4) (h3:∀ b∈S,b.rs.length≤3):(refs S).length≤12:=by
 have:∀ l:List Tb,(∀ b∈l,b.rs.length≤3)→(refs l).length≤3*l.length:=fun l=>by
  induction l with
  | nil=>intro _;exact Nat.le_refl _
  | cons b l ih =>
   intro h
   have h1:=ih fun c hc=>h c (.tail _ hc)
   have h2:=h b (.head _)
   have h3:(refsB b).length≤b.rs.length:=List.length_filterMap_le _ _
   rw [refs,List.flatMap_cons,List.length_append,List.length_cons]
   unfold refs at h1
   omega
 have:=this S h3
 omega
theorem bind_ss {α β:Type} {f:α→Option β} {x:Option α} {a:α} (h:x=some a):x.bind f=f a:=by rw [h];rfl
theorem rb_elt {G:Glo} (nm:Str) (cs:List Col) (key:List Str) (rs:List T) (r:Rl) (ρ:Env) (τ0 τ1:Option T) :
  ((bnd 1 r.t [τ0,τ1,some (bareT nm cs key rs)]).bind fun ρ'=>(evO G (some (.cmp .eq (.idx (.var 0) (.cst (.int 0))) (.cst (.str "refers")))) ρ').bind fun c=>match c with
   | none=>(evE G (.tup [.idx (.var 3) (.cst (.int 0)),.var 0,.idx (.var 0) (.cst (.int 2))]) ρ').map some
   | some (.bl true)=>(evE G (.tup [.idx (.var 3) (.cst (.int 0)),.var 0,.idx (.var 0) (.cst (.int 2))]) ρ').map some
   | some (.bl false)=>some none
   | some _=>none)=some ((rfO nm r).map Rf.t):=by
 cases r with
 | ref ks t w=>rfl
 | unl ks=>rfl
 | chk t=>rfl
theorem rb_run {P:Pr} (h:P.fn "references_between"=some d_references_between) (n:Nat) {S:List Tb} (h4:S.length≤4) (h3:∀ b∈S,b.rs.length≤3) :
  run P (n+1) "references_between" [.tup (S.map Tb.t)]=some (.lst ((refs S).map Rf.t)):=by
 rw [run_succ h rfl]
 have h0:evSs (glo P (run P n)) d_references_between.body [.val (.tup (S.map Tb.t)),.no,.no]=some (.rt (.lst ((refs S).map Rf.t))):=by
  refine (asg_p (t:=.lst []) (τ':=[.val (.tup (S.map Tb.t)),.own [],.no]) rfl rfl rfl).trans ?_
  obtain ⟨τ',e,s,rfl⟩:=loopM_inv (enc:=Tb.t) (f:=fun x τ=>(bndS [2] x τ).bind fun τ'=>evSs (glo P (run P n)) [.ext 1 (.comp (.tup [.idx (.var 3) (.cst (.int 0)),.var 0,.idx (.var 0) (.cst (.int 2))]) 1 .plain [.idx (.var 2) (.cst (.int 3))] (some (.cmp .eq (.idx (.var 0) (.cst (.int 0))) (.cst (.str "refers")))))] τ')
   (fun done τ=>∃ s,τ=[.val (.tup (S.map Tb.t)),.own ((refs done).map Rf.t),s]) S [.val (.tup (S.map Tb.t)),.own [],.no] ⟨.no,rfl⟩ fun l1 b l2 el τ hi=>by
    obtain ⟨s,rfl⟩:=hi
    have hb:b∈S:=by rw [el];simp
    refine ⟨[.val (.tup (S.map Tb.t)),.own ((refs (l1++[b])).map Rf.t),.val b.t],?_,_,rfl⟩
    have hlen:(refs l1).length≤12:=refs_len (by have:=congrArg List.length el;simp at this;omega) fun c hc=>h3 c (by rw [el];simp [hc])
    have hlb:(refsB b).length≤3:=Nat.le_trans (List.length_filterMap_le _ _) (h3 b hb)
    have hc:evE (glo P (run P n)) (.comp (.tup [.idx (.var 3) (.cst (.int 0)),.var 0,.idx (.var 0) (.cst (.int 2))]) 1 .plain [.idx (.var 2) (.cst (.int 3))] (some (.cmp .eq (.idx (.var 0) (.cst (.int 0))) (.cst (.str "refers")))))
      (view [.val (.tup (S.map Tb.t)),.own ((refs l1).map Rf.t),.val b.t])=some (.lst ((refsB b).map Rf.t)):=by
     rw [evE_comp]
     refine (bind_ss (a:=[T.tup (b.rs.map Rl.t)]) rfl).trans ?_
     refine (bind_ss (a:=b.rs.map Rl.t) (by
      show (if (b.rs.map Rl.t).length≤SZ then some (b.rs.map Rl.t) else none)=_
      rw [if_pos (by have:=h3 b hb;rw [List.length_map];unfold SZ;omega)])).trans ?_
     rw [compM_map (enc:=Rl.t) (fun r=>(rfO b.nm r).map Rf.t) (fun r hr=>rb_elt b.nm b.cs b.key _ r [] _ _)]
     unfold refsB
     rw [List.map_filterMap]
     rfl
    refine (nx_of (τ':=[.val (.tup (S.map Tb.t)),.own ((refs (l1++[b])).map Rf.t),.val b.t]) ?_).trans rfl
    rw [evS]
    refine (bind_ss hc).trans ?_
    show (if ((refs l1).map Rf.t).length+((refsB b).map Rf.t).length≤SZ then some (Out.nx [.val (.tup (S.map Tb.t)),.own ((refs l1).map Rf.t++(refsB b).map Rf.t),.val b.t]) else none)=_
    rw [if_pos (by rw [List.length_map,List.length_map];unfold SZ;omega),refs,refs,List.flatMap_append,List.map_append]
    simp
  refine (nx_of (loop_of (τ0:=[.val (.tup (S.map Tb.t)),.own [],.no]) rfl rfl rfl e)).trans ?_
  rfl
 exact (congrArg resultOf h0).trans rfl
abbrev kY (x:Str):Kt:=.inr (some x)
noncomputable def srcs (L:List Rf) (g:Str):List Str:=L.filterMap fun r=>if r.w==("along":Str)&&r.g==g then some r.s else none
noncomputable def valL (kvs:List (Kt × List T)) (q:Kt):List T:=(valP kvs q).getD []
theorem valP_sd (kvs:List (Kt × List T)) (q q':Kt):valL (sdP kvs q) q'=valL kvs q':=by
 unfold sdP valL
 split
 ·rfl
 ·rename_i h
  induction kvs with
  | nil =>
   show (if q=q' then some ([]:List T) else none).getD []=[]
   split<;>rfl
  | cons p r ih =>
   rw [List.cons_append,valP,valP]
   by_cases e:p.1=q'
   ·rw [if_pos e,if_pos e]
   ·rw [if_neg e,if_neg e]
    exact ih fun z=>h (by rw [List.any_cons,z,Bool.or_true])
theorem sd_in (kvs:List (Kt × List T)) (q:Kt):((sdP kvs q).any fun p=>decide (p.1=q))=true:=by
 unfold sdP
 split
 ·assumption
 ·rw [List.any_append,List.any_cons];simp
theorem valP_ap {q:Kt} (y:T) {kvs:List (Kt × List T)} (h:(kvs.any fun p=>decide (p.1=q))=true) (q':Kt):valL (apP kvs q y) q'=if q'=q then valL kvs q++[y] else valL kvs q':=by
 unfold apP valL
 have key:∀ kvs:List (Kt × List T),valP (kvs.map fun p=>if p.1=q then (p.1,p.2++[y]) else p) q'=(valP kvs q').map fun l=>if q'=q then l++[y] else l:=fun kvs=>by
  induction kvs with
  | nil=>rfl
  | cons p r ih =>
   rw [List.map_cons,valP,valP]
   by_cases e:p.1=q
   ·rw [if_pos e]
    by_cases e':p.1=q'
    ·rw [if_pos e',if_pos e',Option.map_some,if_pos (e'.symm.trans e)]
    ·rw [if_neg e',if_neg e',ih]
   ·rw [if_neg e]
    by_cases e':p.1=q'
    ·rw [if_pos e',if_pos e',Option.map_some,if_neg fun z=>e (e'.trans z)]
    ·rw [if_neg e',if_neg e',ih]
 have some':∀ kvs:List (Kt × List T),(kvs.any fun p=>decide (p.1=q))=true→∃ l,valP kvs q=some l:=fun kvs=>by
  induction kvs with
  | nil=>intro h;cases h
  | cons p r ih =>
   intro h
   rw [valP]
   by_cases e:p.1=q
   ·exact ⟨_,if_pos e⟩
   ·rw [if_neg e]
    rw [List.any_cons,decide_eq_false e,Bool.false_or] at h
    exact ih h
 rw [key]
 by_cases e:q'=q
 ·subst e
  obtain ⟨l,hl⟩:=some' kvs h
  rw [hl,if_pos rfl,Option.map_some,if_pos rfl];rfl
 ·rw [if_neg e]
  cases valP kvs q' with
  | none=>rfl
  | some l=>rw [Option.map_some,if_neg e]
theorem look_frz (q:Kt):∀ kvs:List (Kt × List T),(lookP (kvs.map (·.1)) (kvs.map fun p=>T.lst p.2) q).getD (.lst [])=.lst (valL kvs q)
 | []=>rfl
 | p::r=>by
  rw [List.map_cons,List.map_cons,lookP,valL,valP]
  by_cases e:p.1=q
  ·rw [if_pos e,if_pos e];rfl
  ·rw [if_neg e,if_neg e];exact look_frz q r
noncomputable def FolOk (s:Sl) (L:List Rf):Prop :=
 (s=.dk []∧∀ r∈L,(r.w==("along":Str))=false)∨∃ kvs,s=.dl kvs∧kvs.length≤L.length∧(∀ p∈kvs,p.2.length≤L.length)∧∀ g,valL kvs (kY g)=(srcs L g).map T.str
theorem srcs_app (L:List Rf) (r:Rf) (g:Str):srcs (L++[r]) g=srcs L g++(if r.w==("along":Str)&&r.g==g then [r.s] else []):=by
 unfold srcs
 rw [List.filterMap_append]
 congr 1
 rw [List.filterMap_cons,List.filterMap_nil]
 cases (r.w==("along":Str)&&r.g==g)<;>rfl
theorem srcs_none {L:List Rf} (h:∀ r∈L,(r.w==("along":Str))=false) (g:Str):srcs L g=[]:=by
 unfold srcs
 rw [List.filterMap_eq_nil_iff]
 intro r hr
 rw [h r hr];rfl
theorem fol_step {L:List Rf} {r:Rf} {kvs:List (Kt × List T)} (hw:(r.w==("along":Str))=true) (hl:kvs.length≤L.length) (hp:∀ p∈kvs,p.2.length≤L.length) (hv:∀ g,valL kvs (kY g)=(srcs L g).map T.str) :
  (∀ p∈sdP kvs (kY r.g),p.2.length≤L.length)∧FolOk (.dl (apP (sdP kvs (kY r.g)) (kY r.g) (.str r.s))) (L++[r]):=by
 have h1:∀ p∈sdP kvs (kY r.g),p.2.length≤L.length:=fun p hm=>by
  unfold sdP at hm
  split at hm
  ·exact hp p hm
  ·rcases oma hm with hm | hm
   ·exact hp p hm
   ·rw [omg hm];exact Nat.zero_le _
 refine ⟨h1,.inr ⟨_,rfl,?_,fun p hm=>?_,fun g=>?_⟩⟩
 ·unfold apP sdP
  rw [List.length_map,List.length_append,List.length_singleton]
  split
  ·omega
  ·rw [List.length_append,List.length_singleton];omega
 ·obtain ⟨p',hm',rfl⟩:=omm hm
  have:=h1 p' hm'
  rw [List.length_append,List.length_singleton]
  split
  ·rw [List.length_append,List.length_singleton];omega
  ·omega
 ·rw [valP_ap _ (sd_in _ _),valP_sd,valP_sd,srcs_app,hw,Bool.true_and,hv,hv]
  by_cases e:g=r.g
  ·subst e
   rw [if_pos rfl,beq_self_eq_true];simp
  ·rw [if_neg (fun z=>e (by cases z;rfl)),beq_eq_false_iff_ne.mpr (Ne.symm e)];simp
end Ev.K04
end
end
noncomputable section
noncomputable section
namespace Ev.K04
open PySem
noncomputable def aB1:List S:=[.ite (.cmp .eq (.idx (.var 4) (.cst (.int 3))) (.cst (.str "along"))) [.dapp 2 (.var 5) (.var 3)] []]
noncomputable def aB3:List S:=[.ifnin (.var 3) 6 [.dput 6 (.var 3) (.cst (.bl true)),.app 7 (.var 3)]]
noncomputable def aB2:List S:=[.lpop 5 7,.loop [3] .plain [.dgt (.var 2) (.var 5) (.lst [])] aB3]
theorem d_along_body:d_along_with.body=[.dnew 2,.loop [3,4,5] .plain [.var 0] aB1,.dnew1 6 (.var 1) (.cst (.bl true)),.asg 7 (.lst [.var 1]),.wloop 7 aB2,.ret (.var 6)]:=rfl
theorem fol_run {G:Glo} (RL ft:T) {L:List Rf} (hL:L.length≤12):∃ s2 s3 s4 s5,loopM (fun x τ=>(bndS [3,4,5] x τ).bind fun τ'=>evSs G aB1 τ') (L.map Rf.t) [.val RL,.val ft,.dk [],.no,.no,.no,.no,.no]=some (.nx [.val RL,.val ft,s2,s3,s4,s5,.no,.no])∧FolOk s2 L:=by
 obtain ⟨τ',e,s2,s3,s4,s5,rfl,hf⟩:=loopM_inv (enc:=Rf.t) (f:=fun x τ=>(bndS [3,4,5] x τ).bind fun τ'=>evSs G aB1 τ')
  (fun done τ=>∃ s2 s3 s4 s5,τ=[.val RL,.val ft,s2,s3,s4,s5,.no,.no]∧FolOk s2 done) L [.val RL,.val ft,.dk [],.no,.no,.no,.no,.no] ⟨_,_,_,_,rfl,.inl ⟨rfl,fun r hr=>nomatch hr⟩⟩ fun l1 r l2 el τ hi=>by
   obtain ⟨s2,s3,s4,s5,rfl,hf⟩:=hi
   have hl1:l1.length≤12:=by have:=congrArg List.length el;simp at this;omega
   have hb:∀ τ2,evSs G aB1 [.val RL,.val ft,s2,.val (.str r.s),.val (Rl.ref r.cs r.g r.w).t,.val (.str r.g),.no,.no]=some (.nx τ2)→(bndS [3,4,5] r.t [.val RL,.val ft,s2,s3,s4,s5,.no,.no]).bind (fun τ'=>evSs G aB1 τ')=some (.nx τ2):=fun τ2 h=>h
   have hc:evE G (.cmp .eq (.idx (.var 4) (.cst (.int 3))) (.cst (.str "along"))) (view [.val RL,.val ft,s2,.val (.str r.s),.val (Rl.ref r.cs r.g r.w).t,.val (.str r.g),.no,.no])=some (.bl (r.w==("along":Str))):=rfl
   cases hw:(r.w==("along":Str)) with
   | false =>
    rw [hw] at hc
    refine ⟨_,hb _ (ite_n rfl hc),s2,_,_,_,rfl,?_⟩
    rcases hf with ⟨h1,h2⟩ | ⟨kvs,h1,h2,h3,h4⟩
    ·exact .inl ⟨h1,fun r' hr=>(oma hr).elim (h2 r') fun z=>by rw [omg z];exact hw⟩
    ·refine .inr ⟨kvs,h1,by rw [List.length_append];omega,fun p hp=>by have:=h3 p hp;rw [List.length_append];omega,fun g=>?_⟩
     rw [h4,srcs_app,hw,Bool.false_and,if_neg Bool.false_ne_true,List.append_nil]
   | true =>
    rw [hw] at hc
    have hd:∀ kvs,(∀ p∈sdP kvs (kY r.g),p.2.length≤l1.length)→sdS [.val RL,.val ft,s2,.val (.str r.s),.val (Rl.ref r.cs r.g r.w).t,.val (.str r.g),.no,.no] 2 (kY r.g)=some (sdP kvs (kY r.g)) →
      evSs G aB1 [.val RL,.val ft,s2,.val (.str r.s),.val (Rl.ref r.cs r.g r.w).t,.val (.str r.g),.no,.no]=some (.nx [.val RL,.val ft,.dl (apP (sdP kvs (kY r.g)) (kY r.g) (.str r.s)),.val (.str r.s),.val (Rl.ref r.cs r.g r.w).t,.val (.str r.g),.no,.no]):=fun kvs h1 h2=>by
     refine (ite_x rfl hc (nx_of (ss:=[]) (τ':=[.val RL,.val ft,.dl (apP (sdP kvs (kY r.g)) (kY r.g) (.str r.s)),.val (.str r.s),.val (Rl.ref r.cs r.g r.w).t,.val (.str r.g),.no,.no]) ?_)).trans rfl
     rw [evS]
     show ((sdS [.val RL,.val ft,s2,.val (.str r.s),.val (Rl.ref r.cs r.g r.w).t,.val (.str r.g),.no,.no] 2 (kY r.g)).bind fun kvs=>if (kvs.all fun p=>decide (p.2.length<SZ))=true then some (Out.nx [.val RL,.val ft,.dl (apP kvs (kY r.g) (.str r.s)),.val (.str r.s),.val (Rl.ref r.cs r.g r.w).t,.val (.str r.g),.no,.no]) else none)=_
     rw [h2,Option.bind_some,if_pos (List.all_eq_true.mpr fun p hp=>decide_eq_true (by have:=h1 p hp;unfold SZ;omega))]
    rcases hf with ⟨rfl,h2⟩ | ⟨kvs,rfl,h2,h3,h4⟩
    ·obtain ⟨a1,a2⟩:=fol_step (L:=l1) (kvs:=[]) hw (Nat.zero_le _) (fun p hp=>nomatch hp) fun g=>by rw [srcs_none h2];rfl
     exact ⟨_,hb _ (hd [] a1 rfl),_,_,_,_,rfl,a2⟩
    ·obtain ⟨a1,a2⟩:=fol_step (L:=l1) hw h2 h3 h4
     refine ⟨_,hb _ (hd kvs a1 ?_),_,_,_,_,rfl,a2⟩
     show (if kvs.length<SZ then some (sdP kvs (kY r.g)) else none)=_
     rw [if_pos (by unfold SZ;omega)]
 exact ⟨s2,s3,s4,s5,e,hf⟩
theorem fol_frz {s:Sl} {L:List Rf} (h:FolOk s L):∃ ks vs,s.frz=.val (.dk ks vs)∧∀ g,dgtT (.dk ks vs) (.str g) (.lst [])=some (.lst ((srcs L g).map T.str)):=by
 rcases h with ⟨rfl,h2⟩ | ⟨kvs,rfl,_,_,h4⟩
 ·exact ⟨[],[],rfl,fun g=>by rw [srcs_none h2];rfl⟩
 ·refine ⟨_,_,rfl,fun g=>?_⟩
  show some ((lookP (kvs.map (·.1)) (kvs.map fun p=>T.lst p.2) (kY g)).getD (.lst []))=_
  rw [look_frz,h4]
inductive Rch (L:List Rf) (f:Str):Str→Prop
 | base:Rch L f f
 | step {x y:Str}:Rch L f x→y∈srcs L x→Rch L f y
theorem srcs_mem {L:List Rf} {g x:Str}:x∈srcs L g↔∃ r∈L,r.w="along"∧r.g=g∧r.s=x:=by
 unfold srcs
 rw [List.mem_filterMap]
 constructor
 ·rintro ⟨r,hr,h⟩
  split at h
  ·rename_i hc
   rw [Bool.and_eq_true] at hc
   cases h
   exact ⟨r,hr,eq_of_beq hc.1,eq_of_beq hc.2,rfl⟩
  ·cases h
 ·rintro ⟨r,hr,h1,h2,h3⟩
  refine ⟨r,hr,?_⟩
  rw [h1,h2,h3,beq_self_eq_true,beq_self_eq_true];rfl
noncomputable def gd (ks:List Str):List (Kt × T):=ks.map fun x=>(kY x,.bl true)
noncomputable def mu (C ks:List Str):Nat:=(C.filter fun x=>!decide (x∈ks)).length
theorem gd_any (ks:List Str) (x:Str):((gd ks).any fun p=>decide (p.1=kY x))=decide (x∈ks):=by
 unfold gd
 rw [List.any_map]
 induction ks with
 | nil=>rfl
 | cons y r ih =>
  rw [List.any_cons,ih]
  by_cases e:y=x
  ·subst e;simp
  ·have:¬ kY y=kY x:=fun z=>e (by cases z;rfl)
   have e':¬ x=y:=fun z=>e z.symm
   simp [this,e']
theorem mu_lt {C ks:List Str} {x:Str} (hc:x∈C) (hk:x∉ks):mu C (ks++[x])+1≤mu C ks:=by
 unfold mu
 have e:(C.filter fun y=>!decide (y∈ks++[x]))=(C.filter fun y=>!decide (y∈ks)).filter fun y=>!decide (y=x):=by
  rw [List.filter_filter]
  apply List.filter_congr
  intro y _
  simp []
  rw [Bool.and_comm]
 rw [e]
 have:((C.filter fun y=>!decide (y∈ks)).filter fun y=>!decide (y=x)).length<(C.filter fun y=>!decide (y∈ks)).length:=by
  rw [List.length_filter_lt_length_iff_exists]
  exact ⟨x,List.mem_filter.mpr ⟨hc,by simp [hk]⟩,by simp⟩
 omega
theorem inner_run {G:Glo} (C:List Str) (a b c d e:Sl):∀ (xs ks ws:List Str) (s3:Sl),(∀ x∈xs,x∈C)→ks.Nodup→ks.length+mu C ks≤13→ws.length+mu C ks≤13→(∀ x∈ws,x∈ks) →
  ∃ (ks' ws':List Str) (s3':Sl),loopM (fun x τ=>(bndS [3] x τ).bind fun τ'=>evSs G aB3 τ') (xs.map T.str) [a,b,c,s3,d,e,.dk (gd ks),.own (ws.map T.str)]=some (.nx [a,b,c,s3',d,e,.dk (gd ks'),.own (ws'.map T.str)]) ∧
   ks'.Nodup∧ks'.length+mu C ks'≤13∧ws'.length+mu C ks'≤ws.length+mu C ks∧(∀ x∈ws',x∈ks')∧(∀ x,x∈ks'↔x∈ks∨x∈xs)∧(∀ x∈ws,x∈ws')∧∀ x∈ks',x∉ks→x∈ws'
 | [],ks,ws,s3,_,nd,h1,h2,h3=>⟨ks,ws,s3,rfl,nd,h1,Nat.le_refl _,h3,fun x=>by simp,fun x hx=>hx,fun x hx hn=>absurd hx hn⟩
 | x::xs,ks,ws,s3,hC,nd,h1,h2,h3=>by
  have hev:∀ o,evS G (.ifnin (.var 3) 6 [.dput 6 (.var 3) (.cst (.bl true)),.app 7 (.var 3)]) [a,b,c,.val (.str x),d,e,.dk (gd ks),.own (ws.map T.str)]=some (.nx o) →
    loopM (fun x τ=>(bndS [3] x τ).bind fun τ'=>evSs G aB3 τ') ((x::xs).map T.str) [a,b,c,s3,d,e,.dk (gd ks),.own (ws.map T.str)]=loopM (fun x τ=>(bndS [3] x τ).bind fun τ'=>evSs G aB3 τ') (xs.map T.str) o:=fun o ho=>by
   rw [List.map_cons,loopM]
   refine bind_ss (a:=Out.nx o) ?_
   exact (nx_of (ss:=[]) ho).trans rfl
  have sh:evS G (.ifnin (.var 3) 6 [.dput 6 (.var 3) (.cst (.bl true)),.app 7 (.var 3)]) [a,b,c,.val (.str x),d,e,.dk (gd ks),.own (ws.map T.str)] =
    if ((gd ks).any fun p=>decide (p.1=kY x))=true then some (.nx [a,b,c,.val (.str x),d,e,.dk (gd ks),.own (ws.map T.str)]) else evSs G [.dput 6 (.var 3) (.cst (.bl true)),.app 7 (.var 3)] [a,b,c,.val (.str x),d,e,.dk (gd ks),.own (ws.map T.str)]:=by
   rw [evS];rfl
  rw [gd_any] at sh
  by_cases hk:x∈ks
  ·rw [decide_eq_true hk,if_pos rfl] at sh
   obtain ⟨ks',ws',s3',r1,r2,r3,r4,r5,r6,r7,r8⟩:=inner_run C a b c d e xs ks ws (.val (.str x)) (fun y hy=>hC y (.tail _ hy)) nd h1 h2 h3
   refine ⟨ks',ws',s3',(hev _ sh).trans r1,r2,r3,r4,r5,fun y=>?_,r7,r8⟩
   rw [r6,List.mem_cons]
   exact ⟨fun z=>z.imp id .inr,fun z=>z.elim .inl fun z=>z.elim (fun z=>.inl (by rw [z];exact hk)) .inr⟩
  ·rw [decide_eq_false hk,if_neg Bool.false_ne_true] at sh
   have hm:=mu_lt (hC x (.head _)) hk
   have hput:putP (gd ks) (kY x) (T.bl true)=gd (ks++[x]):=by
    unfold putP
    rw [gd_any,decide_eq_false hk,if_neg Bool.false_ne_true]
    unfold gd
    rw [List.map_append];rfl
   have s1:evSs G [.dput 6 (.var 3) (.cst (.bl true)),.app 7 (.var 3)] [a,b,c,.val (.str x),d,e,.dk (gd ks),.own (ws.map T.str)]=some (.nx [a,b,c,.val (.str x),d,e,.dk (gd (ks++[x])),.own ((ws++[x]).map T.str)]):=by
    refine (nx_of (τ':=[a,b,c,.val (.str x),d,e,.dk (gd (ks++[x])),.own (ws.map T.str)]) ?_).trans ?_
    ·rw [evS]
     show ((if (gd ks).length<SZ then some (Sl.dk (putP (gd ks) (kY x) (T.bl true))) else none).map fun s=>Out.nx [a,b,c,.val (.str x),d,e,s,.own (ws.map T.str)])=_
     rw [if_pos (by unfold gd SZ;rw [List.length_map];omega),hput];rfl
    ·refine (nx_of (ss:=[]) (τ':=[a,b,c,.val (.str x),d,e,.dk (gd (ks++[x])),.own ((ws++[x]).map T.str)]) ?_).trans rfl
     rw [evS]
     show (if (ws.map T.str).length<SZ then some (Out.nx [a,b,c,.val (.str x),d,e,.dk (gd (ks++[x])),.own (ws.map T.str++[T.str x])]) else none)=_
     rw [if_pos (by unfold SZ;rw [List.length_map];omega),List.map_append];rfl
   obtain ⟨ks',ws',s3',r1,r2,r3,r4,r5,r6,r7,r8⟩:=inner_run C a b c d e xs (ks++[x]) (ws++[x]) (.val (.str x)) (fun y hy=>hC y (.tail _ hy))
    (by rw [List.nodup_append];exact ⟨nd,by simp,fun y hy z hz=>by rw [omg hz];exact fun w=>hk (by rw [← w];exact hy)⟩)
    (by rw [List.length_append,List.length_singleton];omega) (by rw [List.length_append,List.length_singleton];omega)
    (fun y hy=>(oma hy).elim (fun z=>List.mem_append_left _ (h3 y z)) fun z=>List.mem_append_right _ z)
   refine ⟨ks',ws',s3',(hev _ (sh.trans s1)).trans r1,r2,r3,by rw [List.length_append,List.length_singleton] at r4;omega,r5,fun y=>?_,fun y hy=>r7 y (List.mem_append_left _ hy),fun y hy hn=>?_⟩
   ·rw [r6,List.mem_append,List.mem_singleton,List.mem_cons,or_assoc]
   ·by_cases e:y=x
    ·exact r7 y (by rw [e];simp)
    ·exact r8 y hy (by rw [List.mem_append,List.mem_singleton];exact fun z=>z.elim hn e)
theorem wl_run {G:Glo} {L:List Rf} {RL:T} {f:Str} {kd:List Kt} {vd:List T} (hD:∀ g,dgtT (.dk kd vd) (.str g) (.lst [])=some (.lst ((srcs L g).map T.str))) :
  ∀ (m:Nat) (ks ws:List Str) (s2 s3 s4 s5:Sl),s2.frz=.val (.dk kd vd)→ks.Nodup→ks.length+mu (L.map (·.s)) ks≤13→ws.length+mu (L.map (·.s)) ks<m→m≤14→(∀ x∈ws,x∈ks)→(∀ x∈ks,Rch L f x)→(∀ x∈ks,x∉ws→∀ y∈srcs L x,y∈ks) →
  ∃ (ks':List Str) (s2' s3' s5':Sl),(∀ k,whileM (fun τ=>evSs G aB2 τ) 7 (m+k) [.val RL,.val (.str f),s2,s3,s4,s5,.dk (gd ks),.own (ws.map T.str)]=some (.nx [.val RL,.val (.str f),s2',s3',s4,s5',.dk (gd ks'),.own []])) ∧
   ks'.Nodup∧ks'.length≤13∧(∀ x∈ks,x∈ks')∧(∀ x∈ks',Rch L f x)∧∀ x∈ks',∀ y∈srcs L x,y∈ks'
 | 0,_,ws,_,_,_,_,_,_,_,h,_,_,_,_=>absurd h (Nat.not_lt_zero _)
 | m+1,ks,ws,s2,s3,s4,s5,hs,nd,h1,h2,hm,h3,h4,h5=>by
  rcases List.eq_nil_or_concat ws with rfl | ⟨ws0,t,rfl⟩
  ·refine ⟨ks,s2,s3,s5,fun k=>?_,nd,by omega,fun x hx=>hx,h4,fun x hx=>h5 x hx (by simp)⟩
   rw [show m+1+k=(m+k)+1 by omega,whileM]
   rfl
  ·rw [List.concat_eq_append] at h2 h3 h5 ⊢
   rw [List.length_append,List.length_singleton] at h2
   obtain ⟨ks1,ws1,s3',r1,r2,r3,r4,r5,r6,r7,r8⟩:=inner_run (G:=G) (L.map (·.s)) (.val RL) (.val (.str f)) (.val (.dk kd vd)) s4 (.val (.str t)) (srcs L t) ks ws0 s3
    (fun x hx=>by obtain ⟨r,hr,_,_,e⟩:=srcs_mem.mp hx;exact List.mem_map.mpr ⟨r,hr,e⟩) nd h1 (by omega) (fun x hx=>h3 x (List.mem_append_left _ hx))
   have ht:t∈ks:=h3 t (by simp)
   obtain ⟨ks',s2',s3'',s5',e,q1,q2,q3,q4,q5⟩:=wl_run hD m ks1 ws1 (.val (.dk kd vd)) s3' s4 (.val (.str t)) rfl r2 r3 (by omega) (by omega) r5
    (fun x hx=>by
     rcases (r6 x).mp hx with hx | hx
     ·exact h4 x hx
     ·exact .step (h4 t ht) hx)
    (fun x hx hn y hy=>by
     by_cases hxk:x∈ks
     ·by_cases hxt:x=t
      ·subst hxt;exact (r6 y).mpr (.inr hy)
      ·exact (r6 y).mpr (.inl (h5 x hxk (fun z=>(oma z).elim (fun z=>hn (r7 x z)) fun z=>hxt (omg z)) y hy))
     ·exact absurd (r8 x hx hxk) hn)
   refine ⟨ks',s2',s3'',s5',fun k=>?_,q1,q2,fun x hx=>q3 x ((r6 x).mpr (.inl hx)),q4,q5⟩
   rw [show m+1+k=(m+k)+1 by omega,whileM]
   have hne:((ws0++[t]).map T.str).isEmpty=false:=by rw [List.map_append];cases ws0.map T.str<;>rfl
   have hb:evSs G aB2 [.val RL,.val (.str f),s2,s3,s4,s5,.dk (gd ks),.own ((ws0++[t]).map T.str)]=some (.nx [.val RL,.val (.str f),.val (.dk kd vd),s3',s4,.val (.str t),.dk (gd ks1),.own (ws1.map T.str)]):=by
    refine (nx_of (τ':=[.val RL,.val (.str f),s2,s3,s4,.val (.str t),.dk (gd ks),.own (ws0.map T.str)]) ?_).trans ?_
    ·rw [evS]
     have e1:((ws0++[t]).map T.str)[((ws0++[t]).map T.str).length-1]?=some (T.str t):=by rw [List.map_append];simp
     have e2:((ws0++[t]).map T.str).dropLast=ws0.map T.str:=by rw [List.map_append,List.map_cons,List.map_nil,List.dropLast_concat]
     show (match ((ws0++[t]).map T.str)[((ws0++[t]).map T.str).length-1]? with
      | some t'=>if 7=5 then none else some (Out.nx [.val RL,.val (.str f),s2,s3,s4,.val t',.dk (gd ks),.own ((ws0++[t]).map T.str).dropLast])
      | none=>none)=_
     rw [e1,e2];rfl
    ·refine (nx_of (ss:=[]) (loop_of (τ0:=[.val RL,.val (.str f),.val (.dk kd vd),s3,s4,.val (.str t),.dk (gd ks),.own (ws0.map T.str)]) (xs:=[.lst ((srcs L t).map T.str)]) (its:=(srcs L t).map T.str) ?_ ?_ rfl r1)).trans rfl
     ·show [.val RL,.val (.str f),s2.frz,s3,s4,.val (.str t),.dk (gd ks),.own (ws0.map T.str)]=_
      rw [hs]
     ·show ((dgtT (.dk kd vd) (.str t) (.lst [])).bind fun x=>some [x])=_
      rw [hD];rfl
   show (if ((ws0++[t]).map T.str).isEmpty=true then _ else ((fun τ=>evSs G aB2 τ) [.val RL,.val (.str f),s2,s3,s4,s5,.dk (gd ks),.own ((ws0++[t]).map T.str)]).bind _)=_
   rw [hne,if_neg Bool.false_ne_true]
   exact (bind_ss hb).trans (e k)
theorem along_run {P:Pr} (h:P.fn "along_with"=some d_along_with) (n:Nat) {L:List Rf} (hL:L.length≤12) (f:Str) :
  ∃ ks:List Str,run P (n+1) "along_with" [.lst (L.map Rf.t),.str f]=some (.dk (ks.map kY) (ks.map fun _=>.bl true))∧ks.Nodup∧ks.length≤13∧∀ x,x∈ks↔Rch L f x:=by
 obtain ⟨s2,s3,s4,s5,e1,hf⟩:=fol_run (G:=glo P (run P n)) (.lst (L.map Rf.t)) (.str f) hL
 obtain ⟨kd,vd,hz,hD⟩:=fol_frz hf
 have hmu:mu (L.map (·.s)) [f]≤12:=Nat.le_trans (List.length_filter_le _ _) (by rw [List.length_map];exact hL)
 obtain ⟨ks,s2',s3',s5',e2,q1,q2,q3,q4,q5⟩:=wl_run (G:=glo P (run P n)) (RL:=.lst (L.map Rf.t)) (f:=f) hD 14 [f] [f] s2 s3 s4 s5 hz (by simp) (by simp;omega) (by simp;omega) (Nat.le_refl _) (fun x hx=>hx) (fun x hx=>by rw [omg hx];exact .base) (fun x hx hn=>absurd hx hn)
 refine ⟨ks,?_,q1,q2,fun x=>⟨q4 x,fun hr=>?_⟩⟩
 ·rw [run_succ h rfl,d_along_body]
  have h0:evSs (glo P (run P n)) [.dnew 2,.loop [3,4,5] .plain [.var 0] aB1,.dnew1 6 (.var 1) (.cst (.bl true)),.asg 7 (.lst [.var 1]),.wloop 7 aB2,.ret (.var 6)] [.val (.lst (L.map Rf.t)),.val (.str f),.no,.no,.no,.no,.no,.no]=some (.rt (.dk (ks.map kY) (ks.map fun _=>.bl true))):=by
   refine (nx_of (τ':=[.val (.lst (L.map Rf.t)),.val (.str f),.dk [],.no,.no,.no,.no,.no]) (by rw [evS];rfl)).trans ?_
   refine (nx_of (loop_of (τ0:=[.val (.lst (L.map Rf.t)),.val (.str f),.dk [],.no,.no,.no,.no,.no]) rfl rfl rfl e1)).trans ?_
   refine (nx_of (τ':=[.val (.lst (L.map Rf.t)),.val (.str f),s2,s3,s4,s5,.dk (gd [f]),.no]) (by rw [evS];rfl)).trans ?_
   refine (asg_p (t:=.lst [.str f]) (τ':=[.val (.lst (L.map Rf.t)),.val (.str f),s2,s3,s4,s5,.dk (gd [f]),.own [.str f]]) rfl rfl rfl).trans ?_
   refine (nx_of (τ':=[.val (.lst (L.map Rf.t)),.val (.str f),s2',s3',s4,s5',.dk (gd ks),.own []]) (by rw [evS];exact e2 86)).trans ?_
   refine rt_of ?_
   rw [evS]
   show some (Out.rt (.dk ((gd ks).map (·.1)) ((gd ks).map (·.2))))=_
   unfold gd
   rw [List.map_map,List.map_map];rfl
  exact (congrArg resultOf h0).trans rfl
 ·induction hr with
  | base=>exact q3 f (by simp)
  | step _ hy ih=>exact q5 _ ih _ hy
end Ev.K04
end
end
noncomputable section
noncomputable section
namespace Ev.K04
open PySem
theorem evE_call (G:Glo) (f:Str) (es:List E) (r:Env):evE G (.call f es) r=(evEs G es r).bind fun xs=>G.call f xs:=by rw [evE]
theorem strK_map:∀ ks:List Str,strK (ks.map kY)=some ks
 | []=>rfl
 | k::ks=>by rw [List.map_cons,strK,strK_map ks];rfl
theorem txts_map:∀ ks:List Str,txts (ks.map T.str)=some ks
 | []=>rfl
 | k::ks=>by rw [List.map_cons,txts,txts_map ks];rfl
theorem sort_dk {ks:List Str} (vs:List T) (h:ks.length<64):bltT .sorted (.dk (ks.map kY) vs)=some (.lst ((sortS ks).map .str)):=by
 show (strK (ks.map kY)).bind sortT=_
 rw [strK_map,Option.bind_some,sortT,if_pos h]
theorem sort_lst {ks:List Str} (h:ks.length<64):bltT .sorted (.lst (ks.map .str))=some (.lst ((sortS ks).map .str)):=by
 show (txts (ks.map T.str)).bind sortT=_
 rw [txts_map,Option.bind_some,sortT,if_pos h]
theorem sset_lst {ks:List Str} (h:ks.length<64) (h4:(dedS ks).length≤4):bltT .sset (.lst (ks.map .str))=some (.lst ((sortS (dedS ks)).map .str)):=by
 show (txts (ks.map T.str)).bind ssetT=_
 rw [txts_map,Option.bind_some,ssetT,if_pos ⟨h,h4⟩]
theorem mem_sortS {x:Str} {l:List Str}:x∈sortS l↔x∈l:=(sortS_perm l).mem_iff
theorem sortS_same {l m:List Str} (h1:l.Nodup) (h2:m.Nodup) (h:∀ x,x∈l↔x∈m):sortS l=sortS m:=sortS_uniq ((List.perm_ext_iff_of_nodup h1 h2).mpr h)
theorem go_run {P:Pr} (hr:P.fn "references_between"=some d_references_between) (ha:P.fn "along_with"=some d_along_with) (h:P.fn "may_go"=some d_may_go) (n:Nat) {S:List Tb} (h4:S.length≤4) (h3:∀ b∈S,b.rs.length≤3) (f:Str) :
  ∃ ks:List Str,ks.Nodup∧(∀ x,x∈ks↔Rch (refs S) f x)∧run P (n+2) "may_go" [.tup (S.map Tb.t),.str f]=some (.tup ((sortS ks).map .str)):=by
 have hl:=refs_len h4 h3
 obtain ⟨ks,e,q1,q2,q3⟩:=along_run ha n hl f
 refine ⟨ks,q1,q3,?_⟩
 rw [run_succ h rfl]
 have h0:evSs (glo P (run P (n+1))) d_may_go.body [.val (.tup (S.map Tb.t)),.val (.str f)]=some (.rt (.tup ((sortS ks).map .str))):=by
  refine ret_p rfl ?_
  rw [evE_blt,evE_blt]
  refine (bind_ss (a:=T.lst ((sortS ks).map .str)) ((bind_ss (a:=T.dk (ks.map kY) (ks.map fun _=>.bl true)) ?_).trans (sort_dk _ (by omega)))).trans rfl
  rw [evE_call]
  refine (bind_ss (a:=[T.lst ((refs S).map Rf.t),T.str f]) ?_).trans e
  rw [evEs,evE_call]
  refine (bind_ss (a:=T.lst ((refs S).map Rf.t)) ((bind_ss (a:=[T.tup (S.map Tb.t)]) rfl).trans (rb_run hr n h4 h3))).trans rfl
 exact (congrArg resultOf h0).trans rfl
noncomputable def srcsW (L:List Rf) (way:Str) (ks:List Str):List Str:=L.filterMap fun r=>if r.w==way&&decide (r.g∈ks) then some r.s else none
theorem srcsW_mem {L:List Rf} {way:Str} {ks:List Str} {x:Str}:x∈srcsW L way ks↔∃ r∈L,r.w=way∧r.g∈ks∧r.s=x:=by
 unfold srcsW
 rw [List.mem_filterMap]
 constructor
 ·rintro ⟨r,hr,h⟩
  split at h
  ·rename_i hc
   rw [Bool.and_eq_true] at hc
   cases h
   exact ⟨r,hr,eq_of_beq hc.1,of_decide_eq_true hc.2,rfl⟩
  ·cases h
 ·rintro ⟨r,hr,h1,h2,h3⟩
  refine ⟨r,hr,?_⟩
  rw [h1,h3,beq_self_eq_true,decide_eq_true h2];rfl
theorem in_dk (ks:List Str) (vs:List T) (x:Str):inC (.str x) (.dk (ks.map kY) vs)=some (decide (x∈ks)):=by
 show some ((ks.map kY).any fun q=>decide (q=kY x))=_
 have:=gd_any ks x
 unfold gd at this
 rw [List.any_map] at this
 rw [List.any_map,← this];rfl
theorem nr_elt {G:Glo} (SC RL ft:T) (way:Str) (ks:List Str) (vs:List T) (r:Rf) :
  ((bnd 3 r.t [some SC,some ft,some (.str way),some RL,some (.dk (ks.map kY) vs)]).bind fun ρ'=>(evO G (some (.land (.cmp .eq (.idx (.var 1) (.cst (.int 3))) (.var 5)) (.cmp .isin (.var 2) (.var 7)))) ρ').bind fun c=>match c with
   | none=>(evE G (.var 0) ρ').map some
   | some (.bl true)=>(evE G (.var 0) ρ').map some
   | some (.bl false)=>some none
   | some _=>none)=some (if r.w==way&&decide (r.g∈ks) then some (T.str r.s) else none):=by
 have hi:evE G (.cmp .isin (.var 2) (.var 7)) [some (.str r.s),some (Rl.ref r.cs r.g r.w).t,some (.str r.g),some SC,some ft,some (.str way),some RL,some (.dk (ks.map kY) vs)]=some (.bl (decide (r.g∈ks))):=by
  rw [evE]
  show (inC (.str r.g) (.dk (ks.map kY) vs)).map T.bl=_
  rw [in_dk];rfl
 have hc:evE G (.land (.cmp .eq (.idx (.var 1) (.cst (.int 3))) (.var 5)) (.cmp .isin (.var 2) (.var 7))) [some (.str r.s),some (Rl.ref r.cs r.g r.w).t,some (.str r.g),some SC,some ft,some (.str way),some RL,some (.dk (ks.map kY) vs)]=some (.bl (r.w==way&&decide (r.g∈ks))):=by
  rw [evE]
  refine (bind_ss (a:=T.bl (r.w==way)) rfl).trans ?_
  cases (r.w==way) with
  | true=>exact hi
  | false=>rfl
 show ((evE G (.land (.cmp .eq (.idx (.var 1) (.cst (.int 3))) (.var 5)) (.cmp .isin (.var 2) (.var 7))) [some (.str r.s),some (Rl.ref r.cs r.g r.w).t,some (.str r.g),some SC,some ft,some (.str way),some RL,some (.dk (ks.map kY) vs)]).map some).bind _=_
 rw [hc]
 cases (r.w==way&&decide (r.g∈ks)) with
 | true=>rfl
 | false=>rfl
theorem nr_run {P:Pr} (hr:P.fn "references_between"=some d_references_between) (ha:P.fn "along_with"=some d_along_with) (h:P.fn "names_that_refer"=some d_names_that_refer) (n:Nat) {S:List Tb} (h4:S.length≤4) (h3:∀ b∈S,b.rs.length≤3) (f way:Str) :
  ∃ ks:List Str,(∀ x,x∈ks↔Rch (refs S) f x)∧run P (n+2) "names_that_refer" [.tup (S.map Tb.t),.str f,.str way]=some (.tup ((sortS (dedS (srcsW (refs S) way ks))).map .str)):=by
 have hl:=refs_len h4 h3
 obtain ⟨ks,e,q1,q2,q3⟩:=along_run ha n hl f
 refine ⟨ks,q3,?_⟩
 have hd:(dedS (srcsW (refs S) way ks)).length≤4:=by
  refine Nat.le_trans (sub_len (D:=S.map (·.nm)) (nd_dedS _) fun x hx=>?_) (by rw [List.length_map];exact h4)
  obtain ⟨r,hr,_,_,e⟩:=srcsW_mem.mp (mem_dedS.mp hx)
  obtain ⟨b,hb,_,e'⟩:=refs_mem.mp hr
  exact List.mem_map.mpr ⟨b,hb,e'.trans e⟩
 have hs:(srcsW (refs S) way ks).length<64:=Nat.lt_of_le_of_lt (List.length_filterMap_le _ _) (by omega)
 rw [run_succ h rfl]
 have h0:evSs (glo P (run P (n+1))) d_names_that_refer.body [.val (.tup (S.map Tb.t)),.val (.str f),.val (.str way),.no,.no]=some (.rt (.tup ((sortS (dedS (srcsW (refs S) way ks))).map .str))):=by
  refine (asg_p (t:=.lst ((refs S).map Rf.t)) (τ':=[.val (.tup (S.map Tb.t)),.val (.str f),.val (.str way),.val (.lst ((refs S).map Rf.t)),.no]) rfl ?_ rfl).trans ?_
  ·rw [evE_call]
   exact (bind_ss (a:=[T.tup (S.map Tb.t)]) rfl).trans (rb_run hr n h4 h3)
  refine (asg_p (t:=.dk (ks.map kY) (ks.map fun _=>.bl true)) (τ':=[.val (.tup (S.map Tb.t)),.val (.str f),.val (.str way),.val (.lst ((refs S).map Rf.t)),.val (.dk (ks.map kY) (ks.map fun _=>.bl true))]) rfl ?_ rfl).trans ?_
  ·rw [evE_call]
   exact (bind_ss (a:=[T.lst ((refs S).map Rf.t),T.str f]) rfl).trans e
  refine ret_p rfl ?_
  rw [evE_blt,evE_blt]
  refine (bind_ss (a:=T.lst ((sortS (dedS (srcsW (refs S) way ks))).map .str)) ((bind_ss (a:=T.lst ((srcsW (refs S) way ks).map .str)) ?_).trans (sset_lst hs hd))).trans rfl
  rw [evE_comp]
  refine (bind_ss (a:=[T.lst ((refs S).map Rf.t)]) rfl).trans ?_
  refine (bind_ss (a:=(refs S).map Rf.t) (by
   show (if ((refs S).map Rf.t).length≤SZ then some ((refs S).map Rf.t) else none)=_
   rw [if_pos (by rw [List.length_map];unfold SZ;omega)])).trans ?_
  rw [compM_map (enc:=Rf.t) (fun r=>if r.w==way&&decide (r.g∈ks) then some (T.str r.s) else none) (fun r hr=>nr_elt _ _ _ way ks _ r)]
  unfold srcsW
  rw [List.map_filterMap]
  show some (T.lst _)=some (T.lst _)
  refine congrArg (fun g=>some (T.lst (List.filterMap g (refs S)))) (funext fun r=>?_)
  cases (r.w==way&&decide (r.g∈ks))<;>rfl
 exact (congrArg resultOf h0).trans rfl
theorem way_run {P:Pr} {nm way:Str} {D:Fd} (hD:D=⟨2,2,[.ret (.call "names_that_refer" [.var 0,.var 1,.cst (.str way)])]⟩) (h:P.fn nm=some D) (n:Nat) (SC ft:T):run P (n+1) nm [SC,ft]=run P n "names_that_refer" [SC,ft,.str way]:=by
 subst hD
 rw [run_succ h rfl]
 have h0:evSs (glo P (run P n)) [.ret (.call "names_that_refer" [.var 0,.var 1,.cst (.str way)])] [.val SC,.val ft]=(run P n "names_that_refer" [SC,ft,.str way]).map .rt:=by
  rw [evSs,evS]
  show ((evE (glo P (run P n)) (.call "names_that_refer" [.var 0,.var 1,.cst (.str way)]) [some SC,some ft]).map Out.rt).bind _=_
  rw [evE_call]
  refine Eq.trans (b:=((run P n "names_that_refer" [SC,ft,.str way]).map Out.rt).bind fun o=>match o with
   | .nx τ'=>evSs (glo P (run P n)) [] τ'
   | o=>some o) rfl ?_
  cases run P n "names_that_refer" [SC,ft,.str way]<;>rfl
 refine (congrArg resultOf h0).trans ?_
 cases run P n "names_that_refer" [SC,ft,.str way]<;>rfl
noncomputable def isR (gs:List Str) (way:Str):Rl→Bool
 | .ref _ t w=>gs.any (fun y=>y==t)&&w==way
 | _=>false
noncomputable def refL (S:List Tb) (gs:List Str) (way:Str):List Str:=S.filterMap fun b=>if b.rs.any (isR gs way) then some b.nm else none
theorem refL_mem {S:List Tb} {gs:List Str} {way x:Str}:x∈refL S gs way↔∃ r∈refs S,r.w=way∧r.g∈gs∧r.s=x:=by
 unfold refL
 rw [List.mem_filterMap]
 constructor
 ·rintro ⟨b,hb,h⟩
  split at h
  ·rename_i hc
   cases h
   obtain ⟨r,hr,hi⟩:=List.any_eq_true.mp hc
   cases r with
   | ref cs t w =>
    have hi:(gs.any (fun y=>y==t)&&w==way)=true:=hi
    rw [Bool.and_eq_true] at hi
    obtain ⟨y,hy,e⟩:=List.any_eq_true.mp hi.1
    exact ⟨⟨b.nm,cs,t,w⟩,refs_mem.mpr ⟨b,hb,hr,rfl⟩,eq_of_beq hi.2,by rw [← eq_of_beq e];exact hy,rfl⟩
   | _=>cases hi
  ·cases h
 ·rintro ⟨r,hr,h1,h2,h3⟩
  obtain ⟨b,hb,hm,e⟩:=refs_mem.mp hr
  refine ⟨b,hb,?_⟩
  rw [if_pos,e,h3]
  refine List.any_eq_true.mpr ⟨_,hm,?_⟩
  show (gs.any (fun y=>y==r.g)&&r.w==way)=true
  rw [h1,beq_self_eq_true,Bool.and_true]
  exact List.any_eq_true.mpr ⟨_,h2,beq_self_eq_true _⟩
theorem lr_elt {G:Glo} (SC:T) (gs:List Str) (way:Str) (x3 x4:Option T) (r:Rl) :
  ((bnd 1 r.t [some SC,some (.lst (gs.map .str)),some (.str way),x3,x4]).bind fun ρ'=>(evO G (some (.land (.cmp .eq (.idx (.var 0) (.cst (.int 0))) (.cst (.str "refers"))) (.land (.cmp .isin (.idx (.var 0) (.cst (.int 2))) (.var 2)) (.cmp .eq (.idx (.var 0) (.cst (.int 3))) (.var 3))))) ρ').bind fun c=>match c with
   | none=>(evE G (.var 0) ρ').map some
   | some (.bl true)=>(evE G (.var 0) ρ').map some
   | some (.bl false)=>some none
   | some _=>none)=some (if isR gs way r then some r.t else none):=by
 cases r with
 | unl ks=>rfl
 | chk t=>rfl
 | ref cs t w =>
  have hi:evE G (.cmp .isin (.idx (.var 0) (.cst (.int 2))) (.var 2)) [some (Rl.ref cs t w).t,some SC,some (.lst (gs.map .str)),some (.str way),x3,x4]=some (.bl (gs.any fun y=>y==t)):=by
   rw [evE]
   show (if dpI (.str t) (gs.map .str)=true then some ((gs.map T.str).any fun z=>eqT z (.str t)) else none).map T.bl=_
   rw [dpI_str,if_pos rfl,str_in];rfl
  have hc:evE G (.land (.cmp .eq (.idx (.var 0) (.cst (.int 0))) (.cst (.str "refers"))) (.land (.cmp .isin (.idx (.var 0) (.cst (.int 2))) (.var 2)) (.cmp .eq (.idx (.var 0) (.cst (.int 3))) (.var 3)))) [some (Rl.ref cs t w).t,some SC,some (.lst (gs.map .str)),some (.str way),x3,x4]=some (.bl (gs.any (fun y=>y==t)&&w==way)):=by
   rw [evE]
   refine (bind_ss (a:=T.bl true) rfl).trans ?_
   show evE G (.land (.cmp .isin (.idx (.var 0) (.cst (.int 2))) (.var 2)) (.cmp .eq (.idx (.var 0) (.cst (.int 3))) (.var 3))) _=_
   rw [evE]
   refine (bind_ss hi).trans ?_
   cases (gs.any fun y=>y==t) with
   | true=>rfl
   | false=>rfl
  show ((evE G (.land (.cmp .eq (.idx (.var 0) (.cst (.int 0))) (.cst (.str "refers"))) (.land (.cmp .isin (.idx (.var 0) (.cst (.int 2))) (.var 2)) (.cmp .eq (.idx (.var 0) (.cst (.int 3))) (.var 3)))) [some (Rl.ref cs t w).t,some SC,some (.lst (gs.map .str)),some (.str way),x3,x4]).map some).bind _=some (if (gs.any (fun y=>y==t)&&w==way)=true then _ else _)
  rw [hc]
  cases (gs.any (fun y=>y==t)&&w==way) with
  | true=>rfl
  | false=>rfl
noncomputable def lrC:E:=.comp (.var 0) 1 .plain [.idx (.var 4) (.cst (.int 3))] (some (.land (.cmp .eq (.idx (.var 0) (.cst (.int 0))) (.cst (.str "refers"))) (.land (.cmp .isin (.idx (.var 0) (.cst (.int 2))) (.var 2)) (.cmp .eq (.idx (.var 0) (.cst (.int 3))) (.var 3)))))
theorem d_refer_body:d_law_refer.body=[.asg 3 (.lst []),.loop [4] .plain [.var 0] [.ite (.cmp .ne lrC (.lst [])) [.app 3 (.idx (.var 4) (.cst (.int 0)))] []],.ret (.blt .sorted (.var 3))]:=rfl
theorem lr_run {P:Pr} (h:P.fn "_law_refer"=some d_law_refer) (n:Nat) {S:List Tb} (h4:S.length≤4) (h3:∀ b∈S,b.rs.length≤3) (gs:List Str) (way:Str) :
  run P (n+1) "_law_refer" [.tup (S.map Tb.t),.lst (gs.map .str),.str way]=some (.lst ((sortS (refL S gs way)).map .str)):=by
 rw [run_succ h rfl,d_refer_body]
 have hlen:∀ l:List Tb,(refL l gs way).length≤l.length:=fun l=>List.length_filterMap_le _ _
 have h0:evSs (glo P (run P n)) [.asg 3 (.lst []),.loop [4] .plain [.var 0] [.ite (.cmp .ne lrC (.lst [])) [.app 3 (.idx (.var 4) (.cst (.int 0)))] []],.ret (.blt .sorted (.var 3))] [.val (.tup (S.map Tb.t)),.val (.lst (gs.map .str)),.val (.str way),.no,.no]=some (.rt (.lst ((sortS (refL S gs way)).map .str))):=by
  refine (asg_p (t:=.lst []) (τ':=[.val (.tup (S.map Tb.t)),.val (.lst (gs.map .str)),.val (.str way),.own [],.no]) rfl rfl rfl).trans ?_
  obtain ⟨τ',e,s,rfl⟩:=loopM_inv (enc:=Tb.t) (f:=fun x τ=>(bndS [4] x τ).bind fun τ'=>evSs (glo P (run P n)) [.ite (.cmp .ne lrC (.lst [])) [.app 3 (.idx (.var 4) (.cst (.int 0)))] []] τ')
   (fun done τ=>∃ s,τ=[.val (.tup (S.map Tb.t)),.val (.lst (gs.map .str)),.val (.str way),.own ((refL done gs way).map T.str),s]) S [.val (.tup (S.map Tb.t)),.val (.lst (gs.map .str)),.val (.str way),.own [],.no] ⟨.no,rfl⟩ fun l1 b l2 el τ hi=>by
    obtain ⟨s,rfl⟩:=hi
    have hb:b∈S:=by rw [el];simp
    have hl1:l1.length≤4:=by have:=congrArg List.length el;simp at this;omega
    refine ⟨[.val (.tup (S.map Tb.t)),.val (.lst (gs.map .str)),.val (.str way),.own ((refL (l1++[b]) gs way).map T.str),.val b.t],?_,_,rfl⟩
    have hc:evE (glo P (run P n)) lrC (view [.val (.tup (S.map Tb.t)),.val (.lst (gs.map .str)),.val (.str way),.own ((refL l1 gs way).map T.str),.val b.t])=some (.lst ((b.rs.filter (isR gs way)).map Rl.t)):=by
     rw [lrC,evE_comp]
     refine (bind_ss (a:=[T.tup (b.rs.map Rl.t)]) rfl).trans ?_
     refine (bind_ss (a:=b.rs.map Rl.t) (by
      show (if (b.rs.map Rl.t).length≤SZ then some (b.rs.map Rl.t) else none)=_
      rw [if_pos (by have:=h3 b hb;rw [List.length_map];unfold SZ;omega)])).trans ?_
     rw [compM_map (enc:=Rl.t) (fun r=>if isR gs way r then some r.t else none) (fun r hr=>lr_elt _ gs way _ _ r)]
     show some (T.lst _)=some (T.lst _)
     congr 2
     clear h3 el hb
     induction b.rs with
     | nil=>rfl
     | cons r l ih =>
      rw [List.filterMap_cons,List.filter_cons]
      cases isR gs way r with
      | true=>rw [if_pos rfl,if_pos rfl,List.map_cons,ih]
      | false=>rw [if_neg Bool.false_ne_true,if_neg Bool.false_ne_true];exact ih
    have hne:evE (glo P (run P n)) (.cmp .ne lrC (.lst [])) (view [.val (.tup (S.map Tb.t)),.val (.lst (gs.map .str)),.val (.str way),.own ((refL l1 gs way).map T.str),.val b.t])=some (.bl (b.rs.any (isR gs way))):=by
     rw [evE]
     refine (bind_ss hc).trans ?_
     show neC (.lst ((b.rs.filter (isR gs way)).map Rl.t)) (.lst [])=_
     unfold neC
     have hd:dpP (.lst ((b.rs.filter (isR gs way)).map Rl.t)) (.lst [])≤30:=by
      cases b.rs.filter (isR gs way)<;>exact Nat.le_of_ble_eq_true rfl
     rw [if_pos hd]
     show some (T.bl (!eqTs ((b.rs.filter (isR gs way)).map Rl.t) []))=_
     rw [eqTs_map_nil]
     congr 2
     clear h3 el hb hc hd
     induction b.rs with
     | nil=>rfl
     | cons r l ih =>
      rw [List.filter_cons,List.any_cons]
      cases isR gs way r with
      | true=>rfl
      | false=>rw [if_neg Bool.false_ne_true,Bool.false_or];exact ih
    have hap:refL (l1++[b]) gs way=refL l1 gs way++(if b.rs.any (isR gs way) then [b.nm] else []):=by
     unfold refL
     rw [List.filterMap_append]
     congr 1
     rw [List.filterMap_cons,List.filterMap_nil]
     cases b.rs.any (isR gs way)<;>rfl
    show evSs (glo P (run P n)) [.ite (.cmp .ne lrC (.lst [])) [.app 3 (.idx (.var 4) (.cst (.int 0)))] []] [.val (.tup (S.map Tb.t)),.val (.lst (gs.map .str)),.val (.str way),.own ((refL l1 gs way).map T.str),.val b.t]=_
    rw [hap]
    cases ha:b.rs.any (isR gs way) with
    | false =>
     rw [ha] at hne
     rw [if_neg Bool.false_ne_true,List.append_nil]
     exact ite_n rfl hne
    | true =>
     rw [ha] at hne
     rw [if_pos rfl]
     refine (ite_x rfl hne (nx_of (ss:=[]) (τ':=[.val (.tup (S.map Tb.t)),.val (.lst (gs.map .str)),.val (.str way),.own ((refL l1 gs way++[b.nm]).map T.str),.val b.t]) ?_)).trans rfl
     rw [evS]
     show (if ((refL l1 gs way).map T.str).length<SZ then some (Out.nx [.val (.tup (S.map Tb.t)),.val (.lst (gs.map .str)),.val (.str way),.own ((refL l1 gs way).map T.str++[T.str b.nm]),.val b.t]) else none)=_
     rw [if_pos (by have:=hlen l1;rw [List.length_map];unfold SZ;omega),List.map_append];rfl
  refine (nx_of (loop_of (τ0:=[.val (.tup (S.map Tb.t)),.val (.lst (gs.map .str)),.val (.str way),.own [],.no]) rfl rfl rfl e)).trans ?_
  refine rt_of ?_
  rw [evS]
  refine (congrArg (Option.map Out.rt) (?_:evE _ (.blt .sorted (.var 3)) [some (.tup (S.map Tb.t)),some (.lst (gs.map .str)),some (.str way),some (.lst ((refL S gs way).map .str)),s.get]=some (.lst ((sortS (refL S gs way)).map .str)))).trans rfl
  rw [evE_blt]
  exact (bind_ss (a:=T.lst ((refL S gs way).map .str)) rfl).trans (sort_lst (by have:=hlen S;omega))
 exact (congrArg resultOf h0).trans rfl
end Ev.K04
end
end
noncomputable section
noncomputable section
namespace Ev.K04
open PySem
noncomputable def stp (S:List Tb) (X:List Str):List Str:=sortS (dedS (X++sortS (refL S X "along")))
noncomputable def itr (S:List Tb) (nm:Str):Nat→List Str
 | 0=>[nm]
 | k+1=>stp S (itr S nm k)
theorem stp_mem {S:List Tb} {X:List Str} {x:Str}:x∈stp S X↔x∈X∨∃ g∈X,x∈srcs (refs S) g:=by
 unfold stp
 rw [mem_sortS,mem_dedS,List.mem_append,mem_sortS,refL_mem]
 refine or_congr Iff.rfl ⟨?_,?_⟩
 ·rintro ⟨r,hr,h1,h2,h3⟩
  exact ⟨r.g,h2,srcs_mem.mpr ⟨r,hr,h1,rfl,h3⟩⟩
 ·rintro ⟨g,hg,h⟩
  obtain ⟨r,hr,h1,h2,h3⟩:=srcs_mem.mp h
  exact ⟨r,hr,h1,by rw [h2];exact hg,h3⟩
theorem src_nm {S:List Tb} {g x:Str} (h:x∈srcs (refs S) g):x∈S.map (·.nm):=by
 obtain ⟨r,hr,_,_,e⟩:=srcs_mem.mp h
 obtain ⟨b,hb,_,e'⟩:=refs_mem.mp hr
 exact List.mem_map.mpr ⟨b,hb,e'.trans e⟩
structure Itr (S:List Tb) (nm:Str) (X:List Str):Prop where
 nd:X.Nodup
 ns:∀ x∈X,x∈S.map (·.nm)
 rc:∀ x∈X,Rch (refs S) nm x
 fs:nm∈X
theorem itr_ok {S:List Tb} {nm:Str} (hn:nm∈S.map (·.nm)):∀ k,Itr S nm (itr S nm k)
 | 0=>⟨by simp [itr],fun x hx=>by rw [omg hx];exact hn,fun x hx=>by rw [omg hx];exact .base,by simp [itr]⟩
 | k+1=>by
  have ih:=itr_ok hn k
  refine ⟨(sortS_perm _).nodup_iff.mpr (nd_dedS _),fun x hx=>?_,fun x hx=>?_,stp_mem.mpr (.inl ih.fs)⟩
  ·rcases stp_mem.mp hx with hx | ⟨g,_,hx⟩
   ·exact ih.ns x hx
   ·exact src_nm hx
  ·rcases stp_mem.mp hx with hx | ⟨g,hg,hx⟩
   ·exact ih.rc x hx
   ·exact .step (ih.rc g hg) hx
noncomputable def Cls (S:List Tb) (X:List Str):Prop:=∀ x∈X,∀ y∈srcs (refs S) x,y∈X
theorem itr_grow {S:List Tb} {nm:Str} (hn:nm∈S.map (·.nm)):∀ k,Cls S (itr S nm k)∨k+1≤(itr S nm k).length
 | 0=>.inr (Nat.le_refl _)
 | k+1=>by
  by_cases hc:Cls S (itr S nm k)
  ·refine .inl fun x hx y hy=>?_
   have hx':x∈itr S nm k:=(stp_mem.mp hx).elim id fun ⟨g,hg,h⟩=>hc g hg x h
   exact stp_mem.mpr (.inl (hc x hx' y hy))
  ·refine .inr ?_
   have h1:=(itr_grow hn k).resolve_left hc
   have:∃ x∈itr S nm k,∃ y∈srcs (refs S) x,y∉itr S nm k:=Classical.byContradiction fun z=>hc fun x hx y hy=>Classical.byContradiction fun w=>z ⟨x,hx,y,hy,w⟩
   obtain ⟨x,hx,y,hy,hyn⟩:=this
   have:=sub_len (l:=y::itr S nm k) (D:=itr S nm (k+1)) (List.nodup_cons.mpr ⟨hyn,(itr_ok hn k).nd⟩) fun z hz=>by
    rcases omc hz with rfl | hz
    ·exact stp_mem.mpr (.inr ⟨x,hx,hy⟩)
    ·exact stp_mem.mpr (.inl hz)
   rw [List.length_cons] at this
   omega
theorem itr_len {S:List Tb} {nm:Str} (h4:S.length≤4) (hn:nm∈S.map (·.nm)) (k:Nat):(itr S nm k).length≤4 :=
 Nat.le_trans (sub_len (itr_ok hn k).nd (itr_ok hn k).ns) (by rw [List.length_map];exact h4)
theorem itr_rch {S:List Tb} {nm:Str} (h4:S.length≤4) (hn:nm∈S.map (·.nm)) (x:Str):x∈itr S nm 5↔Rch (refs S) nm x:=by
 have hc:Cls S (itr S nm 5):=(itr_grow hn 5).resolve_right fun z=>by have:=itr_len h4 hn 5;omega
 refine ⟨(itr_ok hn 5).rc x,fun h=>?_⟩
 induction h with
 | base=>exact (itr_ok hn 5).fs
 | step _ hy ih=>exact hc _ ih _ hy
theorem ded_len {S:List Tb} {nm:Str} (h4:S.length≤4) (hn:nm∈S.map (·.nm)) (k:Nat):(dedS (itr S nm k++sortS (refL S (itr S nm k) "along"))).length≤4:=by
 have:=itr_len h4 hn (k+1)
 rw [itr,stp,(sortS_perm _).length_eq] at this
 exact this
theorem itr_sorted {S:List Tb} {nm:Str} {ks:List Str} (h4:S.length≤4) (hn:nm∈S.map (·.nm)) (nd:ks.Nodup) (h:∀ x,x∈ks↔Rch (refs S) nm x):sortS ks=itr S nm 5:=by
 show _=sortS (dedS (itr S nm 4++sortS (refL S (itr S nm 4) "along")))
 refine sortS_same nd (nd_dedS _) fun x=>?_
 rw [h,← itr_rch h4 hn]
 show x∈stp S (itr S nm 4)↔_
 unfold stp
 rw [mem_sortS]
theorem refL_nd {S:List Tb} (hn:(S.map (·.nm)).Nodup) (gs:List Str) (way:Str):(refL S gs way).Nodup:=by
 unfold refL
 have hs:(S.filterMap fun b=>if b.rs.any (isR gs way) then some b.nm else none).Sublist (S.map (·.nm)):=by
  clear hn
  induction S with
  | nil=>exact .slnil
  | cons b l ih =>
   rw [List.filterMap_cons,List.map_cons]
   cases b.rs.any (isR gs way) with
   | true=>exact ih.cons_cons _
   | false=>exact ih.cons _
 exact hn.sublist hs
theorem ref_sorted {S:List Tb} {nm way:Str} {ks:List Str} (h4:S.length≤4) (hn:nm∈S.map (·.nm)) (hS:(S.map (·.nm)).Nodup) (h:∀ x,x∈ks↔Rch (refs S) nm x):sortS (dedS (srcsW (refs S) way ks))=sortS (refL S (itr S nm 5) way):=by
 refine sortS_same (nd_dedS _) (refL_nd hS _ _) fun x=>?_
 rw [mem_dedS,srcsW_mem,refL_mem]
 constructor
 ·rintro ⟨r,hr,h1,h2,h3⟩
  exact ⟨r,hr,h1,(itr_rch h4 hn _).mpr ((h _).mp h2),h3⟩
 ·rintro ⟨r,hr,h1,h2,h3⟩
  exact ⟨r,hr,h1,(h _).mpr ((itr_rch h4 hn _).mp h2),h3⟩
end Ev.K04
end
end
noncomputable section
noncomputable section
namespace Ev.K04
open PySem
theorem ne_strs (l:List Str):neC (.tup (l.map .str)) (.tup (l.map .str))=some (.bl false):=by
 have h1:dpP (.tup (l.map .str)) (.tup (l.map .str))≤1:=by
  show dpPs (l.map .str) (l.map .str)+1≤1
  induction l with
  | nil=>exact Nat.le_refl _
  | cons x r ih =>
   have e:dpPs ((x::r).map T.str) ((x::r).map T.str)=max (dpP (.str x) (.str x)) (dpPs (r.map .str) (r.map .str)):=by rw [List.map_cons,dpPs]
   rw [e,dp_str]
   omega
 have h2:eqTs (l.map T.str) (l.map T.str)=true:=by
  clear h1
  induction l with
  | nil=>rfl
  | cons x r ih =>
   rw [List.map_cons,eqTs,ih,Bool.and_true]
   show (x==x)=true
   exact beq_self_eq_true x
 unfold neC
 rw [if_pos (by omega)]
 show some (T.bl (!eqTs (l.map T.str) (l.map T.str)))=_
 rw [h2];rfl
noncomputable def l6B:List S:=[.asg 3 (.lst [.idx (.var 2) (.cst (.int 0))]),
  .loop [4] .range [.cst (.int 5)] [.asg 3 (.blt .sset (.bin .add (.var 3) (.call "_law_refer" [.var 1,.var 3,.cst (.str "along")])))],
  .ite (.cmp .ne (.call "may_go" [.var 1,.idx (.var 2) (.cst (.int 0))]) (.blt .toTuple (.var 3))) [.ret (.cst (.bl false))] [],
  .ite (.cmp .ne (.call "may_gap" [.var 1,.idx (.var 2) (.cst (.int 0))]) (.blt .toTuple (.call "_law_refer" [.var 1,.var 3,.cst (.str "gap")]))) [.ret (.cst (.bl false))] [],
  .ite (.cmp .ne (.call "may_hold" [.var 1,.idx (.var 2) (.cst (.int 0))]) (.blt .toTuple (.call "_law_refer" [.var 1,.var 3,.cst (.str "stop")]))) [.ret (.cst (.bl false))] []]
theorem d_law_body:d_law60.body=[.asg 1 (.call "_law_schema" [.call "_law_mixed" [.var 0,.cst (.int 0)]]),.loop [2] .plain [.var 1] l6B,.ret (.cst (.bl true))]:=rfl
theorem items_r5:items .range [.int 5]=some ((List.range 5).map fun (i:Nat)=>T.int (i:Int)):=by
 show (if (-4611686018427387904:Int)≤5∧(5:Int)<4611686018427387904 then some (rangeT (5:Int).toNat) else none)=_
 rw [if_pos (by omega)]
 rfl
structure L60 (P:Pr):Prop where
 hr:P.fn "references_between"=some d_references_between
 ha:P.fn "along_with"=some d_along_with
 hg:P.fn "may_go"=some d_may_go
 hp:P.fn "may_gap"=some d_may_gap
 hh:P.fn "may_hold"=some d_may_hold
 hn:P.fn "names_that_refer"=some d_names_that_refer
 hl:P.fn "_law_refer"=some d_law_refer
end Ev.K04
end
end
noncomputable section
noncomputable section
namespace Ev.K04
open PySem
theorem ne_call {G:Glo} {f:Str} {SC bt:T} {nm:Str} {Y:List Str} {e:E} {ρ:Env} (h0:evEs G [.var 1,.idx (.var 2) (.cst (.int 0))] ρ=some [SC,.str nm]) (hf:G.call f [SC,.str nm]=some (.tup (Y.map .str))) (he:evE G e ρ=some (.tup (Y.map .str))) :
  evE G (.cmp .ne (.call f [.var 1,.idx (.var 2) (.cst (.int 0))]) e) ρ=some (.bl false):=by
 rw [evE,evE_call,h0,Option.bind_some,hf,Option.bind_some,he,Option.bind_some]
 show neC (.tup (Y.map .str)) (.tup (Y.map .str))=_
 exact ne_strs Y
theorem tup_call {G:Glo} {SC:T} {X Y:List Str} {way:Str} {ρ:Env} (h0:evEs G [.var 1,.var 3,.cst (.str way)] ρ=some [SC,.lst (X.map .str),.str way]) (h:G.call "_law_refer" [SC,.lst (X.map .str),.str way]=some (.lst (Y.map .str))) :
  evE G (.blt .toTuple (.call "_law_refer" [.var 1,.var 3,.cst (.str way)])) ρ=some (.tup (Y.map .str)):=by
 rw [evE_blt,evE_call,h0,Option.bind_some,h,Option.bind_some]
 rfl
noncomputable def l6T:List S:=[.ite (.cmp .ne (.call "may_go" [.var 1,.idx (.var 2) (.cst (.int 0))]) (.blt .toTuple (.var 3))) [.ret (.cst (.bl false))] [],
  .ite (.cmp .ne (.call "may_gap" [.var 1,.idx (.var 2) (.cst (.int 0))]) (.blt .toTuple (.call "_law_refer" [.var 1,.var 3,.cst (.str "gap")]))) [.ret (.cst (.bl false))] [],
  .ite (.cmp .ne (.call "may_hold" [.var 1,.idx (.var 2) (.cst (.int 0))]) (.blt .toTuple (.call "_law_refer" [.var 1,.var 3,.cst (.str "stop")]))) [.ret (.cst (.bl false))] []]
theorem l6_tail {G:Glo} {SC:T} {b:Tb} {X Y Z:List Str} {x0 s s4:Sl} (hz:s.frz=.val (.lst (X.map .str))) (g:G.call "may_go" [SC,.str b.nm]=some (.tup (X.map .str))) (p:G.call "may_gap" [SC,.str b.nm]=some (.tup (Y.map .str))) (q:G.call "may_hold" [SC,.str b.nm]=some (.tup (Z.map .str)))
  (lp:G.call "_law_refer" [SC,.lst (X.map .str),.str "gap"]=some (.lst (Y.map .str))) (lq:G.call "_law_refer" [SC,.lst (X.map .str),.str "stop"]=some (.lst (Z.map .str))) :
  evSs G l6T [x0,.val SC,.val b.t,s,s4]=some (.nx [x0,.val SC,.val b.t,.val (.lst (X.map .str)),s4]):=by
 have c1:evE G (.cmp .ne (.call "may_go" [.var 1,.idx (.var 2) (.cst (.int 0))]) (.blt .toTuple (.var 3))) [x0.get,some SC,some b.t,some (.lst (X.map .str)),s4.get]=some (.bl false):=ne_call (bt:=b.t) rfl g rfl
 have c2:=ne_call (bt:=b.t) (ρ:=[x0.get,some SC,some b.t,some (.lst (X.map .str)),s4.get]) rfl p (tup_call rfl lp)
 have c3:=ne_call (bt:=b.t) (ρ:=[x0.get,some SC,some b.t,some (.lst (X.map .str)),s4.get]) rfl q (tup_call rfl lq)
 refine (nx_of (τ':=[x0,.val SC,.val b.t,.val (.lst (X.map .str)),s4]) ?_).trans ?_
 ·rw [evS]
  show ((evE G (.cmp .ne (.call "may_go" [.var 1,.idx (.var 2) (.cst (.int 0))]) (.blt .toTuple (.var 3))) (view [x0,.val SC,.val b.t,s.frz,s4])).bind fun t=>match t with
   | .bl true=>evSs G [.ret (.cst (.bl false))] [x0,.val SC,.val b.t,s.frz,s4]
   | .bl false=>evSs G [] [x0,.val SC,.val b.t,s.frz,s4]
   | _=>none)=_
  rw [hz]
  exact (bind_ss c1).trans rfl
 refine (ite_n rfl c2).trans ?_
 exact (ite_n rfl c3).trans rfl
theorem l6_run {P:Pr} (H:L60 P) (n:Nat) (x0:Sl) {S:List Tb} (h4:S.length≤4) (h3:∀ b∈S,b.rs.length≤3) (hS:(S.map (·.nm)).Nodup) {b:Tb} (hb:b∈S) (s3 s4:Sl) :
  ∃ s3' s4',evSs (glo P (run P (n+3))) l6B [x0,.val (.tup (S.map Tb.t)),.val b.t,s3,s4]=some (.nx [x0,.val (.tup (S.map Tb.t)),.val b.t,s3',s4']):=by
 have hn:b.nm∈S.map (·.nm):=List.mem_map.mpr ⟨b,hb,rfl⟩
 obtain ⟨kg,g1,g2,g3⟩:=go_run H.hr H.ha H.hg (n+1) h4 h3 b.nm
 obtain ⟨kp,p1,p2⟩:=nr_run H.hr H.ha H.hn n h4 h3 b.nm "gap"
 obtain ⟨kh,q1,q2⟩:=nr_run H.hr H.ha H.hn n h4 h3 b.nm "stop"
 have p3:=(way_run (way:="gap") rfl H.hp (n+2) (.tup (S.map Tb.t)) (.str b.nm)).trans p2
 have q3:=(way_run (way:="stop") rfl H.hh (n+2) (.tup (S.map Tb.t)) (.str b.nm)).trans q2
 rw [itr_sorted h4 hn g1 g2] at g3
 rw [ref_sorted h4 hn hS p1] at p3
 rw [ref_sorted h4 hn hS q1] at q3
 obtain ⟨τ',e,s,s4',rfl,hz⟩:=loopM_inv (enc:=fun i:Nat=>T.int (i:Int)) (f:=fun x τ=>(bndS [4] x τ).bind fun τ'=>evSs (glo P (run P (n+3))) [.asg 3 (.blt .sset (.bin .add (.var 3) (.call "_law_refer" [.var 1,.var 3,.cst (.str "along")])))] τ')
  (fun done τ=>∃ s s4',τ=[x0,.val (.tup (S.map Tb.t)),.val b.t,s,s4']∧s.frz=.val (.lst ((itr S b.nm done.length).map .str))) (List.range 5) [x0,.val (.tup (S.map Tb.t)),.val b.t,.own [.str b.nm],s4] ⟨_,_,rfl,rfl⟩ fun l1 i l2 el τ hi=>by
   obtain ⟨s,s4',rfl,hz⟩:=hi
   refine ⟨[x0,.val (.tup (S.map Tb.t)),.val b.t,.val (.lst ((itr S b.nm (l1.length+1)).map .str)),.val (.int (i:Int))],?_,_,_,rfl,by rw [List.length_append,List.length_singleton];rfl⟩
   show evSs (glo P (run P (n+3))) [.asg 3 (.blt .sset (.bin .add (.var 3) (.call "_law_refer" [.var 1,.var 3,.cst (.str "along")])))] [x0,.val (.tup (S.map Tb.t)),.val b.t,s,.val (.int (i:Int))]=_
   have hl1:=itr_len h4 hn l1.length
   have hl2:(refL S (itr S b.nm l1.length) "along").length≤4:=Nat.le_trans (List.length_filterMap_le _ _) h4
   have hlr:=lr_run H.hl (n+2) h4 h3 (itr S b.nm l1.length) "along"
   have hs:(sortS (refL S (itr S b.nm l1.length) "along")).length≤4:=by rw [(sortS_perm _).length_eq];exact hl2
   refine (asg_q (ss:=[]) (τ0:=[x0,.val (.tup (S.map Tb.t)),.val b.t,.val (.lst ((itr S b.nm l1.length).map .str)),.val (.int (i:Int))]) (t:=.lst ((itr S b.nm (l1.length+1)).map .str)) ?_ ?_ rfl).trans rfl
   ·show [x0,.val (.tup (S.map Tb.t)),.val b.t,s.frz.frz,.val (.int (i:Int))]=_
    rw [hz];rfl
   ·rw [evE_blt]
    refine (bind_ss (a:=T.lst ((itr S b.nm l1.length++sortS (refL S (itr S b.nm l1.length) "along")).map .str)) ?_).trans (sset_lst (by rw [List.length_append];omega) (ded_len h4 hn _))
    rw [evE]
    refine (bind_ss (a:=T.lst ((itr S b.nm l1.length).map .str)) rfl).trans ?_
    rw [evE_call]
    refine (bind_ss (a:=T.lst ((sortS (refL S (itr S b.nm l1.length) "along")).map .str)) ((bind_ss (a:=[T.tup (S.map Tb.t),T.lst ((itr S b.nm l1.length).map .str),T.str "along"]) rfl).trans hlr)).trans ?_
    show (if ((itr S b.nm l1.length).map T.str).length+((sortS (refL S (itr S b.nm l1.length) "along")).map T.str).length≤SZ then some (T.lst ((itr S b.nm l1.length).map T.str++(sortS (refL S (itr S b.nm l1.length) "along")).map T.str)) else none)=_
    rw [if_pos (by rw [List.length_map,List.length_map];unfold SZ;omega),List.map_append]
 rw [List.length_range] at hz
 generalize itr S b.nm 5=X at g3 p3 q3 hz
 refine ⟨.val (.lst (X.map .str)),s4',?_⟩
 refine (asg_p (t:=.lst [.str b.nm]) (τ':=[x0,.val (.tup (S.map Tb.t)),.val b.t,.own [.str b.nm],s4]) rfl rfl rfl).trans ?_
 refine (nx_of (loop_of (τ0:=[x0,.val (.tup (S.map Tb.t)),.val b.t,.own [.str b.nm],s4]) (xs:=[.int 5]) (its:=(List.range 5).map fun (i:Nat)=>T.int (i:Int)) rfl rfl items_r5 e)).trans ?_
 exact l6_tail hz g3 p3 q3 (lr_run H.hl (n+2) h4 h3 _ "gap") (lr_run H.hl (n+2) h4 h3 _ "stop")
end Ev.K04
end
end
noncomputable section
noncomputable section
namespace Ev.K04
open PySem
theorem law60_gen {P:Pr} (n:Nat) (hc:P.fn "_law_cell_at"=some d_law_cell_at) (hm:P.fn "_law_mixed"=some d_law_mixed) (hd:P.fn "_law_drawn"=some d_law_drawn) (ht:P.fn "_law_test"=some d_law_test) (hp:P.fn "_law_pairs"=some d_law_pairs) (hr:P.fn "_law_rule"=some d_law_rule)
  (hb:P.fn "_law_bare"=some d_law_bare) (hs:P.fn "_law_schema"=some d_law_schema) (H:L60 P) (h:P.fn "law"=some d_law60) (ns:List Int):run P (n+8) "law" [.lst (ns.map .int)]=some (.bl true):=by
 obtain ⟨S,e1,h4,_,_,hS,hF⟩:=schema_run2 hd ht hp hr hb hs n (mixedI (cellI ns 0) 0)
 have em:=mixed_run hc hm (n+5) ns 0
 rw [run_succ h rfl,d_law_body]
 have h0:evSs (glo P (run P (n+7))) [.asg 1 (.call "_law_schema" [.call "_law_mixed" [.var 0,.cst (.int 0)]]),.loop [2] .plain [.var 1] l6B,.ret (.cst (.bl true))] [.val (.lst (ns.map .int)),.no,.no,.no,.no]=some (.rt (.bl true)):=by
  refine (asg_p (t:=.tup (S.map Tb.t)) (τ':=[.val (.lst (ns.map .int)),.val (.tup (S.map Tb.t)),.no,.no,.no]) rfl ?_ rfl).trans ?_
  ·rw [evE_call]
   refine (bind_ss (a:=[T.int (mixedI (cellI ns 0) 0)]) ?_).trans e1
   rw [evEs,evE_call]
   exact (bind_ss (a:=T.int (mixedI (cellI ns 0) 0)) ((bind_ss (a:=[T.lst (ns.map .int),T.int 0]) rfl).trans em)).trans rfl
  obtain ⟨τ',e,s2,s3,s4,rfl⟩:=loopM_inv (enc:=Tb.t) (f:=fun x τ=>(bndS [2] x τ).bind fun τ'=>evSs (glo P (run P (n+7))) l6B τ')
   (fun _ τ=>∃ s2 s3 s4,τ=[.val (.lst (ns.map .int)),.val (.tup (S.map Tb.t)),s2,s3,s4]) S [.val (.lst (ns.map .int)),.val (.tup (S.map Tb.t)),.no,.no,.no] ⟨_,_,_,rfl⟩ fun l1 b l2 el τ hi=>by
    obtain ⟨s2,s3,s4,rfl⟩:=hi
    obtain ⟨s3',s4',e⟩:=l6_run H (n+4) (.val (.lst (ns.map .int))) h4 (fun b hb=>(hF b hb).1) hS (b:=b) (by rw [el];simp) s3 s4
    exact ⟨_,e,_,_,_,rfl⟩
  refine (nx_of (loop_of (τ0:=[.val (.lst (ns.map .int)),.val (.tup (S.map Tb.t)),.no,.no,.no]) rfl rfl rfl e)).trans ?_
  exact ret_p rfl rfl
 exact (congrArg resultOf h0).trans rfl
theorem law60_run {P:Pr} (hc:P.fn "_law_cell_at"=some d_law_cell_at) (hm:P.fn "_law_mixed"=some d_law_mixed) (hd:P.fn "_law_drawn"=some d_law_drawn) (ht:P.fn "_law_test"=some d_law_test) (hp:P.fn "_law_pairs"=some d_law_pairs) (hr:P.fn "_law_rule"=some d_law_rule)
  (hb:P.fn "_law_bare"=some d_law_bare) (hs:P.fn "_law_schema"=some d_law_schema) (H:L60 P) (h:P.fn "law"=some d_law60) (ns:List Int):run P 20 "law" [.lst (ns.map .int)]=some (.bl true) :=
 law60_gen 12 hc hm hd ht hp hr hb hs H h ns
end Ev.K04
end
end
noncomputable section
noncomputable section
lay_quick PySem.Challenge.pw_dealtables_k60_reach
namespace Ev
open PySem PySem.Spec PyProof.Rows L2 K04
noncomputable def pT:Program:=PySem.W.Fast.tw5116751355929379555
theorem pT_eq:PySem.Challenge.pw_dealtables_k60_reach=pT:=PySem.W.Fast.te5116751355929379555
noncomputable def top (i:Nat):Stmt:=pT.main.body.getD i (.Pass ⟨0,0,0,0⟩)
noncomputable def tab:Tab:=("along_with",d_along_with,top 1,["references", "first"])::("may_go",d_may_go,top 3,["schema", "name"])::("may_gap",d_may_gap,top 4,["schema", "name"])::("may_hold",d_may_hold,top 5,["schema", "name"])::("names_that_refer",d_names_that_refer,top 6,["schema", "name", "way"])::("references_between",d_references_between,top 7,["schema"])::("_law_cell_at",d_law_cell_at,top 9,["_law_script", "_law_k"])::("_law_mixed",d_law_mixed,top 10,["_law_script", "_law_k"])::("_law_drawn",d_law_drawn,top 11,["_law_number", "_law_k"])::("_law_test",d_law_test,top 17,["_law_table_here", "_law_number", "_law_deep"])::("_law_bare",d_law_bare,top 18,["_law_name", "_law_number"])::("_law_pairs",d_law_pairs,top 19,["_law_table_here", "_law_kinds"])::("_law_rule",d_law_rule,top 20,["_law_bare_here", "_law_table_here", "_law_number"])::("_law_schema",d_law_schema,top 21,["_law_number"])::("_law_refer",d_law_refer,top 24,["_law_schema_here", "_law_goals", "_law_way"])::("law",d_law60,top 25,["_law_script"])::[]
noncomputable def cons:List (Str × T):=[]
theorem stAll:(tab.all fun p=>stOk p.2.1 p.2.2.1 p.2.2.2)=true:=by kernel_rfl
theorem trAll:(tab.map fun p=>trSs 60 ⟨defScope p.2.2.1,fnNames (defScope p.2.2.1)⟩ (defBody p.2.2.1))=tab.map fun p=>some p.2.1.body:=by kernel_rfl
theorem tab_st:∀ p∈tab,St p.1 p.2.1 p.2.2.1 p.2.2.2:=fun p hp=>st_of (oml stAll p hp) (List.map_inj_left.mp trAll p hp)
theorem law_mem:(("law":Str),d_law60,top 25,[("_law_script":Str)])∈tab:=(.tail _ (.tail _ (.tail _ (.tail _ (.tail _ (.tail _ (.tail _ (.tail _ (.tail _ (.tail _ (.tail _ (.tail _ (.tail _ (.tail _ (.tail _ (.head _))))))))))))))))
theorem law_pure:∀ ns:List Int,ns.length≤63→run (tab.pr cons) 20 "law" [.lst (ns.map .int)]=some (.bl true):=fun ns _=>K04.law60_run rfl rfl rfl rfl rfl rfl rfl rfl ⟨rfl,rfl,rfl,rfl,rfl,rfl,rfl⟩ rfl ns
end Ev
end
end
noncomputable section
noncomputable section
namespace Ev
open PySem PySem.Spec PySem.W PyProof.Rows L2
noncomputable def qT:Program:=PySem.W.view pT [1,3,4,5,6,7,9,10,11,12,13,14,15,16,17,18,19,20,21,22,23,24,25]
noncomputable def xT (s:Shared):Bool:=xlAt qT [] s&&recOk [] s
noncomputable def sts:List (Str × Stmt):=("along_with",top 1)::("may_go",top 3)::("may_gap",top 4)::("may_hold",top 5)::("names_that_refer",top 6)::("references_between",top 7)::("_law_cell_at",top 9)::("_law_mixed",top 10)::("_law_drawn",top 11)::("_law_test",top 17)::("_law_bare",top 18)::("_law_pairs",top 19)::("_law_rule",top 20)::("_law_schema",top 21)::("_law_refer",top 24)::("law",top 25)::[]
noncomputable def hkT:Hook:=seeHook sts ("_law_spoilt"::bnames) cons
noncomputable def hdL (w:World):=(openEnds treeTable pT w 1470).map fun s=>(openSeen qT [] (importedModules pT.main.body) xT true s,seeAll (sts.map (·.1)) ("_law_spoilt"::bnames) (cons.map (·.1)) s.heap)
noncomputable def hdR (w:World):=some (openGood qT [],dueAll sts ("_law_spoilt"::bnames) cons)
lay_quick Ev.hdL Ev.hdR
theorem hd_left:∀ w,PySem.W.Fast.tw16613198539260469538 w=PySem.W.Fast.tw4742246816059606431 w:=fun w=>by kernel_rfl
theorem hd_left':LeftO PySem.Challenge.pw_dealtables_k60_reach qT [] xT hkT.obs hkT.val 1470:=by
 rw [pT_eq]
 exact fun w=>((congrFun PySem.W.Fast.te16613198539260469538 w).trans (hd_left w)).trans (congrFun PySem.W.Fast.te4742246816059606431 w).symm
theorem nm_law:("law":Str)=⟨#[108,97,119]⟩:=by decide +kernel
noncomputable def dL:DefRec:=⟨⟨#[108,97,119]⟩,defArgs (top 25),defBody (top 25),defScope (top 25),(match top 25 with | .FunctionDef _ _ _ _ _ _ _ _ _ p=>p | _=>⟨0,0,0,0⟩)⟩
theorem hd_def:defOf qT ("law":Str)=some (dL,[]):=by rw [nm_law];kernel_rfl
theorem hd_the:Program.theDef PySem.Challenge.pw_dealtables_k60_reach ("law":Str)=some (dL.params,dL.body,dL.scope):=by rw [pT_eq,nm_law];kernel_rfl
end Ev
open PySem PySem.W PyProof.Rows
set_option maxRecDepth 100000 in
set_option maxHeartbeats 0 in
theorem PySem.Challenge.cw_dealtables_k60_reach_holds : PySem.Challenge.rw_dealtables_k60_reach.Holds := by
 w_on;o_law
 refine PySem.W.holds_open (q:=Ev.qT) (loose:=[]) (Xt:=Ev.xT) (XP:=XL Ev.qT []) (Yf:=Ev.hkT.obs) (Ya:=Ev.hkT.val) (YP:=Ev.hkT.says) (N:=1470) Ev.hd_left' Ev.hkT.of Ev.hkT.keeps (fun s e=>xl_of s (Bool.and_eq_true_iff.mp e).1) XL.keeps Ev.hd_def Ev.hd_the rfl (fun s e=>recFacts_of (Bool.and_eq_true_iff.mp e).2) rfl (by assumption) (by first | k_qdec | decide +kernel) ⟨rfl,rfl,rfl,rfl,rfl,by decide +kernel⟩ ?hw ?hc
 case hw=>w_witness2
 case hc=>exact Ev.walk_see (l:=PySem.Challenge.rw_dealtables_k60_reach) (n:=63) (k:=20) (x:="_law_script") (fs:=Ev.tab.sts) (R:=Ev.tab.pr Ev.cons) rfl (by decide) rfl ⟨rfl,by decide,by decide⟩ (fun w mg fa h0 h KX e0 G hmg=>Ev.all_see Ev.tab_st KX e0 G (by rw [Ev.nm_law];exact hmg) Ev.law_mem rfl) (.head _) Ev.law_pure
end
end
