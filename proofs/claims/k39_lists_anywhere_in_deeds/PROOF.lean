import PyProof.Rows.All
import Wide.All
import OpenK.AllK
import Wide.FinOn
import Lean
import PyProof.EqAt
import PyProof.EqKinds
import PyProof.TupleCall
import PySem.Syntax
import PySem.Builtin.Str.Common
import PySem.Eval
import PyProof.CompFree
import PyProof.Cells
import PyProof.NeKinds
import PyProof.FString5
import PyProof.Draws
import PyProof.EnumMake
import PyProof.TupleIter
import PyProof.EnumFor
import PyProof.ZipIter
import PyProof.DictDisplay
import PyProof.DictCalls
import PyProof.DictStraight
import PyProof.DictKinds
import PyProof.Rows.SetFrom
import PyProof.Rows.SetListFold
import KE.KLam
import PySem.Challenge.RW_dealtables_k39_lists_anywhere_in_deeds
set_option Elab.async false
set_option linter.all false
set_option maxRecDepth 100000
set_option maxHeartbeats 8000000
theorem obs {α β:Type} {o:Option α} {f:α→Option β} {b:β}:o.bind f=some b→∃ a,o=some a∧f a=some b:=Option.bind_eq_some_iff.mp
theorem oms {α β:Type} {o:Option α} {f:α→β} {b:β}:o.map f=some b→∃ a,o=some a∧f a=b:=Option.map_eq_some_iff.mp
section
namespace L2
open PySem PySem.Spec PyProof.Rows
abbrev Key:=Sum Int Str
def keyIs:Key→Value→Bool
 | .inl k,v=>Value.isInt k v
 | .inr x,v=>Value.isStrOf x v
def keyH (w:World):Key→Int
 | .inl k=>hashInt k
 | .inr x=>hashStr w x
theorem keyIs_shape:∀ {k:Key} {v:Value},keyIs k v=true→(∃ i t,k=Sum.inl i∧v=Value.int i t)∨(∃ x t,k=Sum.inr x∧v=Value.str x t)
 | .inl i,v,h=>by
  obtain ⟨t,e⟩:=Value.isInt_shape (k:=i) (v:=v) h
  exact .inl ⟨i,t,rfl,e⟩
 | .inr x,v,h=>by
  obtain ⟨t,e⟩:=Value.isStrOf_shape (x:=x) (v:=v) h
  exact .inr ⟨x,t,rfl,e⟩
theorem keyIs_int (i:Int) (t:Tok):keyIs (.inl i) (.int i t)=true:=by simp [keyIs,Value.isInt]
theorem keyIs_str (x:Str) (t:Tok):keyIs (.inr x) (.str x t)=true:=by simp [keyIs,Value.isStrOf]
theorem key_ll (a b:Int):decide ((Sum.inl a:Key)=Sum.inl b)=(a==b):=by
 by_cases e:a=b
 ·subst e;simp
 ·have h:¬ (Sum.inl a:Key)=Sum.inl b:=fun q=>e (Sum.inl.inj q)
  rw [decide_eq_false h]
  exact (beq_eq_false_iff_ne.mpr e).symm
theorem key_rr (a b:Str):decide ((Sum.inr a:Key)=Sum.inr b)=decide (a=b):=by
 by_cases e:a=b
 ·subst e;simp
 ·have h:¬ (Sum.inr a:Key)=Sum.inr b:=fun q=>e (Sum.inr.inj q)
  rw [decide_eq_false h,decide_eq_false e]
theorem key_lr (a:Int) (b:Str):decide ((Sum.inl a:Key)=Sum.inr b)=false:=decide_eq_false (fun q=>nomatch q)
theorem key_rl (a:Str) (b:Int):decide ((Sum.inr a:Key)=Sum.inl b)=false:=decide_eq_false (fun q=>nomatch q)
def mixKind (prog:Program) (w:World):PySem.KeyKind prog w Key where
 is:=keyIs
 hash:=keyH w
 inj:=fun v a b ha hb=>by
  rcases keyIs_shape ha with ⟨i,t,rfl,rfl⟩ | ⟨x,t,rfl,rfl⟩
  ·rcases keyIs_shape hb with ⟨j,u,rfl,e⟩ | ⟨y,u,rfl,e⟩
   ·injection e with e1 _;rw [e1]
   ·exact nomatch e
  ·rcases keyIs_shape hb with ⟨j,u,rfl,e⟩ | ⟨y,u,rfl,e⟩
   ·exact nomatch e
   ·injection e with e1 _;rw [e1]
 byValue:=fun k v h=>by
  rcases keyIs_shape h with ⟨i,t,rfl,rfl⟩ | ⟨x,t,rfl,rfl⟩<;>rfl
 pyHash:=fun hv h=>by
  rcases keyIs_shape hv with ⟨i,t,rfl,rfl⟩ | ⟨x,t,rfl,rfl⟩
  ·exact wpAny_pyHash_int h
  ·exact wpAny_pyHash_str h
 eqBool:=fun hu hv h=>by
  rcases keyIs_shape hu with ⟨i,t,rfl,rfl⟩ | ⟨x,t,rfl,rfl⟩
  ·rcases keyIs_shape hv with ⟨j,u,rfl,rfl⟩ | ⟨y,u,rfl,rfl⟩
   ·rw [key_ll] at h;exact wpAny_eqBool_int h
   ·rw [key_lr] at h;exact SeqAt.EqAt.int_str i t y u _ _ _ _ h
  ·rcases keyIs_shape hv with ⟨j,u,rfl,rfl⟩ | ⟨y,u,rfl,rfl⟩
   ·rw [key_rl] at h;exact SeqAt.EqAt.str_int x t j u _ _ _ _ h
   ·rw [key_rr] at h;exact wpAny_eqBool_str h
 «strs»:=fun k x t v h=>by
  rcases keyIs_shape h with ⟨i,u,rfl,e⟩ | ⟨y,u,rfl,e⟩
  ·exact nomatch e
  ·injection e with e1 _
   subst e1
   cases v<;>rfl
end L2
namespace L2
open PySem PySem.Spec PyProof.Rows
inductive V where
 | non | bl (b:Bool) | int (i:Int) | str (x:Str) | byt (b:Array UInt8) | flt (b:UInt64) | ref (a:Addr) | ty (n:String)
 deriving DecidableEq
def RelV:V→Value→Prop
 | .non,u=>u=Value.none
 | .bl b,u=>u=Value.bool b
 | .int i,u=>∃ t,u=Value.int i t
 | .str x,u=>∃ t,u=Value.str x t
 | .byt b,u=>∃ t,u=Value.bytes b t
 | .flt b,u=>∃ t,u=Value.float b t
 | .ref a,u=>u=Value.ref a
 | .ty n,u=>u=Value.type n
abbrev Vals:List V→List Value→Prop:=Paired RelV
theorem Vals.length {xs:List V} {us:List Value} (r:Vals xs us):xs.length=us.length:=Paired.length r
theorem Vals.get:∀ {xs:List V} {us:List Value} {i:Nat} {x:V},Vals xs us→xs[i]?=some x→∃ u,us[i]?=some u∧RelV x u
 | _,_,_,_,.nil,e=>by simp at e
 | _,_,0,_,.cons r _,e=>by simp at e;subst e;exact ⟨_,rfl,r⟩
 | _,_,i+1,x,.cons _ t,e=>by
  obtain ⟨u,h1,h2⟩:=Vals.get (i:=i) (x:=x) t (by simpa using e)
  exact ⟨u,by simpa using h1,h2⟩
theorem Vals.append:∀ {xs ys:List V} {us ws:List Value},Vals xs us→Vals ys ws→Vals (xs++ys) (us++ws)
 | _,_,_,_,.nil,s=>s
 | _,_,_,_,.cons r t,s=>.cons r (Vals.append t s)
theorem Vals.take:∀ {xs:List V} {us:List Value} (n:Nat),Vals xs us→Vals (xs.take n) (us.take n)
 | _,_,0,_=>.nil
 | _,_,_+1,.nil=>.nil
 | _,_,n+1,.cons r t=>.cons r (Vals.take n t)
theorem Vals.drop:∀ {xs:List V} {us:List Value} (n:Nat),Vals xs us→Vals (xs.drop n) (us.drop n)
 | _,_,0,r=>r
 | _,_,_+1,.nil=>.nil
 | _,_,n+1,.cons _ t=>Vals.drop n t
def RelO:Option V→Option Value→Prop
 | some v,some u=>RelV v u
 | none,none=>True
 | _,_=>False
def KV {κ:Type}:List (κ × V)→List (κ × Value)→Prop:=Paired fun (p:κ × V) (q:κ × Value)=>p.1=q.1∧RelV p.2 q.2
def kV:Key→V
 | .inl i=>.int i
 | .inr x=>.str x
inductive HO where
  | lst (xs:List V)
  | tup (xs:List V)
  | dK (kvs:List (Key × V)) | dT (kvs:List (List Key × V))
  | set (S:Int→Bool) (n:Nat)
  | ins (C dx:Addr) (fs:List (Str × V))
  | own (x:Addr)
  | xd (fs:List (Str × V))
  | met (f x:Addr)
  | rng (lo hi:Int)
  | frz (o:Obj) (u:HO)
  | tbl (ps:Array Value)
  | ext (φ:Heap→Prop)
abbrev Hp:=Addr→Option HO
def upd (H:Hp) (a:Addr) (o:HO):Hp:=fun b=>if b=a then some o else H b
theorem upd_same {H:Hp} {a:Addr} {o:HO}:upd H a o a=some o:=by unfold upd;rw [if_pos rfl]
theorem upd_ne {H:Hp} {a b:Addr} {o:HO} (h:b≠a):upd H a o b=H b:=by unfold upd;rw [if_neg h]
theorem ne_of {H:Hp} {a b:Addr} {o u:HO} (h:H a=some o) (h':H b=some u) (d:o≠u):a≠b:=by
 intro e;subst e;rw [h] at h';exact d (Option.some.inj h')
theorem ne_of_none {H:Hp} {a b:Addr} {o:HO} (h:H a=some o) (h':H b=none):a≠b:=by
 intro e;subst e;rw [h] at h';cases h'
section
variable (P:Program) (w:World)
def ObjOk (H:Hp) (h:Heap) (a:Addr):HO→Prop
 | .lst xs=>xs.length≤sizeLine∧∃ (its:List Value) (n:Nat),Vals xs its∧h.get? a=some { cls:=.type "list",data:=.seq its.toArray n }
 | .tup xs=>xs.length≤sizeLine∧∃ its:List Value,Vals xs its∧IsTup h a its.toArray
 | .dK kvs=>kvs.length≤sizeLine∧(a==sysModules)=false∧∃ vs,KV kvs vs∧h.DictOf (mixKind P w) a vs
 | .dT kvs=>kvs.length≤sizeLine∧(a==sysModules)=false∧∃ xs:List (List Key × Addr × Value),
   Paired (fun (p:List Key × V) (q:List Key × Addr × Value)=>p.1=q.1∧H q.2.1=some (.tup (p.1.map kV))∧RelV p.2 q.2.2) kvs xs ∧
   ∃ o es ep,h.get? a=some o∧o.ExactDict∧o.data=.dict es ep∧es.toList=xs.map (entryOfKey (tupleKind (mixKind P w)))∧(xs.map (·.1)).Nodup
 | .set S n=>h.SetOf (intKind P w) a S n
 | .ins C dx fs=>H dx=some (.own a)∧fs.length≤1000∧dx≠a∧h.get? a=some (PySem.W.instObj C dx) ∧
   ∃ mA,h.Ns1 dx mA∧(∀ f,RelO (fs.lookup f) (mA f))∧PySem.Within mA (fs.map (·.1))
 | .own _=>∃ o,h.get? a=some o
 | .xd fs=>∃ mA,h.Ns1 a mA∧∀ f,RelO (fs.lookup f) (mA f)
 | .rng lo hi=>∃ t u v,h.get? a=some { cls:=.type "range",data:=.fields #[.int lo t,.int hi u,.int 1 v] }
 | .frz o u=>h.get? a=some o∧ObjOk H h a u
 | .tbl ps=>h.get? a=some { cls:=.none,data:=.fields ps }
 | .met f x=>h.get? a=some (PySem.W.methodObj (.ref f) (.ref x))
 | .ext φ=>φ h∧(∃ o,h.get? a=some o)∧∀ h1 h2:Heap,φ h1→(∀ o,h1.get? a=some o→h2.get? a=some o)→φ h2
def HOk (H:Hp) (h:Heap):Prop:=∀ a o,H a=some o→ObjOk P w H h a o
end
section
variable {P:Program} {w:World} {H H':Hp} {h h':Heap} {a:Addr} {o:HO}
theorem ObjOk.lt (x:ObjOk P w H h a o):a<h.objs.size:=by
 cases o with
 | lst xs=>obtain ⟨_,_,_,_,e⟩:=x;exact Heap.lt_size e
 | tup xs=>obtain ⟨_,_,_,p⟩:=x;exact p.lt
 | dK kvs=>obtain ⟨_,_,_,_,o,_,_,e,_⟩:=x;exact Heap.lt_size e
 | dT kvs=>obtain ⟨_,_,_,_,o,_,_,e,_⟩:=x;exact Heap.lt_size e
 | set S n=>obtain ⟨o,_,_,_,e,_⟩:=x;exact Heap.lt_size e
 | ins C dx fs=>obtain ⟨_,_,_,e,_⟩:=x;exact Heap.lt_size e
 | own y=>obtain ⟨_,e⟩:=x;exact Heap.lt_size e
 | xd fs=>obtain ⟨_,⟨_,_,_,e,_⟩,_⟩:=x;exact Heap.lt_size e
 | rng lo hi=>obtain ⟨_,_,_,e⟩:=x;exact Heap.lt_size e
 | frz ob u=>obtain ⟨e,_⟩:=x;exact Heap.lt_size e
 | tbl ps=>exact Heap.lt_size (show h.get? a=some _ from x)
 | met f y=>exact Heap.lt_size (show h.get? a=some _ from x)
 | ext φ=>obtain ⟨_,⟨_,e⟩,_⟩:=x;exact Heap.lt_size e
theorem Paired.mapP {α β:Type} {F G:α→β→Prop}:∀ {l₁:List α} {l₂:List β},Paired F l₁ l₂→(∀ a b,F a b→G a b)→Paired G l₁ l₂
 | _,_,.nil,_=>.nil
 | _,_,.cons r t,f=>.cons (f _ _ r) (Paired.mapP t f)
theorem ObjOk.stay (x:ObjOk P w H h a o) (k:∀ b u,(b=a∨H b=some (.own a))→h.get? b=some u→h'.get? b=some u)
  (ho:∀ b,H b=some (.own a)→H' b=some (.own a)) (ht:∀ b xs,H b=some (.tup xs)→H' b=some (.tup xs)):ObjOk P w H' h' a o:=by
 induction o with
 | lst xs=>obtain ⟨z,its,n,r,e⟩:=x;exact ⟨z,its,n,r,k _ _ (.inl rfl) e⟩
 | tup xs=>obtain ⟨z,its,r,ob,e,c⟩:=x;exact ⟨z,its,r,ob,k _ _ (.inl rfl) e,c⟩
 | dK kvs=>obtain ⟨z,y,vs,r,ob,es,ep,e,c⟩:=x;exact ⟨z,y,vs,r,ob,es,ep,k _ _ (.inl rfl) e,c⟩
 | dT kvs =>
  obtain ⟨z,y,xs,r,ob,es,ep,e,c⟩:=x
  exact ⟨z,y,xs,Paired.mapP r fun p q z=>⟨z.1,ht _ _ z.2.1,z.2.2⟩,ob,es,ep,k _ _ (.inl rfl) e,c⟩
 | set S n=>obtain ⟨ob,es,ep,t,e,c⟩:=x;exact ⟨ob,es,ep,t,k _ _ (.inl rfl) e,c⟩
 | ins C dx fs =>
  obtain ⟨d,z,ne,e,mA,⟨od,es,ep,e2,c⟩,r⟩:=x
  exact ⟨ho _ d,z,ne,k _ _ (.inl rfl) e,mA,⟨od,es,ep,k _ _ (.inr d) e2,c⟩,r⟩
 | own y=>obtain ⟨ob,e⟩:=x;exact ⟨ob,k _ _ (.inl rfl) e⟩
 | xd fs=>obtain ⟨mA,⟨od,es,ep,e,c⟩,r⟩:=x;exact ⟨mA,⟨od,es,ep,k _ _ (.inl rfl) e,c⟩,r⟩
 | rng lo hi=>obtain ⟨t,u,v,e⟩:=x;exact ⟨t,u,v,k _ _ (.inl rfl) e⟩
 | frz ob u ih=>obtain ⟨e,q⟩:=x;exact ⟨k _ _ (.inl rfl) e,ih q⟩
 | tbl ps =>
  have e:h.get? a=some { cls:=.none,data:=.fields ps }:=x
  show h'.get? a=some { cls:=.none,data:=.fields ps }
  exact k a _ (.inl rfl) e
 | met f y =>
  have e:h.get? a=some (PySem.W.methodObj (.ref f) (.ref y)):=x
  show h'.get? a=some (PySem.W.methodObj (.ref f) (.ref y))
  exact k a _ (.inl rfl) e
 | ext φ=>obtain ⟨p,⟨o,e⟩,st⟩:=x;exact ⟨st _ _ p fun o q=>k _ _ (.inl rfl) q,⟨o,k _ _ (.inl rfl) e⟩,st⟩
theorem HOk.lt (x:HOk P w H h) (e:H a=some o):a<h.objs.size:=(x a o e).lt
theorem HOk.fresh (x:HOk P w H h) (e:h.objs.size≤a):H a=none:=by
 cases q:H a with
 | none=>rfl
 | some u=>exact absurd (Nat.lt_of_lt_of_le (x.lt q) e) (Nat.lt_irrefl _)
theorem HOk.kept (x:HOk P w H h) (k:∀ b u,h.get? b=some u→h'.get? b=some u):HOk P w H h':=fun a o e =>
 (x a o e).stay (fun b u _ q=>k b u q) (fun _ q=>q) fun _ _ q=>q
theorem HOk.laid (x:HOk P w H h) (k:∀ b u,h.get? b=some u→h'.get? b=some u) (hp:h.objs.size≤a) (new:ObjOk P w (upd H a o) h' a o):HOk P w (upd H a o) h':=fun b u e=>by
 have hn:=x.fresh hp
 by_cases hb:b=a
 ·subst hb;rw [upd_same] at e;cases e;exact new
 ·rw [upd_ne hb] at e
  exact (x b u e).stay (fun c v _ q=>k c v q) (fun c q=>by rw [upd_ne (ne_of_none q hn)];exact q) fun c xs q=>by rw [upd_ne (ne_of_none q hn)];exact q
end
def Rd (H:Hp) (a:Addr) (u:HO):Prop:=H a=some u∨∃ o,H a=some (.frz o u)
theorem Rd.ok {P:Program} {w:World} {H:Hp} {h:Heap} {a:Addr} {u:HO} (r:Rd H a u) (x:HOk P w H h):ObjOk P w H h a u:=by
 rcases r with r | ⟨o,r⟩
 ·exact x a u r
 ·obtain ⟨_,q⟩:=x a _ r
  exact q
def Mut:Option HO→Prop
 | some (.lst _)=>True
 | some (.dK _)=>True
 | some (.dT _)=>True
 | some (.set _ _)=>True
 | some (.ins _ _ _)=>True
 | some (.ext _)=>True
 | _=>False
section
variable {P:Program} {w:World} {H:Hp} {h h':Heap} {x e:Addr} {o':HO}
theorem HOk.write (ok:HOk P w H h) (mu:Mut (H x)) (he:e=x∨H e=some (.own x)) (k:∀ b u,b≠e→h.get? b=some u→h'.get? b=some u) (heo:∃ u,h'.get? e=some u)
  (new:ObjOk P w (upd H x o') h' x o'):HOk P w (upd H x o') h':=fun b u q=>by
 have nown:∀ c y,H c=some (.own y)→c≠x:=fun c y r z=>by subst z;rw [r] at mu;exact mu
 have ntup:∀ c xs,H c=some (.tup xs)→c≠x:=fun c xs r z=>by subst z;rw [r] at mu;exact mu
 by_cases hb:b=x
 ·subst hb;rw [upd_same] at q;cases q;exact new
 ·rw [upd_ne hb] at q
  by_cases hbe:b=e
  ·have q':H b=some (.own x):=by
    rcases he with z | z
    ·exact absurd (hbe.trans z) hb
    ·rw [hbe];exact z
   rw [q] at q';cases q'
   obtain ⟨v,hv⟩:=heo
   exact ⟨v,by rw [hbe];exact hv⟩
  ·refine (ok b u q).stay (fun c v hc r=>k c v ?_ r) (fun c r=>by rw [upd_ne (nown c b r)];exact r) fun c xs r=>by rw [upd_ne (ntup c xs r)];exact r
   rcases hc with rfl | hc
   ·exact hbe
   ·rintro rfl
    rcases he with z | z
    ·exact nown c b hc z
    ·rw [hc] at z;cases z;exact hb rfl
end
structure Un (fs ex:List Addr) (H H':Hp) (h h':Heap):Prop where
 keep:∀ b o,h.get? b=some o→H b=none→b∉fs→b∉ex→h'.get? b=some o
 slot:∀ b o,h.get? b=some o→H b=none→b∈fs→b∉ex→∃ sl,h'.get? b=some { o with slots:=sl }
 free:∀ b o,h.get? b=some o→H b=none→b∉ex→H' b=none
 there:∀ b o,h.get? b=some o→b∉ex→∃ o',h'.get? b=some o'
 tups:∀ b xs,H b=some (.tup xs)→H' b=some (.tup xs)
 frzs:∀ b o u,H b=some (.frz o u)→H' b=some (.frz o u)
 tbls:∀ b ps,H b=some (.tbl ps)→∃ more,H' b=some (.tbl (ps++more))
section
variable {fs fs' ex ex':List Addr} {H H1 H2:Hp} {h h1 h2 h':Heap} {a x e:Addr} {o:HO}
theorem Un.any (u:Un fs ex H H1 h h1) {b:Addr} {ob:Obj} (q:h.get? b=some ob) (n:H b=none) (hx:b∉ex):∃ sl,h1.get? b=some { ob with slots:=sl }:=by
 by_cases hb:b∈fs
 ·exact u.slot b ob q n hb hx
 ·exact ⟨ob.slots,u.keep b ob q n hb hx⟩
theorem Un.trans (a:Un fs ex H H1 h h1) (b:Un fs ex H1 H2 h1 h2):Un fs ex H H2 h h2 where
 keep:=fun c ob q n hc hx=>b.keep c ob (a.keep c ob q n hc hx) (a.free c ob q n hx) hc hx
 slot:=fun c ob q n hc hx=>by
  obtain ⟨sl,e1⟩:=a.slot c ob q n hc hx
  obtain ⟨sl',e2⟩:=b.slot c _ e1 (a.free c ob q n hx) hc hx
  exact ⟨sl',e2⟩
 free:=fun c ob q n hx=>by
  obtain ⟨o',e1⟩:=a.there c ob q hx
  exact b.free c o' e1 (a.free c ob q n hx) hx
 there:=fun c ob q hx=>by
  obtain ⟨o',e1⟩:=a.there c ob q hx
  exact b.there c o' e1 hx
 tups:=fun c xs q=>b.tups c xs (a.tups c xs q)
 frzs:=fun c ob xs q=>b.frzs c ob xs (a.frzs c ob xs q)
 tbls:=fun c ps q=>by
  obtain ⟨m1,e1⟩:=a.tbls c ps q
  obtain ⟨m2,e2⟩:=b.tbls c _ e1
  exact ⟨m1++m2,by rw [e2,Array.append_assoc]⟩
theorem Un.kept (k:∀ b u,h.get? b=some u→h'.get? b=some u):Un fs ex H H h h' :=
 ⟨fun b ob q _ _ _=>k b ob q,fun b ob q _ _ _=>⟨ob.slots,k b ob q⟩,fun _ _ _ n _=>n,fun b ob q _=>⟨ob,k b ob q⟩,fun _ _ q=>q,fun _ _ _ q=>q,fun _ ps q=>⟨#[],by rw [q];simp⟩⟩
theorem Un.refl:Un fs ex H H h h:=Un.kept fun _ _ q=>q
theorem Un.laid (k:∀ b u,h.get? b=some u→h'.get? b=some u) (hp:h.objs.size≤a) (hn:H a=none):Un fs ex H (upd H a o) h h' where
 keep:=fun b u q _ _ _=>k b u q
 slot:=fun b u q _ _ _=>⟨u.slots,k b u q⟩
 free:=fun b u q n _=>by rw [upd_ne (Nat.ne_of_lt (Nat.lt_of_lt_of_le (Heap.lt_size q) hp))];exact n
 there:=fun b u q _=>⟨u,k b u q⟩
 tups:=fun b xs q=>by rw [upd_ne (ne_of_none q hn)];exact q
 frzs:=fun b u xs q=>by rw [upd_ne (ne_of_none q hn)];exact q
 tbls:=fun b ps q=>⟨#[],by rw [upd_ne (ne_of_none q hn),q];simp⟩
theorem Un.write (mu:Mut (H x)) (he:e=x∨H e=some (.own x)) (k:∀ b u,b≠e→h.get? b=some u→h'.get? b=some u) (heo:∃ u,h'.get? e=some u):Un fs ex H (upd H x o) h h':=by
 have hx:∀ b,H b=none→b≠x:=fun b n z=>by subst z;rw [n] at mu;exact mu
 have hb:∀ b,H b=none→b≠e:=fun b n z=>by
  subst z
  rcases he with r | r
  ·exact hx b n r
  ·rw [n] at r;cases r
 have hm:∀ b u,H b=some u→¬ Mut (some u)→b≠x:=fun b u q nm z=>by subst z;rw [q] at mu;exact nm mu
 refine ⟨fun b u q n _ _=>k b u (hb b n) q,fun b u q n _ _=>⟨u.slots,k b u (hb b n) q⟩,fun b u q n _=>by rw [upd_ne (hx b n)];exact n,fun b u q _=>?_,
  fun b xs q=>by rw [upd_ne (hm b _ q fun z=>z)];exact q,fun b u xs q=>by rw [upd_ne (hm b _ q fun z=>z)];exact q,fun b ps q=>⟨#[],by rw [upd_ne (hm b _ q fun z=>z),q];simp⟩⟩
 by_cases hbe:b=e
 ·subst hbe;exact heo
 ·exact ⟨u,k b u hbe q⟩
end
def trk (h:Heap) (H:Hp):List Addr:=(List.range h.objs.size).filter fun a=>(H a).isSome
def hidT (h:Heap) (H:Hp):Heap:=PySem.W.hideAll h (trk h H)
theorem hidT_size (h:Heap) (H:Hp):(hidT h H).objs.size=h.objs.size:=PySem.W.hideAll_size _ _
theorem hidT_get {h:Heap} {H:Hp} {b:Addr} {o:Obj} (e:h.get? b=some o) (n:H b=none):(hidT h H).get? b=some o :=
 PySem.W.hideAll_get _ e fun hm=>by
  have q:(H b).isSome=true:=(List.mem_filter.mp hm).2
  rw [n] at q;simp at q
theorem of_hidT {h:Heap} {H:Hp} {b:Addr} {o:Obj} (e:(hidT h H).get? b=some o):h.get? b=some o∧H b=none:=by
 have e':h.get? b=some o:=PySem.W.of_hideAll (trk h H) e
 refine ⟨e',?_⟩
 cases q:H b with
 | none=>rfl
 | some x =>
  have hm:b∈trk h H:=List.mem_filter.mpr ⟨List.mem_range.mpr (Heap.lt_size e'),by simp [q]⟩
  have z:(hidT h H).get? b=none:=PySem.W.hideAll_none (trk h H) hm
  rw [z] at e;cases e
def allNews (g h:Heap) (L:Addr):List (Addr × Obj):=(List.range h.objs.size).filterMap fun a=>if a=L∨(g.get? a).isSome=true then none else (h.get? a).map fun o=>(a,o)
def rest (g h:Heap) (L d:Addr):List (Addr × Obj):=(allNews g h L).filter fun p=>decide (p.1≠d)
end L2
namespace L2
open PySem PySem.Spec PyProof.Rows
structure Mod (K:PySem.W.Frag) (mg:Str→Option Value) (base:Heap):Prop where
 kin:K.In base
 glob:base.Ns mainGlobals mg
 blt:∃ mb,base.Ns builtinsNs mb∧∀ x:Str,x≠"__name__"→mb x=bootBuiltins x
 nolimit:base.NoLimit
structure Cx where
 prog:Program
 w:World
 K:PySem.W.Frag
 mg:Str→Option Value
 base:Heap
 A:Around
 N:List Str
 s₀:Shared
 H₀:Hp
 env:Env
 outer:List Env
 stack:List Env
 ex:List Addr
 fn:Str→Bool
 calm:Bool
 pn:List (Addr × Obj)
 xe:Value→Shared→Prop
def frs (l:List Env):List Addr:=l.filterMap (·.frame)
abbrev Cx.fs (X:Cx):List Addr:=frs X.outer
def Vis (sc:Scope) (x:Str):Prop:=sc.names.lookup x=some .local∨sc.names.lookup x=some .cell∨sc.names.lookup x=some .free
def Loc (sc:Scope) (x:Str):Prop:=sc.names.lookup x=some .local∨sc.names.lookup x=some .cell
def Look (env:Env) (h:Heap) (m:Str→Option Value) (x:Str) (u:Value):Prop :=
 (env.kindOf x=some .local∧m x=some u)∨((env.kindOf x=some .cell∨env.kindOf x=some .free)∧∃ c,env.cells.lookup x=some c∧h.IsCell c (some u))
structure Cx.Ok (X:Cx):Prop where
 mod:Mod X.K X.mg X.base
 kind:X.env.scope.kind=.function
 glob:X.env.globals=mainGlobals
 blt:X.env.builtins=builtinsNs
 above:X.s₀.heap.objs.size≤X.env.locals
 inj:∀ x y c,X.env.cells.lookup x=some c→X.env.cells.lookup y=some c→x=y
 has:∀ x,(X.env.kindOf x=some .cell∨X.env.kindOf x=some .free)→∃ c,X.env.cells.lookup x=some c
 cab:∀ x c,X.fn x=true→X.env.cells.lookup x=some c→X.s₀.heap.objs.size≤c
 hd:X.calm=true→X.A.handled=none
 frames:X.A.frames=some X.stack
 stk:X.stack=X.outer∨(X.stack=X.env::X.outer∧X.env.frame=some X.env.locals)
 exf:∀ b∈X.ex,b≠X.env.locals∧∀ x c,X.env.cells.lookup x=some c→c≠b
 bs:∀ b o,X.base.get? b=some o→X.s₀.heap.get? b=some o∧X.H₀ b=none
 bsz:X.base.objs.size≤X.s₀.heap.objs.size
 noex:∀ b o,X.base.get? b=some o→b∉X.ex
 exfs:∀ b∈X.ex,b∉X.fs
 funs:X.s₀.heap.FunFrames X.base X.outer
 frf:∀ b∈X.fs,X.H₀ b=none
structure Inv (X:Cx) (pins:List (Addr × Obj)) (σ:List (Option V)) (H:Hp) (s:Shared):Prop where
 ok:X.Ok
 os:s.os=X.s₀.os
 bare:AllBare s.gens
 base:Un X.fs X.ex X.H₀ H X.s₀.heap s.heap
 loc:∃ m,s.heap.Ns X.env.locals m∧∀ (i:Nat) (x:Str) (v:V),X.N[i]?=some x→σ[i]?=some (some v)→Vis X.env.scope x→∃ u,RelV v u∧Look X.env s.heap m x u
 cell:∀ x c,X.env.cells.lookup x=some c→∃ v,s.heap.IsCell c v
 free:H X.env.locals=none
 freeC:∀ x c,X.env.cells.lookup x=some c→H c=none
 pin:∀ p∈X.pn++pins,s.heap.get? p.1=some p.2∧H p.1=none∧p.1≠X.env.locals∧p.1∉X.fs∧∀ v,p.2.data≠.cell v
 hok:HOk X.prog X.w H s.heap
 len:σ.length=X.N.length
section
variable {X:Cx} {pins:List (Addr × Obj)} {σ:List (Option V)} {H H':Hp} {s:Shared} {h':Heap}
theorem Cx.Ok.nofr (ok:X.Ok) {b:Addr} {o:Obj} (e:X.base.get? b=some o):b∉X.fs:=fun hb=>by
 have:=(ok.funs.mem hb).1
 rw [e] at this;cases this
theorem Inv.bs (I:Inv X pins σ H s):∀ b o,X.base.get? b=some o→s.heap.get? b=some o∧H b=none:=fun b o e =>
 ⟨I.base.keep b o (I.ok.bs b o e).1 (I.ok.bs b o e).2 (I.ok.nofr e) (I.ok.noex b o e),I.base.free b o (I.ok.bs b o e).1 (I.ok.bs b o e).2 (I.ok.noex b o e)⟩
theorem Inv.bk (I:Inv X pins σ H s):∀ b o,X.base.get? b=some o→s.heap.get? b=some o:=fun b o e=>(I.bs b o e).1
theorem Inv.mod (I:Inv X pins σ H s):Mod X.K X.mg X.base:=I.ok.mod
theorem Inv.kIn (I:Inv X pins σ H s):X.K.In s.heap:=I.ok.mod.kin.keeps I.bk
theorem Inv.lt (I:Inv X pins σ H s):X.env.locals<s.heap.objs.size:=let ⟨_,hn,_⟩:=I.loc;hn.lt
theorem Inv.sz (I:Inv X pins σ H s):X.s₀.heap.objs.size≤s.heap.objs.size:=Nat.le_trans I.ok.above (Nat.le_of_lt I.lt)
theorem Inv.nofs (I:Inv X pins σ H s) {a:Addr} (h:s.heap.objs.size≤a):a∉X.fs:=fun hb=>by
 obtain ⟨_,o,ho,_⟩:=I.ok.funs.mem hb
 exact absurd (Nat.lt_of_lt_of_le (Heap.lt_size ho) (Nat.le_trans I.sz h)) (Nat.lt_irrefl _)
theorem Inv.cne (I:Inv X pins σ H s):∀ x c,X.env.cells.lookup x=some c→c≠X.env.locals:=fun x c e z=>by
 obtain ⟨v,o,ho,hd⟩:=I.cell x c e
 obtain ⟨m,⟨o',es,ep,ho',hd',_⟩,_⟩:=I.loc
 rw [z,ho'] at ho;cases ho;rw [hd'] at hd;cases hd
theorem Inv.funs (I:Inv X pins σ H s):s.heap.FunFrames X.base X.outer:=by
 have all:∀ (l:List Env),(∀ b∈frs l,b∈X.fs)→X.s₀.heap.FunFrames X.base l→s.heap.FunFrames X.base l:=by
  intro l
  induction l with
  | nil=>intro _ _;trivial
  | cons env r ih =>
   intro hs hl
   obtain ⟨hk,⟨L,o,hf,hn,ho,hd⟩,hr⟩:=hl
   have hL:L∈X.fs:=hs L (by unfold frs;rw [List.filterMap_cons,hf];exact List.mem_cons_self)
   obtain ⟨sl,e⟩:=I.base.slot L o ho (I.ok.frf L hL) hL fun z=>I.ok.exfs L z hL
   exact ⟨hk,⟨L,_,hf,hn,e,hd⟩,ih (fun b hb=>hs b (by unfold frs;rw [List.filterMap_cons,hf];exact List.mem_cons_of_mem _ hb)) hr⟩
 exact all X.outer (fun _ hb=>hb) I.ok.funs
theorem Inv.stack (I:Inv X pins σ H s):s.heap.FunFrames X.base X.stack:=by
 rcases I.ok.stk with e | ⟨e,hf⟩
 ·rw [e];exact I.funs
 ·rw [e]
  obtain ⟨m,hn,_⟩:=I.loc
  refine .cons (by rw [I.ok.kind];decide) hf hn ?_ I.funs
  exact Heap.get?_none_of_le (Nat.le_trans I.ok.bsz I.ok.above)
theorem Inv.stkSub (I:Inv X pins σ H s):∀ b∈frs X.stack,b∈X.env.locals::X.fs:=fun b hb=>by
 rcases I.ok.stk with e | ⟨e,hf⟩
 ·rw [e] at hb;exact List.mem_cons_of_mem _ hb
 ·rw [e] at hb
  unfold frs at hb
  rw [List.filterMap_cons,hf] at hb
  exact hb
theorem Inv.stkFree (I:Inv X pins σ H s):∀ b∈frs X.stack,H b=none:=fun b hb=>by
 rcases List.mem_cons.mp (I.stkSub b hb) with e | hb
 ·rw [e];exact I.free
 ·obtain ⟨_,o,ho,_⟩:=I.ok.funs.mem hb
  exact I.base.free b o ho (I.ok.frf b hb) fun z=>I.ok.exfs b z hb
theorem Inv.step {g':Array GenState} {t':Nat} {d':Drawn} {ch:List Addr} (I:Inv X pins σ H s)
  (hch:∀ b∈ch,(b∈X.ex∨X.s₀.heap.objs.size≤b)∧b≠X.env.locals∧(∀ x c,X.env.cells.lookup x=some c→c≠b)∧∀ p∈X.pn++pins,p.1≠b)
  (keep:∀ b o,b≠X.env.locals→b∉X.fs→b∉ch→s.heap.get? b=some o→H b=none→h'.get? b=some o)
  (slot:∀ b o,b≠X.env.locals→b∈X.fs→b∉ch→s.heap.get? b=some o→H b=none→∃ sl,h'.get? b=some { o with slots:=sl }) (free:∀ b o,b∉ch→s.heap.get? b=some o→H b=none→H' b=none)
  (there:∀ b o,b∉ch→s.heap.get? b=some o→∃ o',h'.get? b=some o')
  (tups:∀ b xs,H b=some (.tup xs)→H' b=some (.tup xs)) (frzs:∀ b o u,H b=some (.frz o u)→H' b=some (.frz o u)) (tbls:∀ b ps,H b=some (.tbl ps)→∃ more,H' b=some (.tbl (ps++more)))
  (ns:∀ m,s.heap.Ns X.env.locals m→h'.Ns X.env.locals m) (hok:HOk X.prog X.w H' h') (hg:AllBare g') :
  Inv X pins σ H' { s with heap:=h',gens:=g',drawn:=d',toks:=t' }:=by
 have neL:∀ b o,X.s₀.heap.get? b=some o→b≠X.env.locals:=fun b o e=>Nat.ne_of_lt (Nat.lt_of_lt_of_le (Heap.lt_size e) I.ok.above)
 have neC:∀ b o,X.s₀.heap.get? b=some o→b∉X.ex→b∉ch:=fun b o e hx hb=>by
  rcases (hch b hb).1 with z | z
  ·exact hx z
  ·exact absurd (Nat.lt_of_lt_of_le (Heap.lt_size e) z) (Nat.lt_irrefl _)
 have cellK:∀ x c,X.env.cells.lookup x=some c→∀ v,s.heap.IsCell c v→h'.IsCell c v:=fun x c e v ⟨o,ho,hd⟩=>by
  have nch:c∉ch:=fun z=>(hch c z).2.2.1 x c e rfl
  by_cases hc:c∈X.fs
  ·obtain ⟨sl,q⟩:=slot c o (I.cne x c e) hc nch ho (I.freeC x c e)
   exact ⟨_,q,hd⟩
  ·exact ⟨o,keep c o (I.cne x c e) hc nch ho (I.freeC x c e),hd⟩
 refine ⟨I.ok,I.os,hg,⟨fun b o e n hb hx=>?_,fun b o e n hb hx=>?_,fun b o e n hx=>?_,fun b o e hx=>?_,fun b xs e=>tups b xs (I.base.tups b xs e),fun b o xs e=>frzs b o xs (I.base.frzs b o xs e),fun b ps e=>?_⟩,?_,fun x c e=>?_,?_,fun x c e=>?_,fun p hp=>?_,hok,I.len⟩
 ·exact keep b o (neL b o e) hb (neC b o e hx) (I.base.keep b o e n hb hx) (I.base.free b o e n hx)
 ·obtain ⟨sl,e1⟩:=I.base.slot b o e n hb hx
  obtain ⟨sl',e2⟩:=slot b _ (neL b o e) hb (neC b o e hx) e1 (I.base.free b o e n hx)
  exact ⟨sl',e2⟩
 ·obtain ⟨o',e1⟩:=I.base.there b o e hx
  exact free b o' (neC b o e hx) e1 (I.base.free b o e n hx)
 ·obtain ⟨o',e1⟩:=I.base.there b o e hx
  exact there b o' (neC b o e hx) e1
 ·obtain ⟨m1,e1⟩:=I.base.tbls b ps e
  obtain ⟨m2,e2⟩:=tbls b _ e1
  exact ⟨m1++m2,by rw [e2,Array.append_assoc]⟩
 ·obtain ⟨m,hn,hl⟩:=I.loc
  refine ⟨m,ns m hn,fun i x v e1 e2 e3=>?_⟩
  obtain ⟨u,r,l⟩:=hl i x v e1 e2 e3
  refine ⟨u,r,?_⟩
  rcases l with l | ⟨k,c,e,z⟩
  ·exact .inl l
  ·exact .inr ⟨k,c,e,cellK x c e _ z⟩
 ·obtain ⟨v,z⟩:=I.cell x c e
  exact ⟨v,cellK x c e v z⟩
 ·obtain ⟨m,⟨o,_,_,ho,_⟩,_⟩:=I.loc
  exact free _ o (fun z=>(hch _ z).2.1 rfl) ho I.free
 ·obtain ⟨v,o,ho,hd⟩:=I.cell x c e
  exact free c o (fun z=>(hch c z).2.2.1 x c e rfl) ho (I.freeC x c e)
 ·obtain ⟨e,n,ne,nf,d⟩:=I.pin p hp
  have nch:p.1∉ch:=fun z=>(hch p.1 z).2.2.2 p hp rfl
  exact ⟨keep p.1 p.2 ne nf nch e n,free p.1 p.2 nch e n,ne,nf,d⟩
theorem Inv.un {t':Nat} (I:Inv X pins σ H s) (u:Un X.fs [] H H' s.heap h') (hok:HOk X.prog X.w H' h'):Inv X pins σ H' { s with heap:=h',toks:=t' }:=by
 obtain ⟨m,⟨o,es,ep,ho,r⟩,_⟩:=id I.loc
 obtain ⟨sl,hL⟩:=u.any ho I.free (by simp)
 exact I.step (g':=s.gens) (d':=s.drawn) (ch:=[]) (fun _ z=>nomatch z) (fun b o _ hb _ e n=>u.keep b o e n hb (by simp)) (fun b o _ hb _ e n=>u.slot b o e n hb (by simp)) (fun b o _ e n=>u.free b o e n (by simp)) (fun b o _ e=>u.there b o e (by simp)) u.tups u.frzs u.tbls (fun m' hm=>by
  obtain ⟨o',es',ep',ho',r'⟩:=hm
  rw [ho] at ho';cases ho'
  exact ⟨_,es',ep',hL,r'⟩) hok I.bare
theorem Inv.call {g':Array GenState} {t':Nat} {d':Drawn} {ch:List Addr} (I:Inv X pins σ H s) (u:Un (frs X.stack) ch H H' s.heap h') (hok:HOk X.prog X.w H' h') (hg:AllBare g')
  (hch:∀ b∈ch,(b∈X.ex∨X.s₀.heap.objs.size≤b)∧b≠X.env.locals∧(∀ x c,X.env.cells.lookup x=some c→c≠b)∧∀ p∈X.pn++pins,p.1≠b) :
  Inv X pins σ H' { s with heap:=h',gens:=g',drawn:=d',toks:=t' }:=by
 obtain ⟨m,⟨o,es,ep,ho,r⟩,_⟩:=id I.loc
 obtain ⟨sl,hL⟩:=u.any ho I.free fun z=>(hch _ z).2.1 rfl
 exact I.step (ch:=ch) hch (fun b o hL hb hc e n=>u.keep b o e n (fun z=>(List.mem_cons.mp (I.stkSub b z)).elim hL hb) hc) (fun b o _ _ hc e n=>u.any e n hc) (fun b o hc e n=>u.free b o e n hc) (fun b o hc e=>u.there b o e hc) u.tups u.frzs u.tbls (fun m' hm=>by
  obtain ⟨o',es',ep',ho',r'⟩:=hm
  rw [ho] at ho';cases ho'
  exact ⟨_,es',ep',hL,r'⟩) hok hg
theorem Inv.turned {t':Nat} {it:Addr} (I:Inv X pins σ H s) (k:∀ b o,b≠it→s.heap.get? b=some o→h'.get? b=some o) (hn:H it=none) (hL:it≠X.env.locals)
  (h1:it∈X.ex∨X.s₀.heap.objs.size≤it) (h2:∀ x c,X.env.cells.lookup x=some c→c≠it) (h3:∀ p∈X.pn++pins,p.1≠it):Inv X pins σ H { s with heap:=h',toks:=t' }:=by
 have nit:∀ b u,H b=some u→b≠it:=fun b u e z=>by rw [z,hn] at e;cases e
 refine I.step (g':=s.gens) (d':=s.drawn) (ch:=[it]) (fun b hb=>?_) (fun b o _ _ hc e _=>k b o (fun z=>hc (by simp [z])) e) (fun b o _ _ hc e _=>⟨o.slots,k b o (fun z=>hc (by simp [z])) e⟩) (fun _ _ _ _ n=>n)
  (fun b o hc e=>⟨o,k b o (fun z=>hc (by simp [z])) e⟩) (fun _ _ e=>e) (fun _ _ _ e=>e) (fun b ps e=>⟨#[],by rw [e];simp⟩) (fun m hm=>?_) (fun b u e=>?_) I.bare
 ·have e:b=it:=by simpa using hb
  subst e
  exact ⟨h1,hL,h2,h3⟩
 ·obtain ⟨o,es,ep,ho,r⟩:=hm
  exact ⟨o,es,ep,k _ o (Ne.symm hL) ho,r⟩
 ·refine (I.hok b u e).stay (fun c v hc q=>k c v ?_ q) (fun _ q=>q) fun _ _ q=>q
  rcases hc with z | z
  ·rw [z];exact nit b u e
  ·exact nit c _ z
theorem Inv.tok (I:Inv X pins σ H s) (t:Nat):Inv X pins σ H { s with toks:=t }:=I.un (h':=s.heap) (t':=t) Un.refl I.hok
theorem Inv.kept {t':Nat} (I:Inv X pins σ H s) (k:∀ b u,s.heap.get? b=some u→h'.get? b=some u):Inv X pins σ H { s with heap:=h',toks:=t' }:=I.un (Un.kept k) (I.hok.kept k)
theorem Inv.laid {a:Addr} {o:HO} {t':Nat} (I:Inv X pins σ H s) (k:∀ b u,s.heap.get? b=some u→h'.get? b=some u) (hp:s.heap.objs.size≤a) (new:ObjOk X.prog X.w (upd H a o) h' a o) :
  Inv X pins σ (upd H a o) { s with heap:=h',toks:=t' }:=I.un (Un.laid k hp (I.hok.fresh hp)) (I.hok.laid k hp new)
theorem Inv.write {x e:Addr} {o:HO} {t':Nat} (I:Inv X pins σ H s) (mu:Mut (H x)) (he:e=x∨H e=some (.own x)) (k:∀ b u,b≠e→s.heap.get? b=some u→h'.get? b=some u) (heo:∃ u,h'.get? e=some u)
  (new:ObjOk X.prog X.w (upd H x o) h' x o):Inv X pins σ (upd H x o) { s with heap:=h',toks:=t' }:=I.un (Un.write mu he k heo) (I.hok.write mu he k heo new)
theorem Inv.pins_of {pins':List (Addr × Obj)} (I:Inv X pins σ H s) (h:∀ p∈pins',s.heap.get? p.1=some p.2∧H p.1=none∧p.1≠X.env.locals∧p.1∉X.fs∧∀ v,p.2.data≠.cell v):Inv X pins' σ H s :=
 ⟨I.ok,I.os,I.bare,I.base,I.loc,I.cell,I.free,I.freeC,fun p hp=>(List.mem_append.mp hp).elim (fun z=>I.pin p (List.mem_append_left _ z)) (h p),I.hok,I.len⟩
theorem nodup_ix {N:List Str} (hN:N.Nodup) {i j:Nat} {x:Str} (a:N[i]?=some x) (b:N[j]?=some x):i=j:=by
 obtain ⟨h1,e1⟩:=List.getElem?_eq_some_iff.mp a
 obtain ⟨h2,e2⟩:=List.getElem?_eq_some_iff.mp b
 exact (List.getElem_inj hN).mp (e1.trans e2.symm)
theorem store_ok2 {M:Model} {A:Around} {E:Value→Shared→Prop} {i:Nat} {x:Str} {v:V} {u:Value} {Q:Unit→Shared→Prop} (I:Inv X pins σ H s) (hN:X.N.Nodup) (hi:X.N[i]?=some x) (hx:Loc X.env.scope x) (r:RelV v u)
  (h:∀ s',Inv X pins (σ.set i (some v)) H s'→(∃ a,Heap.SameBut a s.heap s'.heap∧(a=X.env.locals∨X.env.cells.lookup x=some a))→Q () s') (hf:X.fn x=true∨X.env.scope.names.lookup x=some .local:=by first | exact .inl rfl | exact .inr rfl | assumption):wpAny M A (storeName X.env x u) Q E s:=by
 obtain ⟨m,hn,hl⟩:=id I.loc
 have hcls:(X.env.scope.kind==.class||(X.env.scope.kind==.module&&X.env.locals != X.env.globals))=false:=by rw [I.ok.kind];rfl
 have hiσ:i<σ.length:=by rw [I.len];exact (List.getElem?_eq_some_iff.mp hi).1
 have cne:=I.cne
 have tracked:∀ {a:Addr} {h':Heap},(∃ o,s.heap.get? a=some o∧H a=none)→Heap.SameBut a s.heap h'→HOk X.prog X.w H h':=fun {a h'} ha hs b ob e=>by
  obtain ⟨_,_,hfree⟩:=ha
  refine (I.hok b ob e).stay (fun c w' hc q=>(hs.2 c ?_).trans q) (fun _ q=>q) fun _ _ q=>q
  rintro rfl
  rcases hc with rfl | hc
  ·rw [hfree] at e;cases e
  ·rw [hfree] at hc;cases hc
 rcases hx with hk | hk
 ·refine wpAny_storeName_local hk hn (fun h' hn' hs=>?_) hcls
  obtain ⟨oL,_,_,hoL,_⟩:=id hn
  refine h _ ⟨I.ok,I.os,I.bare,⟨fun b o e n hb hx=>?_,fun b o e n hb hx=>?_,I.base.free,fun b o e hx=>?_,I.base.tups,I.base.frzs,I.base.tbls⟩,⟨_,hn',fun j y v' e1 e2 e3=>?_⟩,fun y c e=>?_,I.free,I.freeC,fun p hp=>?_,tracked ⟨oL,hoL,I.free⟩ hs,by simpa using I.len⟩ ⟨_,hs,.inl rfl⟩
  ·exact (hs.2 b (Nat.ne_of_lt (Nat.lt_of_lt_of_le (Heap.lt_size e) I.ok.above))).trans (I.base.keep b o e n hb hx)
  ·obtain ⟨sl,e1⟩:=I.base.slot b o e n hb hx
   exact ⟨sl,(hs.2 b (Nat.ne_of_lt (Nat.lt_of_lt_of_le (Heap.lt_size e) I.ok.above))).trans e1⟩
  ·obtain ⟨o',e1⟩:=I.base.there b o e hx
   exact ⟨o',(hs.2 b (Nat.ne_of_lt (Nat.lt_of_lt_of_le (Heap.lt_size e) I.ok.above))).trans e1⟩
  ·by_cases hj:j=i
   ·subst hj
    rw [hi] at e1;cases e1
    rw [List.getElem?_set_self hiσ] at e2
    cases e2
    exact ⟨u,r,.inl ⟨hk,by simp⟩⟩
   ·rw [List.getElem?_set_ne (Ne.symm hj)] at e2
    obtain ⟨u',r',q⟩:=hl j y v' e1 e2 e3
    refine ⟨u',r',?_⟩
    rcases q with ⟨k,e⟩ | ⟨k,c,e,z⟩
    ·refine .inl ⟨k,?_⟩
     have:y≠x:=fun e=>hj (nodup_ix hN e1 (e▸hi))
     simp [this,e]
    ·exact .inr ⟨k,c,e,z.sameBut hs (cne y c e)⟩
  ·obtain ⟨w',z⟩:=I.cell y c e
   exact ⟨w',z.sameBut hs (cne y c e)⟩
  ·obtain ⟨e,n,ne,nf,d⟩:=I.pin p hp
   exact ⟨(hs.2 p.1 ne).trans e,n,ne,nf,d⟩
 ·have hfn:X.fn x=true:=by
   rcases hf with z | z
   ·exact z
   ·rw [z] at hk;cases hk
  obtain ⟨c,hc⟩:=I.ok.has x (.inl hk)
  obtain ⟨w',z⟩:=I.cell x c hc
  refine wpAny_storeName_cell I.ok.kind hk hc z (fun h' hc' hs=>?_)
  obtain ⟨oc,hoc,hocd⟩:=id z
  refine h { s with heap:=h' } ⟨I.ok,I.os,I.bare,⟨fun b o e n hb hx=>?_,fun b o e n hb hx=>?_,I.base.free,fun b o e hx=>?_,I.base.tups,I.base.frzs,I.base.tbls⟩,⟨m,hn.sameBut hs (Ne.symm (cne x c hc)),fun j y v' e1 e2 e3=>?_⟩,fun y c' e=>?_,I.free,I.freeC,fun p hp=>?_,tracked ⟨oc,hoc,I.freeC x c hc⟩ hs,by simpa using I.len⟩ ⟨c,hs,.inr hc⟩
  ·exact (hs.2 b (Nat.ne_of_lt (Nat.lt_of_lt_of_le (Heap.lt_size e) (I.ok.cab x c hfn hc)))).trans (I.base.keep b o e n hb hx)
  ·obtain ⟨sl,e1⟩:=I.base.slot b o e n hb hx
   exact ⟨sl,(hs.2 b (Nat.ne_of_lt (Nat.lt_of_lt_of_le (Heap.lt_size e) (I.ok.cab x c hfn hc)))).trans e1⟩
  ·obtain ⟨o',e1⟩:=I.base.there b o e hx
   exact ⟨o',(hs.2 b (Nat.ne_of_lt (Nat.lt_of_lt_of_le (Heap.lt_size e) (I.ok.cab x c hfn hc)))).trans e1⟩
  ·by_cases hj:j=i
   ·subst hj
    rw [hi] at e1;cases e1
    rw [List.getElem?_set_self hiσ] at e2
    cases e2
    exact ⟨u,r,.inr ⟨.inl hk,c,hc,hc'⟩⟩
   ·rw [List.getElem?_set_ne (Ne.symm hj)] at e2
    obtain ⟨u',r',q⟩:=hl j y v' e1 e2 e3
    refine ⟨u',r',?_⟩
    rcases q with q | ⟨k,c',e,z'⟩
    ·exact .inl q
    ·refine .inr ⟨k,c',e,z'.sameBut hs ?_⟩
     rintro rfl
     exact hj (nodup_ix hN e1 (I.ok.inj _ _ _ e hc▸hi))
  ·by_cases hcc:c'=c
   ·subst hcc;exact ⟨_,hc'⟩
   ·obtain ⟨w2,z2⟩:=I.cell y c' e
    exact ⟨w2,z2.sameBut hs hcc⟩
  ·obtain ⟨e,n,ne,nf,d⟩:=I.pin p hp
   refine ⟨(hs.2 p.1 ?_).trans e,n,ne,nf,d⟩
   intro q
   rw [q,hoc] at e
   have q':oc=p.2:=Option.some.inj e
   exact d w' (by rw [← q'];exact hocd)
theorem store_ok {M:Model} {A:Around} {E:Value→Shared→Prop} {i:Nat} {x:Str} {v:V} {u:Value} {Q:Unit→Shared→Prop} (I:Inv X pins σ H s) (hN:X.N.Nodup) (hi:X.N[i]?=some x) (hx:Loc X.env.scope x) (r:RelV v u)
  (h:∀ s',Inv X pins (σ.set i (some v)) H s'→Q () s') (hf:X.fn x=true∨X.env.scope.names.lookup x=some .local:=by first | exact .inl rfl | exact .inr rfl | assumption):wpAny M A (storeName X.env x u) Q E s :=
 store_ok2 I hN hi hx r (fun s' I' _=>h s' I') hf
theorem Inv.call' {s':Shared} {ch:List Addr} (I:Inv X pins σ H s) (ho:s'.os=s.os) (u:Un (frs X.stack) ch H H' s.heap s'.heap) (hok:HOk X.prog X.w H' s'.heap) (hg:AllBare s'.gens)
  (hch:∀ b∈ch,(b∈X.ex∨X.s₀.heap.objs.size≤b)∧b≠X.env.locals∧(∀ x c,X.env.cells.lookup x=some c→c≠b)∧∀ p∈X.pn++pins,p.1≠b):Inv X pins σ H' s':=by
 obtain ⟨h',g',d',t',o'⟩:=s'
 have e:o'=s.os:=ho
 subst e
 exact I.call (g':=g') (t':=t') (d':=d') u hok hg hch
end
abbrev XK:=Value→Option Addr→Hp→Prop
abbrev St:=List (Option V)
abbrev VK:=V→Hp→Prop
abbrev TE:=St→Hp→VK→Prop
abbrev TT:=St→Hp→(Bool→Hp→Prop)→Prop
abbrev TA:=St→Hp→(List V→Hp→Prop)→Prop
structure Ends where
 nx:St→Hp→Prop
 rt:VK
 bk:St→Hp→Prop:=fun _ _=>False
 ct:St→Hp→Prop:=fun _ _=>False
abbrev TS:=Ends→St→Hp→Prop
def EP (X:Cx) (pins:List (Addr × Obj)) (σ:St) (Q:VK) (u:Value) (s':Shared):Prop:=∃ v H',Inv X pins σ H' s'∧RelV v u∧Q v H'
def TP (X:Cx) (pins:List (Addr × Obj)) (σ:St) (Q:Bool→Hp→Prop) (b:Bool) (s':Shared):Prop:=∃ H',Inv X pins σ H' s'∧Q b H'
def AP (X:Cx) (pins:List (Addr × Obj)) (σ:St) (Q:List V→Hp→Prop) (us:List Value) (s':Shared):Prop:=∃ vs H',Inv X pins σ H' s'∧Vals vs us∧Q vs H'
def SP (X:Cx) (pins:List (Addr × Obj)) (D:Ends) (f:Flow) (s':Shared):Prop :=
 match f with
 | .next=>∃ σ' H',Inv X pins σ' H' s'∧D.nx σ' H'
 | .brk=>∃ σ' H',Inv X pins σ' H' s'∧D.bk σ' H'
 | .cont=>∃ σ' H',Inv X pins σ' H' s'∧D.ct σ' H'
 | .ret u=>∃ v σ' H',Inv X pins σ' H' s'∧RelV v u∧D.rt v H'
def PE (X:Cx) (e:Expr) (t:TE):Prop :=
 ∀ (pins:List (Addr × Obj)) (s:Shared) (σ:St) (H:Hp) (Q:VK),Inv X pins σ H s→t σ H Q→wpAny (model X.prog X.w) X.A (eval e X.env) (EP X pins σ Q) X.xe s
def PT (X:Cx) (e:Expr) (t:TT):Prop :=
 ∀ (pins:List (Addr × Obj)) (s:Shared) (σ:St) (H:Hp) (Q:Bool→Hp→Prop),Inv X pins σ H s→t σ H Q→wpAny (model X.prog X.w) X.A (isTrue e X.env (eval e X.env)) (TP X pins σ Q) X.xe s
def PW (X:Cx) (e:Expr) (t:TT):Prop :=
 ∀ (whole:Sem Value) (pins:List (Addr × Obj)) (s:Shared) (σ:St) (H:Hp) (Q:Bool→Hp→Prop),Inv X pins σ H s→t σ H Q→wpAny (model X.prog X.w) X.A (isTrue e X.env whole) (TP X pins σ Q) X.xe s
theorem PW.pt {X:Cx} {e:Expr} {t:TT} (h:PW X e t):PT X e t:=h _
def PA (X:Cx) (es:List Expr) (t:TA):Prop :=
 ∀ (pos:Pos) (pins:List (Addr × Obj)) (s:Shared) (σ:St) (H:Hp) (Q:List V→Hp→Prop),Inv X pins σ H s→t σ H Q→wpAny (model X.prog X.w) X.A (spliced (backTo pos (starEach es X.env))) (AP X pins σ Q) X.xe s
def PS (X:Cx) (st:Stmt) (t:TS):Prop :=
 ∀ (pins:List (Addr × Obj)) (s:Shared) (σ:St) (H:Hp) (D:Ends),Inv X pins σ H s→t D σ H→wpAny (model X.prog X.w) X.A (exec st X.env) (SP X pins D) X.xe s
def PSs (X:Cx) (st:List Stmt) (t:TS):Prop :=
 ∀ (pins:List (Addr × Obj)) (s:Shared) (σ:St) (H:Hp) (D:Ends),Inv X pins σ H s→t D σ H→wpAny (model X.prog X.w) X.A (execs st X.env) (SP X pins D) X.xe s
theorem thn {α:Type} {t:Sem α} {Q Q':α→Shared→Prop} {M:Model} {A:Around} {E:Value→Shared→Prop} {s:Shared} (h:wpAny M A t Q E s) (hQ:∀ a s,Q a s→Q' a s):wpAny M A t Q' E s:=wpAny_mono h hQ fun _ _ x=>x
end L2
namespace L2
open PySem PySem.Spec PyProof.Rows
section
variable {X:Cx}
def tVar (i:Nat):TE:=fun σ H Q=>∃ v,σ[i]?=some (some v)∧Q v H
def tC (v:V):TE:=fun _ H Q=>Q v H
theorem pe_var {i:Nat} {x:Str} {pos:Pos} (hN:X.N[i]?=some x) (hv:Vis X.env.scope x) (hd:(x==("__debug__":Str))=false:=by decide) (hcd:(x==("__classdict__":Str))=false:=by decide):PE X (.Name x pos) (tVar i):=by
 intro pins s σ H Q I h
 obtain ⟨v,e,h⟩:=h
 obtain ⟨m,hn,hl⟩:=I.loc
 obtain ⟨u,r,l⟩:=hl i x v hN e hv
 have fin:EP X pins σ Q u s:=⟨v,H,I,r,h⟩
 rcases l with ⟨hk,hm⟩ | ⟨hk,c,hc,hcell⟩
 ·exact wpAny_Name (wpAny_loadName_local I.ok.kind hk hn hm fin) hd
 ·rcases hk with hk | hk
  ·exact wpAny_Name (wpAny_loadName_cell I.ok.kind hk hc hcell fin) hd
  ·exact wpAny_Name (wpAny_loadName_free I.ok.kind hk hc hcell fin hcd) hd
theorem pe_int {i j pos}:PE X (.Constant (.int i) j pos) (tC (.int i)):=fun _ _ _ H _ I h=>wpAny_Constant_int ⟨.int i,H,I.tok _,⟨_,rfl⟩,h⟩
theorem pe_bl {b j pos}:PE X (.Constant (.bool b) j pos) (tC (.bl b)):=fun _ _ _ H _ I h=>Constant_bool ⟨.bl b,H,I,rfl,h⟩
theorem pe_non {j pos}:PE X (.Constant .none j pos) (tC .non):=fun _ _ _ H _ I h=>Constant_none ⟨.non,H,I,rfl,h⟩
theorem pe_str {x j pos}:PE X (.Constant (.str x) j pos) (tC (.str x)):=fun _ _ _ H _ I h=>Calls.Constant_str ⟨.str x,H,I.tok _,⟨_,rfl⟩,h⟩
def Gl (X:Cx) (x:Str):Prop:=X.env.kindOf x=some .globalImplicit
theorem ld_glob {E:Value→Shared→Prop} {pins:List (Addr × Obj)} {s:Shared} {σ:St} {H:Hp} {x:Str} {u:Value} {pos:Pos} {Q:Value→Shared→Prop} (I:Inv X pins σ H s) (hg:Gl X x) (hm:X.mg x=some u) (h:Q u s)
  (hd:(x==("__debug__":Str))=false:=by decide):wpAny (model X.prog X.w) X.A (eval (.Name x pos) X.env) Q E s :=
 Calls.Name_function_global I.ok.kind hg (Calls.loadGlobal_global (by rw [I.ok.glob];exact I.mod.glob.keeps I.bk) hm h) hd
theorem ld_blt {E:Value→Shared→Prop} {pins:List (Addr × Obj)} {s:Shared} {σ:St} {H:Hp} {x:Str} {u:Value} {pos:Pos} {Q:Value→Shared→Prop} (I:Inv X pins σ H s) (hg:Gl X x) (hm:X.mg x=none) (hv:bootBuiltins x=some u) (h:Q u s)
  (hn:x≠"__name__":=by decide) (hd:(x==("__debug__":Str))=false:=by decide):wpAny (model X.prog X.w) X.A (eval (.Name x pos) X.env) Q E s:=by
 obtain ⟨mb,h1,h2⟩:=I.mod.blt
 exact Calls.Name_function_global I.ok.kind hg (Calls.loadGlobal_builtin (by rw [I.ok.glob];exact I.mod.glob.keeps I.bk) hm (by rw [I.ok.blt];exact h1.keeps I.bk) ((h2 x hn).trans hv) h) hd
theorem pe_glob {x:Str} {v:V} {u:Value} {pos:Pos} (hg:Gl X x) (hm:X.mg x=some u) (r:RelV v u) (hd:(x==("__debug__":Str))=false:=by decide):PE X (.Name x pos) (tC v) :=
 fun _ _ _ H _ I h=>ld_glob I hg hm ⟨v,H,I,r,h⟩ hd
theorem pe_bltn {x:Str} {v:V} {u:Value} {pos:Pos} (hg:Gl X x) (hm:X.mg x=none) (hv:bootBuiltins x=some u) (r:RelV v u) (hn:x≠"__name__":=by decide) (hd:(x==("__debug__":Str))=false:=by decide):PE X (.Name x pos) (tC v) :=
 fun _ _ _ H _ I h=>ld_blt I hg hm hv ⟨v,H,I,r,h⟩ hn hd
variable {a b:Expr} {ta tb:TE} {pos:Pos}
variable {tA tB':TT} {rest:List Expr}
def tAnd (t u:TT):TT:=fun σ H Q=>t σ H fun c H1=>if c=true then u σ H1 Q else Q false H1
def tOr (t u:TT):TT:=fun σ H Q=>t σ H fun c H1=>if c=true then Q true H1 else u σ H1 Q
def tNot (t:TT):TT:=fun σ H Q=>t σ H fun c H1=>Q (!c) H1
theorem pw_and1 (ha:PT X a tA):PW X (.BoolOp .And [a] pos) tA:=by
 intro wh pins s σ H Q I h
 refine isTrue_and (thn (ha pins s σ H Q I h) fun c s1 e=>?_)
 cases c with
 | true=>exact isTrue_and_nil e
 | false=>exact e
theorem pw_or1 (ha:PT X a tA):PW X (.BoolOp .Or [a] pos) tA:=by
 intro wh pins s σ H Q I h
 refine isTrue_or (thn (ha pins s σ H Q I h) fun c s1 e=>?_)
 cases c with
 | false=>exact isTrue_or_nil e
 | true=>exact e
theorem pw_and (ha:PT X a tA) (hb:PW X (.BoolOp .And (b::rest) pos) tB'):PW X (.BoolOp .And (a::b::rest) pos) (tAnd tA tB'):=by
 intro wh pins s σ H Q I h
 refine isTrue_and (thn (ha pins s σ H _ I h) fun c s1 ⟨H1,I1,q1⟩=>?_)
 cases c with
 | true=>exact hb wh pins s1 σ H1 Q I1 q1
 | false=>exact ⟨H1,I1,q1⟩
theorem pw_or (ha:PT X a tA) (hb:PW X (.BoolOp .Or (b::rest) pos) tB'):PW X (.BoolOp .Or (a::b::rest) pos) (tOr tA tB'):=by
 intro wh pins s σ H Q I h
 refine isTrue_or (thn (ha pins s σ H _ I h) fun c s1 ⟨H1,I1,q1⟩=>?_)
 cases c with
 | true=>exact ⟨H1,I1,q1⟩
 | false=>exact hb wh pins s1 σ H1 Q I1 q1
theorem pt_not (ha:PT X a tA):PT X (.UnaryOp .Not a pos) (tNot tA):=by
 intro pins s σ H Q I h
 exact isTrue_not (ha pins s σ H (fun c H1=>Q (!c) H1) I h)
def tAndV (ta tb:TE):TE:=fun σ H Q=>ta σ H fun x H1=>∃ c,x=.bl c∧if c=true then tb σ H1 Q else Q (.bl false) H1
def tOrV (ta tb:TE):TE:=fun σ H Q=>ta σ H fun x H1=>∃ c,x=.bl c∧if c=true then Q (.bl true) H1 else tb σ H1 Q
def tNotV (ta:TE):TE:=fun σ H Q=>ta σ H fun x H1=>∃ c,x=.bl c∧Q (.bl (!c)) H1
theorem pe_one {op} {t:TE} (h:PE X a t):PE X (.BoolOp op [a] pos) t:=fun pins s σ H Q I hw=>BoolOp_one (h pins s σ H Q I hw)
theorem pe_and (ha:PE X a ta) (hb:PE X (.BoolOp .And (b::rest) pos) tb):PE X (.BoolOp .And (a::b::rest) pos) (tAndV ta tb):=by
 intro pins s σ H Q I h
 refine BoolOp_and (thn (ha pins s σ H _ I h) fun v s1 ⟨x,H1,I1,r1,q1⟩=>?_)
 obtain ⟨c,rfl,q1⟩:=q1
 cases r1
 refine wpAny_truthy_bool ?_
 cases c with
 | true=>exact hb pins s1 σ H1 Q I1 q1
 | false=>exact ⟨.bl false,H1,I1,rfl,q1⟩
theorem pe_or (ha:PE X a ta) (hb:PE X (.BoolOp .Or (b::rest) pos) tb):PE X (.BoolOp .Or (a::b::rest) pos) (tOrV ta tb):=by
 intro pins s σ H Q I h
 refine BoolOp_or (thn (ha pins s σ H _ I h) fun v s1 ⟨x,H1,I1,r1,q1⟩=>?_)
 obtain ⟨c,rfl,q1⟩:=q1
 cases r1
 refine wpAny_truthy_bool ?_
 cases c with
 | false=>exact hb pins s1 σ H1 Q I1 q1
 | true=>exact ⟨.bl true,H1,I1,rfl,q1⟩
theorem pe_not (ha:PE X a ta):PE X (.UnaryOp .Not a pos) (tNotV ta):=by
 intro pins s σ H Q I h
 refine UnaryOp_ (thn (ha pins s σ H _ I h) fun v s1 ⟨x,H1,I1,r1,q1⟩=>?_)
 obtain ⟨c,rfl,q1⟩:=q1
 cases r1
 exact not_of (wpAny_truthy_bool ⟨.bl (!c),H1,I1,rfl,q1⟩)
def tIf (t:TT) (ta tb:TE):TE:=fun σ H Q=>t σ H fun c H1=>if c=true then ta σ H1 Q else tb σ H1 Q
theorem pe_ifExp {c:Expr} (hc:PT X c tA) (ha:PE X a ta) (hb:PE X b tb):PE X (.IfExp c a b pos) (tIf tA ta tb):=by
 intro pins s σ H Q I h
 refine wpAny_IfExp (thn (hc pins s σ H _ I h) fun d s1 ⟨H1,I1,q1⟩=>?_)
 cases d with
 | true=>exact ha pins s1 σ H1 Q I1 q1
 | false=>exact hb pins s1 σ H1 Q I1 q1
end
end L2
namespace L2
open PySem PySem.Spec PyProof.Rows
def SqL (K:PySem.W.Frag) (H:Hp) (a:Addr) (xs:List V):Prop :=
 Rd H a (.lst xs) ∨
  ∃ (o:Obj) (its:Array Value) (n:Nat),K.lookup a=some o∧o.cls=.type "list"∧o.dict=none∧o.data=.seq its n∧its.size≤sizeLine∧Vals xs its.toList
def SqT (K:PySem.W.Frag) (H:Hp) (a:Addr) (xs:List V):Prop :=
 Rd H a (.tup xs) ∨
  ∃ (o:Obj) (its:Array Value) (n:Nat),K.lookup a=some o∧o.cls=.type "tuple"∧o.data=.seq its n∧its.size≤sizeLine∧Vals xs its.toList
def absV:Value→Option V
 | .none=>some .non
 | .bool b=>some (.bl b)
 | .int i _=>some (.int i)
 | .str x _=>some (.str x)
 | .bytes b _=>some (.byt b)
 | .float b _=>some (.flt b)
 | .ref a=>some (.ref a)
 | .type n=>some (.ty n)
 | _=>none
theorem RelV.abs {x:V} {u:Value} (r:RelV x u):absV u=some x:=by
 cases x with
 | non=>cases r;rfl
 | bl _=>cases r;rfl
 | int _=>obtain ⟨t,rfl⟩:=r;rfl
 | str _=>obtain ⟨t,rfl⟩:=r;rfl
 | byt _=>obtain ⟨t,rfl⟩:=r;rfl
 | flt _=>obtain ⟨t,rfl⟩:=r;rfl
 | ref _=>cases r;rfl
 | ty _=>cases r;rfl
theorem RelV.inj {x y:V} {u:Value} (r:RelV x u) (q:RelV y u):x=y:=Option.some.inj (r.abs.symm.trans q.abs)
theorem Vals.inj:∀ {xs ys:List V} {us:List Value},Vals xs us→Vals ys us→xs=ys
 | _,_,_,.nil,.nil=>rfl
 | _,_,_,.cons r t,.cons r' t'=>by rw [r.inj r',Vals.inj t t']
section
variable {X:Cx} {pins:List (Addr × Obj)} {σ:St} {H:Hp} {s:Shared} {a:Addr} {xs ys:List V}
theorem SqL.of {K:PySem.W.Frag} (h:H a=some (.lst xs)):SqL K H a xs:=.inl (.inl h)
theorem SqT.of {K:PySem.W.Frag} (h:H a=some (.tup xs)):SqT K H a xs:=.inl (.inl h)
theorem Inv.list (I:Inv X pins σ H s) (h:SqL X.K H a xs):∃ its:List Value,Vals xs its∧PlainL s.heap a its.toArray∧xs.length≤sizeLine:=by
 rcases h with h | ⟨o,its,n,hk,hc,hd,hs,hz,r⟩
 ·obtain ⟨z,its,n,r,e⟩:=h.ok I.hok
  exact ⟨its,r,⟨_,n,e,rfl,rfl,rfl⟩,z⟩
 ·refine ⟨its.toList,r,⟨o,n,I.kIn a o hk,hc,hd,by simpa using hs⟩,?_⟩
  have e:=r.length
  simp only [Array.length_toList] at e
  omega
theorem Inv.tuple (I:Inv X pins σ H s) (h:SqT X.K H a xs):∃ its:List Value,Vals xs its∧IsTup s.heap a its.toArray∧xs.length≤sizeLine:=by
 rcases h with h | ⟨o,its,n,hk,hc,hs,hz,r⟩
 ·obtain ⟨z,its,r,p⟩:=h.ok I.hok
  exact ⟨its,r,p,z⟩
 ·refine ⟨its.toList,r,⟨o,I.kIn a o hk,hc,n,by simpa using hs⟩,?_⟩
  have e:=r.length
  simp only [Array.length_toList] at e
  omega
theorem Inv.list_inj (I:Inv X pins σ H s) (h:SqL X.K H a xs) (h':SqL X.K H a ys):xs=ys:=by
 obtain ⟨its,r,⟨o,n,e,_,_,d⟩,_⟩:=I.list h
 obtain ⟨its',r',⟨o',n',e',_,_,d'⟩,_⟩:=I.list h'
 rw [e] at e';cases e'
 rw [d] at d'
 injection d' with d1 _
 have:its=its':=by simpa using congrArg Array.toList d1
 subst this
 exact r.inj r'
theorem Inv.tuple_inj (I:Inv X pins σ H s) (h:SqT X.K H a xs) (h':SqT X.K H a ys):xs=ys:=by
 obtain ⟨its,r,⟨o,e,_,n,d⟩,_⟩:=I.tuple h
 obtain ⟨its',r',⟨o',e',_,n',d'⟩,_⟩:=I.tuple h'
 rw [e] at e';cases e'
 rw [d] at d'
 injection d' with d1 _
 have:its=its':=by simpa using congrArg Array.toList d1
 subst this
 exact r.inj r'
end
abbrev Cx.wish (X:Cx) (E:Value→Shared→Prop):Cx:={ X with xe:=E }
abbrev Cx.nox (X:Cx):Cx:=X.wish fun _ _=>False
theorem Cx.Ok.wish {X:Cx} (ok:X.Ok) (E:Value→Shared→Prop):(X.wish E).Ok :=
 ⟨ok.mod,ok.kind,ok.glob,ok.blt,ok.above,ok.inj,ok.has,ok.cab,ok.hd,ok.frames,ok.stk,ok.exf,ok.bs,ok.bsz,ok.noex,ok.exfs,ok.funs,ok.frf⟩
theorem Cx.Ok.unwish {X:Cx} {E:Value→Shared→Prop} (ok:(X.wish E).Ok):X.Ok :=
 ⟨ok.mod,ok.kind,ok.glob,ok.blt,ok.above,ok.inj,ok.has,ok.cab,ok.hd,ok.frames,ok.stk,ok.exf,ok.bs,ok.bsz,ok.noex,ok.exfs,ok.funs,ok.frf⟩
section
variable {X:Cx} {pins:List (Addr × Obj)} {σ:St} {H:Hp} {s:Shared} {E:Value→Shared→Prop}
theorem Inv.wish (I:Inv X pins σ H s) (E:Value→Shared→Prop):Inv (X.wish E) pins σ H s:=⟨I.ok.wish E,I.os,I.bare,I.base,I.loc,I.cell,I.free,I.freeC,I.pin,I.hok,I.len⟩
theorem Inv.unwish (I:Inv (X.wish E) pins σ H s):Inv X pins σ H s:=⟨I.ok.unwish,I.os,I.bare,I.base,I.loc,I.cell,I.free,I.freeC,I.pin,I.hok,I.len⟩
theorem SP.unwish {D:Ends} {f:Flow} {s':Shared} (h:SP (X.wish E) pins D f s'):SP X pins D f s':=by
 cases f with
 | next=>obtain ⟨σ',H',I,q⟩:=h;exact ⟨σ',H',I.unwish,q⟩
 | brk=>obtain ⟨σ',H',I,q⟩:=h;exact ⟨σ',H',I.unwish,q⟩
 | cont=>obtain ⟨σ',H',I,q⟩:=h;exact ⟨σ',H',I.unwish,q⟩
 | ret u=>obtain ⟨v,σ',H',I,r,q⟩:=h;exact ⟨v,σ',H',I.unwish,r,q⟩
theorem PSs.nox {st:List Stmt} {t:TS} (h:PSs X.nox st t):PSs X st t:=fun pins s σ H D I hw =>
 wpAny_mono (h pins s σ H D (I.wish _) hw) (fun _ _ q=>q.unwish) fun _ _ z=>False.elim z
end
section
variable {X:Cx} {st:Stmt} {rest:List Stmt} {t u:TS} {e:Expr} {te:TE} {pos:Pos}
def tNext:TS:=fun D σ H=>D.nx σ H
def tSeq (t u:TS):TS:=fun D σ H=>t { D with nx:=u D } σ H
theorem pss_nil:PSs X [] tNext:=fun _ _ σ H _ I h=>wpAny_execs_nil ⟨σ,H,I,h⟩
theorem pss_cons (h1:PS X st t) (h2:PSs X rest u):PSs X (st::rest) (tSeq t u):=by
 intro pins s σ H D I h
 refine wpAny_execs_cons (thn (h1 pins s σ H { D with nx:=u D } I h) fun f s1 q=>?_)
 cases f with
 | next =>
  obtain ⟨σ',H',I',q⟩:=q
  exact h2 pins s1 σ' H' D I' q
 | ret v=>exact q
 | brk=>exact q
 | cont=>exact q
theorem pss_one (h1:PS X st t):PSs X [st] t:=by
 intro pins s σ H D I h
 refine wpAny_execs_cons (thn (h1 pins s σ H D I h) fun f s1 q=>?_)
 cases f with
 | next=>exact wpAny_execs_nil q
 | ret v=>exact q
 | brk=>exact q
 | cont=>exact q
def tBreak:TS:=fun D σ H=>D.bk σ H
def tCont:TS:=fun D σ H=>D.ct σ H
theorem ps_pass:PS X (.Pass pos) tNext:=fun _ _ σ H _ I h=>wpAny_Pass ⟨σ,H,I,h⟩
theorem ps_break:PS X (.Break pos) tBreak:=fun _ _ σ H _ I h=>wpAny_Break ⟨σ,H,I,h⟩
theorem ps_continue:PS X (.Continue pos) tCont:=fun _ _ σ H _ I h=>wpAny_Continue ⟨σ,H,I,h⟩
theorem Inv.quiet {pins:List (Addr × Obj)} {σ:St} {H:Hp} {s:Shared} (I:Inv X pins σ H s):interactive X.env=false:=by simp [interactive,I.ok.kind]
theorem ps_doc {x j pos pos'}:PS X (.Expr (.Constant (.str x) j pos) pos') tNext:=fun _ s σ H _ I h=>wpAny_Expr (Calls.Constant_str (show SP X _ _ .next { s with toks:=s.toks+1 } from ⟨σ,H,I.tok _,h⟩)) I.quiet
def tDrop (te:TE):TS:=fun D σ H=>te σ H fun _ H1=>D.nx σ H1
theorem ps_expr (he:PE X e te) (hs:swapsWith e none pos.line X.env=pure false:=by rfl):PS X (.Expr e pos) (tDrop te):=by
 intro pins s σ H D I h
 exact wpAny_Expr_any (thn (he pins s σ H _ I h) fun v s1 ⟨x,H1,I1,r1,q1⟩=>⟨σ,H1,I1,q1⟩) I.quiet hs
def tRet (te:TE):TS:=fun D σ H=>te σ H D.rt
theorem ps_ret (he:PE X e te):PS X (.Return (some e) pos) (tRet te):=by
 intro pins s σ H D I h
 exact wpAny_Return_some (thn (he pins s σ H _ I h) fun v s1 ⟨x,H1,I1,r1,q1⟩=>⟨x,σ,H1,I1,r1,q1⟩)
def tRetN:TS:=fun D _ H=>D.rt .non H
theorem ps_retN:PS X (.Return none pos) tRetN:=fun _ _ σ H _ I h=>wpAny_Return_none ⟨.non,σ,H,I,rfl,h⟩
def tIfS (c:TT) (t u:TS):TS:=fun D σ H=>c σ H fun b H1=>if b=true then t D σ H1 else u D σ H1
theorem ps_if {c:Expr} {a b:List Stmt} {tc:TT} (hc:PT X c tc) (ha:PSs X a t) (hb:PSs X b u):PS X (.If c a b pos) (tIfS tc t u):=by
 intro pins s σ H D I h
 refine wpAny_If (thn (hc pins s σ H _ I h) fun d s1 ⟨H1,I1,q1⟩=>?_)
 cases d with
 | true=>exact ha pins s1 σ H1 D I1 q1
 | false=>exact hb pins s1 σ H1 D I1 q1
end
abbrev TG:=V→St→Hp→(St→Hp→Prop)→Prop
abbrev TGs:=List V→St→Hp→(St→Hp→Prop)→Prop
def PG (X:Cx) (target:Expr) (t:TG):Prop :=
 ∀ (pins:List (Addr × Obj)) (s:Shared) (σ:St) (H:Hp) (v:V) (u:Value) (Q:St→Hp→Prop),Inv X pins σ H s→RelV v u→t v σ H Q →
  wpAny (model X.prog X.w) X.A (assign target X.env u) (fun _ s'=>∃ σ' H',Inv X pins σ' H' s'∧Q σ' H') X.xe s
def PGs (X:Cx) (ts:List Expr) (t:TGs):Prop :=
 ∀ (pins:List (Addr × Obj)) (s:Shared) (σ:St) (H:Hp) (vs:List V) (us:List Value) (Q:St→Hp→Prop),Inv X pins σ H s→Vals vs us→t vs σ H Q →
  wpAny (model X.prog X.w) X.A (assignInOrder ((assignEach ts X.env).map (·.2)) us) (fun _ s'=>∃ σ' H',Inv X pins σ' H' s'∧Q σ' H') X.xe s
section
variable {X:Cx} {pos:Pos}
def gName (i:Nat):TG:=fun v σ H Q=>Q (σ.set i (some v)) H
theorem pg_name {i:Nat} {x:Str} (hN:X.N.Nodup) (hi:X.N[i]?=some x) (hx:Loc X.env.scope x) (hf:X.fn x=true∨X.env.scope.names.lookup x=some .local:=by first | exact .inl rfl | exact .inr rfl | assumption):PG X (.Name x pos) (gName i):=by
 intro pins s σ H v u Q I r h
 exact wpAny_assign_Name (store_ok I hN hi hx r (fun s' I'=>⟨_,H,I',h⟩) hf)
def gNil:TGs:=fun vs σ H Q=>vs=[]∧Q σ H
def gCons (t:TG) (u:TGs):TGs:=fun vs σ H Q=>∃ v r,vs=v::r∧t v σ H fun σ' H'=>u r σ' H' Q
theorem pgs_nil:PGs X [] gNil:=by
 intro pins s σ H vs us Q I r h
 obtain ⟨e,h⟩:=h
 subst e
 cases r
 exact assignInOrder_nil ⟨σ,H,I,h⟩
theorem pgs_cons {e:Expr} {es:List Expr} {t:TG} {u:TGs} (h1:PG X e t) (h2:PGs X es u)
  (hs:(assignEach (e::es) X.env).map (·.2)=assign e X.env::(assignEach es X.env).map (·.2):=by rfl):PGs X (e::es) (gCons t u):=by
 intro pins s σ H vs us Q I r h
 obtain ⟨v,vr,e1,h⟩:=h
 subst e1
 cases r with
 | cons r rr =>
  rw [hs]
  refine assignInOrder_cons (thn (h1 pins s σ H _ _ _ I r h) fun _ s1 ⟨σ1,H1,I1,q1⟩=>?_)
  exact h2 pins s1 σ1 H1 _ _ Q I1 rr q1
def gTup (K:PySem.W.Frag) (n:Nat) (t:TGs):TG:=fun v σ H Q=>∃ a xs,v=.ref a∧SqT K H a xs∧xs.length=n∧t xs σ H Q
theorem pg_tup {es:List Expr} {k:Nat} {t:TGs} {n:Nat} (hc:X.calm=true) (h:PGs X es t)
  (hn:(assignEach es X.env).length=n:=by rfl) (hst:(assignEach es X.env).findIdx? (·.1)=none:=by rfl):PG X (.Tuple es k pos) (gTup X.K n t):=by
 intro pins s σ H v u Q I r hw
 obtain ⟨a,xs,e1,hq,hl,hw⟩:=hw
 subst e1
 cases r
 obtain ⟨its,rv,ht,hz⟩:=I.tuple hq
 refine assign_Tuple_tuple (I.ok.hd hc) ht (by simp [hn,← hl,rv.length]) hst fun h' hx=>?_
 have I1:Inv X pins σ H { s with heap:=h' }:=I.kept (t':=s.toks) fun b o e=>hx b o (Nat.ne_of_lt (Heap.lt_size e)) e
 exact h pins _ σ H xs _ Q I1 (by simpa using rv) hw
def tAsg (te:TE) (g:TG):TS:=fun D σ H=>te σ H fun x H1=>g x σ H1 D.nx
theorem ps_asg {tg e:Expr} {te:TE} {g:TG} (he:PE X e te) (hg:PG X tg g) (hs:swapsWithSole [tg] e pos.line X.env=pure false:=by rfl) (hw:swappedStores [tg] e X.env=pure none:=by rfl)
  (h1:(assignEach [tg] X.env).map (·.2)=[assign tg X.env]:=by rfl):PS X (.Assign [tg] e pos) (tAsg te g):=by
 intro pins s σ H D I h
 refine wpAny_Assign_stores (thn (he pins s σ H _ I h) fun v s1 ⟨x,H1,I1,r1,q1⟩=>?_) hs hw
 rw [h1]
 exact thn (hg pins s1 σ H1 x v _ I1 r1 q1) fun _ s2 q=>q
theorem ps_set {i:Nat} {x:Str} {e:Expr} {te:TE} {pos':Pos} (hN:X.N.Nodup) (hi:X.N[i]?=some x) (hx:Loc X.env.scope x) (he:PE X e te) (hs:swapsWith e (some (.Name x pos')) pos.line X.env=pure false:=by rfl) (hf:X.fn x=true∨X.env.scope.names.lookup x=some .local:=by first | exact .inl rfl | exact .inr rfl | assumption) :
  PS X (.Assign [.Name x pos'] e pos) (tAsg te (gName i)):=by
 intro pins s σ H D I h
 refine wpAny_Assign_Name (thn (he pins s σ H _ I h) fun v s1 ⟨y,H1,I1,r1,q1⟩=>?_) hs
 exact store_ok I1 hN hi hx r1 (fun s2 I2=>⟨_,H1,I2,q1⟩) hf
end
section
variable {X:Cx} {pos:Pos}
end
structure It where
 go:Nat→Hp→Prop
 yld:Nat→Hp→V→Hp→Prop
 stop:Nat→Hp→Prop
def FpOk (X:Cx) (pins:List (Addr × Obj)) (H:Hp) (b:Addr):Prop :=
 H b=none∧b≠X.env.locals∧b∉X.fs∧(b∈X.ex∨X.s₀.heap.objs.size≤b)∧(∀ x c,X.env.cells.lookup x=some c→c≠b)∧∀ p∈X.pn++pins,p.1≠b
theorem Inv.fpOk {X:Cx} {pins:List (Addr × Obj)} {σ:St} {H H':Hp} {s:Shared} {b:Addr} (I:Inv X pins σ H s) (hb:s.heap.objs.size≤b) (hn:H' b=none):FpOk X pins H' b:=by
 refine ⟨hn,Nat.ne_of_gt (Nat.lt_of_lt_of_le I.lt hb),I.nofs hb,.inr (Nat.le_trans I.sz hb),fun x c e z=>?_,fun p hp z=>?_⟩
 ·obtain ⟨v,q⟩:=I.cell x c e
  exact absurd (Nat.lt_of_lt_of_le q.lt (by rw [z];exact hb)) (Nat.lt_irrefl _)
 ·exact absurd (Nat.lt_of_lt_of_le (Heap.lt_size (I.pin p hp).1) (by rw [z];exact hb)) (Nat.lt_irrefl _)
structure Turn (P:Program) (w:World) (K:PySem.W.Frag) (tg:Expr) (J:It) (fp:List Addr) (it:Addr) (tn:Nat→Heap→Prop):Prop where
 mem:it∈fp
 obj:∀ i h,tn i h→∀ b∈fp,∃ o,h.get? b=some o∧∀ v,o.data≠.cell v
 keep:∀ i h h',tn i h→(∀ b∈fp,∀ o,h.get? b=some o→h'.get? b=some o)→tn i h'
 item:∀ (X:Cx),X.prog=P→X.w=w→X.K=K→X.calm=true→∀ (i:Nat) (pins:List (Addr × Obj)) (s:Shared) (σ:St) (H:Hp) (E:Value→Shared→Prop),Inv X pins σ H s→(∀ b∈fp,FpOk X pins H b)→tn i s.heap→J.go i H →
  wpAny (model P w) X.A (pyNext (.ref it)) (fun r s1=>∃ u,r=some u ∧
   wpAny (model P w) X.A (letOwnedTupleGo tg (.ref it) u) (fun _ s2=>∃ x H',Inv X pins σ H' s2∧RelV x u∧J.yld i H x H'∧tn (i+1) s2.heap∧∀ b∈fp,H' b=none) E s1) E s
 done:∀ (X:Cx),X.prog=P→X.w=w→X.K=K→X.calm=true→∀ (i:Nat) (pins:List (Addr × Obj)) (s:Shared) (σ:St) (H:Hp) (E:Value→Shared→Prop),Inv X pins σ H s→(∀ b∈fp,FpOk X pins H b)→tn i s.heap→J.stop i H →
  wpAny (model P w) X.A (pyNext (.ref it)) (fun r s1=>r=none∧Inv X pins σ H s1) E s
 self:∀ (A:Around) (i:Nat) (s:Shared) (Q:Value→Shared→Prop) (E:Value→Shared→Prop),tn i s.heap→Q (.ref it) s→wpAny (model P w) A (pyIter (.ref it)) Q E s
abbrev TI:=St→Hp→(It→Hp→Prop)→Prop
def PIE (X:Cx) (pins:List (Addr × Obj)) (σ:St) (tg:Expr) (R:It→Hp→Prop) (itv:Value) (s2:Shared):Prop :=
 ∃ (it:Addr) (fp:List Addr) (tn:Nat→Heap→Prop) (J:It) (H':Hp),itv=.ref it∧Inv X pins σ H' s2∧Turn X.prog X.w X.K tg J fp it tn∧tn 0 s2.heap∧(∀ b∈fp,FpOk X pins H' b)∧R J H'
def PI (X:Cx) (tg iter:Expr) (wi:TI):Prop :=
 ∀ (pins:List (Addr × Obj)) (s:Shared) (σ:St) (H:Hp) (R:It→Hp→Prop),Inv X pins σ H s→wi σ H R →
  wpAny (model X.prog X.w) X.A (eval iter X.env) (fun v s1=>wpAny (model X.prog X.w) X.A (pyIter v) (PIE X pins σ tg R) X.xe s1) X.xe s
theorem go_of {M:Model} {A:Around} {E:Value→Shared→Prop} {s:Shared} {tg:Expr} {it:Addr} {u:Value} {o:Obj} {n:String} {vs:Array Value} {Q:Unit→Shared→Prop} (ho:s.heap.get? it=some o) (hc:o.cls=.type n) (hd:o.data=.fields vs)
  (hn:["enumerate", "zip", "dict_itemiterator", "dict_reverseitemiterator", "odict_iterator", "itertools.zip_longest", "itertools.pairwise"].contains n=false) (hQ:Q () s):wpAny M A (letOwnedTupleGo tg (.ref it) u) Q E s:=by
 unfold letOwnedTupleGo
 cases tg<;>first
  | exact wpAny_pure hQ
  | (cases u<;>first
    | exact wpAny_pure hQ
    | (refine wpAny_bind (wpAny_load ho ?_)
       rw [hc,hd]
       show wpAny M A (if (["enumerate", "zip", "dict_itemiterator", "dict_reverseitemiterator", "odict_iterator", "itertools.zip_longest", "itertools.pairwise"].contains n&&vs[0]?==some (rawInt _))=true then _ else _) Q E s
       rw [if_neg (by intro h;rw [hn,Bool.false_and] at h;cases h)]
       exact wpAny_pure hQ))
def Itl (K:PySem.W.Frag) (a:Addr):It :=
 ⟨fun i H=>∃ xs x,SqL K H a xs∧xs[i]?=some x,fun i H x H'=>H'=H∧∀ xs,SqL K H a xs→xs[i]?=some x,fun i H=>∃ xs,SqL K H a xs∧xs.length≤i⟩
def Itt (K:PySem.W.Frag) (a:Addr):It :=
 ⟨fun i H=>∃ xs x,SqT K H a xs∧xs[i]?=some x,fun i H x H'=>H'=H∧∀ xs,SqT K H a xs→xs[i]?=some x,fun i H=>∃ xs,SqT K H a xs∧xs.length≤i⟩
def Itr (lo:Int) (n:Nat):It:=⟨fun i _=>i<n,fun i H x H'=>H'=H∧x=.int (lo+i),fun i _=>n≤i⟩
theorem turn_list {P:Program} {w:World} {K:PySem.W.Frag} {tg:Expr} (a it:Addr):Turn P w K tg (Itl K a) [it] it (fun i h=>h.IsListIter it a i) where
 mem:=by simp
 obj:=fun i h st b hb=>by
  have e:b=it:=by simpa using hb
  subst e
  obtain ⟨o,e,c,d⟩:=st
  exact ⟨o,e,fun v z=>by rw [d] at z;cases z⟩
 keep:=fun i h h' st k=>st.at fun o e=>k it (by simp) o e
 item:=by
  intro X hP hw hK hc i pins s σ H E I hf st hg
  subst hP hw hK
  obtain ⟨xs,x,hq,hx⟩:=hg
  obtain ⟨its,rv,p,hz⟩:=I.list hq
  obtain ⟨u,hu,ru⟩:=rv.get hx
  obtain ⟨f0,f1,f2,f3,f4,f5⟩:=hf it (by simp)
  refine wpAny_pyNext_list_item st p.isList (x:=u) (by simpa using hu) fun h' st' sb=>?_
  have I1:Inv X pins σ H { s with heap:=h' }:=I.turned (t':=s.toks) (fun b o hb e=>(sb.2 b hb).trans e) f0 f1 f3 f4 f5
  obtain ⟨o,e,c,d⟩:=id st'
  exact ⟨u,rfl,go_of (s:={ s with heap:=h' }) e c d (by decide) ⟨x,H,I1,ru,⟨rfl,fun ys hy=>by rw [I.list_inj hy hq];exact hx⟩,st',fun b hb=>(hf b hb).1⟩⟩
 done:=by
  intro X hP hw hK hc i pins s σ H E I hf st hg
  subst hP hw hK
  obtain ⟨xs,hq,hx⟩:=hg
  obtain ⟨its,rv,p,hz⟩:=I.list hq
  obtain ⟨f0,f1,f2,f3,f4,f5⟩:=hf it (by simp)
  have hl:=rv.length
  exact wpAny_pyNext_list_end (I.ok.hd hc) st p.isList (by simp;omega) fun h' eb=>⟨rfl,I.turned (t':=s.toks) (fun b o hb e=>eb b o hb e) f0 f1 f3 f4 f5⟩
 self:=fun _ _ _ _ _ st h=>wpAny_pyIter_listiter st h
theorem turn_tuple {P:Program} {w:World} {K:PySem.W.Frag} {tg:Expr} (a it:Addr):Turn P w K tg (Itt K a) [it] it (fun i h=>h.IsTupleIter it a i) where
 mem:=by simp
 obj:=fun i h st b hb=>by
  have e:b=it:=by simpa using hb
  subst e
  obtain ⟨o,e,c,d⟩:=st
  exact ⟨o,e,fun v z=>by rw [d] at z;cases z⟩
 keep:=fun i h h' st k=>st.at fun o e=>k it (by simp) o e
 item:=by
  intro X hP hw hK hc i pins s σ H E I hf st hg
  subst hP hw hK
  obtain ⟨xs,x,hq,hx⟩:=hg
  obtain ⟨its,rv,p,hz⟩:=I.tuple hq
  obtain ⟨u,hu,ru⟩:=rv.get hx
  obtain ⟨f0,f1,f2,f3,f4,f5⟩:=hf it (by simp)
  refine wpAny_pyNext_tuple_item st (show s.heap.IsTuple a its.toArray from p) (x:=u) (by simpa using hu) fun h' st' sb=>?_
  have I1:Inv X pins σ H { s with heap:=h' }:=I.turned (t':=s.toks) (fun b o hb e=>(sb.2 b hb).trans e) f0 f1 f3 f4 f5
  obtain ⟨o,e,c,d⟩:=id st'
  exact ⟨u,rfl,go_of (s:={ s with heap:=h' }) e c d (by decide) ⟨x,H,I1,ru,⟨rfl,fun ys hy=>by rw [I.tuple_inj hy hq];exact hx⟩,st',fun b hb=>(hf b hb).1⟩⟩
 done:=by
  intro X hP hw hK hc i pins s σ H E I hf st hg
  subst hP hw hK
  obtain ⟨xs,hq,hx⟩:=hg
  obtain ⟨its,rv,p,hz⟩:=I.tuple hq
  obtain ⟨f0,f1,f2,f3,f4,f5⟩:=hf it (by simp)
  have hl:=rv.length
  exact wpAny_pyNext_tuple_end (I.ok.hd hc) st (show s.heap.IsTuple a its.toArray from p) (by simp;omega) fun h' eb=>⟨rfl,I.turned (t':=s.toks) (fun b o hb e=>eb b o hb e) f0 f1 f3 f4 f5⟩
 self:=fun _ _ _ _ _ st h=>wpAny_pyIter_tupleiter st h
theorem turn_range {P:Program} {w:World} {K:PySem.W.Frag} {tg:Expr} (it:Addr) (lo:Int) (n:Nat):Turn P w K tg (Itr lo n) [it] it (fun i h=>IsRangeIter h it (lo+(i:Nat)*1) ((n:Int)-(i:Nat)) 1) where
 mem:=by simp
 obj:=fun i h st b hb=>by
  have e:b=it:=by simpa using hb
  subst e
  exact ⟨_,st,fun v z=>by
   have z':Data.fields _=Data.cell v:=z
   cases z'⟩
 keep:=fun i h h' st k=>k it (by simp) _ st
 item:=by
  intro X hP hw hK hc i pins s σ H E I hf st hg
  subst hP hw hK
  obtain ⟨f0,f1,f2,f3,f4,f5⟩:=hf it (by simp)
  have W:=Walks.range (prog:=X.prog) (w:=X.w) (I.ok.hd hc) it lo 1 n
  refine W.item i s _ _ hg st fun v h' tk hv st' kk=>?_
  obtain ⟨t,rfl⟩:=hv
  have I1:Inv X pins σ H { s with heap:=h',toks:=tk }:=I.turned (fun b o hb e=>kk b o (by simpa using hb) e) f0 f1 f3 f4 f5
  refine ⟨_,rfl,go_of (s:={ s with heap:=h',toks:=tk }) (n:="range_iterator") st' rfl rfl (by decide) ⟨.int (lo+i),H,I1,⟨t,?_⟩,⟨rfl,rfl⟩,st',fun b hb=>(hf b hb).1⟩⟩
  rw [Int.mul_one]
 done:=by
  intro X hP hw hK hc i pins s σ H E I hf st hg
  subst hP hw hK
  obtain ⟨f0,f1,f2,f3,f4,f5⟩:=hf it (by simp)
  exact wpAny_pyNext_range_end (I.ok.hd hc) st (by have:n≤i:=hg;omega) fun h' eb=>⟨rfl,I.turned (t':=s.toks) (fun b o hb e=>eb b o hb e) f0 f1 f3 f4 f5⟩
 self:=fun _ _ _ _ _ st h=>wpAny_pyIter_rangeiter st h
end L2
namespace L2
open PySem PySem.Spec PyProof.Rows
section
variable {X:Cx} {tg:Expr}
theorem range_it {pins:List (Addr × Obj)} {σ:St} {H:Hp} {s:Shared} {R:It→Hp→Prop} {E:Value→Shared→Prop} {lo hi:Int} {t u v:Tok} {tk:Nat} (I:Inv X pins σ H s) (h1 : -(2 ^ 62)≤lo) (h2:lo<2 ^ 62) (h3 : -(2 ^ 62)≤hi) (h4:hi<2 ^ 62)
  (q:R (Itr lo (hi-lo).toNat) H):wpAny (model X.prog X.w) X.A (pyIter (.ref s.heap.objs.size)) (PIE X pins σ tg R) E { s with heap:=s.heap.push { cls:=.type "range",data:=.fields #[.int lo t,.int hi u,.int 1 v] },toks:=tk }:=by
 refine wpAny_pyIter_range (IsRange.new ..) (small_one h1 h2 h3 h4) ?_
 have I1:Inv X pins σ H { s with heap:=s.heap.push { cls:=.type "range",data:=.fields #[.int lo t,.int hi u,.int 1 v] },toks:=tk }:=I.kept fun b o e=>Heap.get?_push_of_some _ e
 refine ⟨(s.heap.push { cls:=.type "range",data:=.fields #[.int lo t,.int hi u,.int 1 v] }).objs.size,[(s.heap.push { cls:=.type "range",data:=.fields #[.int lo t,.int hi u,.int 1 v] }).objs.size],_,_,H,rfl,
  I1.kept (t':=tk) fun b o e=>Heap.get?_push_of_some _ e,turn_range _ lo (hi-lo).toNat,?_,fun b hb=>?_,q⟩
 ·have e1:lo+((0:Nat):Int)*1=lo:=by simp
  have e2:(((hi-lo).toNat:Nat):Int)-((0:Nat):Int)=Builtin.Range.rangeSize lo hi 1:=by rw [rangeSize_one];split<;>omega
  show IsRangeIter _ _ (lo+((0:Nat):Int)*1) ((((hi-lo).toNat:Nat):Int)-((0:Nat):Int)) 1
  rw [e1,e2]
  exact Heap.get?_push_size _ rfl
 ·have e:b=(s.heap.push { cls:=.type "range",data:=.fields #[.int lo t,.int hi u,.int 1 v] }).objs.size:=by simpa using hb
  subst e
  exact I1.fpOk (Nat.le_refl _) (I1.hok.fresh (Nat.le_refl _))
def iRng1 (ta:TA):TI:=fun σ H R=>ta σ H fun vs H1=>∃ j:Int,vs=[.int j] ∧ -(2 ^ 62)≤j∧j<2 ^ 62∧R (Itr 0 j.toNat) H1
theorem pi_range1 {a:Expr} {ta:TA} {p pos:Pos} (hg:Gl X "range") (hm:X.mg "range"=none) (ha:PA X [a] ta) (hs:starEach [a] X.env=[(false,eval a X.env)]:=by rfl):PI X tg (.Call (.Name "range" p) [a] [] pos) (iRng1 ta):=by
 intro pins s σ H R I h
 refine Call_ (ld_blt I hg hm boot_range (PyProof.Rows.callWith_type1 (thn (ha pos pins s σ H _ I h) fun us s1 ⟨vs,H1,I1,r1,q1⟩=>?_) hs rfl))
 obtain ⟨j,e,q1,q2,q⟩:=q1
 subst e
 cases r1 with
 | cons r rr =>
  cases rr
  obtain ⟨t,rfl⟩:=r
  exact call_range_1 (range_it I1 (by omega) (by omega) q1 q2 (by simpa using q))
def tFor (wi:TI) (g:TG) (tb:TS):TS:=fun D σ H=>wi σ H fun J H1=>∃ W:Nat→Nat→St→Hp→Prop,(∃ m,W 0 m σ H1)∧∀ i m σ H,W i m σ H →
 (J.stop i H∧D.nx σ H)∨(J.go i H∧∃ N:St→Hp→Prop,(∀ σ' H',N σ' H'→∃ m',m'<m∧W (i+1) m' σ' H')∧∀ x H',J.yld i H x H'→g x σ H' fun σ2 H2=>tb { D with nx:=N,ct:=N,bk:=D.nx } σ2 H2)
def pinsAt (fp:List Addr) (h:Heap):List (Addr × Obj):=fp.filterMap fun b=>(h.get? b).map fun o=>(b,o)
theorem mem_pinsAt {fp:List Addr} {h:Heap} {b:Addr} {o:Obj} (hb:b∈fp) (e:h.get? b=some o):(b,o)∈pinsAt fp h:=List.mem_filterMap.mpr ⟨b,hb,by rw [e];rfl⟩
theorem of_pinsAt {fp:List Addr} {h:Heap} {p:Addr × Obj} (hp:p∈pinsAt fp h):p.1∈fp∧h.get? p.1=some p.2:=by
 obtain ⟨b,hb,e⟩:=List.mem_filterMap.mp hp
 cases q:h.get? b with
 | none=>rw [q] at e;cases e
 | some o =>
  rw [q] at e
  have e':(b,o)=p:=Option.some.inj e
  subst e'
  exact ⟨hb,q⟩
theorem Inv.pinned {pins:List (Addr × Obj)} {σ:St} {H:Hp} {s:Shared} {fp:List Addr} (I:Inv X pins σ H s) (hf:∀ b∈fp,FpOk X pins H b) (ho:∀ b∈fp,∃ o,s.heap.get? b=some o∧∀ v,o.data≠.cell v):Inv X (pins++pinsAt fp s.heap) σ H s :=
 I.pins_of fun p hp=>(List.mem_append.mp hp).elim (fun z=>I.pin p (List.mem_append_right _ z)) fun z=>by
  obtain ⟨hb,e⟩:=of_pinsAt z
  obtain ⟨f0,f1,f2,_⟩:=hf p.1 hb
  obtain ⟨o,e',d⟩:=ho p.1 hb
  rw [e] at e';cases e'
  exact ⟨e,f0,f1,f2,d⟩
theorem Inv.unpinned {pins pl:List (Addr × Obj)} {σ:St} {H:Hp} {s:Shared} (I:Inv X (pins++pl) σ H s):Inv X pins σ H s:=I.pins_of fun p hp=>I.pin p (List.mem_append_right _ (List.mem_append_left _ hp))
theorem ps_for {iter:Expr} {body:List Stmt} {wi:TI} {g:TG} {tb:TS} {pos:Pos} (hp:PassesOwn (model X.prog X.w) X.A X.env X.xe) (hc:X.calm=true) (hi:PI X tg iter wi) (hg:PG X tg g) (hb:PSs X body tb)
  (hs:∀ x,foldedSetIterable iter X.env x=pure x:=by intro _;rfl):PS X (.For tg iter body [] pos) (tFor wi g tb):=by
 intro pins s σ H D I h
 refine wpAny_For (thn (hi pins s σ H _ I h) fun v s1 h1=>thn h1 fun itv s2 h2=>?_) hs
 obtain ⟨it,fp,tn,J,H2,e,I2,T,st2,f2,W,⟨m0,w0⟩,turn⟩:=h2
 subst e
 have stat:∀ {H':Hp},(∀ b∈fp,H' b=none)→∀ b∈fp,FpOk X pins H' b:=fun hn b hb=>⟨hn b hb,(f2 b hb).2⟩
 refine codeAny_forLoop_any (fun n s'=>∃ i σ' H',Inv X pins σ' H' s'∧tn i s'.heap∧(∀ b∈fp,H' b=none)∧W i n σ' H') ?_ m0 ⟨0,σ,H2,I2,st2,fun b hb=>(f2 b hb).1,w0⟩
 rintro n s3 ⟨i,σ3,H3,I3,st3,fr3,w3⟩
 rcases turn i n σ3 H3 w3 with ⟨stop,qn⟩ | ⟨go,N,hN,step⟩
 ·refine wpAny_passesOwn hp (thn (T.done X rfl rfl rfl hc i pins s3 σ3 H3 X.xe I3 (stat fr3) st3 stop) fun r s4 ⟨hr,I4⟩=>?_)
  subst hr
  exact wpAny_execs_nil ⟨σ3,H3,I4,qn⟩
 ·refine wpAny_passesOwn hp (thn (T.item X rfl rfl rfl hc i pins s3 σ3 H3 X.xe I3 (stat fr3) st3 go) fun r s4 ⟨u,hr,h4⟩=>?_)
  subst hr
  refine wpAny_passesOwn hp (thn h4 fun _ s5 ⟨x,H5,I5,r5,y5,st5,fr5⟩=>?_)
  have I5':=I5.pinned (stat fr5) (T.obj _ _ st5)
  refine wpAny_passesOwn hp (thn (hg _ s5 σ3 H5 x u _ I5' r5 (step x H5 y5)) fun _ s6 ⟨σ6,H6,I6,q6⟩=>?_)
  refine wpAny_passesOwn hp (thn (hb _ s6 σ6 H6 _ I6 q6) fun f s7 q7=>?_)
  have again:∀ {σ7:St} {H7:Hp},Inv X (pins++pinsAt fp s5.heap) σ7 H7 s7→N σ7 H7→∃ m,m<n∧∃ i σ' H',Inv X pins σ' H' s7∧tn i s7.heap∧(∀ b∈fp,H' b=none)∧W i m σ' H':=fun {σ7 H7} I7 n7=>by
   obtain ⟨m',hm,w7⟩:=hN σ7 H7 n7
   refine ⟨m',hm,i+1,σ7,H7,I7.unpinned,T.keep _ _ _ st5 fun b hb o e=>(I7.pin (b,o) (List.mem_append_right _ (List.mem_append_right _ (mem_pinsAt hb e)))).1,fun b hb=>?_,w7⟩
   obtain ⟨o,e,d⟩:=T.obj _ _ st5 b hb
   exact (I7.pin (b,o) (List.mem_append_right _ (List.mem_append_right _ (mem_pinsAt hb e)))).2.1
  cases f with
  | next=>obtain ⟨σ7,H7,I7,n7⟩:=q7;exact again I7 n7
  | cont=>obtain ⟨σ7,H7,I7,n7⟩:=q7;exact again I7 n7
  | brk=>obtain ⟨σ7,H7,I7,q7⟩:=q7;exact ⟨σ7,H7,I7.unpinned,q7⟩
  | ret v=>obtain ⟨x7,σ7,H7,I7,r7,q7⟩:=q7;exact ⟨x7,σ7,H7,I7.unpinned,r7,q7⟩
end
end L2
namespace L2
open PySem PySem.Spec PyProof.Rows
abbrev R2:=V→V→Hp→VK→Prop
def OpR (X:Cx) (f:Value→Value→Sem Value) (r:R2):Prop :=
 ∀ (pins:List (Addr × Obj)) (s:Shared) (σ:St) (H:Hp) (x y:V) (v u:Value) (Q:VK),Inv X pins σ H s→RelV x v→RelV y u→r x y H Q →
  wpAny (model X.prog X.w) X.A (f v u) (EP X pins σ Q) X.xe s
def UnR (X:Cx) (f:Value→Sem Value) (r:V→Hp→VK→Prop):Prop :=
 ∀ (pins:List (Addr × Obj)) (s:Shared) (σ:St) (H:Hp) (x:V) (v:Value) (Q:VK),Inv X pins σ H s→RelV x v→r x H Q →
  wpAny (model X.prog X.w) X.A (f v) (EP X pins σ Q) X.xe s
def CallR (X:Cx) (f:Value) (r:List V→Hp→VK→Prop):Prop :=
 ∀ (pins:List (Addr × Obj)) (s:Shared) (σ:St) (H:Hp) (xs:List V) (us:List Value) (Q:VK),Inv X pins σ H s→Vals xs us→r xs H Q →
  wpAny (model X.prog X.w) X.A (call f us) (EP X pins σ Q) X.xe s
def TruR (X:Cx) (r:V→Hp→(Bool→Hp→Prop)→Prop):Prop :=
 ∀ (pins:List (Addr × Obj)) (s:Shared) (σ:St) (H:Hp) (x:V) (v:Value) (Q:Bool→Hp→Prop),Inv X pins σ H s→RelV x v→r x H Q →
  wpAny (model X.prog X.w) X.A (truthy v) (TP X pins σ Q) X.xe s
def tOp (r:R2) (ta tb:TE):TE:=fun σ H Q=>ta σ H fun x H1=>tb σ H1 fun y H2=>r x y H2 Q
def tUn (r:V→Hp→VK→Prop) (ta:TE):TE:=fun σ H Q=>ta σ H fun x H1=>r x H1 Q
def rI (C:Int→Int→Prop) (g:Int→Int→V):R2:=fun x y H Q=>∃ i j,x=.int i∧y=.int j∧C i j∧Q (g i j) H
def rI0 (g:Int→Int→V):R2:=fun x y H Q=>∃ i j,x=.int i∧y=.int j∧Q (g i j) H
def rU (g:Int→V):V→Hp→VK→Prop:=fun x H Q=>∃ i,x=.int i∧Q (g i) H
section
variable {X:Cx} {a b c:Expr} {ta tb tc:TE} {pos:Pos}
theorem binT (ha:PE X a ta) (hb:PE X b tb) {pins:List (Addr × Obj)} {s:Shared} {σ:St} {H:Hp} {R:V→V→Hp→Prop} (I:Inv X pins σ H s)
  (h:ta σ H fun x H1=>tb σ H1 fun y H2=>R x y H2) {Q:Value→Shared→Prop} {f:Value→Value→Sem Value}
  (hf:∀ v u s2 x y H2,Inv X pins σ H2 s2→RelV x v→RelV y u→R x y H2→wpAny (model X.prog X.w) X.A (f v u) Q X.xe s2) :
  wpAny (model X.prog X.w) X.A (eval a X.env) (fun v s₁=>wpAny (model X.prog X.w) X.A (eval b X.env) (fun u s₂=>wpAny (model X.prog X.w) X.A (f v u) Q X.xe s₂) X.xe s₁) X.xe s:=by
 refine thn (ha pins s σ H _ I h) fun v s1 ⟨x,H1,I1,r1,q1⟩=>?_
 refine thn (hb pins s1 σ H1 _ I1 q1) fun u s2 ⟨y,H2,I2,r2,q2⟩=>?_
 exact hf v u s2 x y H2 I2 r1 r2 q2
theorem pe_op {op:Operator} {r:R2} (ho:OpR X (binaryOp op) r) (ha:PE X a ta) (hb:PE X b tb):PE X (.BinOp a op b pos) (tOp r ta tb):=by
 intro pins s σ H Q I h
 exact wpAny_BinOp (binT ha hb I h fun v u s2 x y H2 I2 rx ry q=>ho pins s2 σ H2 x y v u Q I2 rx ry q)
theorem pe_un {op:UnaryOp} {r:V→Hp→VK→Prop} (ho:UnR X (unaryOp op) r) (ha:PE X a ta):PE X (.UnaryOp op a pos) (tUn r ta):=by
 intro pins s σ H Q I h
 exact UnaryOp_ (thn (ha pins s σ H _ I h) fun v s1 ⟨x,H1,I1,r1,q1⟩=>ho pins s1 σ H1 x v Q I1 r1 q1)
theorem opI {f:Value→Value→Sem Value} {C:Int→Int→Prop} {g:Int→Int→Int}
  (rule:∀ (i j:Int) (t u:Tok) (s:Shared) (Q:Value→Shared→Prop) (E:Value→Shared→Prop),C i j→Q (.int (g i j) s.toks) { s with toks:=s.toks+1 }→wpAny (model X.prog X.w) X.A (f (.int i t) (.int j u)) Q E s) :
  OpR X f (rI C fun i j=>.int (g i j)):=by
 intro pins s σ H x y v u Q I rx ry h
 obtain ⟨i,j,rfl,rfl,hc,q⟩:=h
 obtain ⟨t,rfl⟩:=rx
 obtain ⟨t',rfl⟩:=ry
 exact rule i j t t' s _ _ hc ⟨.int (g i j),H,I.tok _,⟨_,rfl⟩,q⟩
theorem opI0 {f:Value→Value→Sem Value} {g:Int→Int→Int}
  (rule:∀ (i j:Int) (t u:Tok) (s:Shared) (Q:Value→Shared→Prop) (E:Value→Shared→Prop),Q (.int (g i j) s.toks) { s with toks:=s.toks+1 }→wpAny (model X.prog X.w) X.A (f (.int i t) (.int j u)) Q E s) :
  OpR X f (rI0 fun i j=>.int (g i j)):=by
 intro pins s σ H x y v u Q I rx ry h
 obtain ⟨i,j,rfl,rfl,q⟩:=h
 obtain ⟨t,rfl⟩:=rx
 obtain ⟨t',rfl⟩:=ry
 exact rule i j t t' s _ _ ⟨.int (g i j),H,I.tok _,⟨_,rfl⟩,q⟩
theorem opB0 {f:Value→Value→Sem Value} {g:Int→Int→Bool}
  (rule:∀ (i j:Int) (t u:Tok) (s:Shared) (Q:Value→Shared→Prop) (E:Value→Shared→Prop),Q (.bool (g i j)) s→wpAny (model X.prog X.w) X.A (f (.int i t) (.int j u)) Q E s) :
  OpR X f (rI0 fun i j=>.bl (g i j)):=by
 intro pins s σ H x y v u Q I rx ry h
 obtain ⟨i,j,rfl,rfl,q⟩:=h
 obtain ⟨t,rfl⟩:=rx
 obtain ⟨t',rfl⟩:=ry
 exact rule i j t t' s _ _ ⟨.bl (g i j),H,I,rfl,q⟩
def CDiv (i j:Int):Prop:=0<j∧j<1073741824
def CMul (i j:Int):Prop:=(-(2 ^ 64)<i∧i<2 ^ 64)∨(-(2 ^ 64)<j∧j<2 ^ 64)
theorem CMul.ok {i j:Int} (h:CMul i j):IntMulOk i j:=by
 rcases h with ⟨h1,h2⟩ | ⟨h1,h2⟩
 ·exact .of_left (intBits_le_64 h1 h2)
 ·exact .of_right (intBits_le_64 h1 h2)
theorem op_add:OpR X (binaryOp .Add) (rI0 fun i j=>.int (i+j)):=opI0 fun _ _ _ _ _ _ _ q=>add_int q
theorem op_sub:OpR X (binaryOp .Sub) (rI0 fun i j=>.int (i-j)):=opI0 fun _ _ _ _ _ _ _ q=>sub_int q
theorem op_mul:OpR X (binaryOp .Mult) (rI CMul fun i j=>.int (i*j)):=opI fun _ _ _ _ _ _ _ hc q=>mul_int q hc.ok
theorem op_fdiv:OpR X (binaryOp .FloorDiv) (rI CDiv fun i j=>.int (i/j)):=opI fun i j _ _ _ _ _ hc q=>by
 have h1:(0:Int)<j:=hc.1
 have h2:j<1073741824:=hc.2
 exact floordiv_int (by omega) (by rw [Int.fdiv_eq_ediv_of_nonneg i (by omega)];exact q) (.inl (PyProof.noPylong_small (by omega)))
theorem op_mod:OpR X (binaryOp .Mod) (rI (fun _ j=>0<j) fun i j=>.int (i%j)):=opI fun i j _ _ _ _ _ hc q=>by
 have h1:(0:Int)<j:=hc
 exact mod_int' (by omega) (by rw [Int.fmod_eq_emod_of_nonneg i (by omega)];exact q)
theorem unI {f:Value→Sem Value} {g:Int→Int}
  (rule:∀ (i:Int) (t:Tok) (s:Shared) (Q:Value→Shared→Prop) (E:Value→Shared→Prop),Q (.int (g i) s.toks) { s with toks:=s.toks+1 }→wpAny (model X.prog X.w) X.A (f (.int i t)) Q E s) :
  UnR X f (rU fun i=>.int (g i)):=by
 intro pins s σ H x v Q I rx h
 obtain ⟨i,rfl,q⟩:=h
 obtain ⟨t,rfl⟩:=rx
 exact rule i t s _ _ ⟨.int (g i),H,I.tok _,⟨_,rfl⟩,q⟩
theorem un_neg:UnR X (unaryOp .USub) (rU fun i=>.int (-i)):=unI fun _ _ _ _ _ q=>neg_int q
end
section
variable {X:Cx} {a b c:Expr} {ta tb tc:TE} {pos:Pos}
theorem fin_bl {pins:List (Addr × Obj)} {σ:St} {H:Hp} {s:Shared} {Q:VK} {k k':Bool} (I:Inv X pins σ H s) (q:Q (.bl k) H) (e:k=k'):EP X pins σ Q (.bool k') s:=by
 subst e
 exact ⟨.bl k,H,I,rfl,q⟩
theorem op_lt:OpR X (compareOp .Lt) (rI0 fun i j=>.bl (decide (i<j))):=opB0 fun _ _ _ _ _ _ _ q=>lt_int q
theorem op_le:OpR X (compareOp .LtE) (rI0 fun i j=>.bl (decide (i≤j))):=opB0 fun _ _ _ _ _ _ _ q=>le_int q
theorem op_gt:OpR X (compareOp .Gt) (rI0 fun i j=>.bl (decide (j<i))):=opB0 fun _ _ _ _ _ _ _ q=>gt_int q
theorem op_ge:OpR X (compareOp .GtE) (rI0 fun i j=>.bl (decide (j≤i))):=opB0 fun _ _ _ _ _ _ _ q=>ge_int q
theorem op_lt_str:OpR X (compareOp .Lt) (fun x y H Q=>∃ i j,x=.str i∧y=.str j∧Q (.bl (decide (i.cps.toList<j.cps.toList))) H):=by
 intro pins s σ H x y v u Q I rx ry h
 obtain ⟨i,j,rfl,rfl,q⟩:=h
 obtain ⟨t,rfl⟩:=rx
 obtain ⟨t',rfl⟩:=ry
 exact lt_str (fin_bl I q rfl)
theorem op_in_str:OpR X (compareOp .In) (fun x y H Q=>∃ i j,x=.str i∧y=.str j∧Q (.bl (!(Builtin.Str.occurrences j i 0 j.length 1).isEmpty)) H):=by
 intro pins s σ H x y v u Q I rx ry h
 obtain ⟨i,j,rfl,rfl,q⟩:=h
 obtain ⟨t,rfl⟩:=rx
 obtain ⟨t',rfl⟩:=ry
 exact in_str (fin_bl I q rfl)
theorem op_isN:OpR X (compareOp .Is) (fun x y H Q=>y=.non∧Q (.bl (decide (x=.non))) H):=by
 intro pins s σ H x y v u Q I rx ry h
 obtain ⟨rfl,q⟩:=h
 cases ry
 refine is_none_gen (fin_bl I q ?_)
 cases x<;>first
  | (cases rx;rfl)
  | (obtain ⟨t,rfl⟩:=rx;rfl)
theorem op_notN:OpR X (compareOp .IsNot) (fun x y H Q=>y=.non∧Q (.bl (!decide (x=.non))) H):=by
 intro pins s σ H x y v u Q I rx ry h
 obtain ⟨rfl,q⟩:=h
 cases ry
 refine isnot_none_gen (fin_bl I q ?_)
 cases x<;>first
  | (cases rx;rfl)
  | (obtain ⟨t,rfl⟩:=rx;rfl)
theorem op_notin_str:OpR X (compareOp .NotIn) (fun x y H Q=>∃ i j,x=.str i∧y=.str j∧Q (.bl (!(!(Builtin.Str.occurrences j i 0 j.length 1).isEmpty))) H):=by
 intro pins s σ H x y v u Q I rx ry h
 obtain ⟨i,j,rfl,rfl,q⟩:=h
 obtain ⟨t,rfl⟩:=rx
 obtain ⟨t',rfl⟩:=ry
 exact notIn_str (fin_bl I q rfl)
theorem nomark (b:Expr) {op:CmpOp} (h:op≠.In:=by decide) (h2:op≠.NotIn:=by decide):behindInMarks op b=false:=by
 have e1:(op==CmpOp.In)=false:=by cases op<;>first | rfl | exact absurd rfl h
 have e2:(op==CmpOp.NotIn)=false:=by cases op<;>first | rfl | exact absurd rfl h2
 cases b<;>simp [behindInMarks,e1,e2]
theorem pe_cmpR {op:CmpOp} {r:R2} (ho:OpR X (compareOp op) r) (ha:PE X a ta) (hb:PE X b tb) (hm:behindInMarks op b=false):PE X (.Compare a [op] [b] pos) (tOp r ta tb):=by
 intro pins s σ H Q I h
 exact wpAny_Compare1 (binT ha hb I h fun v u s2 x y H2 I2 rx ry q=>ho pins s2 σ H2 x y v u Q I2 rx ry q) hm
def tTest (t:TE):TT:=fun σ H Q=>t σ H fun x H'=>∃ k,x=.bl k∧Q k H'
theorem pt_cmpR {op:CmpOp} {r:R2} (ho:OpR X (compareOp op) r) (ha:PE X a ta) (hb:PE X b tb) (hm:behindInMarks op b=false):PT X (.Compare a [op] [b] pos) (tTest (tOp r ta tb)):=by
 intro pins s σ H Q I h
 refine wpAny_isTrue_Compare1 (thn (ha pins s σ H _ I h) fun v s1 ⟨x,H1,I1,r1,q1⟩=>thn (hb pins s1 σ H1 _ I1 q1) fun u s2 ⟨y,H2,I2,r2,q2⟩ =>
  thn (ho pins s2 σ H2 x y v u _ I2 r1 r2 q2) fun c s3 ⟨z,H3,I3,r3,k,e,q3⟩=>?_) hm
 subst e
 cases r3
 exact wpAny_truthy_bool ⟨H3,I3,q3⟩
def tChain (r r':R2) (ta tb tc:TE):TE:=fun σ H Q=>ta σ H fun x H1=>tb σ H1 fun y H2=>r x y H2 fun z H3=>∃ k,z=.bl k ∧
 (if k=true then tc σ H3 fun w' H4=>r' y w' H4 Q else Q (.bl false) H3)
theorem pe_chain {op op':CmpOp} {r r':R2} (ho:OpR X (compareOp op) r) (ho':OpR X (compareOp op') r') (ha:PE X a ta) (hb:PE X b tb) (hc:PE X c tc)
  (hm:lastMarks [op,op'] [b,c]=false:=by with_unfolding_all rfl):PE X (.Compare a [op,op'] [b,c] pos) (tChain r r' ta tb tc):=by
 intro pins s σ H Q I h
 refine Compare_chain (thn (ha pins s σ H _ I h) fun v s1 ⟨x,H1,I1,r1,q1⟩=>chain_link (thn (hb pins s1 σ H1 _ I1 q1) fun u s2 ⟨y,H2,I2,r2,q2⟩ =>
  thn (ho pins s2 σ H2 x y v u _ I2 r1 r2 q2) fun d s3 ⟨z,H3,I3,r3,k,e,q3⟩=>?_)) hm
 subst e
 cases r3
 refine wpAny_truthy_bool ?_
 cases k with
 | false=>exact ite_ff ⟨.bl false,H3,I3,rfl,q3⟩
 | true=>exact ite_tt (chain_last (thn (hc pins s3 σ H3 _ I3 q3) fun w' s4 ⟨z',H4,I4,r4,q4⟩=>ho' pins s4 σ H4 y z' u w' Q I4 r2 r4 q4))
theorem pt_chain {op op':CmpOp} {r r':R2} (ho:OpR X (compareOp op) r) (ho':OpR X (compareOp op') r') (ha:PE X a ta) (hb:PE X b tb) (hc:PE X c tc)
  (hm:lastMarks [op,op'] [b,c]=false:=by with_unfolding_all rfl):PT X (.Compare a [op,op'] [b,c] pos) (tTest (tChain r r' ta tb tc)):=by
 intro pins s σ H Q I h
 refine isTrue_chain (thn (ha pins s σ H _ I h) fun v s1 ⟨x,H1,I1,r1,q1⟩=>test_link (thn (hb pins s1 σ H1 _ I1 q1) fun u s2 ⟨y,H2,I2,r2,q2⟩ =>
  thn (ho pins s2 σ H2 x y v u _ I2 r1 r2 q2) fun d s3 ⟨z,H3,I3,r3,k,e,q3⟩=>?_)) hm
 subst e
 cases r3
 refine wpAny_truthy_bool ?_
 cases k with
 | false =>
  obtain ⟨k',e',q'⟩:=q3
  cases e'
  exact ite_ff ⟨H3,I3,q'⟩
 | true =>
  refine ite_tt (test_last (thn (hc pins s3 σ H3 _ I3 q3) fun w' s4 ⟨z',H4,I4,r4,q4⟩=>thn (ho' pins s4 σ H4 y z' u w' _ I4 r2 r4 q4) fun d' s5 ⟨z2,H5,I5,r5,k2,e2,q5⟩=>?_))
  subst e2
  cases r5
  exact wpAny_truthy_bool ⟨H5,I5,q5⟩
def TruV (K:PySem.W.Frag) (x:V) (H:Hp) (k:Bool):Prop :=
 match x with
 | .non=>k=false
 | .bl b=>k=b
 | .int i=>k=(i != 0)
 | .str y=>y.length≤sizeLine∧k=((y.length:Int) != 0)
 | .byt y=>y.size≤sizeLine∧k=((y.size:Int) != 0)
 | .ref p=>(∃ xs,SqL K H p xs∧k=!xs.isEmpty)∨(∃ xs,SqT K H p xs∧k=!xs.isEmpty)∨∃ kvs,H p=some (.dK kvs)∧k=!kvs.isEmpty
 | _=>False
theorem isEmpty_kv {κ:Type} {kvs:List (κ × V)} {vs:List (κ × Value)} (r:KV kvs vs):(!vs.isEmpty)=!kvs.isEmpty:=by
 cases r<;>rfl
theorem isEmpty_of {xs:List V} {its:List Value} (r:Vals xs its):(!its.toArray.isEmpty)=!xs.isEmpty:=by
 cases r<;>simp
theorem line63:(sizeLine:Nat)<2 ^ 63:=by rw [sizeLine_eq];decide
theorem tru_ok:TruR X (fun x H Q=>∃ k,TruV X.K x H k∧Q k H):=by
 intro pins s σ H x v Q I rx h
 obtain ⟨k,e,q⟩:=h
 have hl:=line63
 have hs:sizeLine=16777216:=sizeLine_eq
 cases x with
 | non =>
  cases rx
  have e':k=false:=e
  subst e'
  exact truthy_none ⟨H,I,q⟩
 | bl b =>
  cases rx
  have e':k=b:=e
  subst e'
  exact wpAny_truthy_bool ⟨H,I,q⟩
 | int i =>
  obtain ⟨t,rfl⟩:=rx
  have e':k=(i != 0):=e
  subst e'
  exact PySem.P.truthy_int ⟨H,I,q⟩
 | str y =>
  obtain ⟨t,rfl⟩:=rx
  obtain ⟨hy,e'⟩:y.length≤sizeLine∧k=((y.length:Int) != 0):=e
  subst e'
  exact PySem.P.truthy_str (by omega) ⟨H,I.tok _,q⟩
 | byt y =>
  obtain ⟨t,rfl⟩:=rx
  obtain ⟨hy,e'⟩:y.size≤sizeLine∧k=((y.size:Int) != 0):=e
  subst e'
  exact PySem.W.truthy_bytes (by omega) ⟨H,I.tok _,q⟩
 | ref p =>
  cases rx
  have e':(∃ xs,SqL X.K H p xs∧k=!xs.isEmpty)∨(∃ xs,SqT X.K H p xs∧k=!xs.isEmpty)∨∃ kvs,H p=some (.dK kvs)∧k=!kvs.isEmpty:=e
  rcases e' with ⟨xs,hx,e'⟩ | ⟨xs,hx,e'⟩ | ⟨kvs,hx,e'⟩
  ·subst e'
   obtain ⟨its,r,pl,hz⟩:=I.list hx
   have hlen:=r.length
   exact wpAny_truthy_list pl.isList (by simp only [List.size_toArray];omega) ⟨H,I.tok _,by rw [isEmpty_of r];exact q⟩
  ·subst e'
   obtain ⟨its,r,pl,hz⟩:=I.tuple hx
   have hlen:=r.length
   exact truthy_tuple pl (by simp only [List.size_toArray];omega) ⟨H,I.tok _,by rw [isEmpty_of r];exact q⟩
  ·subst e'
   obtain ⟨hz,hS,vs,r,m⟩:kvs.length≤sizeLine∧(p==sysModules)=false∧∃ vs,KV kvs vs∧s.heap.DictOf (mixKind X.prog X.w) p vs:=I.hok p _ hx
   have hlen:kvs.length=vs.length:=Paired.length r
   exact wpAny_truthy_dict hS m (by omega) ⟨H,I.tok _,by rw [isEmpty_kv r];exact q⟩
 | _=>exact (show False from e).elim
theorem pt_truth (ha:PE X a ta) (he:∀ whole,isTrue a X.env whole=(do let v ← whole;standAt a.pos;holding [v] (truthy v))) :
  PT X a (fun σ H Q=>ta σ H fun x H'=>∃ k,TruV X.K x H' k∧Q k H'):=by
 intro pins s σ H Q I h
 exact isTrue_plain (thn (ha pins s σ H _ I h) fun v s1 ⟨x,H1,I1,r1,q1⟩=>tru_ok pins s1 σ H1 x v Q I1 r1 q1) (he _)
theorem op_add_str:OpR X (binaryOp .Add) (fun x y H Q=>∃ i j,x=.str i∧y=.str j∧i.length+j.length≤sizeLine∧Q (.str (i++j)) H):=by
 intro pins s σ H x y v u Q I rx ry h
 obtain ⟨i,j,rfl,rfl,hz,q⟩:=h
 obtain ⟨t,rfl⟩:=rx
 obtain ⟨t',rfl⟩:=ry
 exact add_str (fun t' tk=>⟨.str (i++j),H,I.tok _,⟨_,rfl⟩,q⟩) hz
theorem vals1 {x:V} {us:List Value} (r:Vals [x] us):∃ u,us=[u]∧RelV x u:=by
 cases r with
 | cons r1 r2=>cases r2;exact ⟨_,rfl,r1⟩
theorem vals2 {x y:V} {us:List Value} (r:Vals [x,y] us):∃ u w',us=[u,w']∧RelV x u∧RelV y w':=by
 cases r with
 | cons r1 r2 =>
  cases r2 with
  | cons r3 r4=>cases r4;exact ⟨_,_,rfl,r1,r3⟩
theorem call_int1:CallR X (.type "int") (fun xs H Q=>(∃ i,xs=[.int i]∧Q (.int i) H)∨∃ k,xs=[.bl k]∧Q (.int (if k then 1 else 0)) H):=by
 intro pins s σ H xs us Q I r h
 rcases h with ⟨i,rfl,q⟩ | ⟨k,rfl,q⟩
 ·obtain ⟨u,rfl,t,rfl⟩:=vals1 r
  exact call_int_int ⟨.int i,H,I,⟨_,rfl⟩,q⟩
 ·obtain ⟨u,rfl,r1⟩:=vals1 r
  cases r1
  exact call_int_bool ⟨.int (if k then 1 else 0),H,I.tok _,⟨_,rfl⟩,q⟩
theorem call_str_int:CallR X (.type "str") (fun xs H Q=>∃ i,xs=[.int i]∧i.natAbs.log2<1920∧Q (.str (toString i)) H):=by
 intro pins s σ H xs us Q I r h
 obtain ⟨i,rfl,hz,q⟩:=h
 obtain ⟨u,rfl,t,rfl⟩:=vals1 r
 exact PySem.P.str_of_int hz ⟨.str _,H,I.tok _,⟨_,rfl⟩,q⟩
end
end L2
namespace L2
open PySem PySem.Spec PyProof.Rows
structure ObjM (h:Heap) (x dx C:Addr) (mA:Str→Option Value):Prop where
 obj:h.get? x=some (PySem.W.instObj C dx)
 ns:h.Ns1 dx mA
 ne:dx≠x
section
variable {prog:Program} {w:World} {A:Around} {E:Value→Shared→Prop} {s:Shared} {K:PySem.W.Frag} {x dx C f:Addr} {mA:Str→Option Value} {name:Str} {v:Value}
end
def putF (f:Str) (v:V):List (Str × V)→List (Str × V)
 | []=>[(f,v)]
 | (g,x)::r=>if g=f then (g,v)::r else (g,x)::putF f v r
section
variable {P:Program} {w:World} {H H':Hp} {h h':Heap} {a C dx:Addr} {fs fs':List (Str × V)}
end
structure Cls (K:PySem.W.Frag) (C:Addr):Prop where
 pg:PySem.W.plainGet K C Str.empty=true
 hd:PySem.W.hasDictIn K C=true
 po:PySem.W.plainOver K C=true
 sa:PySem.W.findIn K (.ref C) "__setattr__"=some (some (.builtin "object.__setattr__"))
structure Con (K:PySem.W.Frag) (C:Addr) (f:Str) (v:V) (u:Value):Prop where
 at_:PySem.W.findIn K (.ref C) f=some (some u)
 rel:RelV v u
 get:PySem.W.specialIn K u "__get__"=some none
 cp:PySem.W.copiedNames.contains f=false
structure Meth (K:PySem.W.Frag) (C:Addr) (m:Str) (f:Addr):Prop where
 at_:PySem.W.findIn K (.ref C) m=some (some (.ref f))
 fn:PySem.W.isFn K (.ref f)=true
 kp:PySem.W.keepIn K (.ref f)=true
section
variable {X:Cx} {pins:List (Addr × Obj)} {σ:St} {H:Hp} {s:Shared} {a C dx:Addr} {fs:List (Str × V)} {f:Str} {v:V} {A:Around} {E:Value→Shared→Prop}
end
section
variable {X:Cx} {o e value:Expr} {f:Str} {pos pos' tpos:Pos} {ta tv:TE}
end
section
variable {X:Cx} {pins:List (Addr × Obj)} {σ:St} {H:Hp} {s:Shared} {A:Around} {E:Value→Shared→Prop} {Q:Value→Shared→Prop} {c:Value} {b:Bool}
end
end L2
namespace L2
open PySem PySem.Spec PyProof.Rows
structure Room (k:Nat) (A:Around):Prop where
 hd:A.handled=none
 dp:A.depth+3*k+5<recursionLimit
 un:A.units+16*k+200<cLine
theorem Room.deeper {k:Nat} {A:Around} (r:Room (k+1) A) (env:Env):Room k (A.deeper env) :=
 ⟨r.hd,by have:=r.dp;show A.depth+1+3*k+5<_;omega,by have:=r.un;show A.units+3+16*k+200<_;omega⟩
theorem Room.depth {k:Nat} {A:Around} (r:Room k A):A.depth<recursionLimit:=by have:=r.dp;omega
def tNil:TA:=fun _ H Q=>Q [] H
def tCons (ta:TE) (tr:TA):TA:=fun σ H Q=>ta σ H fun x H1=>tr σ H1 fun xs H2=>Q (x::xs) H2
section
variable {X:Cx} {e:Expr} {es:List Expr} {te:TE} {t:TA} {pos:Pos}
theorem pa_nil:PA X [] tNil:=fun _ _ _ _ H Q I h=>Calls.spliced_nil ⟨[],H,I,.nil,h⟩
theorem pa_cons (ha:PE X e te) (hr:PA X es t) (hs:starEach (e::es) X.env=(false,eval e X.env)::starEach es X.env:=by rfl):PA X (e::es) (tCons te t):=by
 intro pos pins s σ H Q I h
 rw [hs]
 show wpAny _ _ (spliced ((false,eval e X.env)::backTo pos (starEach es X.env))) _ _ s
 refine Calls.spliced_cons (thn (ha pins s σ H _ I h) fun u s1 ⟨x,H1,I1,r1,q1⟩=>?_)
 exact thn (hr pos pins s1 σ H1 _ I1 q1) fun us s2 ⟨xs,H2,I2,r2,q2⟩=>⟨x::xs,H2,I2,.cons r1 r2,q2⟩
def tTup (t:TA):TE:=fun σ H Q=>t σ H fun xs H1=>xs.length≤sizeLine∧∀ p,H1 p=none→Q (.ref p) (upd H1 p (.tup xs))
def tLst (t:TA):TE:=fun σ H Q=>t σ H fun xs H1=>xs.length≤sizeLine∧∀ p,H1 p=none→Q (.ref p) (upd H1 p (.lst xs))
theorem pe_tup {x1} (h:PA X es t):PE X (.Tuple es x1 pos) (tTup t):=by
 intro pins s σ H Q I hq
 refine wpAny_Tuple_spliced (thn (h pos pins s σ H _ I hq) fun us s1 ⟨xs,H1,I1,r,z,q⟩=>⟨by rw [← r.length];exact z,?_⟩)
 have hf:H1 s1.heap.objs.size=none:=I1.hok.fresh (Nat.le_refl _)
 refine ⟨.ref s1.heap.objs.size,upd H1 s1.heap.objs.size (.tup xs),I1.laid (t':=s1.toks) (fun b u e=>Heap.get?_push_of_some _ e) (Nat.le_refl _) ?_,rfl,q _ hf⟩
 exact ⟨z,us,r,⟨_,Heap.get?_push_size _ rfl,rfl,_,rfl⟩⟩
theorem pe_lst (h:PA X es t):PE X (.List es pos) (tLst t):=by
 intro pins s σ H Q I hq
 refine wpAny_List_spliced (thn (h pos pins s σ H _ I hq) fun us s1 ⟨xs,H1,I1,r,z,q⟩=>⟨by rw [← r.length];exact z,?_⟩)
 have hf:H1 s1.heap.objs.size=none:=I1.hok.fresh (Nat.le_refl _)
 refine ⟨.ref s1.heap.objs.size,upd H1 s1.heap.objs.size (.lst xs),I1.laid (t':=s1.toks) (fun b u e=>Heap.get?_push_of_some _ e) (Nat.le_refl _) ?_,rfl,q _ hf⟩
 exact ⟨z,us,0,r,Heap.get?_push_size _ rfl⟩
end
abbrev Sp:=List V→Hp→VK→XK→Prop
abbrev CXT:=List Env→Hp→Shared→XK→Value→Shared→Prop
structure Env0 (P:Program) (w:World) (K:PySem.W.Frag) (mg:Str→Option Value) (base:Heap) (A:Around) (outer:List Env) (s:Shared) (H:Hp):Prop where
 frames:A.frames=some outer
 mod:Mod K mg base
 bs:∀ b o,base.get? b=some o→s.heap.get? b=some o∧H b=none
 bsz:base.objs.size≤s.heap.objs.size
 funs:s.heap.FunFrames base outer
 frf:∀ b∈frs outer,H b=none
 hok:HOk P w H s.heap
 bare:AllBare s.gens
def CE (outer:List Env) (P:Program) (w:World) (H:Hp) (s:Shared) (Q:VK) (u:Value) (s':Shared):Prop :=
 ∃ v H',s'.os=s.os∧AllBare s'.gens∧Un (frs outer) [] H H' s.heap s'.heap∧HOk P w H' s'.heap∧RelV v u∧Q v H'
def CR (CX:CXT) (outer:List Env) (P:Program) (w:World) (H:Hp) (s:Shared) (Q:VK) (E:XK) (r:Result) (s':Shared):Prop :=
 match r with
 | .ok (.ret u)=>CE outer P w H s Q u s'
 | .ok _=>False
 | .error e=>CX outer H s E e s'
structure FnOk (P:Program) (w:World) (K:PySem.W.Frag) (mg:Str→Option Value) (base:Heap) (CX:CXT) (k:Nat) (f:Addr) (fd:FuncData) (ps:List Str) (sp:Sp):Prop where
 len:∀ vs H Q E,sp vs H Q E→vs.length=ps.length
 run:∀ (A:Around) (outer:List Env) (s:Shared) (H:Hp) (args:Args) (us:List Value) (vs:List V) (Q:VK) (E:XK),Room k A→Env0 P w K mg base A outer s H→BindsTo s fd args (ps.zip us)→Vals vs us→sp vs H Q E →
  codeAny (model P w) A (.call (.ref f) args) (CR CX outer P w H s Q E) s
section
variable {X:Cx} {pins:List (Addr × Obj)} {σ:St} {H:Hp} {s s':Shared}
theorem Inv.env0 (I:Inv X pins σ H s):Env0 X.prog X.w X.K X.mg X.base X.A X.stack s H :=
 ⟨I.ok.frames,I.ok.mod,I.bs,Nat.le_trans I.ok.bsz I.sz,I.stack,I.stkFree,I.hok,I.bare⟩
theorem Inv.after {Q:VK} {u:Value} (I:Inv X pins σ H s) (h:CE X.stack X.prog X.w H s Q u s'):EP X pins σ Q u s':=by
 obtain ⟨v,H',os,bare,un,hok,r,q⟩:=h
 obtain ⟨hh,g,d,t,os'⟩:=s'
 obtain rfl:os'=s.os:=os
 exact ⟨v,H',I.call (h':=hh) (g':=g) (d':=d) (t':=t) (ch:=[]) un hok bare (fun b z=>absurd z (by simp)),r,q⟩
end
def tCall (sp:Sp) (dvs:List V) (E:XK) (t:TA):TE:=fun σ H Q=>t σ H fun vs H1=>sp (vs++dvs) H1 Q E
def Binds (K:PySem.W.Frag) (fd:FuncData) (ps:List Str) (ds:List Value):Prop :=
 ∀ (s:Shared) (us:List Value),K.In s.heap→(us++ds).length=ps.length→BindsTo s fd ⟨us,[]⟩ (ps.zip (us++ds))
theorem Binds.all {K:PySem.W.Frag} {fd:FuncData} {ps:List Str} (h:∀ us:List Value,us.length=ps.length→bindArgs fd ⟨us,[]⟩=pure (ps.zip us)):Binds K fd ps []:=fun s us _ hl=>by
 rw [List.append_nil] at hl ⊢
 exact .of_eq (h us hl)
def Passes (CX:CXT) (X:Cx) (E:XK):Prop:=∀ (pins:List (Addr × Obj)) (σ:St) (H:Hp) (s:Shared) (e:Value) (s':Shared),Inv X pins σ H s→CX X.stack H s E e s'→X.xe e s'
section
variable {X:Cx} {CX:CXT} {k:Nat} {f C:Addr} {fd:FuncData} {ps:List Str} {sp:Sp} {dvs:List V} {ds:List Value} {E:XK} {x m:Str} {p pos apos:Pos} {e o:Expr} {es:List Expr} {ta:TE} {t:TA}
theorem run_fn {pins:List (Addr × Obj)} {σ:St} {H:Hp} {s:Shared} {Q:VK} {us:List Value} {vs:List V} (F:FnOk X.prog X.w X.K X.mg X.base CX k f fd ps sp) (hr:Room k X.A) (hb:Binds X.K fd ps ds) (hd:Vals dvs ds) (hx:Passes CX X E)
  (I:Inv X pins σ H s) (r:Vals vs us) (h:sp (vs++dvs) H Q E):wpAny (model X.prog X.w) X.A (call (.ref f) us) (EP X pins σ Q) X.xe s:=by
 have r2:Vals (vs++dvs) (us++ds):=r.append hd
 have hl:(us++ds).length=ps.length:=by rw [← r2.length];exact F.len _ _ _ _ h
 refine wpAny_call (codeAny_mono (F.run X.A X.stack s H ⟨us,[]⟩ (us++ds) (vs++dvs) Q E hr I.env0 (hb s us I.kIn hl) r2 h) fun r s' hq=>?_)
 cases r with
 | error e=>exact hx pins σ H s e s' I hq
 | ok fl =>
  cases fl with
  | ret u=>exact I.after hq
  | next=>exact False.elim hq
  | brk=>exact False.elim hq
  | cont=>exact False.elim hq
theorem pe_call (F:FnOk X.prog X.w X.K X.mg X.base CX k f fd ps sp) (hr:Room k X.A) (hg:Gl X x) (hm:X.mg x=some (.ref f)) (hk:PySem.W.keepIn X.K (.ref f)=true) (hb:Binds X.K fd ps ds) (hd:Vals dvs ds) (hx:Passes CX X E)
  (ha:PA X (e::es) t) (hdb:(x==("__debug__":Str))=false:=by decide) (he:starEach (e::es) X.env=(false,eval e X.env)::starEach es X.env:=by rfl) (hpl:(backTo pos (starEach es X.env)).any (·.1)=false:=by rfl) :
  PE X (.Call (.Name x p) (e::es) [] pos) (tCall sp dvs E t):=by
 intro pins s σ H Q I h
 refine wpAny_Call_Name_kw (ld_glob I hg hm ?_ hdb)
 refine PySem.W.callWith_K (h₀:=X.base) I.ok.mod.kin hk (thn (ha pos pins s σ H _ I h) fun us s1 ⟨vs,H1,I1,r,q⟩=>⟨I1.kIn,?_⟩) he hpl
 exact run_fn F hr hb hd hx I1 r q
structure Mk (K:PySem.W.Frag) (C f:Addr):Prop where
 makes:PySem.W.makesIn K C=true
 init:PySem.W.findIn K (.ref C) "__init__"=some (some (.ref f))
 fn:PySem.W.isFn K (.ref f)=true
 kp:PySem.W.keepIn K (.ref C)=true
end
section
variable {X:Cx} {CX:CXT} {k:Nat} {f C:Addr} {fd:FuncData} {ps ks:List Str} {sp:Sp} {E:XK} {x m:Str} {p pos apos kpos:Pos} {e o:Expr} {es:List Expr} {kws:List Keyword} {te ta:TE} {t tk:TA} {nm:Option Str}
structure KBinds (K:PySem.W.Frag) (fd:FuncData) (ps ks:List Str) (g:List Value→List Value→List Value) (gV:List V→List V→List V):Prop where
 to:∀ (s:Shared) (us ws:List Value),K.In s.heap→(g us ws).length=ps.length→BindsTo s fd ⟨us,ks.zip ws⟩ (ps.zip (g us ws))
 rel:∀ {vs:List V} {us:List Value} {zs:List V} {ws:List Value},Vals vs us→Vals zs ws→Vals (gV vs zs) (g us ws)
variable {g:List Value→List Value→List Value} {gV:List V→List V→List V}
end
structure FnScope (N P:List Str) (sc:Scope):Prop where
 kind:sc.kind=.function
 co:sc.isCoroutine=false
 gen:sc.isGenerator=false
 nd:N.Nodup
 pre:N.take P.length=P
 par:∀ x∈P,sc.names.lookup x=some .local∨sc.names.lookup x=some .cell
 nofree:∀ y∈sc.names,y.2≠.free
theorem bindL_out {kindOf:Str→Option NameKind} {x:Str}:∀ {binds:List (Str × Value)} {m:Str→Option Value},(∀ v,(x,v)∉binds)→bindL kindOf binds m x=m x
 | [],_,_=>rfl
 | (n,v)::r,m,h=>by
  unfold bindL
  rw [bindL_out fun w hw=>h w (List.mem_cons_of_mem _ hw)]
  split
  ·have:x≠n:=by rintro rfl;exact h v List.mem_cons_self
   simp [this]
  ·rfl
theorem bindC_out {kindOf:Str→Option NameKind} {x:Str}:∀ {binds:List (Str × Value)} {m:Str→Option Value},(∀ v,(x,v)∉binds)→bindC kindOf binds m x=m x
 | [],_,_=>rfl
 | (n,v)::r,m,h=>by
  unfold bindC
  rw [bindC_out fun w hw=>h w (List.mem_cons_of_mem _ hw)]
  split
  ·rfl
  ·have:x≠n:=by rintro rfl;exact h v List.mem_cons_self
   simp [this]
theorem bindL_get {kindOf:Str→Option NameKind} {x:Str} {v:Value}:∀ {P:List Str} {vs:List Value} {i:Nat} {m:Str→Option Value},P.Nodup→P[i]?=some x→vs[i]?=some v→kindOf x=some .local →
  bindL kindOf (P.zip vs) m x=some v
 | [],_,_,_,_,h,_,_=>by simp at h
 | _::_,[],_,_,_,_,h,_=>by simp at h
 | p::P,w::vs,0,m,nd,h1,h2,hk=>by
  simp at h1 h2;subst h1;subst h2
  show bindL kindOf ((p,w)::P.zip vs) m p=_
  unfold bindL
  rw [bindL_out fun v hv=>(List.nodup_cons.mp nd).1 (List.of_mem_zip hv).1,if_pos hk]
  simp
 | p::P,w::vs,i+1,m,nd,h1,h2,hk=>by
  show bindL kindOf ((p,w)::P.zip vs) m x=_
  unfold bindL
  exact bindL_get (i:=i) (List.nodup_cons.mp nd).2 (by simpa using h1) (by simpa using h2) hk
theorem bindC_get {kindOf:Str→Option NameKind} {x:Str} {v:Value}:∀ {P:List Str} {vs:List Value} {i:Nat} {m:Str→Option Value},P.Nodup→P[i]?=some x→vs[i]?=some v→kindOf x≠some .local →
  bindC kindOf (P.zip vs) m x=some v
 | [],_,_,_,_,h,_,_=>by simp at h
 | _::_,[],_,_,_,_,h,_=>by simp at h
 | p::P,w::vs,0,m,nd,h1,h2,hk=>by
  simp at h1 h2;subst h1;subst h2
  show bindC kindOf ((p,w)::P.zip vs) m p=_
  unfold bindC
  rw [bindC_out fun v hv=>(List.nodup_cons.mp nd).1 (List.of_mem_zip hv).1,if_neg hk]
  simp
 | p::P,w::vs,i+1,m,nd,h1,h2,hk=>by
  show bindC kindOf ((p,w)::P.zip vs) m x=_
  unfold bindC
  exact bindC_get (i:=i) (List.nodup_cons.mp nd).2 (by simpa using h1) (by simpa using h2) hk
def start (N:List Str) (vs:List V):St:=vs.map some++List.replicate (N.length-vs.length) none
def cxOf (CX:CXT) (P:Program) (w:World) (K:PySem.W.Frag) (mg:Str→Option Value) (base:Heap) (N:List Str) (qual:Str) (scope:Scope) (f:Addr) (cd:Value) (A:Around) (outer:List Env) (s:Shared) (H:Hp) (E:XK):Cx where
 prog:=P
 w:=w
 K:=K
 mg:=mg
 base:=base
 A:=A.deeper (envOfC qual scope s.heap.objs.size f cd)
 N:=N
 s₀:=s
 H₀:=H
 env:=envOfC qual scope s.heap.objs.size f cd
 outer:=outer
 stack:=envOfC qual scope s.heap.objs.size f cd::outer
 ex:=[]
 calm:=true
 fn:=fun _=>true
 pn:=[]
 xe:=fun e s'=>wpAny (model P w) (A.deeper (envOfC qual scope s.heap.objs.size f cd)) (leaving (envOfC qual scope s.heap.objs.size f cd) e) (fun _ s''=>CX outer H s E e s'') (fun e' s''=>CX outer H s E e' s'') s'
theorem cell_has {sc:Scope} {n:Nat} {x:Str} (h:sc.names.lookup x=some .cell):∃ c,(cellsFrom n sc.names []).lookup x=some c:=by
 have q:=PySem.W.cellsFrom_some sc.names n [] (.inl h)
 exact Option.isSome_iff_exists.mp q
theorem inv_start {CX:CXT} {P:Program} {w:World} {K:PySem.W.Frag} {mg:Str→Option Value} {base:Heap} {N ps:List Str} {qual:Str} {scope:Scope} {f:Addr} {cd:Value} {A:Around} {outer:List Env} {s s1:Shared} {H:Hp} {E:XK} {us:List Value} {vs:List V}
  (S:FnScope N ps scope) (hd:A.handled=none) (e0:Env0 P w K mg base A outer s H) (hl:vs.length=ps.length) (r:Vals vs us)
  (x:InCallC s s.heap.objs.size (bindL (envOfC qual scope s.heap.objs.size f cd).kindOf (ps.zip us) fun _=>none) (cellsFrom (s.heap.objs.size+1) scope.names []) (bindC (envOfC qual scope s.heap.objs.size f cd).kindOf (ps.zip us) fun _=>none) s1) :
  Inv (cxOf CX P w K mg base N qual scope f cd A outer s H E) [] (start N vs) H s1:=by
 have hpl:ps.length≤N.length:=by have:=congrArg List.length S.pre;rw [List.length_take] at this;omega
 obtain ⟨h1,tk,rfl,hk⟩:=x.done
 have noA:∀ b:Addr,b∉(cxOf CX P w K mg base N qual scope f cd A outer s H E).ex:=fun b z=>absurd (show b∈([]:List Addr) from z) (by simp)
 refine ⟨⟨e0.mod,S.kind,rfl,rfl,Nat.le_refl _,fun y z c h1 h2=>?_,fun y hy=>?_,fun y c _ h=>?_,fun _=>hd,Around.frames_deeper e0.frames,.inr ⟨rfl,rfl⟩,fun b z=>absurd z (noA b),e0.bs,e0.bsz,fun b _ _=>noA b,fun b z=>absurd z (noA b),e0.funs,e0.frf⟩,
  rfl,e0.bare,Un.kept hk,⟨_,x.toInCall.ns,fun i y v h1 h2 h3=>?_⟩,fun y c h=>⟨_,x.cell y c h⟩,e0.hok.fresh (Nat.le_refl _),fun y c h=>?_,fun p hp=>absurd (show p∈([]:List (Addr × Obj)) from hp) (by simp),e0.hok.kept hk,?_⟩
 ·exact name_of_addr x.apart (PySem.mem_of_lookup h1) (PySem.mem_of_lookup h2)
 ·have hy:scope.names.lookup y=some .cell∨scope.names.lookup y=some .free:=hy
  rcases hy with hy | hy
  ·exact cell_has hy
  ·exact absurd rfl (S.nofree _ (PySem.mem_of_lookup hy))
 ·exact Nat.le_of_lt (x.above y c (PySem.mem_of_lookup h))
 ·have hi:i<vs.length:=by
   unfold start at h2
   by_cases hi:i<vs.length
   ·exact hi
   ·rw [List.getElem?_append_right (by simpa using hi)] at h2
    rw [List.getElem?_replicate] at h2
    split at h2<;>cases h2
  have ha:vs[i]?=some v:=by
   unfold start at h2
   rw [List.getElem?_append_left (by simpa using hi),List.getElem?_map] at h2
   cases e:vs[i]? with
   | none=>rw [e] at h2;cases h2
   | some a=>rw [e] at h2;cases h2;rfl
  obtain ⟨u,hu,rv⟩:=r.get ha
  have hp:ps[i]?=some y:=by
   rw [← S.pre,List.getElem?_take_of_lt (by omega)];exact h1
  have ndP:ps.Nodup:=by rw [← S.pre];exact S.nd.sublist (List.take_sublist _ _)
  refine ⟨u,rv,?_⟩
  rcases S.par y (List.mem_of_getElem? hp) with k | k
  ·exact .inl ⟨k,bindL_get ndP hp hu k⟩
  ·obtain ⟨c,e⟩:=cell_has (n:=s.heap.objs.size+1) k
   refine .inr ⟨.inl k,c,e,?_⟩
   have q:=x.cell y c e
   rw [bindC_get ndP hp hu (by show scope.names.lookup y≠_;rw [k];decide)] at q
   exact q
 ·exact e0.hok.fresh (Nat.le_of_lt (x.above y c (PySem.mem_of_lookup h)))
 ·unfold start
  show _=N.length
  rw [List.length_append,List.length_map,List.length_replicate]
  omega
theorem fn_of {CX:CXT} {P:Program} {w:World} {K:PySem.W.Frag} {mg:Str→Option Value} {base:Heap} {k:Nat} {f:Addr} {name qual:Str} {params:Arguments} {body:List Stmt} {scope:Scope} {dV kV doc pm cdv ct oc:Value} {an od:Option Addr}
  {osl:Array (Option Value)} {N ps:List Str} {sp:Sp} (lk:K.lookup f=some ⟨oc,od,.func (PySem.W.fnOf name qual params body scope dV kV doc pm an cdv ct),osl⟩) (hcd:PySem.W.codeIn K cdv qual=true) (S:FnScope N ps scope)
  (len:∀ vs H Q E,sp vs H Q E→vs.length=ps.length)
  (hbody:∀ (A:Around) (outer:List Env) (s:Shared) (H:Hp) (vs:List V) (Q:VK) (E:XK),Room k (A.deeper (envOfC qual scope s.heap.objs.size f cdv))→sp vs H Q E →
   ∃ t,PSs (cxOf CX P w K mg base N qual scope f cdv A outer s H E) body t∧t { nx:=fun _ H'=>Q .non H',rt:=Q } (start N vs) H) :
  FnOk P w K mg base CX (k+1) f (PySem.W.fnOf name qual params body scope dV kV doc pm an cdv ct) ps sp:=by
 refine ⟨len,fun A outer s H args us vs Q E hr e0 hb r hsp=>?_⟩
 have hl:=len _ _ _ _ hsp
 have KX:K.In s.heap:=e0.mod.kin.keeps fun b o e=>(e0.bs b o e).1
 have lim:s.heap.NoLimit:=e0.mod.nolimit.keeps fun b o e=>(e0.bs b o e).1
 have hkind:∀ y∈ps.zip us,scope.names.lookup y.1=some .local∨(scope.names.lookup y.1=some .cell∧((cellsFrom (s.heap.objs.size+1) scope.names []).lookup y.1).isSome=true):=fun ⟨n,v⟩ hy=>by
  rcases S.par n (List.of_mem_zip hy).1 with q | q
  ·exact .inl q
  ·exact .inr ⟨q,PySem.W.cellsFrom_some _ _ _ (.inl q)⟩
 refine codeAny_call_function hr.depth (KX _ _ lk) rfl S.co S.gen rfl (PySem.W.codeRec_of KX hcd) (hb _ _ _ _ ?_)
 refine wpAny_newFunctionEnv_cells S.kind hkind fun env he s1 x=>?_
 subst he
 refine ⟨lim.keeps x.toInCall.keep,codeAny_func ?_⟩
 obtain ⟨t,ht,hq⟩:=hbody A outer s H vs Q E (hr.deeper _) hsp
 have I:Inv (cxOf CX P w K mg base N qual scope f cdv A outer s H E) [] (start N vs) H s1:=inv_start S hr.hd e0 hl r x
 refine wpAny_mono (ht [] s1 (start N vs) H _ I hq) (fun fl s' hs=>?_) fun e s' hs=>hs
 have fin:∀ {σ':St} {H':Hp} {v:V} {u:Value},Inv (cxOf CX P w K mg base N qual scope f cdv A outer s H E) [] σ' H' s'→RelV v u→Q v H'→CE outer P w H s Q u s' :=
  fun {σ' H' v u} J rv q=>⟨v,H',J.os,J.bare,J.base,J.hok,rv,q⟩
 cases fl with
 | ret u =>
  obtain ⟨v,σ',H',J,rv,q⟩:=hs
  exact fin J rv q
 | next =>
  obtain ⟨σ',H',J,q⟩:=hs
  exact fin (v:=V.non) (u:=Value.none) J rfl q
 | brk =>
  obtain ⟨_,_,_,q⟩:=hs
  exact False.elim q
 | cont =>
  obtain ⟨_,_,_,q⟩:=hs
  exact False.elim q
end L2
namespace L2
open PySem PySem.Spec PyProof.Rows
section
variable {X:Cx} {x:Str} {p pos:Pos} {e:Expr} {es:List Expr} {t:TA} {id T:String} {r:List V→Hp→VK→Prop}
def tCB (r:List V→Hp→VK→Prop) (t:TA):TE:=fun σ H Q=>t σ H fun vs H1=>r vs H1 Q
theorem pe_callB (hc:CallR X (.builtin id) r) (hg:Gl X x) (hm:X.mg x=none) (hv:bootBuiltins x=some (.builtin id)) (ha:PA X (e::es) t) (hn:x≠"__name__":=by decide) (hdb:(x==("__debug__":Str))=false:=by decide)
  (he:starEach (e::es) X.env=(false,eval e X.env)::starEach es X.env:=by rfl) (hpl:(backTo pos (starEach es X.env)).any (·.1)=false:=by rfl):PE X (.Call (.Name x p) (e::es) [] pos) (tCB r t):=by
 intro pins s σ H Q I h
 refine wpAny_Call_Name_kw (ld_blt I hg hm hv ?_ hn hdb)
 exact PyProof.Rows.callWith_builtin1 (thn (ha pos pins s σ H _ I h) fun us s1 ⟨vs,H1,I1,r1,q1⟩=>hc pins s1 σ H1 vs us Q I1 r1 q1) he hpl
theorem pe_callTy (hc:CallR X (.type T) r) (hg:Gl X x) (hm:X.mg x=none) (hv:bootBuiltins x=some (.type T)) (ha:PA X (e::es) t) (hn:x≠"__name__":=by decide) (hdb:(x==("__debug__":Str))=false:=by decide)
  (he:starEach (e::es) X.env=(false,eval e X.env)::starEach es X.env:=by rfl) (hpl:(backTo pos (starEach es X.env)).any (·.1)=false:=by rfl):PE X (.Call (.Name x p) (e::es) [] pos) (tCB r t):=by
 intro pins s σ H Q I h
 refine wpAny_Call_Name_kw (ld_blt I hg hm hv ?_ hn hdb)
 exact PyProof.Rows.callWith_type1 (thn (ha pos pins s σ H _ I h) fun us s1 ⟨vs,H1,I1,r1,q1⟩=>hc pins s1 σ H1 vs us Q I1 r1 q1) he hpl
end
end L2
namespace HT
open PySem PyProof.Rows
section
open PySem.SeqAt
open PySem.AutoSeq1 (wpAny_loadPart')
open PySem.MeetsSeq PySem.MeetsSeq2 PySem.MeetsSeq3
end
section
variable {prog:Program} {w:World} {A:Around} {E:Value→Shared→Prop} {s:Shared}
theorem cat_tup {t b:Addr} {vs ws:List Value} {Q:Value→Shared→Prop} (ht:IsTup s.heap t vs.toArray) (hb:IsTup s.heap b ws.toArray) (hv:vs≠[])
  (h1:ws=[]→Q (.ref t) s) (h2:ws≠[]→Q (.ref s.heap.objs.size) { s with heap:=s.heap.push { cls:=.type "tuple",data:=.seq (vs++ws).toArray } })
  (hsz:vs.length+ws.length≤sizeLine):wpAny (model prog w) A (binaryOp .Add (.ref t) (.ref b)) Q E s:=by
 obtain ⟨⟨cls,dd,data,sl⟩,ho,hc,n,hd⟩:=id ht
 obtain ⟨⟨cls2,dd2,data2,sl2⟩,ho2,hc2,n2,hd2⟩:=id hb
 simp only at hc hd hc2 hd2
 subst hc hd hc2 hd2
 have e:vs.toArray++ws.toArray=(vs++ws).toArray:=by simp
 by_cases hw:ws=[]
 ·exact concat_meets ⟨_,ho,rfl⟩ ⟨_,ho2,rfl⟩ noFill_tuple_add seq_tuple_add PySem.F.slot_tuple_add PySem.F.entry_tuple_add (PySem.F.args_tuple_add_2 _ _)
   (tuple_addW1 t b vs.toArray ws.toArray n n2 dd dd2 sl sl2 (by simpa using hv) (by simp [hw])) ⟨ho,ho2,h1 hw⟩
 ·refine concat_meets ⟨_,ho,rfl⟩ ⟨_,ho2,rfl⟩ noFill_tuple_add seq_tuple_add PySem.F.slot_tuple_add PySem.F.entry_tuple_add (PySem.F.args_tuple_add_2 _ _)
   (tuple_addW2 t b vs.toArray ws.toArray n n2 dd dd2 sl sl2 (by simpa using hv) (by simpa using hw) (by rw [List.size_toArray,List.size_toArray];exact hsz)) ⟨ho,ho2,?_⟩
  rw [e]
  exact h2 hw
def sIx (n d:Nat):Option Int→Nat
 | none=>d
 | some v=>if v<0 then (v+(n:Int)).toNat else min v.toNat n
theorem sIx_le (n d:Nat) (hd:d≤n) (o:Option Int):sIx n d o≤n:=by
 cases o with
 | none=>exact hd
 | some v =>
  show (if v<0 then (v+(n:Int)).toNat else min v.toNat n)≤n
  by_cases hv:v<0
  ·rw [if_pos hv];omega
  ·rw [if_neg hv];exact Nat.min_le_right _ _
theorem clip_eq (v:Int) (n d:Nat):(if v<0 then max (v+(n:Int)) 0 else min v (n:Int))=((sIx n d (some v):Nat):Int):=by
 show (if v<0 then max (v+(n:Int)) 0 else min v (n:Int))=(((if v<0 then (v+(n:Int)).toNat else min v.toNat n):Nat):Int)
 by_cases hv:v<0
 ·simp only [if_pos hv];omega
 ·simp only [if_neg hv];omega
theorem adjust_gen (lo hi:Option Int) (n:Nat):Builtin.Slice.sliceAdjust lo hi 1 (n:Int)=(((sIx n 0 lo:Nat):Int),((sIx n n hi:Nat):Int)):=by
 have h1:¬ ((1:Int)<0):=by omega
 unfold Builtin.Slice.sliceAdjust
 simp only [h1,if_false]
 refine Prod.ext ?_ ?_
 ·cases lo with
  | none=>rfl
  | some v=>exact clip_eq v n 0
 ·cases hi with
  | none=>rfl
  | some v=>exact clip_eq v n n
theorem places_gen (i j:Nat):Builtin.Slice.slicePlaces (i:Int) (j:Int) 1=j-i:=by
 unfold Builtin.Slice.slicePlaces
 have h1:(1:Int)>0:=by omega
 simp only [h1,if_true,Int.ediv_one]
 split<;>omega
theorem slicePart_ {v:Value} {o:Option Int} {Q:Option Int→Shared→Prop} (p:IsPart v o) (h:Q o s):wpAny (model prog w) A (Builtin.Slice.slicePartIndex v) Q E s:=by
 cases p with
 | none=>exact slicePart_none h
 | int i t=>exact slicePart_int h
theorem sliceApplied_gen {sl:Addr} {vl vu:Value} {lo hi:Option Int} {n:Nat} {Q:Int × Int × Nat→Shared→Prop} (hs:s.heap.IsSliceOf sl vl vu .none) (pl:IsPart vl lo) (pu:IsPart vu hi)
  (h:Q (((sIx n 0 lo:Nat):Int),1,sIx n n hi-sIx n 0 lo) s):wpAny (model prog w) A (Builtin.Slice.sliceApplied (.ref sl) (pure (n:Int))) Q E s:=by
 obtain ⟨os,hos,hcs,hds⟩:=id hs
 unfold Builtin.Slice.sliceApplied Builtin.Slice.sliceFields
 refine wpAny_bind (wpAny_bind (wpAny_field hos hds (x:=vl) rfl (wpAny_bind (wpAny_field hos hds (x:=vu) rfl (wpAny_bind (wpAny_field hos hds (x:=.none) rfl (wpAny_pure ?_)))))))
 refine wpAny_bind (slicePart_none ?_)
 show wpAny _ _ (if ((1:Int)==0)=true then _ else _) _ _ s
 rw [if_neg (by decide)]
 refine wpAny_bind (slicePart_ pl (wpAny_bind (slicePart_ pu (wpAny_bind (wpAny_pure ?_)))))
 show wpAny _ _ (match Builtin.Slice.sliceAdjust lo hi 1 (n:Int) with | (lo,hi)=>pure (lo,(1:Int),Builtin.Slice.slicePlaces lo hi 1)) _ _ s
 rw [adjust_gen lo hi n]
 show wpAny _ _ (pure (((sIx n 0 lo:Nat):Int),(1:Int),Builtin.Slice.slicePlaces ((sIx n 0 lo:Nat):Int) ((sIx n n hi:Nat):Int) 1)) _ _ s
 rw [places_gen]
 exact wpAny_pure h
theorem pick_gen (xs:Array Value) (i k:Nat):((List.range k).filterMap fun (m:Nat)=>xs[((i:Int)+(m:Int)*1).toNat]?).toArray=((xs.toList.drop i).take k).toArray:=by
 have e:(fun (m:Nat)=>xs[((i:Int)+(m:Int)*1).toNat]?)=fun m=>xs[i+m]?:=by
  funext m
  have:((i:Int)+(m:Int)*1).toNat=i+m:=by omega
  rw [this]
 rw [e]
 have:=pick_run xs i k
 rw [List.filterMap_map] at this
 have e2:((fun x=>xs[x]?)∘fun x=>i+x)=fun m=>xs[i+m]?:=rfl
 rw [e2] at this
 rw [this]
theorem getItem_tuple_cut {t sl:Addr} {items:Array Value} {vl vu:Value} {lo hi:Option Int} {Q:Value→Shared→Prop} (ht:IsTup s.heap t items) (hs:s.heap.IsSliceOf sl vl vu .none) (pl:IsPart vl lo) (pu:IsPart vu hi)
  (hw:¬ (sIx items.size 0 lo=0∧sIx items.size items.size hi=items.size))
  (h:Q (.ref s.heap.objs.size) { s with heap:=s.heap.push { cls:=.type "tuple",data:=.seq ((items.toList.drop (sIx items.size 0 lo)).take (sIx items.size items.size hi-sIx items.size 0 lo)).toArray } })
  (hsz:items.size≤sizeLine):wpAny (model prog w) A (getItem (.ref t) (.ref sl)) Q E s:=by
 have htake:sizeOk (.seq ((items.toList.drop (sIx items.size 0 lo)).take (sIx items.size items.size hi-sIx items.size 0 lo)).toArray):=by
  show ((items.toList.drop (sIx items.size 0 lo)).take (sIx items.size items.size hi-sIx items.size 0 lo)).toArray.size≤sizeLine
  rw [List.size_toArray,List.length_take,List.length_drop,Array.length_toList]
  omega
 have hj:sIx items.size items.size hi≤items.size:=sIx_le _ _ (Nat.le_refl _) hi
 obtain ⟨os,hos,hcs,hds⟩:=id hs
 have hTs:s.TypeIs (.ref sl) "slice":=⟨os,hos,hcs⟩
 unfold getItem
 try with_reducible refine wpAny_holding ?_
 first | refine wpAny_bind (wpAny_pure ?_) | skip
 refine wpAny_bind (wpAny_sequenceKey ht.typeIs (by decide) ?_)
 refine wpAny_bind (wpAny_callSpecial?_slot (name:=Str.ofString "__getitem__") ht.typeIs PyProof.Rows.slot_tuple_getitem
  (wpAny_call_entry PyProof.Rows.slot_tuple_getitem ht.typeIs entry_tuple_getitem ?_ (args_tuple_getitem _ _)))
 show wpAny _ _ (Builtin.Tuple.tupleItemsOf (.ref t) >>= _) _ _ s
 refine wpAny_bind (tupleItemsOf_ ht ?_)
 refine wpAny_bind (wpAny_typeOf hTs ?_)
 rw [if_pos (by decide)]
 refine wpAny_bind (sliceApplied_gen hs pl pu ?_)
 have hno:¬ ((((sIx items.size 0 lo:Nat):Int)==0&&(1:Int)==1&&(sIx items.size items.size hi-sIx items.size 0 lo)==items.size)=true):=by
  intro q
  rw [Bool.and_eq_true,Bool.and_eq_true] at q
  have q1:((sIx items.size 0 lo:Nat):Int)=0:=eq_of_beq q.1.1
  have q2:sIx items.size items.size hi-sIx items.size 0 lo=items.size:=eq_of_beq q.2
  exact hw ⟨by omega,by omega⟩
 show wpAny _ _ (if (((sIx items.size 0 lo:Nat):Int)==0&&(1:Int)==1&&(sIx items.size items.size hi-sIx items.size 0 lo)==items.size)=true then _ else _) _ _ s
 rw [if_neg hno,pick_gen]
 first
  | exact wpAny_bind (m:=Builtin.Tuple.tupleExact _) (wpAny_newObj_type (wpAny_pure ⟨_,rfl,wpAny_pure h⟩) htake)
  | exact wpAny_bind (m:=Builtin.Tuple.tupleExact _) (wpAny_newObj_type (wpAny_bind (wpAny_pure (wpAny_pure ⟨_,rfl,wpAny_pure h⟩))) htake)
  | exact wpAny_bind (wpAny_bind (m:=Builtin.Tuple.tupleExact _) (wpAny_newObj_type (wpAny_pure (wpAny_pure ⟨_,rfl,wpAny_pure h⟩)) htake))
  | exact wpAny_bind (wpAny_bind (m:=Builtin.Tuple.tupleExact _) (wpAny_newObj_type (wpAny_pure ⟨_,rfl,wpAny_pure h⟩) htake))
end
end HT
namespace L2
open PySem PySem.Spec PyProof.Rows
abbrev TO:=St→Hp→(Option Int→Hp→Prop)→Prop
def PO (X:Cx) (e:Option Expr) (t:TO):Prop :=
 ∀ (pins:List (Addr × Obj)) (s:Shared) (σ:St) (H:Hp) (Q:Option Int→Hp→Prop),Inv X pins σ H s→t σ H Q →
  wpAny (model X.prog X.w) X.A (evalPart e X.env) (fun u s'=>∃ o H',Inv X pins σ H' s'∧IsPart u o∧Q o H') X.xe s
def tNoPart:TO:=fun _ H Q=>Q none H
def tPart (t:TE):TO:=fun σ H Q=>t σ H fun x H1=>∃ i,x=.int i∧Q (some i) H1
section
variable {X:Cx} {e:Expr} {te:TE} {lo hi:Option Expr} {tl th:TO} {pos p2:Pos}
theorem po_none:PO X none tNoPart:=by
 intro pins s σ H Q I h
 rw [evalPart_none]
 exact wpAny_pure ⟨none,H,I,.none,h⟩
theorem po_some (h:PE X e te):PO X (some e) (tPart te):=by
 intro pins s σ H Q I hw
 rw [evalPart_some]
 refine thn (h pins s σ H _ I hw) fun u s1 ⟨x,H1,I1,r1,q1⟩=>?_
 obtain ⟨i,rfl,q⟩:=q1
 obtain ⟨t,rfl⟩:=r1
 exact ⟨some i,H1,I1,.int i t,q⟩
def SlR (X:Cx) (r:V→Option Int→Option Int→Hp→VK→Prop):Prop :=
 ∀ (pins:List (Addr × Obj)) (s:Shared) (σ:St) (H:Hp) (x:V) (v vl vu:Value) (lo hi:Option Int) (sl:Addr) (Q:VK),Inv X pins σ H s→RelV x v→s.heap.IsSliceOf sl vl vu .none→IsPart vl lo→IsPart vu hi→r x lo hi H Q →
  ∃ T id,typeLookup (.type T) "__getitem__"=pure (some (.builtin id))∧s.TypeIs v T∧wpAny (model X.prog X.w) X.A (getItem v (.ref sl)) (EP X pins σ Q) X.xe s
def tSl (r:V→Option Int→Option Int→Hp→VK→Prop) (te:TE) (tl th:TO):TE:=fun σ H Q=>te σ H fun x H1=>tl σ H1 fun l H2=>th σ H2 fun u H3=>r x l u H3 Q
theorem pe_slice {r:V→Option Int→Option Int→Hp→VK→Prop} (hr:SlR X r) (he:PE X e te) (hl:PO X lo tl) (hu:PO X hi th):PE X (.Subscript e (.Slice lo hi none p2) pos) (tSl r te tl th):=by
 intro pins s σ H Q I h
 refine Subscript_ (thn (he pins s σ H _ I h) fun v s1 ⟨x,H1,I1,r1,q1⟩=>?_)
 refine wpAny_Slice (thn (hl pins s1 σ H1 _ I1 q1) fun vl s2 ⟨l,H2,I2,pl,q2⟩=>thn (hu pins s2 σ H2 _ I2 q2) fun vu s3 ⟨u,H3,I3,pu,q3⟩=>?_)
 rw [evalPart_none]
 refine wpAny_pure ?_
 have I4:Inv X pins σ H3 { s3 with heap:=s3.heap.push { cls:=.type "slice",data:=.fields #[vl,vu,.none] } }:=I3.kept (t':=s3.toks) fun b ob q=>Heap.get?_push_of_some _ q
 obtain ⟨T,id,hT,ht,hg⟩:=hr pins { s3 with heap:=s3.heap.push { cls:=.type "slice",data:=.fields #[vl,vu,.none] } } σ H3 x v vl vu l u s3.heap.objs.size Q I4 r1 (Heap.IsSliceOf.new ..) pl pu q3
 show wpAny (model X.prog X.w) X.A (subscriptTail e (.Slice lo hi none p2) v (.ref s3.heap.objs.size)) (EP X pins σ Q) X.xe { s3 with heap:=s3.heap.push { cls:=.type "slice",data:=.fields #[vl,vu,.none] } }
 exact tail_any (ops:=[.ref s3.heap.objs.size,v]) ht hT hg (by with_unfolding_all rfl)
def cutV (xs:List V) (lo hi:Option Int):List V:=(xs.drop (HT.sIx xs.length 0 lo)).take (HT.sIx xs.length xs.length hi-HT.sIx xs.length 0 lo)
theorem cutV_length (xs:List V) (lo hi:Option Int):(cutV xs lo hi).length≤xs.length:=by
 unfold cutV
 rw [List.length_take,List.length_drop]
 omega
def rSlT (K:PySem.W.Frag):V→Option Int→Option Int→Hp→VK→Prop:=fun x lo hi H Q=>∃ a xs,x=.ref a∧SqT K H a xs ∧
 ¬ (HT.sIx xs.length 0 lo=0∧HT.sIx xs.length xs.length hi=xs.length)∧∀ p,H p=none→Q (.ref p) (upd H p (.tup (cutV xs lo hi)))
theorem sl_tup:SlR X (rSlT X.K):=by
 intro pins s σ H x v vl vu lo hi sl Q I rx hs pl pu h
 obtain ⟨a,xs,rfl,hx,hw,q⟩:=h
 cases rx
 obtain ⟨its,r,ht,hz⟩:=I.tuple hx
 have hlen:its.toArray.size=xs.length:=by rw [List.size_toArray];exact r.length.symm
 refine ⟨"tuple",_,PyProof.Rows.slot_tuple_getitem.lookup,ht.typeIs,?_⟩
 refine HT.getItem_tuple_cut ht hs pl pu (by rw [hlen];exact hw) ?_ (by rw [hlen];exact hz)
 rw [hlen]
 refine ⟨.ref s.heap.objs.size,_,I.laid (t':=s.toks) (o:=.tup (cutV xs lo hi)) (fun b ob q=>Heap.get?_push_of_some _ q) (Nat.le_refl _) ?_,rfl,q _ (I.hok.fresh (Nat.le_refl _))⟩
 exact ⟨Nat.le_trans (cutV_length xs lo hi) hz,_,(r.drop (HT.sIx xs.length 0 lo)).take (HT.sIx xs.length xs.length hi-HT.sIx xs.length 0 lo),IsTup.new _ _⟩
end
end L2
namespace L2
open PySem PySem.Spec PyProof.Rows
def ixN (n:Nat) (i:Int):Option Nat:=if 0≤i then (if i<n then some i.toNat else none) else if -(n:Int)≤i then some (i+n).toNat else none
def atI {α:Type} (xs:List α) (i:Int):Option α:=(ixN xs.length i).bind fun j=>xs[j]?
theorem ixN_seq {n:Nat} {i:Int} {j:Nat} (h:ixN n i=some j):seqIndex? i n=some j∧j<n ∧ -(n:Int)≤i∧i<n:=by
 unfold ixN at h
 by_cases h0:0≤i
 ·rw [if_pos h0] at h
  by_cases h1:i<n
  ·rw [if_pos h1] at h
   have e:i.toNat=j:=Option.some.inj h
   exact ⟨by rw [seqIndex_of h0 h1,e],by omega,by omega,h1⟩
  ·rw [if_neg h1] at h;cases h
 ·rw [if_neg h0] at h
  by_cases h1 : -(n:Int)≤i
  ·rw [if_pos h1] at h
   have e:(i+n).toNat=j:=Option.some.inj h
   exact ⟨by rw [seqIndex_neg (by omega) h1,e],by omega,h1,by omega⟩
  ·rw [if_neg h1] at h;cases h
theorem atI_get {α:Type} {xs:List α} {i:Int} {v:α} (h:atI xs i=some v):∃ j,seqIndex? i xs.length=some j∧xs[j]?=some v∧j<xs.length ∧ -(xs.length:Int)≤i∧i<xs.length:=by
 unfold atI at h
 cases e:ixN xs.length i with
 | none=>rw [e] at h;cases h
 | some j =>
  rw [e] at h
  obtain ⟨h1,h2,h3,h4⟩:=ixN_seq e
  exact ⟨j,h1,h,h2,h3,h4⟩
def PlainIx (b:Expr):Prop:=∀ o i,subscripted b false o i=operate [o,i] (getItem o i)
def IxR (X:Cx) (r:R2):Prop :=
 ∀ (value slice:Expr) (pins:List (Addr × Obj)) (s:Shared) (σ:St) (H:Hp) (x y:V) (v u:Value) (Q:VK),Inv X pins σ H s→RelV x v→RelV y u→r x y H Q →
  subscripted slice false v u=operate [v,u] (getItem v u)→wpAny (model X.prog X.w) X.A (subscriptTail value slice v u) (EP X pins σ Q) X.xe s
def MtR (X:Cx) (id:String) (r:V→List V→Hp→VK→Prop):Prop :=
 ∀ (pins:List (Addr × Obj)) (s:Shared) (σ:St) (H:Hp) (x:V) (xs:List V) (v:Value) (us:List Value) (Q:VK),Inv X pins σ H s→RelV x v→Vals xs us→r x xs H Q →
  wpAny (model X.prog X.w) X.A (call (.builtin id) (v::us)) (EP X pins σ Q) X.xe s
section
variable {X:Cx} {a b:Expr} {ta tb:TE} {pos:Pos}
theorem pe_ix {r:R2} (hr:IxR X r) (ha:PE X a ta) (hb:PE X b tb) (hs:PlainIx b):PE X (.Subscript a b pos) (tOp r ta tb):=by
 intro pins s σ H Q I h
 exact Subscript_ (binT ha hb I h fun v u s2 x y H2 I2 rx ry q=>hr a b pins s2 σ H2 x y v u Q I2 rx ry q (hs _ _))
def rIxL (K:PySem.W.Frag):R2:=fun x y H Q=>∃ p xs i v,x=.ref p∧y=.int i∧SqL K H p xs∧atI xs i=some v∧Q v H
def rIxT (K:PySem.W.Frag):R2:=fun x y H Q=>∃ p xs i v,x=.ref p∧y=.int i∧SqT K H p xs∧atI xs i=some v∧Q v H
def rIxS:R2:=fun x y H Q=>∃ z i c,x=.str z∧y=.int i∧z.length≤sizeLine∧atI z.cps.toList i=some c∧Q (.str ⟨#[c]⟩) H
theorem ix_list:IxR X (rIxL X.K):=by
 intro value slice pins s σ H x y v u Q I rx ry h hs
 obtain ⟨p,xs,i,z,rfl,rfl,hq,he,q⟩:=h
 cases rx
 obtain ⟨t,rfl⟩:=ry
 obtain ⟨its,r,pl,hz⟩:=I.list hq
 obtain ⟨j,h1,h2,h3,h4,h5⟩:=atI_get he
 obtain ⟨w,ew,rw'⟩:=r.get h2
 have hl:=r.length
 have hn:=line63
 have fin:EP X pins σ Q w s:=⟨z,H,I,rw',q⟩
 by_cases h0:0≤i
 ·have hj:i.toNat=j:=by
   rw [seqIndex_of h0 h5] at h1
   exact Option.some.inj h1
  exact item_listR pl.isList h0 (by omega) (by rw [hj];simpa using ew) fin hs
 ·have hj:(i+(its.toArray.size:Int)).toNat=j:=by
   rw [seqIndex_neg (by omega) h4] at h1
   rw [List.size_toArray,← hl]
   exact Option.some.inj h1
  exact subscriptTail_builtinR (x:=w) pl.isList.typeIs slot_list_getitem.lookup
   (wpAny_getItem_list_neg (Q:=fun r s'=>r=w∧EP X pins σ Q r s') pl.isList (by omega) (by rw [List.size_toArray]<;>omega) (by omega) (by rw [hj];simpa using ew) ⟨rfl,fin⟩) hs
theorem ix_tup:IxR X (rIxT X.K):=by
 intro value slice pins s σ H x y v u Q I rx ry h hs
 obtain ⟨p,xs,i,z,rfl,rfl,hq,he,q⟩:=h
 cases rx
 obtain ⟨t,rfl⟩:=ry
 obtain ⟨its,r,pl,hz⟩:=I.tuple hq
 obtain ⟨j,h1,h2,h3,h4,h5⟩:=atI_get he
 obtain ⟨w,ew,rw'⟩:=r.get h2
 have hl:=r.length
 have hn:=line63
 have fin:EP X pins σ Q w s:=⟨z,H,I,rw',q⟩
 exact subscriptTail_builtinR (x:=w) pl.typeIs slot_tuple_getitem.lookup
  (getItem_tuple (j:=j) (Q:=fun r s'=>r=w∧EP X pins σ Q r s') pl (by omega) (by omega) (by rw [List.size_toArray,← hl];exact h1) (by simpa using ew) ⟨rfl,fin⟩) hs
theorem ix_str:IxR X rIxS:=by
 intro value slice pins s σ H x y v u Q I rx ry h hs
 obtain ⟨z,i,c,rfl,rfl,hz,he,q⟩:=h
 obtain ⟨t,rfl⟩:=rx
 obtain ⟨t',rfl⟩:=ry
 obtain ⟨j,h1,h2,h3,h4,h5⟩:=atI_get he
 have hl:z.cps.toList.length=z.length:=by simp [Str.length]
 rw [hl] at h1 h4 h5
 have hn:=line63
 exact tail_any (typeIs_str s z t) slot_str_getitem.lookup (getItem_str (c:=c) (by
  have e1:decide (i < -(2 ^ 63:Int))=false:=decide_eq_false (by omega)
  have e2:decide (i≥2 ^ 63)=false:=decide_eq_false (by omega)
  rw [e1,e2,Bool.or_false]) (by rw [h1];simpa using h2) ⟨.str ⟨#[c]⟩,H,I.tok _,⟨_,rfl⟩,q⟩) hs
theorem slice_bounds (lo hi:Option Int) (n:Nat):(sliceBounds lo hi none n).1=((HT.sIx n 0 lo:Nat):Int)∧(sliceBounds lo hi none n).2.1=((HT.sIx n n hi:Nat):Int)∧(sliceBounds lo hi none n).2.2=1:=by
 refine ⟨?_,?_,rfl⟩
 ·cases lo with
  | none=>simp [sliceBounds,HT.sIx]
  | some i =>
   simp only [sliceBounds,HT.sIx,Option.getD_none,show (1:Int)>0 by decide,if_true]
   by_cases h:i<0
   ·simp only [h,if_true]<;>omega
   ·simp only [h,if_false]<;>omega
 ·cases hi with
  | none=>simp [sliceBounds,HT.sIx]
  | some i =>
   simp only [sliceBounds,HT.sIx,Option.getD_none,show (1:Int)>0 by decide,if_true]
   by_cases h:i<0
   ·simp only [h,if_true]<;>omega
   ·simp only [h,if_false]<;>omega
theorem slicePick_cut (its:List Value) (lo hi:Option Int):slicePick its.toArray lo hi none=((its.drop (HT.sIx its.length 0 lo)).take (HT.sIx its.length its.length hi-HT.sIx its.length 0 lo)).toArray:=by
 obtain ⟨h1,h2,h3⟩:=slice_bounds lo hi its.toArray.size
 unfold slicePick
 rw [h1,h2,h3]
 simp only [sliceRange_one,pick_run,List.size_toArray]<;>rfl
def rSlL (K:PySem.W.Frag):V→Option Int→Option Int→Hp→VK→Prop:=fun x lo hi H Q=>∃ a xs,x=.ref a∧SqL K H a xs∧∀ p,H p=none→Q (.ref p) (upd H p (.lst (cutV xs lo hi)))
theorem sl_list:SlR X (rSlL X.K):=by
 intro pins s σ H x v vl vu lo hi sl Q I rx hs pl pu h
 obtain ⟨a,xs,rfl,hx,q⟩:=h
 cases rx
 obtain ⟨its,r,ht,hz⟩:=I.list hx
 have hlen:=r.length
 refine ⟨"list",_,slot_list_getitem.lookup,ht.isList.typeIs,?_⟩
 refine wpAny_getItem_list_slice ht.isList hs pl pu .none (by simp) ?_ (by rw [List.size_toArray]<;>omega)
 rw [slicePick_cut,← hlen]
 refine ⟨.ref s.heap.objs.size,_,I.laid (t':=s.toks) (o:=.lst (cutV xs lo hi)) (fun b ob q=>Heap.get?_push_of_some _ q) (Nat.le_refl _) ?_,rfl,q _ (I.hok.fresh (Nat.le_refl _))⟩
 exact ⟨Nat.le_trans (cutV_length xs lo hi) hz,_,0,(r.drop (HT.sIx xs.length 0 lo)).take (HT.sIx xs.length xs.length hi-HT.sIx xs.length 0 lo),Heap.get?_push_size _ rfl⟩
def flatV:V→Bool
 | .non=>true
 | .bl _=>true
 | .int _=>true
 | .str _=>true
 | _=>false
def eqV:V→V→Bool
 | .non,.non=>true
 | .bl a,.bl b=>a==b
 | .bl a,.int b=>(if a then 1 else 0)==b
 | .int a,.bl b=>a==(if b then 1 else 0)
 | .int a,.int b=>a==b
 | .str a,.str b=>a==b
 | _,_=>false
theorem eqAt_V {A:Around} {s:Shared} {y x:V} {u v:Value} (ry:RelV y u) (rx:RelV x v) (fy:flatV y=true) (fx:flatV x=true):SeqAt.EqAt A s u v (eqV y x):=by
 cases y with
 | non =>
  cases ry
  cases x with
  | non=>cases rx;exact SeqAt.EqAt.same _
  | bl b=>cases rx;exact SeqAt.EqAt.none_bool b
  | int b=>obtain ⟨t,rfl⟩:=rx;exact SeqAt.EqAt.none_int b t
  | str b=>obtain ⟨t,rfl⟩:=rx;exact SeqAt.EqAt.none_str b t
  | _=>exact absurd (show false=true from fx) Bool.false_ne_true
 | bl a =>
  cases ry
  cases x with
  | non=>cases rx;exact SeqAt.EqAt.bool_none a
  | bl b=>cases rx;exact SeqAt.EqAt.bool_bool a b
  | int b=>obtain ⟨t,rfl⟩:=rx;exact SeqAt.EqAt.bool_int a b t
  | str b=>obtain ⟨t,rfl⟩:=rx;exact SeqAt.EqAt.bool_str a b t
  | _=>exact absurd (show false=true from fx) Bool.false_ne_true
 | int a =>
  obtain ⟨t',rfl⟩:=ry
  cases x with
  | non=>cases rx;exact SeqAt.EqAt.int_none a t'
  | bl b=>cases rx;exact SeqAt.EqAt.int_bool a t' b
  | int b=>obtain ⟨t,rfl⟩:=rx;exact SeqAt.EqAt.int_int a t' b t
  | str b=>obtain ⟨t,rfl⟩:=rx;exact SeqAt.EqAt.int_str a t' b t
  | _=>exact absurd (show false=true from fx) Bool.false_ne_true
 | str a =>
  obtain ⟨t',rfl⟩:=ry
  cases x with
  | non=>cases rx;exact SeqAt.EqAt.str_none a t'
  | bl b=>cases rx;exact SeqAt.EqAt.str_bool a t' b
  | int b=>obtain ⟨t,rfl⟩:=rx;exact SeqAt.EqAt.str_int a t' b t
  | str b=>obtain ⟨t,rfl⟩:=rx;exact SeqAt.EqAt.str_str a t' b t
  | _=>exact absurd (show false=true from fx) Bool.false_ne_true
 | _=>exact absurd (show false=true from fy) Bool.false_ne_true
def eqU (x:V) (u:Value):Bool:=match u with
 | .none=>eqV .non x
 | .bool b=>eqV (.bl b) x
 | .int i _=>eqV (.int i) x
 | .str z _=>eqV (.str z) x
 | _=>false
theorem eqU_of {x y:V} {u:Value} (r:RelV y u) (f:flatV y=true):eqU x u=eqV y x:=by
 cases y with
 | non=>cases r;rfl
 | bl b=>cases r;rfl
 | int i=>obtain ⟨t,rfl⟩:=r;rfl
 | str z=>obtain ⟨t,rfl⟩:=r;rfl
 | _=>exact absurd (show false=true from f) Bool.false_ne_true
theorem mem_eqAt {A:Around} {s:Shared} {x:V} {v:Value} (rx:RelV x v) (fx:flatV x=true):∀ {xs:List V} {us:List Value},Vals xs us→xs.all flatV=true→∀ u∈us,SeqAt.EqAt A s u v (eqU x u)
 | _,_,.nil,_=>fun u hu=>by cases hu
 | y::xs,u::us,.cons r t,f=>fun u' hu=>by
  rw [List.all_cons,Bool.and_eq_true] at f
  rcases List.mem_cons.mp hu with rfl | hu
  ·rw [eqU_of r f.1];exact eqAt_V r rx f.1 fx
  ·exact mem_eqAt rx fx t f.2 u' hu
theorem call_len_seq:CallR X (.builtin "len") (fun xs H Q=>∃ p ys,xs=[.ref p]∧(SqL X.K H p ys∨SqT X.K H p ys)∧Q (.int ys.length) H):=by
 intro pins s σ H xs us Q I r h
 obtain ⟨p,ys,rfl,hq,q⟩:=h
 obtain ⟨u,rfl,rx⟩:=vals1 r
 cases rx
 have hn:=line63
 rcases hq with hq | hq
 ·obtain ⟨its,r',pl,hz⟩:=I.list hq
  have hlen:=r'.length
  exact Calls.call_len_list pl.isList (by simp only [List.size_toArray]<;>omega) ⟨.int ys.length,H,I.tok _,⟨s.toks+1,by rw [List.size_toArray,hlen]⟩,q⟩
 ·obtain ⟨its,r',pl,hz⟩:=I.tuple hq
  have hlen:=r'.length
  exact len_tuple pl (by simp only [List.size_toArray]<;>omega) ⟨.int ys.length,H,I.tok _,⟨s.toks+1,by rw [List.size_toArray,hlen]⟩,q⟩
theorem call_len_str:CallR X (.builtin "len") (fun xs H Q=>∃ z,xs=[.str z]∧z.length≤sizeLine∧Q (.int z.length) H):=by
 intro pins s σ H xs us Q I r h
 obtain ⟨z,rfl,hz,q⟩:=h
 obtain ⟨u,rfl,t,rfl⟩:=vals1 r
 have hn:=line63
 exact len_str (by omega) ⟨.int z.length,H,I.tok _,⟨_,rfl⟩,q⟩
theorem call_list_of:CallR X (.type "list") (fun xs H Q=>∃ p ys,xs=[.ref p]∧(SqL X.K H p ys∨SqT X.K H p ys)∧∀ l,H l=none→Q (.ref l) (upd H l (.lst ys))):=by
 intro pins s σ H xs us Q I r h
 obtain ⟨p,ys,rfl,hq,q⟩:=h
 obtain ⟨u,rfl,rx⟩:=vals1 r
 cases rx
 have fin:∀ (its:List Value),Vals ys its→ys.length≤sizeLine→∀ (h':Heap) (c':Nat),(∀ b o',s.heap.get? b=some o'→h'.get? b=some o') →
   h'.get? s.heap.objs.size=some { cls:=.type "list",dict:=none,data:=.seq its.toArray c',slots:=#[] }→EP X pins σ Q (.ref s.heap.objs.size) { s with heap:=h' }:=fun its r' hz h' c' kp e =>
  ⟨.ref s.heap.objs.size,_,I.laid (t':=s.toks) kp (Nat.le_refl _) (show ObjOk X.prog X.w _ h' _ (.lst ys) from ⟨hz,its,c',r',e⟩),rfl,q _ (I.hok.fresh (Nat.le_refl _))⟩
 rcases hq with hq | hq
 ·obtain ⟨its,r',pl,hz⟩:=I.list hq
  have hlen:=r'.length
  obtain ⟨o,ho,hc,n,hd⟩:=pl.isList
  exact call_list_seq p (.inl rfl) ho hc hd (fun h' c' kp e=>fin its r' hz h' c' kp e) (by simp only [List.size_toArray]<;>omega)
 ·obtain ⟨its,r',pl,hz⟩:=I.tuple hq
  have hlen:=r'.length
  obtain ⟨o,ho,hc,n,hd⟩:=pl
  exact call_list_seq p (.inr rfl) ho hc hd (fun h' c' kp e=>fin its r' hz h' c' kp e) (by simp only [List.size_toArray]<;>omega)
theorem call_tuple_of:CallR X (.type "tuple") (fun xs H Q=>∃ p ys,xs=[.ref p]∧((SqL X.K H p ys∧∀ l,H l=none→Q (.ref l) (upd H l (.tup ys)))∨(SqT X.K H p ys∧Q (.ref p) H))):=by
 intro pins s σ H xs us Q I r h
 obtain ⟨p,ys,rfl,h⟩:=h
 obtain ⟨u,rfl,rx⟩:=vals1 r
 cases rx
 rcases h with ⟨hq,q⟩ | ⟨hq,q⟩
 ·obtain ⟨its,r',pl,hz⟩:=I.list hq
  have hlen:=r'.length
  refine call_tuple_list pl.isList (fun h' kp=>?_) (by simp only [List.size_toArray]<;>omega)
  have I1:Inv X pins σ H { s with heap:=h' }:=I.kept (t':=s.toks) kp
  have I2:Inv X pins σ (upd H h'.objs.size (.tup ys)) { s with heap:=h'.push { cls:=.type "tuple",data:=.seq its.toArray } } :=
   I1.laid (t':=s.toks) (fun b o e=>Heap.get?_push_of_some _ e) (Nat.le_refl _) (show ObjOk X.prog X.w _ _ _ (.tup ys) from ⟨hz,its,r',IsTup.new _ _⟩)
  exact ⟨.ref h'.objs.size,_,I2,rfl,q _ (I1.hok.fresh (Nat.le_refl _))⟩
 ·obtain ⟨its,r',pl,hz⟩:=I.tuple hq
  exact call_tuple_same pl ⟨.ref p,H,I,rfl,q⟩
def tyV (K:PySem.W.Frag) (T:String) (x:V) (H:Hp):Prop:=match x with
 | .str _=>T="str"
 | .int _=>T="int"
 | .ref p=>(T="list"∧∃ xs,SqL K H p xs)∨(T="tuple"∧∃ o,K.lookup p=some o∧o.cls=.type "tuple"∧o.dict=none) ∨
   (T="dict"∧((∃ kvs,H p=some (.dK kvs))∨∃ kvs,H p=some (.dT kvs)))∨(T="set"∧∃ S n,H p=some (.set S n))
 | _=>False
theorem tyV_is {pins:List (Addr × Obj)} {σ:St} {H:Hp} {s:Shared} {T:String} {x:V} {v:Value} (I:Inv X pins σ H s) (r:RelV x v) (ty:tyV X.K T x H) :
  s.TypeIs v T∧∀ a,v=.ref a→∃ ob,s.heap.get? a=some ob∧ob.dict=none:=by
 cases x with
 | str z =>
  obtain ⟨t,rfl⟩:=r
  cases (show T="str" from ty)
  exact ⟨typeIs_str s z t,fun _ e=>nomatch e⟩
 | int i =>
  obtain ⟨t,rfl⟩:=r
  cases (show T="int" from ty)
  exact ⟨typeIs_int s i t,fun _ e=>nomatch e⟩
 | ref p =>
  cases r
  rcases ty with ⟨rfl,xs,hq⟩ | ⟨rfl,o,hk,hc,hd⟩ | ⟨rfl,hk⟩ | ⟨rfl,S,n,hk⟩
  ·obtain ⟨its,_,pl,_⟩:=I.list hq
   refine ⟨pl.isList.typeIs,fun a e=>?_⟩
   cases e
   obtain ⟨o,n,e,c,hd,_⟩:=pl
   exact ⟨o,e,hd⟩
  ·refine ⟨⟨o,I.kIn p o hk,hc⟩,fun a e=>?_⟩
   cases e
   exact ⟨o,I.kIn _ o hk,hd⟩
  ·have z:∃ o,s.heap.get? p=some o∧o.ExactDict:=by
    rcases hk with ⟨kvs,hk⟩ | ⟨kvs,hk⟩
    ·obtain ⟨_,_,_,_,o,_,_,e,ex,_⟩:=I.hok p _ hk
     exact ⟨o,e,ex⟩
    ·obtain ⟨_,_,_,_,o,_,_,e,ex,_⟩:=I.hok p _ hk
     exact ⟨o,e,ex⟩
   obtain ⟨o,e,ex⟩:=z
   refine ⟨⟨o,e,ex.1⟩,fun a e2=>?_⟩
   cases e2
   exact ⟨o,e,ex.2.1⟩
  ·obtain ⟨o,_,_,_,e,ex,_⟩:=I.hok p _ hk
   refine ⟨⟨o,e,ex.1⟩,fun a e2=>?_⟩
   cases e2
   exact ⟨o,e,ex.2.1⟩
 | _=>exact False.elim ty
def tBM (K:PySem.W.Frag) (T:String) (r:V→List V→Hp→VK→Prop) (to:TE) (t:TA):TE:=fun σ H Q=>to σ H fun x H1=>tyV K T x H1∧t σ H1 fun xs H2=>r x xs H2 Q
variable {o e:Expr} {es:List Expr} {to:TE} {t:TA} {name:Str} {apos cpos:Pos} {T id:String} {r:V→List V→Hp→VK→Prop}
theorem pe_bm (pa:PlainAttrs T) (slot:Slot T name id) (hty:typeOf (.builtin id)=pure (.type "method_descriptor")) (hm:MtR X id r) (ho:PE X o to) (ha:PA X (e::es) t)
  (hbase:attributeBase o name X.env (eval o X.env)=eval o X.env:=by rfl)
  (hfew:((backTo cpos (starEach (e::es) X.env)).all (fun x=>!x.1)&&(backToKw cpos (keywordEach [] X.env)).all (fun x=>x.1.isSome)
   && decide ((e::es).length+([]:List Keyword).length+(if ([]:List Keyword).isEmpty then 0 else 1)<30))=true:=by rfl)
  (hline:(apos.endLine==cpos.line)=true:=by rfl) (hs:starEach (e::es) X.env=(false,eval e X.env)::starEach es X.env:=by rfl) (hplain:(backTo cpos (starEach es X.env)).any (·.1)=false:=by rfl) :
  PE X (.Call (.Attribute o name apos) (e::es) [] cpos) (tBM X.K T r to t):=by
 intro pins s σ H Q I h
 refine wpAny_Call_method_late hbase hfew hline rfl (thn (ho pins s σ H _ I h) fun v s1 ⟨x,H1,I1,r1,ty,q1⟩=>?_)
 obtain ⟨h1,h2⟩:=tyV_is I1 r1 ty
 refine ⟨T,id,pa,slot,hty,h1,h2,?_⟩
 have hA:=ha cpos pins s1 σ H1 _ I1 q1
 rw [hs] at hA ⊢
 refine Calls.callWith_builtin (by show (false||(backTo cpos (starEach es X.env)).any (·.1))=false;rw [hplain]<;>rfl) (Calls.evalArgs_plain ?_)
 exact thn hA fun us s2 ⟨vs,H2,I2,r2,q2⟩=>hm pins s2 σ H2 x vs v us Q I2 r1 r2 q2
end
end L2
namespace L2
open PySem PySem.Spec PyProof.Rows
def MtM (X:Cx) (id:String) (r:V→List V→Hp→VK→Prop):Prop :=
 ∀ (pins:List (Addr × Obj)) (s:Shared) (σ:St) (H:Hp) (x:V) (xs:List V) (v:Value) (us:List Value) (Q:VK),Inv X pins σ H s→RelV x v→Vals xs us→r x xs H Q →
  wpAny (model X.prog X.w) X.A (call (.builtin id) (v::us)) (EP X pins σ Q) X.xe s
theorem Vals.one:∀ {x:V} {us:List Value},Vals [x] us→∃ u,us=[u]∧RelV x u
 | _,_,.cons r .nil=>⟨_,rfl,r⟩
theorem Vals.reverse {xs:List V} {us:List Value} (h:Vals xs us):Vals xs.reverse us.reverse:=by
 induction h with
 | nil=>exact .nil
 | cons r t ih=>rw [List.reverse_cons,List.reverse_cons];exact Vals.append ih (.cons r .nil)
theorem Vals.rep {xs:List V} {us:List Value} (h:Vals xs us):∀ k:Nat,Vals (List.replicate k xs).flatten (List.replicate k us).flatten
 | 0=>.nil
 | k+1=>by
  rw [List.replicate_succ,List.replicate_succ,List.flatten_cons,List.flatten_cons]
  exact Vals.append h (Vals.rep h k)
theorem foldl_rep (its:List Value):∀ (k:Nat) (acc:List Value),
  List.foldl (fun x1 x2=>x1++x2) acc.toArray (List.replicate k its.toArray)=(acc++(List.replicate k its).flatten).toArray
 | 0,acc=>by simp
 | k+1,acc=>by
  have e:acc.toArray++its.toArray=(acc++its).toArray:=by simp
  have e2:(acc++its)++(List.replicate k its).flatten=acc++(List.replicate (k+1) its).flatten:=by
   rw [List.replicate_succ,List.flatten_cons,List.append_assoc]
  rw [← e2,← foldl_rep its k (acc++its),← e,List.replicate_succ,List.foldl_cons]
section
variable {X:Cx} {pins:List (Addr × Obj)} {σ:St} {H:Hp} {s:Shared} {l b:Addr} {xs ys zs:List V}
theorem Inv.lset {its its':List Value} {n:Nat} {f:Array Value→Array Value} {t':Nat} (I:Inv X pins σ H s) (hH:H l=some (.lst xs))
  (e:s.heap.get? l=some { cls:=.type "list",data:=.seq its.toArray n }) (hf:f its.toArray=its'.toArray) (hv:Vals ys its') (hz:ys.length≤sizeLine) :
  Inv X pins σ (upd H l (.lst ys)) { s with heap:=s.heap.update l (Obj.mapSeq f),toks:=t' }:=by
 have q:=PySem.IsL.update e f
 rw [hf] at q
 refine I.write (x:=l) (e:=l) (by rw [hH];exact trivial) (.inl rfl) (fun b' u hb hu=>(Heap.get?_update_other s.heap (Obj.mapSeq f) (Ne.symm hb)).trans hu) ⟨_,q⟩ ?_
 exact ⟨hz,its',_,hv,q⟩
theorem Inv.lnew {its:List Value} {t':Nat} (I:Inv X pins σ H s) (hv:Vals ys its) (hz:ys.length≤sizeLine) :
  Inv X pins σ (upd H s.heap.objs.size (.lst ys)) { s with heap:=s.heap.push { cls:=.type "list",data:=.seq its.toArray },toks:=t' } :=
 I.laid (fun _ _ q=>Heap.get?_push_of_some _ q) (Nat.le_refl _) ⟨hz,its,0,hv,Heap.get?_push_size _ rfl⟩
theorem Inv.fresh (I:Inv X pins σ H s):H s.heap.objs.size=none:=I.hok.fresh (Nat.le_refl _)
theorem Inv.lstM (I:Inv X pins σ H s) (hH:H l=some (.lst xs)):xs.length≤sizeLine∧∃ (its:List Value) (n:Nat),Vals xs its∧xs.length=its.length∧s.heap.get? l=some { cls:=.type "list",data:=.seq its.toArray n }:=by
 obtain ⟨z,its,n,r,e⟩:=I.hok l _ hH
 exact ⟨z,its,n,r,r.length,e⟩
theorem notLongL {n:Nat} (h:n≤sizeLine):Builtin.List.listTooLong n=false:=by
 unfold Builtin.List.listTooLong
 exact decide_eq_false (by omega)
end
section
variable {X:Cx}
def rAppend:V→List V→Hp→VK→Prop:=fun x vs H Q=>∃ l xs y,x=.ref l∧vs=[y]∧H l=some (.lst xs)∧xs.length<sizeLine∧Q .non (upd H l (.lst (xs++[y])))
theorem mt_append:MtM X "list.append" rAppend:=by
 intro pins s σ H x vs v us Q I rx rv h
 obtain ⟨l,xs,y,rfl,rfl,hH,hz,q⟩:=h
 cases rx
 obtain ⟨u,rfl,ru⟩:=rv.one
 obtain ⟨z,its,n,r,hl,e⟩:=I.lstM hH
 refine call_meets F.slot_list_append ⟨_,e,rfl⟩ F.entry_list_append (F.args_list_append_2 _ _) (PySem.list_append l its.toArray n u (by rw [List.size_toArray];omega)) ⟨e,?_⟩
 refine ⟨.non,_,I.lset (its':=its++[u]) hH e (by simp) (r.append (.cons ru .nil)) ?_,rfl,q⟩
 rw [List.length_append,List.length_singleton]
 omega
theorem len_rep {α:Type} (xs:List α) (k:Nat):(List.replicate k xs).flatten.length=k*xs.length:=by
 induction k with
 | zero=>simp
 | succ k ih=>rw [List.replicate_succ,List.flatten_cons,List.length_append,ih,Nat.succ_mul,Nat.add_comm]
end
section
variable {prog:Program} {w:World} {A:Around} {E:Value→Shared→Prop} {s:Shared}
set_option maxRecDepth 100000 in
end
section
variable {X:Cx}
end
end L2
namespace Att
open PySem PySem.W PySem.Calls PyProof.Rows
theorem ints_of_wellAll {P:Params} {h:Heap}:∀ (ns:List Int) (vs:List Value),WellAll P h vs (ns.map WData.int)→IntsAre vs ns:=by
 intro ns
 induction ns with
 | nil =>
  intro vs w
  rw [List.map_nil] at w
  cases w
  exact .nil
 | cons n ns ih =>
  intro vs w
  rw [List.map_cons] at w
  cases w with
  | cons a b =>
   cases a
   exact .cons _ _ (ih _ b)
theorem script_of {l:OpenLaw} {n:Nat} (hn:l.most=some n) {P:Params} {h:Heap} {args:List WData} {vals:List Value}
  (hpre:l.row.toRowW.claim.pre args=true) (hwl:WellAll P h vals args) :
  ∃ a vs ns,vals=[Value.ref a]∧args=[WData.list (ns.map WData.int)]∧h.get? a=some { cls:=.type "list",data:=.seq vs.toArray }∧IntsAre vs ns∧ns.length≤n:=by
 have hsh:WShape.hasAll [] args [.list .int]=true:=(pre_splitW hpre).1
 have hc:l.pre.holds [] { args:=args }=true:=(pre_splitW hpre).2
 obtain ⟨d,r,rfl,h1,h2⟩:=hasAllW_cons hsh
 obtain rfl:=hasAllW_nil h2
 obtain ⟨xs,rfl,h3⟩:=hasW_list h1
 obtain ⟨ns,rfl⟩:=items_int h3
 have hlen:ns.length≤n:=by
  unfold OpenLaw.pre at hc
  have h4:(WTm.not (.lt (.lit (.int (n:Int))) (.len (.arg 0)))).holds [] { args:=[.list (ns.map .int)] }=true:=by
   have h4:=(holds_andW hc).1
   rw [hn] at h4
   exact h4
  have h5:=condW_of h4 (w_not (w_lt w_lit (w_len_list (w_arg rfl))))
  rw [List.length_map] at h5
  refine Nat.le_of_not_lt fun q=>?_
  have q':(n:Int)<((ns.length:Nat):Int):=by omega
  first
   | (rw [decide_eq_true q'] at h5;exact absurd h5 (by decide))
   | (simp at h5;omega)
 cases hwl with
 | cons w1 w2 =>
  cases w2
  cases w1 with
  | list ho hall=>exact ⟨_,_,ns,rfl,rfl,ho,ints_of_wellAll ns _ hall,hlen⟩
theorem post_true (l:OpenLaw) (args:List WData):l.row.toRowW.claim.post args (.bool true) args=true :=
 postW_of (r:=l.row.toRowW) (X:=(true==true))
  (show WShape.has [] (.bool true) .bool=true by first | rfl | decide | simp [WShape.has,WShape.arms,WShape.armsAll])
  (show (WTm.eq .res (.lit (.bool true))).value [] { args:=args,res:=some (.bool true),after:=args }=some (.bool (true==true)) from w_eq_bool (w_res rfl) w_lit) rfl
theorem attach_call {l:OpenLaw} {n:Nat} {q:Program} {loose:List Str} {XP:(Str→Option Value)→Heap→Prop} {YP:World→Heap→Prop} {d:DefRec}
  (hn:l.most=some n) (hdf:d.params.defaults=[])
  (call:∀ (w:World) (s₀ s₁:Shared) (mg mb:Str→Option Value) (fa:Addr) (o:Obj) (pm cd doc:Value) (a:Addr) (vs:List Value) (ns:List Int),
   Ground q loose [] XP w s₀ mg mb s₁.heap→YP w s₁.heap →
   s₁.heap.get? fa=some o→o.data=.func (docDef d.name d.params d.body d.scope pm cd doc)→s₁.heap.CodeRec cd d.name→mg d.name=some (.ref fa) →
   s₁.heap.get? a=some { cls:=.type "list",data:=.seq vs.toArray }→IntsAre vs ns→ns.length≤n→s₁.gens=#[] →
   codeAny (model l.prog w) callerA (.call (.ref fa) ⟨[.ref a],[]⟩) (fun r s'=>r=.ok (.ret (.bool true))∧OldK s₁.heap s'.heap∧s'.os=s₁.os∧AllBare s'.gens) s₁) :
  WalkO q loose XP YP l.row.toRowW d [] (fun f vs=>PySem.call f vs):=by
 intro w s₀ s₁ mg mb G Y fa o pm cd doc dV kV ho hd hcd hD hmg hg args vals as hpre hlay hrd hwl hlo
 obtain rfl:dV=.none:=Dflts.none hD hdf
 obtain rfl:kV=.none:=Dflts.noKw hD
 obtain ⟨a,vs,ns,rfl,rfl,hobj,hints,hlen⟩:=script_of hn hpre hwl
 refine enter_call (codeAny_mono (call w s₀ s₁ mg mb fa o pm cd doc a vs ns G Y ho (fd_plain hd) hcd hmg hobj hints hlen hg) fun r s' hq=>?_)
 obtain ⟨rfl,h2,h3,h4⟩:=hq
 exact ⟨.inl ⟨.bool true,.bool true,[],rfl,fun _=>rfl,.bool true,post_true l _,fun _=>⟨List.Pairwise.nil,fun _ hm=>(nomatch hm)⟩⟩,h2,h3,h4⟩
section
variable {prog:Program} {w:World} {A:Around} {E:Value→Shared→Prop} {s:Shared} {K:Frag}
def ledger (h:Heap) (L d:Addr):List (Addr × Obj):=(List.range h.objs.size).filterMap fun a=>if a=L∨a=d then none else (h.get? a).map fun o=>(a,o)
end
end Att
namespace L2
open PySem PySem.Spec PyProof.Rows
theorem vals_ints:∀ {vs:List Value} {ns:List Int},IntsAre vs ns→Vals (ns.map V.int) vs
 | _,_,.nil=>.nil
 | _,_,.cons n t h=>.cons ⟨t,rfl⟩ (vals_ints h)
end L2
namespace L2
open PySem PySem.Spec PyProof.Rows
abbrev KOf {K:PySem.W.Frag} {h:Heap} (_:K.In h):PySem.W.Frag:=K
end L2
namespace L2
open PySem PySem.Spec PyProof.Rows
def defArgs (s:Stmt):Arguments:=match s with
 | .FunctionDef _ a _ _ _ _ _ _ _ _=>a
 | _=>{ posonlyargs:=[],args:=[],vararg:=none,kwonlyargs:=[],kw_defaults:=[],kwarg:=none,defaults:=[] }
def defBody (s:Stmt):List Stmt:=match s with
 | .FunctionDef _ _ b _ _ _ _ _ _ _=>b
 | _=>[]
def defScope (s:Stmt):Scope:=match s with
 | .FunctionDef _ _ _ _ _ _ sc _ _ _=>sc
 | _=>{ kind:=.function,names:=[],isGenerator:=false,isCoroutine:=false }
abbrev CX0:CXT:=fun _ _ _ _ _ _=>False
abbrev E0:XK:=fun _ _ _=>False
theorem pass0 {X:Cx}:Passes CX0 X E0:=fun _ _ _ _ _ _ _ h=>h.elim
structure Fun (K:PySem.W.Frag) (x qual:Str) (st:Stmt) (f:Addr) (fd:FuncData):Prop where
 ex:∃ (oc:Value) (od:Option Addr) (kV doc pm:Value) (an:Option Addr) (cdv ct:Value) (osl:Array (Option Value)),
  fd=PySem.W.fnOf x qual (defArgs st) (defBody st) (defScope st) .none kV doc pm an cdv ct∧K.lookup f=some ⟨oc,od,.func fd,osl⟩∧PySem.W.codeIn K cdv qual=true
 kp:PySem.W.keepIn K (.ref f)=true
section
variable {P:Program} {w:World} {K:PySem.W.Frag} {mg:Str→Option Value} {base:Heap}
theorem Fun.ok {x qual:Str} {st:Stmt} {f:Addr} {fd:FuncData} {N ps:List Str} {k:Nat} {sp:Sp} (F:Fun K x qual st f fd) (S:FnScope N ps (defScope st)) (len:∀ vs H Q E,sp vs H Q E→vs.length=ps.length)
  (hbody:∀ (cdv:Value) (A:Around) (outer:List Env) (s:Shared) (H:Hp) (vs:List V) (Q:VK) (E:XK),Room k (A.deeper (envOfC qual (defScope st) s.heap.objs.size f cdv))→sp vs H Q E →
   ∃ t,PSs (cxOf CX0 P w K mg base N qual (defScope st) f cdv A outer s H E).nox (defBody st) t∧t { nx:=fun _ H'=>Q .non H',rt:=Q } (start N vs) H):FnOk P w K mg base CX0 (k+1) f fd ps sp:=by
 obtain ⟨oc,od,kV,doc,pm,an,cdv,ct,osl,rfl,lk,hcd⟩:=F.ex
 refine fn_of lk hcd S len fun A outer s H vs Q E hr hsp=>?_
 obtain ⟨t,h,q⟩:=hbody cdv A outer s H vs Q E hr hsp
 exact ⟨t,h.nox,q⟩
theorem Fun.binds {x qual:Str} {st:Stmt} {f:Addr} {fd:FuncData} {ps:List Str} (F:Fun K x qual st f fd)
  (h:∀ (kV doc pm:Value) (an:Option Addr) (cdv ct:Value) (us:List Value),us.length=ps.length→bindArgs (PySem.W.fnOf x qual (defArgs st) (defBody st) (defScope st) .none kV doc pm an cdv ct) ⟨us,[]⟩=pure (ps.zip us)):Binds K fd ps []:=by
 obtain ⟨oc,od,kV,doc,pm,an,cdv,ct,osl,rfl,lk,hcd⟩:=F.ex
 exact .all (h kV doc pm an cdv ct)
theorem fun_mk {x qual:Str} {st:Stmt} {f:Addr} {oc:Value} {od an:Option Addr} {osl:Array (Option Value)} {kV doc pm cdv ct:Value} (l:K.lookup f=some ⟨oc,od,.func (PySem.W.fnOf x qual (defArgs st) (defBody st) (defScope st) .none kV doc pm an cdv ct),osl⟩)
  (c:PySem.W.codeIn K cdv qual=true) (k:PySem.W.keepIn K (.ref f)=true):Fun K x qual st f (PySem.W.fnOf x qual (defArgs st) (defBody st) (defScope st) .none kV doc pm an cdv ct):=⟨⟨oc,od,kV,doc,pm,an,cdv,ct,osl,rfl,l,c⟩,k⟩
end
theorem small1000 {n:Nat} (h:n≤1000):n<sizeLine:=Nat.lt_of_le_of_lt h (by decide)
section
variable {X:Cx}
end
theorem iteF {A B:Prop} (h:B):if false=true then A else B:=by
 rw [if_neg Bool.false_ne_true]
 exact h
theorem iteT {A B:Prop} (h:A):if true=true then A else B:=by
 rw [if_pos rfl]
 exact h
def Same (H H':Hp):Prop:=∀ b o,H b=some o→H' b=some o
theorem Same.refl (H:Hp):Same H H:=fun _ _ h=>h
theorem Same.trans {H H1 H2:Hp} (a:Same H H1) (b:Same H1 H2):Same H H2:=fun c o h=>b c o (a c o h)
theorem Same.free {H H':Hp} (e:Same H H') {l:Addr} (h:H' l=Option.none):H l=Option.none:=by
 cases q:H l with
 | none=>rfl
 | some o =>
  rw [e l o q] at h
  cases h
theorem Same.seq {K:PySem.W.Frag} {H H':Hp} {a:Addr} {xs:List V} (e:Same H H') (h:SqL K H a xs):SqL K H' a xs:=by
 rcases h with (h | ⟨o,h⟩) | h
 ·exact .inl (.inl (e _ _ h))
 ·exact .inl (.inr ⟨o,e _ _ h⟩)
 ·exact .inr h
end L2
end
noncomputable section
namespace Ev
open PySem
inductive T where
 | non | bl (b:Bool) | int (i:Int) | str (x:Str) | tup (xs:List T) | lst (xs:List T)
 deriving Inhabited
inductive Bo where
 | add | sub | mul | fdiv | mod
 deriving DecidableEq
inductive Co where
 | eq | ne | lt | le | gt | ge | isin | notin | isN | notN | isT
 deriving DecidableEq
inductive Ik where
 | plain | range | enum | zip
 deriving DecidableEq
noncomputable def Ik.pair:Ik→Bool
 | .enum=>true
 | .zip=>true
 | _=>false
inductive Ty where
 | tint | tstr | tbool | ttup | tlst
 deriving DecidableEq
inductive Bn where
 | len | toInt | toStr | toList | toTuple | all | any | lenSet | least | most
 deriving DecidableEq
inductive Mt where
 | join | index
 deriving DecidableEq
inductive E where
 | var (i:Nat) | cst (t:T) | glb (x:Str)
 | bin (o:Bo) (a b:E) | cmp (o:Co) (a b:E) | chn (o o':Co) (a b c:E)
 | land (a b:E) | lor (a b:E) | lnot (a:E) | neg (a:E) | ifx (c a b:E) | tru (a:E)
 | tup (es:List E) | lst (es:List E)
 | idx (a b:E) | sli (a:E) (lo hi:Option E)
 | call (f:Str) (es:List E) | blt (f:Bn) (a:E) | isi (a:E) (k:Ty) | mth (m:Mt) (a b:E)
 | comp (elt:E) (n:Nat) (k:Ik) (src:List E) (cond:Option E)
 | fst (es:List E)
 | rev (a:E)
 | dget (kvs:List (Str × Int)) (a:E) (d:Int)
 deriving Inhabited
inductive S where
 | asg (i:Nat) (e:E)
 | unp (is:List Nat) (e:E)
 | app (i:Nat) (e:E)
 | ext (i:Nat) (e:E)
 | ret (e:E)
 | retN
 | ite (c:E) (a b:List S)
 | loop (is:List Nat) (k:Ik) (src:List E) (body:List S)
 | brk | cnt | pass
 deriving Inhabited
abbrev SZ:Nat:=16777216
abbrev Env:=List (Option T)
structure Glo where
 call:Str→List T→Option T
 con:Str→Option T
noncomputable def small (i:Int):Bool:=decide (-18446744073709551616<i)&&decide (i<18446744073709551616)
noncomputable def addT:T→T→Option T
 | .int a,.int b=>some (.int (a+b))
 | .str a,.str b=>if a.length+b.length≤SZ then some (.str (a++b)) else none
 | .lst a,.lst b=>if a.length+b.length≤SZ then some (.lst (a++b)) else none
 | .tup a,.tup b=>if a.length+b.length≤SZ then some (.tup (a++b)) else none
 | _,_=>none
noncomputable def subT:T→T→Option T
 | .int a,.int b=>some (.int (a-b))
 | _,_=>none
noncomputable def mulS (a:Str) (n:Int):Str:=if n=1 then a else ⟨#[]⟩
noncomputable def mulT:T→T→Option T
 | .int a,.int b=>if small a||small b then some (.int (a*b)) else none
 | .str a,.int n=>if n=0∨n=1 then some (.str (mulS a n)) else none
 | .tup xs,.int n=>if 2≤n∧n≤1000∧0<xs.length∧xs.length≤1000 then some (.tup (List.replicate n.toNat xs).flatten) else none
 | .lst xs,.int n=>if 0≤n∧n≤1000∧xs.length≤1000 then some (.lst (List.replicate n.toNat xs).flatten) else none
 | _,_=>none
noncomputable def fdivT:T→T→Option T
 | .int a,.int b=>if 0<b∧b<1073741824 then some (.int (a/b)) else none
 | _,_=>none
noncomputable def modT:T→T→Option T
 | .int a,.int b=>if 0<b then some (.int (a%b)) else none
 | _,_=>none
noncomputable def binT:Bo→T→T→Option T
 | .add=>addT | .sub=>subT | .mul=>mulT | .fdiv=>fdivT | .mod=>modT
mutual
noncomputable def eqT:T→T→Bool
 | .non,.non=>true
 | .bl a,.bl b=>a==b
 | .bl a,.int b=>(if a then 1 else 0)==b
 | .int a,.bl b=>a==(if b then 1 else 0)
 | .int a,.int b=>a==b
 | .str a,.str b=>a==b
 | .tup a,.tup b=>eqTs a b
 | .lst a,.lst b=>eqTs a b
 | _,_=>false
noncomputable def eqTs:List T→List T→Bool
 | [],[]=>true
 | x::xs,y::ys=>eqT x y&&eqTs xs ys
 | _,_=>false
end
mutual
noncomputable def dpP:T→T→Nat
 | .tup a,.tup b=>dpPs a b+1
 | .lst a,.lst b=>dpPs a b+1
 | _,_=>0
noncomputable def dpPs:List T→List T→Nat
 | x::xs,y::ys=>max (dpP x y) (dpPs xs ys)
 | _,_=>0
end
noncomputable def flat:T→Bool
 | .tup _=>false
 | .lst _=>false
 | _=>true
noncomputable def eqC (x y:T):Option T:=if dpP x y≤30 then some (.bl (eqT x y)) else none
noncomputable def neC (x y:T):Option T:=if dpP x y≤30 then some (.bl (!eqT x y)) else none
noncomputable def ltC:T→T→Option T
 | .int a,.int b=>some (.bl (decide (a<b)))
 | .str a,.str b=>some (.bl (decide (a.cps.toList<b.cps.toList)))
 | _,_=>none
noncomputable def leC:T→T→Option T
 | .int a,.int b=>some (.bl (decide (a≤b)))
 | .str a,.str b=>some (.bl (!(decide (b.cps.toList<a.cps.toList))))
 | _,_=>none
noncomputable def seqOf:T→Option (List T)
 | .tup xs=>some xs
 | .lst xs=>some xs
 | _=>none
noncomputable def occ (a b:Str):Bool:=!(PySem.Builtin.Str.occurrences b a 0 b.length 1).isEmpty
noncomputable def inS:T→Str→Option Bool
 | .str a,b=>some (occ a b)
 | _,_=>none
noncomputable def dpI (x:T) (xs:List T):Bool:=xs.all fun z=>decide (dpP z x≤30)
noncomputable def inC (x y:T):Option Bool :=
 match y with
 | .tup xs=>if dpI x xs then some (xs.any fun z=>eqT z x) else none
 | .lst xs=>if dpI x xs then some (xs.any fun z=>eqT z x) else none
 | .str b=>inS x b
 | _=>none
noncomputable def cmpT:Co→T→T→Option T
 | .eq,x,y=>eqC x y
 | .ne,x,y=>neC x y
 | .lt,x,y=>ltC x y
 | .le,x,y=>leC x y
 | .gt,.int a,.int b=>some (.bl (decide (b<a)))
 | .ge,.int a,.int b=>some (.bl (decide (b≤a)))
 | .isin,x,y=>(inC x y).map .bl
 | .notin,x,y=>(inC x y).map fun b=>.bl (!b)
 | .isN,.non,.non=>some (.bl true)
 | .isN,_,.non=>some (.bl false)
 | .notN,.non,.non=>some (.bl false)
 | .notN,_,.non=>some (.bl true)
 | .isT,.bl b,.bl true=>some (.bl b)
 | .isT,.non,.bl true=>some (.bl false)
 | _,_,_=>none
noncomputable def ixI (n:Nat) (i:Int):Option Nat:=if 0≤i then (if i<n then some i.toNat else none) else if -(n:Int)≤i then some (i+n).toNat else none
noncomputable def getI (xs:List T) (i:Int):Option T:=(ixI xs.length i).bind fun j=>xs[j]?
noncomputable def idxS (x:Str) (i:Int):Option T:=if x.length≤SZ then (ixI x.cps.toList.length i).bind fun j=>(x.cps.toList[j]?).map fun c=>.str ⟨#[c]⟩ else none
noncomputable def idxT:T→T→Option T
 | .tup xs,.int i=>getI xs i
 | .lst xs,.int i=>getI xs i
 | .str x,.int i=>idxS x i
 | _,_=>none
noncomputable def clip (n d:Nat):Option Int→Nat
 | none=>d
 | some v=>if v<0 then (v+(n:Int)).toNat else min v.toNat n
noncomputable def cut (xs:List T) (lo hi:Option Int):List T:=(xs.drop (clip xs.length 0 lo)).take (clip xs.length xs.length hi-clip xs.length 0 lo)
noncomputable def sliS (x:Str) (lo hi:Option Int):Str :=
 if ((PySem.Builtin.Str.strSliceIndices lo hi 1 x.length).length==x.length)=true then x else ⟨((PySem.Builtin.Str.strSliceIndices lo hi 1 x.length).filterMap (x.cps[·]?)).toArray⟩
noncomputable def sliT:T→Option Int→Option Int→Option T
 | .tup xs,lo,hi=>some (.tup (cut xs lo hi))
 | .lst xs,lo,hi=>some (.lst (cut xs lo hi))
 | .str x,lo,hi=>if x.length≤SZ then some (.str (sliS x lo hi)) else none
 | _,_,_=>none
noncomputable def truT:T→Option Bool
 | .non=>some false
 | .bl b=>some b
 | .int i=>some (i != 0)
 | .tup xs=>some (!xs.isEmpty)
 | .lst xs=>some (!xs.isEmpty)
 | .str _=>none
noncomputable def txts:List T→Option (List Str)
 | []=>some []
 | .str x::r=>(txts r).map (x::·)
 | _=>none
noncomputable def joinT (sep:Str) (xs:List T):Option T:=do
 let ys ← txts xs
 if sep.length≤16∧(ys.map (·.length)).sum+ys.length≤1048576 then some (.str (Str.join sep ys)) else none
noncomputable def isiT:T→Ty→Bool
 | .int _,.tint=>true
 | .bl _,.tint=>true
 | .bl _,.tbool=>true
 | .str _,.tstr=>true
 | .tup _,.ttup=>true
 | .lst _,.tlst=>true
 | _,_=>false
noncomputable def intsOf:List T→Option (List Int)
 | []=>some []
 | .int i::r=>(intsOf r).map (i::·)
 | _=>none
noncomputable def leastI:List Int→Option T
 | []=>none
 | i::r=>some (.int (r.foldl (fun a b=>if b<a then b else a) i))
noncomputable def mostI:List Int→Option T
 | []=>none
 | i::r=>some (.int (r.foldl (fun a b=>if b>a then b else a) i))
noncomputable def boolsOf:List T→Option (List Bool)
 | []=>some []
 | .bl b::r=>(boolsOf r).map (b::·)
 | _=>none
noncomputable def keyT:T→Bool
 | .str _=>true
 | .int _=>true
 | _=>false
noncomputable def dedT (l:List T) (x:T):List T:=if l.any (fun y=>eqT y x) then l else l++[x]
noncomputable def lenSetT (xs:List T):Option T:=if xs.all keyT&&decide (xs.length≤1000) then some (.int (xs.foldl dedT []).length) else none
noncomputable def bltT:Bn→T→Option T
 | .len,.tup xs=>some (.int xs.length)
 | .len,.lst xs=>some (.int xs.length)
 | .len,.str x=>if x.length≤SZ then some (.int x.length) else none
 | .toInt,.int i=>some (.int i)
 | .toInt,.bl b=>some (.int (if b then 1 else 0))
 | .toStr,.str x=>some (.str x)
 | .toStr,.int i=>if i.natAbs.log2<1920 then some (.str (toString i)) else none
 | .toList,.tup xs=>some (.lst xs)
 | .toList,.lst xs=>some (.lst xs)
 | .toTuple,.tup xs=>some (.tup xs)
 | .toTuple,.lst xs=>some (.tup xs)
 | .least,.lst xs=>(intsOf xs).bind leastI
 | .most,.lst xs=>(intsOf xs).bind mostI
 | .all,.lst xs=>(boolsOf xs).map fun bs=>.bl (bs.all id)
 | .any,.lst xs=>(boolsOf xs).map fun bs=>.bl (bs.any id)
 | .lenSet,.tup xs=>lenSetT xs
 | .lenSet,.lst xs=>lenSetT xs
 | _,_=>none
noncomputable def placeOf (x:T):List T→Option Nat
 | []=>none
 | y::r=>if eqT y x then some 0 else (placeOf x r).map (·+1)
noncomputable def mthT:Mt→T→T→Option T
 | .join,.str sep,.lst xs=>joinT sep xs
 | .join,.str sep,.tup xs=>joinT sep xs
 | .index,.lst xs,y=>if flat y&&xs.all flat then (placeOf y xs).map fun (i:Nat)=>T.int (i:Int) else none
 | _,_,_=>none
noncomputable def enumT:List T→Nat→List T
 | [],_=>[]
 | x::r,i=>.tup [.int i,x]::enumT r (i+1)
noncomputable def zipT:List T→List T→List T
 | x::xs,y::ys=>.tup [x,y]::zipT xs ys
 | _,_=>[]
noncomputable def rangeT (n:Nat):List T:=(List.range n).map fun (i:Nat)=>T.int (i:Int)
noncomputable def ascii (x:Str):Bool:=x.cps.all (·<128)
noncomputable def charsT (x:Str):List T:=x.cps.toList.map fun c=>T.str ⟨#[c]⟩
noncomputable def revT:T→Option T
 | .tup xs=>if xs.length≤1000 then some (.tup xs.reverse) else none
 | _=>none
noncomputable def dgetT (kvs:List (Str × Int)) (d:Int):T→Option T
 | .str x=>some (.int ((kvs.lookup x).getD d))
 | _=>none
noncomputable def items:Ik→List T→Option (List T)
 | .plain,[.tup xs]=>some xs
 | .plain,[.lst xs]=>some xs
 | .range,[.int n]=>if -4611686018427387904≤n∧n<4611686018427387904 then some (rangeT n.toNat) else none
 | .enum,[.tup xs]=>some (enumT xs 0)
 | .enum,[.lst xs]=>some (enumT xs 0)
 | .plain,[.str x]=>if ascii x then some (charsT x) else none
 | .zip,[x,y]=>(seqOf x).bind fun xs=>(seqOf y).bind fun ys=>some (zipT xs ys)
 | _,_=>none
noncomputable def itemsC (k:Ik) (xs:List T):Option (List T):=(items k xs).bind fun its=>if its.length≤SZ then some its else none
noncomputable def bnd (n:Nat) (x:T) (ρ:Env):Option Env :=
 if n=1 then some (some x::ρ) else
  match x with
  | .tup xs=>if xs.length=n then some (xs.map some++ρ) else none
  | _=>none
noncomputable def compM (f:T→Option (Option T)):List T→Option (List T)
 | []=>some []
 | x::xs=>(f x).bind fun r=>(compM f xs).bind fun rs=>match r with
  | none=>some rs
  | some y=>some (y::rs)
noncomputable def fstT:List T→Option T
 | xs=>do
  let ys ← txts xs
  if (ys.map (·.length)).sum≤SZ then some (.str (ys.foldl (·++·) ⟨#[]⟩)) else none
noncomputable def asI:Option T→Option (Option Int)
 | none=>some none
 | some (.int i)=>some (some i)
 | some _=>none
mutual
noncomputable def evE (G:Glo):E→Env→Option T
 | .var i,ρ=>(ρ[i]?).join
 | .cst t,_=>some t
 | .glb x,_=>G.con x
 | .bin o a b,ρ=>(evE G a ρ).bind fun x=>(evE G b ρ).bind fun y=>binT o x y
 | .cmp o a b,ρ=>(evE G a ρ).bind fun x=>(evE G b ρ).bind fun y=>cmpT o x y
 | .chn o o' a b c,ρ=>(evE G a ρ).bind fun x=>(evE G b ρ).bind fun y=>(cmpT o x y).bind fun r=>match r with
  | .bl true=>(evE G c ρ).bind fun z=>cmpT o' y z
  | .bl false=>some (.bl false)
  | _=>none
 | .land a b,ρ=>(evE G a ρ).bind fun x=>match x with
  | .bl true=>evE G b ρ
  | .bl false=>some (.bl false)
  | _=>none
 | .lor a b,ρ=>(evE G a ρ).bind fun x=>match x with
  | .bl true=>some (.bl true)
  | .bl false=>evE G b ρ
  | _=>none
 | .lnot a,ρ=>(evE G a ρ).bind fun x=>match x with
  | .bl b=>some (.bl (!b))
  | _=>none
 | .neg a,ρ=>(evE G a ρ).bind fun x=>match x with
  | .int i=>some (.int (-i))
  | _=>none
 | .ifx c a b,ρ=>(evE G c ρ).bind fun x=>match x with
  | .bl true=>evE G a ρ
  | .bl false=>evE G b ρ
  | _=>none
 | .tru a,ρ=>(evE G a ρ).bind fun x=>(truT x).map .bl
 | .tup es,ρ=>if es.length≤1000 then (evEs G es ρ).map .tup else none
 | .lst es,ρ=>if es.length≤1000 then (evEs G es ρ).map .lst else none
 | .idx a b,ρ=>(evE G a ρ).bind fun x=>(evE G b ρ).bind fun y=>idxT x y
 | .sli a lo hi,ρ=>(evE G a ρ).bind fun x=>(evO G lo ρ).bind fun l=>(evO G hi ρ).bind fun h=>(asI l).bind fun l'=>(asI h).bind fun h'=>sliT x l' h'
 | .call f es,ρ=>(evEs G es ρ).bind fun xs=>G.call f xs
 | .blt f a,ρ=>(evE G a ρ).bind fun x=>bltT f x
 | .isi a k,ρ=>(evE G a ρ).bind fun x=>some (.bl (isiT x k))
 | .mth m a b,ρ=>(evE G a ρ).bind fun x=>(evE G b ρ).bind fun y=>mthT m x y
 | .comp elt n k src cond,ρ=>(evEs G src ρ).bind fun xs=>(itemsC k xs).bind fun its =>
   (compM (fun x=>(bnd n x ρ).bind fun ρ'=>(evO G cond ρ').bind fun c=>match c with
    | none=>(evE G elt ρ').map some
    | some (.bl true)=>(evE G elt ρ').map some
    | some (.bl false)=>some none
    | some _=>none) its).map .lst
 | .fst es,ρ=>(evEs G es ρ).bind fstT
 | .rev a,ρ=>(evE G a ρ).bind revT
 | .dget kvs a d,ρ=>(evE G a ρ).bind (dgetT kvs d)
noncomputable def evEs (G:Glo):List E→Env→Option (List T)
 | [],_=>some []
 | e::es,ρ=>(evE G e ρ).bind fun x=>(evEs G es ρ).bind fun xs=>some (x::xs)
noncomputable def evO (G:Glo):Option E→Env→Option (Option T)
 | none,_=>some none
 | some e,ρ=>(evE G e ρ).map some
end
inductive Sl where
 | no | val (t:T) | own (ts:List T)
 deriving Inhabited
noncomputable def Sl.get:Sl→Option T
 | .val t=>some t
 | _=>none
noncomputable def Sl.frz:Sl→Sl
 | .own ts=>.val (.lst ts)
 | s=>s
inductive Out where
 | nx (τ:List Sl) | rt (t:T) | bk (τ:List Sl) | ct (τ:List Sl)
 deriving Inhabited
noncomputable def view (τ:List Sl):Env:=τ.map Sl.get
noncomputable def frzAt:List Nat→List Sl→List Sl
 | [],τ=>τ
 | i::r,τ=>frzAt r (τ.modify i Sl.frz)
mutual
noncomputable def vars:E→List Nat
 | .var i=>[i]
 | .cst _=>[] | .glb _=>[]
 | .bin _ a b=>vars a++vars b
 | .cmp _ a b=>vars a++vars b
 | .chn _ _ a b c=>vars a++(vars b++vars c)
 | .land a b=>vars a++vars b
 | .lor a b=>vars a++vars b
 | .lnot a=>vars a
 | .neg a=>vars a
 | .ifx c a b=>vars c++(vars a++vars b)
 | .tru a=>vars a
 | .tup es=>varsL es
 | .lst es=>varsL es
 | .idx a b=>vars a++vars b
 | .sli a lo hi=>vars a++(varsO lo++varsO hi)
 | .call _ es=>varsL es
 | .blt _ a=>vars a
 | .isi a _=>vars a
 | .mth _ a b=>vars a++vars b
 | .comp elt n _ src cond=>varsL src++((vars elt++varsO cond).filterMap fun i=>if n≤i then some (i-n) else none)
 | .fst es=>varsL es
 | .rev a=>vars a
 | .dget _ a _=>vars a
noncomputable def varsL:List E→List Nat
 | []=>[]
 | e::es=>vars e++varsL es
noncomputable def varsO:Option E→List Nat
 | none=>[]
 | some e=>vars e
end
noncomputable def fresh:E→Bool
 | .lst _=>true
 | .bin .add _ _=>true
 | _=>false
noncomputable def slotOf (e:E) (t:T):Sl:=match fresh e,t with
 | true,.lst ts=>.own ts
 | _,t=>.val t
noncomputable def setAll:List Nat→List T→List Sl→Option (List Sl)
 | [],[],τ=>some τ
 | i::is,x::xs,τ=>setAll is xs (τ.set i (.val x))
 | _,_,_=>none
noncomputable def bndS (is:List Nat) (x:T) (τ:List Sl):Option (List Sl) :=
 match is,x with
 | [i],x=>some (τ.set i (.val x))
 | is,.tup xs=>setAll is xs τ
 | _,_=>none
noncomputable def loopM (f:T→List Sl→Option Out):List T→List Sl→Option Out
 | [],τ=>some (.nx τ)
 | x::xs,τ=>(f x τ).bind fun o=>match o with
  | .nx τ'=>loopM f xs τ'
  | .ct τ'=>loopM f xs τ'
  | .bk τ'=>some (.nx τ')
  | .rt t=>some (.rt t)
mutual
noncomputable def evS (G:Glo):S→List Sl→Option Out
 | .asg i e,τ=>(evE G e (view (frzAt (vars e) τ))).bind fun t=>some (.nx ((frzAt (vars e) τ).set i (slotOf e t)))
 | .unp is e,τ=>(evE G e (view (frzAt (vars e) τ))).bind fun t=>match t with
  | .tup xs=>(setAll is xs (frzAt (vars e) τ)).map .nx
  | .lst xs=>(setAll is xs (frzAt (vars e) τ)).map .nx
  | _=>none
 | .app i e,τ=>(evE G e (view (frzAt (vars e) τ))).bind fun t=>match (frzAt (vars e) τ)[i]? with
  | some (.own ts)=>if ts.length<SZ then some (.nx ((frzAt (vars e) τ).set i (.own (ts++[t])))) else none
  | _=>none
 | .ext i e,τ=>(evE G e (view (frzAt (vars e) τ))).bind fun t=>match t,(frzAt (vars e) τ)[i]? with
  | .lst us,some (.own ts)=>if ts.length+us.length≤SZ then some (.nx ((frzAt (vars e) τ).set i (.own (ts++us)))) else none
  | _,_=>none
 | .ret e,τ=>(evE G e (view (frzAt (vars e) τ))).map .rt
 | .retN,_=>some (.rt .non)
 | .ite c a b,τ=>(evE G c (view (frzAt (vars c) τ))).bind fun t=>match t with
  | .bl true=>evSs G a (frzAt (vars c) τ)
  | .bl false=>evSs G b (frzAt (vars c) τ)
  | _=>none
 | .loop is k src body,τ=>(evEs G src (view (frzAt (varsL src) τ))).bind fun xs=>(items k xs).bind fun its =>
   loopM (fun x τ=>(bndS is x τ).bind fun τ'=>evSs G body τ') its (frzAt (varsL src) τ)
 | .brk,τ=>some (.bk τ)
 | .cnt,τ=>some (.ct τ)
 | .pass,τ=>some (.nx τ)
noncomputable def evSs (G:Glo):List S→List Sl→Option Out
 | [],τ=>some (.nx τ)
 | s::ss,τ=>(evS G s τ).bind fun o=>match o with
  | .nx τ'=>evSs G ss τ'
  | o=>some o
end
structure Fd where
 np:Nat
 ns:Nat
 body:List S
 deriving Inhabited
noncomputable def begin' (D:Fd) (ts:List T):List Sl:=ts.map .val++List.replicate (D.ns-ts.length) .no
noncomputable def resultOf:Option Out→Option T
 | some (.nx _)=>some .non
 | some (.rt t)=>some t
 | _=>none
structure Pr where
 fn:Str→Option Fd
 con:Str→Option T
noncomputable def glo (P:Pr) (run:Str→List T→Option T):Glo:=⟨run,P.con⟩
noncomputable def run (P:Pr):Nat→Str→List T→Option T
 | 0,_,_=>none
 | n+1,f,ts=>(P.fn f).bind fun D=>if ts.length=D.np then resultOf (evSs (glo P (run P n)) D.body (begin' D ts)) else none
end Ev
end
noncomputable section
namespace Ev
open PySem
noncomputable def nameIx:List Str→Str→Option Nat
 | [],_=>none
 | y::r,x=>if y==x then some 0 else (nameIx r x).map (·+1)
structure Tc where
 sc:Scope
 nm:List Str
noncomputable def visB (sc:Scope) (x:Str):Bool:=match sc.names.lookup x with
 | some .local=>true
 | some .cell=>true
 | some .free=>true
 | _=>false
noncomputable def glB (sc:Scope) (x:Str):Bool:=sc.names.lookup x==some .globalImplicit
noncomputable def plainName (x:Str):Bool:=!(x==("__debug__":Str))&&!(x==("__classdict__":Str))&&!(x==("__name__":Str))&&(!(x==(".0":Str))&&(!(x==(".put":Str))&&!(x==(".lam":Str))))
noncomputable def tyOf (x:Str):Option Ty :=
 if x==("str":Str) then some .tstr else if x==("int":Str) then some .tint else if x==("bool":Str) then some .tbool else if x==("tuple":Str) then some .ttup else if x==("list":Str) then some .tlst else none
noncomputable def bnOf (x:Str):Option Bn :=
 if x==("len":Str) then some .len else if x==("int":Str) then some .toInt else if x==("str":Str) then some .toStr else if x==("list":Str) then some .toList else if x==("tuple":Str) then some .toTuple else if x==("all":Str) then some .all else if x==("any":Str) then some .any else none
noncomputable def mtOf (x:Str):Option Mt:=if x==("join":Str) then some .join else if x==("index":Str) then some .index else none
noncomputable def bnames:List Str:=["len", "int", "str", "list", "tuple", "bool", "isinstance", "range", "enumerate", "zip", "all", "any", "set", "sorted", "min", "max"]
noncomputable def boOf:Operator→Option Bo
 | .Add=>some .add | .Sub=>some .sub | .Mult=>some .mul | .FloorDiv=>some .fdiv | .Mod=>some .mod
 | _=>none
noncomputable def isTrueE:Expr→Bool
 | .Constant (.bool true) _ _=>true
 | _=>false
noncomputable def isNoneE:Expr→Bool
 | .Constant .none _ _=>true
 | _=>false
noncomputable def coOf:CmpOp→Expr→Option Co
 | .Eq,_=>some .eq | .NotEq,_=>some .ne | .Lt,_=>some .lt | .LtE,_=>some .le | .Gt,_=>some .gt | .GtE,_=>some .ge
 | .In,e=>if behindInMarks .In e then none else some .isin
 | .NotIn,e=>if behindInMarks .NotIn e then none else some .notin
 | .Is,e=>if isNoneE e then some .isN else if isTrueE e then some .isT else none
 | .IsNot,e=>if isNoneE e then some .notN else none
noncomputable def coC:CmpOp→Option Co
 | .Eq=>some .eq | .NotEq=>some .ne | .Lt=>some .lt | .LtE=>some .le | .Gt=>some .gt | .GtE=>some .ge
 | _=>none
noncomputable def tgNames:Expr→Option (List Str)
 | .Name x _=>some [x]
 | .Tuple es _ _=>es.mapM fun e=>match e with
  | .Name x _=>some x
  | _=>none
 | _=>none
noncomputable def sliceE:Expr→Bool
 | .Slice ..=>true
 | .Tuple ..=>true
 | .Starred ..=>true
 | _=>false
noncomputable def nodupB:List Str→Bool
 | []=>true
 | x::r=>!r.contains x&&nodupB r
noncomputable def compScope (out sc:Scope) (xs:List Str):Bool :=
 sc.kind==.function&&nodupB xs&&(xs.all fun x=>plainName x&&(sc.names.lookup x==some .local||sc.names.lookup x==some .cell)) &&
 (sc.names.all fun p=>match p.2 with
  | .free=>(sc.names.lookup p.1==some .free)&&(out.names.lookup p.1==some .cell||out.names.lookup p.1==some .free)
  | .local=>(sc.names.lookup p.1==some .local)&&(xs.contains p.1||p.1==(".0":Str))
  | .cell=>(sc.names.lookup p.1==some .cell)&&xs.contains p.1
  | _=>true)
noncomputable def isTupE:Expr→Bool
 | .Tuple ..=>true
 | _=>false
noncomputable def mapO {α β:Type} (f:α→Option β):List α→Option (List β)
 | []=>some []
 | x::r=>(f x).bind fun y=>(mapO f r).bind fun ys=>some (y::ys)
noncomputable def optO {α β:Type} (f:α→Option β):Option α→Option (Option β)
 | none=>some none
 | some x=>(f x).map some
noncomputable def kStr:Option Expr→Option Str
 | some (.Constant (.str k) _ _)=>some k
 | _=>none
noncomputable def vInt:Expr→Option Int
 | .Constant (.int v) _ _=>some v
 | _=>none
noncomputable def dictC:List (Option Expr)→List Expr→Option (List (Str × Int))
 | [a,b,c],[x,y,z]=>(kStr a).bind fun k1=>(kStr b).bind fun k2=>(kStr c).bind fun k3=>(vInt x).bind fun v1=>(vInt y).bind fun v2=>(vInt z).bind fun v3 =>
  if k1==k2||k1==k3||k2==k3 then none else some [(k1,v1),(k2,v2),(k3,v3)]
 | _,_=>none
noncomputable def dgC:Expr→Expr→Option (List (Str × Int) × Int)
 | .Dict ks vs _,.Constant (.int d) _ _=>(dictC ks vs).map fun kvs=>(kvs,d)
 | _,_=>none
noncomputable def revE:Expr→Bool
 | .UnaryOp .USub (.Constant (.int i) _ _) _=>decide (i=1)
 | _=>false
noncomputable def setArg:Bn→Expr→Option Expr
 | .len,.Call (.Name g _) [b] [] _=>if g==("set":Str) then some b else none
 | _,_=>none
inductive Md where
 | val | tst
 deriving DecidableEq
mutual
noncomputable def tr:Nat→Tc→Md→Expr→Option E
 | 0,_,_,_=>none
 | n+1,c,.tst,e=>trT n c e
 | n+1,c,.val,e=>trV n c e
noncomputable def trT:Nat→Tc→Expr→Option E
 | 0,_,_=>none
 | n+1,c,.BoolOp .And [a] _=>trT n c a
 | n+1,c,.BoolOp .And (a::b::r) pos=>(trT n c a).bind fun x=>(trT n c (.BoolOp .And (b::r) pos)).bind fun y=>some (.land x y)
 | n+1,c,.BoolOp .Or [a] _=>trT n c a
 | n+1,c,.BoolOp .Or (a::b::r) pos=>(trT n c a).bind fun x=>(trT n c (.BoolOp .Or (b::r) pos)).bind fun y=>some (.lor x y)
 | n+1,c,.UnaryOp .Not a _=>(trT n c a).bind fun x=>some (.lnot x)
 | n+1,c,.Compare a [op] [b] _=>(coOf op b).bind fun o=>(trV n c a).bind fun x=>(trV n c b).bind fun y=>some (.cmp o x y)
 | n+1,c,.Compare a [op,op'] [b,d] _=>(coC op).bind fun o=>(coC op').bind fun o'=>(trV n c a).bind fun x=>(trV n c b).bind fun y=>(trV n c d).bind fun z=>some (.chn o o' x y z)
 | n+1,c,.Name x pos=>(trV n c (.Name x pos)).bind fun x=>some (.tru x)
 | n+1,c,.Call f es ks pos=>(trV n c (.Call f es ks pos)).bind fun x=>some (.tru x)
 | n+1,c,.Subscript a b pos=>(trV n c (.Subscript a b pos)).bind fun x=>some (.tru x)
 | _,_,_=>none
noncomputable def trV:Nat→Tc→Expr→Option E
 | 0,_,_=>none
 | _+1,_,.Constant .none _ _=>some (.cst .non)
 | _+1,_,.Constant (.bool b) _ _=>some (.cst (.bl b))
 | _+1,_,.Constant (.int i) _ _=>some (.cst (.int i))
 | _+1,_,.Constant (.str x) _ _=>some (.cst (.str x))
 | _+1,c,.Name x _=>if plainName x then (if visB c.sc x then (nameIx c.nm x).map .var else if glB c.sc x&&!bnames.contains x then some (.glb x) else none) else none
 | n+1,c,.BinOp a op b _=>(boOf op).bind fun o=>(trV n c a).bind fun x=>(trV n c b).bind fun y=>some (.bin o x y)
 | n+1,c,.UnaryOp .Not a _=>(trV n c a).bind fun x=>some (.lnot x)
 | n+1,c,.UnaryOp .USub a _=>(trV n c a).bind fun x=>some (.neg x)
 | n+1,c,.BoolOp _ [a] _=>trV n c a
 | n+1,c,.BoolOp .And (a::b::r) pos=>(trV n c a).bind fun x=>(trV n c (.BoolOp .And (b::r) pos)).bind fun y=>some (.land x y)
 | n+1,c,.BoolOp .Or (a::b::r) pos=>(trV n c a).bind fun x=>(trV n c (.BoolOp .Or (b::r) pos)).bind fun y=>some (.lor x y)
 | n+1,c,.Compare a [op] [b] _=>(coOf op b).bind fun o=>(trV n c a).bind fun x=>(trV n c b).bind fun y=>some (.cmp o x y)
 | n+1,c,.Compare a [op,op'] [b,d] _=>(coC op).bind fun o=>(coC op').bind fun o'=>(trV n c a).bind fun x=>(trV n c b).bind fun y=>(trV n c d).bind fun z=>some (.chn o o' x y z)
 | n+1,c,.IfExp t a b _=>(trT n c t).bind fun z=>(trV n c a).bind fun x=>(trV n c b).bind fun y=>some (.ifx z x y)
 | n+1,c,.Tuple es _ _=>(mapO (trV n c) es).bind fun xs=>some (.tup xs)
 | n+1,c,.List es _=>(mapO (trV n c) es).bind fun xs=>some (.lst xs)
 | n+1,c,.Subscript a (.Slice lo hi none _) _=>(trV n c a).bind fun x=>(optO (trV n c) lo).bind fun l=>(optO (trV n c) hi).bind fun h=>some (.sli x l h)
 | n+1,c,.Subscript a (.Slice lo hi (some st) _) _=>if lo.isNone&&hi.isNone&&revE st then (trV n c a).bind fun x=>some (.rev x) else none
 | n+1,c,.Subscript a b _=>if sliceE b then none else (trV n c a).bind fun x=>(trV n c b).bind fun y=>some (.idx x y)
 | n+1,c,.Call (.Name f _) [a,b] [] _ =>
  if f==("isinstance":Str) then
   (match b with
   | .Name ty _=>if glB c.sc f&&glB c.sc ty then (tyOf ty).bind fun k=>(trV n c a).bind fun x=>some (.isi x k) else none
   | _=>none)
  else if glB c.sc f&&plainName f&&!bnames.contains f then (mapO (trV n c) [a,b]).bind fun xs=>some (.call f xs) else none
 | n+1,c,.Call (.Name f _) [a] [] _=>if glB c.sc f&&plainName f then (match bnOf f with
  | some k=>(match setArg k a with
   | some b=>if glB c.sc ("set":Str) then (trV n c b).bind fun x=>some (.blt .lenSet x) else none
   | none=>(trV n c a).bind fun x=>some (.blt k x))
  | none=>if bnames.contains f then none else (trV n c a).bind fun x=>some (.call f [x])) else none
 | n+1,c,.Call (.Name f _) (e::es) [] _=>if glB c.sc f&&plainName f&&!bnames.contains f then (mapO (trV n c) (e::es)).bind fun xs=>some (.call f xs) else none
 | n+1,c,.Call (.Attribute o m apos) [a] [] cpos=>if apos.endLine==cpos.line then (mtOf m).bind fun k=>(trV n c o).bind fun x=>(trV n c a).bind fun y=>some (.mth k x y) else none
 | n+1,c,.Call (.Attribute o m apos) [a,b] [] cpos=>if apos.endLine==cpos.line&&m==("get":Str) then (dgC o b).bind fun p=>(trV n c a).bind fun x=>some (.dget p.1 x p.2) else none
 | n+1,c,.ListComp elt [⟨tg,iter,ifs,0⟩] scope _=>(tgNames tg).bind fun xs=>(trI n c iter).bind fun ki=>if compScope c.sc scope xs&&(!ki.1.pair||isTupE tg)&&(!isTupE tg||decide (2≤xs.length)) then
   (match ifs with
   | []=>(trV n ⟨scope,xs++c.nm⟩ elt).bind fun x=>some (.comp x xs.length ki.1 ki.2 none)
   | [t]=>(trV n ⟨scope,xs++c.nm⟩ elt).bind fun x=>(trT n ⟨scope,xs++c.nm⟩ t).bind fun y=>some (.comp x xs.length ki.1 ki.2 (some y))
   | _=>none) else none
 | _,_,_=>none
noncomputable def trI:Nat→Tc→Expr→Option (Ik × List E)
 | 0,_,_=>none
 | n+1,c,.Call (.Name f p) [a] [] pos=>if f==("range":Str)&&glB c.sc f then (trV n c a).bind fun x=>some (.range,[x])
   else if f==("enumerate":Str)&&glB c.sc f then (trV n c a).bind fun x=>some (.enum,[x])
   else (trV n c (.Call (.Name f p) [a] [] pos)).bind fun x=>some (.plain,[x])
 | n+1,c,.Call (.Name f p) [a,b] [] pos=>if f==("zip":Str)&&glB c.sc f then (trV n c a).bind fun x=>(trV n c b).bind fun y=>some (.zip,[x,y])
   else (trV n c (.Call (.Name f p) [a,b] [] pos)).bind fun x=>some (.plain,[x])
 | n+1,c,e=>(trV n c e).bind fun x=>some (.plain,[x])
noncomputable def trF:Nat→Tc→Expr→Option E
 | 0,_,_=>none
 | n+1,c,.FormattedValue e cv none _=>if cv = -1 then trV n c e else none
 | n+1,c,.Constant (.str x) k pos=>trV n c (.Constant (.str x) k pos)
 | _,_,_=>none
end
noncomputable def litE:Expr→Bool
 | .List ..=>true
 | .BinOp ..=>true
 | _=>false
noncomputable def isCompE:Expr→Bool
 | .ListComp ..=>true
 | _=>false
mutual
noncomputable def trS:Nat→Tc→Stmt→Option S
 | 0,_,_=>none
 | n+1,c,.Assign [.Name x _] e _=>if plainName x&&(c.sc.names.lookup x==some .local||c.sc.names.lookup x==some .cell) then (nameIx c.nm x).bind fun i=>(trV n c e).bind fun y=>if fresh y&&!litE e then none else some (.asg i y) else none
 | n+1,c,.Assign [.Tuple es k tp] e _=>(tgNames (.Tuple es k tp)).bind fun xs=>(mapO (nameIx c.nm) xs).bind fun is=>(trV n c e).bind fun y=>if decide (2≤xs.length)&&nodupB xs&&isCompE e&&(xs.all fun x=>plainName x&&(c.sc.names.lookup x==some .local||c.sc.names.lookup x==some .cell)) then some (.unp is y) else none
 | n+1,c,.Expr (.Call (.Attribute (.Name x _) m apos) [a] [] cpos) _=>if apos.endLine==cpos.line&&visB c.sc x&&plainName x then (nameIx c.nm x).bind fun i=>(trV n c a).bind fun y =>
   (if m==("append":Str) then some (.app i y) else if m==("extend":Str) then some (.ext i y) else none) else none
 | _+1,_,.Expr (.Constant (.str _) _ _) _=>some .pass
 | n+1,c,.Return (some e) _=>(trV n c e).bind fun y=>some (.ret y)
 | _+1,_,.Return none _=>some .retN
 | n+1,c,.If t a b _=>(trT n c t).bind fun z=>(trSs n c a).bind fun x=>(trSs n c b).bind fun y=>some (.ite z x y)
 | n+1,c,.For tg iter body [] _=>(tgNames tg).bind fun xs=>(mapO (nameIx c.nm) xs).bind fun is=>(trI n c iter).bind fun ki=>(trSs n c body).bind fun b=>if (!ki.1.pair||isTupE tg)&&(!isTupE tg||decide (2≤xs.length))&&nodupB xs&&(xs.all fun x=>plainName x&&(c.sc.names.lookup x==some .local||c.sc.names.lookup x==some .cell)) then some (.loop is ki.1 ki.2 b) else none
 | _+1,_,.Break _=>some .brk
 | _+1,_,.Continue _=>some .cnt
 | _+1,_,.Pass _=>some .pass
 | _,_,_=>none
noncomputable def trSs:Nat→Tc→List Stmt→Option (List S)
 | 0,_,_=>none
 | _+1,_,[]=>some []
 | n+1,c,s::ss=>(trS n c s).bind fun x=>(trSs n c ss).bind fun xs=>some (x::xs)
end
noncomputable def fnNames (sc:Scope):List Str:=(sc.names.filter fun p=>p.2==.local||p.2==.cell).map (·.1)
noncomputable def trD:Stmt→Option (Str × Fd)
 | .FunctionDef name args body _ _ _ sc _ _ _=>(trSs 60 ⟨sc,fnNames sc⟩ body).bind fun b=>some (name,⟨args.args.length,(fnNames sc).length,b⟩)
 | _=>none
end Ev
end
noncomputable section
namespace L2
open PySem
def closFrom (env:Env):List (Str × NameKind)→List (Str × Addr)→List (Str × Addr)
 | [],acc=>acc
 | (n,k)::r,acc=>if k==.free then closFrom env r ((n,(env.cells.lookup n).getD 0)::acc) else closFrom env r acc
theorem clos_loop {env:Env} (f:Str × NameKind→List (Str × Addr)→Sem (ForInStep (List (Str × Addr))))
  (hf:∀ n k cs,f (n,k) cs=if k==.free then (do let a ← cellOf env n;pure (ForInStep.yield ((n,a)::cs))) else pure (.yield cs)) :
  ∀ (names:List (Str × NameKind)) (acc:List (Str × Addr)),(∀ y∈names,y.2=.free→∃ c,env.cells.lookup y.1=some c)→(forIn names acc f:Sem _)=pure (closFrom env names acc)
 | [],acc,_=>rfl
 | (n,k)::r,acc,h=>by
  rw [List.forIn_cons,hf]
  unfold closFrom
  by_cases hk:(k==.free)=true
  ·rw [if_pos hk,if_pos hk]
   obtain ⟨c,hc⟩:=h (n,k) List.mem_cons_self (by simpa using hk)
   have e:cellOf env n=pure c:=by unfold cellOf;rw [hc]
   rw [e,hc]
   simp only [pure_bind,Option.getD_some]
   exact clos_loop f hf r _ fun y hy=>h y (List.mem_cons_of_mem _ hy)
  ·rw [if_neg hk,if_neg hk]
   simp only [pure_bind]
   exact clos_loop f hf r _ fun y hy=>h y (List.mem_cons_of_mem _ hy)
theorem closureFor_eq {scope:Scope} {env:Env} (h:∀ y∈scope.names,y.2=.free→∃ c,env.cells.lookup y.1=some c):closureFor scope env=pure (closFrom env scope.names []):=by
 simp only [closureFor]
 rw [clos_loop (env:=env) _ (fun n k cs=>by by_cases hk:(k==NameKind.free)=true<;>simp [hk]) scope.names [] h]
 simp only [pure_bind]
theorem clos_sub {env:Env}:∀ (names:List (Str × NameKind)) (acc:List (Str × Addr)),(∀ x c,acc.lookup x=some c→env.cells.lookup x=some c)→(∀ y∈names,y.2=.free→∃ c,env.cells.lookup y.1=some c) →
  ∀ x c,(closFrom env names acc).lookup x=some c→env.cells.lookup x=some c
 | [],acc,h,_,x,c,e=>h x c e
 | (n,k)::r,acc,h,hn,x,c,e=>by
  unfold closFrom at e
  have hr:∀ y∈r,y.2=.free→∃ c,env.cells.lookup y.1=some c:=fun y hy=>hn y (List.mem_cons_of_mem _ hy)
  by_cases hk:(k==.free)=true
  ·rw [if_pos hk] at e
   obtain ⟨c',hc'⟩:=hn (n,k) List.mem_cons_self (by simpa using hk)
   refine clos_sub r _ (fun x c e=>?_) hr x c e
   rw [List.lookup_cons] at e
   cases hb:x==n with
   | true =>
    rw [hb] at e
    have e':some ((env.cells.lookup n).getD 0)=some c:=e
    rw [hc'] at e'
    cases e'
    rw [beq_iff_eq.mp hb]
    exact hc'
   | false=>rw [hb] at e;exact h x c e
  ·rw [if_neg hk] at e
   exact clos_sub r acc h hr x c e
theorem clos_has {env:Env} {x:Str}:∀ (names:List (Str × NameKind)) (acc:List (Str × Addr)),((x,NameKind.free)∈names∨(acc.lookup x).isSome=true)→((closFrom env names acc).lookup x).isSome=true
 | [],acc,h=>h.elim (fun z=>nomatch z) id
 | (n,k)::r,acc,h=>by
  unfold closFrom
  have up:∀ a:Addr,(acc.lookup x).isSome=true→(List.lookup x ((n,a)::acc)).isSome=true:=fun a z=>by
   rw [List.lookup_cons]
   cases x==n with
   | true=>rfl
   | false=>exact z
  by_cases hk:(k==.free)=true
  ·rw [if_pos hk]
   refine clos_has r _ ?_
   rcases h with h | h
   ·rcases List.mem_cons.mp h with e | e
    ·cases e
     right
     rw [List.lookup_cons,beq_self_eq_true]
     rfl
    ·exact .inl e
   ·exact .inr (up _ h)
  ·rw [if_neg hk]
   refine clos_has r _ ?_
   rcases h with h | h
   ·rcases List.mem_cons.mp h with e | e
    ·cases e
     exact absurd rfl hk
    ·exact .inl e
   ·exact .inr h
theorem clos_get {env:Env} {x:Str} {names:List (Str × NameKind)} (hn:∀ y∈names,y.2=.free→∃ c,env.cells.lookup y.1=some c) (h:(x,NameKind.free)∈names):(closFrom env names []).lookup x=env.cells.lookup x:=by
 obtain ⟨c,hc⟩:=Option.isSome_iff_exists.mp (clos_has (env:=env) names [] (.inl h))
 rw [hc,clos_sub names [] (fun _ _ e=>by cases e) hn x c hc]
theorem cells_app:∀ (names:List (Str × NameKind)) (n:Nat) (acc:List (Str × Addr)),cellsFrom n names acc=cellsFrom n names []++acc
 | [],n,acc=>rfl
 | (x,k)::r,n,acc=>by
  unfold cellsFrom
  by_cases hk:(k==.cell)=true
  ·rw [if_pos hk,if_pos hk,cells_app r (n+1) ((x,n)::acc),cells_app r (n+1) [(x,n)],List.append_assoc]
   rfl
  ·rw [if_neg hk,if_neg hk]
   exact cells_app r n acc
theorem cells_mem {x:Str} {c:Addr}:∀ (names:List (Str × NameKind)) (n:Nat),(x,c)∈cellsFrom n names []→n≤c∧(x,NameKind.cell)∈names
 | [],n,h=>by cases h
 | (y,k)::r,n,h=>by
  unfold cellsFrom at h
  by_cases hk:(k==.cell)=true
  ·rw [if_pos hk,cells_app] at h
   have ek:k=.cell:=by simpa using hk
   rcases List.mem_append.mp h with h | h
   ·obtain ⟨h1,h2⟩:=cells_mem r (n+1) h
    exact ⟨by omega,List.mem_cons_of_mem _ h2⟩
   ·have e:(x,c)=(y,n):=by simpa using h
    cases e
    exact ⟨Nat.le_refl _,by rw [ek];exact List.mem_cons_self⟩
  ·rw [if_neg hk] at h
   obtain ⟨h1,h2⟩:=cells_mem r n h
   exact ⟨h1,List.mem_cons_of_mem _ h2⟩
theorem cells_has {x:Str}:∀ (names:List (Str × NameKind)) (n:Nat) (acc:List (Str × Addr)),((x,NameKind.cell)∈names∨(acc.lookup x).isSome=true)→((cellsFrom n names acc).lookup x).isSome=true
 | [],_,acc,h=>h.elim (fun z=>nomatch z) id
 | (y,k)::r,n,acc,h=>by
  unfold cellsFrom
  by_cases hk:(k==.cell)=true
  ·rw [if_pos hk]
   refine cells_has r _ _ ?_
   rcases h with h | h
   ·rcases List.mem_cons.mp h with e | e
    ·cases e
     right
     rw [List.lookup_cons,beq_self_eq_true]
     rfl
    ·exact .inl e
   ·right
    rw [List.lookup_cons]
    cases x==y with
    | true=>rfl
    | false=>exact h
  ·rw [if_neg hk]
   refine cells_has r _ _ ?_
   rcases h with h | h
   ·rcases List.mem_cons.mp h with e | e
    ·cases e
     exact absurd rfl hk
    ·exact .inl e
   ·exact .inr h
theorem cells_look {x:Str} {c:Addr} {names:List (Str × NameKind)} {n:Nat} {acc:List (Str × Addr)} (h:(cellsFrom n names acc).lookup x=some c) :
  (x,c)∈cellsFrom n names []∨((cellsFrom n names []).lookup x=none∧acc.lookup x=some c):=by
 rw [cells_app,List.lookup_append] at h
 cases e:(cellsFrom n names []).lookup x with
 | none=>rw [e] at h;exact .inr ⟨rfl,by simpa using h⟩
 | some d =>
  rw [e] at h
  have h':some d=some c:=by simpa using h
  cases h'
  exact .inl (mem_of_lookup e)
section
variable {M:Model} {A:Around} {E:Value→Shared→Prop} {s:Shared}
theorem nfe_comp {scope:Scope} {globals:Addr} {cl:List (Str × Addr)} {qual:Str} {env:Env} {Q:Env→Shared→Prop}
  (hQ:Q { scope:=scope,locals:=s.heap.objs.size,globals:=globals,cells:=cellsFrom (s.heap.objs.size+1) scope.names cl,qual:=qual,func:=none,code:=env.code,frame:=env.frame,builtins:=env.builtins }
   { s with heap:=pushCells (s.heap.push { cls:=.type "dict",data:=.dict #[] }) scope.names }) :
  wpAny M A (newFunctionEnv scope globals cl [] qual none .none (some env)) Q E s:=by
 simp only [newFunctionEnv,Option.isSome_some,if_true]
 refine wpAny_bind (wpAny_alloc ?_)
 refine wpAny_bind (wpAny_layCells _ (fun name kind cells=>by cases hkc:kind==NameKind.cell<;>simp []) _ _ _ _ ?_)
 rw [show ({ s with heap:=s.heap.push { cls:=.type "dict",data:=.dict #[] } }:Shared).heap.objs.size=s.heap.objs.size+1 from Heap.size_push ..]
 simp only [List.forIn_nil,pure_bind]
 exact wpAny_pure hQ
end
end L2
end
noncomputable section
namespace Ev
open PySem PySem.Spec PyProof.Rows L2
open AutoSeq1 (wpAny_loadPart')
theorem noFill_tup_mul:fillsNumberSlot (.type "tuple") "mul"=pure false :=
 PySem.fillsNumberSlot_seq (T:="tuple") (id:="tuple.__mul__") (r:=some (.builtin "tuple.__rmul__")) PySem.F.slot_tuple_mul.lookup (by decide +kernel) PySem.F.slot_tuple_rmul.lookup (by decide +kernel)
theorem rep_tup:seqRepeat? (.type "tuple")=pure (some (.builtin "tuple.__mul__")):=by
 unfold seqRepeat?
 have a:=PySem.seqSlot_of (T:="tuple") (name:="__mul__") (id:="tuple.__mul__") PySem.F.slot_tuple_mul.lookup (by decide +kernel)
 have b:=PySem.seqSlot_of (T:="tuple") (name:="__rmul__") (id:="tuple.__rmul__") PySem.F.slot_tuple_rmul.lookup (by decide +kernel)
 rw [a,b]
 rfl
theorem rmul_tup (a:Int) (t:Tok) (l:Addr) (zs:Array Value) (n:Nat) (dd:Option Addr) (sl:Array (Option Value)) :
  Meets (Builtin.«int.__rmul__» ⟨[.int a t,.ref l],[]⟩) (fun _ R s=>s.heap.get? l=some { cls:=.type "tuple",dict:=dd,data:=.seq zs n,slots:=sl }∧R (.ok (.ret Value.notImplemented)) s) :=
 .of_wp fun prog w A R s h=>by
  obtain ⟨hp,g,d,tk,os⟩:=s
  obtain ⟨hl,h⟩:=h
  wp_walk using wpAny_loadPart' hl
  exact ⟨_,rfl,h⟩
theorem mul_tupW (l:Addr) (zs:Array Value) (n:Nat) (dd:Option Addr) (sl:Array (Option Value)) (k:Int) (u:Tok) (h2:2≤k) (hk:k≤1000) (hne:0<zs.size) (hle:zs.size≤1000) :
  Meets (Builtin.«tuple.__mul__» ⟨[.ref l,.int k u],[]⟩) (fun _ R s=>s.heap.get? l=some { cls:=.type "tuple",dict:=dd,data:=.seq zs n,slots:=sl } ∧
   R (.ok (.ret (Value.ref s.heap.objs.size))) { s with heap:=s.heap.push { cls:=Value.type "tuple",data:=Data.seq ((List.replicate k.toNat zs).foldl (·++·) #[]) } }) :=
 .of_wp fun prog w A R s h=>by
  obtain ⟨hp,g,d,tk,os⟩:=s
  obtain ⟨hl,h⟩:=h
  have f1:=AutoSeq1.idx_int
  have c1:¬ (decide (k < -(2 ^ 63))||decide (k≥2 ^ 63))=true:=by simp;omega
  have c2:¬ (zs.isEmpty||k==1)=true:=by
   have:zs.isEmpty=false:=by rw [Array.isEmpty_eq_false_iff];intro e;rw [e] at hne;simp at hne
   rw [this];simp;omega
  have c3:¬ (decide (k≤0)||zs.isEmpty)=true:=by
   have:zs.isEmpty=false:=by rw [Array.isEmpty_eq_false_iff];intro e;rw [e] at hne;simp at hne
   rw [this];simp;omega
  wp_walk using wpAny_loadPart' hl
  rw [if_neg c1]
  wp_walk using wpAny_loadPart' hl
  have c4:¬ ((zs.size:Int)*k>(2 ^ 63-1)/8):=by
   have:(zs.size:Int)*k≤1000*1000:=Int.mul_le_mul (by omega) hk (by omega) (by omega)
   omega
  have c5:¬ Builtin.Tuple.tupleTooMany ((zs.size:Int)*k)=true:=by
   have:(zs.size:Int)*k≤1000*1000:=Int.mul_le_mul (by omega) hk (by omega) (by omega)
   unfold Builtin.Tuple.tupleTooMany
   rw [sizeLine_eq]
   simp
   omega
  rw [if_neg c4]
  wp_walk using wpAny_loadPart' hl
  have hz:(List.foldl (fun x1 x2=>x1++x2) #[] (List.replicate k.toNat zs)).size≤sizeLine:=by
   have e:∀ (m:Nat) (acc:Array Value),(List.foldl (fun x1 x2=>x1++x2) acc (List.replicate m zs)).size=acc.size+m*zs.size:=by
    intro m
    induction m with
    | zero=>intro acc;simp
    | succ m ih=>intro acc;rw [List.replicate_succ,List.foldl_cons,ih,Array.size_append,Nat.succ_mul];omega
   rw [e,sizeLine_eq]
   have:k.toNat*zs.size≤1000*1000:=Nat.mul_le_mul (by omega) hle
   simp
   omega
  refine wpAny_ite_false (decide_eq_false (Nat.not_lt.mpr hz)) ?_
  wp_walk
  exact ⟨_,rfl,h⟩
section
variable {X:Cx}
theorem op_repT:OpR X (binaryOp .Mult) (fun x y H Q=>∃ a k xs,x=.ref a∧y=.int k∧SqT X.K H a xs∧2≤k∧k≤1000∧0<xs.length∧xs.length≤1000∧∀ p,H p=none→Q (.ref p) (upd H p (.tup (List.replicate k.toNat xs).flatten))):=by
 intro pins s σ H x y v u Q I rx ry h
 obtain ⟨a,k,xs,rfl,rfl,ha,k2,k1,l0,l1,q⟩:=h
 cases rx
 obtain ⟨t,rfl⟩:=ry
 obtain ⟨its,r,p,_⟩:=I.tuple ha
 have hlen:=r.length
 obtain ⟨⟨cls,dd,data,sl⟩,ho,hc,n,hd⟩:=id p
 simp only at hc hd
 subst hc hd
 have hnew:List.foldl (fun x1 x2=>x1++x2) #[] (List.replicate k.toNat its.toArray)=(List.replicate k.toNat its).flatten.toArray:=by
  have:=foldl_rep its k.toNat []
  rw [List.nil_append] at this
  exact this
 refine PySem.wpAny_binaryOp_repeat_ref (T:="tuple") (U:="int") (by decide) ⟨_,ho,rfl⟩ (fun s'=>typeIs_int s' k t) noFill_tup_mul PySem.F.fills_int_mul PySem.F.slot_int_rmul rep_tup PySem.F.slot_int_index.lookup
  (call_meets PySem.F.slot_int_rmul (typeIs_int s k t) PySem.F.entry_int_rmul (PySem.F.args_int_rmul_2 _ _) (rmul_tup k t a its.toArray n dd sl)
   ⟨ho,rfl,⟨_,ho,rfl⟩,call_meets PySem.F.slot_tuple_mul ⟨_,ho,rfl⟩ PySem.F.entry_tuple_mul (PySem.F.args_tuple_mul_2 _ _) (mul_tupW a its.toArray n dd sl k t k2 k1 (by rw [List.size_toArray];omega) (by rw [List.size_toArray];omega)) ⟨ho,?_⟩⟩)
 rw [hnew]
 refine ⟨.ref s.heap.objs.size,_,I.laid (t':=s.toks) (o:=.tup (List.replicate k.toNat xs).flatten) (fun b ob q=>Heap.get?_push_of_some _ q) (Nat.le_refl _) ?_,rfl,q _ (I.hok.fresh (Nat.le_refl _))⟩
 refine ⟨?_,_,r.rep k.toNat,IsTup.new _ _⟩
 rw [len_rep,sizeLine_eq]
 have:k.toNat*xs.length≤1000*1000:=Nat.mul_le_mul (by omega) l1
 omega
end
section
variable {prog:Program} {w:World} {A:Around} {E:Value→Shared→Prop} {s:Shared}
theorem fm_congr {α β:Type} {f g:α→Option β}:∀ {l:List α},(∀ a∈l,f a=g a)→l.filterMap f=l.filterMap g
 | [],_=>rfl
 | a::l,h=>by
  rw [List.filterMap_cons,List.filterMap_cons,h a List.mem_cons_self,fm_congr fun b hb=>h b (List.mem_cons_of_mem _ hb)]
theorem pick_rev (zs:Array Value):((List.range zs.size).filterMap fun (k:Nat)=>zs[(((zs.size:Int)-1)+(k:Int)*(-1)).toNat]?).toArray=zs.toList.reverse.toArray:=by
 congr 1
 have e:(List.range zs.size).filterMap (fun (k:Nat)=>zs[(((zs.size:Int)-1)+(k:Int)*(-1)).toNat]?)=(List.range zs.size).filterMap fun k=>zs.toList.reverse[k]?:=by
  apply fm_congr
  intro k hk
  have hk:=List.mem_range.mp hk
  rw [List.getElem?_reverse (by simpa using hk)]
  have:(((zs.size:Int)-1)+(k:Int)*(-1)).toNat=zs.toList.length-1-k:=by simp;omega
  rw [this]
  simp
 rw [e]
 have:∀ (l:List Value),(List.range l.length).filterMap (fun k=>l[k]?)=l:=by
  intro l
  induction l with
  | nil=>rfl
  | cons a l ih =>
   rw [List.length_cons,List.range_succ_eq_map,List.filterMap_cons]
   simp only [List.getElem?_cons_zero,List.filterMap_map,Function.comp_def,List.getElem?_cons_succ]
   rw [ih]
 have h2:=this zs.toList.reverse
 simpa using h2
theorem slice_rev {sl:Addr} {n:Nat} {t:Tok} {Q:Int × Int × Nat→Shared→Prop} (hs:s.heap.IsSliceOf sl .none .none (.int (-1) t)) (h:Q ((n:Int)-1,-1,n) s):wpAny (model prog w) A (Builtin.Slice.sliceApplied (.ref sl) (pure (n:Int))) Q E s:=by
 obtain ⟨os,hos,hcs,hds⟩:=id hs
 unfold Builtin.Slice.sliceApplied Builtin.Slice.sliceFields
 refine wpAny_bind (wpAny_bind (wpAny_field hos hds (x:=.none) rfl (wpAny_bind (wpAny_field hos hds (x:=.none) rfl (wpAny_bind (wpAny_field hos hds (x:=.int (-1) t) rfl (wpAny_pure ?_)))))))
 refine wpAny_bind (slicePart_int ?_)
 show wpAny _ _ (if ((-1:Int)==0)=true then _ else _) _ _ s
 rw [if_neg (by decide)]
 refine wpAny_bind (slicePart_none (wpAny_bind (slicePart_none (wpAny_bind (wpAny_pure ?_)))))
 have e1:Builtin.Slice.sliceAdjust none none (-1) (n:Int)=((n:Int)-1,-1):=rfl
 show wpAny _ _ (match Builtin.Slice.sliceAdjust none none (-1) (n:Int) with | (lo,hi)=>pure (lo,(-1:Int),Builtin.Slice.slicePlaces lo hi (-1))) _ _ s
 rw [e1]
 have e2:Builtin.Slice.slicePlaces ((n:Int)-1) (-1) (-1)=n:=by
  unfold Builtin.Slice.slicePlaces
  have h1:¬ ((-1:Int)>0):=by omega
  simp only [h1,if_false]
  split<;>simp<;>omega
 show wpAny _ _ (pure ((n:Int)-1,(-1:Int),Builtin.Slice.slicePlaces ((n:Int)-1) (-1) (-1))) _ _ s
 rw [e2]
 exact wpAny_pure h
theorem get_rev {t sl:Addr} {zs:Array Value} {tk:Tok} {Q:Value→Shared→Prop} (ht:IsTup s.heap t zs) (hs:s.heap.IsSliceOf sl .none .none (.int (-1) tk)) (hz:zs.size≤sizeLine)
  (h:Q (.ref s.heap.objs.size) { s with heap:=s.heap.push { cls:=.type "tuple",data:=.seq zs.toList.reverse.toArray } }):wpAny (model prog w) A (getItem (.ref t) (.ref sl)) Q E s:=by
 have hok:sizeOk (.seq zs.toList.reverse.toArray):=by
  show zs.toList.reverse.toArray.size≤sizeLine
  rw [List.size_toArray,List.length_reverse,Array.length_toList]
  exact hz
 obtain ⟨os,hos,hcs,hds⟩:=id hs
 have hT:s.TypeIs (.ref sl) "slice":=⟨os,hos,hcs⟩
 unfold getItem
 try with_reducible refine wpAny_holding ?_
 first | refine wpAny_bind (wpAny_pure ?_) | skip
 refine wpAny_bind (wpAny_sequenceKey ht.typeIs (by decide) ?_)
 refine wpAny_bind (wpAny_callSpecial?_slot (name:=Str.ofString "__getitem__") ht.typeIs PyProof.Rows.slot_tuple_getitem (wpAny_call_entry PyProof.Rows.slot_tuple_getitem ht.typeIs PyProof.Rows.entry_tuple_getitem ?_ (PyProof.Rows.args_tuple_getitem _ _)))
 show wpAny _ _ (Builtin.Tuple.tupleItemsOf (.ref t) >>= _) _ _ s
 refine wpAny_bind (tupleItemsOf_ ht ?_)
 refine wpAny_bind (wpAny_typeOf hT ?_)
 rw [if_pos (by decide)]
 refine wpAny_bind (slice_rev hs ?_)
 have hno:¬ (((zs.size:Int)-1==0&&(-1:Int)==1&&zs.size==zs.size)=true):=by simp
 show wpAny _ _ (if ((zs.size:Int)-1==0&&(-1:Int)==1&&zs.size==zs.size)=true then _ else _) _ _ s
 rw [if_neg hno,pick_rev]
 first
  | exact wpAny_bind (m:=Builtin.Tuple.tupleExact _) (wpAny_newObj_type (wpAny_pure ⟨_,rfl,wpAny_pure h⟩) hok)
  | exact wpAny_bind (m:=Builtin.Tuple.tupleExact _) (wpAny_newObj_type (wpAny_bind (wpAny_pure (wpAny_pure ⟨_,rfl,wpAny_pure h⟩))) hok)
  | exact wpAny_bind (wpAny_bind (m:=Builtin.Tuple.tupleExact _) (wpAny_newObj_type (wpAny_pure (wpAny_pure ⟨_,rfl,wpAny_pure h⟩)) hok))
  | exact wpAny_bind (wpAny_bind (m:=Builtin.Tuple.tupleExact _) (wpAny_newObj_type (wpAny_pure ⟨_,rfl,wpAny_pure h⟩) hok))
theorem get_whole {t sl:Addr} {zs:Array Value} {vl vu:Value} {lo hi:Option Int} {Q:Value→Shared→Prop} (ht:IsTup s.heap t zs) (hs:s.heap.IsSliceOf sl vl vu .none) (pl:IsPart vl lo) (pu:IsPart vu hi)
  (hw:HT.sIx zs.size 0 lo=0∧HT.sIx zs.size zs.size hi=zs.size) (h:Q (.ref t) s):wpAny (model prog w) A (getItem (.ref t) (.ref sl)) Q E s:=by
 obtain ⟨os,hos,hcs,hds⟩:=id hs
 have hT:s.TypeIs (.ref sl) "slice":=⟨os,hos,hcs⟩
 unfold getItem
 try with_reducible refine wpAny_holding ?_
 first | refine wpAny_bind (wpAny_pure ?_) | skip
 refine wpAny_bind (wpAny_sequenceKey ht.typeIs (by decide) ?_)
 refine wpAny_bind (wpAny_callSpecial?_slot (name:=Str.ofString "__getitem__") ht.typeIs PyProof.Rows.slot_tuple_getitem (wpAny_call_entry PyProof.Rows.slot_tuple_getitem ht.typeIs PyProof.Rows.entry_tuple_getitem ?_ (PyProof.Rows.args_tuple_getitem _ _)))
 show wpAny _ _ (Builtin.Tuple.tupleItemsOf (.ref t) >>= _) _ _ s
 refine wpAny_bind (tupleItemsOf_ ht ?_)
 refine wpAny_bind (wpAny_typeOf hT ?_)
 rw [if_pos (by decide)]
 refine wpAny_bind (HT.sliceApplied_gen hs pl pu ?_)
 have hyes:(((HT.sIx zs.size 0 lo:Nat):Int)==0&&(1:Int)==1&&(HT.sIx zs.size zs.size hi-HT.sIx zs.size 0 lo)==zs.size)=true:=by
  rw [hw.1,hw.2];simp
 show wpAny _ _ (if (((HT.sIx zs.size 0 lo:Nat):Int)==0&&(1:Int)==1&&(HT.sIx zs.size zs.size hi-HT.sIx zs.size 0 lo)==zs.size)=true then _ else _) _ _ s
 rw [if_pos hyes]
 refine wpAny_bind (show wpAny _ _ (Builtin.Tuple.tupleIsExact (.ref t)) _ _ s from ?_)
 unfold Builtin.Tuple.tupleIsExact
 refine wpAny_bind (wpAny_typeOf ht.typeIs (wpAny_pure ?_))
 simp only [beq_self_eq_true,if_true]
 exact wpAny_bind (wpAny_rule (wpAny_pure ⟨_,rfl,wpAny_pure h⟩))
end
section
variable {X:Cx} {c:Tc} {a:Expr} {pos p2:Pos}
theorem sl_whole:SlR X (fun x lo hi H Q=>∃ a xs,x=.ref a∧SqT X.K H a xs∧(HT.sIx xs.length 0 lo=0∧HT.sIx xs.length xs.length hi=xs.length)∧Q (.ref a) H):=by
 intro pins s σ H x v vl vu lo hi sl Q I rx hs pl pu h
 obtain ⟨a,xs,rfl,hx,hw,q⟩:=h
 cases rx
 obtain ⟨its,r,ht,hz⟩:=I.tuple hx
 have hlen:its.toArray.size=xs.length:=by rw [List.size_toArray];exact r.length.symm
 exact ⟨"tuple",_,PyProof.Rows.slot_tuple_getitem.lookup,ht.typeIs,get_whole ht hs pl pu (by rw [hlen];exact hw) ⟨.ref a,H,I,rfl,q⟩⟩
theorem part_none {u:Value} (h:IsPart u none):u=.none:=by cases h;rfl
theorem part_int {u:Value} {i:Int} (h:IsPart u (some i)):∃ t,u=.int i t:=by cases h;exact ⟨_,rfl⟩
theorem pe_rev {e st:Expr} {te:TE} {tn ts:TO} (he:PE X e te) (hn:PO X none tn) (hs:PO X (some st) ts):PE X (.Subscript e (.Slice none none (some st) p2) pos)
  (fun σ H Q=>te σ H fun x H1=>tn σ H1 fun l H2=>l=none∧tn σ H2 fun u H3=>u=none∧ts σ H3 fun w H4=>w=some (-1)∧∃ b xs,x=.ref b∧SqT X.K H4 b xs∧∀ p,H4 p=none→Q (.ref p) (upd H4 p (.tup xs.reverse))):=by
 intro pins s σ H Q I h
 refine Subscript_ (thn (he pins s σ H _ I h) fun v s1 ⟨x,H1,I1,r1,q1⟩=>?_)
 refine wpAny_Slice (thn (hn pins s1 σ H1 _ I1 q1) fun vl s2 ⟨l,H2,I2,pl,e2,q2⟩=>thn (hn pins s2 σ H2 _ I2 q2) fun vu s3 ⟨u,H3,I3,pu,e3,q3⟩=>thn (hs pins s3 σ H3 _ I3 q3) fun vs s4 ⟨w,H4,I4,ps,e4,q4⟩=>?_)
 subst e2 e3 e4
 have z1:=part_none pl
 have z2:=part_none pu
 obtain ⟨tk,z3⟩:=part_int ps
 subst z1 z2 z3
 obtain ⟨b,xs,rfl,hq,q⟩:=q4
 cases r1
 have I5:Inv X pins σ H4 { s4 with heap:=s4.heap.push { cls:=.type "slice",data:=.fields #[.none,.none,.int (-1) tk] } }:=I4.kept (t':=s4.toks) fun b ob q=>Heap.get?_push_of_some _ q
 obtain ⟨its,r,ht,hz⟩:=I5.tuple hq
 have hg:wpAny (model X.prog X.w) X.A (getItem (.ref b) (.ref s4.heap.objs.size)) (EP X pins σ Q) X.xe { s4 with heap:=s4.heap.push { cls:=.type "slice",data:=.fields #[.none,.none,.int (-1) tk] } }:=by
  refine get_rev ht (Heap.IsSliceOf.new ..) (by rw [List.size_toArray,← r.length];exact hz) ?_
  refine ⟨.ref _,_,I5.laid (o:=.tup xs.reverse) (fun b ob q=>Heap.get?_push_of_some _ q) (Nat.le_refl _) ?_,rfl,q _ (I5.hok.fresh (Nat.le_refl _))⟩
  refine ⟨by rw [List.length_reverse];exact hz,_,?_,IsTup.new _ _⟩
  simpa using r.reverse
 show wpAny (model X.prog X.w) X.A (subscriptTail e (.Slice none none (some st) p2) (.ref b) (.ref s4.heap.objs.size)) (EP X pins σ Q) X.xe { s4 with heap:=s4.heap.push { cls:=.type "slice",data:=.fields #[.none,.none,.int (-1) tk] } }
 exact tail_any (ops:=[.ref b,.ref s4.heap.objs.size]) ht.typeIs PyProof.Rows.slot_tuple_getitem.lookup hg (by with_unfolding_all rfl)
end
def Ls (K:PySem.W.Frag) (H:Hp) (a:Addr) (xs:List V):Prop :=
 Rd H a (.lst xs)∨∃ (its:Array Value) (n:Nat),K.lookup a=some { cls:=.type "list",data:=.seq its n }∧its.size≤sizeLine∧Vals xs its.toList
theorem Ls.of {K:PySem.W.Frag} {H:Hp} {a:Addr} {xs:List V} (h:H a=some (.lst xs)):Ls K H a xs:=.inl (.inl h)
theorem Ls.sq {K:PySem.W.Frag} {H:Hp} {a:Addr} {xs:List V} (h:Ls K H a xs):SqL K H a xs:=by
 rcases h with h | ⟨its,n,h1,h2,h3⟩
 ·exact .inl h
 ·exact .inr ⟨_,its,n,h1,rfl,rfl,rfl,h2,h3⟩
theorem Ls.ok {X:Cx} {pins:List (Addr × Obj)} {σ:L2.St} {H:Hp} {s:Shared} {a:Addr} {xs:List V} (h:Ls X.K H a xs) (I:Inv X pins σ H s) :
  xs.length≤sizeLine∧∃ (its:List Value) (n:Nat),Vals xs its∧s.heap.get? a=some { cls:=.type "list",data:=.seq its.toArray n }:=by
 rcases h with h | ⟨its,n,h1,h2,h3⟩
 ·obtain ⟨z,its,n,r,e⟩:=h.ok I.hok
  exact ⟨z,its,n,r,e⟩
 ·exact ⟨by rw [h3.length,Array.length_toList];exact h2,its.toList,n,h3,by rw [Array.toArray_toList];exact I.kIn a _ h1⟩
mutual
def Rep (K:PySem.W.Frag) (F:Hp):T→V→Prop
 | .non,v=>v=.non
 | .bl b,v=>v=.bl b
 | .int i,v=>v=.int i
 | .str x,v=>v=.str x
 | .tup ts,v=>∃ a vs,v=.ref a∧SqT K F a vs∧Reps K F ts vs
 | .lst ts,v=>∃ a vs,v=.ref a∧Ls K F a vs∧Reps K F ts vs
def Reps (K:PySem.W.Frag) (F:Hp):List T→List V→Prop
 | [],vs=>vs=[]
 | t::ts,vs=>∃ v r,vs=v::r∧Rep K F t v∧Reps K F ts r
end
theorem same_rd {F F':Hp} {a:Addr} {o:HO} (e:Same F F') (h:Rd F a o):Rd F' a o:=by
 rcases h with h | ⟨b,h⟩
 ·exact .inl (e _ _ h)
 ·exact .inr ⟨b,e _ _ h⟩
theorem Ls.same {K:PySem.W.Frag} {F F':Hp} {a:Addr} {xs:List V} (e:Same F F') (h:Ls K F a xs):Ls K F' a xs:=by
 rcases h with h | h
 ·exact .inl (same_rd e h)
 ·exact .inr h
theorem same_tup {K:PySem.W.Frag} {F F':Hp} {a:Addr} {xs:List V} (e:Same F F') (h:SqT K F a xs):SqT K F' a xs:=by
 rcases h with h | h
 ·exact .inl (same_rd e h)
 ·exact .inr h
mutual
theorem Rep.mono {K:PySem.W.Frag} {F F':Hp} (e:Same F F'):∀ {t:T} {v:V},Rep K F t v→Rep K F' t v
 | .non,_,h=>h
 | .bl _,_,h=>h
 | .int _,_,h=>h
 | .str _,_,h=>h
 | .tup _,_,h=>by
  obtain ⟨a,vs,h1,h2,h3⟩:=h
  exact ⟨a,vs,h1,same_tup e h2,Reps.mono e h3⟩
 | .lst _,_,h=>by
  obtain ⟨a,vs,h1,h2,h3⟩:=h
  exact ⟨a,vs,h1,Ls.same e h2,Reps.mono e h3⟩
theorem Reps.mono {K:PySem.W.Frag} {F F':Hp} (e:Same F F'):∀ {ts:List T} {vs:List V},Reps K F ts vs→Reps K F' ts vs
 | [],_,h=>h
 | _::_,_,h=>by
  obtain ⟨v,r,h1,h2,h3⟩:=h
  exact ⟨v,r,h1,Rep.mono e h2,Reps.mono e h3⟩
end
theorem Reps.length {K:PySem.W.Frag} {F:Hp}:∀ {ts:List T} {vs:List V},Reps K F ts vs→vs.length=ts.length
 | [],_,h=>by cases h;rfl
 | _::_,_,h=>by
  obtain ⟨v,r,rfl,_,h3⟩:=h
  simp [Reps.length h3]
theorem Reps.cons {K:PySem.W.Frag} {F:Hp} {t:T} {v:V} {ts:List T} {vs:List V} (h:Rep K F t v) (r:Reps K F ts vs):Reps K F (t::ts) (v::vs):=⟨v,vs,rfl,h,r⟩
theorem Reps.app {K:PySem.W.Frag} {F:Hp}:∀ {ts us:List T} {vs ws:List V},Reps K F ts vs→Reps K F us ws→Reps K F (ts++us) (vs++ws)
 | [],_,_,_,h,r=>by cases h;exact r
 | _::_,_,_,_,h,r=>by
  obtain ⟨v,q,rfl,h2,h3⟩:=h
  exact ⟨v,_,rfl,h2,Reps.app h3 r⟩
theorem Reps.drop {K:PySem.W.Frag} {F:Hp}:∀ (n:Nat) {ts:List T} {vs:List V},Reps K F ts vs→Reps K F (ts.drop n) (vs.drop n)
 | 0,_,_,h=>h
 | _+1,[],_,h=>by cases h;exact rfl
 | n+1,_::_,_,h=>by
  obtain ⟨v,q,rfl,h2,h3⟩:=h
  exact Reps.drop n h3
theorem Reps.take {K:PySem.W.Frag} {F:Hp}:∀ (n:Nat) {ts:List T} {vs:List V},Reps K F ts vs→Reps K F (ts.take n) (vs.take n)
 | 0,_,_,_=>rfl
 | _+1,[],_,h=>by cases h;exact rfl
 | n+1,_::_,_,h=>by
  obtain ⟨v,q,rfl,h2,h3⟩:=h
  exact ⟨v,_,rfl,h2,Reps.take n h3⟩
theorem Reps.get {K:PySem.W.Frag} {F:Hp}:∀ {ts:List T} {vs:List V} {i:Nat} {t:T},Reps K F ts vs→ts[i]?=some t→∃ v,vs[i]?=some v∧Rep K F t v
 | [],_,_,_,_,e=>by simp at e
 | _::_,_,0,_,h,e=>by
  obtain ⟨v,q,rfl,h2,h3⟩:=h
  simp at e;subst e
  exact ⟨v,rfl,h2⟩
 | _::_,_,i+1,t,h,e=>by
  obtain ⟨v,q,rfl,h2,h3⟩:=h
  obtain ⟨w,h4,h5⟩:=Reps.get (i:=i) (t:=t) h3 (by simpa using e)
  exact ⟨w,by simpa using h4,h5⟩
def isTbl:HO→Bool
 | .tbl _=>true
 | _=>false
def lamQ:Str:="_law_spoilt.<locals>.<lambda>"
def CdAt (H:Hp) (cv:Value):Prop:=∃ a oc vs t,cv=.ref a∧H a=some (.frz oc (.own 0))∧oc.data=.fields vs∧vs[1]?=some (.str lamQ t)
def TbAt (H:Hp) (b:Addr):Prop:=∃ ps:Array Value,H b=some (.tbl ps)∧TriplesOk ps.toList∧∀ pos cv,codeAmong pos ps.toList=some cv→CdAt H cv
theorem CdAt.up {H H':Hp} {cv:Value} (h:CdAt H cv) (k:∀ a o u,H a=some (.frz o u)→H' a=some (.frz o u)):CdAt H' cv:=by
 obtain ⟨a,oc,vs,t,h1,h2,h3,h4⟩:=h
 exact ⟨a,oc,vs,t,h1,k _ _ _ h2,h3,h4⟩
theorem TbAt.up {H H':Hp} {b:Addr} (h:TbAt H b) (k:∀ a o u,H a=some (.frz o u)→H' a=some (.frz o u)) (kt:∀ a ps,H a=some (.tbl ps)→H' a=some (.tbl ps)):TbAt H' b:=by
 obtain ⟨ps,h1,h2,h3⟩:=h
 exact ⟨ps,kt _ _ h1,h2,fun pos cv e=>(h3 pos cv e).up k⟩
structure SameT (H H':Hp):Prop where
 st:∀ b u,H b=some u→isTbl u=false→H' b=some u
 fr:∀ b,H' b=none→H b=none
 tb:∀ b,TbAt H b→TbAt H' b
theorem sameT {H H':Hp} (e:Same H H'):SameT H H':=⟨fun b u h _=>e b u h,fun _ h=>e.free h,fun _ h=>h.up (fun a o u q=>e a _ q) fun a ps q=>e a _ q⟩
theorem SameT.refl (H:Hp):SameT H H:=sameT (Same.refl H)
theorem SameT.free {H H':Hp} (e:SameT H H') {l:Addr} (h:H' l=none):H l=none:=e.fr l h
theorem SameT.trans {H H1 H2:Hp} (a:SameT H H1) (b:SameT H1 H2):SameT H H2:=⟨fun c u h q=>b.st c u (a.st c u h q) q,fun c h=>a.fr c (b.fr c h),fun c h=>b.tb c (a.tb c h)⟩
theorem SameT.upd {H H1:Hp} {a:Addr} {vs:List V} {o:HO} (e:SameT H H1) (h0:H a=none) (h1:H1 a=some (.lst vs)):SameT H (upd H1 a o):=by
 refine ⟨fun b u h q=>?_,fun b h=>?_,fun b h=>?_⟩
 ·rw [upd_ne (ne_of_none h h0)];exact e.st b u h q
 ·by_cases hb:b=a
  ·subst hb;exact h0
  ·rw [upd_ne hb] at h;exact e.fr b h
 ·refine (e.tb b h).up (fun c p u q=>?_) fun c ps q=>?_
  ·rw [upd_ne (ne_of q h1 (by intro z;cases z))];exact q
  ·rw [upd_ne (ne_of q h1 (by intro z;cases z))];exact q
def fnCode:Option Obj→Option Addr
 | some ⟨_,_,.func fd,_⟩=>(match fd.code with | .ref c=>some c | _=>none)
 | _=>none
def fldAt (i:Nat):Option Obj→Option Addr
 | some ⟨_,_,.fields vs,_⟩=>(match vs.getD i .none with | .ref c=>some c | _=>none)
 | _=>none
def nsRef:Option (Option Value)→Option Addr
 | some (some (.ref f))=>some f
 | _=>none
def tabOf (K:PySem.W.Frag):Option Addr:=(nsRef (PySem.W.nsIn K mainGlobals "_law_spoilt")).bind fun f=>(fnCode (K.lookup f)).bind fun c=>fldAt 11 (K.lookup c)
structure Step (F H F' H':Hp):Prop where
 hh:SameT H H'
 ff:Same F F'
 fh:Same F' H'
 nw:∀ a,F' a≠none→F a≠none∨H a=none
theorem Step.refl {F H:Hp} (h:Same F H):Step F H F H:=⟨SameT.refl H,Same.refl F,h,fun _ z=>.inl z⟩
def Tbk (K:PySem.W.Frag) (F H:Hp):Prop:=∀ p,tabOf K=some p→F p=none∧TbAt H p
theorem Tbk.up {K:PySem.W.Frag} {F H F' H':Hp} (h:Tbk K F H) (S:Step F H F' H'):Tbk K F' H':=fun p q=>by
 obtain ⟨h1,h2⟩:=h p q
 refine ⟨?_,S.hh.tb p h2⟩
 cases e:F' p with
 | none=>rfl
 | some v =>
  rcases S.nw p (by rw [e];simp) with z | z
  ·exact absurd h1 z
  ·obtain ⟨ps,h3,_⟩:=h2;rw [h3] at z;cases z
theorem Step.trans {F H F1 H1 F2 H2:Hp} (a:Step F H F1 H1) (b:Step F1 H1 F2 H2):Step F H F2 H2 :=
 ⟨a.hh.trans b.hh,a.ff.trans b.ff,b.fh,fun x z=>(b.nw x z).elim (fun q=>a.nw x q) fun q=>.inr (a.hh.free q)⟩
theorem same_upd {F H:Hp} {p:Addr} {o:HO} (h:Same F H):Same (upd F p o) (upd H p o):=fun b u e=>by
 by_cases hb:b=p
 ·subst hb;rw [upd_same] at e ⊢;exact e
 ·rw [upd_ne hb] at e ⊢;exact h b u e
theorem same_new {H:Hp} {p:Addr} {o:HO} (h:H p=none):Same H (upd H p o):=fun b u e=>by
 rw [upd_ne (ne_of_none e h)];exact e
theorem Step.new {F H F1 H1:Hp} {p:Addr} {o:HO} (a:Step F H F1 H1) (h:H1 p=none):Step F H (upd F1 p o) (upd H1 p o) :=
 ⟨a.hh.trans (sameT (same_new h)),a.ff.trans (same_new (a.fh.free h)),same_upd a.fh,fun x z=>by
  by_cases hx:x=p
  ·subst hx;exact .inr (a.hh.free h)
  ·rw [upd_ne hx] at z;exact a.nw x z⟩
theorem Step.newH {F H F1 H1:Hp} {p:Addr} {o:HO} (a:Step F H F1 H1) (h:H1 p=none):Step F H F1 (upd H1 p o) :=
 ⟨a.hh.trans (sameT (same_new h)),a.ff,a.fh.trans (same_new h),a.nw⟩
structure EnvE (X:Cx) (c:Tc) (r:Env) (F:Hp) (σ:L2.St) (H:Hp):Prop where
 fh:Same F H
 tb:Tbk X.K F H
 get:∀ (x:Str) (i:Nat) (t:T),plainName x=true→nameIx c.nm x=some i→visB c.sc x=true→r[i]?=some (some t)→∃ (j:Nat) (v:V),X.N[j]?=some x∧σ[j]?=some (some v)∧Rep X.K F t v
theorem EnvE.step {X:Cx} {c:Tc} {r:Env} {F F':Hp} {σ:L2.St} {H H':Hp} (e:EnvE X c r F σ H) (s:Step F H F' H'):EnvE X c r F' σ H' :=
 ⟨s.fh,e.tb.up s,fun x i t pn a b d=>let ⟨j,v,h1,h2,h3⟩:=e.get x i t pn a b d;⟨j,v,h1,h2,h3.mono s.ff⟩⟩
def spT (K:PySem.W.Frag) (g:List T→Option T):Sp:=fun vs H Q _=>∃ F ts t,Same F H∧Tbk K F H∧Reps K F ts vs∧g ts=some t∧∀ v F' H',Step F H F' H'→Rep K F' t v→Q v H'
def plainF (f:Str):Bool:=!(f==(".put":Str))&&!(f==(".lam":Str))
structure Gd (X:Cx) (c:Tc) (G:Glo) (k:Nat):Prop where
 room:Room k X.A
 calm:X.calm=true
 nob:∀ x∈bnames,X.mg x=none
 call:∀ f ts t,plainF f=true→G.call f ts=some t→∃ (a:Addr) (fd:FuncData) (ps:List Str),FnOk X.prog X.w X.K X.mg X.base CX0 k a fd ps (spT X.K (G.call f))∧X.mg f=some (.ref a)∧PySem.W.keepIn X.K (.ref a)=true∧Binds X.K fd ps []
 con:∀ x t,G.con x=some t→∃ u v,X.mg x=some u∧RelV v u∧∀ F,Rep X.K F t v
 vis:∀ x,visB c.sc x=true→Vis X.env.scope x
 gl:∀ x,glB c.sc x=true→Gl X x
 cap:∀ x,(c.sc.names.lookup x=some .cell∨c.sc.names.lookup x=some .free)→(X.env.kindOf x=some .cell∨X.env.kindOf x=some .free)
 nd:X.N.Nodup
def spE (X:Cx) (c:Tc) (f:Env→Option T):TE:=fun σ H Q=>∃ r F t,EnvE X c r F σ H∧f r=some t∧∀ v F' H',Step F H F' H'→Rep X.K F' t v→Q v H'
def spB (X:Cx) (c:Tc) (f:Env→Option T):TT:=fun σ H Q=>∃ r F b,EnvE X c r F σ H∧f r=some (.bl b)∧∀ F' H',Step F H F' H'→Q b H'
def spL (X:Cx) (c:Tc) (f:Env→Option (List T)):TA:=fun σ H Q=>∃ r F ts,EnvE X c r F σ H∧f r=some ts∧∀ vs F' H',Step F H F' H'→Reps X.K F' ts vs→Q vs H'
abbrev Oke (X:Cx) (c:Tc) (e:Expr) (f:Env→Option T):Prop:=PE X e (spE X c f)
abbrev Okt (X:Cx) (c:Tc) (e:Expr) (f:Env→Option T):Prop:=PT X e (spB X c f)
theorem pe_mono {X:Cx} {e:Expr} {t t':TE} (h:PE X e t) (m:∀ σ H Q,t' σ H Q→t σ H Q):PE X e t':=fun pins s σ H Q I q=>h pins s σ H Q I (m σ H Q q)
theorem pt_mono {X:Cx} {e:Expr} {t t':TT} (h:PT X e t) (m:∀ σ H Q,t' σ H Q→t σ H Q):PT X e t':=fun pins s σ H Q I q=>h pins s σ H Q I (m σ H Q q)
theorem pw_mono {X:Cx} {e:Expr} {t t':TT} (h:PW X e t) (m:∀ σ H Q,t' σ H Q→t σ H Q):PW X e t':=fun wh pins s σ H Q I q=>h wh pins s σ H Q I (m σ H Q q)
theorem ps_mono {X:Cx} {e:Stmt} {t t':TS} (h:PS X e t) (m:∀ D σ H,t' D σ H→t D σ H):PS X e t':=fun pins s σ H D I q=>h pins s σ H D I (m D σ H q)
theorem pss_mono {X:Cx} {e:List Stmt} {t t':TS} (h:PSs X e t) (m:∀ D σ H,t' D σ H→t D σ H):PSs X e t':=fun pins s σ H D I q=>h pins s σ H D I (m D σ H q)
def OpS (X:Cx) (f:Value→Value→Sem Value) (g:T→T→Option T):Prop :=
 OpR X f (fun x y H Q=>∃ F t1 t2 t,Same F H∧Rep X.K F t1 x∧Rep X.K F t2 y∧g t1 t2=some t∧∀ v F' H',Step F H F' H'→Rep X.K F' t v→Q v H')
section
variable {X:Cx} {c:Tc} {a b:Expr} {pos:Pos}
theorem ok_op {op:Operator} {f g:Env→Option T} {h:T→T→Option T} (ho:OpS X (binaryOp op) h) (ha:Oke X c a f) (hb:Oke X c b g):Oke X c (.BinOp a op b pos) (fun r=>(f r).bind fun x=>(g r).bind fun y=>h x y):=by
 refine pe_mono (pe_op ho ha hb) fun σ H Q q=>?_
 obtain ⟨r,F,t,e,ht,q⟩:=q
 obtain ⟨t1,e1,ht⟩:=obs ht
 obtain ⟨t2,e2,ht⟩:=obs ht
 refine ⟨r,F,t1,e,e1,fun v1 F1 H1 s1 r1=>⟨r,F1,t2,e.step s1,e2,fun v2 F2 H2 s2 r2=>?_⟩⟩
 exact ⟨F2,t1,t2,t,s2.fh,r1.mono s2.ff,r2,ht,fun v F' H' s3 r3=>q v F' H' (s1.trans (s2.trans s3)) r3⟩
theorem ok_cmp {op:CmpOp} {f g:Env→Option T} {h:T→T→Option T} (ho:OpS X (compareOp op) h) (ha:Oke X c a f) (hb:Oke X c b g) (hm:behindInMarks op b=false):Oke X c (.Compare a [op] [b] pos) (fun r=>(f r).bind fun x=>(g r).bind fun y=>h x y):=by
 refine pe_mono (pe_cmpR ho ha hb hm) fun σ H Q q=>?_
 obtain ⟨r,F,t,e,ht,q⟩:=q
 obtain ⟨t1,e1,ht⟩:=obs ht
 obtain ⟨t2,e2,ht⟩:=obs ht
 refine ⟨r,F,t1,e,e1,fun v1 F1 H1 s1 r1=>⟨r,F1,t2,e.step s1,e2,fun v2 F2 H2 s2 r2=>?_⟩⟩
 exact ⟨F2,t1,t2,t,s2.fh,r1.mono s2.ff,r2,ht,fun v F' H' s3 r3=>q v F' H' (s1.trans (s2.trans s3)) r3⟩
theorem ok_cmpT {op:CmpOp} {f g:Env→Option T} {h:T→T→Option T} (ho:OpS X (compareOp op) h) (ha:Oke X c a f) (hb:Oke X c b g) (hm:behindInMarks op b=false):Okt X c (.Compare a [op] [b] pos) (fun r=>(f r).bind fun x=>(g r).bind fun y=>h x y):=by
 refine pt_mono (pt_cmpR ho ha hb hm) fun σ H Q q=>?_
 obtain ⟨r,F,k,e,ht,q⟩:=q
 obtain ⟨t1,e1,ht⟩:=obs ht
 obtain ⟨t2,e2,ht⟩:=obs ht
 refine ⟨r,F,t1,e,e1,fun v1 F1 H1 s1 r1=>⟨r,F1,t2,e.step s1,e2,fun v2 F2 H2 s2 r2=>?_⟩⟩
 exact ⟨F2,t1,t2,_,s2.fh,r1.mono s2.ff,r2,ht,fun v F' H' s3 r3=>⟨k,r3,q F' H' (s1.trans (s2.trans s3))⟩⟩
end
theorem sz_eq:SZ=sizeLine:=sizeLine_eq.symm
section
variable {X:Cx}
theorem op_cat':OpR X (binaryOp .Add) (fun x y H Q=>∃ l b xs zs,x=.ref l∧y=.ref b∧Ls X.K H l xs∧Ls X.K H b zs∧xs.length+zs.length≤sizeLine∧∀ p,H p=none→Q (.ref p) (upd H p (.lst (xs++zs)))):=by
 intro pins s σ H x y v u Q I rx ry h
 obtain ⟨l,b,xs,zs,rfl,rfl,hH,hB,hz,q⟩:=h
 cases rx
 cases ry
 obtain ⟨z,its,n,r,e⟩:=hH.ok I
 obtain ⟨z2,its2,n2,r2,e2⟩:=hB.ok I
 have hl:=r.length
 have hl2:=r2.length
 refine PySem.P.add_list e e2 ?_ (by rw [List.size_toArray,List.size_toArray];omega)
 have ea:its.toArray++its2.toArray=(its++its2).toArray:=by simp
 rw [ea]
 exact ⟨.ref _,_,I.lnew (t':=s.toks) (r.append r2) (by rw [List.length_append];omega),rfl,q _ I.fresh⟩
theorem op_catT':OpR X (binaryOp .Add) (fun x y H Q=>∃ a b xs ys,x=.ref a∧y=.ref b∧SqT X.K H a xs∧SqT X.K H b ys∧xs.length+ys.length≤sizeLine ∧
  (xs=[]→Q (.ref b) H)∧(xs≠[]→ys=[]→Q (.ref a) H)∧(xs≠[]→ys≠[]→∀ p,H p=none→Q (.ref p) (upd H p (.tup (xs++ys))))):=by
 intro pins s σ H x y v u Q I rx ry h
 obtain ⟨a,b,xs,ys,rfl,rfl,ha,hb,hz,q0,q1,q2⟩:=h
 cases rx
 cases ry
 obtain ⟨its,r,ht,_⟩:=I.tuple ha
 obtain ⟨its2,r2,ht2,_⟩:=I.tuple hb
 have hl:=r.length
 have hl2:=r2.length
 by_cases hx:xs=[]
 ·subst hx
  have hi:its=[]:=by
   cases its with
   | nil=>rfl
   | cons _ _=>simp at hl
  subst hi
  obtain ⟨⟨cls,dd,data,sl⟩,ho,hc,n,hd⟩:=id ht
  obtain ⟨⟨cls2,dd2,data2,sl2⟩,ho2,hc2,n2,hd2⟩:=id ht2
  simp only at hc hd hc2 hd2
  subst hc hd hc2 hd2
  exact concat_meets ⟨_,ho,rfl⟩ ⟨_,ho2,rfl⟩ noFill_tuple_add seq_tuple_add PySem.F.slot_tuple_add PySem.F.entry_tuple_add (PySem.F.args_tuple_add_2 _ _)
   (tuple_addW0 a b _ _ n n2 dd dd2 sl sl2 (by simp)) ⟨ho,ho2,⟨.ref b,H,I.tok _,rfl,q0 rfl⟩⟩
 ·refine HT.cat_tup ht ht2 (by intro z;subst z;exact hx (by cases xs with | nil=>rfl | cons _ _=>simp at hl)) (fun hw=>?_) (fun hw=>?_) (by omega)
  ·have hy:ys=[]:=by subst hw;cases ys with | nil=>rfl | cons _ _=>simp at hl2
   exact ⟨.ref a,H,I,rfl,q1 hx hy⟩
  ·have hy:ys≠[]:=by intro z;subst z;exact hw (by cases its2 with | nil=>rfl | cons _ _=>simp at hl2)
   exact ⟨.ref _,_,I.laid (t':=s.toks) (fun b o e=>Heap.get?_push_of_some _ e) (Nat.le_refl _) (show ObjOk X.prog X.w _ _ _ (.tup (xs++ys)) from ⟨by rw [List.length_append];omega,its++its2,r.append r2,IsTup.new _ _⟩),rfl,q2 hx hy _ I.fresh⟩
theorem op_mul_str:OpR X (binaryOp .Mult) (fun x y H Q=>∃ z n,x=.str z∧y=.int n∧(n=0∨n=1)∧Q (.str (mulS z n)) H):=by
 intro pins s σ H x y v u Q I rx ry h
 obtain ⟨z,n,rfl,rfl,hn,q⟩:=h
 obtain ⟨t,rfl⟩:=rx
 obtain ⟨t',rfl⟩:=ry
 rcases hn with rfl | rfl
 ·exact PySem.P.mul_str_none (by decide) (by decide) ⟨.str _,H,I.tok _,⟨_,rfl⟩,q⟩
 ·refine PySem.P.mul_str (by decide) (fun _ z=>absurd z (by simp)) (fun _ z=>absurd z (by simp)) ?_
  exact ⟨.str _,H,I,⟨_,rfl⟩,q⟩
theorem ops_add:OpS X (binaryOp .Add) addT:=by
 intro pins s σ H x y v u Q I rx ry h
 obtain ⟨F,t1,t2,t,fh,r1,r2,ht,q⟩:=h
 cases t1 with
 | int i =>
  cases t2 with
  | int j =>
   cases r1;cases r2;cases ht
   exact op_add pins s σ H _ _ v u Q I rx ry ⟨_,_,rfl,rfl,q _ F H (Step.refl fh) rfl⟩
  | _=>simp [addT] at ht
 | str i =>
  cases t2 with
  | str j =>
   cases r1;cases r2
   simp only [addT] at ht
   split at ht
   ·rename_i hz
    cases ht
    exact op_add_str pins s σ H _ _ v u Q I rx ry ⟨_,_,rfl,rfl,by rw [← sz_eq];exact hz,q _ F H (Step.refl fh) rfl⟩
   ·cases ht
  | _=>simp [addT] at ht
 | lst i =>
  cases t2 with
  | lst j =>
   obtain ⟨l,xs,rfl,h1,h2⟩:=r1
   obtain ⟨l',ys,rfl,h3,h4⟩:=r2
   simp only [addT] at ht
   split at ht
   ·rename_i hz
    cases ht
    refine op_cat' pins s σ H _ _ v u Q I rx ry ⟨_,_,_,_,rfl,rfl,Ls.same fh h1,Ls.same fh h3,by rw [h2.length,h4.length,← sz_eq];exact hz,fun p hp=>?_⟩
    have st:=(Step.refl fh).new (o:=.lst (xs++ys)) hp
    exact q _ _ _ st ⟨p,_,rfl,Ls.of upd_same,(h2.app h4).mono st.ff⟩
   ·cases ht
  | _=>simp [addT] at ht
 | tup i =>
  cases t2 with
  | tup j =>
   obtain ⟨l,xs,rfl,h1,h2⟩:=r1
   obtain ⟨l',ys,rfl,h3,h4⟩:=r2
   simp only [addT] at ht
   split at ht
   ·rename_i hz
    cases ht
    refine op_catT' pins s σ H _ _ v u Q I rx ry ⟨_,_,_,_,rfl,rfl,same_tup fh h1,same_tup fh h3,by rw [h2.length,h4.length,← sz_eq];exact hz,fun z=>?_,fun _ z=>?_,fun _ _ p hp=>?_⟩
    ·subst z
     refine q _ F H (Step.refl fh) ⟨l',ys,rfl,h3,?_⟩
     have e:=h2.length
     cases i with
     | nil=>exact h4
     | cons _ _=>simp at e
    ·subst z
     refine q _ F H (Step.refl fh) ⟨l,xs,rfl,h1,?_⟩
     have e:=h4.length
     cases j with
     | nil=>rw [List.append_nil];exact h2
     | cons _ _=>simp at e
    ·have st:=(Step.refl fh).new (o:=.tup (xs++ys)) hp
     exact q _ _ _ st ⟨p,_,rfl,SqT.of upd_same,(h2.app h4).mono st.ff⟩
   ·cases ht
  | _=>simp [addT] at ht
 | _=>cases t2<;>simp [addT] at ht
theorem ops_sub:OpS X (binaryOp .Sub) subT:=by
 intro pins s σ H x y v u Q I rx ry h
 obtain ⟨F,t1,t2,t,fh,r1,r2,ht,q⟩:=h
 cases t1<;>cases t2<;>simp only [subT] at ht<;>cases ht
 cases r1;cases r2
 exact op_sub pins s σ H _ _ v u Q I rx ry ⟨_,_,rfl,rfl,q _ F H (Step.refl fh) rfl⟩
theorem Reps.rep {K:PySem.W.Frag} {F:Hp} {ts:List T} {vs:List V} (h:Reps K F ts vs):∀ k:Nat,Reps K F (List.replicate k ts).flatten (List.replicate k vs).flatten
 | 0=>rfl
 | k+1=>by
  rw [List.replicate_succ,List.replicate_succ,List.flatten_cons,List.flatten_cons]
  exact h.app (Reps.rep h k)
theorem op_repL:OpR X (binaryOp .Mult) (fun x y H Q=>∃ l k xs,x=.ref l∧y=.int k∧Ls X.K H l xs∧0≤k∧k≤1000∧xs.length≤1000∧∀ p,H p=none→Q (.ref p) (upd H p (.lst (List.replicate k.toNat xs).flatten))):=by
 intro pins s σ H x y v u Q I rx ry h
 obtain ⟨l,k,xs,rfl,rfl,hH,h1,h2,h3,q⟩:=h
 cases rx
 obtain ⟨t,rfl⟩:=ry
 obtain ⟨z,its,n,r,e⟩:=hH.ok I
 have hl:xs.length=its.length:=r.length
 have hz:xs.length*k.toNat≤1000000:=by
  have:k.toNat≤1000:=by omega
  exact Nat.mul_le_mul h3 this
 have hsz:(1000000:Nat)≤sizeLine:=by decide
 have hlen:its.toArray.size*k.toNat≤sizeLine:=by rw [List.size_toArray,← hl];omega
 have hcap:¬ its.toArray.size*k.toNat>(2 ^ 63-1)/8:=by
  rw [List.size_toArray,← hl]
  have:(1000000:Nat)≤(2 ^ 63-1)/8:=by decide
  omega
 have e63:(2:Int) ^ 63=9223372036854775808:=by decide
 have hfit:¬ (!Builtin.List.listFitsIndex k)=true:=by
  rw [fitsIndex_both (by rw [e63];omega) (by rw [e63];omega)]
  exact Bool.false_ne_true
 have hlong:¬ Builtin.List.listTooLong (its.toArray.size*k.toNat)=true:=by
  rw [notLongL hlen]
  exact Bool.false_ne_true
 have hnew:List.foldl (fun x1 x2=>x1++x2) #[] (List.replicate (if its.toArray.isEmpty=true then 0 else k.toNat) its.toArray)=(List.replicate k.toNat its).flatten.toArray:=by
  have f0:∀ m:Nat,List.foldl (fun x1 x2=>x1++x2) #[] (List.replicate m its.toArray)=(List.replicate m its).flatten.toArray:=fun m=>by
   have:=foldl_rep its m []
   rw [List.nil_append] at this
   exact this
  rw [f0]
  cases its with
  | nil=>simp
  | cons a r'=>rw [if_neg (by simp)]
 refine wpAny_binaryOp_repeat_ref (T:="list") (U:="int") (by decide) ⟨_,e,rfl⟩ (fun s'=>typeIs_int s' k t) noFill_list_mul F.fills_int_mul F.slot_int_rmul repeat_list F.slot_int_index.lookup
  (call_meets F.slot_int_rmul (typeIs_int s k t) F.entry_int_rmul (F.args_int_rmul_2 _ _) (int___rmul___int_list k t l its.toArray n)
   ⟨e,rfl,⟨_,e,rfl⟩,call_meets F.slot_list_mul ⟨_,e,rfl⟩ F.entry_list_mul (F.args_list_mul_2 _ _) (AutoListH.list___mul___list_int_3 l its.toArray n k t hfit hcap hlong) ⟨e,?_⟩⟩)
 rw [hnew]
 exact ⟨.ref _,_,I.lnew (t':=s.toks) (r.rep k.toNat) (by rw [len_rep,Nat.mul_comm];omega),rfl,q _ I.fresh⟩
theorem ops_mul:OpS X (binaryOp .Mult) mulT:=by
 intro pins s σ H x y v u Q I rx ry h
 obtain ⟨F,t1,t2,t,fh,r1,r2,ht,q⟩:=h
 cases t1 with
 | int i =>
  cases t2 with
  | int j =>
   cases r1;cases r2
   simp only [mulT] at ht
   split at ht
   ·rename_i hz
    cases ht
    refine op_mul pins s σ H _ _ v u Q I rx ry ⟨_,_,rfl,rfl,?_,q _ F H (Step.refl fh) rfl⟩
    rw [Bool.or_eq_true] at hz
    have e64:(2:Int) ^ 64=18446744073709551616:=by decide
    rcases hz with hz | hz<;>simp only [small,Bool.and_eq_true,decide_eq_true_eq] at hz
    ·exact .inl (by rw [e64];exact hz)
    ·exact .inr (by rw [e64];exact hz)
   ·cases ht
  | _=>simp [mulT] at ht
 | str i =>
  cases t2 with
  | int j =>
   cases r1;cases r2
   simp only [mulT] at ht
   split at ht
   ·rename_i hz
    cases ht
    exact op_mul_str pins s σ H _ _ v u Q I rx ry ⟨_,_,rfl,rfl,hz,q _ F H (Step.refl fh) rfl⟩
   ·cases ht
  | _=>simp [mulT] at ht
 | tup ts =>
  cases t2 with
  | int j =>
   cases r2
   simp only [mulT] at ht
   split at ht
   ·rename_i hz
    cases ht
    obtain ⟨a,vs,rfl,h1,h2⟩:=r1
    refine op_repT pins s σ H _ _ v u Q I rx ry ⟨a,j,vs,rfl,rfl,same_tup fh h1,hz.1,hz.2.1,by rw [h2.length];exact hz.2.2.1,by rw [h2.length];exact hz.2.2.2,fun p hp=>?_⟩
    have st:=(Step.refl fh).new (o:=.tup (List.replicate j.toNat vs).flatten) hp
    exact q _ _ _ st ⟨p,_,rfl,SqT.of upd_same,(h2.rep j.toNat).mono st.ff⟩
   ·cases ht
  | _=>simp [mulT] at ht
 | lst ts =>
  cases t2 with
  | int j =>
   cases r2
   simp only [mulT] at ht
   split at ht
   ·rename_i hz
    cases ht
    obtain ⟨a,vs,rfl,h1,h2⟩:=r1
    refine op_repL pins s σ H _ _ v u Q I rx ry ⟨a,j,vs,rfl,rfl,Ls.same fh h1,hz.1,hz.2.1,by rw [h2.length];exact hz.2.2,fun p hp=>?_⟩
    have st:=(Step.refl fh).new (o:=.lst (List.replicate j.toNat vs).flatten) hp
    exact q _ _ _ st ⟨p,_,rfl,Ls.of upd_same,(h2.rep j.toNat).mono st.ff⟩
   ·cases ht
  | _=>simp [mulT] at ht
 | _=>cases t2<;>simp [mulT] at ht
theorem ops_fdiv:OpS X (binaryOp .FloorDiv) fdivT:=by
 intro pins s σ H x y v u Q I rx ry h
 obtain ⟨F,t1,t2,t,fh,r1,r2,ht,q⟩:=h
 cases t1<;>cases t2<;>simp only [fdivT] at ht<;>try cases ht
 split at ht
 ·rename_i hz
  cases ht
  cases r1;cases r2
  exact op_fdiv pins s σ H _ _ v u Q I rx ry ⟨_,_,rfl,rfl,hz,q _ F H (Step.refl fh) rfl⟩
 ·cases ht
theorem ops_mod:OpS X (binaryOp .Mod) modT:=by
 intro pins s σ H x y v u Q I rx ry h
 obtain ⟨F,t1,t2,t,fh,r1,r2,ht,q⟩:=h
 cases t1<;>cases t2<;>simp only [modT] at ht<;>try cases ht
 split at ht
 ·rename_i hz
  cases ht
  cases r1;cases r2
  exact op_mod pins s σ H _ _ v u Q I rx ry ⟨_,_,rfl,rfl,hz,q _ F H (Step.refl fh) rfl⟩
 ·cases ht
end
mutual
theorem eqT_refl:∀ t:T,eqT t t=true
 | .non=>by rw [eqT]
 | .bl b=>by rw [eqT];simp
 | .int i=>by rw [eqT];simp
 | .str x=>by rw [eqT];simp
 | .tup a=>by rw [eqT];exact eqTs_refl a
 | .lst a=>by rw [eqT];exact eqTs_refl a
theorem eqTs_refl:∀ ts:List T,eqTs ts ts=true
 | []=>by rw [eqTs]
 | t::ts=>by rw [eqTs,eqT_refl t,eqTs_refl ts];rfl
end
theorem dpPs_get:∀ {xs ys:List T} {j:Nat} {x y:T},xs[j]?=some x→ys[j]?=some y→dpP x y≤dpPs xs ys
 | [],_,_,_,_,h,_=>by simp at h
 | _::_,[],_,_,_,_,h=>by simp at h
 | a::xs,b::ys,0,x,y,h1,h2=>by
  simp at h1 h2
  subst h1 h2
  rw [dpPs];exact Nat.le_max_left _ _
 | a::xs,b::ys,j+1,x,y,h1,h2=>by
  rw [dpPs]
  exact Nat.le_trans (dpPs_get (j:=j) (by simpa using h1) (by simpa using h2)) (Nat.le_max_right _ _)
theorem eqTs_all:∀ xs ys:List T,eqTs xs ys=((List.range (min xs.length ys.length)).all (fun j=>eqT (xs.getD j .non) (ys.getD j .non))&&xs.length==ys.length)
 | [],[]=>by rw [eqTs];rfl
 | [],b::ys=>by simp [eqTs]
 | a::xs,[]=>by simp [eqTs]
 | a::xs,b::ys=>by
  rw [eqTs,eqTs_all xs ys,List.length_cons,List.length_cons,show min (xs.length+1) (ys.length+1)=min xs.length ys.length+1 by omega,List.range_succ_eq_map,List.all_cons,List.all_map]
  have e:(xs.length+1==ys.length+1)=(xs.length==ys.length):=by
   by_cases h:xs.length=ys.length
   ·simp [h]
   ·simp []
  rw [e,Bool.and_assoc]
  rfl
def bothB:T→T→Bool
 | .tup _,.tup _=>true
 | .lst _,.lst _=>true
 | _,_=>false
section
variable {X:Cx} {pins:List (Addr × Obj)} {σ:L2.St} {H F:Hp} {s:Shared}
theorem seen_tup (I:Inv X pins σ H s) (fh:Same F H) {ts:List T} {v:V} {u:Value} (r:Rep X.K F (.tup ts) v) (ru:RelV v u):∃ a vs its,v=.ref a∧u=.ref a∧SqT X.K F a vs∧Reps X.K F ts vs∧Vals vs its∧s.heap.IsTuple a its.toArray:=by
 obtain ⟨a,vs,rfl,h1,h2⟩:=r
 cases ru
 obtain ⟨its,rv,p,_⟩:=I.tuple (same_tup fh h1)
 exact ⟨a,vs,its,rfl,rfl,h1,h2,rv,p⟩
theorem seen_lst (I:Inv X pins σ H s) (fh:Same F H) {ts:List T} {v:V} {u:Value} (r:Rep X.K F (.lst ts) v) (ru:RelV v u):∃ a vs its,v=.ref a∧u=.ref a∧Ls X.K F a vs∧Reps X.K F ts vs∧Vals vs its∧s.heap.IsList a its.toArray:=by
 obtain ⟨a,vs,rfl,h1,h2⟩:=r
 cases ru
 obtain ⟨its,rv,p,_⟩:=I.list (Ls.same fh h1).sq
 exact ⟨a,vs,its,rfl,rfl,h1,h2,rv,p.isList⟩
theorem both_kinds {a:Addr} {xs ys:Array Value} (h1:s.heap.IsTuple a xs) (h2:s.heap.IsList a ys):False:=by
 obtain ⟨o,e,c,_⟩:=h1
 obtain ⟨o',e',c',_⟩:=h2
 rw [e] at e';cases e'
 rw [c] at c';exact absurd c' (by decide +kernel)
theorem relV_inj {x y:V} {u:Value} (h1:RelV x u) (h2:RelV y u):x=y:=by
 cases x with
 | non=>cases h1;cases y<;>first | rfl | (obtain ⟨_,e⟩:=h2;cases e;done) | (cases h2;done)
 | bl _=>cases h1;cases y<;>first | (obtain ⟨_,e⟩:=h2;cases e;done) | (cases h2;done) | (cases h2;rfl)
 | ref _=>cases h1;cases y<;>first | (obtain ⟨_,e⟩:=h2;cases e;done) | (cases h2;done) | (cases h2;rfl)
 | ty _=>cases h1;cases y<;>first | (obtain ⟨_,e⟩:=h2;cases e;done) | (cases h2;done) | (cases h2;rfl)
 | _=>obtain ⟨_,rfl⟩:=h1;cases y<;>first | (obtain ⟨_,e⟩:=h2;cases e;done) | (cases h2;done) | (obtain ⟨_,e⟩:=h2;cases e;rfl)
mutual
theorem rep_inj (I:Inv X pins σ H s) (fh:Same F H):∀ {t1 t2:T} {v:V},Rep X.K F t1 v→Rep X.K F t2 v→t1=t2
 | .non,t2,v,r1,r2=>by cases r1;cases t2<;>first | rfl | (obtain ⟨_,_,e,_⟩:=r2;cases e) | cases r2
 | .bl b,t2,v,r1,r2=>by cases r1;cases t2<;>first | (cases r2;rfl) | (obtain ⟨_,_,e,_⟩:=r2;cases e) | cases r2
 | .int b,t2,v,r1,r2=>by cases r1;cases t2<;>first | (cases r2;rfl) | (obtain ⟨_,_,e,_⟩:=r2;cases e) | cases r2
 | .str b,t2,v,r1,r2=>by cases r1;cases t2<;>first | (cases r2;rfl) | (obtain ⟨_,_,e,_⟩:=r2;cases e) | cases r2
 | .tup ts,t2,v,r1,r2=>by
  obtain ⟨a,vs,rfl,h1,h2⟩:=r1
  cases t2 with
  | tup us =>
   obtain ⟨b,ws,e,h3,h4⟩:=r2
   cases e
   have:=I.tuple_inj (same_tup fh h1) (same_tup fh h3)
   subst this
   rw [reps_inj I fh h2 h4]
  | lst us =>
   obtain ⟨b,ws,e,h3,h4⟩:=r2
   cases e
   obtain ⟨its,_,p,_⟩:=I.tuple (same_tup fh h1)
   obtain ⟨jts,_,p',_⟩:=I.list (Ls.same fh h3).sq
   exact absurd (both_kinds (s:=s) p p'.isList) id
  | _=>cases r2
 | .lst ts,t2,v,r1,r2=>by
  obtain ⟨a,vs,rfl,h1,h2⟩:=r1
  cases t2 with
  | lst us =>
   obtain ⟨b,ws,e,h3,h4⟩:=r2
   cases e
   have:=I.list_inj (Ls.same fh h1).sq (Ls.same fh h3).sq
   subst this
   rw [reps_inj I fh h2 h4]
  | tup us =>
   obtain ⟨b,ws,e,h3,h4⟩:=r2
   cases e
   obtain ⟨its,_,p,_⟩:=I.tuple (same_tup fh h3)
   obtain ⟨jts,_,p',_⟩:=I.list (Ls.same fh h1).sq
   exact absurd (both_kinds (s:=s) p p'.isList) id
  | _=>cases r2
theorem reps_inj (I:Inv X pins σ H s) (fh:Same F H):∀ {ts us:List T} {vs:List V},Reps X.K F ts vs→Reps X.K F us vs→ts=us
 | [],us,vs,r1,r2=>by
  cases r1
  cases us with
  | nil=>rfl
  | cons _ _=>obtain ⟨_,_,e,_⟩:=r2;cases e
 | t::ts,us,vs,r1,r2=>by
  obtain ⟨v,r,rfl,h1,h2⟩:=r1
  cases us with
  | nil=>cases r2
  | cons u us =>
   obtain ⟨_,_,e,h3,h4⟩:=r2
   cases e
   rw [rep_inj I fh h1 h3,reps_inj I fh h2 h4]
end
theorem parts_at {n:Nat} {A:Around} (ih:∀ (t1 t2:T) (x y:V) (v u:Value),dpP t1 t2≤n→Rep X.K F t1 x→Rep X.K F t2 y→RelV x v→RelV y u→SeqAt.EqAt A s v u (eqT t1 t2)) {ts us:List T} {vs ws:List V} {its jts:List Value} (hd:dpPs ts us≤n)
  (r1:Reps X.K F ts vs) (r2:Reps X.K F us ws) (v1:Vals vs its) (v2:Vals ws jts):∀ j (h1:j<its.toArray.size) (h2:j<jts.toArray.size),SeqAt.EqAt A s its.toArray[j] jts.toArray[j] (eqT (ts.getD j .non) (us.getD j .non)):=by
 intro j h1 h2
 have l1:its.length=ts.length:=by rw [← v1.length,r1.length]
 have l2:jts.length=us.length:=by rw [← v2.length,r2.length]
 have h1':j<ts.length:=by rw [List.size_toArray] at h1;omega
 have h2':j<us.length:=by rw [List.size_toArray] at h2;omega
 have e1:ts[j]?=some ts[j]:=List.getElem?_eq_getElem h1'
 have e2:us[j]?=some us[j]:=List.getElem?_eq_getElem h2'
 obtain ⟨x,hx,rx⟩:=r1.get e1
 obtain ⟨y,hy,ry⟩:=r2.get e2
 obtain ⟨v,hv,rv⟩:=v1.get hx
 obtain ⟨u,hu,ru⟩:=v2.get hy
 have g1:its.toArray[j]=v:=by
  have:its[j]?=some its.toArray[j]:=by simp
  rw [hv] at this;exact (Option.some.inj this).symm
 have g2:jts.toArray[j]=u:=by
  have:jts[j]?=some jts.toArray[j]:=by simp
  rw [hu] at this;exact (Option.some.inj this).symm
 rw [g1,g2,List.getD_eq_getElem?_getD,List.getD_eq_getElem?_getD,e1,e2]
 exact ih _ _ x y v u (Nat.le_trans (dpPs_get e1 e2) hd) rx ry rv ru
theorem two_sz {ts us:List T} {vs ws:List V} {its jts:List Value} (r1:Reps X.K F ts vs) (r2:Reps X.K F us ws) (v1:Vals vs its) (v2:Vals ws jts):its.toArray.size=ts.length∧jts.toArray.size=us.length:=by
 rw [List.size_toArray,List.size_toArray,← v1.length,← v2.length,r1.length,r2.length];exact ⟨rfl,rfl⟩
theorem eqTs_len {ts us:List T} (h:ts.length=us.length):eqTs ts us=(List.range ts.length).all fun j=>eqT (ts.getD j .non) (us.getD j .non):=by
 rw [eqTs_all,h];simp
theorem eqTs_ne {ts us:List T} (h:ts.length≠us.length):eqTs ts us=false:=by
 rw [eqTs_all,show (ts.length==us.length)=false by simpa using h,Bool.and_false]
theorem eq_mix (I:Inv X pins σ H s) (fh:Same F H) {A:Around} {t1 t2:T} {x y:V} {v u:Value} (hu:A.units<cLine) (hne:bothB t1 t2≠true) (r1:Rep X.K F t1 x) (r2:Rep X.K F t2 y) (rx:RelV x v) (ry:RelV y u):SeqAt.EqAt A s v u (eqT t1 t2):=by
 have fn:∀ {b c:Bool} {v u:Value},SeqAt.EqAt A s v u b→b=c→SeqAt.EqAt A s v u c:=fun h e=>e▸h
 cases t1 with
 | non =>
  cases r1;cases rx
  cases t2 with
  | non=>cases r2;cases ry;exact fn (SeqAt.EqAt.same .none ) (by simp [eqT])
  | bl a2=>cases r2;cases ry;exact fn (SeqAt.EqAt.none_bool a2) (by simp [eqT])
  | int a2=>cases r2;obtain ⟨k2,rfl⟩:=ry;exact fn (SeqAt.EqAt.none_int a2 k2) (by simp [eqT])
  | str a2=>cases r2;obtain ⟨k2,rfl⟩:=ry;exact fn (SeqAt.EqAt.none_str a2 k2) (by simp [eqT])
  | tup a2=>obtain ⟨l2,vs2,its2,rfl,rfl,_,_,_,p2⟩:=seen_tup I fh r2 ry;exact fn (SeqAt.EqAt.none_tuple p2 hu) (by simp [eqT])
  | lst a2=>obtain ⟨l2,vs2,its2,rfl,rfl,_,_,_,p2⟩:=seen_lst I fh r2 ry;exact fn (SeqAt.EqAt.none_list p2 hu) (by simp [eqT])
 | bl a1 =>
  cases r1;cases rx
  cases t2 with
  | non=>cases r2;cases ry;exact fn (SeqAt.EqAt.bool_none a1) (by simp [eqT])
  | bl a2=>cases r2;cases ry;exact fn (SeqAt.EqAt.bool_bool a1 a2) (by simp [eqT])
  | int a2=>cases r2;obtain ⟨k2,rfl⟩:=ry;exact fn (SeqAt.EqAt.bool_int a1 a2 k2) (by simp [eqT])
  | str a2=>cases r2;obtain ⟨k2,rfl⟩:=ry;exact fn (SeqAt.EqAt.bool_str a1 a2 k2) (by simp [eqT])
  | tup a2=>obtain ⟨l2,vs2,its2,rfl,rfl,_,_,_,p2⟩:=seen_tup I fh r2 ry;exact fn (SeqAt.EqAt.bool_tuple a1 p2 hu) (by simp [eqT])
  | lst a2=>obtain ⟨l2,vs2,its2,rfl,rfl,_,_,_,p2⟩:=seen_lst I fh r2 ry;exact fn (SeqAt.EqAt.bool_list a1 p2 hu) (by simp [eqT])
 | int a1 =>
  cases r1;obtain ⟨k1,rfl⟩:=rx
  cases t2 with
  | non=>cases r2;cases ry;exact fn (SeqAt.EqAt.int_none a1 k1) (by simp [eqT])
  | bl a2=>cases r2;cases ry;exact fn (SeqAt.EqAt.int_bool a1 k1 a2) (by simp [eqT])
  | int a2=>cases r2;obtain ⟨k2,rfl⟩:=ry;exact fn (SeqAt.EqAt.int_int a1 k1 a2 k2) (by simp [eqT])
  | str a2=>cases r2;obtain ⟨k2,rfl⟩:=ry;exact fn (SeqAt.EqAt.int_str a1 k1 a2 k2) (by simp [eqT])
  | tup a2=>obtain ⟨l2,vs2,its2,rfl,rfl,_,_,_,p2⟩:=seen_tup I fh r2 ry;exact fn (SeqAt.EqAt.int_tuple a1 k1 p2 hu) (by simp [eqT])
  | lst a2=>obtain ⟨l2,vs2,its2,rfl,rfl,_,_,_,p2⟩:=seen_lst I fh r2 ry;exact fn (SeqAt.EqAt.int_list a1 k1 p2 hu) (by simp [eqT])
 | str a1 =>
  cases r1;obtain ⟨k1,rfl⟩:=rx
  cases t2 with
  | non=>cases r2;cases ry;exact fn (SeqAt.EqAt.str_none a1 k1) (by simp [eqT])
  | bl a2=>cases r2;cases ry;exact fn (SeqAt.EqAt.str_bool a1 k1 a2) (by simp [eqT])
  | int a2=>cases r2;obtain ⟨k2,rfl⟩:=ry;exact fn (SeqAt.EqAt.str_int a1 k1 a2 k2) (by simp [eqT])
  | str a2=>cases r2;obtain ⟨k2,rfl⟩:=ry;exact fn (SeqAt.EqAt.str_str a1 k1 a2 k2) (by simp [eqT])
  | tup a2=>obtain ⟨l2,vs2,its2,rfl,rfl,_,_,_,p2⟩:=seen_tup I fh r2 ry;exact fn (SeqAt.EqAt.str_tuple a1 k1 p2 hu) (by simp [eqT])
  | lst a2=>obtain ⟨l2,vs2,its2,rfl,rfl,_,_,_,p2⟩:=seen_lst I fh r2 ry;exact fn (SeqAt.EqAt.str_list a1 k1 p2 hu) (by simp [eqT])
 | tup a1 =>
  obtain ⟨l1,vs1,its1,rfl,rfl,_,_,_,p1⟩:=seen_tup I fh r1 rx
  cases t2 with
  | non=>cases r2;cases ry;exact fn (SeqAt.EqAt.tuple_none p1 hu) (by simp [eqT])
  | bl a2=>cases r2;cases ry;exact fn (SeqAt.EqAt.tuple_bool a2 p1 hu) (by simp [eqT])
  | int a2=>cases r2;obtain ⟨k2,rfl⟩:=ry;exact fn (SeqAt.EqAt.tuple_int a2 k2 p1 hu) (by simp [eqT])
  | str a2=>cases r2;obtain ⟨k2,rfl⟩:=ry;exact fn (SeqAt.EqAt.tuple_str a2 k2 p1 hu) (by simp [eqT])
  | tup a2=>exact absurd rfl hne
  | lst a2=>obtain ⟨l2,vs2,its2,rfl,rfl,_,_,_,p2⟩:=seen_lst I fh r2 ry;exact fn (SeqAt.EqAt.tuple_list p1 p2 hu) (by simp [eqT])
 | lst a1 =>
  obtain ⟨l1,vs1,its1,rfl,rfl,_,_,_,p1⟩:=seen_lst I fh r1 rx
  cases t2 with
  | non=>cases r2;cases ry;exact fn (SeqAt.EqAt.list_none p1 hu) (by simp [eqT])
  | bl a2=>cases r2;cases ry;exact fn (SeqAt.EqAt.list_bool a2 p1 hu) (by simp [eqT])
  | int a2=>cases r2;obtain ⟨k2,rfl⟩:=ry;exact fn (SeqAt.EqAt.list_int a2 k2 p1 hu) (by simp [eqT])
  | str a2=>cases r2;obtain ⟨k2,rfl⟩:=ry;exact fn (SeqAt.EqAt.list_str a2 k2 p1 hu) (by simp [eqT])
  | tup a2=>obtain ⟨l2,vs2,its2,rfl,rfl,_,_,_,p2⟩:=seen_tup I fh r2 ry;exact fn (SeqAt.EqAt.list_tuple p1 p2 hu) (by simp [eqT])
  | lst a2=>exact absurd rfl hne
theorem rc_mix (I:Inv X pins σ H s) (fh:Same F H) {A:Around} {t1 t2:T} {x y:V} {v u:Value} (hu:A.units<cLine) (hne:bothB t1 t2≠true) (r1:Rep X.K F t1 x) (r2:Rep X.K F t2 y) (rx:RelV x v) (ry:RelV y u):SeqAt.RcAt A s v u (eqT t1 t2):=by
 have fn:∀ {b c:Bool} {v u:Value},SeqAt.RcAt A s v u b→b=c→SeqAt.RcAt A s v u c:=fun h e=>e▸h
 cases t1 with
 | non =>
  cases r1;cases rx
  cases t2 with
  | non=>cases r2;cases ry;exact fn (SeqAt.RcAt.none_none ) (by simp [eqT])
  | bl a2=>cases r2;cases ry;exact fn (SeqAt.RcAt.none_bool a2) (by simp [eqT])
  | int a2=>cases r2;obtain ⟨k2,rfl⟩:=ry;exact fn (SeqAt.RcAt.none_int a2 k2) (by simp [eqT])
  | str a2=>cases r2;obtain ⟨k2,rfl⟩:=ry;exact fn (SeqAt.RcAt.none_str a2 k2) (by simp [eqT])
  | tup a2=>obtain ⟨l2,vs2,its2,rfl,rfl,_,_,_,p2⟩:=seen_tup I fh r2 ry;exact fn (SeqAt.RcAt.none_tuple p2 hu) (by simp [eqT])
  | lst a2=>obtain ⟨l2,vs2,its2,rfl,rfl,_,_,_,p2⟩:=seen_lst I fh r2 ry;exact fn (SeqAt.RcAt.none_list p2 hu) (by simp [eqT])
 | bl a1 =>
  cases r1;cases rx
  cases t2 with
  | non=>cases r2;cases ry;exact fn (SeqAt.RcAt.bool_none a1) (by simp [eqT])
  | bl a2=>cases r2;cases ry;exact fn (SeqAt.RcAt.bool_bool a1 a2) (by simp [eqT])
  | int a2=>cases r2;obtain ⟨k2,rfl⟩:=ry;exact fn (SeqAt.RcAt.bool_int a1 a2 k2) (by simp [eqT])
  | str a2=>cases r2;obtain ⟨k2,rfl⟩:=ry;exact fn (SeqAt.RcAt.bool_str a1 a2 k2) (by simp [eqT])
  | tup a2=>obtain ⟨l2,vs2,its2,rfl,rfl,_,_,_,p2⟩:=seen_tup I fh r2 ry;exact fn (SeqAt.RcAt.bool_tuple a1 p2 hu) (by simp [eqT])
  | lst a2=>obtain ⟨l2,vs2,its2,rfl,rfl,_,_,_,p2⟩:=seen_lst I fh r2 ry;exact fn (SeqAt.RcAt.bool_list a1 p2 hu) (by simp [eqT])
 | int a1 =>
  cases r1;obtain ⟨k1,rfl⟩:=rx
  cases t2 with
  | non=>cases r2;cases ry;exact fn (SeqAt.RcAt.int_none a1 k1) (by simp [eqT])
  | bl a2=>cases r2;cases ry;exact fn (SeqAt.RcAt.int_bool a1 k1 a2) (by simp [eqT])
  | int a2=>cases r2;obtain ⟨k2,rfl⟩:=ry;exact fn (SeqAt.RcAt.int_int a1 k1 a2 k2) (by simp [eqT])
  | str a2=>cases r2;obtain ⟨k2,rfl⟩:=ry;exact fn (SeqAt.RcAt.int_str a1 k1 a2 k2) (by simp [eqT])
  | tup a2=>obtain ⟨l2,vs2,its2,rfl,rfl,_,_,_,p2⟩:=seen_tup I fh r2 ry;exact fn (SeqAt.RcAt.int_tuple a1 k1 p2 hu) (by simp [eqT])
  | lst a2=>obtain ⟨l2,vs2,its2,rfl,rfl,_,_,_,p2⟩:=seen_lst I fh r2 ry;exact fn (SeqAt.RcAt.int_list a1 k1 p2 hu) (by simp [eqT])
 | str a1 =>
  cases r1;obtain ⟨k1,rfl⟩:=rx
  cases t2 with
  | non=>cases r2;cases ry;exact fn (SeqAt.RcAt.str_none a1 k1) (by simp [eqT])
  | bl a2=>cases r2;cases ry;exact fn (SeqAt.RcAt.str_bool a1 k1 a2) (by simp [eqT])
  | int a2=>cases r2;obtain ⟨k2,rfl⟩:=ry;exact fn (SeqAt.RcAt.str_int a1 k1 a2 k2) (by simp [eqT])
  | str a2=>cases r2;obtain ⟨k2,rfl⟩:=ry;exact fn (SeqAt.RcAt.str_str a1 k1 a2 k2) (by simp [eqT])
  | tup a2=>obtain ⟨l2,vs2,its2,rfl,rfl,_,_,_,p2⟩:=seen_tup I fh r2 ry;exact fn (SeqAt.RcAt.str_tuple a1 k1 p2 hu) (by simp [eqT])
  | lst a2=>obtain ⟨l2,vs2,its2,rfl,rfl,_,_,_,p2⟩:=seen_lst I fh r2 ry;exact fn (SeqAt.RcAt.str_list a1 k1 p2 hu) (by simp [eqT])
 | tup a1 =>
  obtain ⟨l1,vs1,its1,rfl,rfl,_,_,_,p1⟩:=seen_tup I fh r1 rx
  cases t2 with
  | non=>cases r2;cases ry;exact fn (SeqAt.RcAt.tuple_none p1 hu) (by simp [eqT])
  | bl a2=>cases r2;cases ry;exact fn (SeqAt.RcAt.tuple_bool a2 p1 hu) (by simp [eqT])
  | int a2=>cases r2;obtain ⟨k2,rfl⟩:=ry;exact fn (SeqAt.RcAt.tuple_int a2 k2 p1 hu) (by simp [eqT])
  | str a2=>cases r2;obtain ⟨k2,rfl⟩:=ry;exact fn (SeqAt.RcAt.tuple_str a2 k2 p1 hu) (by simp [eqT])
  | tup a2=>exact absurd rfl hne
  | lst a2=>obtain ⟨l2,vs2,its2,rfl,rfl,_,_,_,p2⟩:=seen_lst I fh r2 ry;exact fn (SeqAt.RcAt.tuple_list p1 p2 hu) (by simp [eqT])
 | lst a1 =>
  obtain ⟨l1,vs1,its1,rfl,rfl,_,_,_,p1⟩:=seen_lst I fh r1 rx
  cases t2 with
  | non=>cases r2;cases ry;exact fn (SeqAt.RcAt.list_none p1 hu) (by simp [eqT])
  | bl a2=>cases r2;cases ry;exact fn (SeqAt.RcAt.list_bool a2 p1 hu) (by simp [eqT])
  | int a2=>cases r2;obtain ⟨k2,rfl⟩:=ry;exact fn (SeqAt.RcAt.list_int a2 k2 p1 hu) (by simp [eqT])
  | str a2=>cases r2;obtain ⟨k2,rfl⟩:=ry;exact fn (SeqAt.RcAt.list_str a2 k2 p1 hu) (by simp [eqT])
  | tup a2=>obtain ⟨l2,vs2,its2,rfl,rfl,_,_,_,p2⟩:=seen_tup I fh r2 ry;exact fn (SeqAt.RcAt.list_tuple p1 p2 hu) (by simp [eqT])
  | lst a2=>exact absurd rfl hne
theorem ne_mix (I:Inv X pins σ H s) (fh:Same F H) {A:Around} {t1 t2:T} {x y:V} {v u:Value} (hu:A.units<cLine) (hne:bothB t1 t2≠true) (r1:Rep X.K F t1 x) (r2:Rep X.K F t2 y) (rx:RelV x v) (ry:RelV y u):SeqAt.RcNeAt A s v u (!eqT t1 t2):=by
 have fn:∀ {b c:Bool} {v u:Value},SeqAt.RcNeAt A s v u b→b=c→SeqAt.RcNeAt A s v u c:=fun h e=>e▸h
 cases t1 with
 | non =>
  cases r1;cases rx
  cases t2 with
  | non=>cases r2;cases ry;exact fn (SeqAt.RcNeAt.none_none ) (by simp [eqT])
  | bl a2=>cases r2;cases ry;exact fn (SeqAt.RcNeAt.none_bool a2) (by simp [eqT])
  | int a2=>cases r2;obtain ⟨k2,rfl⟩:=ry;exact fn (SeqAt.RcNeAt.none_int a2 k2) (by simp [eqT])
  | str a2=>cases r2;obtain ⟨k2,rfl⟩:=ry;exact fn (SeqAt.RcNeAt.none_str a2 k2) (by simp [eqT])
  | tup a2=>obtain ⟨l2,vs2,its2,rfl,rfl,_,_,_,p2⟩:=seen_tup I fh r2 ry;exact fn (SeqAt.RcNeAt.none_tuple p2 hu) (by simp [eqT])
  | lst a2=>obtain ⟨l2,vs2,its2,rfl,rfl,_,_,_,p2⟩:=seen_lst I fh r2 ry;exact fn (SeqAt.RcNeAt.none_list p2 hu) (by simp [eqT])
 | bl a1 =>
  cases r1;cases rx
  cases t2 with
  | non=>cases r2;cases ry;exact fn (SeqAt.RcNeAt.bool_none a1) (by simp [eqT])
  | bl a2=>cases r2;cases ry;exact fn (SeqAt.RcNeAt.bool_bool a1 a2) (by simp [eqT])
  | int a2=>cases r2;obtain ⟨k2,rfl⟩:=ry;exact fn (SeqAt.RcNeAt.bool_int a1 a2 k2) (by simp [eqT])
  | str a2=>cases r2;obtain ⟨k2,rfl⟩:=ry;exact fn (SeqAt.RcNeAt.bool_str a1 a2 k2) (by simp [eqT])
  | tup a2=>obtain ⟨l2,vs2,its2,rfl,rfl,_,_,_,p2⟩:=seen_tup I fh r2 ry;exact fn (SeqAt.RcNeAt.bool_tuple a1 p2 hu) (by simp [eqT])
  | lst a2=>obtain ⟨l2,vs2,its2,rfl,rfl,_,_,_,p2⟩:=seen_lst I fh r2 ry;exact fn (SeqAt.RcNeAt.bool_list a1 p2 hu) (by simp [eqT])
 | int a1 =>
  cases r1;obtain ⟨k1,rfl⟩:=rx
  cases t2 with
  | non=>cases r2;cases ry;exact fn (SeqAt.RcNeAt.int_none a1 k1) (by simp [eqT])
  | bl a2=>cases r2;cases ry;exact fn (SeqAt.RcNeAt.int_bool a1 k1 a2) (by simp [eqT])
  | int a2=>cases r2;obtain ⟨k2,rfl⟩:=ry;exact fn (SeqAt.RcNeAt.int_int a1 k1 a2 k2) (by simp [eqT])
  | str a2=>cases r2;obtain ⟨k2,rfl⟩:=ry;exact fn (SeqAt.RcNeAt.int_str a1 k1 a2 k2) (by simp [eqT])
  | tup a2=>obtain ⟨l2,vs2,its2,rfl,rfl,_,_,_,p2⟩:=seen_tup I fh r2 ry;exact fn (SeqAt.RcNeAt.int_tuple a1 k1 p2 hu) (by simp [eqT])
  | lst a2=>obtain ⟨l2,vs2,its2,rfl,rfl,_,_,_,p2⟩:=seen_lst I fh r2 ry;exact fn (SeqAt.RcNeAt.int_list a1 k1 p2 hu) (by simp [eqT])
 | str a1 =>
  cases r1;obtain ⟨k1,rfl⟩:=rx
  cases t2 with
  | non=>cases r2;cases ry;exact fn (SeqAt.RcNeAt.str_none a1 k1) (by simp [eqT])
  | bl a2=>cases r2;cases ry;exact fn (SeqAt.RcNeAt.str_bool a1 k1 a2) (by simp [eqT])
  | int a2=>cases r2;obtain ⟨k2,rfl⟩:=ry;exact fn (SeqAt.RcNeAt.str_int a1 k1 a2 k2) (by simp [eqT])
  | str a2=>cases r2;obtain ⟨k2,rfl⟩:=ry;exact fn (SeqAt.RcNeAt.str_str a1 k1 a2 k2) (by simp [eqT])
  | tup a2=>obtain ⟨l2,vs2,its2,rfl,rfl,_,_,_,p2⟩:=seen_tup I fh r2 ry;exact fn (SeqAt.RcNeAt.str_tuple a1 k1 p2 hu) (by simp [eqT])
  | lst a2=>obtain ⟨l2,vs2,its2,rfl,rfl,_,_,_,p2⟩:=seen_lst I fh r2 ry;exact fn (SeqAt.RcNeAt.str_list a1 k1 p2 hu) (by simp [eqT])
 | tup a1 =>
  obtain ⟨l1,vs1,its1,rfl,rfl,_,_,_,p1⟩:=seen_tup I fh r1 rx
  cases t2 with
  | non=>cases r2;cases ry;exact fn (SeqAt.RcNeAt.tuple_none p1 hu) (by simp [eqT])
  | bl a2=>cases r2;cases ry;exact fn (SeqAt.RcNeAt.tuple_bool a2 p1 hu) (by simp [eqT])
  | int a2=>cases r2;obtain ⟨k2,rfl⟩:=ry;exact fn (SeqAt.RcNeAt.tuple_int a2 k2 p1 hu) (by simp [eqT])
  | str a2=>cases r2;obtain ⟨k2,rfl⟩:=ry;exact fn (SeqAt.RcNeAt.tuple_str a2 k2 p1 hu) (by simp [eqT])
  | tup a2=>exact absurd rfl hne
  | lst a2=>obtain ⟨l2,vs2,its2,rfl,rfl,_,_,_,p2⟩:=seen_lst I fh r2 ry;exact fn (SeqAt.RcNeAt.tuple_list p1 p2 hu) (by simp [eqT])
 | lst a1 =>
  obtain ⟨l1,vs1,its1,rfl,rfl,_,_,_,p1⟩:=seen_lst I fh r1 rx
  cases t2 with
  | non=>cases r2;cases ry;exact fn (SeqAt.RcNeAt.list_none p1 hu) (by simp [eqT])
  | bl a2=>cases r2;cases ry;exact fn (SeqAt.RcNeAt.list_bool a2 p1 hu) (by simp [eqT])
  | int a2=>cases r2;obtain ⟨k2,rfl⟩:=ry;exact fn (SeqAt.RcNeAt.list_int a2 k2 p1 hu) (by simp [eqT])
  | str a2=>cases r2;obtain ⟨k2,rfl⟩:=ry;exact fn (SeqAt.RcNeAt.list_str a2 k2 p1 hu) (by simp [eqT])
  | tup a2=>obtain ⟨l2,vs2,its2,rfl,rfl,_,_,_,p2⟩:=seen_tup I fh r2 ry;exact fn (SeqAt.RcNeAt.list_tuple p1 p2 hu) (by simp [eqT])
  | lst a2=>exact absurd rfl hne
theorem eq_at (I:Inv X pins σ H s) (fh:Same F H):∀ (n:Nat) (A:Around) (t1 t2:T) (x y:V) (v u:Value),A.units+n<cLine→dpP t1 t2≤n→Rep X.K F t1 x→Rep X.K F t2 y→RelV x v→RelV y u→SeqAt.EqAt A s v u (eqT t1 t2):=by
 intro n
 induction n with
 | zero =>
  intro A t1 t2 x y v u hA hd r1 r2 rx ry
  refine eq_mix I fh hA ?_ r1 r2 rx ry
  intro h
  cases t1<;>cases t2<;>first | (rw [dpP] at hd;omega) | cases h
 | succ n ih =>
  intro A t1 t2 x y v u hA hd r1 r2 rx ry
  have hu:A.units<cLine:=by omega
  have ih':=fun (t1 t2:T) (x y:V) (v u:Value) h=>ih A.in1 t1 t2 x y v u (show A.units+1+n<cLine by omega) h
  by_cases hb:bothB t1 t2=true
  ·cases t1 with
   | tup ts =>
    cases t2 with
    | tup us =>
     rw [dpP] at hd
     by_cases hs:v=u
     ·subst hs
      have e:x=y:=by
       obtain ⟨_,_,rfl,_⟩:=r1;obtain ⟨_,_,rfl,_⟩:=r2;cases rx;cases ry;rfl
      subst e
      rw [← rep_inj I fh r1 r2,eqT_refl]
      exact .same v
     ·obtain ⟨l1,vs1,its1,rfl,rfl,_,q1,w1,p1⟩:=seen_tup I fh r1 rx
      obtain ⟨l2,vs2,its2,rfl,rfl,_,q2,w2,p2⟩:=seen_tup I fh r2 ry
      have h:=SeqAt.RcAt.tuples p1 p2 hu (parts_at (fun t1 t2 x y v u h a b c d=>ih' t1 t2 x y v u h a b c d) (Nat.le_of_succ_le_succ hd) q1 q2 w1 w2)
      obtain ⟨z1,z2⟩:=two_sz q1 q2 w1 w2
      rw [z1,z2,← eqTs_all] at h
      rw [eqT]
      exact .of_refs (fun e=>hs (by rw [e])) h
    | _=>cases hb
   | lst ts =>
    cases t2 with
    | lst us =>
     rw [dpP] at hd
     by_cases hs:v=u
     ·subst hs
      have e:x=y:=by
       obtain ⟨_,_,rfl,_⟩:=r1;obtain ⟨_,_,rfl,_⟩:=r2;cases rx;cases ry;rfl
      subst e
      rw [← rep_inj I fh r1 r2,eqT_refl]
      exact .same v
     ·obtain ⟨l1,vs1,its1,rfl,rfl,_,q1,w1,p1⟩:=seen_lst I fh r1 rx
      obtain ⟨l2,vs2,its2,rfl,rfl,_,q2,w2,p2⟩:=seen_lst I fh r2 ry
      obtain ⟨z1,z2⟩:=two_sz q1 q2 w1 w2
      rw [eqT]
      refine .of_refs (fun e=>hs (by rw [e])) ?_
      by_cases hl:ts.length=us.length
      ·have h:=SeqAt.RcAt.lists p1 p2 (by rw [z1,z2,hl]) hu (parts_at (fun t1 t2 x y v u h a b c d=>ih' t1 t2 x y v u h a b c d) (Nat.le_of_succ_le_succ hd) q1 q2 w1 w2)
       rw [z1] at h
       rw [eqTs_len hl];exact h
      ·rw [eqTs_ne hl]
       exact SeqAt.RcAt.lists_lengths p1 p2 (by rw [z1,z2];simpa using hl) hu
    | _=>cases hb
   | _=>cases hb
  ·exact eq_mix I fh hu hb r1 r2 rx ry
theorem rc_at (I:Inv X pins σ H s) (fh:Same F H) {n:Nat} {A:Around} {t1 t2:T} {x y:V} {v u:Value} (hA:A.units+n<cLine) (hd:dpP t1 t2≤n) (r1:Rep X.K F t1 x) (r2:Rep X.K F t2 y) (rx:RelV x v) (ry:RelV y u):SeqAt.RcAt A s v u (eqT t1 t2)∧SeqAt.RcNeAt A s v u (!eqT t1 t2):=by
 have hu:A.units<cLine:=by omega
 by_cases hb:bothB t1 t2=true
 ·cases n with
  | zero=>exfalso;cases t1<;>cases t2<;>first | (rw [dpP] at hd;omega) | cases hb
  | succ n =>
   have ih':=fun (t1 t2:T) (x y:V) (v u:Value) h=>eq_at I fh n A.in1 t1 t2 x y v u (show A.units+1+n<cLine by omega) h
   cases t1 with
   | tup ts =>
    cases t2 with
    | tup us =>
     rw [dpP] at hd
     obtain ⟨l1,vs1,its1,rfl,rfl,_,q1,w1,p1⟩:=seen_tup I fh r1 rx
     obtain ⟨l2,vs2,its2,rfl,rfl,_,q2,w2,p2⟩:=seen_tup I fh r2 ry
     have pa:=parts_at (fun t1 t2 x y v u h a b c d=>ih' t1 t2 x y v u h a b c d) (Nat.le_of_succ_le_succ hd) q1 q2 w1 w2
     have h:=SeqAt.RcAt.tuples p1 p2 hu pa
     have g:=SeqAt.RcNeAt.tuples p1 p2 hu pa
     obtain ⟨z1,z2⟩:=two_sz q1 q2 w1 w2
     rw [z1,z2,← eqTs_all] at h g
     rw [eqT]
     exact ⟨h,g⟩
    | _=>cases hb
   | lst ts =>
    cases t2 with
    | lst us =>
     rw [dpP] at hd
     obtain ⟨l1,vs1,its1,rfl,rfl,_,q1,w1,p1⟩:=seen_lst I fh r1 rx
     obtain ⟨l2,vs2,its2,rfl,rfl,_,q2,w2,p2⟩:=seen_lst I fh r2 ry
     obtain ⟨z1,z2⟩:=two_sz q1 q2 w1 w2
     rw [eqT]
     by_cases hl:ts.length=us.length
     ·have pa:=parts_at (fun t1 t2 x y v u h a b c d=>ih' t1 t2 x y v u h a b c d) (Nat.le_of_succ_le_succ hd) q1 q2 w1 w2
      have h:=SeqAt.RcAt.lists p1 p2 (by rw [z1,z2,hl]) hu pa
      have g:=SeqAt.RcNeAt.lists p1 p2 (by rw [z1,z2,hl]) hu pa
      rw [z1] at h g
      rw [eqTs_len hl];exact ⟨h,g⟩
     ·rw [eqTs_ne hl]
      exact ⟨SeqAt.RcAt.lists_lengths p1 p2 (by rw [z1,z2];simpa using hl) hu,SeqAt.RcNeAt.lists_lengths p1 p2 (by rw [z1,z2];simpa using hl) hu⟩
    | _=>cases hb
   | _=>cases hb
 ·exact ⟨rc_mix I fh hu hb r1 r2 rx ry,ne_mix I fh hu hb r1 r2 rx ry⟩
end
section
variable {X:Cx}
theorem rd_list {pins:List (Addr × Obj)} {σ:L2.St} {H:Hp} {s:Shared} {a:Addr} {xs:List V} (I:Inv X pins σ H s) (h:Ls X.K H a xs):∃ its:List Value,Vals xs its∧s.heap.IsList a its.toArray∧xs.length≤sizeLine:=by
 have q:SqL X.K H a xs:=h.sq
 obtain ⟨its,r,p,z⟩:=I.list q
 exact ⟨its,r,p.isList,z⟩
def vOf:T→V
 | .non=>.non
 | .bl b=>.bl b
 | .int i=>.int i
 | .str x=>.str x
 | _=>.non
theorem rep_flat {K:PySem.W.Frag} {F:Hp} {t:T} {v:V} (h:Rep K F t v) (f:flat t=true):v=vOf t:=by
 cases t with
 | tup _=>cases f
 | lst _=>cases f
 | _=>exact h
theorem flat_V {t:T} (f:flat t=true):flatV (vOf t)=true:=by cases t<;>first | rfl | cases f
theorem eqV_T {t u:T} (f:flat t=true) (g:flat u=true):eqV (vOf t) (vOf u)=eqT t u:=by
 cases t<;>cases u<;>first | (exact absurd f Bool.false_ne_true) | (exact absurd g Bool.false_ne_true) | rfl | simp [vOf,eqV,eqT]
theorem ops_eq (hu:X.A.units+100<cLine):OpS X (compareOp .Eq) eqC:=by
 intro pins s σ H x y v u Q I rx ry h
 obtain ⟨F,t1,t2,t,fh,r1,r2,ht,q⟩:=h
 simp only [eqC] at ht
 split at ht
 ·rename_i hd
  cases ht
  exact (rc_at I fh (n:=30) (by omega) hd r1 r2 rx ry).1 _ _ _ _ ⟨.bl _,H,I,rfl,q _ F H (Step.refl fh) rfl⟩
 ·cases ht
theorem ops_ne (hu:X.A.units+100<cLine):OpS X (compareOp .NotEq) neC:=by
 intro pins s σ H x y v u Q I rx ry h
 obtain ⟨F,t1,t2,t,fh,r1,r2,ht,q⟩:=h
 simp only [neC] at ht
 split at ht
 ·rename_i hd
  cases ht
  exact (rc_at I fh (n:=30) (by omega) hd r1 r2 rx ry).2 _ _ _ _ ⟨.bl _,H,I,rfl,q _ F H (Step.refl fh) rfl⟩
 ·cases ht
theorem ops_lt:OpS X (compareOp .Lt) ltC:=by
 intro pins s σ H x y v u Q I rx ry h
 obtain ⟨F,t1,t2,t,fh,r1,r2,ht,q⟩:=h
 cases t1<;>cases t2<;>simp only [ltC] at ht<;>cases ht<;>cases r1<;>cases r2
 ·exact op_lt pins s σ H _ _ v u Q I rx ry ⟨_,_,rfl,rfl,q _ F H (Step.refl fh) rfl⟩
 ·exact op_lt_str pins s σ H _ _ v u Q I rx ry ⟨_,_,rfl,rfl,q _ F H (Step.refl fh) rfl⟩
theorem ops_le:OpS X (compareOp .LtE) leC:=by
 intro pins s σ H x y v u Q I rx ry h
 obtain ⟨F,t1,t2,t,fh,r1,r2,ht,q⟩:=h
 cases t1<;>cases t2<;>simp only [leC] at ht<;>cases ht<;>cases r1<;>cases r2
 ·exact op_le pins s σ H _ _ v u Q I rx ry ⟨_,_,rfl,rfl,q _ F H (Step.refl fh) rfl⟩
 ·obtain ⟨t,rfl⟩:=rx
  obtain ⟨t',rfl⟩:=ry
  exact PySem.P.le_str (fin_bl I (q _ F H (Step.refl fh) rfl) rfl)
theorem ops_gt:OpS X (compareOp .Gt) (cmpT .gt):=by
 intro pins s σ H x y v u Q I rx ry h
 obtain ⟨F,t1,t2,t,fh,r1,r2,ht,q⟩:=h
 cases t1<;>cases t2<;>simp only [cmpT] at ht<;>cases ht
 cases r1;cases r2
 exact op_gt pins s σ H _ _ v u Q I rx ry ⟨_,_,rfl,rfl,q _ F H (Step.refl fh) rfl⟩
theorem ops_ge:OpS X (compareOp .GtE) (cmpT .ge):=by
 intro pins s σ H x y v u Q I rx ry h
 obtain ⟨F,t1,t2,t,fh,r1,r2,ht,q⟩:=h
 cases t1<;>cases t2<;>simp only [cmpT] at ht<;>cases ht
 cases r1;cases r2
 exact op_ge pins s σ H _ _ v u Q I rx ry ⟨_,_,rfl,rfl,q _ F H (Step.refl fh) rfl⟩
theorem reps_flat {K:PySem.W.Frag} {F:Hp}:∀ {ts:List T} {vs:List V},Reps K F ts vs→ts.all flat=true→vs=ts.map vOf
 | [],_,h,_=>h
 | t::ts,_,h,f=>by
  obtain ⟨v,r,rfl,h1,h2⟩:=h
  rw [List.all_cons,Bool.and_eq_true] at f
  rw [List.map_cons,rep_flat h1 f.1,reps_flat h2 f.2]
theorem all_flatV {ts:List T} (g:ts.all flat=true):(ts.map vOf).all flatV=true:=by
 induction ts with
 | nil=>rfl
 | cons t ts ih =>
  rw [List.all_cons,Bool.and_eq_true] at g
  rw [List.map_cons,List.all_cons,flat_V g.1,ih g.2]
  rfl
theorem in_parts {pins:List (Addr × Obj)} {σ:L2.St} {H F:Hp} {s:Shared} (I:Inv X pins σ H s) (fh:Same F H) {A:Around} (hA:A.units+30<cLine) {t1:T} {x:V} {v:Value} (r1:Rep X.K F t1 x) (rx:RelV x v):∀ {ts:List T} {vs:List V} {us:List Value},dpI t1 ts=true→Reps X.K F ts vs→Vals vs us →
  ∃ e:Value→Bool,(∀ w∈us,SeqAt.EqAt A s w v (e w))∧us.any e=ts.any fun z=>eqT z t1:=by
 classical
 intro ts vs us hd r rv
 have one:∀ {ts:List T} {vs:List V} {us:List Value},dpI t1 ts=true→Reps X.K F ts vs→Vals vs us→∀ w∈us,∃ t∈ts,SeqAt.EqAt A s w v (eqT t t1)∧∃ y,Rep X.K F t y∧RelV y w:=by
  intro ts
  induction ts with
  | nil=>intro vs us _ r rv w hw;cases r;cases rv;cases hw
  | cons t ts ih =>
   intro vs us hd r rv w hw
   obtain ⟨y,vr,rfl,r2,r3⟩:=r
   cases rv with
   | cons a b =>
    unfold dpI at hd
    rw [List.all_cons,Bool.and_eq_true,decide_eq_true_eq] at hd
    rcases List.mem_cons.mp hw with rfl | hw
    ·exact ⟨t,List.mem_cons_self,eq_at I fh 30 A _ _ _ _ _ _ hA hd.1 r2 r1 a rx,_,r2,a⟩
    ·obtain ⟨t',h1,h2⟩:=ih hd.2 r3 b w hw
     exact ⟨t',List.mem_cons_of_mem _ h1,h2⟩
 obtain ⟨e,he⟩:∃ e:Value→Bool,∀ w t y,Rep X.K F t y→RelV y w→e w=eqT t t1:=by
  refine ⟨fun w=>if h:∃ t,(∃ y,Rep X.K F t y∧RelV y w) then eqT (Classical.choose h) t1 else false,fun w t y h3 h4=>?_⟩
  have h:∃ t,(∃ y,Rep X.K F t y∧RelV y w):=⟨t,y,h3,h4⟩
  obtain ⟨y',h5,h6⟩:=Classical.choose_spec h
  have e:y=y':=relV_inj h4 h6
  subst e
  simp only [dif_pos h]
  rw [← rep_inj I fh h3 h5]
 refine ⟨e,fun w hw=>?_,?_⟩
 ·obtain ⟨t,_,h2,y,h3,h4⟩:=one hd r rv w hw
  rw [he w t y h3 h4]
  exact h2
 ·clear one
  induction ts generalizing vs us with
  | nil=>cases r;cases rv;rfl
  | cons t ts ih =>
   obtain ⟨y,vr,rfl,r2,r3⟩:=r
   cases rv with
   | cons a b =>
    unfold dpI at hd
    rw [List.all_cons,Bool.and_eq_true] at hd
    rw [List.any_cons,List.any_cons,ih hd.2 r3 b,he _ t y r2 a]
theorem in_any (hu:X.A.units+100<cLine) {pins:List (Addr × Obj)} {σ:L2.St} {H F:Hp} {s:Shared} {t1 t2:T} {x y:V} {v u:Value} {b:Bool} (I:Inv X pins σ H s) (fh:Same F H) (r1:Rep X.K F t1 x) (r2:Rep X.K F t2 y) (rx:RelV x v) (ry:RelV y u) (h:inC t1 t2=some b) (hne:∀ z,t2≠.str z) {Q:Bool→Shared→Prop} (q:Q b s) {Q2:Value→Shared→Prop} :
  ((∀ b,Q b s→Q2 (.bool b) s)→wpAny (model X.prog X.w) X.A (compareOp .In v u) Q2 X.xe s)∧((∀ b,Q b s→Q2 (.bool (!b)) s)→wpAny (model X.prog X.w) X.A (compareOp .NotIn v u) Q2 X.xe s):=by
 cases t2 with
 | tup ts =>
  simp only [inC] at h
  split at h
  ·rename_i hd
   cases h
   obtain ⟨a,vs,its,rfl,rfl,_,q1,w1,p1⟩:=seen_tup I fh r2 ry
   obtain ⟨e,e1,e2⟩:=in_parts I fh (A:=X.A.in1) (show X.A.units+1+30<cLine by omega) r1 rx hd q1 w1
   have e3:its.toArray.any e=ts.any fun z=>eqT z t1:=by rw [← e2];simp
   exact ⟨fun k=>SeqAt.in_tupleAt e p1 (fun w hw=>e1 w (by simpa using hw)) (by rw [e3];exact k _ q),fun k=>SeqAt.notIn_tupleAt e p1 (fun w hw=>e1 w (by simpa using hw)) (by rw [e3];exact k _ q)⟩
  ·cases h
 | lst ts =>
  simp only [inC] at h
  split at h
  ·rename_i hd
   cases h
   obtain ⟨a,vs,its,rfl,rfl,_,q1,w1,p1⟩:=seen_lst I fh r2 ry
   obtain ⟨e,e1,e2⟩:=in_parts I fh (A:=X.A.in1) (show X.A.units+1+30<cLine by omega) r1 rx hd q1 w1
   have e3:its.toArray.any e=ts.any fun z=>eqT z t1:=by rw [← e2];simp
   exact ⟨fun k=>SeqAt.in_listAt e p1 (fun w hw=>e1 w (by simpa using hw)) (by rw [e3];exact k _ q),fun k=>SeqAt.notIn_listAt e p1 (fun w hw=>e1 w (by simpa using hw)) (by rw [e3];exact k _ q)⟩
  ·cases h
 | str z=>exact absurd rfl (hne z)
 | _=>cases h
theorem ops_in (hu:X.A.units+100<cLine):OpS X (compareOp .In) (cmpT .isin):=by
 intro pins s σ H x y v u Q I rx ry h
 obtain ⟨F,t1,t2,t,fh,r1,r2,ht,q⟩:=h
 simp only [cmpT] at ht
 obtain ⟨b,hb,rfl⟩:=oms ht
 by_cases hs:∃ z,t2=.str z
 ·obtain ⟨z,rfl⟩:=hs
  cases t1 with
  | str w =>
   cases r1
   cases r2
   cases hb
   exact op_in_str pins s σ H _ _ v u Q I rx ry ⟨w,z,rfl,rfl,q _ F H (Step.refl fh) rfl⟩
  | _=>cases hb
 exact (in_any hu I fh r1 r2 rx ry hb (fun z e=>hs ⟨z,e⟩) (Q:=fun b _=>Q (.bl b) H) (q _ F H (Step.refl fh) rfl)).1 fun b k=>⟨.bl b,H,I,rfl,k⟩
theorem ops_notin (hu:X.A.units+100<cLine):OpS X (compareOp .NotIn) (cmpT .notin):=by
 intro pins s σ H x y v u Q I rx ry h
 obtain ⟨F,t1,t2,t,fh,r1,r2,ht,q⟩:=h
 simp only [cmpT] at ht
 obtain ⟨b,hb,rfl⟩:=oms ht
 by_cases hs:∃ z,t2=.str z
 ·obtain ⟨z,rfl⟩:=hs
  cases t1 with
  | str w =>
   cases r1
   cases r2
   cases hb
   exact op_notin_str pins s σ H _ _ v u Q I rx ry ⟨w,z,rfl,rfl,q _ F H (Step.refl fh) rfl⟩
  | _=>cases hb
 exact (in_any hu I fh r1 r2 rx ry hb (fun z e=>hs ⟨z,e⟩) (Q:=fun b _=>Q (.bl (!b)) H) (q _ F H (Step.refl fh) rfl)).2 fun b k=>⟨.bl (!b),H,I,rfl,k⟩
theorem ops_isN:OpS X (compareOp .Is) (cmpT .isN):=by
 intro pins s σ H x y v u Q I rx ry h
 obtain ⟨F,t1,t2,t,fh,r1,r2,ht,q⟩:=h
 have e2:t2=.non:=by cases t2<;>first | rfl | (cases t1<;>simp [cmpT] at ht)
 subst e2
 cases r2
 have e:t=.bl (decide (x=.non)):=by
  cases t1 with
  | non=>cases r1;cases ht;simp
  | bl _=>cases r1;cases ht;simp
  | int _=>cases r1;cases ht;simp
  | str _=>cases r1;cases ht;simp
  | tup _=>obtain ⟨a,vs,rfl,_⟩:=r1;cases ht;simp
  | lst _=>obtain ⟨a,vs,rfl,_⟩:=r1;cases ht;simp
 subst e
 exact op_isN pins s σ H _ _ v u Q I rx ry ⟨rfl,q _ F H (Step.refl fh) rfl⟩
theorem ops_notN:OpS X (compareOp .IsNot) (cmpT .notN):=by
 intro pins s σ H x y v u Q I rx ry h
 obtain ⟨F,t1,t2,t,fh,r1,r2,ht,q⟩:=h
 have e2:t2=.non:=by cases t2<;>first | rfl | (cases t1<;>simp [cmpT] at ht)
 subst e2
 cases r2
 have e:t=.bl (!decide (x=.non)):=by
  cases t1 with
  | non=>cases r1;cases ht;simp
  | bl _=>cases r1;cases ht;simp
  | int _=>cases r1;cases ht;simp
  | str _=>cases r1;cases ht;simp
  | tup _=>obtain ⟨a,vs,rfl,_⟩:=r1;cases ht;simp
  | lst _=>obtain ⟨a,vs,rfl,_⟩:=r1;cases ht;simp
 subst e
 exact op_notN pins s σ H _ _ v u Q I rx ry ⟨rfl,q _ F H (Step.refl fh) rfl⟩
theorem ops_isT:OpS X (compareOp .Is) (cmpT .isT):=by
 intro pins s σ H x y v u Q I rx ry h
 obtain ⟨F,t1,t2,t,fh,r1,r2,ht,q⟩:=h
 have e2:t2=.bl true:=by
  cases t2 with
  | bl b=>cases b<;>first | rfl | (cases t1<;>simp [cmpT] at ht)
  | _=>cases t1<;>simp [cmpT] at ht
 subst e2
 cases r2
 cases ry
 cases t1 with
 | bl b =>
  cases r1
  cases rx
  cases ht
  refine is_bool ⟨.bl b,H,I,?_,q _ F H (Step.refl fh) rfl⟩
  cases b<;>rfl
 | non =>
  cases r1
  cases rx
  cases ht
  exact wpAny_pure (a:=Value.bool (Value.none==Value.bool true)) ⟨.bl false,H,I,rfl,q _ F H (Step.refl fh) rfl⟩
 | _=>simp [cmpT] at ht
theorem ops_co (hu:X.A.units+100<cLine) {op:CmpOp} {e:Expr} {o:Co} (h:coOf op e=some o):OpS X (compareOp op) (cmpT o)∧behindInMarks op e=false:=by
 cases op with
 | Eq=>cases h;exact ⟨ops_eq hu,nomark _⟩
 | NotEq=>cases h;exact ⟨ops_ne hu,nomark _⟩
 | Lt=>cases h;exact ⟨ops_lt,nomark _⟩
 | LtE=>cases h;exact ⟨ops_le,nomark _⟩
 | Gt=>cases h;exact ⟨ops_gt,nomark _⟩
 | GtE=>cases h;exact ⟨ops_ge,nomark _⟩
 | Is =>
  simp only [coOf] at h
  split at h
  ·cases h;exact ⟨ops_isN,nomark _⟩
  ·split at h
   ·cases h;exact ⟨ops_isT,nomark _⟩
   ·cases h
 | IsNot =>
  simp only [coOf] at h
  split at h
  ·cases h;exact ⟨ops_notN,nomark _⟩
  ·cases h
 | In =>
  simp only [coOf] at h
  split at h
  ·cases h
  ·rename_i hb;cases h;exact ⟨ops_in hu,by simpa using hb⟩
 | NotIn =>
  simp only [coOf] at h
  split at h
  ·cases h
  ·rename_i hb;cases h;exact ⟨ops_notin hu,by simpa using hb⟩
theorem ops_bo {op:Operator} {o:Bo} (h:boOf op=some o):OpS X (binaryOp op) (binT o):=by
 cases op<;>simp only [boOf] at h<;>cases h
 ·exact ops_add
 ·exact ops_sub
 ·exact ops_mul
 ·exact ops_mod
 ·exact ops_fdiv
theorem ops_cc (hu:X.A.units+100<cLine) {op:CmpOp} {o:Co} (h:coC op=some o):OpS X (compareOp op) (cmpT o):=by
 cases op<;>simp only [coC] at h<;>cases h
 ·exact ops_eq hu
 ·exact ops_ne hu
 ·exact ops_lt
 ·exact ops_le
 ·exact ops_gt
 ·exact ops_ge
end
section
variable {X:Cx} {c:Tc} {a b:Expr} {pos:Pos}
theorem get_at {K:PySem.W.Frag} {F:Hp} {ts:List T} {vs:List V} {i:Int} {t:T} (r:Reps K F ts vs) (h:getI ts i=some t):∃ v,atI vs i=some v∧Rep K F t v:=by
 unfold getI at h
 obtain ⟨j,h1,h2⟩:=obs h
 obtain ⟨v,h3,h4⟩:=r.get h2
 refine ⟨v,?_,h4⟩
 unfold atI
 rw [r.length]
 exact Option.bind_eq_some_iff.mpr ⟨j,h1,h3⟩
theorem ixs:IxR X (fun x y H Q=>∃ F t1 t2 t,Same F H∧Rep X.K F t1 x∧Rep X.K F t2 y∧idxT t1 t2=some t∧∀ v F' H',Step F H F' H'→Rep X.K F' t v→Q v H'):=by
 intro value slice pins s σ H x y v u Q I rx ry h hs
 obtain ⟨F,t1,t2,t,fh,r1,r2,ht,q⟩:=h
 cases t1 with
 | tup ts =>
  cases t2 with
  | int i =>
   cases r2
   obtain ⟨p,vs,rfl,h1,h2⟩:=r1
   obtain ⟨w,h3,h4⟩:=get_at h2 ht
   exact ix_tup value slice pins s σ H _ _ v u Q I rx ry ⟨p,vs,i,w,rfl,rfl,same_tup fh h1,h3,q _ F H (Step.refl fh) h4⟩ hs
  | _=>cases ht
 | lst ts =>
  cases t2 with
  | int i =>
   cases r2
   obtain ⟨p,vs,rfl,h1,h2⟩:=r1
   obtain ⟨w,h3,h4⟩:=get_at h2 ht
   exact ix_list value slice pins s σ H _ _ v u Q I rx ry ⟨p,vs,i,w,rfl,rfl,(Ls.same fh h1).sq,h3,q _ F H (Step.refl fh) h4⟩ hs
  | _=>cases ht
 | str z =>
  cases t2 with
  | int i =>
   cases r1
   cases r2
   simp only [idxT,idxS] at ht
   split at ht
   ·rename_i hz
    obtain ⟨j,h1,h2⟩:=obs ht
    obtain ⟨ch,h3,rfl⟩:=oms h2
    exact ix_str value slice pins s σ H _ _ v u Q I rx ry ⟨z,i,ch,rfl,rfl,hz,Option.bind_eq_some_iff.mpr ⟨j,h1,h3⟩,q _ F H (Step.refl fh) rfl⟩ hs
   ·cases ht
  | _=>cases ht
 | _=>cases t2<;>cases ht
theorem ok_idx {f g:Env→Option T} (ha:Oke X c a f) (hb:Oke X c b g) (hs:PlainIx b):Oke X c (.Subscript a b pos) (fun r=>(f r).bind fun x=>(g r).bind fun y=>idxT x y):=by
 refine pe_mono (pe_ix ixs ha hb hs) fun σ H Q q=>?_
 obtain ⟨r,F,t,e,ht,q⟩:=q
 obtain ⟨t1,e1,ht⟩:=obs ht
 obtain ⟨t2,e2,ht⟩:=obs ht
 refine ⟨r,F,t1,e,e1,fun v1 F1 H1 s1 r1=>⟨r,F1,t2,e.step s1,e2,fun v2 F2 H2 s2 r2=>?_⟩⟩
 exact ⟨F2,t1,t2,t,s2.fh,r1.mono s2.ff,r2,ht,fun v F' H' s3 r3=>q v F' H' (s1.trans (s2.trans s3)) r3⟩
theorem reps_cut {K:PySem.W.Frag} {F:Hp} {ts:List T} {vs:List V} (r:Reps K F ts vs) (lo hi:Option Int):Reps K F (cut ts lo hi) (cutV vs lo hi):=by
 unfold cut cutV
 have e:∀ (n d:Nat) (o:Option Int),HT.sIx n d o=clip n d o:=fun n d o=>by cases o<;>rfl
 rw [e,e,r.length]
 exact (r.drop _).take _
theorem part_of {v:Value} {o:Option Int} (h:IsPart v o):∃ p:Option (Int × Tok),v=partValue p∧p.map (·.1)=o:=by
 cases h with
 | none=>exact ⟨none,rfl,rfl⟩
 | int i t=>exact ⟨some (i,t),rfl,rfl⟩
theorem sl_str:SlR X (fun x lo hi H Q=>∃ z,x=.str z∧z.length≤SZ∧Q (.str (sliS z lo hi)) H):=by
 intro pins s σ H x v vl vu lo hi sl Q I rx hs pl pu h
 obtain ⟨z,rfl,hz,q⟩:=h
 obtain ⟨t,rfl⟩:=rx
 obtain ⟨l,rfl,rfl⟩:=part_of pl
 obtain ⟨u,rfl,rfl⟩:=part_of pu
 refine ⟨"str",_,PySem.F.slot_str_getitem.lookup,typeIs_str _ _ _,wpAny_getItem_str_slice (l:=l) (u:=u) (st:=none) hs rfl ?_⟩
 have hl:(sliS z (l.map (·.1)) (u.map (·.1))).length≤sizeLine:=Nat.le_trans (Txt.slice_le z (l.map (·.1)) (u.map (·.1))) hz
 exact post_val_or_str ⟨hl,fun t' k=>⟨.str _,H,I.tok _,⟨_,rfl⟩,q⟩⟩
theorem sls:SlR X (fun x lo hi H Q=>∃ F t1 t,Same F H∧Rep X.K F t1 x∧sliT t1 lo hi=some t∧∀ v F' H',Step F H F' H'→Rep X.K F' t v→Q v H'):=by
 intro pins s σ H x v vl vu lo hi sl Q I rx hs pl pu h
 obtain ⟨F,t1,t,fh,r1,ht,q⟩:=h
 cases t1 with
 | tup ts =>
  simp only [sliT] at ht
  cases ht
  obtain ⟨p,vs,rfl,h1,h2⟩:=r1
  have e:∀ (n d:Nat) (o:Option Int),HT.sIx n d o=clip n d o:=fun n d o=>by cases o<;>rfl
  by_cases hw:clip ts.length 0 lo=0∧clip ts.length ts.length hi=ts.length
  ·refine sl_whole pins s σ H _ v vl vu lo hi sl Q I rx hs pl pu ⟨p,vs,rfl,same_tup fh h1,by rw [e,e,h2.length];exact hw,?_⟩
   have ec:cut ts lo hi=ts:=by unfold cut;rw [hw.1,hw.2];simp
   exact q _ F H (Step.refl fh) ⟨p,vs,rfl,h1,by rw [ec];exact h2⟩
  ·refine sl_tup pins s σ H _ v vl vu lo hi sl Q I rx hs pl pu ⟨p,vs,rfl,same_tup fh h1,by rw [e,e,h2.length];exact hw,fun p' hp=>?_⟩
   have st:=(Step.refl fh).new (o:=.tup (cutV vs lo hi)) hp
   exact q _ _ _ st ⟨p',_,rfl,SqT.of upd_same,(reps_cut h2 lo hi).mono st.ff⟩
 | lst ts =>
  simp only [sliT] at ht
  cases ht
  obtain ⟨p,vs,rfl,h1,h2⟩:=r1
  refine sl_list pins s σ H _ v vl vu lo hi sl Q I rx hs pl pu ⟨p,vs,rfl,(Ls.same fh h1).sq,fun p' hp=>?_⟩
  have st:=(Step.refl fh).new (o:=.lst (cutV vs lo hi)) hp
  exact q _ _ _ st ⟨p',_,rfl,Ls.of upd_same,(reps_cut h2 lo hi).mono st.ff⟩
 | str z =>
  simp only [sliT] at ht
  split at ht
  ·rename_i hz
   cases ht
   cases r1
   exact sl_str pins s σ H _ v vl vu lo hi sl Q I rx hs pl pu ⟨z,rfl,hz,q _ F H (Step.refl fh) rfl⟩
  ·cases ht
 | _=>simp [sliT] at ht
def spO (X:Cx) (c:Tc) (f:Env→Option (Option T)):TO:=fun σ H Q=>∃ r F o,EnvE X c r F σ H∧(f r).bind asI=some o∧∀ F' H',Step F H F' H'→Q o H'
theorem po_mono {e:Option Expr} {t t':TO} (h:PO X e t) (m:∀ σ H Q,t' σ H Q→t σ H Q):PO X e t':=fun pins s σ H Q I q=>h pins s σ H Q I (m σ H Q q)
theorem ok_po_none:PO X none (spO X c fun _=>some none):=by
 refine po_mono po_none fun σ H Q q=>?_
 obtain ⟨r,F,o,e,ht,q⟩:=q
 cases ht
 exact q F H (Step.refl e.fh)
theorem ok_po_some {f:Env→Option T} (h:Oke X c a f):PO X (some a) (spO X c fun r=>(f r).map some):=by
 refine po_mono (po_some h) fun σ H Q q=>?_
 obtain ⟨r,F,o,e,ht,q⟩:=q
 obtain ⟨o',e1,ht⟩:=obs ht
 obtain ⟨t,e2,rfl⟩:=oms e1
 refine ⟨r,F,t,e,e2,fun v F' H' s1 r1=>?_⟩
 cases t with
 | int i=>cases ht;cases r1;exact ⟨i,rfl,q F' H' s1⟩
 | _=>cases ht
theorem ok_sli {lo hi:Option Expr} {f:Env→Option T} {g h:Env→Option (Option T)} {p2:Pos} (ha:Oke X c a f) (hl:PO X lo (spO X c g)) (hh:PO X hi (spO X c h)) :
  Oke X c (.Subscript a (.Slice lo hi none p2) pos) (fun r=>(f r).bind fun x=>(g r).bind fun l=>(h r).bind fun u=>(asI l).bind fun l'=>(asI u).bind fun u'=>sliT x l' u'):=by
 refine pe_mono (pe_slice sls ha hl hh) fun σ H Q q=>?_
 obtain ⟨r,F,t,e,ht,q⟩:=q
 obtain ⟨t1,e1,ht⟩:=obs ht
 obtain ⟨l,e2,ht⟩:=obs ht
 obtain ⟨u,e3,ht⟩:=obs ht
 obtain ⟨l',e4,ht⟩:=obs ht
 obtain ⟨u',e5,ht⟩:=obs ht
 refine ⟨r,F,t1,e,e1,fun v1 F1 H1 s1 r1=>⟨r,F1,l',e.step s1,Option.bind_eq_some_iff.mpr ⟨l,e2,e4⟩,fun F2 H2 s2=>⟨r,F2,u',e.step (s1.trans s2),Option.bind_eq_some_iff.mpr ⟨u,e3,e5⟩,fun F3 H3 s3=>?_⟩⟩⟩
 exact ⟨F3,t1,t,s3.fh,r1.mono (s2.trans s3).ff,ht,fun v F' H' s4 r4=>q v F' H' (s1.trans (s2.trans (s3.trans s4))) r4⟩
theorem ok_cst {t:T} {v:V} (h:PE X a (tC v)) (r:∀ F,Rep X.K F t v):Oke X c a (fun _=>some t):=by
 refine pe_mono h fun σ H Q q=>?_
 obtain ⟨r',F,t',e,ht,q⟩:=q
 cases ht
 exact q v F H (Step.refl e.fh) (r F)
theorem ok_var {G:Glo} {k:Nat} (gd:Gd X c G k) {x:Str} {i:Nat} (hp:plainName x=true) (hv:visB c.sc x=true) (hi:nameIx c.nm x=some i):Oke X c (.Name x pos) (fun r=>(r[i]?).join):=by
 have hpn:=hp
 simp only [plainName,Bool.and_eq_true,Bool.not_eq_true'] at hp
 intro pins s σ H Q I q
 obtain ⟨r,F,t,e,ht,q⟩:=q
 have ht:(r[i]?).join=some t:=ht
 have ht':r[i]?=some (some t):=by
  cases h:r[i]? with
  | none=>rw [h] at ht;cases ht
  | some o=>rw [h] at ht;cases o with
   | none=>cases ht
   | some z=>cases ht;rfl
 obtain ⟨j,v,h1,h2,h3⟩:=e.get x i t hpn hi hv ht'
 exact pe_var h1 (gd.vis x hv) hp.1.1.1 hp.1.1.2 pins s σ H Q I ⟨v,h2,q v F H (Step.refl e.fh) h3⟩
theorem ok_glb {G:Glo} {k:Nat} (gd:Gd X c G k) {x:Str} (hp:plainName x=true) (hg:glB c.sc x=true):Oke X c (.Name x pos) (fun _=>G.con x):=by
 simp only [plainName,Bool.and_eq_true,Bool.not_eq_true'] at hp
 intro pins s σ H Q I q
 obtain ⟨r,F,t,e,ht,q⟩:=q
 obtain ⟨u,v,h1,h2,h3⟩:=gd.con x t ht
 exact pe_glob (gd.gl x hg) h1 h2 hp.1.1.1 pins s σ H Q I (q v F H (Step.refl e.fh) (h3 F))
theorem ok_not {f:Env→Option T} (ha:Oke X c a f):Oke X c (.UnaryOp .Not a pos) (fun r=>(f r).bind fun x=>match x with | .bl b=>some (.bl (!b)) | _=>none):=by
 refine pe_mono (pe_not ha) fun σ H Q q=>?_
 obtain ⟨r,F,t,e,ht,q⟩:=q
 obtain ⟨t1,e1,ht⟩:=obs ht
 cases t1 with
 | bl b=>cases ht;exact ⟨r,F,_,e,e1,fun v F' H' s1 r1=>by cases r1;exact ⟨b,rfl,q _ F' H' s1 rfl⟩⟩
 | _=>cases ht
theorem ok_neg {f:Env→Option T} (ha:Oke X c a f):Oke X c (.UnaryOp .USub a pos) (fun r=>(f r).bind fun x=>match x with | .int i=>some (.int (-i)) | _=>none):=by
 refine pe_mono (pe_un un_neg ha) fun σ H Q q=>?_
 obtain ⟨r,F,t,e,ht,q⟩:=q
 obtain ⟨t1,e1,ht⟩:=obs ht
 cases t1 with
 | int b=>cases ht;exact ⟨r,F,_,e,e1,fun v F' H' s1 r1=>by cases r1;exact ⟨b,rfl,q _ F' H' s1 rfl⟩⟩
 | _=>cases ht
theorem ok_and {rest:List Expr} {f g:Env→Option T} (ha:Oke X c a f) (hb:Oke X c (.BoolOp .And (b::rest) pos) g):Oke X c (.BoolOp .And (a::b::rest) pos) (fun r=>(f r).bind fun x=>match x with | .bl true=>g r | .bl false=>some (.bl false) | _=>none):=by
 refine pe_mono (pe_and ha hb) fun σ H Q q=>?_
 obtain ⟨r,F,t,e,ht,q⟩:=q
 obtain ⟨t1,e1,ht⟩:=obs ht
 cases t1 with
 | bl d =>
  refine ⟨r,F,_,e,e1,fun v F' H' s1 r1=>?_⟩
  cases r1
  cases d with
  | true=>exact ⟨true,rfl,iteT ⟨r,F',t,e.step s1,ht,fun v2 F2 H2 s2 r2=>q v2 F2 H2 (s1.trans s2) r2⟩⟩
  | false=>cases ht;exact ⟨false,rfl,iteF (q _ F' H' s1 rfl)⟩
 | _=>cases ht
theorem ok_or {rest:List Expr} {f g:Env→Option T} (ha:Oke X c a f) (hb:Oke X c (.BoolOp .Or (b::rest) pos) g):Oke X c (.BoolOp .Or (a::b::rest) pos) (fun r=>(f r).bind fun x=>match x with | .bl true=>some (.bl true) | .bl false=>g r | _=>none):=by
 refine pe_mono (pe_or ha hb) fun σ H Q q=>?_
 obtain ⟨r,F,t,e,ht,q⟩:=q
 obtain ⟨t1,e1,ht⟩:=obs ht
 cases t1 with
 | bl d =>
  refine ⟨r,F,_,e,e1,fun v F' H' s1 r1=>?_⟩
  cases r1
  cases d with
  | true=>cases ht;exact ⟨true,rfl,iteT (q _ F' H' s1 rfl)⟩
  | false=>exact ⟨false,rfl,iteF ⟨r,F',t,e.step s1,ht,fun v2 F2 H2 s2 r2=>q v2 F2 H2 (s1.trans s2) r2⟩⟩
 | _=>cases ht
theorem ok_ifx {d:Expr} {h f g:Env→Option T} (hc:Okt X c d h) (ha:Oke X c a f) (hb:Oke X c b g):Oke X c (.IfExp d a b pos) (fun r=>(h r).bind fun x=>match x with | .bl true=>f r | .bl false=>g r | _=>none):=by
 refine pe_mono (pe_ifExp hc ha hb) fun σ H Q q=>?_
 obtain ⟨r,F,t,e,ht,q⟩:=q
 obtain ⟨t1,e1,ht⟩:=obs ht
 cases t1 with
 | bl d =>
  refine ⟨r,F,d,e,e1,fun F' H' s1=>?_⟩
  cases d with
  | true=>exact iteT ⟨r,F',t,e.step s1,ht,fun v2 F2 H2 s2 r2=>q v2 F2 H2 (s1.trans s2) r2⟩
  | false=>exact iteF ⟨r,F',t,e.step s1,ht,fun v2 F2 H2 s2 r2=>q v2 F2 H2 (s1.trans s2) r2⟩
 | _=>cases ht
abbrev Okw (X:Cx) (c:Tc) (e:Expr) (f:Env→Option T):Prop:=PW X e (spB X c f)
theorem tw_and {rest:List Expr} {f g:Env→Option T} (ha:Okt X c a f) (hb:Okw X c (.BoolOp .And (b::rest) pos) g):Okw X c (.BoolOp .And (a::b::rest) pos) (fun r=>(f r).bind fun x=>match x with | .bl true=>g r | .bl false=>some (.bl false) | _=>none):=by
 refine pw_mono (pw_and ha hb) fun σ H Q q=>?_
 obtain ⟨r,F,k,e,ht,q⟩:=q
 obtain ⟨t1,e1,ht⟩:=obs ht
 cases t1 with
 | bl d =>
  refine ⟨r,F,d,e,e1,fun F' H' s1=>?_⟩
  cases d with
  | true=>exact iteT ⟨r,F',k,e.step s1,ht,fun F2 H2 s2=>q F2 H2 (s1.trans s2)⟩
  | false=>cases ht;exact iteF (q F' H' s1)
 | _=>cases ht
theorem tw_or {rest:List Expr} {f g:Env→Option T} (ha:Okt X c a f) (hb:Okw X c (.BoolOp .Or (b::rest) pos) g):Okw X c (.BoolOp .Or (a::b::rest) pos) (fun r=>(f r).bind fun x=>match x with | .bl true=>some (.bl true) | .bl false=>g r | _=>none):=by
 refine pw_mono (pw_or ha hb) fun σ H Q q=>?_
 obtain ⟨r,F,k,e,ht,q⟩:=q
 obtain ⟨t1,e1,ht⟩:=obs ht
 cases t1 with
 | bl d =>
  refine ⟨r,F,d,e,e1,fun F' H' s1=>?_⟩
  cases d with
  | true=>cases ht;exact iteT (q F' H' s1)
  | false=>exact iteF ⟨r,F',k,e.step s1,ht,fun F2 H2 s2=>q F2 H2 (s1.trans s2)⟩
 | _=>cases ht
theorem t_not {f:Env→Option T} (ha:Okt X c a f):Okt X c (.UnaryOp .Not a pos) (fun r=>(f r).bind fun x=>match x with | .bl b=>some (.bl (!b)) | _=>none):=by
 refine pt_mono (pt_not ha) fun σ H Q q=>?_
 obtain ⟨r,F,k,e,ht,q⟩:=q
 obtain ⟨t1,e1,ht⟩:=obs ht
 cases t1 with
 | bl d =>
  refine ⟨r,F,d,e,e1,fun F' H' s1=>?_⟩
  cases ht
  exact q F' H' s1
 | _=>cases ht
theorem tru_rep {K:PySem.W.Frag} {F H:Hp} {t:T} {v:V} {b:Bool} (fh:Same F H) (r:Rep K F t v) (h:truT t=some b):TruV K v H b:=by
 cases t with
 | non=>cases r;cases h;rfl
 | bl _=>cases r;cases h;rfl
 | int _=>cases r;cases h;rfl
 | str _=>cases h
 | tup ts =>
  obtain ⟨p,vs,rfl,h1,h2⟩:=r
  cases h
  refine .inr (.inl ⟨vs,same_tup fh h1,?_⟩)
  have e:=h2.length
  cases vs<;>cases ts<;>first | rfl | simp at e
 | lst ts =>
  obtain ⟨p,vs,rfl,h1,h2⟩:=r
  cases h
  refine .inl ⟨vs,(Ls.same fh h1).sq,?_⟩
  have e:=h2.length
  cases vs<;>cases ts<;>first | rfl | simp at e
theorem t_tru {f:Env→Option T} (ha:Oke X c a f) (he:∀ whole,isTrue a X.env whole=(do let v ← whole;standAt a.pos;holding [v] (truthy v))):Okt X c a (fun r=>(f r).bind fun x=>(truT x).map .bl):=by
 refine pt_mono (pt_truth ha he) fun σ H Q q=>?_
 obtain ⟨r,F,k,e,ht,q⟩:=q
 obtain ⟨t1,e1,ht⟩:=obs ht
 obtain ⟨b,e2,h2⟩:=oms ht
 cases h2
 exact ⟨r,F,t1,e,e1,fun v F' H' s1 r1=>⟨k,tru_rep s1.fh r1 e2,q F' H' s1⟩⟩
theorem ok_chn {d:Expr} {op op':CmpOp} {f g h:Env→Option T} {o o':T→T→Option T} (ho:OpS X (compareOp op) o) (ho':OpS X (compareOp op') o') (ha:Oke X c a f) (hb:Oke X c b g) (hd:Oke X c d h) (hm:lastMarks [op,op'] [b,d]=false) :
  Oke X c (.Compare a [op,op'] [b,d] pos) (fun r=>(f r).bind fun x=>(g r).bind fun y=>(o x y).bind fun k=>match k with | .bl true=>(h r).bind fun z=>o' y z | .bl false=>some (.bl false) | _=>none):=by
 refine pe_mono (pe_chain ho ho' ha hb hd hm) fun σ H Q q=>?_
 obtain ⟨r,F,t,e,ht,q⟩:=q
 obtain ⟨t1,e1,ht⟩:=obs ht
 obtain ⟨t2,e2,ht⟩:=obs ht
 obtain ⟨t3,e3,ht⟩:=obs ht
 refine ⟨r,F,t1,e,e1,fun v1 F1 H1 s1 r1=>⟨r,F1,t2,e.step s1,e2,fun v2 F2 H2 s2 r2=>?_⟩⟩
 refine ⟨F2,t1,t2,t3,s2.fh,r1.mono s2.ff,r2,e3,fun v3 F3 H3 s3 r3=>?_⟩
 cases t3 with
 | bl k =>
  cases r3
  cases k with
  | false=>cases ht;exact ⟨false,rfl,iteF (q _ F3 H3 (s1.trans (s2.trans s3)) rfl)⟩
  | true =>
   obtain ⟨t4,e4,ht⟩:=obs ht
   refine ⟨true,rfl,iteT ⟨r,F3,t4,e.step (s1.trans (s2.trans s3)),e4,fun v4 F4 H4 s4 r4=>?_⟩⟩
   exact ⟨F4,t2,t4,t,s4.fh,r2.mono (s3.trans s4).ff,r4,ht,fun v F' H' s5 r5=>q v F' H' (s1.trans (s2.trans (s3.trans (s4.trans s5)))) r5⟩
 | _=>cases ht
theorem t_chn {d:Expr} {op op':CmpOp} {f g h:Env→Option T} {o o':T→T→Option T} (ho:OpS X (compareOp op) o) (ho':OpS X (compareOp op') o') (ha:Oke X c a f) (hb:Oke X c b g) (hd:Oke X c d h) (hm:lastMarks [op,op'] [b,d]=false) :
  Okt X c (.Compare a [op,op'] [b,d] pos) (fun r=>(f r).bind fun x=>(g r).bind fun y=>(o x y).bind fun k=>match k with | .bl true=>(h r).bind fun z=>o' y z | .bl false=>some (.bl false) | _=>none):=by
 refine pt_mono (pt_chain ho ho' ha hb hd hm) fun σ H Q q=>?_
 obtain ⟨r,F,t,e,ht,q⟩:=q
 obtain ⟨t1,e1,ht⟩:=obs ht
 obtain ⟨t2,e2,ht⟩:=obs ht
 obtain ⟨t3,e3,ht⟩:=obs ht
 refine ⟨r,F,t1,e,e1,fun v1 F1 H1 s1 r1=>⟨r,F1,t2,e.step s1,e2,fun v2 F2 H2 s2 r2=>?_⟩⟩
 refine ⟨F2,t1,t2,t3,s2.fh,r1.mono s2.ff,r2,e3,fun v3 F3 H3 s3 r3=>?_⟩
 cases t3 with
 | bl k =>
  cases r3
  cases k with
  | false=>cases ht;exact ⟨false,rfl,iteF ⟨false,rfl,q F3 H3 (s1.trans (s2.trans s3))⟩⟩
  | true =>
   obtain ⟨t4,e4,ht⟩:=obs ht
   refine ⟨true,rfl,iteT ⟨r,F3,t4,e.step (s1.trans (s2.trans s3)),e4,fun v4 F4 H4 s4 r4=>?_⟩⟩
   exact ⟨F4,t2,t4,_,s4.fh,r2.mono (s3.trans s4).ff,r4,ht,fun v F' H' s5 r5=>⟨t,r5,q F' H' (s1.trans (s2.trans (s3.trans (s4.trans s5))))⟩⟩
 | _=>cases ht
theorem pa_mono {es:List Expr} {t t':TA} (h:PA X es t) (m:∀ σ H Q,t' σ H Q→t σ H Q):PA X es t':=fun p pins s σ H Q I q=>h p pins s σ H Q I (m σ H Q q)
theorem ok_nil:PA X [] (spL X c fun _=>some []):=by
 refine pa_mono pa_nil fun σ H Q q=>?_
 obtain ⟨r,F,ts,e,ht,q⟩:=q
 cases ht
 exact q [] F H (Step.refl e.fh) rfl
theorem ok_cons {es:List Expr} {f:Env→Option T} {g:Env→Option (List T)} (ha:Oke X c a f) (hr:PA X es (spL X c g)) (hs:starEach (a::es) X.env=(false,eval a X.env)::starEach es X.env):PA X (a::es) (spL X c fun r=>(f r).bind fun x=>(g r).bind fun xs=>some (x::xs)):=by
 refine pa_mono (pa_cons ha hr hs) fun σ H Q q=>?_
 obtain ⟨r,F,ts,e,ht,q⟩:=q
 obtain ⟨t1,e1,ht⟩:=obs ht
 obtain ⟨t2,e2,ht⟩:=obs ht
 cases ht
 exact ⟨r,F,t1,e,e1,fun v1 F1 H1 s1 r1=>⟨r,F1,t2,e.step s1,e2,fun vs F2 H2 s2 r2=>q _ F2 H2 (s1.trans s2) ⟨v1,vs,rfl,r1.mono s2.ff,r2⟩⟩⟩
theorem ok_tup {es:List Expr} {n:Nat} {k:Nat} {g:Env→Option (List T)} (h:PA X es (spL X c g)) (hl:∀ r ts,g r=some ts→ts.length=n):Oke X c (.Tuple es k pos) (fun r=>if n≤1000 then (g r).map .tup else none):=by
 refine pe_mono (pe_tup h) fun σ H Q q=>?_
 obtain ⟨r,F,t,e,ht,q⟩:=q
 split at ht
 ·rename_i hn
  obtain ⟨ts,e1,rfl⟩:=oms ht
  refine ⟨r,F,ts,e,e1,fun vs F' H' s1 r1=>⟨by rw [r1.length,hl r ts e1];exact Nat.le_of_lt (small1000 hn),fun p hp=>?_⟩⟩
  have st:=s1.new (o:=.tup vs) hp
  exact q _ _ _ st ⟨p,vs,rfl,SqT.of upd_same,r1.mono (same_new (s1.fh.free hp))⟩
 ·cases ht
def spN (X:Cx) (c:Tc) (f:Env→Option T):TE:=fun σ H Q=>∃ r F ts,EnvE X c r F σ H∧f r=some (.lst ts)∧∀ p vs F' H1,Step F H F' H1→H1 p=none→Reps X.K F' ts vs→Q (.ref p) (upd H1 p (.lst vs))
theorem ok_lstN {es:List Expr} {n:Nat} {g:Env→Option (List T)} (h:PA X es (spL X c g)) (hl:∀ r ts,g r=some ts→ts.length=n):PE X (.List es pos) (spN X c (fun r=>if n≤1000 then (g r).map .lst else none)):=by
 refine pe_mono (pe_lst h) fun σ H Q q=>?_
 obtain ⟨r,F,t,e,ht,q⟩:=q
 split at ht
 ·rename_i hn
  obtain ⟨ts,e1,e2⟩:=oms ht
  cases e2
  exact ⟨r,F,t,e,e1,fun vs F' H' s1 r1=>⟨by rw [r1.length,hl r t e1];exact Nat.le_of_lt (small1000 hn),fun p hp=>q p vs F' H' s1 hp r1⟩⟩
 ·cases ht
theorem ok_lst {es:List Expr} {n:Nat} {g:Env→Option (List T)} (h:PA X es (spL X c g)) (hl:∀ r ts,g r=some ts→ts.length=n):Oke X c (.List es pos) (fun r=>if n≤1000 then (g r).map .lst else none):=by
 refine pe_mono (ok_lstN h hl) fun σ H Q q=>?_
 obtain ⟨r,F,t,e,ht,q⟩:=q
 have ht':=ht
 split at ht
 ·obtain ⟨ts,e1,rfl⟩:=oms ht
  refine ⟨r,F,ts,e,ht',fun p vs F' H' s1 hp r1=>?_⟩
  exact q _ _ _ (s1.new hp) ⟨p,vs,rfl,Ls.of upd_same,r1.mono (same_new (s1.fh.free hp))⟩
 ·cases ht
theorem ok_call {G:Glo} {k:Nat} (gd:Gd X c G k) {f:Str} {es:List Expr} {g:Env→Option (List T)} {p:Pos} (hg:glB c.sc f=true) (hp:plainName f=true) (h:PA X (a::es) (spL X c g)) (he:starEach (a::es) X.env=(false,eval a X.env)::starEach es X.env)
  (hpl:(backTo pos (starEach es X.env)).any (·.1)=false):Oke X c (.Call (.Name f p) (a::es) [] pos) (fun r=>(g r).bind fun xs=>G.call f xs):=by
 simp only [plainName,Bool.and_eq_true,Bool.not_eq_true'] at hp
 intro pins s σ H Q I q
 obtain ⟨r,F,t,e,ht,q⟩:=q
 obtain ⟨ts,e1,ht⟩:=obs ht
 obtain ⟨ad,fd,ps,h1,h2,h3,h4⟩:=gd.call f ts t (by rw [plainF,hp.2.2.1,hp.2.2.2];rfl) ht
 refine pe_call h1 gd.room (gd.gl f hg) h2 h3 h4 .nil pass0 h hp.1.1.1 he hpl pins s σ H Q I ?_
 refine ⟨r,F,ts,e,e1,fun vs F' H' s1 r1=>?_⟩
 show spT X.K (G.call f) (vs++[]) H' Q E0
 rw [List.append_nil]
 exact ⟨F',ts,t,s1.fh,e.tb.up s1,r1,ht,fun v F2 H2 s2 r2=>q v F2 H2 (s1.trans s2) r2⟩
end
end Ev
end
noncomputable section
namespace L2
open PySem
open AutoSeq1 (wpAny_loadPart')
section
variable {prog:Program} {w:World} {A:Around} {E:Value→Shared→Prop} {s:Shared}
theorem nextOf_tuple_item {it l:Addr} {i:Nat} {items:Array Value} {x:Value} {Q:Value→Shared→Prop} (hit:s.heap.IsTupleIter it l i)
  (hl:s.heap.IsTuple l items) (hx:items[i]?=some x)
  (hQ:∀ h',h'.IsTupleIter it l (i+1)→Heap.SameBut it s.heap h'→Q x { s with heap:=h' }) :
  wpAny (model prog w) A (Builtin.SmallTypes.nextOf (.ref it)) Q E s:=by
 obtain ⟨o,ho,hc,hd⟩:=id hit
 obtain ⟨ol,hol,_,nl,hdl⟩:=hl
 unfold Builtin.SmallTypes.nextOf
 refine wpAny_bind (wpAny_callSpecial?_slot (name:=Str.ofString "__next__") hit.typeIs F.slot_tuple_iterator_next
  (wpAny_call_entry F.slot_tuple_iterator_next hit.typeIs F.entry_tuple_iterator_next ?_ (F.args_tuple_iterator_next_1 _)))
 show wpAny _ _ (field (.ref it) 0 >>= _) _ _ s
 refine wpAny_bind (wpAny_field ho hd (x:=.ref l) rfl ?_)
 show wpAny _ _ (if (Value.ref l==Value.none)=true then _ else _) _ _ s
 rw [if_neg (show ¬ ((Value.ref l==Value.none)=true) from Bool.false_ne_true)]
 show wpAny _ _ (field (.ref it) 1 >>= _) _ _ s
 refine wpAny_bind (wpAny_field ho hd (x:=.int i 0) rfl ?_)
 show wpAny _ _ (seqItems? (.ref l) >>= _) _ _ s
 refine wpAny_bind (wpAny_seqItems hol hdl ?_)
 simp only [Int.toNat_natCast,hx]
 refine wpAny_bind (wpAny_setField ho hd (by simp) (wpAny_pure ⟨x,rfl,wpAny_pure (hQ _ ?_ (Heap.SameBut.update ..))⟩))
 exact ⟨_,Heap.get?_update_self _ ho (Obj.isFreed_of_fields (Obj.data_mapFields hd _)),(Obj.cls_mapFields ..).trans hc,by
  rw [Obj.data_mapFields hd];simp [rawInt]⟩
theorem nextOf_tuple_end {it l:Addr} {i:Nat} {items:Array Value} {Q:Value→Shared→Prop} (hh:A.handled=none)
  (hit:s.heap.IsTupleIter it l i) (hl:s.heap.IsTuple l items) (hx:items[i]?=none)
  (hE:∀ h' e,Heap.ExtBut it s.heap h'→(∃ o,h'.get? e=some o∧o.cls=.type "StopIteration")→E (.ref e) { s with heap:=h' }) :
  wpAny (model prog w) A (Builtin.SmallTypes.nextOf (.ref it)) Q E s:=by
 obtain ⟨o,ho,hc,hd⟩:=id hit
 obtain ⟨ol,hol,_,nl,hdl⟩:=hl
 unfold Builtin.SmallTypes.nextOf
 refine wpAny_bind (wpAny_callSpecial?_slot (name:=Str.ofString "__next__") hit.typeIs F.slot_tuple_iterator_next
  (wpAny_call_entry F.slot_tuple_iterator_next hit.typeIs F.entry_tuple_iterator_next ?_ (F.args_tuple_iterator_next_1 _)))
 show wpAny _ _ (field (.ref it) 0 >>= _) _ _ s
 refine wpAny_bind (wpAny_field ho hd (x:=.ref l) rfl ?_)
 show wpAny _ _ (if (Value.ref l==Value.none)=true then _ else _) _ _ s
 rw [if_neg (show ¬ ((Value.ref l==Value.none)=true) from Bool.false_ne_true)]
 show wpAny _ _ (field (.ref it) 1 >>= _) _ _ s
 refine wpAny_bind (wpAny_field ho hd (x:=.int i 0) rfl ?_)
 show wpAny _ _ (seqItems? (.ref l) >>= _) _ _ s
 refine wpAny_bind (wpAny_seqItems hol hdl ?_)
 simp only [Int.toNat_natCast,hx]
 first
  | refine wpAny_bind (wpAny_rule (wpAny_bind (wpAny_setField ho hd (by simp) (wpAny_bind (wpAny_letGo ?_)))))
  | refine wpAny_bind (wpAny_rule (wpAny_bind (wpAny_setField ho hd (by simp) ?_)))
 show wpAny _ _ (newExc (.type "StopIteration") [] >>= _) _ _ _
 refine wpAny_bind ?_
 simp only [newExc,newTuple]
 refine wpAny_bind (wpAny_newObj_type ?_ (by size_fits))
 refine wpAny_bind (m:=firstArgMember _ _) (wpAny_of_eq (a:=Value.none) (by first | rfl | (simp only [firstArgMember];rfl)) ?_)
 refine wpAny_newObj_type ?_ (by size_fits)
 simp only [raiseNew]
 refine wpAny_bind (wpAny_handled ?_)
 first | rw [show A.in1.handled=none from hh] | rw [hh]
 refine wpAny_bind (wpAny_pure (wpAny_throw ?_))
 exact hE _ _ (((Heap.SameBut.update ..).extBut.push _).push _) ⟨_,Heap.get?_push_size _ rfl,rfl⟩
end
theorem draws_tuple {prog:Program} {w:World} {A:Around} (hh:A.handled=none) (it l:Addr) (hne:l≠it) (items:Array Value) :
  Draws prog w A it [it,l] items.size (fun i v=>items[i]?=some v) (fun i h=>h.IsTupleIter it l i∧h.IsTuple l items) where
 live:=fun _ _ st=>let ⟨o,ho,_⟩:=st.1;⟨o,ho⟩
 frame:=fun _ _ _ st hk=>⟨let ⟨o,ho,r⟩:=st.1;⟨o,hk it (by simp) o ho,r⟩,let ⟨o,ho,r⟩:=st.2;⟨o,hk l (by simp) o ho,r⟩⟩
 item:=fun i s Q E hi st hQ=>by
  refine nextOf_tuple_item st.1 st.2 (x:=items[i]) (by simp [hi]) fun h' hit' hs'=>?_
  exact hQ _ h' s.toks (by simp [hi]) ⟨hit',let ⟨o,ho,r⟩:=st.2;⟨o,hs'.extBut l o hne ho,r⟩⟩ hs'
 done:=fun s Q E st hE=>nextOf_tuple_end hh st.1 st.2 (by simp) hE
theorem meets_enum_newT (l:Addr) (items:Array Value) (n:Nat) (dct:Option Addr) (sl:Array (Option Value)) :
  Meets (Builtin.«enumerate.__new__» ⟨[.type "enumerate",.ref l],[]⟩) (fun _ R s=>s.heap.get? l=some { cls:=.type "tuple",dict:=dct,data:=.seq items n,slots:=sl } ∧
   R (.ok (.ret (.ref (s.heap.push { cls:=.type "tuple_iterator",data:=.fields #[.ref l,.int 0 0] }).objs.size)))
    { s with heap:=(s.heap.push { cls:=.type "tuple_iterator",data:=.fields #[.ref l,.int 0 0] }).push { cls:=.type "enumerate",data:=.fields #[.none,.bool false,.ref s.heap.objs.size,rawInt 0,.none,.none] } }) :=
 .of_wp fun prog w A R s h=>by
  obtain ⟨hp,g,d,tk,os⟩:=s;obtain ⟨hl,h⟩:=h
  have hsub:=sub_enumerate
  have hL:Heap.IsTuple (Shared.heap ⟨hp,g,d,tk,os⟩) l items:=⟨_,hl,rfl,n,rfl⟩
  wp_walk using wpAny_loadPart' hl
  refine wpAny_stack_any fun st=>wpAny_pure ?_
  split
  ·rename_i c _ _ _ _ _
   cases (c==Value.type "enumerate")
   ·wp_walk using wpAny_loadPart' hl,wpAny_pyIter_tuple hL
    exact ⟨_,rfl,h⟩
   ·wp_walk using wpAny_loadPart' hl,wpAny_pyIter_tuple hL
    exact ⟨_,rfl,h⟩
  ·wp_walk using wpAny_loadPart' hl,wpAny_pyIter_tuple hL
   exact ⟨_,rfl,h⟩
section
variable {prog:Program} {w:World} {A:Around} {E:Value→Shared→Prop} {s:Shared}
theorem call_enum_tuple {l:Addr} {items:Array Value} {Q:Value→Shared→Prop} (hL:s.heap.IsTuple l items)
  (h:∀ h',IsEnum h' (s.heap.objs.size+1) s.heap.objs.size 0 .none→h'.IsTupleIter s.heap.objs.size l 0→h'.objs.size=s.heap.objs.size+2 →
   (∀ b o,s.heap.get? b=some o→h'.get? b=some o)→Q (.ref (s.heap.objs.size+1)) { s with heap:=h' }) :
  wpAny (model prog w) A (call (.type "enumerate") [.ref l]) Q E s:=by
 obtain ⟨⟨c,dct,dt,sl⟩,hl,hc,n,hd⟩:=hL
 replace hc:c=.type "tuple":=hc
 replace hd:dt=.seq items n:=hd
 subst hc hd
 refine callType_new F.called_enumerate (by decide) (F.typeCall_enumerate_1 _) (F.newCall_enumerate_1 _) (fun obj=>F.args_object_init_2 obj _) F.entry_enumerate_new
  (meets_enum_newT l items n dct sl) ⟨hl,?_⟩
 have hz:(s.heap.push { cls:=.type "tuple_iterator",data:=.fields #[.ref l,.int 0 0] }).objs.size=s.heap.objs.size+1:=Heap.size_push ..
 show _∧_
 rw [hz]
 have he:IsEnum ((s.heap.push { cls:=.type "tuple_iterator",data:=.fields #[.ref l,.int 0 0] }).push
   { cls:=.type "enumerate",data:=.fields #[.none,.bool false,.ref s.heap.objs.size,rawInt 0,.none,.none] }) (s.heap.objs.size+1) s.heap.objs.size 0 .none:=by
  have:=Heap.get?_push_size (s.heap.push { cls:=.type "tuple_iterator",data:=.fields #[.ref l,.int 0 0] })
   (o:={ cls:=.type "enumerate",data:=.fields #[.none,.bool false,.ref s.heap.objs.size,rawInt 0,.none,.none] }) rfl
  rw [hz] at this;exact this
 refine ⟨⟨_,he,rfl⟩,h _ he ⟨_,Heap.get?_push_of_some _ (Heap.get?_push_size _ rfl),rfl,rfl⟩ (by rw [Heap.size_push,hz]) fun b o x=>Heap.get?_push_of_some _ (Heap.get?_push_of_some _ x)⟩
end
end L2
end
noncomputable section
namespace L2
open PySem PySem.Spec PyProof.Rows
theorem lookup_relabel {env:PySem.Env}:∀ (names:List (Str × NameKind)) (x:Str),
  (names.map fun (n,k)=>if (k==NameKind.free&&env.scope.kind==.function&&env.kindOf n==some .cell) then (n,NameKind.cell) else (n,k)).lookup x =
   (match names.lookup x with | some .free=>if (env.scope.kind==.function&&env.kindOf x==some .cell) then some .cell else some .free | o=>o)
 | [],_=>rfl
 | (n,k)::r,x=>by
  rw [List.map_cons]
  cases hx:x==n with
  | false =>
   have e:∀ k',List.lookup x ((n,k')::(r.map fun (n,k)=>if (k==NameKind.free&&env.scope.kind==.function&&env.kindOf n==some .cell) then (n,NameKind.cell) else (n,k)))=List.lookup x (r.map fun (n,k)=>if (k==NameKind.free&&env.scope.kind==.function&&env.kindOf n==some .cell) then (n,NameKind.cell) else (n,k)):=fun k'=>by rw [List.lookup_cons,hx]
   have e2:List.lookup x ((n,k)::r)=List.lookup x r:=by rw [List.lookup_cons,hx]
   rw [e2,← lookup_relabel r x]
   show List.lookup x ((if (k==NameKind.free&&env.scope.kind==.function&&env.kindOf n==some .cell)=true then (n,NameKind.cell) else (n,k))::_)=_
   by_cases hc:(k==NameKind.free&&env.scope.kind==.function&&env.kindOf n==some .cell)=true
   ·rw [if_pos hc];exact e _
   ·rw [if_neg hc];exact e _
  | true =>
   have en:x=n:=beq_iff_eq.mp hx
   subst en
   have e2:List.lookup x ((x,k)::r)=some k:=by rw [List.lookup_cons,beq_self_eq_true]
   rw [e2]
   have e:∀ k',List.lookup x ((x,k')::(r.map fun (n,k)=>if (k==NameKind.free&&env.scope.kind==.function&&env.kindOf n==some .cell) then (n,NameKind.cell) else (n,k)))=some k':=fun k'=>by rw [List.lookup_cons,beq_self_eq_true]
   cases k<;>simp only [beq_self_eq_true,Bool.true_and,Bool.false_and,Bool.false_eq_true,if_false,show (NameKind.local==NameKind.free)=false from rfl,show (NameKind.cell==NameKind.free)=false from rfl,show (NameKind.globalExplicit==NameKind.free)=false from rfl,show (NameKind.globalImplicit==NameKind.free)=false from rfl]<;>first | exact e _ | (split<;>exact e _)
def capN (sc:Scope) (N:List Str):List Str:=N.filter fun y=>sc.names.lookup y==some .free
def capS (sc:Scope):List Str→St→St
 | x::N,o::σ=>if sc.names.lookup x==some .free then o::capS sc N σ else capS sc N σ
 | _,_=>[]
theorem capS_len (sc:Scope):∀ (N:List Str) (σ:St),σ.length=N.length→(capS sc N σ).length=(capN sc N).length
 | [],[],_=>rfl
 | [],_::_,h=>by simp at h
 | _::_,[],h=>by simp at h
 | x::N,o::σ,h=>by
  unfold capS capN
  rw [List.filter_cons]
  have ih:=capS_len sc N σ (by simpa using h)
  unfold capN at ih
  split
  ·simp [ih]
  ·exact ih
theorem cap_get (sc:Scope) {x:Str} (hx:sc.names.lookup x=some .free):∀ (N:List Str) (σ:St),σ.length=N.length→∀ {j:Nat} {v:V},N[j]?=some x→σ[j]?=some (some v)→∃ (i:Nat),(capN sc N)[i]?=some x∧(capS sc N σ)[i]?=some (some v)
 | [],[],_,j,v,h1,h2=>by simp at h1
 | [],_::_,h,_,_,_,_=>by simp at h
 | _::_,[],h,_,_,_,_=>by simp at h
 | y::N,o::σ,h,0,v,h1,h2=>by
  simp at h1 h2
  subst h1 h2
  refine ⟨0,?_,?_⟩
  ·unfold capN;rw [List.filter_cons,if_pos (by rw [hx];rfl)];rfl
  ·unfold capS;rw [if_pos (by rw [hx];rfl)];rfl
 | y::N,o::σ,h,j+1,v,h1,h2=>by
  obtain ⟨i,h3,h4⟩:=cap_get sc hx N σ (by simpa using h) (j:=j) (v:=v) (by simpa using h1) (by simpa using h2)
  unfold capN at h3 ⊢
  rw [List.filter_cons]
  unfold capS
  split
  ·exact ⟨i+1,by simpa using h3,by simpa using h4⟩
  ·exact ⟨i,h3,h4⟩
theorem cap_of (sc:Scope):∀ (N:List Str) (σ:St) {i:Nat} {x:Str} {v:V},(capN sc N)[i]?=some x→(capS sc N σ)[i]?=some (some v)→σ.length=N.length→sc.names.lookup x=some .free∧∃ (j:Nat),N[j]?=some x∧σ[j]?=some (some v)
 | [],_,i,x,v,h1,_,_=>by unfold capN at h1;simp at h1
 | _::_,[],_,_,_,_,_,h=>by simp at h
 | y::N,o::σ,i,x,v,h1,h2,h=>by
  unfold capN at h1
  rw [List.filter_cons] at h1
  unfold capS at h2
  by_cases hy:(sc.names.lookup y==some .free)=true
  ·rw [if_pos hy] at h1 h2
   cases i with
   | zero =>
    simp at h1 h2
    subst h1 h2
    exact ⟨by simpa using hy,0,rfl,rfl⟩
   | succ i =>
    obtain ⟨h3,j,h4,h5⟩:=cap_of sc N σ (i:=i) (by simpa [capN] using h1) (by simpa using h2) (by simpa using h)
    exact ⟨h3,j+1,by simpa using h4,by simpa using h5⟩
  ·rw [if_neg hy] at h1 h2
   obtain ⟨h3,j,h4,h5⟩:=cap_of sc N σ (i:=i) (by simpa [capN] using h1) h2 (by simpa using h)
   exact ⟨h3,j+1,by simpa using h4,by simpa using h5⟩
def blk (X:Cx) (pins:List (Addr × Obj)) (scope:Scope) (xs:List Str) (fp:List Addr) (s₃:Shared) (H₃:Hp):Cx where
 prog:=X.prog
 w:=X.w
 K:=X.K
 mg:=X.mg
 base:=X.base
 A:=X.A
 N:=xs++capN scope X.N
 s₀:=s₃
 H₀:=H₃
 env:={ scope:=relabel scope X.env,locals:=s₃.heap.objs.size,globals:=X.env.globals,cells:=cellsFrom (s₃.heap.objs.size+1) scope.names (closFrom X.env scope.names []),qual:=X.env.qual,func:=none,code:=X.env.code,frame:=X.env.frame,builtins:=X.env.builtins }
 outer:=X.stack
 stack:=X.stack
 ex:=fp
 fn:=fun x=>scope.names.lookup x==some .cell
 calm:=X.calm
 pn:=X.pn++pins
 xe:=fun _ _=>False
structure CompSc (X:Cx) (scope:Scope) (xs:List Str):Prop where
 kind:scope.kind=.function
 nd:xs.Nodup
 own:∀ x∈xs,scope.names.lookup x=some .local∨scope.names.lookup x=some .cell
 free:∀ y∈scope.names,y.2=.free→scope.names.lookup y.1=some .free∧(X.env.kindOf y.1=some .cell∨X.env.kindOf y.1=some .free)
 loc:∀ y∈scope.names,y.2=.local→scope.names.lookup y.1=some .local
 cel:∀ y∈scope.names,y.2=.cell→scope.names.lookup y.1=some .cell
section
variable {X:Cx} {pins:List (Addr × Obj)} {scope:Scope} {xs:List Str} {fp:List Addr} {s₃:Shared} {H₃:Hp} {σ:St}
theorem CompSc.has (S:CompSc X scope xs) (ok:X.Ok):∀ y∈scope.names,y.2=.free→∃ c,X.env.cells.lookup y.1=some c:=fun y hy hf=>ok.has y.1 (S.free y hy hf).2
theorem blk_kind (scope:Scope) (X:Cx) (pins:List (Addr × Obj)) (xs:List Str) (fp:List Addr) (s₃:Shared) (H₃:Hp) (x:Str):(blk X pins scope xs fp s₃ H₃).env.scope.names.lookup x =
  (match scope.names.lookup x with | some .free=>if (X.env.scope.kind==.function&&X.env.kindOf x==some .cell) then some .cell else some .free | o=>o):=lookup_relabel scope.names x
theorem blk_cell (S:CompSc X scope xs) (ok:X.Ok) {x:Str} {c:Addr} (h:(blk X pins scope xs fp s₃ H₃).env.cells.lookup x=some c) :
  (s₃.heap.objs.size+1≤c∧(x,c)∈cellsFrom (s₃.heap.objs.size+1) scope.names []∧(x,NameKind.cell)∈scope.names)∨((cellsFrom (s₃.heap.objs.size+1) scope.names []).lookup x=none∧X.env.cells.lookup x=some c):=by
 rcases cells_look h with h | ⟨h1,h2⟩
 ·obtain ⟨h1,h2⟩:=cells_mem scope.names _ h
  exact .inl ⟨h1,h,h2⟩
 ·exact .inr ⟨h1,clos_sub scope.names [] (fun _ _ e=>by cases e) (S.has ok) x c h2⟩
theorem mem_names {l:List (Str × NameKind)} {x:Str} {k:NameKind} (h:l.lookup x=some k):(x,k)∈l:=PySem.mem_of_lookup h
theorem blk_ok (S:CompSc X scope xs) (I:Inv X pins σ H₃ s₃) (ff:∀ b∈fp,FpOk X pins H₃ b) (fl:∀ b∈fp,b<s₃.heap.objs.size):(blk X pins scope xs fp s₃ H₃).Ok where
 mod:=I.ok.mod
 kind:=S.kind
 glob:=I.ok.glob
 blt:=I.ok.blt
 above:=Nat.le_refl _
 inj:=fun x y c h1 h2=>by
  have up:∀ {z:Str} {c:Addr},X.env.cells.lookup z=some c→c<s₃.heap.objs.size:=fun {z c} h=>by
   obtain ⟨v,q⟩:=I.cell z c h
   exact q.lt
  rcases blk_cell S I.ok h1 with ⟨a1,a2,_⟩ | ⟨_,a2⟩<;>rcases blk_cell S I.ok h2 with ⟨b1,b2,_⟩ | ⟨_,b2⟩
  ·have ok:=cellsFrom_ok scope.names (s₃.heap.push { cls:=.type "dict",data:=.dict #[] }) (s₃.heap.objs.size+1) [] ⟨fun _ _ hm=>(nomatch hm),List.Pairwise.nil⟩ (by rw [Heap.size_push];exact Nat.le_refl _)
   rw [Heap.size_push] at ok
   exact name_of_addr ok.apart a2 b2
  ·exact absurd (Nat.lt_of_lt_of_le (up b2) (Nat.le_of_succ_le a1)) (Nat.lt_irrefl _)
  ·exact absurd (Nat.lt_of_lt_of_le (up a2) (Nat.le_of_succ_le b1)) (Nat.lt_irrefl _)
  ·exact I.ok.inj x y c a2 b2
 has:=fun x h=>by
  have h':(blk X pins scope xs fp s₃ H₃).env.scope.names.lookup x=some .cell∨(blk X pins scope xs fp s₃ H₃).env.scope.names.lookup x=some .free:=h
  rw [blk_kind] at h'
  have key:(x,NameKind.cell)∈scope.names∨(x,NameKind.free)∈scope.names:=by
   cases e:scope.names.lookup x with
   | none=>rw [e] at h';rcases h' with h' | h'<;>cases h'
   | some k =>
    rw [e] at h'
    cases k with
    | cell=>exact .inl (mem_names e)
    | free=>exact .inr (mem_names e)
    | _=>rcases h' with h' | h'<;>cases h'
  refine Option.isSome_iff_exists.mp (cells_has scope.names _ _ ?_)
  rcases key with k | k
  ·exact .inl k
  ·exact .inr (clos_has scope.names [] (.inl k))
 cab:=fun x c hf h=>by
  have hf':scope.names.lookup x=some .cell:=by simpa [blk] using hf
  have hs:=cells_has (x:=x) scope.names (s₃.heap.objs.size+1) [] (.inl (mem_names hf'))
  rcases blk_cell S I.ok h with ⟨a1,_⟩ | ⟨a1,_⟩
  ·exact Nat.le_of_lt (Nat.lt_of_lt_of_le (Nat.lt_succ_self _) a1)
  ·rw [a1] at hs;cases hs
 hd:=I.ok.hd
 frames:=I.ok.frames
 stk:=.inl rfl
 exf:=fun b hb=>⟨Nat.ne_of_lt (fl b hb),fun x c h=>by
  rcases blk_cell S I.ok h with ⟨a1,_⟩ | ⟨_,a2⟩
  ·exact fun z=>by
    have h1:=fl b hb
    rw [← z] at h1
    exact absurd (Nat.lt_of_lt_of_le h1 (Nat.le_of_succ_le a1)) (Nat.lt_irrefl _)
  ·exact (ff b hb).2.2.2.2.1 x c a2⟩
 bs:=I.bs
 bsz:=Nat.le_trans I.ok.bsz I.sz
 noex:=fun b o e hb=>by
  obtain ⟨_,_,_,h4,_⟩:=ff b hb
  rcases h4 with h4 | h4
  ·exact I.ok.noex b o e h4
  ·exact absurd (Nat.lt_of_lt_of_le (Heap.lt_size (I.ok.bs b o e).1) h4) (Nat.lt_irrefl _)
 exfs:=fun b hb hf=>by
  rcases List.mem_cons.mp (I.stkSub b hf) with z | z
  ·exact (ff b hb).2.1 z
  ·exact (ff b hb).2.2.1 z
 funs:=I.stack
 frf:=I.stkFree
def blkS (scope:Scope) (xs:List Str) (N:List Str) (σ:St):St:=List.replicate xs.length none++capS scope N σ
theorem blk_start (S:CompSc X scope xs) (I:Inv X pins σ H₃ s₃) (ff:∀ b∈fp,FpOk X pins H₃ b) (fl:∀ b∈fp,b<s₃.heap.objs.size) :
  Inv (blk X pins scope xs fp s₃ H₃) [] (blkS scope xs X.N σ) H₃ { s₃ with heap:=pushCells (s₃.heap.push { cls:=.type "dict",data:=.dict #[] }) scope.names }:=by
 have keep:∀ b o,s₃.heap.get? b=some o→(pushCells (s₃.heap.push { cls:=.type "dict",data:=.dict #[] }) scope.names).get? b=some o:=fun b o e=>pushCells_keeps _ _ b o (Heap.get?_push_of_some _ e)
 have cok:=cellsFrom_ok scope.names (s₃.heap.push { cls:=.type "dict",data:=.dict #[] }) (s₃.heap.objs.size+1) [] ⟨fun _ _ hm=>(nomatch hm),List.Pairwise.nil⟩ (by rw [Heap.size_push];exact Nat.le_refl _)
 rw [Heap.size_push] at cok
 have hlen:σ.length=X.N.length:=I.len
 refine ⟨blk_ok S I ff fl,rfl,I.bare,Un.kept keep,⟨fun _=>none,(Heap.Ns.new s₃.heap (.type "dict")).keeps (pushCells_keeps _ _),fun i x v e1 e2 e3=>?_⟩,fun x c h=>?_,I.fresh,fun x c h=>?_,fun p hp=>?_,I.hok.kept keep,?_⟩
 ·have hi:xs.length≤i:=by
   refine Nat.le_of_not_lt fun hlt=>?_
   unfold blkS at e2
   rw [List.getElem?_append_left (by simpa using hlt),List.getElem?_replicate] at e2
   split at e2<;>cases e2
  have e1':(capN scope X.N)[i-xs.length]?=some x:=by
   have e1:(xs++capN scope X.N)[i]?=some x:=e1
   rw [List.getElem?_append_right hi] at e1;exact e1
  have e2':(capS scope X.N σ)[i-xs.length]?=some (some v):=by
   unfold blkS at e2
   rw [List.getElem?_append_right (by simpa using hi)] at e2
   simpa using e2
  obtain ⟨hf,j,h1,h2⟩:=cap_of scope X.N σ e1' e2' hlen
  have hm:=mem_names hf
  have hk:=(S.free _ hm rfl).2
  obtain ⟨m,hn,hl⟩:=I.loc
  obtain ⟨u,r,l⟩:=hl j x v h1 h2 (hk.elim (fun z=>.inr (.inl z)) fun z=>.inr (.inr z))
  refine ⟨u,r,?_⟩
  rcases l with ⟨k,_⟩ | ⟨k,c,hc,z⟩
  ·rcases hk with hk | hk<;>rw [hk] at k<;>cases k
  ·refine .inr ⟨?_,c,?_,?_⟩
   ·show (blk X pins scope xs fp s₃ H₃).env.scope.names.lookup x=_∨(blk X pins scope xs fp s₃ H₃).env.scope.names.lookup x=_
    rw [blk_kind,hf]
    dsimp only
    split
    ·exact .inl rfl
    ·exact .inr rfl
   ·show (cellsFrom (s₃.heap.objs.size+1) scope.names (closFrom X.env scope.names [])).lookup x=some c
    have e0:(cellsFrom (s₃.heap.objs.size+1) scope.names []).lookup x=none:=by
     cases q:(cellsFrom (s₃.heap.objs.size+1) scope.names []).lookup x with
     | none=>rfl
     | some d =>
      have:=S.cel _ (cells_mem scope.names _ (PySem.mem_of_lookup q)).2 rfl
      rw [hf] at this;cases this
    rw [cells_app,List.lookup_append,e0,clos_get (S.has I.ok) hm]
    exact hc
   ·obtain ⟨o,ho,hd⟩:=z
    exact ⟨o,keep c o ho,hd⟩
 ·rcases blk_cell S I.ok h with ⟨_,a2,_⟩ | ⟨_,a2⟩
  ·exact ⟨_,(cok.empty x c a2).1⟩
  ·obtain ⟨v,o,ho,hd⟩:=I.cell x c a2
   exact ⟨v,o,keep c o ho,hd⟩
 ·rcases blk_cell S I.ok h with ⟨a1,_⟩ | ⟨_,a2⟩
  ·exact I.hok.fresh (by omega)
  ·exact I.freeC x c a2
 ·have hp':p∈X.pn++pins:=by
   have hp:p∈(X.pn++pins)++[]:=hp
   rw [List.append_nil] at hp;exact hp
  obtain ⟨e,n,ne,nf,d⟩:=I.pin p hp'
  refine ⟨keep p.1 p.2 e,n,Nat.ne_of_lt (Heap.lt_size e),fun z=>?_,d⟩
  rcases List.mem_cons.mp (I.stkSub p.1 z) with q | q
  ·exact ne q
  ·exact nf q
 ·unfold blkS
  show _=(xs++capN scope X.N).length
  rw [List.length_append,List.length_append,List.length_replicate,capS_len scope X.N σ hlen]
theorem comp_run {elt iter tg:Expr} {ifs:List Expr} {pos:Pos} {J:It} {it:Addr} {tn:Nat→Heap→Prop} {H2:Hp} {s2:Shared} {E:Value→Shared→Prop} {g:Shared→Hp→TG} {tc:Shared→Hp→TT} {te:Shared→Hp→TE}
  (hc:X.calm=true) (S:CompSc X scope xs) (I2:Inv X pins σ H2 s2) (T:Turn X.prog X.w X.K tg J fp it tn) (st2:tn 0 s2.heap) (f2:∀ b∈fp,FpOk X pins H2 b)
  (hg:∀ s₃ H₃,(blk X pins scope xs fp s₃ H₃).Ok→PG (blk X pins scope xs fp s₃ H₃) tg (g s₃ H₃))
  (hi:∀ s₃ H₃,(blk X pins scope xs fp s₃ H₃).Ok→∀ (pn:List (Addr × Obj)) (s:Shared) (σ:St) (H:Hp) (Q:Bool→Hp→Prop),Inv (blk X pins scope xs fp s₃ H₃) pn σ H s→tc s₃ H₃ σ H Q →
   wpAny (model X.prog X.w) X.A (forIn ifs true fun c r=>if r=true then do let ok ← isTrue c (blk X pins scope xs fp s₃ H₃).env (eval c (blk X pins scope xs fp s₃ H₃).env);pure (ForInStep.yield ok) else pure (ForInStep.yield r)) (TP (blk X pins scope xs fp s₃ H₃) pn σ Q) (fun _ _=>False) s)
  (he:∀ s₃ H₃,(blk X pins scope xs fp s₃ H₃).Ok→PE (blk X pins scope xs fp s₃ H₃) elt (te s₃ H₃))
  (W:Addr→Nat→Nat→St→Hp→Prop) (R:Addr→Hp→Prop)
  (start:∀ D,H2 D=none→∃ m,W D 0 m (blkS scope xs X.N σ) (upd H2 D (.lst [])))
  (turn:∀ s₃ H₃ D i m σ' H',(blk X pins scope xs fp s₃ H₃).Ok→W D i m σ' H'→(J.stop i H'∧R D H')∨(J.go i H'∧∃ N:St→Hp→Prop,(∀ σ'' H'',N σ'' H''→∃ m',m'<m∧W D (i+1) m' σ'' H'') ∧
   ∀ x H5,J.yld i H' x H5→g s₃ H₃ x σ' H5 fun σ2 H6=>tc s₃ H₃ σ2 H6 fun ok H7=>if ok=true then te s₃ H₃ σ2 H7 fun y H8=>∃ ys,H8 D=some (.lst ys)∧ys.length<sizeLine∧N σ2 (upd H8 D (.lst (ys++[y]))) else N σ2 H7)) :
  wpAny (model X.prog X.w) X.A (newList []) (fun acc s₃=>wpAny (model X.prog X.w) X.A (newFunctionEnv scope X.env.globals (closFrom X.env scope.names []) [] X.env.qual none .none (some X.env)) (fun cenv s₄ =>
   codeAny (model X.prog X.w) X.A (.compStart (.ListComp elt [⟨tg,iter,ifs,0⟩] scope pos) 0 (.ref it) acc { cenv with scope:=relabel scope X.env })
    (fun r s'=>r=.ok .next∧∃ D H',acc=.ref D∧Inv X pins σ H' s'∧FpOk X pins H' cenv.locals∧(∃ m,s'.heap.Ns cenv.locals m)∧R D H') s₄) E s₃) E s2:=by
 refine wpAny_newObj_type ?_ (by size_fits)
 have I3:Inv X pins σ (upd H2 s2.heap.objs.size (.lst [])) { s2 with heap:=s2.heap.push { cls:=.type "list",data:=.seq ([]:List Value).toArray } }:=I2.lnew (t':=s2.toks) (ys:=[]) (its:=[]) .nil (Nat.zero_le _)
 have hD:H2 s2.heap.objs.size=none:=I2.fresh
 have fl2:∀ b∈fp,b<s2.heap.objs.size:=fun b hb=>by
  obtain ⟨o,e,_⟩:=T.obj 0 _ st2 b hb
  exact Heap.lt_size e
 have hsz:(s2.heap.push { cls:=.type "list",data:=.seq ([]:List Value).toArray }).objs.size=s2.heap.objs.size+1:=Heap.size_push ..
 have f3:∀ b∈fp,FpOk X pins (upd H2 s2.heap.objs.size (.lst [])) b:=fun b hb=>⟨by rw [upd_ne (Nat.ne_of_lt (fl2 b hb))];exact (f2 b hb).1,(f2 b hb).2⟩
 have fl3:∀ b∈fp,b<(s2.heap.push { cls:=.type "list",data:=.seq ([]:List Value).toArray }).objs.size:=fun b hb=>by rw [hsz];exact Nat.lt_succ_of_lt (fl2 b hb)
 refine nfe_comp ?_
 generalize hs3:({ s2 with heap:=s2.heap.push { cls:=.type "list",data:=.seq ([]:List Value).toArray } }:Shared)=s3 at I3 fl3 ⊢
 have fl3:∀ b∈fp,b<s3.heap.objs.size:=by rw [← hs3];exact fl3
 have st3:tn 0 s3.heap:=T.keep 0 _ _ st2 fun b _ o e=>by rw [← hs3];exact Heap.get?_push_of_some _ e
 generalize hH3:upd H2 s2.heap.objs.size (.lst [])=H3 at I3 f3
 obtain ⟨m0,w0⟩:=start s2.heap.objs.size hD
 rw [hH3] at w0
 generalize hDD:s2.heap.objs.size=D at w0
 have BOk:=blk_ok (fp:=fp) S I3 f3 fl3
 have I4:=blk_start (fp:=fp) S I3 f3 fl3
 have hg':=hg s3 H3 BOk
 have hi':=hi s3 H3 BOk
 have he':=he s3 H3 BOk
 have st4:tn 0 (pushCells (s3.heap.push { cls:=.type "dict",data:=.dict #[] }) scope.names):=T.keep 0 _ _ st3 fun b _ o e=>pushCells_keeps _ _ b o (Heap.get?_push_of_some _ e)
 have stat:∀ {H':Hp} {pn:List (Addr × Obj)},pn=[]→(∀ b∈fp,H' b=none)→∀ b∈fp,FpOk (blk X pins scope xs fp s3 H3) pn H' b:=fun {H' pn} hp hn b hb=>by
  subst hp
  refine ⟨hn b hb,(BOk.exf b hb).1,BOk.exfs b hb,.inl hb,(BOk.exf b hb).2,fun p hp=>?_⟩
  have hp:p∈(X.pn++pins)++[]:=hp
  rw [List.append_nil] at hp
  exact (f3 b hb).2.2.2.2.2 p hp
 have loop:codeAny (model X.prog X.w) X.A (.compLoop (.ListComp elt [⟨tg,iter,ifs,0⟩] scope pos) 0 (.ref it) (.ref D) (blk X pins scope xs fp s3 H3).env)
   (fun r s'=>r=.ok .next∧∃ D' H',Value.ref D=.ref D'∧Inv X pins σ H' s'∧FpOk X pins H' s3.heap.objs.size∧(∃ m,s'.heap.Ns s3.heap.objs.size m)∧R D' H') { s3 with heap:=pushCells (s3.heap.push { cls:=.type "dict",data:=.dict #[] }) scope.names }:=by
  refine codeAny_loop rfl (fun n s'=>∃ i σ' H',Inv (blk X pins scope xs fp s3 H3) [] σ' H' s'∧tn i s'.heap∧(∀ b∈fp,H' b=none)∧W D i n σ' H') ?_ m0 ⟨0,_,_,I4,st4,fun b hb=>(f3 b hb).1,w0⟩
  rintro n s5 ⟨i,σ5,H5,I5,st5,fr5,w5⟩
  show wpAny _ X.A ((compTurn (.ListComp elt [⟨tg,iter,ifs,0⟩] scope pos) 0 (.ref it) (.ref D) (blk X pins scope xs fp s3 H3).env).onRaise (fun x=>do noteFrame x (blk X pins scope xs fp s3 H3).env;theTreesLotGoes x)) _ _ s5
  refine wpAny_noted ?_
  rw [compTurn_list]
  refine wpAny_bind (wpAny_standAt (wpAny_bind ?_))
  rcases turn s3 H3 D i n σ5 H5 BOk w5 with ⟨stop,q⟩ | ⟨go,N,hN,step⟩
  ·refine thn (T.done (blk X pins scope xs fp s3 H3) rfl rfl rfl hc i [] s5 σ5 H5 _ I5 (stat rfl fr5) st5 stop) fun r s6 ⟨hr,I6⟩=>?_
   subst hr
   refine wpAny_pure ⟨rfl,D,H5,rfl,?_,?_,?_,q⟩
   ·exact I3.call' I6.os I6.base I6.hok I6.bare fun b hb=>⟨(f3 b hb).2.2.2.1,(f3 b hb).2.1,(f3 b hb).2.2.2.2.1,(f3 b hb).2.2.2.2.2⟩
   ·exact I3.fpOk (Nat.le_refl _) I6.free
   ·obtain ⟨m,hn,_⟩:=I6.loc
    exact ⟨m,hn⟩
  ·refine thn (T.item (blk X pins scope xs fp s3 H3) rfl rfl rfl hc i [] s5 σ5 H5 _ I5 (stat rfl fr5) st5 go) fun r s6 ⟨u,hr,h6⟩=>?_
   subst hr
   refine wpAny_bind (thn h6 fun _ s7 ⟨x,H7,I7,r7,y7,st7,fr7⟩=>?_)
   have I7':=I7.pinned (stat rfl fr7) (T.obj _ _ st7)
   have hl:∀ {α:Type} {t:Sem α} {Q:α→Shared→Prop} {E':Value→Shared→Prop} {s:Shared},wpAny (model X.prog X.w) X.A t Q (fun _ _=>False) s→wpAny (model X.prog X.w) X.A t Q E' s:=fun h=>wpAny_mono h (fun _ _ q=>q) fun _ _ z=>False.elim z
   refine wpAny_bind (hl (thn (hg' _ s7 σ5 H7 x u _ I7' r7 (step x H7 y7)) fun _ s8 ⟨σ8,H8,I8,q8⟩=>?_))
   refine wpAny_bind (hl (thn (hi' _ s8 σ8 H8 _ I8 q8) fun ok s9 ⟨H9,I9,q9⟩=>?_))
   have again:∀ {σ7:St} {H7':Hp} {s7':Shared},Inv (blk X pins scope xs fp s3 H3) ([]++pinsAt fp s7.heap) σ7 H7' s7'→N σ7 H7'→∃ m,m<n∧∃ i σ' H',Inv (blk X pins scope xs fp s3 H3) [] σ' H' s7'∧tn i s7'.heap∧(∀ b∈fp,H' b=none)∧W D i m σ' H':=fun {σ7 H7' s7'} I8 n8=>by
    obtain ⟨m',hm,w8⟩:=hN σ7 H7' n8
    refine ⟨m',hm,i+1,σ7,H7',I8.unpinned,T.keep _ _ _ st7 fun b hb o e=>(I8.pin (b,o) (List.mem_append_right _ (List.mem_append_right _ (mem_pinsAt hb e)))).1,fun b hb=>?_,w8⟩
    obtain ⟨o,e,d⟩:=T.obj _ _ st7 b hb
    exact (I8.pin (b,o) (List.mem_append_right _ (List.mem_append_right _ (mem_pinsAt hb e)))).2.1
   cases ok with
   | false =>
    rw [if_neg Bool.false_ne_true] at q9
    exact wpAny_pure ⟨rfl,again I9 q9⟩
   | true =>
    rw [if_pos rfl] at q9
    refine wpAny_bind (wpAny_bind (hl (thn (he' _ s9 σ8 H9 _ I9 q9) fun y s10 ⟨yv,H10,I10,r10,ys,e10,z10,q10⟩=>?_)))
    refine wpAny_bind (hl (thn (mt_append (X:=blk X pins scope xs fp s3 H3) _ s10 σ8 H10 (.ref D) [yv] (.ref D) [y] (fun _ H'=>N σ8 H') I10 rfl (.cons r10 .nil) ⟨D,ys,yv,rfl,rfl,e10,z10,q10⟩) fun _ s11 ⟨_,H11,I11,_,q11⟩=>?_))
    exact wpAny_pure (wpAny_pure ⟨rfl,again I11 q11⟩)
 exact codeAny_compStart_list loop (T.self X.A 0 _ _ _ st4 loop)
end
end L2
end
noncomputable section
namespace L2
open PySem PySem.Spec PyProof.Rows
section
variable {X:Cx} {pins:List (Addr × Obj)} {σ:St} {H:Hp} {s:Shared} {h':Heap}
theorem Inv.turned2 {it e T:Addr} {xs:List V} {t':Nat} (I:Inv X pins σ H s) (k:∀ b o,b≠e→b≠it→s.heap.get? b=some o→h'.get? b=some o) (fe:FpOk X pins H e) (fi:FpOk X pins H it)
  (hT:s.heap.objs.size≤T) (new:ObjOk X.prog X.w (upd H T (.tup xs)) h' T (.tup xs)):Inv X pins σ (upd H T (.tup xs)) { s with heap:=h',toks:=t' }:=by
 have hn:H T=none:=I.hok.fresh hT
 have nT:∀ {b:Addr} {o:Obj},s.heap.get? b=some o→b≠T:=fun {b o} q=>Nat.ne_of_lt (Nat.lt_of_lt_of_le (Heap.lt_size q) hT)
 have nch:∀ {b:Addr},b∉[e,it]→b≠e∧b≠it:=fun {b} h=>⟨fun z=>h (by simp [z]),fun z=>h (by simp [z])⟩
 have nfp:∀ {b:Addr} {u:HO},H b=some u→b≠e∧b≠it:=fun {b u} q=>⟨fun z=>(by rw [z,fe.1] at q;cases q),fun z=>(by rw [z,fi.1] at q;cases q)⟩
 refine I.step (g':=s.gens) (d':=s.drawn) (ch:=[e,it]) (fun b hb=>?_) (fun b o _ _ hc q _=>k b o (nch hc).1 (nch hc).2 q) (fun b o _ _ hc q _=>⟨o.slots,k b o (nch hc).1 (nch hc).2 q⟩)
  (fun b o hc q z=>by rw [upd_ne (nT q)];exact z) (fun b o hc q=>⟨o,k b o (nch hc).1 (nch hc).2 q⟩)
  (fun b ys q=>by rw [upd_ne (ne_of_none q hn)];exact q) (fun b o u q=>by rw [upd_ne (ne_of_none q hn)];exact q) (fun b ps q=>⟨#[],by rw [upd_ne (ne_of_none q hn),q];simp⟩) (fun m hm=>?_) (fun b u q=>?_) I.bare
 ·rcases List.mem_cons.mp hb with z | z
  ·rw [z];exact ⟨fe.2.2.2.1,fe.2.1,fe.2.2.2.2.1,fe.2.2.2.2.2⟩
  ·rw [List.mem_singleton.mp z];exact ⟨fi.2.2.2.1,fi.2.1,fi.2.2.2.2.1,fi.2.2.2.2.2⟩
 ·obtain ⟨o,es,ep,ho,r⟩:=hm
  exact ⟨o,es,ep,k _ o (Ne.symm fe.2.1) (Ne.symm fi.2.1) ho,r⟩
 ·by_cases hb:b=T
  ·subst hb;rw [upd_same] at q;cases q;exact new
  ·rw [upd_ne hb] at q
   refine (I.hok b u q).stay (fun c v hc z=>?_) (fun c z=>by rw [upd_ne (ne_of_none z hn)];exact z) fun c ys z=>by rw [upd_ne (ne_of_none z hn)];exact z
   rcases hc with rfl | hc
   ·exact k c v (nfp q).1 (nfp q).2 z
   ·exact k c v (nfp hc).1 (nfp hc).2 z
end
def Ite (sq:Hp→Addr→List V→Prop) (a:Addr):It :=
 ⟨fun i H=>∃ xs x,sq H a xs∧xs[i]?=some x,fun i H x H'=>∃ p v,H p=none∧x=.ref p∧H'=upd H p (.tup [.int (i:Int),v])∧∀ xs,sq H a xs→xs[i]?=some v,fun i H=>∃ xs,sq H a xs∧xs.length=i⟩
theorem turn_enumL {P:Program} {w:World} {K:PySem.W.Frag} {elts:List Expr} {kx:Nat} {pos:Pos} (a it e:Addr) (hei:e≠it) :
  Turn P w K (.Tuple elts kx pos) (Ite (SqL K) a) [e,it] e (fun i h=>(∃ old,IsEnum h e it (i:Int) old)∧h.IsListIter it a i) where
 mem:=by simp
 obj:=fun i h st b hb=>by
  obtain ⟨⟨old,he⟩,o,ho,hc,hd⟩:=st
  rcases List.mem_cons.mp hb with z | z
  ·rw [z];exact ⟨_,he,fun v q=>by cases q⟩
  ·rw [List.mem_singleton.mp z];exact ⟨o,ho,fun v q=>by rw [hd] at q;cases q⟩
 keep:=fun i h h' st k=>by
  obtain ⟨⟨old,he⟩,o,ho,r⟩:=st
  exact ⟨⟨old,k e (by simp) _ he⟩,o,k it (by simp) o ho,r⟩
 item:=by
  intro X hP hw hK hc i pins s σ H E I hf st hg
  subst hP hw hK
  obtain ⟨xs,x,hq,hx⟩:=hg
  obtain ⟨⟨old,he⟩,hit⟩:=st
  obtain ⟨its,rv,p,hz⟩:=I.list hq
  obtain ⟨u,hu,ru⟩:=rv.get hx
  have fe:=hf e (by simp)
  have fi:=hf it (by simp)
  obtain ⟨ol,hol,hcl,_⟩:=id p.isList
  obtain ⟨oi,hoi,hci,_⟩:=id hit
  have hai:a≠it:=fun z=>by
   rw [z,hoi] at hol;cases hol
   rw [hci] at hcl;exact absurd hcl (by decide +kernel)
  have hae:e≠a:=fun z=>by
   have he':s.heap.get? e=_:=he
   rw [z,hol] at he';cases he'
   exact absurd hcl (by show Value.type "enumerate"≠Value.type "list";decide +kernel)
  have D:=Draws.list (prog:=X.prog) (w:=X.w) (A:=X.A.in1) (show X.A.in1.handled=none from I.ok.hd hc) it a hai its.toArray
  have hlt:i<its.toArray.size:=by
   have:=rv.length
   have h2:=(List.getElem?_eq_some_iff.mp hx).1
   rw [List.size_toArray];omega
  refine wpAny_pyNext_enum_itemD D he ⟨hit,p.isList⟩ hlt hei (fun z=>(List.mem_cons.mp z).elim hei fun q=>hae (List.mem_singleton.mp q)) fun x' h1 tk hPx ho st1 hT hsz hk=>?_
  refine ⟨_,rfl,wpAny_letOwnedTupleGo_enum ho fun h2 he2 hs2=>?_⟩
  have hx':x'=u:=by
   have hPx:its.toArray[i]?=some x':=hPx
   have:its[i]?=some x':=by simpa using hPx
   rw [hu] at this;exact (Option.some.inj this).symm
  subst hx'
  have hk2:∀ b o,b≠e→b≠it→s.heap.get? b=some o→h2.get? b=some o:=fun b o hbe hbi q=>(hs2.2 b hbe).trans (hk b o hbe hbi q)
  have hTe:s.heap.objs.size≠e:=Nat.ne_of_gt (Heap.lt_size he)
  have I1:Inv X pins σ (upd H s.heap.objs.size (.tup [.int (i:Int),x])) { s with heap:=h2,toks:=tk+1 }:=I.turned2 hk2 fe fi (Nat.le_refl _)
   ⟨by show 2≤sizeLine;decide,[.int (i:Int) tk,x'],.cons ⟨_,rfl⟩ (.cons ru .nil),⟨_,(hs2.2 _ hTe).trans hT,rfl,_,rfl⟩⟩
  refine ⟨.ref s.heap.objs.size,_,I1,rfl,⟨_,x,I.fresh,rfl,rfl,fun ys hy=>by rw [I.list_inj hy hq];exact hx⟩,⟨⟨_,by simpa using he2⟩,?_⟩,fun b hb=>?_⟩
  ·obtain ⟨o,ho',r⟩:=st1.1
   exact ⟨o,(hs2.2 it (Ne.symm hei)).trans ho',r⟩
  ·have hb0:=(hf b hb).1
   have hbl:b<s.heap.objs.size:=by
    rcases List.mem_cons.mp hb with z | z
    ·rw [z];exact Heap.lt_size he
    ·rw [List.mem_singleton.mp z];exact Heap.lt_size hoi
   rw [upd_ne (Nat.ne_of_lt hbl)];exact hb0
 done:=by
  intro X hP hw hK hc i pins s σ H E I hf st hg
  subst hP hw hK
  obtain ⟨xs,hq,hx⟩:=hg
  obtain ⟨⟨old,he⟩,hit⟩:=st
  obtain ⟨its,rv,p,hz⟩:=I.list hq
  obtain ⟨ol,hol,hcl,_⟩:=id p.isList
  obtain ⟨oi,hoi,hci,_⟩:=id hit
  have hai:a≠it:=fun z=>by
   rw [z,hoi] at hol;cases hol
   rw [hci] at hcl;exact absurd hcl (by decide +kernel)
  have D:=Draws.list (prog:=X.prog) (w:=X.w) (A:=X.A.in1) (show X.A.in1.handled=none from I.ok.hd hc) it a hai its.toArray
  have hl:its.toArray.size=i:=by rw [List.size_toArray,← rv.length];exact hx
  obtain ⟨f0,f1,f2,f3,f4,f5⟩:=hf it (by simp)
  refine wpAny_pyNext_enum_endD D he (by rw [hl];exact ⟨hit,p.isList⟩) fun h1 eb=>⟨rfl,I.turned (t':=s.toks) (fun b o hb q=>eb b o hb q) f0 f1 f3 f4 f5⟩
 self:=fun _ _ _ _ _ st h=>by
  obtain ⟨⟨old,he⟩,_⟩:=st
  exact wpAny_pyIter_enum he h
theorem turn_enumT {P:Program} {w:World} {K:PySem.W.Frag} {elts:List Expr} {kx:Nat} {pos:Pos} (a it e:Addr) (hei:e≠it) :
  Turn P w K (.Tuple elts kx pos) (Ite (SqT K) a) [e,it] e (fun i h=>(∃ old,IsEnum h e it (i:Int) old)∧h.IsTupleIter it a i) where
 mem:=by simp
 obj:=fun i h st b hb=>by
  obtain ⟨⟨old,he⟩,o,ho,hc,hd⟩:=st
  rcases List.mem_cons.mp hb with z | z
  ·rw [z];exact ⟨_,he,fun v q=>by cases q⟩
  ·rw [List.mem_singleton.mp z];exact ⟨o,ho,fun v q=>by rw [hd] at q;cases q⟩
 keep:=fun i h h' st k=>by
  obtain ⟨⟨old,he⟩,o,ho,r⟩:=st
  exact ⟨⟨old,k e (by simp) _ he⟩,o,k it (by simp) o ho,r⟩
 item:=by
  intro X hP hw hK hc i pins s σ H E I hf st hg
  subst hP hw hK
  obtain ⟨xs,x,hq,hx⟩:=hg
  obtain ⟨⟨old,he⟩,hit⟩:=st
  obtain ⟨its,rv,p,hz⟩:=I.tuple hq
  obtain ⟨u,hu,ru⟩:=rv.get hx
  have fe:=hf e (by simp)
  have fi:=hf it (by simp)
  obtain ⟨ol,hol,hcl,_⟩:=id p
  obtain ⟨oi,hoi,hci,_⟩:=id hit
  have hai:a≠it:=fun z=>by
   rw [z,hoi] at hol;cases hol
   rw [hci] at hcl;exact absurd hcl (by decide +kernel)
  have hae:e≠a:=fun z=>by
   have he':s.heap.get? e=_:=he
   rw [z,hol] at he';cases he'
   exact absurd hcl (by show Value.type "enumerate"≠Value.type "tuple";decide +kernel)
  have D:=draws_tuple (prog:=X.prog) (w:=X.w) (A:=X.A.in1) (show X.A.in1.handled=none from I.ok.hd hc) it a hai its.toArray
  have hlt:i<its.toArray.size:=by
   have:=rv.length
   have h2:=(List.getElem?_eq_some_iff.mp hx).1
   rw [List.size_toArray];omega
  refine wpAny_pyNext_enum_itemD D he ⟨hit,(show s.heap.IsTuple a its.toArray from p)⟩ hlt hei (fun z=>(List.mem_cons.mp z).elim hei fun q=>hae (List.mem_singleton.mp q)) fun x' h1 tk hPx ho st1 hT hsz hk=>?_
  refine ⟨_,rfl,wpAny_letOwnedTupleGo_enum ho fun h2 he2 hs2=>?_⟩
  have hx':x'=u:=by
   have hPx:its.toArray[i]?=some x':=hPx
   have:its[i]?=some x':=by simpa using hPx
   rw [hu] at this;exact (Option.some.inj this).symm
  subst hx'
  have hk2:∀ b o,b≠e→b≠it→s.heap.get? b=some o→h2.get? b=some o:=fun b o hbe hbi q=>(hs2.2 b hbe).trans (hk b o hbe hbi q)
  have hTe:s.heap.objs.size≠e:=Nat.ne_of_gt (Heap.lt_size he)
  have I1:Inv X pins σ (upd H s.heap.objs.size (.tup [.int (i:Int),x])) { s with heap:=h2,toks:=tk+1 }:=I.turned2 hk2 fe fi (Nat.le_refl _)
   ⟨by show 2≤sizeLine;decide,[.int (i:Int) tk,x'],.cons ⟨_,rfl⟩ (.cons ru .nil),⟨_,(hs2.2 _ hTe).trans hT,rfl,_,rfl⟩⟩
  refine ⟨.ref s.heap.objs.size,_,I1,rfl,⟨_,x,I.fresh,rfl,rfl,fun ys hy=>by rw [I.tuple_inj hy hq];exact hx⟩,⟨⟨_,by simpa using he2⟩,?_⟩,fun b hb=>?_⟩
  ·obtain ⟨o,ho',r⟩:=st1.1
   exact ⟨o,(hs2.2 it (Ne.symm hei)).trans ho',r⟩
  ·have hb0:=(hf b hb).1
   have hbl:b<s.heap.objs.size:=by
    rcases List.mem_cons.mp hb with z | z
    ·rw [z];exact Heap.lt_size he
    ·rw [List.mem_singleton.mp z];exact Heap.lt_size hoi
   rw [upd_ne (Nat.ne_of_lt hbl)];exact hb0
 done:=by
  intro X hP hw hK hc i pins s σ H E I hf st hg
  subst hP hw hK
  obtain ⟨xs,hq,hx⟩:=hg
  obtain ⟨⟨old,he⟩,hit⟩:=st
  obtain ⟨its,rv,p,hz⟩:=I.tuple hq
  obtain ⟨ol,hol,hcl,_⟩:=id p
  obtain ⟨oi,hoi,hci,_⟩:=id hit
  have hai:a≠it:=fun z=>by
   rw [z,hoi] at hol;cases hol
   rw [hci] at hcl;exact absurd hcl (by decide +kernel)
  have D:=draws_tuple (prog:=X.prog) (w:=X.w) (A:=X.A.in1) (show X.A.in1.handled=none from I.ok.hd hc) it a hai its.toArray
  have hl:its.toArray.size=i:=by rw [List.size_toArray,← rv.length];exact hx
  obtain ⟨f0,f1,f2,f3,f4,f5⟩:=hf it (by simp)
  refine wpAny_pyNext_enum_endD D he (by rw [hl];exact ⟨hit,(show s.heap.IsTuple a its.toArray from p)⟩) fun h1 eb=>⟨rfl,I.turned (t':=s.toks) (fun b o hb q=>eb b o hb q) f0 f1 f3 f4 f5⟩
 self:=fun _ _ _ _ _ st h=>by
  obtain ⟨⟨old,he⟩,_⟩:=st
  exact wpAny_pyIter_enum he h
section
variable {X:Cx} {tg:Expr}
def Its (x:Str):It:=⟨fun i _=>i<x.cps.size,fun i H v H'=>H'=H∧∃ c,x.cps[i]?=some c∧v=.str ⟨#[c]⟩,fun i _=>x.cps.size≤i⟩
theorem turn_str {P:Program} {w:World} {K:PySem.W.Frag} {tg:Expr} (x:Str) (t:Tok) (it:Addr):Turn P w K tg (Its x) [it] it (fun i h=>h.IsStrIter it "str_ascii_iterator" x t i) where
 mem:=by simp
 obj:=fun i h st b hb=>by
  have e:b=it:=by simpa using hb
  subst e
  obtain ⟨o,e,cl,d⟩:=st
  exact ⟨o,e,fun v z=>by rw [d] at z;cases z⟩
 keep:=fun i h h' st k=>by
  obtain ⟨o,ho,r⟩:=st
  exact ⟨o,k it (by simp) o ho,r⟩
 item:=by
  intro X hP hw hK hc i pins s σ H E I hf st hg
  subst hP hw hK
  have hlt:i<x.cps.size:=hg
  have hx:x.cps[i]?=some x.cps[i]:=by simp [hlt]
  obtain ⟨f0,f1,f2,f3,f4,f5⟩:=hf it (by simp)
  refine wpAny_pyNext_ascii_item st hx fun h' st' sb=>?_
  have I1:Inv X pins σ H { s with heap:=h',toks:=s.toks+1 }:=I.turned (t':=s.toks+1) (fun b o hb e=>(sb.2 b hb).trans e) f0 f1 f3 f4 f5
  obtain ⟨o,e,cl,d⟩:=id st'
  exact ⟨_,rfl,go_of (s:={ s with heap:=h',toks:=s.toks+1 }) e cl d (by decide) ⟨.str ⟨#[x.cps[i]]⟩,H,I1,⟨_,rfl⟩,⟨rfl,x.cps[i],hx,rfl⟩,st',fun b hb=>(hf b hb).1⟩⟩
 done:=by
  intro X hP hw hK hc i pins s σ H E I hf st hg
  subst hP hw hK
  have hge:x.cps.size≤i:=hg
  obtain ⟨f0,f1,f2,f3,f4,f5⟩:=hf it (by simp)
  exact wpAny_pyNext_ascii_end (I.ok.hd hc) st (by simp;omega) fun h' eb=>⟨rfl,I.turned (t':=s.toks) (fun b o hb e=>eb b o hb e) f0 f1 f3 f4 f5⟩
 self:=fun _ _ _ _ _ st h=>wpAny_pyIter_striter_ascii st h
theorem pi_any {l:Expr} {tl:TE} (hl:PE X l tl):PI X tg l (fun σ H R=>tl σ H fun x H1=>(∃ a,x=.ref a∧((∃ xs,SqL X.K H1 a xs∧R (Itl X.K a) H1)∨∃ xs,SqT X.K H1 a xs∧R (Itt X.K a) H1))∨∃ z,x=.str z∧z.cps.all (·<128)=true∧R (Its z) H1):=by
 intro pins s σ H R I h
 refine thn (hl pins s σ H _ I h) fun v s1 ⟨x,H1,I1,r1,q1⟩=>?_
 have fp:∀ b∈[s1.heap.objs.size],FpOk X pins H1 b:=fun b hb=>by
  have e:b=s1.heap.objs.size:=by simpa using hb
  subst e
  exact I1.fpOk (Nat.le_refl _) (I1.hok.fresh (Nat.le_refl _))
 rcases q1 with ⟨a,e,q1⟩ | ⟨z,e,ha,q⟩
 ·subst e
  cases r1
  rcases q1 with ⟨xs,hq,q⟩ | ⟨xs,hq,q⟩
  ·obtain ⟨its,rv,p,hz⟩:=I1.list hq
   refine wpAny_pyIter_list p.isList ?_
   exact ⟨s1.heap.objs.size,[s1.heap.objs.size],_,_,H1,rfl,I1.kept (t':=s1.toks) fun b o e=>Heap.get?_push_of_some _ e,turn_list a _,⟨_,Heap.get?_push_size _ rfl,rfl,rfl⟩,fp,q⟩
  ·obtain ⟨its,rv,p,hz⟩:=I1.tuple hq
   refine wpAny_pyIter_tuple (show s1.heap.IsTuple a its.toArray from p) ?_
   exact ⟨s1.heap.objs.size,[s1.heap.objs.size],_,_,H1,rfl,I1.kept (t':=s1.toks) fun b o e=>Heap.get?_push_of_some _ e,turn_tuple a _,⟨_,Heap.get?_push_size _ rfl,rfl,rfl⟩,fp,q⟩
 ·subst e
  obtain ⟨tk,rfl⟩:=r1
  refine wpAny_pyIter_ascii ha ?_
  exact ⟨s1.heap.objs.size,[s1.heap.objs.size],_,_,H1,rfl,I1.kept (t':=s1.toks) fun b o e=>Heap.get?_push_of_some _ e,turn_str z tk _,⟨_,Heap.get?_push_size _ rfl,rfl,rfl⟩,fp,q⟩
theorem pi_enum {a:Expr} {ta:TA} {p pos p2:Pos} {elts:List Expr} {kx:Nat} (hg:Gl X "enumerate") (hm:X.mg "enumerate"=none) (ha:PA X [a] ta) (hs:starEach [a] X.env=[(false,eval a X.env)]) :
  PI X (.Tuple elts kx p2) (.Call (.Name "enumerate" p) [a] [] pos) (fun σ H R=>ta σ H fun vs H1=>∃ a,vs=[.ref a]∧((∃ xs,SqL X.K H1 a xs∧R (Ite (SqL X.K) a) H1)∨∃ xs,SqT X.K H1 a xs∧R (Ite (SqT X.K) a) H1)):=by
 intro pins s σ H R I h
 refine Call_ (ld_blt I hg hm boot_enumerate (PyProof.Rows.callWith_type1 (thn (ha pos pins s σ H _ I h) fun us s1 ⟨vs,H1,I1,r1,q1⟩=>?_) hs rfl))
 obtain ⟨l,e,q1⟩:=q1
 subst e
 obtain ⟨u,rfl,rx⟩:=vals1 r1
 cases rx
 have fin:∀ {h':Heap} {J:It} {tn:Nat→Heap→Prop},(∀ b o,s1.heap.get? b=some o→h'.get? b=some o)→h'.objs.size=s1.heap.objs.size+2 →
   Turn X.prog X.w X.K (.Tuple elts kx p2) J [s1.heap.objs.size+1,s1.heap.objs.size] (s1.heap.objs.size+1) tn→tn 0 h'→R J H1→PIE X pins σ (.Tuple elts kx p2) R (.ref (s1.heap.objs.size+1)) { s1 with heap:=h' }:=fun {h' J tn} hk hsz T st q=>by
  refine ⟨s1.heap.objs.size+1,[s1.heap.objs.size+1,s1.heap.objs.size],tn,J,H1,rfl,I1.kept (t':=s1.toks) hk,T,st,fun b hb=>?_,q⟩
  rcases List.mem_cons.mp hb with z | z
  ·rw [z];exact I1.fpOk (Nat.le_succ _) (I1.hok.fresh (Nat.le_succ _))
  ·rw [List.mem_singleton.mp z];exact I1.fpOk (Nat.le_refl _) (I1.hok.fresh (Nat.le_refl _))
 have hne:s1.heap.objs.size+1≠s1.heap.objs.size:=Nat.succ_ne_self _
 rcases q1 with ⟨xs,hq,q⟩ | ⟨xs,hq,q⟩
 ·obtain ⟨its,rv,pl,hz⟩:=I1.list hq
  refine call_enumerate_list pl.isList fun h' he hit hsz hk=>?_
  exact wpAny_pyIter_enum (s:={ s1 with heap:=h' }) he (fin hk hsz (turn_enumL l s1.heap.objs.size (s1.heap.objs.size+1) hne) ⟨⟨_,by simpa using he⟩,hit⟩ q)
 ·obtain ⟨its,rv,pl,hz⟩:=I1.tuple hq
  refine call_enum_tuple (show s1.heap.IsTuple l its.toArray from pl) fun h' he hit hsz hk=>?_
  exact wpAny_pyIter_enum (s:={ s1 with heap:=h' }) he (fin hk hsz (turn_enumT l s1.heap.objs.size (s1.heap.objs.size+1) hne) ⟨⟨_,by simpa using he⟩,hit⟩ q)
end
end L2
end
noncomputable section
namespace Ev
open PySem PySem.Spec PyProof.Rows L2
section
variable {X:Cx} {c:Tc} {a b:Expr} {pos p:Pos}
def BlS (X:Cx) (f:Value) (g:T→Option T):Prop :=
 CallR X f (fun xs H Q=>∃ F t1 t x,xs=[x]∧Same F H∧Rep X.K F t1 x∧g t1=some t∧∀ v F' H',Step F H F' H'→Rep X.K F' t v→Q v H')
theorem bl_len:BlS X (.builtin "len") (bltT .len):=by
 intro pins s σ H xs us Q I r h
 obtain ⟨F,t1,t,x,rfl,fh,r1,ht,q⟩:=h
 cases t1 with
 | tup ts =>
  obtain ⟨l,vs,rfl,h1,h2⟩:=r1
  cases ht
  exact call_len_seq pins s σ H _ us Q I r ⟨l,vs,rfl,.inr (same_tup fh h1),q _ F H (Step.refl fh) (by rw [h2.length];rfl)⟩
 | lst ts =>
  obtain ⟨l,vs,rfl,h1,h2⟩:=r1
  cases ht
  exact call_len_seq pins s σ H _ us Q I r ⟨l,vs,rfl,.inl (Ls.same fh h1).sq,q _ F H (Step.refl fh) (by rw [h2.length];rfl)⟩
 | str z =>
  cases r1
  simp only [bltT] at ht
  split at ht
  ·rename_i hz
   cases ht
   exact call_len_str pins s σ H _ us Q I r ⟨z,rfl,by rw [← sz_eq];exact hz,q _ F H (Step.refl fh) rfl⟩
  ·cases ht
 | _=>cases ht
theorem bl_int:BlS X (.type "int") (bltT .toInt):=by
 intro pins s σ H xs us Q I r h
 obtain ⟨F,t1,t,x,rfl,fh,r1,ht,q⟩:=h
 cases t1 with
 | int i=>cases r1;cases ht;exact call_int1 pins s σ H _ us Q I r (.inl ⟨i,rfl,q _ F H (Step.refl fh) rfl⟩)
 | bl k=>cases r1;cases ht;exact call_int1 pins s σ H _ us Q I r (.inr ⟨k,rfl,q _ F H (Step.refl fh) rfl⟩)
 | _=>cases ht
theorem bl_str:BlS X (.type "str") (bltT .toStr):=by
 intro pins s σ H xs us Q I r h
 obtain ⟨F,t1,t,x,rfl,fh,r1,ht,q⟩:=h
 cases t1 with
 | str z =>
  cases r1;cases ht
  obtain ⟨u,rfl,t,rfl⟩:=vals1 r
  exact PySem.P.str_of_str ⟨.str z,H,I,⟨_,rfl⟩,q _ F H (Step.refl fh) rfl⟩
 | int i =>
  cases r1
  simp only [bltT] at ht
  split at ht
  ·rename_i hz
   cases ht
   exact call_str_int pins s σ H _ us Q I r ⟨i,rfl,hz,q _ F H (Step.refl fh) rfl⟩
  ·cases ht
 | _=>cases ht
theorem bl_list:BlS X (.type "list") (bltT .toList):=by
 intro pins s σ H xs us Q I r h
 obtain ⟨F,t1,t,x,rfl,fh,r1,ht,q⟩:=h
 have fin:∀ {vs:List V} {ts:List T},Reps X.K F ts vs→t=.lst ts→∀ l,H l=none→Q (.ref l) (upd H l (.lst vs)):=fun {vs ts} h2 e l hl=>by
  subst e
  have st:=(Step.refl fh).new (o:=.lst vs) hl
  exact q _ _ _ st ⟨l,vs,rfl,Ls.of upd_same,h2.mono st.ff⟩
 cases t1 with
 | tup ts =>
  obtain ⟨l,vs,rfl,h1,h2⟩:=r1
  cases ht
  exact call_list_of pins s σ H _ us Q I r ⟨l,vs,rfl,.inr (same_tup fh h1),fin h2 rfl⟩
 | lst ts =>
  obtain ⟨l,vs,rfl,h1,h2⟩:=r1
  cases ht
  exact call_list_of pins s σ H _ us Q I r ⟨l,vs,rfl,.inl (Ls.same fh h1).sq,fin h2 rfl⟩
 | _=>cases ht
theorem bl_tuple:BlS X (.type "tuple") (bltT .toTuple):=by
 intro pins s σ H xs us Q I r h
 obtain ⟨F,t1,t,x,rfl,fh,r1,ht,q⟩:=h
 cases t1 with
 | tup ts =>
  obtain ⟨l,vs,rfl,h1,h2⟩:=r1
  cases ht
  exact call_tuple_of pins s σ H _ us Q I r ⟨l,vs,rfl,.inr ⟨same_tup fh h1,q _ F H (Step.refl fh) ⟨l,vs,rfl,h1,h2⟩⟩⟩
 | lst ts =>
  obtain ⟨l,vs,rfl,h1,h2⟩:=r1
  cases ht
  refine call_tuple_of pins s σ H _ us Q I r ⟨l,vs,rfl,.inl ⟨(Ls.same fh h1).sq,fun l' hl=>?_⟩⟩
  have st:=(Step.refl fh).new (o:=.tup vs) hl
  exact q _ _ _ st ⟨l',vs,rfl,SqT.of upd_same,h2.mono st.ff⟩
 | _=>cases ht
theorem bools_rep {K:PySem.W.Frag} {F:Hp}:∀ {ts:List T} {vs:List V} {bs:List Bool},Reps K F ts vs→boolsOf ts=some bs→vs=bs.map V.bl
 | [],_,_,h,e=>by cases h;cases e;rfl
 | .bl i::ts,_,_,h,e=>by
  obtain ⟨v,w,rfl,h1,h2⟩:=h
  obtain ⟨ms,e1,rfl⟩:=oms e
  cases h1
  rw [bools_rep h2 e1]
  rfl
 | .non::_,_,_,_,e=>by cases e
 | .int _::_,_,_,_,e=>by cases e
 | .str _::_,_,_,_,e=>by cases e
 | .tup _::_,_,_,_,e=>by cases e
 | .lst _::_,_,_,_,e=>by cases e
theorem vals_bools:∀ {bs:List Bool} {us:List Value},Vals (bs.map V.bl) us→us=bs.map Value.bool
 | [],_,h=>by cases h;rfl
 | b::bs,_,h=>by
  rw [List.map_cons] at h
  cases h with
  | cons h1 h2 =>
   cases h1
   rw [vals_bools h2]
   rfl
theorem bl_all (hcalm:X.calm=true):BlS X (.builtin "all") (bltT .all):=by
 intro pins s σ H xs us Q I r h
 obtain ⟨F,t1,t,x,rfl,fh,r1,ht,q⟩:=h
 cases t1 with
 | lst ts =>
  obtain ⟨l,vs,rfl,h1,h2⟩:=r1
  obtain ⟨u,rfl,ru⟩:=vals1 r
  cases ru
  simp only [bltT] at ht
  obtain ⟨bs,hbs,rfl⟩:=oms ht
  have hvs:=bools_rep h2 hbs
  subst hvs
  obtain ⟨its,rv,hl,hz⟩:=rd_list I (Ls.same fh h1)
  have ei:=vals_bools rv
  subst ei
  have hlt:l<s.heap.objs.size:=by
   obtain ⟨_,e,_⟩:=hl
   exact Heap.lt_size e
  refine call_all_walk (wpAny_pyIter_list hl ?_)
  refine ⟨s.heap.objs.size,[s.heap.objs.size,l],[s.heap.objs.size],(bs.map Value.bool).toArray.size,_,_,fun i=>(bs[i]?).getD true,rfl,Walks.list (A:=X.A.in1) (I.ok.hd hcalm) _ l (Nat.ne_of_lt hlt) (bs.map Value.bool).toArray,
   ⟨⟨_,Heap.get?_push_size _ rfl,rfl,rfl⟩,hl.push _⟩,fun i v s' Q' E' hP hQ=>?_,fun h' tk hk=>?_⟩
  ·have hP':(bs.map Value.bool)[i]?=some v:=by simpa using hP
   rw [List.getElem?_map] at hP'
   obtain ⟨b,hb,rfl⟩:=oms hP'
   replace hQ:Q' ((bs[i]?).getD true) s':=hQ
   rw [hb] at hQ
   exact wpAny_truthy_bool hQ
  ·have e:((List.range (bs.map Value.bool).toArray.size).all fun i=>(bs[i]?).getD true)=bs.all id:=by
    rw [List.size_toArray,List.length_map]
    have:∀ (l:List Bool),((List.range l.length).all fun i=>(l[i]?).getD true)=l.all id:=by
     intro l
     induction l with
     | nil=>rfl
     | cons a l ih =>
      rw [List.length_cons,List.range_succ_eq_map,List.all_cons,List.all_map,List.all_cons,← ih]
      rfl
    exact this bs
   rw [e]
   exact ⟨.bl _,H,I.kept fun b o eo=>hk b o (fun hm=>by rw [List.mem_singleton.mp hm] at eo;exact Nat.lt_irrefl _ (Heap.lt_size eo)) (Heap.get?_push_of_some _ eo),rfl,q _ F H (Step.refl fh) rfl⟩
 | _=>cases ht
theorem bl_any (hcalm:X.calm=true):BlS X (.builtin "any") (bltT .any):=by
 intro pins s σ H xs us Q I r h
 obtain ⟨F,t1,t,x,rfl,fh,r1,ht,q⟩:=h
 cases t1 with
 | lst ts =>
  obtain ⟨l,vs,rfl,h1,h2⟩:=r1
  obtain ⟨u,rfl,ru⟩:=vals1 r
  cases ru
  simp only [bltT] at ht
  obtain ⟨bs,hbs,rfl⟩:=oms ht
  have hvs:=bools_rep h2 hbs
  subst hvs
  obtain ⟨its,rv,hl,hz⟩:=rd_list I (Ls.same fh h1)
  have ei:=vals_bools rv
  subst ei
  have hlt:l<s.heap.objs.size:=by
   obtain ⟨_,e,_⟩:=hl
   exact Heap.lt_size e
  refine call_any_walk (wpAny_pyIter_list hl ?_)
  refine ⟨s.heap.objs.size,[s.heap.objs.size,l],[s.heap.objs.size],(bs.map Value.bool).toArray.size,_,_,fun i=>(bs[i]?).getD true,rfl,Walks.list (A:=X.A.in1) (I.ok.hd hcalm) _ l (Nat.ne_of_lt hlt) (bs.map Value.bool).toArray,
   ⟨⟨_,Heap.get?_push_size _ rfl,rfl,rfl⟩,hl.push _⟩,fun i v s' Q' E' hP hQ=>?_,fun h' tk hk=>?_⟩
  ·have hP':(bs.map Value.bool)[i]?=some v:=by simpa using hP
   rw [List.getElem?_map] at hP'
   obtain ⟨b,hb,rfl⟩:=oms hP'
   replace hQ:Q' ((bs[i]?).getD true) s':=hQ
   rw [hb] at hQ
   exact wpAny_truthy_bool hQ
  ·have e:((List.range (bs.map Value.bool).toArray.size).any fun i=>(bs[i]?).getD true)=bs.any id:=by
    rw [List.size_toArray,List.length_map]
    have:∀ (l:List Bool),((List.range l.length).any fun i=>(l[i]?).getD true)=l.any id:=by
     intro l
     induction l with
     | nil=>rfl
     | cons a l ih =>
      rw [List.length_cons,List.range_succ_eq_map,List.any_cons,List.any_map,List.any_cons,← ih]
      rfl
    exact this bs
   rw [e]
   exact ⟨.bl _,H,I.kept fun b o eo=>hk b o (fun hm=>by rw [List.mem_singleton.mp hm] at eo;exact Nat.lt_irrefl _ (Heap.lt_size eo)) (Heap.get?_push_of_some _ eo),rfl,q _ F H (Step.refl fh) rfl⟩
 | _=>cases ht
theorem one_arg {f:Env→Option T} (ha:Oke X c a f) (hs:starEach [a] X.env=[(false,eval a X.env)]):PA X [a] (spL X c fun r=>(f r).bind fun x=>some [x]):=by
 refine pa_mono (ok_cons ha ok_nil hs) fun σ H Q q=>?_
 obtain ⟨r,F,ts,e,ht,q⟩:=q
 exact ⟨r,F,ts,e,ht,q⟩
theorem ok_blt1 {G:Glo} {k:Nat} (gd:Gd X c G k) {x:Str} {id:String} {f:Env→Option T} {g:T→Option T} (hc:BlS X (.builtin id) g) (hb:x∈bnames) (hg:glB c.sc x=true) (hv:bootBuiltins x=some (.builtin id)) (hn:x≠"__name__") (hdb:(x==("__debug__":Str))=false)
  (ha:Oke X c a f) (hs:starEach [a] X.env=[(false,eval a X.env)]):Oke X c (.Call (.Name x p) [a] [] pos) (fun r=>(f r).bind fun x=>g x):=by
 refine pe_mono (pe_callB hc (gd.gl x hg) (gd.nob x hb) hv (one_arg ha hs) hn hdb hs rfl) fun σ H Q q=>?_
 obtain ⟨r,F,t,e,ht,q⟩:=q
 obtain ⟨t1,e1,ht⟩:=obs ht
 refine ⟨r,F,[t1],e,Option.bind_eq_some_iff.mpr ⟨t1,e1,rfl⟩,fun vs F' H' s1 r1=>?_⟩
 obtain ⟨v,w,rfl,h1,h2⟩:=r1
 cases h2
 exact ⟨F',t1,t,v,rfl,s1.fh,h1,ht,fun v' F2 H2 s2 r2=>q v' F2 H2 (s1.trans s2) r2⟩
theorem ok_bltT {G:Glo} {k:Nat} (gd:Gd X c G k) {x:Str} {ty:String} {f:Env→Option T} {g:T→Option T} (hc:BlS X (.type ty) g) (hb:x∈bnames) (hg:glB c.sc x=true) (hv:bootBuiltins x=some (.type ty)) (hn:x≠"__name__") (hdb:(x==("__debug__":Str))=false)
  (ha:Oke X c a f) (hs:starEach [a] X.env=[(false,eval a X.env)]):Oke X c (.Call (.Name x p) [a] [] pos) (fun r=>(f r).bind fun x=>g x):=by
 refine pe_mono (pe_callTy hc (gd.gl x hg) (gd.nob x hb) hv (one_arg ha hs) hn hdb hs rfl) fun σ H Q q=>?_
 obtain ⟨r,F,t,e,ht,q⟩:=q
 obtain ⟨t1,e1,ht⟩:=obs ht
 refine ⟨r,F,[t1],e,Option.bind_eq_some_iff.mpr ⟨t1,e1,rfl⟩,fun vs F' H' s1 r1=>?_⟩
 obtain ⟨v,w,rfl,h1,h2⟩:=r1
 cases h2
 exact ⟨F',t1,t,v,rfl,s1.fh,h1,ht,fun v' F2 H2 s2 r2=>q v' F2 H2 (s1.trans s2) r2⟩
theorem ok_bn {G:Glo} {k:Nat} (gd:Gd X c G k) {x:Str} {kb:Bn} {f:Env→Option T} (hk:bnOf x=some kb) (hg:glB c.sc x=true) (ha:Oke X c a f) (hs:starEach [a] X.env=[(false,eval a X.env)]) :
  Oke X c (.Call (.Name x p) [a] [] pos) (fun r=>(f r).bind fun x=>bltT kb x):=by
 unfold bnOf at hk
 split at hk
 ·rename_i e;have e:=eq_of_beq e;subst e;cases hk
  exact ok_blt1 gd bl_len (by decide +kernel) hg PySem.boot_len (by decide) (by decide) ha hs
 ·split at hk
  ·rename_i e;have e:=eq_of_beq e;subst e;cases hk
   exact ok_bltT gd bl_int (by decide +kernel) hg PyProof.Rows.boot_int (by decide) (by decide) ha hs
  ·split at hk
   ·rename_i e;have e:=eq_of_beq e;subst e;cases hk
    exact ok_bltT gd bl_str (by decide +kernel) hg PyProof.Rows.boot_str (by decide) (by decide) ha hs
   ·split at hk
    ·rename_i e;have e:=eq_of_beq e;subst e;cases hk
     exact ok_bltT gd bl_list (by decide +kernel) hg PyProof.Rows.boot_list (by decide) (by decide) ha hs
    ·split at hk
     ·rename_i e;have e:=eq_of_beq e;subst e;cases hk
      exact ok_bltT gd bl_tuple (by decide +kernel) hg PyProof.Rows.boot_tuple (by decide) (by decide) ha hs
     ·split at hk
      ·rename_i e;have e:=eq_of_beq e;subst e;cases hk
       exact ok_blt1 gd (bl_all gd.calm) (by decide +kernel) hg PyProof.Rows.boot_all (by decide) (by decide) ha hs
      ·split at hk
       ·rename_i e;have e:=eq_of_beq e;subst e;cases hk
        exact ok_blt1 gd (bl_any gd.calm) (by decide +kernel) hg PyProof.Rows.boot_any (by decide) (by decide) ha hs
       ·cases hk
def tyS:Ty→String
 | .tint=>"int" | .tstr=>"str" | .tbool=>"bool" | .ttup=>"tuple" | .tlst=>"list"
theorem call_isi:CallR X (.builtin "isinstance") (fun xs H Q=>∃ F t1 x k,xs=[x,.ty (tyS k)]∧Same F H∧Rep X.K F t1 x∧Q (.bl (isiT t1 k)) H):=by
 intro pins s σ H xs us Q I r h
 obtain ⟨F,t1,x,k,rfl,fh,r1,q⟩:=h
 obtain ⟨u,w',rfl,rx,ry⟩:=vals2 r
 cases ry
 have fT:∀ b,b=isiT t1 k→EP X pins σ Q (.bool b) s:=fun b e=>by subst e;exact ⟨.bl _,H,I,rfl,q⟩
 have fF:∀ b,b=isiT t1 k→EP X pins σ Q (.bool b) { s with toks:=s.toks+1 }:=fun b e=>by subst e;exact ⟨.bl _,H,I.tok _,rfl,q⟩
 cases t1 with
 | non =>
  cases r1;cases rx
  cases k
  ·exact IsiPair.NoneType_int (fF _ rfl)
  ·exact IsiPair.NoneType_str (fF _ rfl)
  ·exact IsiPair.NoneType_bool (fF _ rfl)
  ·exact IsiPair.NoneType_tuple (fF _ rfl)
  ·exact IsiPair.NoneType_list (fF _ rfl)
 | bl b =>
  cases r1;cases rx
  cases k
  ·exact IsiPair.bool_int (fT _ rfl)
  ·exact IsiPair.bool_str (fF _ rfl)
  ·exact IsiPair.bool_bool (fT _ rfl)
  ·exact IsiPair.bool_tuple (fF _ rfl)
  ·exact IsiPair.bool_list (fF _ rfl)
 | int b =>
  cases r1;obtain ⟨t,rfl⟩:=rx
  cases k
  ·exact IsiPair.int_int (fT _ rfl)
  ·exact IsiPair.int_str (fF _ rfl)
  ·exact IsiPair.int_bool (fF _ rfl)
  ·exact IsiPair.int_tuple (fF _ rfl)
  ·exact IsiPair.int_list (fF _ rfl)
 | str b =>
  cases r1;obtain ⟨t,rfl⟩:=rx
  cases k
  ·exact IsiPair.str_int (fF _ rfl)
  ·exact IsiPair.str_str (fT _ rfl)
  ·exact IsiPair.str_bool (fF _ rfl)
  ·exact IsiPair.str_tuple (fF _ rfl)
  ·exact IsiPair.str_list (fF _ rfl)
 | tup ts =>
  obtain ⟨l,vs,rfl,h1,h2⟩:=r1
  cases rx
  obtain ⟨its,_,⟨o,ho,hc,_⟩,_⟩:=I.tuple (same_tup fh h1)
  cases k
  ·exact IsiPair.tuple_int ho hc (fF _ rfl)
  ·exact IsiPair.tuple_str ho hc (fF _ rfl)
  ·exact IsiPair.tuple_bool ho hc (fF _ rfl)
  ·exact IsiPair.tuple_tuple ho hc (fT _ rfl)
  ·exact IsiPair.tuple_list ho hc (fF _ rfl)
 | lst ts =>
  obtain ⟨l,vs,rfl,h1,h2⟩:=r1
  cases rx
  obtain ⟨its,_,⟨o,ho,hc,_⟩,_⟩:=rd_list I (Ls.same fh h1)
  cases k
  ·exact IsiPair.list_int ho hc (fF _ rfl)
  ·exact IsiPair.list_str ho hc (fF _ rfl)
  ·exact IsiPair.list_bool ho hc (fF _ rfl)
  ·exact IsiPair.list_tuple ho hc (fF _ rfl)
  ·exact IsiPair.list_list ho hc (fT _ rfl)
theorem ty_boot {x:Str} {k:Ty} (h:tyOf x=some k):bootBuiltins x=some (.type (tyS k))∧x∈bnames∧x≠"__name__"∧(x==("__debug__":Str))=false:=by
 unfold tyOf at h
 split at h
 ·rename_i e;have e:=eq_of_beq e;subst e;cases h;exact ⟨PyProof.Rows.boot_str,by decide +kernel,by decide,by decide⟩
 ·split at h
  ·rename_i e;have e:=eq_of_beq e;subst e;cases h;exact ⟨PyProof.Rows.boot_int,by decide +kernel,by decide,by decide⟩
  ·split at h
   ·rename_i e;have e:=eq_of_beq e;subst e;cases h;exact ⟨PyProof.Rows.boot_bool,by decide +kernel,by decide,by decide⟩
   ·split at h
    ·rename_i e;have e:=eq_of_beq e;subst e;cases h;exact ⟨PyProof.Rows.boot_tuple,by decide +kernel,by decide,by decide⟩
    ·split at h
     ·rename_i e;have e:=eq_of_beq e;subst e;cases h;exact ⟨PyProof.Rows.boot_list,by decide +kernel,by decide,by decide⟩
     ·cases h
theorem ok_isi {G:Glo} {k:Nat} (gd:Gd X c G k) {ty:Str} {kt:Ty} {f:Env→Option T} {p2:Pos} (hk:tyOf ty=some kt) (hg:glB c.sc "isinstance"=true) (hgt:glB c.sc ty=true) (ha:Oke X c a f)
  (hs:starEach [a,.Name ty p2] X.env=(false,eval a X.env)::starEach [.Name ty p2] X.env):Oke X c (.Call (.Name "isinstance" p) [a,.Name ty p2] [] pos) (fun r=>(f r).bind fun x=>some (.bl (isiT x kt))):=by
 obtain ⟨h1,h2,h3,h4⟩:=ty_boot hk
 have hb:PE X (.Name ty p2) (tC (.ty (tyS kt))):=pe_bltn (gd.gl ty hgt) (gd.nob ty h2) h1 rfl h3 h4
 refine pe_mono (pe_callB call_isi (gd.gl _ hg) (gd.nob _ (by decide +kernel)) boot_isinstance (pa_cons ha (pa_cons hb pa_nil rfl) hs) (by decide) (by decide) hs rfl) fun σ H Q q=>?_
 obtain ⟨r,F,t,e,ht,q⟩:=q
 obtain ⟨t1,e1,ht⟩:=obs ht
 cases ht
 refine ⟨r,F,t1,e,e1,fun v F' H' s1 r1=>?_⟩
 exact ⟨F',t1,v,kt,rfl,s1.fh,r1,q _ F' H' s1 rfl⟩
theorem txts_are {K:PySem.W.Frag} {F:Hp}:∀ {ts:List T} {vs:List V} {its:List Value} {ys:List Str},Reps K F ts vs→Vals vs its→txts ts=some ys→StrsAre its ys
 | [],_,_,_,h,r,e=>by
  cases h
  cases r
  cases e
  exact .nil
 | .str x::ts,_,_,_,h,r,e=>by
  obtain ⟨v,w,rfl,h1,h2⟩:=h
  cases h1
  cases r with
  | cons r1 r2 =>
   obtain ⟨t,rfl⟩:=r1
   obtain ⟨zs,e1,rfl⟩:=oms e
   exact .cons _ _ (txts_are h2 r2 e1)
 | .non::ts,_,_,_,h,r,e=>by cases e
 | .bl _::ts,_,_,_,h,r,e=>by cases e
 | .int _::ts,_,_,_,h,r,e=>by cases e
 | .tup _::ts,_,_,_,h,r,e=>by cases e
 | .lst _::ts,_,_,_,h,r,e=>by cases e
theorem mt_join:MtR X "str.join" (fun x xs H Q=>∃ F t1 t2 t y,xs=[y]∧Same F H∧Rep X.K F t1 x∧Rep X.K F t2 y∧mthT .join t1 t2=some t∧∀ v F' H',Step F H F' H'→Rep X.K F' t v→Q v H'):=by
 intro pins s σ H x xs v us Q I rx rs h
 obtain ⟨F,t1,t2,t,y,rfl,fh,r1,r2,ht,q⟩:=h
 obtain ⟨u,rfl,ru⟩:=vals1 rs
 cases t1 with
 | str sep =>
  cases r1
  obtain ⟨tk,rfl⟩:=rx
  have fin:∀ {ts:List T},joinT sep ts=some t→∃ ys,txts ts=some ys∧sep.length≤16∧(ys.map (·.length)).sum+ys.length≤1048576∧t=.str (Str.join sep ys):=fun {ts} h=>by
   unfold joinT at h
   obtain ⟨ys,e1,h⟩:=obs h
   split at h
   ·rename_i hz
    cases h
    exact ⟨ys,e1,hz.1,hz.2,rfl⟩
   ·cases h
  have ej:∀ ys:List Str,Txt.join sep ys=Str.join sep ys:=fun ys=>StrLaws.glued_eq_join ..
  cases t2 with
  | tup ts =>
   obtain ⟨ys,e1,z1,z2,rfl⟩:=fin ht
   obtain ⟨l,vs,rfl,h1,h2⟩:=r2
   cases ru
   obtain ⟨its,r',p',_⟩:=I.tuple (same_tup fh h1)
   refine join_tupleW p' (by simpa using txts_are h2 r' e1) z1 z2 fun t' k=>⟨.str _,H,I.tok _,⟨_,rfl⟩,?_⟩
   rw [ej]
   exact q _ F H (Step.refl fh) rfl
  | lst ts =>
   obtain ⟨ys,e1,z1,z2,rfl⟩:=fin ht
   obtain ⟨l,vs,rfl,h1,h2⟩:=r2
   cases ru
   obtain ⟨its,r',p',_⟩:=rd_list I (Ls.same fh h1)
   refine join_listW p' (by simpa using txts_are h2 r' e1) z1 z2 fun t' k=>⟨.str _,H,I.tok _,⟨_,rfl⟩,?_⟩
   rw [ej]
   exact q _ F H (Step.refl fh) rfl
  | _=>cases ht
 | _=>cases t2<;>cases ht
theorem place_at:∀ {ts:List T} {x:T} {i:Nat},placeOf x ts=some i→∃ t,ts[i]?=some t∧eqT t x=true∧∀ (j:Nat) u,j<i→ts[j]?=some u→eqT u x=false
 | [],_,_,h=>by cases h
 | y::ts,x,i,h=>by
  simp only [placeOf] at h
  split at h
  ·rename_i e
   cases h
   exact ⟨y,rfl,e,fun j u hj=>absurd hj (Nat.not_lt_zero _)⟩
  ·rename_i e
   obtain ⟨k,e1,rfl⟩:=oms h
   obtain ⟨t,h1,h2,h3⟩:=place_at e1
   refine ⟨t,by simpa using h1,h2,fun j u hj hu=>?_⟩
   cases j with
   | zero =>
    simp only [List.getElem?_cons_zero,Option.some.injEq] at hu
    subst hu
    simpa using e
   | succ j=>exact h3 j u (by omega) (by simpa using hu)
theorem mt_index:MtR X "list.index" (fun x xs H Q=>∃ F t1 t2 t y,xs=[y]∧Same F H∧Rep X.K F t1 x∧Rep X.K F t2 y∧mthT .index t1 t2=some t∧∀ v F' H',Step F H F' H'→Rep X.K F' t v→Q v H'):=by
 intro pins s σ H x xs v us Q I rx rs h
 obtain ⟨F,t1,t2,t,y,rfl,fh,r1,r2,ht,q⟩:=h
 obtain ⟨u,rfl,ru⟩:=vals1 rs
 cases t1 with
 | lst ts =>
  simp only [mthT] at ht
  split at ht
  ·rename_i hf
   rw [Bool.and_eq_true] at hf
   obtain ⟨f2,f1⟩:=hf
   obtain ⟨i,hi,rfl⟩:=oms ht
   obtain ⟨l,vs,rfl,h1,h2⟩:=r1
   cases rx
   have ey:=rep_flat r2 f2
   subst ey
   have ev:=reps_flat h2 f1
   subst ev
   obtain ⟨t0,a1,a2,a3⟩:=place_at hi
   obtain ⟨z,its,n,r,ho⟩:=(Ls.same fh h1).ok I
   have hlt:i<ts.length:=(List.getElem?_eq_some_iff.mp a1).1
   have hlen:its.length=ts.length:=by rw [← r.length,List.length_map]
   have hz:ts.length≤sizeLine:=by
    have:=(rd_list I (Ls.same fh h1)).choose_spec.2.2
    simpa using this
   have get:∀ (m:Nat) (hm:m<its.toArray.size),∃ tm,ts[m]?=some tm∧eqU (vOf t2) its.toArray[m]=eqT tm t2:=fun m hm=>by
    have hm':m<ts.length:=by rw [← hlen];simpa using hm
    have hmv:m<(ts.map vOf).length:=by simpa using hm'
    obtain ⟨w,e3,w1⟩:=r.get (List.getElem?_eq_getElem hmv)
    have e5:its.toArray[m]=w:=by
     obtain ⟨_,z⟩:=List.getElem?_eq_some_iff.mp e3
     simpa using z
    refine ⟨ts[m],List.getElem?_eq_getElem hm',?_⟩
    have fm:flat ts[m]=true:=List.all_eq_true.mp f1 _ (List.getElem_mem _)
    rw [e5,eqU_of (y:=vOf ts[m]) (by simpa using w1) (flat_V fm),eqV_T fm f2]
   have hj:i<its.toArray.size:=by rw [List.size_toArray,hlen];exact hlt
   refine call_meets PySem.F.slot_list_index ⟨_,ho,rfl⟩ PySem.F.entry_list_index (PySem.F.args_list_index_2 _ _) (PySem.SeqAt.list_indexAt l its.toArray n _ _ u (eqU (vOf t2)) i hj (by unfold sizeLine at hz;omega) ?_ ?_) ⟨ho,?_,?_⟩
   ·obtain ⟨tm,g1,g2⟩:=get i hj
    rw [g2]
    rw [a1] at g1
    cases g1
    exact a2
   ·intro m hm hmi
    obtain ⟨tm,g1,g2⟩:=get m hm
    rw [g2]
    exact a3 m tm hmi g1
   ·intro y hy
    exact mem_eqAt ru (flat_V f2) r (all_flatV f1) y (by simpa using hy)
   ·exact ⟨.int _,H,I.tok _,⟨_,rfl⟩,q _ F H (Step.refl fh) rfl⟩
  ·cases ht
 | _=>cases t2<;>cases ht
theorem ok_index {f g:Env→Option T} {apos cpos:Pos} {o:Expr} (ho:Oke X c o f) (ha:Oke X c a g) (hbase:attributeBase o "index" X.env (eval o X.env)=eval o X.env) (hs:starEach [a] X.env=[(false,eval a X.env)]) (hl:(apos.endLine==cpos.line)=true) :
  Oke X c (.Call (.Attribute o "index" apos) [a] [] cpos) (fun r=>(f r).bind fun x=>(g r).bind fun y=>mthT .index x y):=by
 refine pe_mono (pe_bm F.plainAttrs_list F.slot_list_index F.type_list_index mt_index ho (one_arg ha hs) hbase (by rw [hs];rfl) hl hs rfl) fun σ H Q q=>?_
 obtain ⟨r,F,t,e,ht,q⟩:=q
 obtain ⟨t1,e1,ht⟩:=obs ht
 obtain ⟨t2,e2,ht⟩:=obs ht
 refine ⟨r,F,t1,e,e1,fun v F' H' s1 r1=>⟨?_,r,F',[t2],e.step s1,Option.bind_eq_some_iff.mpr ⟨t2,e2,rfl⟩,fun vs F2 H2 s2 r2=>?_⟩⟩
 ·cases t1 with
  | lst z=>obtain ⟨l,vs,rfl,h1,h2⟩:=r1;exact .inl ⟨rfl,_,(Ls.same s1.fh h1).sq⟩
  | _=>cases t2<;>cases ht
 ·obtain ⟨w,z,rfl,h1,h2⟩:=r2
  cases h2
  exact ⟨F2,t1,t2,t,w,rfl,s2.fh,r1.mono s2.ff,h1,ht,fun v' F3 H3 s3 r3=>q v' F3 H3 (s1.trans (s2.trans s3)) r3⟩
theorem ok_join {f g:Env→Option T} {apos cpos:Pos} {o:Expr} (ho:Oke X c o f) (ha:Oke X c a g) (hbase:attributeBase o "join" X.env (eval o X.env)=eval o X.env) (hs:starEach [a] X.env=[(false,eval a X.env)]) (hl:(apos.endLine==cpos.line)=true) :
  Oke X c (.Call (.Attribute o "join" apos) [a] [] cpos) (fun r=>(f r).bind fun x=>(g r).bind fun y=>mthT .join x y):=by
 refine pe_mono (pe_bm F.plainAttrs_str F.slot_str_join F.type_str_join mt_join ho (one_arg ha hs) hbase (by rw [hs];rfl) hl hs rfl) fun σ H Q q=>?_
 obtain ⟨r,F,t,e,ht,q⟩:=q
 obtain ⟨t1,e1,ht⟩:=obs ht
 obtain ⟨t2,e2,ht⟩:=obs ht
 refine ⟨r,F,t1,e,e1,fun v F' H' s1 r1=>⟨?_,r,F',[t2],e.step s1,Option.bind_eq_some_iff.mpr ⟨t2,e2,rfl⟩,fun vs F2 H2 s2 r2=>?_⟩⟩
 ·cases t1 with
  | str z=>cases r1;rfl
  | _=>cases t2<;>cases ht
 ·obtain ⟨w,z,rfl,h1,h2⟩:=r2
  cases h2
  exact ⟨F2,t1,t2,t,w,rfl,s2.fh,r1.mono s2.ff,h1,ht,fun v' F3 H3 s3 r3=>q v' F3 H3 (s1.trans (s2.trans s3)) r3⟩
end
end Ev
end
noncomputable section
namespace L2
open PySem PySem.Spec PyProof.Rows
structure ZAp (z TI TO j1 j2:Addr) (f1 f2:List Addr):Prop where
 nz:TI≠z∧TO≠z∧j1≠z∧j2≠z
 nT:TI≠TO∧TI≠j1∧TI≠j2
 nO:TO≠j1∧TO≠j2
 nj:j1≠j2
 fz:z∉f1∧z∉f2
 fO:TO∉f1∧TO∉f2
 fj:j2∉f1∧j1∉f2
section
variable {prog:Program} {w:World} {A:Around} {E:Value→Shared→Prop} {s:Shared}
variable {z TI TO j1 j2:Addr} {f1 f2:List Addr} {n1 n2 k:Nat} {P1 P2:Nat→Value→Prop} {S1 S2:Nat→Heap→Prop} {a b:Value}
theorem zipD_item {Q:Value→Shared→Prop} (D1:Draws prog w A j1 f1 n1 P1 S1) (D2:Draws prog w A j2 f2 n2 P2 S2) (ap:ZAp z TI TO j1 j2 f1 f2)
  (hz:IsZip s.heap z TI TO .none) (hI:IsPair s.heap TI (.ref j1) (.ref j2)) (hO:IsPair s.heap TO a b) (t1:S1 k s.heap) (t2:S2 k s.heap) (l1:k<n1) (l2:k<n2)
  (hQ:∀ x y g tk,P1 k x→P2 k y→IsZip g z TI TO (rawInt s.heap.objs.size)→IsPair g TO x y→S1 (k+1) g→S2 (k+1) g→IsPair g s.heap.objs.size x y→g.objs.size=s.heap.objs.size+1 →
   (∀ c o,c≠z→c≠TO→c≠j1→c≠j2→s.heap.get? c=some o→g.get? c=some o)→Q (.ref s.heap.objs.size) { s with heap:=g,toks:=tk }) :
  wpAny (model prog w) A (Builtin.«zip.__next__» ⟨[.ref z],[]⟩) (fun e s'=>∃ v,e=.done (.ret v)∧Q v s') E s:=by
 show wpAny _ _ (field (.ref z) 2 >>= _) _ _ s
 refine wpAny_bind (wpAny_field (x:=.bool false) hz rfl rfl ?_)
 show wpAny _ _ (field (.ref z) 3 >>= _) _ _ s
 refine wpAny_bind (wpAny_field (x:=.ref TI) hz rfl rfl (wpAny_bind (wpAny_seqItems hI rfl ?_)))
 show wpAny _ _ (Builtin.SmallTypes.ownedTupleIsFree (.ref z) >>= _) _ _ s
 refine wpAny_bind (show wpAny _ _ (Builtin.SmallTypes.ownedTupleIsFree (.ref z)) _ _ s from ?_)
 unfold Builtin.SmallTypes.ownedTupleIsFree
 refine wpAny_bind (wpAny_field (x:=.none) hz rfl rfl (wpAny_pure ?_))
 simp only [if_true]
 refine wpAny_bind (wpAny_rule (wpAny_bind (wpAny_field (x:=.ref TO) hz rfl rfl ?_)))
 refine wpAny_bind (wpAny_setField_rec hz (by simp) fun g1 hz1 e1=>?_)
 replace hz1:IsZip g1 z TI TO .ellipsis:=hz1
 refine wpAny_bind (show wpAny _ _ _ _ _ _ from ?_)
 simp only [List.zipIdx_nil,List.zipIdx_cons,List.forIn_nil,List.forIn_cons]
 refine wpAny_bind (wpAny_bind (wpAny_onRaise ?_))
 show wpAny _ _ (Builtin.SmallTypes.nextOf (.ref j1) >>= _) _ _ { s with heap:=g1 }
 have q1:S1 k g1:=D1.frame _ _ _ t1 fun c hc o e=>e1.extBut _ _ (fun y=>ap.fz.1 (y▸hc)) e
 refine wpAny_bind (D1.item k _ _ _ l1 q1 fun x g2 tk2 hx u1 e2=>wpAny_pure ?_)
 have hO2:IsPair g2 TO a b:=e2.extBut _ _ ap.nO.1 (e1.extBut _ _ ap.nz.2.1 hO)
 refine wpAny_bind (wpAny_seqItems hO2 rfl (wpAny_bind (wpAny_updateSeq_pair hO2 fun g3 hO3 e3=>?_)))
 replace hO3:IsPair g3 TO x b:=hO3
 refine wpAny_bind (wpAny_letGo (wpAny_pure (wpAny_bind (wpAny_bind (wpAny_onRaise ?_)))))
 show wpAny _ _ (Builtin.SmallTypes.nextOf (.ref j2) >>= _) _ _ { s with heap:=g3,toks:=tk2 }
 have q2:S2 k g3:=D2.frame _ _ _ t2 fun c hc o e=>e3.extBut _ _ (fun y=>ap.fO.2 (y▸hc)) (e2.extBut _ _ (fun y=>ap.fj.2 (y▸hc)) (e1.extBut _ _ (fun y=>ap.fz.2 (y▸hc)) e))
 refine wpAny_bind (D2.item k _ _ _ l2 q2 fun y g4 tk4 hy u2 e4=>wpAny_pure ?_)
 have hO4:IsPair g4 TO x b:=e4.extBut _ _ ap.nO.2 hO3
 refine wpAny_bind (wpAny_seqItems hO4 rfl (wpAny_bind (wpAny_updateSeq_pair hO4 fun g5 hO5 e5=>?_)))
 replace hO5:IsPair g5 TO x y:=hO5
 refine wpAny_bind (wpAny_letGo (wpAny_pure (wpAny_pure (wpAny_bind (wpAny_seqItems hO5 rfl (wpAny_bind (wpAny_newTuple ?_)))))))
 have sz:g5.objs.size=s.heap.objs.size:=by rw [e5.1,e4.1,e3.1,e2.1,e1.1]
 have hz5:IsZip g5 z TI TO .ellipsis:=e5.extBut _ _ (Ne.symm ap.nz.2.1) (e4.extBut _ _ (Ne.symm ap.nz.2.2.2) (e3.extBut _ _ (Ne.symm ap.nz.2.1) (e2.extBut _ _ (Ne.symm ap.nz.2.2.1) hz1)))
 have k5:∀ c o,c≠z→c≠TO→c≠j1→c≠j2→s.heap.get? c=some o→g5.get? c=some o:=fun c o c1 c2 c3 c4 e=>e5.extBut _ _ c2 (e4.extBut _ _ c4 (e3.extBut _ _ c2 (e2.extBut _ _ c3 (e1.extBut _ _ c1 e))))
 have v1:S1 (k+1) g5:=D1.frame _ _ _ u1 fun c hc o e=>e5.extBut _ _ (fun y=>ap.fO.1 (y▸hc)) (e4.extBut _ _ (fun y=>ap.fj.1 (y▸hc)) (e3.extBut _ _ (fun y=>ap.fO.1 (y▸hc)) e))
 have v2:S2 (k+1) g5:=D2.frame _ _ _ u2 fun c hc o e=>e5.extBut _ _ (fun y=>ap.fO.2 (y▸hc)) e
 have ltz:z<g5.objs.size:=Heap.lt_size hz5
 show wpAny _ _ (Builtin.SmallTypes.ownedTupleHandOut (.ref z) (.ref g5.objs.size) >>= _) _ _ _
 refine wpAny_bind (show wpAny _ _ (Builtin.SmallTypes.ownedTupleHandOut (.ref z) (.ref g5.objs.size)) _ _ _ from ?_)
 unfold Builtin.SmallTypes.ownedTupleHandOut
 have hz6:IsZip (g5.push { cls:=.type "tuple",data:=.seq #[x,y] }) z TI TO .ellipsis:=Heap.get?_push_of_some _ hz5
 refine wpAny_bind (wpAny_setField_rec hz6 (by simp) fun g7 hz7 e7=>?_)
 replace hz7:IsZip g7 z TI TO (rawInt g5.objs.size):=hz7
 refine wpAny_setField_rec hz7 (by simp) fun g8 hz8 e8=>?_
 replace hz8:IsZip g8 z TI TO (rawInt g5.objs.size):=hz8
 have up:∀ c o,c≠z→g5.get? c=some o→g8.get? c=some o:=fun c o c1 e=>e8.extBut _ _ c1 (e7.extBut _ _ c1 (Heap.get?_push_of_some _ e))
 have hT8:IsPair g8 g5.objs.size x y:=e8.extBut _ _ (Nat.ne_of_gt ltz) (e7.extBut _ _ (Nat.ne_of_gt ltz) (Heap.get?_push_size _ rfl))
 have sz8:g8.objs.size=g5.objs.size+1:=by rw [e8.1,e7.1,Heap.size_push]
 rw [sz] at hz8 hT8 sz8
 refine wpAny_pure ⟨_,rfl,?_⟩
 show Q (.ref g5.objs.size) { s with heap:=g8,toks:=tk4 }
 rw [sz]
 exact hQ x y g8 tk4 hx hy hz8 (up _ _ ap.nz.2.1 hO5) (D1.frame _ _ _ v1 fun c hc o e=>up c o (fun y=>ap.fz.1 (y▸hc)) e) (D2.frame _ _ _ v2 fun c hc o e=>up c o (fun y=>ap.fz.2 (y▸hc)) e) hT8 sz8
  fun c o c1 c2 c3 c4 e=>up c o c1 (k5 c o c1 c2 c3 c4 e)
theorem zipD_end {Q:Fin→Shared→Prop} (D1:Draws prog w A j1 f1 n1 P1 S1) (D2:Draws prog w A j2 f2 n2 P2 S2) (ap:ZAp z TI TO j1 j2 f1 f2)
  (hz:IsZip s.heap z TI TO .none) (hI:IsPair s.heap TI (.ref j1) (.ref j2)) (hO:IsPair s.heap TO a b) (t1:S1 k s.heap) (t2:S2 k s.heap) (hk:k=n1∨k<n1∧k=n2)
  (hE:∀ g e tk,(∀ c o,c≠z→c≠TO→c≠j1→c≠j2→s.heap.get? c=some o→g.get? c=some o)→(∃ o,g.get? e=some o∧o.cls=.type "StopIteration")→E (.ref e) { s with heap:=g,toks:=tk }) :
  wpAny (model prog w) A (Builtin.«zip.__next__» ⟨[.ref z],[]⟩) Q E s:=by
 show wpAny _ _ (field (.ref z) 2 >>= _) _ _ s
 refine wpAny_bind (wpAny_field (x:=.bool false) hz rfl rfl ?_)
 show wpAny _ _ (field (.ref z) 3 >>= _) _ _ s
 refine wpAny_bind (wpAny_field (x:=.ref TI) hz rfl rfl (wpAny_bind (wpAny_seqItems hI rfl ?_)))
 show wpAny _ _ (Builtin.SmallTypes.ownedTupleIsFree (.ref z) >>= _) _ _ s
 refine wpAny_bind (show wpAny _ _ (Builtin.SmallTypes.ownedTupleIsFree (.ref z)) _ _ s from ?_)
 unfold Builtin.SmallTypes.ownedTupleIsFree
 refine wpAny_bind (wpAny_field (x:=.none) hz rfl rfl (wpAny_pure ?_))
 simp only [if_true]
 refine wpAny_bind (wpAny_rule (wpAny_bind (wpAny_field (x:=.ref TO) hz rfl rfl ?_)))
 refine wpAny_bind (wpAny_setField_rec hz (by simp) fun g1 hz1 e1=>?_)
 replace hz1:IsZip g1 z TI TO .ellipsis:=hz1
 refine wpAny_bind (show wpAny _ _ _ _ _ _ from ?_)
 simp only [List.zipIdx_nil,List.zipIdx_cons,List.forIn_nil,List.forIn_cons]
 refine wpAny_bind (wpAny_bind (wpAny_onRaise ?_))
 show wpAny _ _ (Builtin.SmallTypes.nextOf (.ref j1) >>= _) _ _ { s with heap:=g1 }
 have q1:S1 k g1:=D1.frame _ _ _ t1 fun c hc o e=>e1.extBut _ _ (fun y=>ap.fz.1 (y▸hc)) e
 rcases hk with rfl | ⟨hlt,rfl⟩
 ·refine wpAny_bind (D1.done _ _ _ q1 fun g2 e e2 he=>?_)
  obtain ⟨oe,hoe,hce⟩:=he
  have hz2:IsZip g2 z TI TO .ellipsis:=e2 _ _ (Ne.symm ap.nz.2.2.1) hz1
  have ez:e≠z:=fun y=>by subst y;rw [hz2] at hoe;cases hoe;simp at hce
  exact wpAny_setField_rec hz2 (by simp) fun g3 _ e3=>hE g3 e s.toks (fun c o c1 _ c3 _ y=>e3.extBut _ _ c1 (e2 _ _ c3 (e1.extBut _ _ c1 y))) ⟨oe,e3.extBut _ _ ez hoe,hce⟩
 ·refine wpAny_bind (D1.item _ _ _ _ hlt q1 fun x g2 tk2 hx u1 e2=>wpAny_pure ?_)
  have hO2:IsPair g2 TO a b:=e2.extBut _ _ ap.nO.1 (e1.extBut _ _ ap.nz.2.1 hO)
  refine wpAny_bind (wpAny_seqItems hO2 rfl (wpAny_bind (wpAny_updateSeq_pair hO2 fun g3 hO3 e3=>?_)))
  refine wpAny_bind (wpAny_letGo (wpAny_pure (wpAny_bind (wpAny_bind (wpAny_onRaise ?_)))))
  show wpAny _ _ (Builtin.SmallTypes.nextOf (.ref j2) >>= _) _ _ { s with heap:=g3,toks:=tk2 }
  have q2:S2 k g3:=D2.frame _ _ _ t2 fun c hc o e=>e3.extBut _ _ (fun y=>ap.fO.2 (y▸hc)) (e2.extBut _ _ (fun y=>ap.fj.2 (y▸hc)) (e1.extBut _ _ (fun y=>ap.fz.2 (y▸hc)) e))
  refine wpAny_bind (D2.done _ _ _ q2 fun g4 e e4 he=>?_)
  obtain ⟨oe,hoe,hce⟩:=he
  have hz4:IsZip g4 z TI TO .ellipsis:=e4 _ _ (Ne.symm ap.nz.2.2.2) (e3.extBut _ _ (Ne.symm ap.nz.2.1) (e2.extBut _ _ (Ne.symm ap.nz.2.2.1) hz1))
  have ez:e≠z:=fun y=>by subst y;rw [hz4] at hoe;cases hoe;simp at hce
  exact wpAny_setField_rec hz4 (by simp) fun g5 _ e5=>hE g5 e tk2 (fun c o c1 c2 c3 c4 y=>e5.extBut _ _ c1 (e4 _ _ c4 (e3.extBut _ _ c2 (e2.extBut _ _ c3 (e1.extBut _ _ c1 y))))) ⟨oe,e5.extBut _ _ ez hoe,hce⟩
theorem nextZ_item {Q:Option Value→Shared→Prop} (D1:Draws prog w A.in1 j1 f1 n1 P1 S1) (D2:Draws prog w A.in1 j2 f2 n2 P2 S2) (ap:ZAp z TI TO j1 j2 f1 f2)
  (hz:IsZip s.heap z TI TO .none) (hI:IsPair s.heap TI (.ref j1) (.ref j2)) (hO:IsPair s.heap TO a b) (t1:S1 k s.heap) (t2:S2 k s.heap) (l1:k<n1) (l2:k<n2)
  (hQ:∀ x y g tk,P1 k x→P2 k y→IsZip g z TI TO (rawInt s.heap.objs.size)→IsPair g TO x y→S1 (k+1) g→S2 (k+1) g→IsPair g s.heap.objs.size x y→g.objs.size=s.heap.objs.size+1 →
   (∀ c o,c≠z→c≠TO→c≠j1→c≠j2→s.heap.get? c=some o→g.get? c=some o)→Q (some (.ref s.heap.objs.size)) { s with heap:=g,toks:=tk }):wpAny (model prog w) A (pyNext (.ref z)) Q E s:=by
 have ty:s.TypeIs (.ref z) "zip":=⟨_,hz,rfl⟩
 unfold pyNext
 exact wpAny_bind (wpAny_attempt (wpAny_callSpecial?_slot (name:=Str.ofString "__next__") ty F.slot_zip_next (wpAny_call_entry F.slot_zip_next ty F.entry_zip_next
  (zipD_item D1 D2 ap hz hI hO t1 t2 l1 l2 fun x y g tk b1 b2 b3 b4 b5 b6 b7 b8 b9=>wpAny_pure (hQ x y g tk b1 b2 b3 b4 b5 b6 b7 b8 b9)) (F.args_zip_next_1 _))))
theorem nextZ_end {Q:Option Value→Shared→Prop} (D1:Draws prog w A.in1 j1 f1 n1 P1 S1) (D2:Draws prog w A.in1 j2 f2 n2 P2 S2) (ap:ZAp z TI TO j1 j2 f1 f2)
  (hz:IsZip s.heap z TI TO .none) (hI:IsPair s.heap TI (.ref j1) (.ref j2)) (hO:IsPair s.heap TO a b) (t1:S1 k s.heap) (t2:S2 k s.heap) (hk:k=n1∨k<n1∧k=n2)
  (hQ:∀ g tk,(∀ c o,c≠z→c≠TO→c≠j1→c≠j2→s.heap.get? c=some o→g.get? c=some o)→Q none { s with heap:=g,toks:=tk }):wpAny (model prog w) A (pyNext (.ref z)) Q E s:=by
 have ty:s.TypeIs (.ref z) "zip":=⟨_,hz,rfl⟩
 unfold pyNext
 refine wpAny_bind (wpAny_attempt (wpAny_callSpecial?_slot (name:=Str.ofString "__next__") ty F.slot_zip_next (wpAny_call_entry F.slot_zip_next ty F.entry_zip_next
  (zipD_end D1 D2 ap hz hI hO t1 t2 hk fun g e tk hc he=>?_) (F.args_zip_next_1 _))))
 obtain ⟨o,ho,hc2⟩:=he
 exact wpAny_bind (wpAny_isInstance (b:=true) (T:="StopIteration") ⟨o,ho,hc2⟩ isSubtype_stop (wpAny_pure (hQ _ _ hc)))
end
abbrev zh1LL (h:Heap) (l1:Addr):Heap:=h.push { cls:=.type "list_iterator",data:=.fields #[.ref l1,.int 0 0] }
abbrev zh2LL (h:Heap) (l1 l2:Addr):Heap:=(zh1LL h l1).push { cls:=.type "list_iterator",data:=.fields #[.ref l2,.int 0 0] }
abbrev zh3LL (h:Heap) (l1 l2:Addr):Heap:=(zh2LL h l1 l2).push { cls:=.type "tuple",data:=.seq #[.ref h.objs.size,.ref (zh1LL h l1).objs.size] }
abbrev zh4LL (h:Heap) (l1 l2:Addr):Heap:=(zh3LL h l1 l2).push { cls:=.type "tuple",data:=.seq #[.none,.none] }
abbrev zh5LL (h:Heap) (l1 l2:Addr):Heap:=(zh4LL h l1 l2).push { cls:=.type "zip",data:=.fields #[.none,.bool false,.bool false,.ref (zh2LL h l1 l2).objs.size,.ref (zh3LL h l1 l2).objs.size] }
theorem meets_zLL (l1 l2:Addr) (xs ys:Array Value):Meets (Builtin.«zip.__new__» ⟨[.type "zip",.ref l1,.ref l2],[]⟩) (fun _ R s=>s.heap.IsList l1 xs∧s.heap.IsList l2 ys ∧
   R (.ok (.ret (.ref (zh4LL s.heap l1 l2).objs.size))) { s with heap:=zh5LL s.heap l1 l2 }) :=
 .of_wp fun prog w A R s q=>by
  obtain ⟨hp,gs,dr,tk,os⟩:=s
  obtain ⟨q1,q2,q⟩:=q
  have hsub:=sub_zip
  have y1:Heap.IsList (Shared.heap ⟨hp,gs,dr,tk,os⟩) l1 xs:=q1
  have y2:Heap.IsList (Shared.heap ⟨hp.push { cls:=.type "list_iterator",data:=.fields #[.ref l1,.int 0 0] },gs,dr,tk,os⟩) l2 ys:=Heap.IsList.push q2 _
  wp_walk using wpAny_pyIter_list y1,wpAny_pyIter_list y2
  exact ⟨_,rfl,q⟩
theorem call_zLL {prog:Program} {w:World} {A:Around} {E:Value→Shared→Prop} {s:Shared} {l1 l2:Addr} {xs ys:Array Value} {Q:Value→Shared→Prop} (q1:s.heap.IsList l1 xs) (q2:s.heap.IsList l2 ys)
  (q:∀ g,IsZip g (s.heap.objs.size+4) (s.heap.objs.size+2) (s.heap.objs.size+3) .none→IsPair g (s.heap.objs.size+2) (.ref s.heap.objs.size) (.ref (s.heap.objs.size+1))→IsPair g (s.heap.objs.size+3) .none .none →
   g.IsListIter s.heap.objs.size l1 0→g.IsListIter (s.heap.objs.size+1) l2 0→g.objs.size=s.heap.objs.size+5→(∀ c o,s.heap.get? c=some o→g.get? c=some o)→Q (.ref (s.heap.objs.size+4)) { s with heap:=g }) :
  wpAny (model prog w) A (call (.type "zip") [.ref l1,.ref l2]) Q E s:=by
 refine callType_new F.called_zip (by decide) (F.typeCall_zip_2 _ _) (F.newCall_zip_2 _ _) (fun ob=>F.args_object_init_3 ob _ _) F.entry_zip_new (meets_zLL l1 l2 xs ys) ⟨q1,q2,?_⟩
 have a1:(zh1LL s.heap l1).objs.size=s.heap.objs.size+1:=Heap.size_push ..
 have a2:(zh2LL s.heap l1 l2).objs.size=s.heap.objs.size+2:=by rw [Heap.size_push,a1]
 have a3:(zh3LL s.heap l1 l2).objs.size=s.heap.objs.size+3:=by rw [Heap.size_push,a2]
 have a4:(zh4LL s.heap l1 l2).objs.size=s.heap.objs.size+4:=by rw [Heap.size_push,a3]
 have a5:(zh5LL s.heap l1 l2).objs.size=s.heap.objs.size+5:=by rw [Heap.size_push,a4]
 have b5:(zh5LL s.heap l1 l2).get? (zh4LL s.heap l1 l2).objs.size=some _:=Heap.get?_push_size _ rfl
 have b4:(zh5LL s.heap l1 l2).get? (zh3LL s.heap l1 l2).objs.size=some _:=Heap.get?_push_of_some _ (Heap.get?_push_size _ rfl)
 have b3:(zh5LL s.heap l1 l2).get? (zh2LL s.heap l1 l2).objs.size=some _:=Heap.get?_push_of_some _ (Heap.get?_push_of_some _ (Heap.get?_push_size _ rfl))
 have b2:(zh5LL s.heap l1 l2).get? (zh1LL s.heap l1).objs.size=some _:=Heap.get?_push_of_some _ (Heap.get?_push_of_some _ (Heap.get?_push_of_some _ (Heap.get?_push_size _ rfl)))
 have b1:(zh5LL s.heap l1 l2).get? s.heap.objs.size=some _:=Heap.get?_push_of_some _ (Heap.get?_push_of_some _ (Heap.get?_push_of_some _ (Heap.get?_push_of_some _ (Heap.get?_push_size _ rfl))))
 show _∧_
 rw [a2,a3,a4] at b5
 rw [a1,a2] at b3
 rw [a3] at b4
 rw [a1] at b2
 rw [a4]
 exact ⟨⟨_,b5,rfl⟩,q _ b5 b3 b4 ⟨_,b1,rfl,rfl⟩ ⟨_,b2,rfl,rfl⟩ a5 fun c o y=>Heap.get?_push_of_some _ (Heap.get?_push_of_some _ (Heap.get?_push_of_some _ (Heap.get?_push_of_some _ (Heap.get?_push_of_some _ y))))⟩
abbrev zh1LT (h:Heap) (l1:Addr):Heap:=h.push { cls:=.type "list_iterator",data:=.fields #[.ref l1,.int 0 0] }
abbrev zh2LT (h:Heap) (l1 l2:Addr):Heap:=(zh1LT h l1).push { cls:=.type "tuple_iterator",data:=.fields #[.ref l2,.int 0 0] }
abbrev zh3LT (h:Heap) (l1 l2:Addr):Heap:=(zh2LT h l1 l2).push { cls:=.type "tuple",data:=.seq #[.ref h.objs.size,.ref (zh1LT h l1).objs.size] }
abbrev zh4LT (h:Heap) (l1 l2:Addr):Heap:=(zh3LT h l1 l2).push { cls:=.type "tuple",data:=.seq #[.none,.none] }
abbrev zh5LT (h:Heap) (l1 l2:Addr):Heap:=(zh4LT h l1 l2).push { cls:=.type "zip",data:=.fields #[.none,.bool false,.bool false,.ref (zh2LT h l1 l2).objs.size,.ref (zh3LT h l1 l2).objs.size] }
theorem meets_zLT (l1 l2:Addr) (xs ys:Array Value):Meets (Builtin.«zip.__new__» ⟨[.type "zip",.ref l1,.ref l2],[]⟩) (fun _ R s=>s.heap.IsList l1 xs∧s.heap.IsTuple l2 ys ∧
   R (.ok (.ret (.ref (zh4LT s.heap l1 l2).objs.size))) { s with heap:=zh5LT s.heap l1 l2 }) :=
 .of_wp fun prog w A R s q=>by
  obtain ⟨hp,gs,dr,tk,os⟩:=s
  obtain ⟨q1,q2,q⟩:=q
  have hsub:=sub_zip
  have y1:Heap.IsList (Shared.heap ⟨hp,gs,dr,tk,os⟩) l1 xs:=q1
  have y2:Heap.IsTuple (Shared.heap ⟨hp.push { cls:=.type "list_iterator",data:=.fields #[.ref l1,.int 0 0] },gs,dr,tk,os⟩) l2 ys:=let ⟨o,ho,r⟩:=q2;⟨o,Heap.get?_push_of_some _ ho,r⟩
  wp_walk using wpAny_pyIter_list y1,wpAny_pyIter_tuple y2
  exact ⟨_,rfl,q⟩
theorem call_zLT {prog:Program} {w:World} {A:Around} {E:Value→Shared→Prop} {s:Shared} {l1 l2:Addr} {xs ys:Array Value} {Q:Value→Shared→Prop} (q1:s.heap.IsList l1 xs) (q2:s.heap.IsTuple l2 ys)
  (q:∀ g,IsZip g (s.heap.objs.size+4) (s.heap.objs.size+2) (s.heap.objs.size+3) .none→IsPair g (s.heap.objs.size+2) (.ref s.heap.objs.size) (.ref (s.heap.objs.size+1))→IsPair g (s.heap.objs.size+3) .none .none →
   g.IsListIter s.heap.objs.size l1 0→g.IsTupleIter (s.heap.objs.size+1) l2 0→g.objs.size=s.heap.objs.size+5→(∀ c o,s.heap.get? c=some o→g.get? c=some o)→Q (.ref (s.heap.objs.size+4)) { s with heap:=g }) :
  wpAny (model prog w) A (call (.type "zip") [.ref l1,.ref l2]) Q E s:=by
 refine callType_new F.called_zip (by decide) (F.typeCall_zip_2 _ _) (F.newCall_zip_2 _ _) (fun ob=>F.args_object_init_3 ob _ _) F.entry_zip_new (meets_zLT l1 l2 xs ys) ⟨q1,q2,?_⟩
 have a1:(zh1LT s.heap l1).objs.size=s.heap.objs.size+1:=Heap.size_push ..
 have a2:(zh2LT s.heap l1 l2).objs.size=s.heap.objs.size+2:=by rw [Heap.size_push,a1]
 have a3:(zh3LT s.heap l1 l2).objs.size=s.heap.objs.size+3:=by rw [Heap.size_push,a2]
 have a4:(zh4LT s.heap l1 l2).objs.size=s.heap.objs.size+4:=by rw [Heap.size_push,a3]
 have a5:(zh5LT s.heap l1 l2).objs.size=s.heap.objs.size+5:=by rw [Heap.size_push,a4]
 have b5:(zh5LT s.heap l1 l2).get? (zh4LT s.heap l1 l2).objs.size=some _:=Heap.get?_push_size _ rfl
 have b4:(zh5LT s.heap l1 l2).get? (zh3LT s.heap l1 l2).objs.size=some _:=Heap.get?_push_of_some _ (Heap.get?_push_size _ rfl)
 have b3:(zh5LT s.heap l1 l2).get? (zh2LT s.heap l1 l2).objs.size=some _:=Heap.get?_push_of_some _ (Heap.get?_push_of_some _ (Heap.get?_push_size _ rfl))
 have b2:(zh5LT s.heap l1 l2).get? (zh1LT s.heap l1).objs.size=some _:=Heap.get?_push_of_some _ (Heap.get?_push_of_some _ (Heap.get?_push_of_some _ (Heap.get?_push_size _ rfl)))
 have b1:(zh5LT s.heap l1 l2).get? s.heap.objs.size=some _:=Heap.get?_push_of_some _ (Heap.get?_push_of_some _ (Heap.get?_push_of_some _ (Heap.get?_push_of_some _ (Heap.get?_push_size _ rfl))))
 show _∧_
 rw [a2,a3,a4] at b5
 rw [a1,a2] at b3
 rw [a3] at b4
 rw [a1] at b2
 rw [a4]
 exact ⟨⟨_,b5,rfl⟩,q _ b5 b3 b4 ⟨_,b1,rfl,rfl⟩ ⟨_,b2,rfl,rfl⟩ a5 fun c o y=>Heap.get?_push_of_some _ (Heap.get?_push_of_some _ (Heap.get?_push_of_some _ (Heap.get?_push_of_some _ (Heap.get?_push_of_some _ y))))⟩
abbrev zh1TL (h:Heap) (l1:Addr):Heap:=h.push { cls:=.type "tuple_iterator",data:=.fields #[.ref l1,.int 0 0] }
abbrev zh2TL (h:Heap) (l1 l2:Addr):Heap:=(zh1TL h l1).push { cls:=.type "list_iterator",data:=.fields #[.ref l2,.int 0 0] }
abbrev zh3TL (h:Heap) (l1 l2:Addr):Heap:=(zh2TL h l1 l2).push { cls:=.type "tuple",data:=.seq #[.ref h.objs.size,.ref (zh1TL h l1).objs.size] }
abbrev zh4TL (h:Heap) (l1 l2:Addr):Heap:=(zh3TL h l1 l2).push { cls:=.type "tuple",data:=.seq #[.none,.none] }
abbrev zh5TL (h:Heap) (l1 l2:Addr):Heap:=(zh4TL h l1 l2).push { cls:=.type "zip",data:=.fields #[.none,.bool false,.bool false,.ref (zh2TL h l1 l2).objs.size,.ref (zh3TL h l1 l2).objs.size] }
theorem meets_zTL (l1 l2:Addr) (xs ys:Array Value):Meets (Builtin.«zip.__new__» ⟨[.type "zip",.ref l1,.ref l2],[]⟩) (fun _ R s=>s.heap.IsTuple l1 xs∧s.heap.IsList l2 ys ∧
   R (.ok (.ret (.ref (zh4TL s.heap l1 l2).objs.size))) { s with heap:=zh5TL s.heap l1 l2 }) :=
 .of_wp fun prog w A R s q=>by
  obtain ⟨hp,gs,dr,tk,os⟩:=s
  obtain ⟨q1,q2,q⟩:=q
  have hsub:=sub_zip
  have y1:Heap.IsTuple (Shared.heap ⟨hp,gs,dr,tk,os⟩) l1 xs:=q1
  have y2:Heap.IsList (Shared.heap ⟨hp.push { cls:=.type "tuple_iterator",data:=.fields #[.ref l1,.int 0 0] },gs,dr,tk,os⟩) l2 ys:=Heap.IsList.push q2 _
  wp_walk using wpAny_pyIter_tuple y1,wpAny_pyIter_list y2
  exact ⟨_,rfl,q⟩
theorem call_zTL {prog:Program} {w:World} {A:Around} {E:Value→Shared→Prop} {s:Shared} {l1 l2:Addr} {xs ys:Array Value} {Q:Value→Shared→Prop} (q1:s.heap.IsTuple l1 xs) (q2:s.heap.IsList l2 ys)
  (q:∀ g,IsZip g (s.heap.objs.size+4) (s.heap.objs.size+2) (s.heap.objs.size+3) .none→IsPair g (s.heap.objs.size+2) (.ref s.heap.objs.size) (.ref (s.heap.objs.size+1))→IsPair g (s.heap.objs.size+3) .none .none →
   g.IsTupleIter s.heap.objs.size l1 0→g.IsListIter (s.heap.objs.size+1) l2 0→g.objs.size=s.heap.objs.size+5→(∀ c o,s.heap.get? c=some o→g.get? c=some o)→Q (.ref (s.heap.objs.size+4)) { s with heap:=g }) :
  wpAny (model prog w) A (call (.type "zip") [.ref l1,.ref l2]) Q E s:=by
 refine callType_new F.called_zip (by decide) (F.typeCall_zip_2 _ _) (F.newCall_zip_2 _ _) (fun ob=>F.args_object_init_3 ob _ _) F.entry_zip_new (meets_zTL l1 l2 xs ys) ⟨q1,q2,?_⟩
 have a1:(zh1TL s.heap l1).objs.size=s.heap.objs.size+1:=Heap.size_push ..
 have a2:(zh2TL s.heap l1 l2).objs.size=s.heap.objs.size+2:=by rw [Heap.size_push,a1]
 have a3:(zh3TL s.heap l1 l2).objs.size=s.heap.objs.size+3:=by rw [Heap.size_push,a2]
 have a4:(zh4TL s.heap l1 l2).objs.size=s.heap.objs.size+4:=by rw [Heap.size_push,a3]
 have a5:(zh5TL s.heap l1 l2).objs.size=s.heap.objs.size+5:=by rw [Heap.size_push,a4]
 have b5:(zh5TL s.heap l1 l2).get? (zh4TL s.heap l1 l2).objs.size=some _:=Heap.get?_push_size _ rfl
 have b4:(zh5TL s.heap l1 l2).get? (zh3TL s.heap l1 l2).objs.size=some _:=Heap.get?_push_of_some _ (Heap.get?_push_size _ rfl)
 have b3:(zh5TL s.heap l1 l2).get? (zh2TL s.heap l1 l2).objs.size=some _:=Heap.get?_push_of_some _ (Heap.get?_push_of_some _ (Heap.get?_push_size _ rfl))
 have b2:(zh5TL s.heap l1 l2).get? (zh1TL s.heap l1).objs.size=some _:=Heap.get?_push_of_some _ (Heap.get?_push_of_some _ (Heap.get?_push_of_some _ (Heap.get?_push_size _ rfl)))
 have b1:(zh5TL s.heap l1 l2).get? s.heap.objs.size=some _:=Heap.get?_push_of_some _ (Heap.get?_push_of_some _ (Heap.get?_push_of_some _ (Heap.get?_push_of_some _ (Heap.get?_push_size _ rfl))))
 show _∧_
 rw [a2,a3,a4] at b5
 rw [a1,a2] at b3
 rw [a3] at b4
 rw [a1] at b2
 rw [a4]
 exact ⟨⟨_,b5,rfl⟩,q _ b5 b3 b4 ⟨_,b1,rfl,rfl⟩ ⟨_,b2,rfl,rfl⟩ a5 fun c o y=>Heap.get?_push_of_some _ (Heap.get?_push_of_some _ (Heap.get?_push_of_some _ (Heap.get?_push_of_some _ (Heap.get?_push_of_some _ y))))⟩
abbrev zh1TT (h:Heap) (l1:Addr):Heap:=h.push { cls:=.type "tuple_iterator",data:=.fields #[.ref l1,.int 0 0] }
abbrev zh2TT (h:Heap) (l1 l2:Addr):Heap:=(zh1TT h l1).push { cls:=.type "tuple_iterator",data:=.fields #[.ref l2,.int 0 0] }
abbrev zh3TT (h:Heap) (l1 l2:Addr):Heap:=(zh2TT h l1 l2).push { cls:=.type "tuple",data:=.seq #[.ref h.objs.size,.ref (zh1TT h l1).objs.size] }
abbrev zh4TT (h:Heap) (l1 l2:Addr):Heap:=(zh3TT h l1 l2).push { cls:=.type "tuple",data:=.seq #[.none,.none] }
abbrev zh5TT (h:Heap) (l1 l2:Addr):Heap:=(zh4TT h l1 l2).push { cls:=.type "zip",data:=.fields #[.none,.bool false,.bool false,.ref (zh2TT h l1 l2).objs.size,.ref (zh3TT h l1 l2).objs.size] }
theorem meets_zTT (l1 l2:Addr) (xs ys:Array Value):Meets (Builtin.«zip.__new__» ⟨[.type "zip",.ref l1,.ref l2],[]⟩) (fun _ R s=>s.heap.IsTuple l1 xs∧s.heap.IsTuple l2 ys ∧
   R (.ok (.ret (.ref (zh4TT s.heap l1 l2).objs.size))) { s with heap:=zh5TT s.heap l1 l2 }) :=
 .of_wp fun prog w A R s q=>by
  obtain ⟨hp,gs,dr,tk,os⟩:=s
  obtain ⟨q1,q2,q⟩:=q
  have hsub:=sub_zip
  have y1:Heap.IsTuple (Shared.heap ⟨hp,gs,dr,tk,os⟩) l1 xs:=q1
  have y2:Heap.IsTuple (Shared.heap ⟨hp.push { cls:=.type "tuple_iterator",data:=.fields #[.ref l1,.int 0 0] },gs,dr,tk,os⟩) l2 ys:=let ⟨o,ho,r⟩:=q2;⟨o,Heap.get?_push_of_some _ ho,r⟩
  wp_walk using wpAny_pyIter_tuple y1,wpAny_pyIter_tuple y2
  exact ⟨_,rfl,q⟩
theorem call_zTT {prog:Program} {w:World} {A:Around} {E:Value→Shared→Prop} {s:Shared} {l1 l2:Addr} {xs ys:Array Value} {Q:Value→Shared→Prop} (q1:s.heap.IsTuple l1 xs) (q2:s.heap.IsTuple l2 ys)
  (q:∀ g,IsZip g (s.heap.objs.size+4) (s.heap.objs.size+2) (s.heap.objs.size+3) .none→IsPair g (s.heap.objs.size+2) (.ref s.heap.objs.size) (.ref (s.heap.objs.size+1))→IsPair g (s.heap.objs.size+3) .none .none →
   g.IsTupleIter s.heap.objs.size l1 0→g.IsTupleIter (s.heap.objs.size+1) l2 0→g.objs.size=s.heap.objs.size+5→(∀ c o,s.heap.get? c=some o→g.get? c=some o)→Q (.ref (s.heap.objs.size+4)) { s with heap:=g }) :
  wpAny (model prog w) A (call (.type "zip") [.ref l1,.ref l2]) Q E s:=by
 refine callType_new F.called_zip (by decide) (F.typeCall_zip_2 _ _) (F.newCall_zip_2 _ _) (fun ob=>F.args_object_init_3 ob _ _) F.entry_zip_new (meets_zTT l1 l2 xs ys) ⟨q1,q2,?_⟩
 have a1:(zh1TT s.heap l1).objs.size=s.heap.objs.size+1:=Heap.size_push ..
 have a2:(zh2TT s.heap l1 l2).objs.size=s.heap.objs.size+2:=by rw [Heap.size_push,a1]
 have a3:(zh3TT s.heap l1 l2).objs.size=s.heap.objs.size+3:=by rw [Heap.size_push,a2]
 have a4:(zh4TT s.heap l1 l2).objs.size=s.heap.objs.size+4:=by rw [Heap.size_push,a3]
 have a5:(zh5TT s.heap l1 l2).objs.size=s.heap.objs.size+5:=by rw [Heap.size_push,a4]
 have b5:(zh5TT s.heap l1 l2).get? (zh4TT s.heap l1 l2).objs.size=some _:=Heap.get?_push_size _ rfl
 have b4:(zh5TT s.heap l1 l2).get? (zh3TT s.heap l1 l2).objs.size=some _:=Heap.get?_push_of_some _ (Heap.get?_push_size _ rfl)
 have b3:(zh5TT s.heap l1 l2).get? (zh2TT s.heap l1 l2).objs.size=some _:=Heap.get?_push_of_some _ (Heap.get?_push_of_some _ (Heap.get?_push_size _ rfl))
 have b2:(zh5TT s.heap l1 l2).get? (zh1TT s.heap l1).objs.size=some _:=Heap.get?_push_of_some _ (Heap.get?_push_of_some _ (Heap.get?_push_of_some _ (Heap.get?_push_size _ rfl)))
 have b1:(zh5TT s.heap l1 l2).get? s.heap.objs.size=some _:=Heap.get?_push_of_some _ (Heap.get?_push_of_some _ (Heap.get?_push_of_some _ (Heap.get?_push_of_some _ (Heap.get?_push_size _ rfl))))
 show _∧_
 rw [a2,a3,a4] at b5
 rw [a1,a2] at b3
 rw [a3] at b4
 rw [a1] at b2
 rw [a4]
 exact ⟨⟨_,b5,rfl⟩,q _ b5 b3 b4 ⟨_,b1,rfl,rfl⟩ ⟨_,b2,rfl,rfl⟩ a5 fun c o y=>Heap.get?_push_of_some _ (Heap.get?_push_of_some _ (Heap.get?_push_of_some _ (Heap.get?_push_of_some _ (Heap.get?_push_of_some _ y))))⟩
end L2
end
noncomputable section
namespace L2
open PySem PySem.Spec PyProof.Rows
section
variable {X:Cx} {pins:List (Addr × Obj)} {σ:St} {H:Hp} {s:Shared} {h':Heap}
theorem Inv.turnedC {ch:List Addr} {t':Nat} (I:Inv X pins σ H s) (k:∀ b o,b∉ch→s.heap.get? b=some o→h'.get? b=some o) (f:∀ b∈ch,FpOk X pins H b):Inv X pins σ H { s with heap:=h',toks:=t' }:=by
 have nfp:∀ {b:Addr} {u:HO},H b=some u→b∉ch:=fun {b u} q z=>by rw [(f b z).1] at q;cases q
 refine I.step (g':=s.gens) (d':=s.drawn) (ch:=ch) (fun b hb=>⟨(f b hb).2.2.2.1,(f b hb).2.1,(f b hb).2.2.2.2.1,(f b hb).2.2.2.2.2⟩) (fun b o _ _ hc q _=>k b o hc q) (fun b o _ _ hc q _=>⟨o.slots,k b o hc q⟩)
  (fun b o hc q z=>z) (fun b o hc q=>⟨o,k b o hc q⟩) (fun b ys q=>q) (fun b o u q=>q) (fun b ps q=>⟨#[],by rw [q];simp⟩) (fun m hm=>?_) (fun b u q=>?_) I.bare
 ·obtain ⟨o,es,ep,ho,r⟩:=hm
  exact ⟨o,es,ep,k _ o (fun z=>(f _ z).2.1 rfl) ho,r⟩
 ·refine (I.hok b u q).stay (fun c v hc z=>?_) (fun c z=>z) fun c ys z=>z
  rcases hc with rfl | hc
  ·exact k c v (nfp q) z
  ·exact k c v (nfp hc) z
theorem Inv.turnedN {ch:List Addr} {T:Addr} {xs:List V} {t':Nat} (I:Inv X pins σ H s) (k:∀ b o,b∉ch→s.heap.get? b=some o→h'.get? b=some o) (f:∀ b∈ch,FpOk X pins H b)
  (hT:s.heap.objs.size≤T) (new:ObjOk X.prog X.w (upd H T (.tup xs)) h' T (.tup xs)):Inv X pins σ (upd H T (.tup xs)) { s with heap:=h',toks:=t' }:=by
 have hn:H T=none:=I.hok.fresh hT
 have nT:∀ {b:Addr} {o:Obj},s.heap.get? b=some o→b≠T:=fun {b o} q=>Nat.ne_of_lt (Nat.lt_of_lt_of_le (Heap.lt_size q) hT)
 have nfp:∀ {b:Addr} {u:HO},H b=some u→b∉ch:=fun {b u} q z=>by rw [(f b z).1] at q;cases q
 refine I.step (g':=s.gens) (d':=s.drawn) (ch:=ch) (fun b hb=>⟨(f b hb).2.2.2.1,(f b hb).2.1,(f b hb).2.2.2.2.1,(f b hb).2.2.2.2.2⟩) (fun b o _ _ hc q _=>k b o hc q) (fun b o _ _ hc q _=>⟨o.slots,k b o hc q⟩)
  (fun b o hc q z=>by rw [upd_ne (nT q)];exact z) (fun b o hc q=>⟨o,k b o hc q⟩)
  (fun b ys q=>by rw [upd_ne (ne_of_none q hn)];exact q) (fun b o u q=>by rw [upd_ne (ne_of_none q hn)];exact q) (fun b ps q=>⟨#[],by rw [upd_ne (ne_of_none q hn),q];simp⟩) (fun m hm=>?_) (fun b u q=>?_) I.bare
 ·obtain ⟨o,es,ep,ho,r⟩:=hm
  exact ⟨o,es,ep,k _ o (fun z=>(f _ z).2.1 rfl) ho,r⟩
 ·by_cases hb:b=T
  ·subst hb;rw [upd_same] at q;cases q;exact new
  ·rw [upd_ne hb] at q
   refine (I.hok b u q).stay (fun c v hc z=>?_) (fun c z=>by rw [upd_ne (ne_of_none z hn)];exact z) fun c ys z=>by rw [upd_ne (ne_of_none z hn)];exact z
   rcases hc with rfl | hc
   ·exact k c v (nfp q) z
   ·exact k c v (nfp hc) z
end
def SqB (t:Bool) (K:PySem.W.Frag) (H:Hp) (a:Addr) (xs:List V):Prop:=if t then SqT K H a xs else SqL K H a xs
def ItB (t:Bool) (h:Heap) (j l:Addr) (i:Nat):Prop:=if t then h.IsTupleIter j l i else h.IsListIter j l i
def IsB (t:Bool) (h:Heap) (l:Addr) (its:Array Value):Prop:=if t then h.IsTuple l its else h.IsList l its
theorem ItB.at {t:Bool} {h h':Heap} {j l:Addr} {i:Nat} (x:ItB t h j l i) (k:∀ o,h.get? j=some o→h'.get? j=some o):ItB t h' j l i:=by
 cases t with
 | true=>obtain ⟨o,e,r⟩:=(show h.IsTupleIter j l i from x);exact (show h'.IsTupleIter j l i from ⟨o,k o e,r⟩)
 | false=>obtain ⟨o,e,r⟩:=(show h.IsListIter j l i from x);exact (show h'.IsListIter j l i from ⟨o,k o e,r⟩)
theorem ItB.obj {t:Bool} {h:Heap} {j l:Addr} {i:Nat} (x:ItB t h j l i):∃ o,h.get? j=some o∧∀ v,o.data≠.cell v:=by
 cases t with
 | true=>obtain ⟨o,e,_,d⟩:=(show h.IsTupleIter j l i from x);exact ⟨o,e,fun v q=>by rw [d] at q;cases q⟩
 | false=>obtain ⟨o,e,_,d⟩:=(show h.IsListIter j l i from x);exact ⟨o,e,fun v q=>by rw [d] at q;cases q⟩
theorem Inv.sqB {X:Cx} {pins:List (Addr × Obj)} {σ:St} {H:Hp} {s:Shared} {t:Bool} {a:Addr} {xs:List V} (I:Inv X pins σ H s) (q:SqB t X.K H a xs):∃ its:List Value,Vals xs its∧IsB t s.heap a its.toArray∧a<s.heap.objs.size:=by
 cases t with
 | true =>
  obtain ⟨its,rv,p,_⟩:=I.tuple (show SqT X.K H a xs from q)
  obtain ⟨o,e,_⟩:=id p
  exact ⟨its,rv,p,Heap.lt_size e⟩
 | false =>
  obtain ⟨its,rv,p,_⟩:=I.list (show SqL X.K H a xs from q)
  obtain ⟨o,e,_⟩:=id p.isList
  exact ⟨its,rv,p.isList,Heap.lt_size e⟩
theorem Inv.sqB_inj {X:Cx} {pins:List (Addr × Obj)} {σ:St} {H:Hp} {s:Shared} {t:Bool} {a:Addr} {xs ys:List V} (I:Inv X pins σ H s) (q:SqB t X.K H a xs) (q':SqB t X.K H a ys):xs=ys:=by
 cases t with
 | true=>exact I.tuple_inj (show SqT X.K H a xs from q) q'
 | false=>exact I.list_inj (show SqL X.K H a xs from q) q'
theorem drawsB {prog:Program} {w:World} {A:Around} (t:Bool) (hh:A.handled=none) (j l:Addr) (hne:l≠j) (its:Array Value):Draws prog w A j [j,l] its.size (fun i v=>its[i]?=some v) (fun i h=>ItB t h j l i∧IsB t h l its):=by
 cases t with
 | true=>exact draws_tuple hh j l hne its
 | false=>exact Draws.list hh j l hne its
def Itz (K:PySem.W.Frag) (t1 t2:Bool) (l1 l2:Addr):It :=
 ⟨fun i H=>∃ xs ys x y,SqB t1 K H l1 xs∧SqB t2 K H l2 ys∧xs[i]?=some x∧ys[i]?=some y,
  fun i H v H'=>∃ p x y,H p=none∧v=.ref p∧H'=upd H p (.tup [x,y])∧(∀ xs,SqB t1 K H l1 xs→xs[i]?=some x)∧∀ ys,SqB t2 K H l2 ys→ys[i]?=some y,
  fun i H=>∃ xs ys,SqB t1 K H l1 xs∧SqB t2 K H l2 ys∧(i=xs.length∨i<xs.length∧i=ys.length)⟩
theorem ane {a b:Nat} (h:a<b∨b<a):(show Addr from a)≠(show Addr from b):=fun e=>by
 have e:a=b:=e
 omega
theorem anm {z a b:Nat} (h1:z<a∨a<z) (h2:z<b∨b<z):(show Addr from z)∉[(show Addr from a),(show Addr from b)]:=fun e=>by
 rcases List.mem_cons.mp e with e | e
 ·exact ane h1 e
 ·exact ane h2 (List.mem_singleton.mp e)
theorem zap {N l1 l2:Nat} (h1:l1<N) (h2:l2<N):ZAp (N+4) (N+2) (N+3) N (N+1) [N,l1] [N+1,l2] :=
 ⟨⟨ane (by omega),ane (by omega),ane (by omega),ane (by omega)⟩,⟨ane (by omega),ane (by omega),ane (by omega)⟩,⟨ane (by omega),ane (by omega)⟩,ane (by omega),⟨anm (by omega) (by omega),anm (by omega) (by omega)⟩,⟨anm (by omega) (by omega),anm (by omega) (by omega)⟩,⟨anm (by omega) (by omega),anm (by omega) (by omega)⟩⟩
theorem turn_zip {P:Program} {w:World} {K:PySem.W.Frag} {elts:List Expr} {kx:Nat} {pos:Pos} (t1 t2:Bool) (l1 l2 N:Nat) (h1:l1<N) (h2:l2<N) :
  Turn P w K (.Tuple elts kx pos) (Itz K t1 t2 l1 l2) [N+4,N+2,N+3,N,N+1] (N+4)
   (fun i h=>IsZip h (N+4) (N+2) (N+3) .none∧IsPair h (N+2) (.ref N) (.ref (N+1))∧(∃ a b,IsPair h (N+3) a b)∧ItB t1 h N l1 i∧ItB t2 h (N+1) l2 i) where
 mem:=by simp
 obj:=fun i h st b hb=>by
  obtain ⟨s1,s2,⟨a,c,s3⟩,s4,s5⟩:=st
  simp only [List.mem_cons,List.not_mem_nil,or_false] at hb
  rcases hb with rfl | rfl | rfl | rfl | rfl
  ·exact ⟨_,s1,fun v q=>by cases q⟩
  ·exact ⟨_,s2,fun v q=>by cases q⟩
  ·exact ⟨_,s3,fun v q=>by cases q⟩
  ·exact s4.obj
  ·exact s5.obj
 keep:=fun i h h' st k=>by
  obtain ⟨s1,s2,⟨a,c,s3⟩,s4,s5⟩:=st
  exact ⟨k _ (by simp) _ s1,k _ (by simp) _ s2,⟨a,c,k _ (by simp) _ s3⟩,s4.at fun o e=>k _ (by simp) o e,s5.at fun o e=>k _ (by simp) o e⟩
 item:=by
  intro X hP hw hK hc i pins s σ H E I hf st hg
  subst hP hw hK
  obtain ⟨xs,ys,x,y,q1,q2,hx,hy⟩:=hg
  obtain ⟨s1,s2,⟨a,c,s3⟩,s4,s5⟩:=st
  obtain ⟨its,rv,p,_⟩:=I.sqB q1
  obtain ⟨jts,rw',p',_⟩:=I.sqB q2
  obtain ⟨u,hu,ru⟩:=rv.get hx
  obtain ⟨u',hu',ru'⟩:=rw'.get hy
  have hd:X.A.in1.handled=none:=I.ok.hd hc
  have D1:=drawsB (prog:=X.prog) (w:=X.w) (A:=X.A.in1) t1 hd N l1 (ane (.inl h1)) its.toArray
  have D2:=drawsB (prog:=X.prog) (w:=X.w) (A:=X.A.in1) t2 hd (N+1) l2 (ane (by omega)) jts.toArray
  have lt1:i<its.toArray.size:=by
   have:=(List.getElem?_eq_some_iff.mp hu).1
   rw [List.size_toArray];exact this
  have lt2:i<jts.toArray.size:=by
   have:=(List.getElem?_eq_some_iff.mp hu').1
   rw [List.size_toArray];exact this
  have zlt:N+4<s.heap.objs.size:=Heap.lt_size s1
  refine nextZ_item D1 D2 (zap h1 h2) s1 s2 s3 ⟨s4,p⟩ ⟨s5,p'⟩ lt1 lt2 fun v v' g tk hv hv' b3 b4 b5 b6 b7 b8 b9=>⟨_,rfl,wpAny_letOwnedTupleGo_zip b3 fun g2 z2 e2=>?_⟩
  have ev:v=u:=by
   have z:its[i]?=some v:=by simpa using hv
   rw [hu] at z;exact (Option.some.inj z).symm
  have ev':v'=u':=by
   have z:jts[i]?=some v':=by simpa using hv'
   rw [hu'] at z;exact (Option.some.inj z).symm
  subst ev ev'
  have up:∀ b o,b≠N+4→g.get? b=some o→g2.get? b=some o:=fun b o hb e=>(e2.2 b hb).trans e
  have hk2:∀ b o,b∉[N+4,N+2,N+3,N,N+1]→s.heap.get? b=some o→g2.get? b=some o:=fun b o hb e=>by
   simp only [List.mem_cons,List.not_mem_nil,or_false,not_or] at hb
   exact up b o hb.1 (b9 b o hb.1 hb.2.2.1 hb.2.2.2.1 hb.2.2.2.2 e)
  have nT:s.heap.objs.size≠N+4:=Nat.ne_of_gt zlt
  have I1:Inv X pins σ (upd H s.heap.objs.size (.tup [x,y])) { s with heap:=g2,toks:=tk }:=I.turnedN hk2 hf (Nat.le_refl _)
   ⟨by show 2≤sizeLine;decide,[v,v'],.cons ru (.cons ru' .nil),⟨_,up _ _ nT b7,rfl,_,rfl⟩⟩
  refine ⟨.ref s.heap.objs.size,_,I1,rfl,⟨_,x,y,I.fresh,rfl,rfl,fun zs hz=>by rw [I.sqB_inj hz q1];exact hx,fun zs hz=>by rw [I.sqB_inj hz q2];exact hy⟩,⟨z2,?_,⟨_,_,up _ _ (ane (a:=N+3) (b:=N+4) (by omega)) b4⟩,?_,?_⟩,fun b hb=>?_⟩
  ·exact up _ _ (ane (a:=N+2) (b:=N+4) (by omega)) (b9 _ _ (ane (a:=N+2) (b:=N+4) (by omega)) (ane (a:=N+2) (b:=N+3) (by omega)) (ane (a:=N+2) (b:=N) (by omega)) (ane (a:=N+2) (b:=N+1) (by omega)) s2)
  ·exact b5.1.at fun o e=>up _ o (ane (a:=N) (b:=N+4) (by omega)) e
  ·exact b6.1.at fun o e=>up _ o (ane (a:=N+1) (b:=N+4) (by omega)) e
  ·have hbl:b<s.heap.objs.size:=by
    have zl:N+4<s.heap.objs.size:=zlt
    simp only [List.mem_cons,List.not_mem_nil,or_false] at hb
    rcases hb with e | e | e | e | e<;>(rw [e];show (_:Nat)<_;omega)
   rw [upd_ne (Nat.ne_of_lt hbl)];exact (hf b hb).1
 done:=by
  intro X hP hw hK hc i pins s σ H E I hf st hg
  subst hP hw hK
  obtain ⟨xs,ys,q1,q2,hx⟩:=hg
  obtain ⟨s1,s2,⟨a,c,s3⟩,s4,s5⟩:=st
  obtain ⟨its,rv,p,_⟩:=I.sqB q1
  obtain ⟨jts,rw',p',_⟩:=I.sqB q2
  have hd:X.A.in1.handled=none:=I.ok.hd hc
  have D1:=drawsB (prog:=X.prog) (w:=X.w) (A:=X.A.in1) t1 hd N l1 (ane (.inl h1)) its.toArray
  have D2:=drawsB (prog:=X.prog) (w:=X.w) (A:=X.A.in1) t2 hd (N+1) l2 (ane (by omega)) jts.toArray
  refine nextZ_end D1 D2 (zap h1 h2) s1 s2 s3 ⟨s4,p⟩ ⟨s5,p'⟩ (k:=i) (by rw [List.size_toArray,List.size_toArray,← rv.length,← rw'.length];exact hx) fun g tk hk=>⟨rfl,I.turnedC (fun b o hb e=>?_) hf⟩
  simp only [List.mem_cons,List.not_mem_nil,or_false,not_or] at hb
  exact hk b o hb.1 hb.2.2.1 hb.2.2.2.1 hb.2.2.2.2 e
 self:=fun _ _ _ _ _ st q=>wpAny_pyIter_zip st.1 q
section
variable {X:Cx}
theorem pi_zip {a b:Expr} {ta:TA} {p pos p2:Pos} {elts:List Expr} {kx:Nat} (hg:Gl X "zip") (hm:X.mg "zip"=none) (ha:PA X [a,b] ta) (hs:starEach [a,b] X.env=[(false,eval a X.env),(false,eval b X.env)]) (hs2:starEach [b] X.env=[(false,eval b X.env)]) :
  PI X (.Tuple elts kx p2) (.Call (.Name "zip" p) [a,b] [] pos) (fun σ H R=>ta σ H fun vs H1=>∃ l1 l2 t1 t2 xs ys,vs=[.ref l1,.ref l2]∧SqB t1 X.K H1 l1 xs∧SqB t2 X.K H1 l2 ys∧R (Itz X.K t1 t2 l1 l2) H1):=by
 intro pins s σ H R I h
 refine Call_ (ld_blt I hg hm (show bootBuiltins "zip"=some (.type "zip") by decide +kernel) (PyProof.Rows.callWith_type1 (thn (ha pos pins s σ H _ I h) fun us s1 ⟨vs,H1,I1,r1,q1⟩=>?_) (by rw [hs,hs2]) (by rw [hs2];rfl)))
 obtain ⟨l1,l2,t1,t2,xs,ys,e,q1,q2,q⟩:=q1
 subst e
 obtain ⟨u,u',rfl,rx,ry⟩:=vals2 r1
 cases rx
 cases ry
 obtain ⟨its,rv,b1,lt1⟩:=I1.sqB q1
 obtain ⟨jts,rw',b2,lt2⟩:=I1.sqB q2
 have fin:∀ {g:Heap},IsZip g (s1.heap.objs.size+4) (s1.heap.objs.size+2) (s1.heap.objs.size+3) .none→IsPair g (s1.heap.objs.size+2) (.ref s1.heap.objs.size) (.ref (s1.heap.objs.size+1))→IsPair g (s1.heap.objs.size+3) .none .none →
   ItB t1 g s1.heap.objs.size l1 0→ItB t2 g (s1.heap.objs.size+1) l2 0→(∀ c o,s1.heap.get? c=some o→g.get? c=some o)→wpAny (model X.prog X.w) X.A (pyIter (.ref (s1.heap.objs.size+4))) (PIE X pins σ (.Tuple elts kx p2) R) X.xe { s1 with heap:=g }:=fun {g} y1 y2 y3 y4 y5 k=>by
  refine wpAny_pyIter_zip (s:={ s1 with heap:=g }) y1 ⟨_,_,_,_,H1,rfl,I1.kept (t':=s1.toks) k,turn_zip t1 t2 l1 l2 s1.heap.objs.size lt1 lt2,⟨y1,y2,⟨_,_,y3⟩,y4,y5⟩,fun b hb=>?_,q⟩
  have le:s1.heap.objs.size≤b:=by
   simp only [List.mem_cons,List.not_mem_nil,or_false] at hb
   rcases hb with e | e | e | e | e<;>(rw [e];show (_:Nat)≤_;omega)
  exact I1.fpOk le (I1.hok.fresh le)
 cases t1<;>cases t2
 ·exact call_zLL b1 b2 fun g y1 y2 y3 y4 y5 _ k=>fin y1 y2 y3 y4 y5 k
 ·exact call_zLT b1 b2 fun g y1 y2 y3 y4 y5 _ k=>fin y1 y2 y3 y4 y5 k
 ·exact call_zTL b1 b2 fun g y1 y2 y3 y4 y5 _ k=>fin y1 y2 y3 y4 y5 k
 ·exact call_zTT b1 b2 fun g y1 y2 y3 y4 y5 _ k=>fin y1 y2 y3 y4 y5 k
end
end L2
end
noncomputable section
namespace Ev
open PySem PySem.Spec PyProof.Rows L2
section
variable {X:Cx} {c:Tc} {a b:Expr} {pos p:Pos}
def spF (X:Cx) (c:Tc) (f:Env→Option T):TE:=fun σ H Q=>∃ r F x,EnvE X c r F σ H∧f r=some (.str x)∧x.length≤sizeLine∧∀ F' H',Step F H F' H'→Q (.str x) H'
theorem f_val {f:Env→Option T} (ha:Oke X c a f):PE X (.FormattedValue a (-1) none pos) (spF X c f):=by
 intro pins s σ H Q I q
 obtain ⟨r,F,x,e,ht,hz,q⟩:=q
 refine FormattedValue_plain (thn (ha pins s σ H (fun v H'=>v=.str x∧Q (.str x) H') I ⟨r,F,_,e,ht,fun v F' H' s1 r1=>⟨r1,q F' H' s1⟩⟩) fun u s1 ⟨v,H1,I1,r1,e1,q1⟩=>?_)
 subst e1
 obtain ⟨t,rfl⟩:=r1
 exact formatField_str (fun t' tk=>⟨.str x,H1,I1.tok _,⟨_,rfl⟩,q1⟩) hz
theorem f_cst {x:Str} {k:Nat}:PE X (.Constant (.str x) k pos) (spF X c fun _=>some (.str x)):=by
 refine pe_mono pe_str fun σ H Q q=>?_
 obtain ⟨r,F,y,e,ht,hz,q⟩:=q
 cases ht
 exact q F H (Step.refl e.fh)
inductive Fps (X:Cx) (c:Tc):List Expr→(Env→Option (List T))→Prop
 | nil:Fps X c [] (fun _=>some [])
 | cons {e:Expr} {es:List Expr} {f:Env→Option T} {g:Env→Option (List T)}:PE X e (spF X c f)→Fps X c es g→Fps X c (e::es) (fun r=>(f r).bind fun x=>(g r).bind fun xs=>some (x::xs))
structure Walk (K:PySem.W.Frag) (J:It) (ts:List T) (F':Hp):Prop where
 go:∀ (i:Nat) (H:Hp),i<ts.length→Same F' H→J.go i H
 yld:∀ (i:Nat) (H:Hp) (x:V) (H5 F:Hp) (t:T),ts[i]?=some t→Same F' F→Same F H→J.yld i H x H5→∃ F5,Step F H F5 H5∧Rep K F5 t x
 stop:∀ (H:Hp),Same F' H→J.stop ts.length H
def spI (X:Cx) (c:Tc) (f:Env→Option (List T)):TI:=fun σ H R=>∃ r F ts,EnvE X c r F σ H∧f r=some ts∧∀ J F' H',Step F H F' H'→Walk X.K J ts F'→R J H'
theorem pi_mono {tg it:Expr} {t t':TI} (h:PI X tg it t) (m:∀ σ H R,t' σ H R→t σ H R):PI X tg it t':=fun pins s σ H R I q=>h pins s σ H R I (m σ H R q)
theorem walk_list {K:PySem.W.Frag} {F':Hp} {l:Addr} {vs:List V} {ts:List T} (h1:Ls K F' l vs) (h2:Reps K F' ts vs):Walk K (Itl K l) ts F' where
 go:=fun i H hi sm=>by
  obtain ⟨v,hv,_⟩:=h2.get (List.getElem?_eq_getElem hi)
  exact ⟨vs,v,(Ls.same sm h1).sq,hv⟩
 yld:=fun i H x H5 F t ht sF fh y=>by
  obtain ⟨rfl,y⟩:=y
  obtain ⟨v,hv,hr⟩:=h2.get ht
  have e:=y vs ((Ls.same fh (Ls.same sF h1)).sq)
  rw [hv] at e
  cases e
  exact ⟨F,Step.refl fh,hr.mono sF⟩
 stop:=fun H sm=>⟨vs,(Ls.same sm h1).sq,by rw [h2.length];exact Nat.le_refl _⟩
theorem walk_tup {K:PySem.W.Frag} {F':Hp} {l:Addr} {vs:List V} {ts:List T} (h1:SqT K F' l vs) (h2:Reps K F' ts vs):Walk K (Itt K l) ts F' where
 go:=fun i H hi sm=>by
  obtain ⟨v,hv,_⟩:=h2.get (List.getElem?_eq_getElem hi)
  exact ⟨vs,v,same_tup sm h1,hv⟩
 yld:=fun i H x H5 F t ht sF fh y=>by
  obtain ⟨rfl,y⟩:=y
  obtain ⟨v,hv,hr⟩:=h2.get ht
  have e:=y vs (same_tup fh (same_tup sF h1))
  rw [hv] at e
  cases e
  exact ⟨F,Step.refl fh,hr.mono sF⟩
 stop:=fun H sm=>⟨vs,same_tup sm h1,by rw [h2.length];exact Nat.le_refl _⟩
theorem range_get {n i:Nat} {t:T} (h:(rangeT n)[i]?=some t):i<n∧t=.int (i:Int):=by
 unfold rangeT at h
 rw [List.getElem?_map] at h
 obtain ⟨j,hj,e⟩:=oms h
 have:=List.getElem?_eq_some_iff.mp hj
 obtain ⟨h1,h2⟩:=this
 rw [List.getElem_range] at h2
 subst h2
 exact ⟨by simpa using h1,e.symm⟩
theorem walk_range {K:PySem.W.Frag} {F':Hp} (n:Nat):Walk K (Itr 0 n) (rangeT n) F' where
 go:=fun i H hi _=>by
  have:i<n:=by simpa [rangeT] using hi
  exact this
 yld:=fun i H x H5 F t ht _ fh y=>by
  obtain ⟨rfl,rfl⟩:=y
  obtain ⟨_,rfl⟩:=range_get ht
  exact ⟨F,Step.refl fh,by show V.int (0+(i:Int))=V.int (i:Int);rw [Int.zero_add]⟩
 stop:=fun H _=>by show n≤(rangeT n).length;simp [rangeT]
theorem enum_get:∀ {ts:List T} {i j:Nat} {t:T},(enumT ts j)[i]?=some t→∃ u,ts[i]?=some u∧t=.tup [.int ((j+i:Nat):Int),u]
 | [],_,_,_,h=>by simp [enumT] at h
 | u::ts,0,j,t,h=>by simp [enumT] at h;exact ⟨u,rfl,by rw [← h];simp⟩
 | u::ts,i+1,j,t,h=>by
  simp only [enumT,List.getElem?_cons_succ] at h
  obtain ⟨w,h1,h2⟩:=enum_get (ts:=ts) (i:=i) (j:=j+1) h
  exact ⟨w,by simpa using h1,by rw [h2,show j+1+i=j+(i+1) by omega]⟩
theorem enum_len:∀ (ts:List T) (j:Nat),(enumT ts j).length=ts.length
 | [],_=>rfl
 | _::ts,j=>by simp [enumT,enum_len ts (j+1)]
theorem walk_enum {K:PySem.W.Frag} {F':Hp} {l:Addr} {vs:List V} {ts:List T} {sq:Hp→Addr→List V→Prop} (mono:∀ {F G:Hp} {xs:List V},Same F G→sq F l xs→sq G l xs) (h1:sq F' l vs) (h2:Reps K F' ts vs):Walk K (Ite sq l) (enumT ts 0) F' where
 go:=fun i H hi sm=>by
  rw [enum_len] at hi
  obtain ⟨v,hv,_⟩:=h2.get (List.getElem?_eq_getElem hi)
  exact ⟨vs,v,mono sm h1,hv⟩
 yld:=fun i H x H5 F t ht sF fh y=>by
  obtain ⟨p,v,hp,rfl,rfl,y⟩:=y
  obtain ⟨u,hu,rfl⟩:=enum_get ht
  obtain ⟨w,hw,hr⟩:=h2.get hu
  have e:=y vs (mono fh (mono sF h1))
  rw [hw] at e
  cases e
  have st:=(Step.refl fh).new (o:=.tup [.int (i:Int),v]) hp
  refine ⟨_,st,p,_,rfl,SqT.of upd_same,.int (i:Int),[v],rfl,?_,v,[],rfl,(hr.mono sF).mono st.ff,rfl⟩
  show V.int (i:Int)=V.int ((0+i:Nat):Int)
  rw [Nat.zero_add]
 stop:=fun H sm=>⟨vs,mono sm h1,by rw [enum_len,h2.length]⟩
theorem walk_str {K:PySem.W.Frag} {F':Hp} (x:Str):Walk K (Its x) (charsT x) F' where
 go:=fun i H hi _=>by
  have:i<x.cps.size:=by simpa [charsT] using hi
  exact this
 yld:=fun i H v H5 F t ht _ fh y=>by
  obtain ⟨rfl,c,hc,rfl⟩:=y
  refine ⟨F,Step.refl fh,?_⟩
  unfold charsT at ht
  rw [List.getElem?_map] at ht
  obtain ⟨c',hc',rfl⟩:=oms ht
  rw [Array.getElem?_toList,hc] at hc'
  cases hc'
  rfl
 stop:=fun H _=>by show x.cps.size≤(charsT x).length;simp [charsT]
theorem ok_walk {tg:Expr} {f:Env→Option T} (ha:Oke X c a f):PI X tg a (spI X c fun r=>(f r).bind fun x=>items .plain [x]):=by
 refine pi_mono (pi_any ha) fun σ H R q=>?_
 obtain ⟨r,F,ts,e,ht,q⟩:=q
 obtain ⟨t,e1,ht⟩:=obs ht
 refine ⟨r,F,t,e,e1,fun v F' H' s1 r1=>?_⟩
 cases t with
 | tup us =>
  cases ht
  obtain ⟨l,vs,rfl,h1,h2⟩:=r1
  exact .inl ⟨l,rfl,.inr ⟨vs,same_tup s1.fh h1,q _ F' H' s1 (walk_tup h1 h2)⟩⟩
 | lst us =>
  cases ht
  obtain ⟨l,vs,rfl,h1,h2⟩:=r1
  exact .inl ⟨l,rfl,.inl ⟨vs,(Ls.same s1.fh h1).sq,q _ F' H' s1 (walk_list h1 h2)⟩⟩
 | str x =>
  cases r1
  simp only [items] at ht
  split at ht
  ·rename_i ha
   cases ht
   exact .inr ⟨x,rfl,ha,q _ F' H' s1 (walk_str x)⟩
  ·cases ht
 | _=>cases ht
theorem ok_range {G:Glo} {k:Nat} (gd:Gd X c G k) {tg:Expr} {f:Env→Option T} (hg:glB c.sc "range"=true) (ha:Oke X c a f) (hs:starEach [a] X.env=[(false,eval a X.env)]) :
  PI X tg (.Call (.Name "range" p) [a] [] pos) (spI X c fun r=>(f r).bind fun x=>items .range [x]):=by
 refine pi_mono (pi_range1 (gd.gl _ hg) (gd.nob _ (by decide +kernel)) (one_arg ha hs) hs) fun σ H R q=>?_
 obtain ⟨r,F,ts,e,ht,q⟩:=q
 obtain ⟨t,e1,ht⟩:=obs ht
 refine ⟨r,F,[t],e,Option.bind_eq_some_iff.mpr ⟨t,e1,rfl⟩,fun vs F' H' s1 r1=>?_⟩
 obtain ⟨v,w,rfl,h1,h2⟩:=r1
 cases h2
 cases t with
 | int n =>
  cases h1
  simp only [items] at ht
  split at ht
  ·rename_i hz
   cases ht
   have e62:(2:Int) ^ 62=4611686018427387904:=by decide
   exact ⟨n,rfl,by rw [e62];exact hz.1,by rw [e62];exact hz.2,q _ F' H' s1 (walk_range _)⟩
  ·cases ht
 | _=>cases ht
theorem ok_enum {G:Glo} {k:Nat} (gd:Gd X c G k) {elts:List Expr} {kx:Nat} {p2:Pos} {f:Env→Option T} (hg:glB c.sc "enumerate"=true) (ha:Oke X c a f) (hs:starEach [a] X.env=[(false,eval a X.env)]) :
  PI X (.Tuple elts kx p2) (.Call (.Name "enumerate" p) [a] [] pos) (spI X c fun r=>(f r).bind fun x=>items .enum [x]):=by
 refine pi_mono (pi_enum (gd.gl _ hg) (gd.nob _ (by decide +kernel)) (one_arg ha hs) hs) fun σ H R q=>?_
 obtain ⟨r,F,ts,e,ht,q⟩:=q
 obtain ⟨t,e1,ht⟩:=obs ht
 refine ⟨r,F,[t],e,Option.bind_eq_some_iff.mpr ⟨t,e1,rfl⟩,fun vs F' H' s1 r1=>?_⟩
 obtain ⟨v,w,rfl,h1,h2⟩:=r1
 cases h2
 cases t with
 | tup us =>
  cases ht
  obtain ⟨l,vs,rfl,h1,h2⟩:=h1
  exact ⟨l,rfl,.inr ⟨vs,same_tup s1.fh h1,q _ F' H' s1 (walk_enum (fun e h=>same_tup e h) h1 h2)⟩⟩
 | lst us =>
  cases ht
  obtain ⟨l,vs,rfl,h1,h2⟩:=h1
  exact ⟨l,rfl,.inl ⟨vs,(Ls.same s1.fh h1).sq,q _ F' H' s1 (walk_enum (sq:=SqL X.K) (fun e h=>e.seq h) h1.sq h2)⟩⟩
 | _=>cases ht
theorem zip_len:∀ (xs ys:List T),(zipT xs ys).length=min xs.length ys.length
 | [],_=>by simp [zipT]
 | _::_,[]=>by simp [zipT]
 | x::xs,y::ys=>by simp only [zipT,List.length_cons,zip_len xs ys];omega
theorem zip_at:∀ {xs ys:List T} {i:Nat} {t:T},(zipT xs ys)[i]?=some t→∃ x y,xs[i]?=some x∧ys[i]?=some y∧t=.tup [x,y]
 | [],_,_,_,h=>by simp [zipT] at h
 | _::_,[],_,_,h=>by simp [zipT] at h
 | x::xs,y::ys,0,t,h=>by simp [zipT] at h;exact ⟨x,y,rfl,rfl,h.symm⟩
 | x::xs,y::ys,i+1,t,h=>by
  simp only [zipT,List.getElem?_cons_succ] at h
  obtain ⟨u,v,h1,h2,h3⟩:=zip_at h
  exact ⟨u,v,by simpa using h1,by simpa using h2,h3⟩
theorem sqB_of {K:PySem.W.Frag} {F:Hp} {t:T} {ts:List T} {v:V} (h:seqOf t=some ts) (r:Rep K F t v):∃ b l vs,v=.ref l∧Reps K F ts vs∧∀ H,Same F H→SqB b K H l vs:=by
 cases t with
 | tup us=>cases h;obtain ⟨l,vs,rfl,h1,h2⟩:=r;exact ⟨true,l,vs,rfl,h2,fun H sm=>same_tup sm h1⟩
 | lst us=>cases h;obtain ⟨l,vs,rfl,h1,h2⟩:=r;exact ⟨false,l,vs,rfl,h2,fun H sm=>(Ls.same sm h1).sq⟩
 | _=>cases h
theorem walk_zip {K:PySem.W.Frag} {F':Hp} {b1 b2:Bool} {l1 l2:Addr} {vs ws:List V} {xs ys:List T} (q1:∀ H,Same F' H→SqB b1 K H l1 vs) (q2:∀ H,Same F' H→SqB b2 K H l2 ws) (h1:Reps K F' xs vs) (h2:Reps K F' ys ws):Walk K (Itz K b1 b2 l1 l2) (zipT xs ys) F' where
 go:=fun i H hi sm=>by
  rw [zip_len] at hi
  obtain ⟨v,hv,_⟩:=h1.get (List.getElem?_eq_getElem (show i<xs.length by omega))
  obtain ⟨u,hu,_⟩:=h2.get (List.getElem?_eq_getElem (show i<ys.length by omega))
  exact ⟨vs,ws,v,u,q1 H sm,q2 H sm,hv,hu⟩
 yld:=fun i H x H5 F t ht sF fh y=>by
  obtain ⟨p,v,u,hp,rfl,rfl,y1,y2⟩:=y
  obtain ⟨a,b,ha,hb,rfl⟩:=zip_at ht
  obtain ⟨va,hva,ra⟩:=h1.get ha
  obtain ⟨vb,hvb,rb⟩:=h2.get hb
  have e1:=y1 vs (q1 H (sF.trans fh))
  have e2:=y2 ws (q2 H (sF.trans fh))
  rw [hva] at e1
  rw [hvb] at e2
  cases e1
  cases e2
  have st:=(Step.refl fh).new (o:=.tup [v,u]) hp
  exact ⟨_,st,p,_,rfl,SqT.of upd_same,v,[u],rfl,(ra.mono sF).mono st.ff,u,[],rfl,(rb.mono sF).mono st.ff,rfl⟩
 stop:=fun H sm=>⟨vs,ws,q1 H sm,q2 H sm,by rw [zip_len,h1.length,h2.length];omega⟩
theorem ok_zip {G:Glo} {k:Nat} (gd:Gd X c G k) {b:Expr} {elts:List Expr} {kx:Nat} {p2:Pos} {f g:Env→Option T} (hg:glB c.sc "zip"=true) (ha:Oke X c a f) (hb:Oke X c b g) (hs:starEach [a,b] X.env=[(false,eval a X.env),(false,eval b X.env)]) (hs2:starEach [b] X.env=[(false,eval b X.env)]) :
  PI X (.Tuple elts kx p2) (.Call (.Name "zip" p) [a,b] [] pos) (spI X c fun r=>(f r).bind fun x=>(g r).bind fun y=>items .zip [x,y]):=by
 refine pi_mono (pi_zip (gd.gl _ hg) (gd.nob _ (by decide +kernel)) (ok_cons ha (one_arg hb hs2) (by rw [hs,hs2])) hs hs2) fun σ H R q=>?_
 obtain ⟨r,F,ts,e,ht,q⟩:=q
 obtain ⟨t1,e1,ht⟩:=obs ht
 obtain ⟨t2,e2,ht⟩:=obs ht
 refine ⟨r,F,[t1,t2],e,Option.bind_eq_some_iff.mpr ⟨t1,e1,Option.bind_eq_some_iff.mpr ⟨[t2],Option.bind_eq_some_iff.mpr ⟨t2,e2,rfl⟩,rfl⟩⟩,fun vs F' H' s1 r1=>?_⟩
 obtain ⟨v,w1,rfl,r1,w,w2,rfl,r2,r3⟩:=r1
 cases r3
 obtain ⟨xs,x1,ht⟩:=obs ht
 obtain ⟨ys,y1,ht⟩:=obs ht
 cases ht
 obtain ⟨b1,l1,vs1,rfl,a1,a2⟩:=sqB_of x1 r1
 obtain ⟨b2,l2,vs2,rfl,a3,a4⟩:=sqB_of y1 r2
 exact ⟨l1,l2,b1,b2,vs1,vs2,rfl,a2 H' s1.fh,a4 H' s1.fh,q _ F' H' s1 (walk_zip a2 a4 a1 a3)⟩
def setV:List Nat→List V→L2.St→L2.St
 | i::is,v::vs,σ=>setV is vs (σ.set i (some v))
 | _,_,σ=>σ
def gL:List Nat→TGs
 | []=>gNil
 | i::is=>gCons (gName i) (gL is)
theorem gL_of:∀ {is:List Nat} {vs:List V} {σ:L2.St} {H:Hp} {Q:L2.St→Hp→Prop},vs.length=is.length→Q (setV is vs σ) H→gL is vs σ H Q
 | [],[],_,_,_,_,q=>⟨rfl,q⟩
 | [],_::_,_,_,_,h,_=>by simp at h
 | _::_,[],_,_,_,h,_=>by simp at h
 | i::is,v::vs,σ,H,Q,h,q=>⟨v,vs,rfl,gL_of (is:=is) (by simpa using h) q⟩
structure At (X:Cx) (x:Str) (i:Nat):Prop where
 ix:X.N[i]?=some x
 loc:Loc X.env.scope x
 fn:X.fn x=true∨X.env.scope.names.lookup x=some .local
inductive Ats (X:Cx):List Str→List Nat→Prop
 | nil:Ats X [] []
 | cons {x:Str} {i:Nat} {xs:List Str} {is:List Nat}:At X x i→Ats X xs is→Ats X (x::xs) (i::is)
theorem names_ok (hN:X.N.Nodup):∀ {es:List Expr} {xs:List Str} {is:List Nat},(es.mapM fun e=>match e with | .Name x _=>some x | _=>none)=some xs→Ats X xs is →
  PGs X es (gL is)∧(assignEach es X.env).length=xs.length∧(assignEach es X.env).findIdx? (·.1)=none
 | [],xs,is,h,ha=>by
  have e:xs=[]:=by simpa using h.symm
  subst e
  cases ha
  exact ⟨pgs_nil,rfl,rfl⟩
 | e::es,xs,is,h,ha=>by
  rw [List.mapM_cons] at h
  obtain ⟨x,h1,h⟩:=obs h
  obtain ⟨xs',h2,h⟩:=obs h
  cases h
  cases ha with
  | cons a1 a2 =>
   obtain ⟨q1,q2,q3⟩:=names_ok hN (es:=es) h2 a2
   cases e with
   | Name y pos =>
    cases h1
    refine ⟨pgs_cons (pg_name hN a1.ix a1.loc a1.fn) q1 rfl,?_,?_⟩
    ·show (assignEach es X.env).length+1=xs'.length+1
     rw [q2]
    ·show List.findIdx? (·.1) ((false,_)::assignEach es X.env)=none
     rw [List.findIdx?_cons]
     simp [q3]
   | _=>cases h1
def gT (K:PySem.W.Frag) (one:Bool) (is:List Nat):TG:=fun v σ H Q =>
 match one,is with
 | true,[i]=>Q (σ.set i (some v)) H
 | true,_=>False
 | false,is=>∃ a vs,v=.ref a∧SqT K H a vs∧vs.length=is.length∧Q (setV is vs σ) H
theorem ats_len:∀ {xs:List Str} {is:List Nat},Ats X xs is→xs.length=is.length
 | _,_,.nil=>rfl
 | _,_,.cons _ h=>by simp [ats_len h]
theorem tg_ok (hN:X.N.Nodup) (hc:X.calm=true) {tg:Expr} {xs:List Str} {is:List Nat} (h:tgNames tg=some xs) (ha:Ats X xs is):PG X tg (gT X.K (!isTupE tg) is):=by
 cases tg with
 | Name x pos =>
  cases h
  cases ha with
  | cons a1 a2 =>
   cases a2
   exact pg_name hN a1.ix a1.loc a1.fn
 | Tuple es k pos =>
  obtain ⟨q1,q2,q3⟩:=names_ok hN h ha
  intro pins s σ H v u Q I r hw
  obtain ⟨a,vs,rfl,h1,h2,q⟩:=hw
  exact pg_tup hc q1 (q2.trans (ats_len ha)) q3 pins s σ H _ u Q I r ⟨a,vs,rfl,h1,h2,gL_of h2 q⟩
 | _=>cases h
end
section
variable {M:Program} {W:World} {A:Around} {E:Value→Shared→Prop}
theorem drawL {it l:Addr} {zs:Array Value} (ne:l≠it) (m:Nat):∀ (i:Nat) (s:Shared) (R:List Value→Shared→Prop),s.heap.IsListIter it l i→s.heap.IsList l zs→i+m≤zs.size →
  (∀ g,g.IsListIter it l (i+m)→Heap.SameBut it s.heap g→R ((zs.toList.drop i).take m) { s with heap:=g })→wpAny (model M W) A (draw (.ref it) m) R E s:=by
 induction m with
 | zero =>
  intro i s R h1 _ _ k
  have k0:=k s.heap h1 (Heap.SameBut.refl ..)
  rw [List.take_zero] at k0
  exact wpAny_pure k0
 | succ m ih =>
  intro i s R h1 h2 hz k
  have hi:i<zs.size:=by omega
  have hx:zs[i]?=some zs[i]:=by simp [hi]
  show wpAny _ _ (pyNext (.ref it) >>= _) R E s
  refine wpAny_bind (wpAny_pyNext_list_item h1 h2 hx fun g1 j1 b1=>?_)
  refine wpAny_bind (wpAny_holding (ih (i+1) _ _ j1 (h2.extBut b1.extBut ne) (by omega) fun g2 j2 b2=>wpAny_pure ?_))
  have k1:=k g2 (by rw [← Nat.add_assoc,Nat.add_right_comm];exact j2) (b1.trans b2)
  have ed:zs.toList.drop i=zs[i]::zs.toList.drop (i+1):=by simp [List.drop_eq_getElem_cons,hi]
  rw [ed,List.take_succ_cons] at k1
  exact k1
theorem unpackL {s:Shared} {l:Addr} {zs:Array Value} {tgs:List (Bool × (Value→Sem Unit))} {R:Unit→Shared→Prop} (calm:A.handled=none) (hl:s.heap.IsList l zs) (len:tgs.length=zs.size) (nost:tgs.findIdx? (·.1)=none)
  (k:∀ g,Heap.ExtBut s.heap.objs.size s.heap g→wpAny (model M W) A (assignInOrder (tgs.map (·.2)) zs.toList) R E { s with heap:=g }):wpAny (model M W) A (unpack (.ref l) tgs) R E s:=by
 have ne:l≠s.heap.objs.size:=by
  obtain ⟨o,ho,_⟩:=hl
  exact Nat.ne_of_lt (Heap.lt_size ho)
 unfold unpack
 rw [len,nost]
 refine wpAny_bind (wpAny_holding ?_)
 unfold unpackItems
 refine wpAny_bind ?_
 unfold notIterableAtAll
 refine wpAny_bind (wpAny_specialOf hl.typeIs F.slot_list_iter.lookup (wpAny_pure ?_))
 simp only [Bool.false_eq_true,if_false]
 refine wpAny_bind (wpAny_holding (wpAny_pyIter_list hl ?_))
 refine wpAny_bind (wpAny_holding (drawL ne zs.size 0 _ _ ⟨_,Heap.get?_push_size _ rfl,rfl,rfl⟩ (hl.push _) (Nat.le_of_eq (Nat.zero_add _)) fun g1 j1 b1=>?_))
 have full:(zs.toList.drop 0).take zs.size=zs.toList:=by rw [List.drop_zero,List.take_of_length_le (by simp)]
 rw [full,if_neg (by simp)]
 rw [Nat.zero_add] at j1
 refine wpAny_bind (wpAny_holding (wpAny_pyNext_list_end calm j1 ((hl.push _).extBut b1.extBut ne) (by simp) fun g2 b2=>?_))
 simp only [Option.isSome_none,Bool.false_eq_true,if_false]
 exact wpAny_pure (k g2 fun b o hb e=>b2 b o hb (b1.extBut b o hb (Heap.get?_push_of_some _ e)))
end
section
variable {X:Cx}
def gLs (K:PySem.W.Frag) (is:List Nat):TG:=fun v σ H Q=>∃ a vs,v=.ref a∧(Ls K H a vs∨SqT K H a vs)∧vs.length=is.length∧Q (setV is vs σ) H
theorem tgL_ok (hN:X.N.Nodup) (hc:X.calm=true) {es:List Expr} {k:Nat} {pos:Pos} {xs:List Str} {is:List Nat} (h:tgNames (.Tuple es k pos)=some xs) (ha:Ats X xs is):PG X (.Tuple es k pos) (gLs X.K is):=by
 obtain ⟨q1,q2,q3⟩:=names_ok hN h ha
 intro pins s σ H v u Q I r hw
 obtain ⟨a,vs,rfl,h1,h2,q⟩:=hw
 rcases h1 with h1 | h1
 ·cases r
  obtain ⟨its,rv,hl,hz⟩:=rd_list I h1
  rw [assign_Tuple]
  refine wpAny_bind (wpAny_standAt (unpackL (I.ok.hd hc) hl (by rw [q2,ats_len ha,← h2,rv.length,List.size_toArray]) q3 fun g hx=>?_))
  have I1:Inv X pins σ H { s with heap:=g }:=I.kept (t':=s.toks) fun b o e=>hx b o (Nat.ne_of_lt (Heap.lt_size e)) e
  exact q1 pins _ σ H vs _ Q I1 (by simpa using rv) (gL_of h2 q)
 ·exact pg_tup hc q1 (q2.trans (ats_len ha)) q3 pins s σ H _ u Q I r ⟨a,vs,rfl,h1,h2,gL_of h2 q⟩
end
theorem nameIx_get:∀ {l:List Str} {x:Str} {i:Nat},nameIx l x=some i→l[i]?=some x
 | [],_,_,h=>by cases h
 | y::r,x,i,h=>by
  unfold nameIx at h
  split at h
  ·rename_i e
   cases h
   rw [eq_of_beq e];rfl
  ·obtain ⟨j,hj,rfl⟩:=oms h
   simpa using nameIx_get hj
theorem nameIx_app:∀ {l r:List Str} {x:Str} {i:Nat},nameIx (l++r) x=some i→(nameIx l x=some i∧i<l.length)∨(x∉l∧l.length≤i∧nameIx r x=some (i-l.length))
 | [],r,x,i,h=>.inr ⟨by simp,Nat.zero_le _,by simpa using h⟩
 | y::l,r,x,i,h=>by
  rw [List.cons_append,nameIx] at h
  split at h
  ·rename_i e
   cases h
   left
   rw [nameIx,if_pos e]
   exact ⟨rfl,by simp⟩
  ·rename_i e
   obtain ⟨j,hj,rfl⟩:=oms h
   rcases nameIx_app hj with ⟨h1,h2⟩ | ⟨h1,h2,h3⟩
   ·left
    rw [nameIx,if_neg e,h1]
    exact ⟨rfl,by simpa using h2⟩
   ·right
    refine ⟨fun z=>?_,by simpa using h2,?_⟩
    ·rcases List.mem_cons.mp z with q | q
     ·exact e (by rw [q];exact beq_self_eq_true _)
     ·exact h1 q
    ·rw [h3,List.length_cons,show j+1-(l.length+1)=j-l.length by omega]
theorem nodupB_of:∀ {xs:List Str},nodupB xs=true→xs.Nodup
 | [],_=>List.nodup_nil
 | x::r,h=>by
  simp only [nodupB,Bool.and_eq_true,Bool.not_eq_true'] at h
  refine List.nodup_cons.mpr ⟨fun z=>?_,nodupB_of h.2⟩
  have:=h.1
  rw [List.contains_iff_mem.mpr z] at this
  cases this
structure CsB (out sc:Scope) (xs:List Str):Prop where
 kind:sc.kind=.function
 nd:xs.Nodup
 own:∀ x∈xs,plainName x=true∧(sc.names.lookup x=some .local∨sc.names.lookup x=some .cell)
 free:∀ y∈sc.names,y.2=.free→sc.names.lookup y.1=some .free∧(out.names.lookup y.1=some .cell∨out.names.lookup y.1=some .free)
 loc:∀ y∈sc.names,y.2=.local→sc.names.lookup y.1=some .local∧(y.1∈xs∨y.1=".0")
 cel:∀ y∈sc.names,y.2=.cell→sc.names.lookup y.1=some .cell∧y.1∈xs
theorem csB_of {out sc:Scope} {xs:List Str} (h:compScope out sc xs=true):CsB out sc xs:=by
 simp only [compScope,Bool.and_eq_true] at h
 obtain ⟨⟨⟨h1,h2⟩,h3⟩,h4⟩:=h
 have all:=List.all_eq_true.mp h4
 refine ⟨by simpa using h1,nodupB_of h2,fun x hx=>?_,fun y hy e=>?_,fun y hy e=>?_,fun y hy e=>?_⟩
 ·have:=List.all_eq_true.mp h3 x hx
  simp only [Bool.and_eq_true,Bool.or_eq_true,beq_iff_eq] at this
  exact this
 ·have:=all y hy
  rw [e] at this
  simp only [Bool.and_eq_true,Bool.or_eq_true,beq_iff_eq] at this
  exact this
 ·have:=all y hy
  rw [e] at this
  simp only [Bool.and_eq_true,Bool.or_eq_true,beq_iff_eq] at this
  exact ⟨this.1,this.2.imp (fun z=>List.contains_iff_mem.mp z) id⟩
 ·have:=all y hy
  rw [e] at this
  simp only [Bool.and_eq_true,beq_iff_eq] at this
  exact ⟨this.1,List.contains_iff_mem.mp this.2⟩
section
variable {X:Cx} {c:Tc} {G:Glo} {k:Nat} {scope:Scope} {xs:List Str} {pins:List (Addr × Obj)} {fp:List Addr} {s₃:Shared} {H₃:Hp}
theorem CsB.sc (S:CsB c.sc scope xs) (gd:Gd X c G k):CompSc X scope xs :=
 ⟨S.kind,S.nd,fun x hx=>(S.own x hx).2,fun y hy e=>⟨(S.free y hy e).1,gd.cap y.1 (S.free y hy e).2⟩,fun y hy e=>(S.loc y hy e).1,fun y hy e=>(S.cel y hy e).1⟩
theorem capN_nd {N:List Str} (h:N.Nodup):(capN scope N).Nodup:=h.sublist List.filter_sublist
theorem blk_nd (S:CsB c.sc scope xs) (gd:Gd X c G k):(xs++capN scope X.N).Nodup:=by
 refine List.nodup_append.mpr ⟨S.nd,capN_nd gd.nd,fun x hx y hy e=>?_⟩
 subst e
 have h1:=(S.own x hx).2
 have h2:scope.names.lookup x=some .free:=by
  have:=(List.mem_filter.mp hy).2
  simpa using this
 rw [h2] at h1
 rcases h1 with z | z<;>cases z
theorem blk_gd (S:CsB c.sc scope xs) (gd:Gd X c G k):Gd (blk X pins scope xs fp s₃ H₃) ⟨scope,xs++c.nm⟩ G k where
 room:=gd.room
 calm:=gd.calm
 nob:=gd.nob
 call:=gd.call
 con:=gd.con
 vis:=fun x h=>by
  show (blk X pins scope xs fp s₃ H₃).env.scope.names.lookup x=_∨(blk X pins scope xs fp s₃ H₃).env.scope.names.lookup x=_∨(blk X pins scope xs fp s₃ H₃).env.scope.names.lookup x=_
  rw [blk_kind]
  have h:visB scope x=true:=h
  unfold visB at h
  cases e:scope.names.lookup x with
  | none=>rw [e] at h;cases h
  | some q =>
   rw [e] at h
   cases q with
   | «local»=>exact .inl rfl
   | cell=>exact .inr (.inl rfl)
   | free =>
    dsimp only
    split
    ·exact .inr (.inl rfl)
    ·exact .inr (.inr rfl)
   | _=>cases h
 gl:=fun x h=>by
  show (blk X pins scope xs fp s₃ H₃).env.scope.names.lookup x=_
  rw [blk_kind]
  have h:scope.names.lookup x=some .globalImplicit:=by simpa [glB] using h
  rw [h]
 cap:=fun x h=>by
  show (blk X pins scope xs fp s₃ H₃).env.scope.names.lookup x=_∨(blk X pins scope xs fp s₃ H₃).env.scope.names.lookup x=_
  rw [blk_kind]
  have h:scope.names.lookup x=some .cell∨scope.names.lookup x=some .free:=h
  rcases h with h | h<;>rw [h]
  ·exact .inl rfl
  ·dsimp only
   split
   ·exact .inl rfl
   ·exact .inr rfl
 nd:=blk_nd S gd
theorem blk_ats (S:CsB c.sc scope xs):∀ (l:List Str) (n:Nat),(∀ (j:Nat) (x:Str),l[j]?=some x→xs[n+j]?=some x)→Ats (blk X pins scope xs fp s₃ H₃) l (List.range' n l.length)
 | [],_,_=>.nil
 | x::l,n,h=>by
  have h0:xs[n]?=some x:=by simpa using h 0 x rfl
  have hx:x∈xs:=List.mem_of_getElem? h0
  have own:=(S.own x hx).2
  have hn:n<xs.length:=(List.getElem?_eq_some_iff.mp h0).1
  rw [List.length_cons,List.range'_succ]
  refine .cons ⟨?_,?_,?_⟩ (blk_ats S l (n+1) fun j y e=>by have:=h (j+1) y (by simpa using e);rwa [show n+(j+1)=n+1+j by omega] at this)
  ·show (xs++capN scope X.N)[n]?=some x
   rw [List.getElem?_append_left hn];exact h0
  ·show (blk X pins scope xs fp s₃ H₃).env.scope.names.lookup x=_∨(blk X pins scope xs fp s₃ H₃).env.scope.names.lookup x=_
   rw [blk_kind]
   rcases own with e | e<;>rw [e]
   ·exact .inl rfl
   ·exact .inr rfl
  ·rcases own with e | e
   ·right
    rw [blk_kind,e]
   ·left
    show (scope.names.lookup x==some .cell)=true
    rw [e];rfl
theorem blk_env (S:CsB c.sc scope xs) {r:Env} {F:Hp} {σ:L2.St} {H Hc:Hp} (e:EnvE X c r F σ H) (hl:σ.length=X.N.length) {ts:List T} {vs:List V} (ht:ts.length=xs.length) (rv:Reps X.K F ts vs) (fh:Same F Hc) (tb:Tbk X.K F Hc) :
  EnvE (blk X pins scope xs fp s₃ H₃) ⟨scope,xs++c.nm⟩ (ts.map some++r) F (vs.map some++capS scope X.N σ) Hc where
 fh:=fh
 tb:=tb
 get:=fun x i t hpn hi hv hr=>by
  have hvl:vs.length=xs.length:=by rw [rv.length,ht]
  have hv:visB scope x=true:=hv
  rcases nameIx_app (show nameIx (xs++c.nm) x=some i from hi) with ⟨h1,h2⟩ | ⟨h1,h2,h3⟩
  ·have hi':i<ts.length:=by omega
   rw [List.getElem?_append_left (by simpa using hi'),List.getElem?_map] at hr
   obtain ⟨t',ht',e'⟩:=oms hr
   cases e'
   obtain ⟨v,hv1,hv2⟩:=rv.get ht'
   refine ⟨i,v,?_,?_,hv2⟩
   ·show (xs++capN scope X.N)[i]?=some x
    rw [List.getElem?_append_left h2]
    exact nameIx_get h1
   ·rw [List.getElem?_append_left (by simp;omega),List.getElem?_map,hv1];rfl
  ·rw [List.getElem?_append_right (by simp;omega)] at hr
   have hr':r[i-xs.length]?=some (some t):=by simpa [ht] using hr
   have hfree:scope.names.lookup x=some .free:=by
    unfold visB at hv
    cases q:scope.names.lookup x with
    | none=>rw [q] at hv;cases hv
    | some kd =>
     rw [q] at hv
     cases kd with
     | free=>rfl
     | «local» =>
      have:=(S.loc _ (mem_names q) rfl).2
      rcases this with z | z
      ·exact absurd z h1
      ·rw [show x=".0" from z] at hpn;exact absurd hpn (by decide +kernel)
     | cell=>exact absurd (S.cel _ (mem_names q) rfl).2 h1
     | _=>cases hv
   have hout:visB c.sc x=true:=by
    rcases (S.free _ (mem_names hfree) rfl).2 with z | z<;>simp [visB,z]
   obtain ⟨j,v,g1,g2,g3⟩:=e.get x (i-xs.length) t hpn h3 hout hr'
   obtain ⟨m,m1,m2⟩:=cap_get scope hfree X.N σ hl g1 g2
   refine ⟨xs.length+m,v,?_,?_,g3⟩
   ·show (xs++capN scope X.N)[xs.length+m]?=some x
    rw [List.getElem?_append_right (by omega)]
    simpa using m1
   ·rw [List.getElem?_append_right (by simp;omega)]
    simpa [hvl] using m2
end
theorem setV_range:∀ (vs:List V) (front pre rest:L2.St),pre.length=vs.length→setV (List.range' front.length vs.length) vs (front++pre++rest)=front++vs.map some++rest
 | [],front,pre,rest,h=>by
  cases pre with
  | nil=>simp [setV]
  | cons _ _=>simp at h
 | v::vs,front,pre,rest,h=>by
  cases pre with
  | nil=>simp at h
  | cons p pre =>
   rw [List.length_cons,List.range'_succ,setV]
   have e:(front++(p::pre)++rest).set front.length (some v)=(front++[some v])++pre++rest:=by
    rw [List.append_assoc,List.set_append,if_neg (Nat.lt_irrefl _)]
    simp
   have e2:(front++[some v]).length=front.length+1:=by simp
   rw [e,← e2,setV_range vs (front++[some v]) pre rest (by simpa using h)]
   simp
def spC (X:Cx) (c:Tc) (fc:Env→Option Bool):TT:=fun σ H Q=>∃ r F b,EnvE X c r F σ H∧fc r=some b∧∀ F' H',Step F H F' H'→Q b H'
def elM (n:Nat) (r:Env) (fc:Env→Option Bool) (fe:Env→Option T):T→Option (Option T):=fun x=>(bnd n x r).bind fun r'=>(fc r').bind fun b=>if b=true then (fe r').map some else some none
section
variable {X:Cx} {c:Tc} {G:Glo} {k:Nat} {scope:Scope} {xs:List Str}
theorem comp_tree {elt iter tg:Expr} {ifs:List Expr} {pos:Pos} {fe:Env→Option T} {fc:Env→Option Bool} (gd:Gd X c G k) (S:CsB c.sc scope xs) (htg:tgNames tg=some xs) (h2n:isTupE tg=true→2≤xs.length)
  (he:∀ pins fp s₃ H₃,Gd (blk X pins scope xs fp s₃ H₃) ⟨scope,xs++c.nm⟩ G k→Oke (blk X pins scope xs fp s₃ H₃) ⟨scope,xs++c.nm⟩ elt fe)
  (hi:∀ pins fp s₃ H₃,Gd (blk X pins scope xs fp s₃ H₃) ⟨scope,xs++c.nm⟩ G k→∀ (pn:List (Addr × Obj)) (s:Shared) (σ:L2.St) (H:Hp) (Q:Bool→Hp→Prop),L2.Inv (blk X pins scope xs fp s₃ H₃) pn σ H s→spC (blk X pins scope xs fp s₃ H₃) ⟨scope,xs++c.nm⟩ fc σ H Q →
   wpAny (model X.prog X.w) X.A (forIn ifs true fun c r=>if r=true then do let ok ← isTrue c (blk X pins scope xs fp s₃ H₃).env (eval c (blk X pins scope xs fp s₃ H₃).env);pure (ForInStep.yield ok) else pure (ForInStep.yield r)) (TP (blk X pins scope xs fp s₃ H₃) pn σ Q) (fun _ _=>False) s)
  {pins:List (Addr × Obj)} {fp:List Addr} {σ:L2.St} {H2 F2:Hp} {s2:Shared} {J:It} {it:Addr} {tn:Nat→Heap→Prop} {E:Value→Shared→Prop} {ts total:List T} {r:Env}
  (I2:L2.Inv X pins σ H2 s2) (Tn:Turn X.prog X.w X.K tg J fp it tn) (st2:tn 0 s2.heap) (f2:∀ b∈fp,FpOk X pins H2 b) (wk:Walk X.K J ts F2) (e2:EnvE X c r F2 σ H2) (hts:ts.length≤SZ) (hcm:compM (elM xs.length r fc fe) ts=some total) :
  wpAny (model X.prog X.w) X.A (newList []) (fun acc s₃=>wpAny (model X.prog X.w) X.A (newFunctionEnv scope X.env.globals (closFrom X.env scope.names []) [] X.env.qual none .none (some X.env)) (fun cenv s₄ =>
   codeAny (model X.prog X.w) X.A (.compStart (.ListComp elt [⟨tg,iter,ifs,0⟩] scope pos) 0 (.ref it) acc { cenv with scope:=relabel scope X.env })
    (fun r s'=>r=.ok .next∧∃ D H',acc=.ref D∧L2.Inv X pins σ H' s'∧FpOk X pins H' cenv.locals∧(∃ m,s'.heap.Ns cenv.locals m) ∧
     ∃ F vs,Step F2 H2 F H'∧F D=none∧H2 D=none∧H' D=some (.lst vs)∧Reps X.K F total vs) s₄) E s₃) E s2:=by
 have hl:σ.length=X.N.length:=I2.len
 have gb:∀ s₃ H₃,Gd (blk X pins scope xs fp s₃ H₃) ⟨scope,xs++c.nm⟩ G k:=fun s₃ H₃=>blk_gd S gd
 have hat:∀ s₃ H₃,Ats (blk X pins scope xs fp s₃ H₃) xs (List.range' 0 xs.length):=fun s₃ H₃=>blk_ats S xs 0 fun j x e=>by rw [Nat.zero_add];exact e
 refine comp_run (g:=fun _ _=>gT X.K (!isTupE tg) (List.range' 0 xs.length)) (tc:=fun s₃ H₃=>spC (blk X pins scope xs fp s₃ H₃) ⟨scope,xs++c.nm⟩ fc) (te:=fun s₃ H₃=>spE (blk X pins scope xs fp s₃ H₃) ⟨scope,xs++c.nm⟩ fe)
  gd.calm (S.sc gd) I2 Tn st2 f2 (fun s₃ H₃ _=>tg_ok (X:=blk X pins scope xs fp s₃ H₃) (gb s₃ H₃).nd gd.calm htg (hat s₃ H₃)) (fun s₃ H₃ _=>hi pins fp s₃ H₃ (gb s₃ H₃)) (fun s₃ H₃ _=>he pins fp s₃ H₃ (gb s₃ H₃))
  (fun D i m σ' H'=>i≤ts.length∧m=ts.length-i∧(∃ pre:L2.St,σ'=pre++capS scope X.N σ∧pre.length=xs.length)∧∃ F vs rs rest,Step F2 H2 F H'∧F D=none∧H2 D=none∧H' D=some (.lst vs)∧Reps X.K F rs vs∧vs.length≤i∧compM (elM xs.length r fc fe) (ts.drop i)=some rest∧rs++rest=total)
  (fun D H'=>∃ F vs,Step F2 H2 F H'∧F D=none∧H2 D=none∧H' D=some (.lst vs)∧Reps X.K F total vs) ?_ ?_
 ·intro D hD
  exact ⟨ts.length,Nat.zero_le _,rfl,⟨_,rfl,by simp⟩,F2,[],[],total,(Step.refl e2.fh).newH hD,e2.fh.free hD,hD,upd_same,rfl,Nat.le_refl _,hcm,rfl⟩
 ·rintro s₃ H₃ D i m σ' H' BOk ⟨hi1,rfl,⟨pre,rfl,hpre⟩,F,vs,rs,rest,st,hF,hH2,hH',hrs,hvl,hcr,htot⟩
  have sm:Same F2 H':=st.ff.trans st.fh
  by_cases hlt:i<ts.length
  ·right
   have hti:ts[i]?=some ts[i]:=List.getElem?_eq_getElem hlt
   generalize hT:ts[i]=t at hti
   rw [List.drop_eq_getElem_cons hlt,hT,compM] at hcr
   obtain ⟨o,ho,hcr⟩:=obs hcr
   obtain ⟨rest',hr',hcr⟩:=obs hcr
   obtain ⟨r',hb,ho⟩:=obs (show (bnd xs.length t r).bind _=some o from ho)
   obtain ⟨bb,hfc,ho⟩:=obs ho
   refine ⟨wk.go i H' hlt sm,fun σ'' H''=>i+1≤ts.length∧(∃ pre:L2.St,σ''=pre++capS scope X.N σ∧pre.length=xs.length)∧∃ F vs rs rest,Step F2 H2 F H''∧F D=none∧H2 D=none∧H'' D=some (.lst vs)∧Reps X.K F rs vs∧vs.length≤i+1∧compM (elM xs.length r fc fe) (ts.drop (i+1))=some rest∧rs++rest=total,?_,?_⟩
   ·rintro σ'' H'' ⟨a1,a2,a3⟩
    exact ⟨ts.length-(i+1),by omega,a1,rfl,a2,a3⟩
   ·intro x H5 y
    obtain ⟨F5,st5,r5⟩:=wk.yld i H' x H5 F t hti st.ff st.fh y
    have cont:∀ (us:List T) (ws:List V),us.length=xs.length→Reps X.K F5 us ws→r'=us.map some++r→(spC (blk X pins scope xs fp s₃ H₃) ⟨scope,xs++c.nm⟩ fc) (ws.map some++capS scope X.N σ) H5 fun ok H7=>if ok=true then (spE (blk X pins scope xs fp s₃ H₃) ⟨scope,xs++c.nm⟩ fe) (ws.map some++capS scope X.N σ) H7 fun y H8=>∃ ys,H8 D=some (.lst ys)∧ys.length<sizeLine ∧
      (i+1≤ts.length∧(∃ pre:L2.St,ws.map some++capS scope X.N σ=pre++capS scope X.N σ∧pre.length=xs.length)∧∃ F vs rs rest,Step F2 H2 F (upd H8 D (.lst (ys++[y])))∧F D=none∧H2 D=none∧upd H8 D (.lst (ys++[y])) D=some (.lst vs)∧Reps X.K F rs vs∧vs.length≤i+1∧compM (elM xs.length r fc fe) (ts.drop (i+1))=some rest∧rs++rest=total)
      else (i+1≤ts.length∧(∃ pre:L2.St,ws.map some++capS scope X.N σ=pre++capS scope X.N σ∧pre.length=xs.length)∧∃ F vs rs rest,Step F2 H2 F H7∧F D=none∧H2 D=none∧H7 D=some (.lst vs)∧Reps X.K F rs vs∧vs.length≤i+1∧compM (elM xs.length r fc fe) (ts.drop (i+1))=some rest∧rs++rest=total):=by
     intro us ws hul hrw hrr
     have hwl:(ws.map some:L2.St).length=xs.length:=by rw [List.length_map,hrw.length,hul]
     have e5:=blk_env (pins:=pins) (fp:=fp) (s₃:=s₃) (H₃:=H₃) S (e2.step (st.trans st5)) hl hul hrw st5.fh (e2.tb.up (st.trans st5))
     rw [← hrr] at e5
     refine ⟨r',F5,bb,e5,hfc,fun F7 H7 s7=>?_⟩
     have st7:=st5.trans s7
     have hD7:H7 D=some (.lst vs):=st7.hh.st D _ hH' rfl
     have nD:∀ {F8 H8:Hp},Step F H' F8 H8→F8 D=none:=fun {F8 H8} s8=>by
      cases q:F8 D with
      | none=>rfl
      | some o =>
       rcases s8.nw D (by rw [q];simp) with z | z
       ·exact absurd hF z
       ·rw [hH'] at z;cases z
     cases bb with
     | false =>
      dsimp only at ho ⊢
      rw [if_neg Bool.false_ne_true] at ho ⊢
      cases ho
      cases hcr
      exact ⟨hlt,⟨_,rfl,hwl⟩,F7,vs,rs,_,st.trans st7,nD st7,hH2,hD7,hrs.mono st7.ff,by omega,hr',htot⟩
     | true =>
      dsimp only at ho ⊢
      rw [if_pos rfl] at ho ⊢
      obtain ⟨yt,hye,rfl⟩:=oms ho
      cases hcr
      refine ⟨r',F7,yt,e5.step s7,hye,fun v F8 H8 s8 r8=>?_⟩
      have st8:=st7.trans s8
      have S8:=st.trans st8
      have hF8:=nD st8
      refine ⟨vs,st8.hh.st D _ hH' rfl,?_,hlt,⟨_,rfl,hwl⟩,F8,vs++[v],rs++[yt],_,⟨S8.hh.upd hH2 (st8.hh.st D _ hH' rfl),S8.ff,fun b o q=>?_,S8.nw⟩,hF8,hH2,upd_same,(hrs.mono st8.ff).app ⟨v,[],rfl,r8,rfl⟩,by simp;omega,hr',by rw [List.append_assoc];exact htot⟩
      ·rw [← sz_eq];omega
      ·rw [upd_ne (ne_of_none q hF8)];exact S8.fh b o q
    cases htup:isTupE tg with
    | false =>
     have hx1:∃ z,xs=[z]:=by
      cases tg with
      | Name z p=>cases htg;exact ⟨z,rfl⟩
      | Tuple _ _ _=>cases htup
      | _=>cases htg
     obtain ⟨z,rfl⟩:=hx1
     have hb':some (some t::r)=some r':=hb
     cases hb'
     obtain ⟨p0,rfl⟩:∃ p0,pre=[p0]:=by
      cases pre with
      | nil=>simp at hpre
      | cons p0 q=>cases q with
       | nil=>exact ⟨p0,rfl⟩
       | cons _ _=>simp at hpre
     exact cont [t] [x] rfl ⟨x,[],rfl,r5,rfl⟩ rfl
    | true =>
     have hn2:=h2n htup
     unfold bnd at hb
     rw [if_neg (by omega)] at hb
     cases t with
     | tup us =>
      simp only at hb
      split at hb
      ·rename_i hul
       cases hb
       obtain ⟨a,ws,rfl,q1,q2⟩:=r5
       refine ⟨a,ws,rfl,same_tup st5.fh q1,by rw [List.length_range',q2.length,hul],?_⟩
       have es:=setV_range ws [] pre (capS scope X.N σ) (by rw [hpre,q2.length,hul])
       rw [q2.length,hul] at es
       simp only [List.length_nil,List.nil_append] at es
       rw [es]
       exact cont us ws hul q2 rfl
      ·cases hb
     | _=>cases hb
  ·left
   have hie:i=ts.length:=by omega
   subst hie
   rw [List.drop_length] at hcr
   cases hcr
   rw [List.append_nil] at htot
   subst htot
   exact ⟨wk.stop H' sm,F,vs,st,hF,hH2,hH',hrs⟩
end
section
variable {X:Cx} {c:Tc} {G:Glo} {k:Nat} {scope:Scope} {xs:List Str}
theorem step_acc {F H F2 H2 F3 H':Hp} {D:Addr} {vs:List V} (a:Step F H F2 H2) (b:Step F2 H2 F3 H') (h1:F3 D=none) (h2:H2 D=none) (h3:H' D=some (.lst vs)):Step F H (upd F3 D (.lst vs)) H' :=
 have S:=a.trans b
 ⟨S.hh,S.ff.trans (same_new h1),fun x o q=>by
  by_cases hx:x=D
  ·subst hx;rw [upd_same] at q;cases q;exact h3
  ·rw [upd_ne hx] at q;exact S.fh x o q,fun x z=>by
  by_cases hx:x=D
  ·subst hx;exact .inr (a.hh.free h2)
  ·rw [upd_ne hx] at z;exact S.nw x z⟩
def compF (xs:List Str) (fi:Env→Option (List T)) (fc:Env→Option Bool) (fe:Env→Option T):Env→Option T :=
 fun r=>((fi r).bind fun its=>if its.length≤SZ then some its else none).bind fun its=>(compM (elM xs.length r fc fe) its).map .lst
variable {elt iter tg:Expr} {ifs:List Expr} {pos:Pos} {fe:Env→Option T} {fc:Env→Option Bool} {fi:Env→Option (List T)}
theorem compF_inv {r:Env} {t:T} (h:compF xs fi fc fe r=some t):∃ its total,fi r=some its∧its.length≤SZ∧compM (elM xs.length r fc fe) its=some total∧t=.lst total:=by
 unfold compF at h
 obtain ⟨its,h1,h⟩:=obs h
 obtain ⟨its',h2,h1⟩:=obs h1
 split at h1
 ·rename_i hz
  cases h1
  obtain ⟨total,h3,rfl⟩:=oms h
  exact ⟨its,total,h2,hz,h3,rfl⟩
 ·cases h1
theorem ok_comp (gd:Gd X c G k) (S:CsB c.sc scope xs) (htg:tgNames tg=some xs) (h2n:isTupE tg=true→2≤xs.length)
  (he:∀ pins fp s₃ H₃,Gd (blk X pins scope xs fp s₃ H₃) ⟨scope,xs++c.nm⟩ G k→Oke (blk X pins scope xs fp s₃ H₃) ⟨scope,xs++c.nm⟩ elt fe)
  (hi:∀ pins fp s₃ H₃,Gd (blk X pins scope xs fp s₃ H₃) ⟨scope,xs++c.nm⟩ G k→∀ (pn:List (Addr × Obj)) (s:Shared) (σ:L2.St) (H:Hp) (Q:Bool→Hp→Prop),L2.Inv (blk X pins scope xs fp s₃ H₃) pn σ H s→spC (blk X pins scope xs fp s₃ H₃) ⟨scope,xs++c.nm⟩ fc σ H Q →
   wpAny (model X.prog X.w) X.A (forIn ifs true fun c r=>if r=true then do let ok ← isTrue c (blk X pins scope xs fp s₃ H₃).env (eval c (blk X pins scope xs fp s₃ H₃).env);pure (ForInStep.yield ok) else pure (ForInStep.yield r)) (TP (blk X pins scope xs fp s₃ H₃) pn σ Q) (fun _ _=>False) s)
  (hit:PI X tg iter (spI X c fi)) (hfs:∀ x,foldedSetIterable iter X.env x=pure x):Oke X c (.ListComp elt [⟨tg,iter,ifs,0⟩] scope pos) (compF xs fi fc fe):=by
 intro pins s σ H Q I q
 obtain ⟨r,F,t,e,ht,q⟩:=q
 obtain ⟨its,total,hf,hz,hcm,rfl⟩:=compF_inv ht
 rw [eval_ListComp]
 refine wpAny_comprehension_free (use:=none) rfl hfs (closureFor_eq ((S.sc gd).has I.ok)) S.kind (fun y hy e=>(S.loc y hy e).1)
  (thn (hit pins s σ H (fun J H'=>∃ F',Step F H F' H'∧Walk X.K J its F') I ⟨r,F,its,e,hf,fun J F' H' s1 wk=>⟨F',s1,wk⟩⟩) fun v s1 h1=>thn h1 fun itv s2 h2=>?_)
 obtain ⟨it,fp,tn,J,H2,rfl,I2,T,st2,f2,F2,s12,wk⟩:=h2
 refine thn (comp_tree (E:=X.xe) gd S htg h2n he hi I2 T st2 f2 wk (e.step s12) hz hcm) fun acc s3 h3=>thn h3 fun cenv s4 h4=>codeAny_mono h4 fun res s' hres=>?_
 obtain ⟨rfl,D,H',rfl,I',fC,⟨m,hm⟩,F3,vs,st3,d1,d2,d3,d4⟩:=hres
 refine ⟨m,hm,fun h' hsb=>⟨.ref D,H',I'.turned (t':=s'.toks) (fun b o hb q=>(hsb.2 b hb).trans q) fC.1 fC.2.1 fC.2.2.2.1 fC.2.2.2.2.1 fC.2.2.2.2.2,rfl,?_⟩⟩
 have S3:=step_acc s12 st3 d1 d2 d3
 exact q _ _ _ S3 ⟨D,vs,rfl,Ls.of upd_same,d4.mono (same_new d1)⟩
def spAsg (X:Cx) (c:Tc) (i:Nat) (f:Env→Option T):TS:=fun D σ H=>∃ r F t,EnvE X c r F σ H∧f r=some t∧∀ v F' H',Step F H F' H'→Rep X.K F' t v→D.nx (σ.set i (some v)) H'
theorem ok_setComp (gd:Gd X c G k) (S:CsB c.sc scope xs) (htg:tgNames tg=some xs) (h2n:isTupE tg=true→2≤xs.length)
  (he:∀ pins fp s₃ H₃,Gd (blk X pins scope xs fp s₃ H₃) ⟨scope,xs++c.nm⟩ G k→Oke (blk X pins scope xs fp s₃ H₃) ⟨scope,xs++c.nm⟩ elt fe)
  (hi:∀ pins fp s₃ H₃,Gd (blk X pins scope xs fp s₃ H₃) ⟨scope,xs++c.nm⟩ G k→∀ (pn:List (Addr × Obj)) (s:Shared) (σ:L2.St) (H:Hp) (Q:Bool→Hp→Prop),L2.Inv (blk X pins scope xs fp s₃ H₃) pn σ H s→spC (blk X pins scope xs fp s₃ H₃) ⟨scope,xs++c.nm⟩ fc σ H Q →
   wpAny (model X.prog X.w) X.A (forIn ifs true fun c r=>if r=true then do let ok ← isTrue c (blk X pins scope xs fp s₃ H₃).env (eval c (blk X pins scope xs fp s₃ H₃).env);pure (ForInStep.yield ok) else pure (ForInStep.yield r)) (TP (blk X pins scope xs fp s₃ H₃) pn σ Q) (fun _ _=>False) s)
  (hit:PI X tg iter (spI X c fi)) (hfs:∀ x,foldedSetIterable iter X.env x=pure x) {y:Str} {py spos:Pos} {i:Nat} (hy:At X y i):PS X (.Assign [.Name y py] (.ListComp elt [⟨tg,iter,ifs,0⟩] scope pos) spos) (spAsg X c i (compF xs fi fc fe)):=by
 obtain ⟨b,hb⟩:∃ b:Bool,swapsWith (.ListComp elt [⟨tg,iter,ifs,0⟩] scope pos) (some (.Name y py)) spos.line X.env=pure b:=⟨_,rfl⟩
 cases b with
 | false =>
  refine ps_mono (ps_set gd.nd hy.ix hy.loc (ok_comp gd S htg h2n he hi hit hfs) hb hy.fn) fun D σ H q=>?_
  exact q
 | true =>
  intro pins s σ H Dn I q
  obtain ⟨r,F,t,e,ht,q⟩:=q
  obtain ⟨its,total,hf,hz,hcm,rfl⟩:=compF_inv ht
  rw [exec_Assign_Name_used _ _ _ _ hb]
  refine wpAny_bind (wpAny_standAt (wpAny_bind ?_))
  show wpAny _ X.A (do let _ ← comprehension (.ListComp elt [⟨tg,iter,ifs,0⟩] scope pos) scope X.env _ (newList []) false (eval iter X.env) (some (assign (.Name y py) X.env))) _ _ s
  refine wpAny_bind (wpAny_mono (wpAny_comprehension_free (use:=some (assign (.Name y py) X.env)) (Q:=fun _ s'=>SP X pins Dn .next s') rfl hfs (closureFor_eq ((S.sc gd).has I.ok)) S.kind (fun y hy e=>(S.loc y hy e).1)
   (thn (hit pins s σ H (fun J H'=>∃ F',Step F H F' H'∧Walk X.K J its F') I ⟨r,F,its,e,hf,fun J F' H' s1 wk=>⟨F',s1,wk⟩⟩) fun v s1 h1=>thn h1 fun itv s2 h2=>?_)) (fun _ s' hq=>wpAny_pure (wpAny_pure hq)) fun _ _ e=>e)
  obtain ⟨it,fp,tn,J,H2,rfl,I2,T,st2,f2,F2,s12,wk⟩:=h2
  refine thn (comp_tree (E:=X.xe) gd S htg h2n he hi I2 T st2 f2 wk (e.step s12) hz hcm) fun acc s3 h3=>thn h3 fun cenv s4 h4=>codeAny_mono h4 fun res s' hres=>?_
  obtain ⟨rfl,D,H',rfl,I',fC,⟨m,hm⟩,F3,vs,st3,d1,d2,d3,d4⟩:=hres
  show wpAny _ X.A (assign (.Name y py) X.env (.ref D)) _ _ s'
  refine wpAny_assign_Name (store_ok2 I' gd.nd hy.ix hy.loc (v:=.ref D) (u:=.ref D) rfl (fun s'' I'' hsb=>?_) hy.fn)
  obtain ⟨a,hsb,ha⟩:=hsb
  have hCa:cenv.locals≠a:=by
   rcases ha with z | z
   ·rw [z];exact fC.2.1
   ·exact Ne.symm (fC.2.2.2.2.1 y a z)
  refine ⟨m,hm.sameBut hsb hCa,fun h' hsb2=>⟨_,H',I''.turned (t':=s''.toks) (fun b o hb q=>(hsb2.2 b hb).trans q) fC.1 fC.2.1 fC.2.2.2.1 fC.2.2.2.2.1 fC.2.2.2.2.2,?_⟩⟩
  have S3:=step_acc s12 st3 d1 d2 d3
  exact q _ _ _ S3 ⟨D,vs,rfl,Ls.of upd_same,d4.mono (same_new d1)⟩
end
theorem star_ok {n:Nat} {c:Tc} {e:Expr} {e':E} (h:trV n c e=some e') (es:List Expr) (env:PySem.Env):starEach (e::es) env=(false,eval e env)::starEach es env:=by
 cases n with
 | zero=>cases h
 | succ n=>cases e<;>first | rfl | (cases h)
theorem star_one {n:Nat} {c:Tc} {e:Expr} {e':E} (h:trV n c e=some e') (env:PySem.Env):starEach [e] env=[(false,eval e env)]:=star_ok h [] env
theorem star_any {n:Nat} {c:Tc} (pos:Pos) (env:PySem.Env):∀ {es:List Expr} {xs:List E},mapO (trV n c) es=some xs→(backTo pos (starEach es env)).any (·.1)=false
 | [],_,_=>rfl
 | e::es,xs,h=>by
  obtain ⟨x,h1,h⟩:=obs h
  obtain ⟨ys,h2,_⟩:=obs h
  rw [star_ok h1]
  have ih:=star_any pos env h2
  unfold backTo at ih ⊢
  rw [List.map_cons,List.any_cons,ih]
  rfl
theorem plain_ix {b:Expr} (h:sliceE b=false):PlainIx b:=by
 cases b<;>first | (intro o i;rfl) | (cases h)
theorem base_ok {n:Nat} {c:Tc} {o:Expr} {e':E} (h:trV n c o=some e') (m:Str) (env:PySem.Env) (w:Sem Value):attributeBase o m env w=w:=by
 cases n with
 | zero=>cases h
 | succ n =>
  cases o with
  | Call f args kws pos =>
   cases f with
   | Name id p =>
    cases args with
    | nil=>cases kws<;>(cases h;done)
    | cons _ _=>rfl
   | _=>rfl
  | _=>rfl
theorem evEs_len {G:Glo}:∀ {xs:List E} {r:Env} {ts:List T},evEs G xs r=some ts→ts.length=xs.length
 | [],_,_,h=>by rw [evEs] at h;cases h;rfl
 | x::xs,r,ts,h=>by
  rw [evEs] at h
  obtain ⟨t,_,h⟩:=obs h
  obtain ⟨us,h2,h⟩:=obs h
  cases h
  simp [evEs_len h2]
def isBO:Expr→Bool
 | .BoolOp ..=>true
 | _=>false
structure Snd (G:Glo) (k n:Nat):Prop where
 v:∀ {X:Cx} {c:Tc} {e:Expr} {e':E},Gd X c G k→trV n c e=some e'→Oke X c e (evE G e')
 t:∀ {X:Cx} {c:Tc} {e:Expr} {e':E},Gd X c G k→trT n c e=some e'→Okt X c e (evE G e')∧(isBO e=true→Okw X c e (evE G e'))
 i:∀ {X:Cx} {c:Tc} {tg e:Expr} {ki:Ik × List E},Gd X c G k→trI n c e=some ki→(ki.1.pair=true→isTupE tg=true)→PI X tg e (spI X c fun r=>(evEs G ki.2 r).bind fun xs=>items ki.1 xs)
 f:∀ {X:Cx} {c:Tc} {e:Expr} {e':E},Gd X c G k→trF n c e=some e'→PE X e (spF X c (evE G e'))
section
variable {G:Glo} {k n:Nat} {X:Cx} {c:Tc}
theorem Snd.l (S:Snd G k n) (gd:Gd X c G k):∀ {es:List Expr} {xs:List E},mapO (trV n c) es=some xs→PA X es (spL X c (evEs G xs))
 | [],xs,h=>by
  cases h
  have e:evEs G []=fun _=>some []:=by funext r;rw [evEs]
  rw [e];exact ok_nil
 | a::es,xs,h=>by
  obtain ⟨x,h1,h⟩:=obs h
  obtain ⟨ys,h2,h⟩:=obs h
  cases h
  have e:evEs G (x::ys)=fun r=>(evE G x r).bind fun t=>(evEs G ys r).bind fun ts=>some (t::ts):=by funext r;rw [evEs]
  rw [e]
  exact ok_cons (S.v gd h1) (Snd.l S gd h2) (star_ok h1 es X.env)
theorem Snd.fp (S:Snd G k n) (gd:Gd X c G k):∀ {es:List Expr} {xs:List E},mapO (trF n c) es=some xs→Fps X c es (evEs G xs)
 | [],xs,h=>by
  cases h
  have e:evEs G []=fun _=>some []:=by funext r;rw [evEs]
  rw [e];exact .nil
 | a::es,xs,h=>by
  obtain ⟨x,h1,h⟩:=obs h
  obtain ⟨ys,h2,h⟩:=obs h
  cases h
  have e:evEs G (x::ys)=fun r=>(evE G x r).bind fun t=>(evEs G ys r).bind fun ts=>some (t::ts):=by funext r;rw [evEs]
  rw [e]
  exact .cons (S.f gd h1) (Snd.fp S gd h2)
theorem Snd.o (S:Snd G k n) (gd:Gd X c G k) {e:Option Expr} {x:Option E} (h:optO (trV n c) e=some x):PO X e (spO X c (evO G x)):=by
 cases e with
 | none =>
  cases h
  have e:evO G none=fun _=>some none:=by funext r;rw [evO]
  rw [e];exact ok_po_none
 | some a =>
  obtain ⟨y,h1,rfl⟩:=oms h
  have e:evO G (some y)=fun r=>(evE G y r).map some:=by funext r;rw [evO]
  rw [e];exact ok_po_some (S.v gd h1)
theorem Gd.hu (gd:Gd X c G k):X.A.units+100<cLine:=by have:=gd.room.un;omega
theorem snd_t (S:Snd G k n) {e:Expr} {e':E} (gd:Gd X c G k) (h:trT (n+1) c e=some e'):Okt X c e (evE G e')∧(isBO e=true→Okw X c e (evE G e')):=by
 have tru:∀ {a:Expr} {x:E},(∀ whole,isTrue a X.env whole=(do let v ← whole;standAt a.pos;holding [v] (truthy v)))→trV n c a=some x→Okt X c a (evE G (.tru x)):=fun {a x} he h1=>by
  have e:evE G (.tru x)=fun r=>(evE G x r).bind fun t=>(truT t).map .bl:=by funext r;rw [evE]
  rw [e];exact t_tru (S.v gd h1) he
 cases e with
 | BoolOp op vs pos =>
  have key:Okw X c (.BoolOp op vs pos) (evE G e'):=by
   cases vs with
   | nil=>cases op<;>(cases h;done)
   | cons a r =>
    cases r with
    | nil =>
     cases op with
     | And=>exact pw_and1 (S.t gd h).1
     | Or=>exact pw_or1 (S.t gd h).1
    | cons b r =>
     cases op with
     | And =>
      obtain ⟨x,h1,h⟩:=obs h
      obtain ⟨y,h2,h⟩:=obs h
      cases h
      have e:evE G (.land x y)=fun r=>(evE G x r).bind fun t=>match t with | .bl true=>evE G y r | .bl false=>some (.bl false) | _=>none:=by funext r;rw [evE];try rfl
      rw [e];exact tw_and (S.t gd h1).1 ((S.t gd h2).2 rfl)
     | Or =>
      obtain ⟨x,h1,h⟩:=obs h
      obtain ⟨y,h2,h⟩:=obs h
      cases h
      have e:evE G (.lor x y)=fun r=>(evE G x r).bind fun t=>match t with | .bl true=>some (.bl true) | .bl false=>evE G y r | _=>none:=by funext r;rw [evE];try rfl
      rw [e];exact tw_or (S.t gd h1).1 ((S.t gd h2).2 rfl)
  exact ⟨key.pt,fun _=>key⟩
 | UnaryOp op a pos =>
  refine ⟨?_,fun z=>by cases z⟩
  cases op with
  | Not =>
   obtain ⟨x,h1,h⟩:=obs h
   cases h
   have e:evE G (.lnot x)=fun r=>(evE G x r).bind fun t=>match t with | .bl b=>some (.bl (!b)) | _=>none:=by funext r;rw [evE];try rfl
   rw [e];exact t_not (S.t gd h1).1
  | _=>(cases h;done)
 | Compare a ops bs pos =>
  refine ⟨?_,fun z=>by cases z⟩
  match ops,bs,h with
  | [op],[b],h =>
   obtain ⟨o,h0,h⟩:=obs h
   obtain ⟨x,h1,h⟩:=obs h
   obtain ⟨y,h2,h⟩:=obs h
   cases h
   obtain ⟨q1,q2⟩:=ops_co (X:=X) gd.hu h0
   have e:evE G (.cmp o x y)=fun r=>(evE G x r).bind fun s=>(evE G y r).bind fun t=>cmpT o s t:=by funext r;rw [evE]
   rw [e];exact ok_cmpT q1 (S.v gd h1) (S.v gd h2) q2
  | [op,op'],[b,d],h =>
   obtain ⟨o,h0,h⟩:=obs h
   obtain ⟨o',h0',h⟩:=obs h
   obtain ⟨x,h1,h⟩:=obs h
   obtain ⟨y,h2,h⟩:=obs h
   obtain ⟨z,h3,h⟩:=obs h
   cases h
   have hm:lastMarks [op,op'] [b,d]=false:=by
    show behindInMarks op' d=false
    cases op'<;>first | exact nomark _ | cases h0'
   have e:evE G (.chn o o' x y z)=fun r=>(evE G x r).bind fun s=>(evE G y r).bind fun t=>(cmpT o s t).bind fun k=>match k with | .bl true=>(evE G z r).bind fun u=>cmpT o' t u | .bl false=>some (.bl false) | _=>none:=by funext r;rw [evE];try rfl
   rw [e];exact t_chn (ops_cc gd.hu h0) (ops_cc gd.hu h0') (S.v gd h1) (S.v gd h2) (S.v gd h3) hm
  | [],_,h=>(cases h;done)
  | [_],[],h=>(cases h;done)
  | [_],_::_::_,h=>(cases h;done)
  | [_,_],[],h=>(cases h;done)
  | [_,_],[_],h=>(cases h;done)
  | [_,_],_::_::_::_,h=>(cases h;done)
  | _::_::_::_,_,h=>(cases h;done)
 | Name x pos =>
  refine ⟨?_,fun z=>by cases z⟩
  obtain ⟨y,h1,h⟩:=obs h
  cases h
  exact tru (fun _=>rfl) h1
 | Call f es ks pos =>
  refine ⟨?_,fun z=>by cases z⟩
  obtain ⟨y,h1,h⟩:=obs h
  cases h
  exact tru (fun _=>rfl) h1
 | Subscript a b pos =>
  refine ⟨?_,fun z=>by cases z⟩
  obtain ⟨y,h1,h⟩:=obs h
  cases h
  exact tru (fun _=>rfl) h1
 | _=>(cases h;done)
theorem snd_f (S:Snd G k n) {e:Expr} {e':E} (gd:Gd X c G k) (h:trF (n+1) c e=some e'):PE X e (spF X c (evE G e')):=by
 cases e with
 | FormattedValue a cv fs pos =>
  cases fs with
  | some _=>cases h
  | none =>
   have h:(if cv = -1 then trV n c a else none)=some e':=h
   by_cases hcv:cv = -1
   ·subst hcv
    rw [if_pos rfl] at h
    exact f_val (S.v gd h)
   ·rw [if_neg hcv] at h
    cases h
 | Constant cst q pos =>
  cases cst with
  | str x =>
   have h:trV n c (.Constant (.str x) q pos)=some e':=h
   cases n with
   | zero=>cases h
   | succ n =>
    have h':e'=.cst (.str x):=by
     have z:(some (.cst (.str x)):Option E)=some e':=h
     cases z;rfl
    subst h'
    have e:evE G (.cst (.str x))=fun _=>some (.str x):=by funext r;rw [evE]
    rw [e];exact f_cst
  | _=>(cases h;done)
 | _=>(cases h;done)
theorem snd_i (S:Snd G k n) {tg e:Expr} {ki:Ik × List E} (gd:Gd X c G k) (h:trI (n+1) c e=some ki) (ht:ki.1.pair=true→isTupE tg=true):PI X tg e (spI X c fun r=>(evEs G ki.2 r).bind fun xs=>items ki.1 xs):=by
 have one:∀ (x:E) (kk:Ik),(fun r=>(evEs G [x] r).bind fun xs=>items kk xs)=fun r=>(evE G x r).bind fun t=>items kk [t]:=fun x kk=>by
  funext r
  rw [evEs,evEs]
  cases evE G x r<;>rfl
 have plain:∀ {a:Expr},((trV n c a).bind fun x=>some (Ik.plain,[x]))=some ki→PI X tg a (spI X c fun r=>(evEs G ki.2 r).bind fun xs=>items ki.1 xs):=fun {a} h=>by
  obtain ⟨x,h1,h⟩:=obs h
  cases h
  rw [one]
  exact ok_walk (S.v gd h1)
 have call:∀ {f:Str} {p pos:Pos} {a:Expr},trI (n+1) c (.Call (.Name f p) [a] [] pos)=some ki→PI X tg (.Call (.Name f p) [a] [] pos) (spI X c fun r=>(evEs G ki.2 r).bind fun xs=>items ki.1 xs):=fun {f p pos a} h=>by
  unfold trI at h
  split at h
  ·rename_i hr
   rw [Bool.and_eq_true] at hr
   have hf:=eq_of_beq hr.1
   subst hf
   obtain ⟨x,h1,h⟩:=obs h
   cases h
   rw [one]
   exact ok_range gd hr.2 (S.v gd h1) (star_one h1 X.env)
  ·split at h
   ·rename_i hr
    rw [Bool.and_eq_true] at hr
    have hf:=eq_of_beq hr.1
    subst hf
    obtain ⟨x,h1,h⟩:=obs h
    cases h
    have htt:=ht rfl
    cases tg with
    | Tuple es kx p2 =>
     rw [one]
     exact ok_enum gd hr.2 (S.v gd h1) (star_one h1 X.env)
    | _=>cases htt
   ·exact plain h
 cases e with
 | Call f args kws pos =>
  cases f with
  | Name id p =>
   match args,kws,h with
   | [a],[],h=>exact call h
   | [],kws,h=>exact plain h
   | [_],_::_,h=>exact plain h
   | [a,b],[],h =>
    replace h:(if id==("zip":Str)&&glB c.sc id then (trV n c a).bind fun x=>(trV n c b).bind fun y=>some (Ik.zip,[x,y]) else (trV n c (.Call (.Name id p) [a,b] [] pos)).bind fun x=>some (Ik.plain,[x]))=some ki:=h
    split at h
    ·rename_i hr
     rw [Bool.and_eq_true] at hr
     obtain ⟨x,h1,g1⟩:=obs h
     obtain ⟨y,h2,g2⟩:=obs g1
     cases g2
     have hf:=eq_of_beq hr.1
     subst hf
     have htt:=ht rfl
     cases tg with
     | Tuple es kx p2 =>
      have two:(fun r=>(evEs G [x,y] r).bind fun xs=>items Ik.zip xs)=fun r=>(evE G x r).bind fun s=>(evE G y r).bind fun t=>items Ik.zip [s,t]:=by
       funext r
       rw [evEs,evEs,evEs]
       cases evE G x r<;>cases evE G y r<;>rfl
      show PI X _ _ (spI X c fun r=>(evEs G [x,y] r).bind fun xs=>items Ik.zip xs)
      rw [two]
      exact ok_zip gd hr.2 (S.v gd h1) (S.v gd h2) (by rw [star_ok h1,star_one h2]) (star_one h2 X.env)
     | _=>cases htt
    ·exact plain h
   | [_,_],_::_,h=>exact plain h
   | _::_::_::_,kws,h=>exact plain h
  | _=>exact plain h
 | _=>exact plain h
end
section
variable {X:Cx} {c:Tc} {a:Expr} {apos cpos dpos q1 q2 q3 q4 q5 q6 q7:Pos} {u1 u2 u3 u4 u5 u6 u7:Nat}
theorem dict_at {k1 k2 k3 x:Str} {a1 a2 a3:Value} (h12:(k1==k2)=false) (h13:(k1==k3)=false) (h23:(k2==k3)=false) :
  valueAt (merged ([]:List (Str × Value)) [(k1,a1),(k2,a2),(k3,a3)]) x=([(k1,a1),(k2,a2),(k3,a3)]:List (Str × Value)).lookup x:=by
 have n12:¬ k1=k2:=by simpa using h12
 have n13:¬ k1=k3:=by simpa using h13
 have n23:¬ k2=k3:=by simpa using h23
 have em:merged ([]:List (Str × Value)) [(k1,a1),(k2,a2),(k3,a3)]=[(k1,a1),(k2,a2),(k3,a3)]:=by
  simp [merged,stored,n12,n13,n23]
 rw [em]
 unfold valueAt
 by_cases e1:k1=x
 ·subst e1;simp []
 ·have b1:(x==k1)=false:=by simpa using fun z:x=k1=>e1 z.symm
  by_cases e2:k2=x
  ·subst e2;simp [List.lookup_cons,b1,e1]
  ·have b2:(x==k2)=false:=by simpa using fun z:x=k2=>e2 z.symm
   by_cases e3:k3=x
   ·subst e3;simp [List.lookup_cons,b1,b2,e1,e2]
   ·have b3:(x==k3)=false:=by simpa using fun z:x=k3=>e3 z.symm
    simp [List.lookup_cons,b1,b2,b3,e1,e2,e3]
theorem look_int {k1 k2 k3 x:Str} {v1 v2 v3 d:Int} (t1 t2 t3 t4:Tok):∃ t',(([(k1,Value.int v1 t1),(k2,Value.int v2 t2),(k3,Value.int v3 t3)]:List (Str × Value)).lookup x).getD (.int d t4)=Value.int ((([(k1,v1),(k2,v2),(k3,v3)]:List (Str × Int)).lookup x).getD d) t':=by
 simp only [List.lookup_cons]
 cases (x==k1)<;>cases (x==k2)<;>cases (x==k3)<;>exact ⟨_,rfl⟩
theorem ok_dget {f:Env→Option T} {k1 k2 k3:Str} {v1 v2 v3 d:Int} (ha:Oke X c a f) (hs:∀ es,starEach (a::es) X.env=(false,eval a X.env)::starEach es X.env) (hl:(apos.endLine==cpos.line)=true)
  (h12:(k1==k2)=false) (h13:(k1==k3)=false) (h23:(k2==k3)=false) :
  Oke X c (.Call (.Attribute (.Dict [some (.Constant (.str k1) u1 q1),some (.Constant (.str k2) u2 q2),some (.Constant (.str k3) u3 q3)] [.Constant (.int v1) u4 q4,.Constant (.int v2) u5 q5,.Constant (.int v3) u6 q6] dpos) "get" apos) [a,.Constant (.int d) u7 q7] [] cpos)
   (fun r=>(f r).bind (dgetT [(k1,v1),(k2,v2),(k3,v3)] d)):=by
 intro pins s σ H Q I h
 obtain ⟨r,F,t,e,ht,q⟩:=h
 obtain ⟨t1,e1,ht⟩:=obs ht
 cases t1 with
 | str x =>
  cases ht
  refine wpAny_Call_method_late (o:=.Dict [some (.Constant (.str k1) u1 q1),some (.Constant (.str k2) u2 q2),some (.Constant (.str k3) u3 q3)] [.Constant (.int v1) u4 q4,.Constant (.int v2) u5 q5,.Constant (.int v3) u6 q6] dpos) rfl (by rw [hs];rfl) hl rfl ?_
  refine wpAny_Dict_pairs (knd:=PySem.strKind X.prog X.w) (pairs:=[(eval (.Constant (.str k1) u1 q1) X.env,do let x ← eval (.Constant (.int v1) u4 q4) X.env;standAt dpos;pure x),(eval (.Constant (.str k2) u2 q2) X.env,do let x ← eval (.Constant (.int v2) u5 q5) X.env;standAt dpos;pure x),(eval (.Constant (.str k3) u3 q3) X.env,do let x ← eval (.Constant (.int v3) u6 q6) X.env;standAt dpos;pure x)]) rfl (by simp) (by simp) ?_
  refine evalPairs_cons (Calls.Constant_str (wpAny_bind (wpAny_Constant_int (wpAny_bind (wpAny_standAt (wpAny_pure ?_))))))
  refine evalPairs_cons (Calls.Constant_str (wpAny_bind (wpAny_Constant_int (wpAny_bind (wpAny_standAt (wpAny_pure ?_))))))
  refine evalPairs_cons (Calls.Constant_str (wpAny_bind (wpAny_Constant_int (wpAny_bind (wpAny_standAt (wpAny_pure ?_))))))
  refine evalPairs_nil ?_
  refine ⟨[(k1,.int v1 _),(k2,.int v2 _),(k3,.int v3 _)],⟨by simp [PySem.strKind,Value.isStrOf],rfl,by simp [PySem.strKind,Value.isStrOf],rfl,by simp [PySem.strKind,Value.isStrOf],rfl,trivial⟩,Heap.DictOf.new _,fun h' hd hsb=>?_⟩
  have hfp:∀ b∈[s.heap.objs.size],FpOk X pins H b:=fun b hb=>by
   have e:b=s.heap.objs.size:=by simpa using hb
   subst e
   exact I.fpOk (Nat.le_refl _) (I.hok.fresh (Nat.le_refl _))
  have I1:∀ tk,Inv X pins σ H { s with heap:=h',toks:=tk }:=fun tk=>I.kept (t':=tk) fun b o eo=>(hsb.2 b (Nat.ne_of_lt (Heap.lt_size eo))).trans (Heap.get?_push_of_some _ eo)
  obtain ⟨o,es,ep,ho,hx,hdt,hk,hp,hn⟩:=id hd
  have I2:∀ tk,Inv X (pins++pinsAt [s.heap.objs.size] h') σ H { s with heap:=h',toks:=tk }:=fun tk=>(I1 tk).pinned hfp fun b hb=>by
   have e:b=s.heap.objs.size:=by simpa using hb
   subst e
   exact ⟨o,ho,fun v z=>by rw [hdt] at z;cases z⟩
  refine ⟨"dict", "dict.get",PySem.F.plainAttrs_dict,PySem.F.slot_dict_get,PySem.F.type_dict_get,Heap.DictOf.typeIs hd,hd.mapOf.noDict,?_⟩
  have hA:=ok_cons (c:=c) ha (ok_cons (c:=c) (ok_cst (c:=c) (a:=.Constant (.int d) u7 q7) (t:=.int d) pe_int fun _=>rfl) ok_nil rfl) (hs _)
  have hB:=fun tk=>hA cpos (pins++pinsAt [s.heap.objs.size] h') { s with heap:=h',toks:=tk } σ H (fun vs H2=>∃ F2,vs=[.str x,.int d]∧Step F H F2 H2) (I2 tk) ⟨r,F,[.str x,.int d],e,by simp [e1],fun vs F2 H2 st r2=>by
   obtain ⟨v,w,rfl,g1,g2⟩:=r2
   obtain ⟨v',w',rfl,g3,g4⟩:=g2
   cases g1
   cases g3
   cases g4
   exact ⟨F2,rfl,st⟩⟩
  rw [hs] at hB ⊢
  refine Calls.callWith_builtin rfl (Calls.evalArgs_plain (thn (hB _) fun us s2 ⟨vs,H2,I3,r2,F2,ev,st⟩=>?_))
  subst ev
  obtain ⟨w1,w2,rfl,⟨t5,rfl⟩,⟨t6,rfl⟩⟩:=vals2 r2
  have hpin:=I3.pin (s.heap.objs.size,o) (List.mem_append_right _ (List.mem_append_right _ (mem_pinsAt (by simp) ho)))
  have hd2:s2.heap.DictOf (PySem.strKind X.prog X.w) s.heap.objs.size (merged [] [(k1,.int v1 _),(k2,.int v2 _),(k3,.int v3 _)]):=⟨o,es,ep,hpin.1,hx,hdt,hk,hp,hn⟩
  refine call_meetsIn PySem.F.slot_dict_get (Heap.DictOf.typeIs hd2) PySem.F.entry_dict_get (PySem.F.args_dict_get_3 _ _ _) (meets_dict_get_default (PySem.strKind X.prog X.w) s.heap.objs.size (k:=x) (by simp [PySem.strKind,Value.isStrOf]) ?_ (.int d t6)) ⟨_,hd2.mapOf,?_⟩
  ·have h0:mainGlobals<s.heap.objs.size:=(I.mod.glob.keeps I.bk).lt
   have h1:sysModules<s.heap.objs.size:=Nat.lt_trans (by decide) h0
   simpa using Nat.ne_of_gt h1
  ·rw [dict_at h12 h13 h23]
   have I4:=I3.unpinned
   obtain ⟨t',ek⟩:=look_int (k1:=k1) (k2:=k2) (k3:=k3) (v1:=v1) (v2:=v2) (v3:=v3) (x:=x) (d:=d) _ _ _ t6
   rw [ek]
   exact ⟨.int _,H2,I4.tok _,⟨_,rfl⟩,q _ F2 H2 st rfl⟩
 | _=>cases ht
theorem Reps.rev {K:PySem.W.Frag} {F:Hp}:∀ {ts:List T} {vs:List V},Reps K F ts vs→Reps K F ts.reverse vs.reverse
 | [],_,h=>by cases h;exact rfl
 | t::ts,_,h=>by
  obtain ⟨v,w,rfl,h1,h2⟩:=h
  rw [List.reverse_cons,List.reverse_cons]
  exact (Reps.rev h2).app ⟨v,[],rfl,h1,rfl⟩
theorem ok_rev {f g:Env→Option T} {st:Expr} {p2 pos:Pos} (ha:Oke X c a f) (hst:Oke X c st g) (hg:∀ r,g r=some (.int (-1))):Oke X c (.Subscript a (.Slice none none (some st) p2) pos) (fun r=>(f r).bind revT):=by
 refine pe_mono (pe_rev ha (ok_po_none (c:=c)) (ok_po_some hst)) fun σ H Q q=>?_
 obtain ⟨r,F,t,e,ht,q⟩:=q
 obtain ⟨t1,e1,ht⟩:=obs ht
 refine ⟨r,F,t1,e,e1,fun v F1 H1 s1 r1=>⟨r,F1,none,e.step s1,rfl,fun F2 H2 s2=>⟨rfl,r,F2,none,e.step (s1.trans s2),rfl,fun F3 H3 s3=>⟨rfl,r,F3,some (-1),e.step (s1.trans (s2.trans s3)),by simp [hg,asI],fun F4 H4 s4=>⟨rfl,?_⟩⟩⟩⟩⟩
 cases t1 with
 | tup ts =>
  simp only [revT] at ht
  split at ht
  ·cases ht
   obtain ⟨b,vs,rfl,h1,h2⟩:=r1
   have s24:=s2.trans (s3.trans s4)
   refine ⟨b,vs,rfl,same_tup s24.fh (same_tup s24.ff h1),fun p hp=>?_⟩
   have stp:=(Step.refl s24.fh).new (o:=.tup vs.reverse) hp
   exact q _ _ _ (s1.trans (s24.trans stp)) ⟨p,_,rfl,SqT.of upd_same,((Reps.rev h2).mono s24.ff).mono stp.ff⟩
  ·cases ht
 | _=>cases ht
end
end Ev
end
noncomputable section
namespace L2
open PySem PySem.Spec PyProof.Rows
instance (priority:=high) keyBEq:BEq Key:=⟨fun a b=>decide (a=b)⟩
instance keyLaw:LawfulBEq Key where
 eq_of_beq:=fun h=>of_decide_eq_true h
 rfl:=decide_eq_true rfl
def dedK (ks:List Key):List Key:=ks.foldl step_dedup []
theorem ded_any (l:List Key) (v k:Key):(step_dedup l v).any (·==k)=(l.any (·==k)||decide (k=v)):=by
 unfold step_dedup
 split
 ·rename_i hv
  by_cases e:k=v
  ·subst e;rw [hv];simp
  ·simp [e]
 ·rw [List.any_append]
  by_cases e:k=v
  ·subst e;simp
  ·have:(v==k)=false:=by simpa using fun z:v=k=>e z.symm
   simp [e,this]
theorem ded_len (l:List Key) (v:Key):(step_dedup l v).length=if l.any (·==v) then l.length else l.length+1:=by
 unfold step_dedup;split<;>simp
theorem ded_le (ks:List Key):∀ l:List Key,(ks.foldl step_dedup l).length≤l.length+ks.length:=by
 induction ks with
 | nil=>intro l;simp
 | cons k ks ih =>
  intro l
  have h1:=ih (step_dedup l k)
  have h2:(step_dedup l k).length≤l.length+1:=by rw [ded_len];split<;>omega
  simp only [List.foldl_cons,List.length_cons];omega
theorem take_ded {ks:List Key} {i:Nat} (h:i<ks.length):dedK (ks.take (i+1))=step_dedup (dedK (ks.take i)) ks[i]:=by
 unfold dedK
 rw [List.take_succ,List.getElem?_eq_getElem h,List.foldl_append]
 rfl
section
variable {prog:Program} {w:World} {A:Around} {R:Result→Shared→Prop} {I:Addr} {fp wr:List Addr} {G:Array GenState→Array GenState→Prop} {P:Nat→Value→Prop} {St:Nat→Shared→Prop}
theorem set_loopK {ks:List Key} (W:WalksS prog w A.in1 I fp wr G ks.length P St) (S:Addr) (hf:S∉fp) (hv:∀ (i:Nat) (h:i<ks.length) v,P i v→keyIs ks[i] v=true) (hb:ks.length+1<scanBound) :
  ∀ (k i:Nat) (s:Shared),ks.length-i=k→i≤ks.length→St i s→s.heap.SetOf (mixKind prog w) S (fun x=>(dedK (ks.take i)).any (·==x)) (dedK (ks.take i)).length →
   (∀ s',Moved (S::wr) G s s'→s'.heap.SetOf (mixKind prog w) S (fun x=>(dedK ks).any (·==x)) (dedK ks).length→R (.ok (.ret .none)) s')→codeAny (model prog w) A (.builtin "set.update.loop" ⟨[.ref S,.ref I],[]⟩) R s:=by
 have hw:S∉wr:=fun z=>hf (W.sub _ z)
 have hsu:∀ c∈wr,c∈S::wr:=fun c hc=>List.mem_cons_of_mem _ hc
 intro k
 induction k with
 | zero =>
  intro i s e1 e2 st y r
  have e3:i=ks.length:=by omega
  subst e3
  rw [List.take_length] at y
  refine codeAny_builtin F.entry_set_update_loop (show wpAny _ _ _ _ _ _ from ?_)
  rw [Around.under_plainId F.plain_set_update_loop _]
  show wpAny _ A.in1 (pyNext (.ref I) >>= _) _ _ s
  refine wpAny_bind (W.done s _ _ st fun s1 mv=>(show wpAny _ A.in1 (ret Value.none) _ _ s1 from wpAny_pure (r s1 (mv.mono hsu) ?_)))
  obtain ⟨o,es,ep,t,ho,re⟩:=y
  exact ⟨o,es,ep,t,mv.heap S _ hw ho,re⟩
 | succ k ih =>
  intro i s e1 e2 st y r
  have lt:i<ks.length:=by omega
  refine codeAny_builtin F.entry_set_update_loop (show wpAny _ _ _ _ _ _ from ?_)
  rw [Around.under_plainId F.plain_set_update_loop _]
  show wpAny _ A.in1 (pyNext (.ref I) >>= _) _ _ s
  refine wpAny_bind (W.item i s _ _ lt st fun v s1 hP st1 mv=>?_)
  have hk:=hv i lt v hP
  have y1:s1.heap.SetOf (mixKind prog w) S (fun x=>(dedK (ks.take i)).any (·==x)) (dedK (ks.take i)).length:=by
   obtain ⟨o,es,ep,tb,ho,re⟩:=y
   exact ⟨o,es,ep,tb,mv.heap S _ hw ho,re⟩
  show wpAny _ A.in1 (holding [v] (setAdd S v) >>= _) _ _ s1
  have sc:v.scannable=true:=by
   rcases keyIs_shape hk with ⟨j,t,_,rfl⟩ | ⟨x,t,_,rfl⟩<;>rfl
  refine wpAny_bind (wpAny_holding (show wpAny _ _ (setAdd S v) _ _ _ from ?_))
  unfold setAdd
  refine wpAny_holding (wpAny_bind ((mixKind prog w).pyHash (k:=ks[i]) hk ?_))
  have room:(dedK (ks.take i)).length+1<scanBound:=by
   have:=ded_le (ks.take i) []
   rw [List.length_take] at this
   simp only [List.length_nil] at this
   show (List.foldl step_dedup [] (ks.take i)).length+1<scanBound
   omega
  refine wpAny_setAddHashed_of (knd:=mixKind prog w) (s:={ s1 with toks:=s1.toks+1 }) hk sc y1 room fun g sb y2=>?_
  have y3:g.SetOf (mixKind prog w) S (fun x=>(dedK (ks.take (i+1))).any (·==x)) (dedK (ks.take (i+1))).length :=
   SetOf_congr y2 (fun x=>by rw [take_ded lt,ded_any]) (by rw [take_ded lt,ded_len])
  refine wpAny_pure ⟨plainId_quiet F.plain_set_update_loop _,ih (i+1) _ (by omega) lt (W.frame _ s1 _ _ st1 (Nat.le_succ _) fun c hc o e=>?_) y3 fun s2 mv2 y4=>?_⟩
  ·rw [sb.2 c fun z:c=S=>hf (by rw [← z];exact hc)];exact e
  ·refine r s2 (Moved.trans W.gtrans ((mv.mono hsu).then_heap (Nat.le_succ _) fun c o hc e=>?_) mv2) y4
   rw [sb.2 c fun z:c=S=>hc (by rw [z];exact List.mem_cons_self)];exact e
end
end L2
end
noncomputable section
namespace L2
open PySem PySem.Spec PyProof.Rows
section
variable {prog:Program} {w:World} {A:Around} {E:Value→Shared→Prop} {s:Shared}
abbrev setO (b:Bool):Obj:={ cls:=.type "set",dict:=none,data:=.set #[] 0 (.fresh 0 0 b) }
theorem call_setL {l:Addr} {its:Array Value} {ks:List Key} {Q:Value→Shared→Prop} (hh:A.handled=none) (hl:s.heap.IsList l its) (hn:its.size=ks.length) (hv:∀ (i:Nat) (h:i<ks.length) v,its[i]?=some v→keyIs ks[i] v=true) (hb:ks.length+1<scanBound)
  (q:∀ (g:Heap) (tk:Nat),g.SetOf (mixKind prog w) s.heap.objs.size (fun x=>(dedK ks).any (·==x)) (dedK ks).length→(∀ b o,b<s.heap.objs.size→s.heap.get? b=some o→g.get? b=some o)→Q (.ref s.heap.objs.size) { s with heap:=g,toks:=tk }) :
  wpAny (model prog w) A (call (.type "set") [.ref l]) Q E s:=by
 obtain ⟨c,tl,hmro⟩:=F.called_set.mro
 have k1:=F.called_set.made
 have k2:=F.called_set.sub
 refine wpAny_call (codeAny_of_tree (show wpAny _ _ (callAny (.type "set") _) _ _ _ from ?_))
 refine wpAny_pure ⟨Code.quiet_builtin _ (by decide +kernel),codeAny_builtin F.entry_type_call (show wpAny _ _ _ _ _ _ from ?_)⟩
 rw [Around.under_plain (weight_type_call_type "set" [.ref l] []) rfl]
 have k3:=F.called_set.notType
 have k4:=F.called_set.canCreate
 have k5:=F.typeCall_set_1 (.ref l)
 repeat (any_goals (first | wp_step | assumption))
 refine codeAny_mono (code_set_new_1 (.ref l) (E:=E) (Q₁:=fun ob s1=>∃ b:Bool,ob=.ref s.heap.objs.size∧s1={ s with heap:=s.heap.push (setO b) }) fun b=>⟨b,rfl,rfl⟩) fun r s1 hr=>?_
 cases r with
 | error e=>exact hr
 | ok fl =>
  cases fl with
  | ret ob =>
   obtain ⟨b,rfl,rfl⟩:=hr
   have hS:(s.heap.push (setO b)).get? s.heap.objs.size=some (setO b):=Heap.get?_push_size _ rfl
   have hT:Shared.TypeIs { s with heap:=s.heap.push (setO b) } (.ref s.heap.objs.size) "set":=⟨_,hS,rfl⟩
   have k6:=F.called_set.init.lookup
   have k7:=F.called_set.init.bind (.ref s.heap.objs.size)
   repeat (any_goals (first | wp_step | assumption))
   refine codeAny_mono (codeAny_call_builtin (R:=wants (fun r s2=>r=.none∧∃ g tk,s2={ s with heap:=g,toks:=tk }∧g.SetOf (mixKind prog w) s.heap.objs.size (fun x=>(dedK ks).any (·==x)) (dedK ks).length ∧
     (∀ b o,b<s.heap.objs.size→s.heap.get? b=some o→g.get? b=some o)) E) F.called_set.init.plain F.entry_set_init (check_set_init_1 hT ?_)) fun r2 s2 hr2=>?_
   ·obtain ⟨ol,hol,hcl,nl,hdl⟩:=hl
    obtain ⟨oc,od,odt,osl⟩:=ol
    simp only at hcl hdl
    subst hcl
    subst hdl
    have ho2:(s.heap.push (setO b)).get? l=some { cls:=.type "list",dict:=od,data:=.seq its nl,slots:=osl }:=Heap.get?_push_of_some _ hol
    have k8:=F.sub_list_set
    have k9:=F.sub_list_frozenset
    have k10:(Value.type "list"==Value.type "dict")=false:=by decide
    have hl1:(s.heap.push (setO b)).IsList l its:=⟨_,ho2,rfl,nl,rfl⟩
    unfold Builtin.«set.__init__» noKeywords Builtin.Frozenset.updateFrom
    generalize hPI:pyIter=PI
    wp_walk
    subst hPI
    refine wpAny_pyIter_list hl1 (wpAny_bind (wpAny_runValue (show codeAny _ _ _ _ _ from ?_)))
    have ll:l<s.heap.objs.size:=Heap.lt_size hol
    have h3:A.in1.in1.in1.handled=none:=by simp [hh]
    have ne:l≠(s.heap.push (setO b)).objs.size:=by rw [Heap.size_push];exact Nat.ne_of_lt (Nat.lt_succ_of_lt ll)
    have nf:s.heap.objs.size∉[(s.heap.push (setO b)).objs.size,l]:=by
     rw [Heap.size_push]
     simp only [List.mem_cons,List.not_mem_nil,or_false,not_or]
     exact ⟨Nat.ne_of_lt (Nat.lt_succ_self _),Nat.ne_of_gt ll⟩
    have W:=(Walks.list (prog:=prog) (w:=w) h3 (s.heap.push (setO b)).objs.size l ne its).toS
    rw [hn] at W
    refine set_loopK (ks:=ks) W s.heap.objs.size nf hv hb (ks.length-0) 0 _ (by omega) (Nat.zero_le _) ⟨⟨_,Heap.get?_push_size _ rfl,rfl,rfl⟩,let ⟨o,e,r⟩:=hl1;⟨o,Heap.get?_push_of_some _ e,r⟩⟩ ?zA ?zB
    case zA =>
     have hg:((s.heap.push (setO b)).push { cls:=.type "list_iterator",data:=.fields #[.ref l,.int 0 0] }).get? s.heap.objs.size=some (setO b):=Heap.get?_push_of_some _ hS
     exact SetOf_congr ((setObjOf_fresh (knd:=mixKind prog w) b).setOf hg (by unfold scanBound;omega)) (fun _=>rfl) rfl
    case zB =>
     intro s3 mv y
     obtain ⟨g3,gs3,d3,tk3,os3⟩:=s3
     have eg:gs3=s.gens:=mv.gens
     have ed:d3=s.drawn:=mv.drawn
     have eo:os3=s.os:=mv.os
     subst eg
     subst ed
     subst eo
     refine (show wpAny _ _ _ _ _ _ from wpAny_pure (show wpAny _ _ (ret Value.none) _ _ _ from wpAny_pure ⟨rfl,g3,tk3,rfl,y,fun c o hc e=>?_⟩))
     have n1:c≠s.heap.objs.size:=Nat.ne_of_lt hc
     have n2:c≠(s.heap.push (setO b)).objs.size:=by rw [Heap.size_push];exact Nat.ne_of_lt (Nat.lt_succ_of_lt hc)
     exact mv.heap c o (by simp only [List.mem_cons,List.not_mem_nil,or_false,not_or];exact ⟨n1,n2⟩) (Heap.get?_push_of_some _ (Heap.get?_push_of_some _ e))
   ·cases r2 with
    | error e=>exact hr2
    | ok fl2 =>
     cases fl2 with
     | ret r =>
      obtain ⟨rfl,g,tk,rfl,y,k⟩:=hr2
      repeat (any_goals (first | wp_step | assumption))
      exact q _ _ y k
     | _=>exact hr2.elim
  | _=>exact hr.elim
theorem call_setT {l:Addr} {its:Array Value} {ks:List Key} {Q:Value→Shared→Prop} (hh:A.handled=none) (hl:s.heap.IsTuple l its) (hn:its.size=ks.length) (hv:∀ (i:Nat) (h:i<ks.length) v,its[i]?=some v→keyIs ks[i] v=true) (hb:ks.length+1<scanBound)
  (q:∀ (g:Heap) (tk:Nat),g.SetOf (mixKind prog w) s.heap.objs.size (fun x=>(dedK ks).any (·==x)) (dedK ks).length→(∀ b o,b<s.heap.objs.size→s.heap.get? b=some o→g.get? b=some o)→Q (.ref s.heap.objs.size) { s with heap:=g,toks:=tk }) :
  wpAny (model prog w) A (call (.type "set") [.ref l]) Q E s:=by
 obtain ⟨c,tl,hmro⟩:=F.called_set.mro
 have k1:=F.called_set.made
 have k2:=F.called_set.sub
 refine wpAny_call (codeAny_of_tree (show wpAny _ _ (callAny (.type "set") _) _ _ _ from ?_))
 refine wpAny_pure ⟨Code.quiet_builtin _ (by decide +kernel),codeAny_builtin F.entry_type_call (show wpAny _ _ _ _ _ _ from ?_)⟩
 rw [Around.under_plain (weight_type_call_type "set" [.ref l] []) rfl]
 have k3:=F.called_set.notType
 have k4:=F.called_set.canCreate
 have k5:=F.typeCall_set_1 (.ref l)
 repeat (any_goals (first | wp_step | assumption))
 refine codeAny_mono (code_set_new_1 (.ref l) (E:=E) (Q₁:=fun ob s1=>∃ b:Bool,ob=.ref s.heap.objs.size∧s1={ s with heap:=s.heap.push (setO b) }) fun b=>⟨b,rfl,rfl⟩) fun r s1 hr=>?_
 cases r with
 | error e=>exact hr
 | ok fl =>
  cases fl with
  | ret ob =>
   obtain ⟨b,rfl,rfl⟩:=hr
   have hS:(s.heap.push (setO b)).get? s.heap.objs.size=some (setO b):=Heap.get?_push_size _ rfl
   have hT:Shared.TypeIs { s with heap:=s.heap.push (setO b) } (.ref s.heap.objs.size) "set":=⟨_,hS,rfl⟩
   have k6:=F.called_set.init.lookup
   have k7:=F.called_set.init.bind (.ref s.heap.objs.size)
   repeat (any_goals (first | wp_step | assumption))
   refine codeAny_mono (codeAny_call_builtin (R:=wants (fun r s2=>r=.none∧∃ g tk,s2={ s with heap:=g,toks:=tk }∧g.SetOf (mixKind prog w) s.heap.objs.size (fun x=>(dedK ks).any (·==x)) (dedK ks).length ∧
     (∀ b o,b<s.heap.objs.size→s.heap.get? b=some o→g.get? b=some o)) E) F.called_set.init.plain F.entry_set_init (check_set_init_1 hT ?_)) fun r2 s2 hr2=>?_
   ·obtain ⟨ol,hol,hcl,nl,hdl⟩:=hl
    obtain ⟨oc,od,odt,osl⟩:=ol
    simp only at hcl hdl
    subst hcl
    subst hdl
    have ho2:(s.heap.push (setO b)).get? l=some { cls:=.type "tuple",dict:=od,data:=.seq its nl,slots:=osl }:=Heap.get?_push_of_some _ hol
    have k8:=F.sub_tuple_set
    have k9:=F.sub_tuple_frozenset
    have k10:(Value.type "tuple"==Value.type "dict")=false:=by decide
    have hl1:(s.heap.push (setO b)).IsTuple l its:=⟨_,ho2,rfl,nl,rfl⟩
    unfold Builtin.«set.__init__» noKeywords Builtin.Frozenset.updateFrom
    generalize hPI:pyIter=PI
    wp_walk
    subst hPI
    refine wpAny_pyIter_tuple hl1 (wpAny_bind (wpAny_runValue (show codeAny _ _ _ _ _ from ?_)))
    have ll:l<s.heap.objs.size:=Heap.lt_size hol
    have h3:A.in1.in1.in1.handled=none:=by simp [hh]
    have ne:l≠(s.heap.push (setO b)).objs.size:=by rw [Heap.size_push];exact Nat.ne_of_lt (Nat.lt_succ_of_lt ll)
    have nf:s.heap.objs.size∉[(s.heap.push (setO b)).objs.size,l]:=by
     rw [Heap.size_push]
     simp only [List.mem_cons,List.not_mem_nil,or_false,not_or]
     exact ⟨Nat.ne_of_lt (Nat.lt_succ_self _),Nat.ne_of_gt ll⟩
    have W:=(Walks.tuple (prog:=prog) (w:=w) h3 (s.heap.push (setO b)).objs.size l ne its).toS
    rw [hn] at W
    refine set_loopK (ks:=ks) W s.heap.objs.size nf hv hb (ks.length-0) 0 _ (by omega) (Nat.zero_le _) ⟨⟨_,Heap.get?_push_size _ rfl,rfl,rfl⟩,let ⟨o,e,r⟩:=hl1;⟨o,Heap.get?_push_of_some _ e,r⟩⟩ ?zA ?zB
    case zA =>
     have hg:((s.heap.push (setO b)).push { cls:=.type "tuple_iterator",data:=.fields #[.ref l,.int 0 0] }).get? s.heap.objs.size=some (setO b):=Heap.get?_push_of_some _ hS
     exact SetOf_congr ((setObjOf_fresh (knd:=mixKind prog w) b).setOf hg (by unfold scanBound;omega)) (fun _=>rfl) rfl
    case zB =>
     intro s3 mv y
     obtain ⟨g3,gs3,d3,tk3,os3⟩:=s3
     have eg:gs3=s.gens:=mv.gens
     have ed:d3=s.drawn:=mv.drawn
     have eo:os3=s.os:=mv.os
     subst eg
     subst ed
     subst eo
     refine (show wpAny _ _ _ _ _ _ from wpAny_pure (show wpAny _ _ (ret Value.none) _ _ _ from wpAny_pure ⟨rfl,g3,tk3,rfl,y,fun c o hc e=>?_⟩))
     have n1:c≠s.heap.objs.size:=Nat.ne_of_lt hc
     have n2:c≠(s.heap.push (setO b)).objs.size:=by rw [Heap.size_push];exact Nat.ne_of_lt (Nat.lt_succ_of_lt hc)
     exact mv.heap c o (by simp only [List.mem_cons,List.not_mem_nil,or_false,not_or];exact ⟨n1,n2⟩) (Heap.get?_push_of_some _ (Heap.get?_push_of_some _ e))
   ·cases r2 with
    | error e=>exact hr2
    | ok fl2 =>
     cases fl2 with
     | ret r =>
      obtain ⟨rfl,g,tk,rfl,y,k⟩:=hr2
      repeat (any_goals (first | wp_step | assumption))
      exact q _ _ y k
     | _=>exact hr2.elim
  | _=>exact hr.elim
end
end L2
end
noncomputable section
namespace Ev
open PySem PySem.Spec PyProof.Rows L2
def keyV:T→Key
 | .str x=>.inr x
 | .int i=>.inl i
 | _=>.inl 0
theorem keyV_eq {a b:T} (ha:keyT a=true) (hb:keyT b=true):eqT a b=(keyV a==keyV b):=by
 have dec:∀ x y:Key,(x==y)=decide (x=y):=fun x y=>rfl
 cases a with
 | str x =>
  cases b with
  | str y=>rw [eqT,dec];show (x==y)=decide ((Sum.inr x:Key)=Sum.inr y);rw [key_rr];rfl
  | int y=>rw [dec];show eqT (.str x) (.int y)=decide ((Sum.inr x:Key)=Sum.inl y);rw [key_rl];simp [eqT]
  | _=>cases hb
 | int x =>
  cases b with
  | str y=>rw [dec];show eqT (.int x) (.str y)=decide ((Sum.inl x:Key)=Sum.inr y);rw [key_lr];simp [eqT]
  | int y=>rw [eqT,dec];show (x==y)=decide ((Sum.inl x:Key)=Sum.inl y);rw [key_ll]
  | _=>cases hb
 | _=>cases ha
theorem any_keyV {x:T} (hx:keyT x=true):∀ {l:List T},l.all keyT=true→l.any (fun y=>eqT y x)=(l.map keyV).any (·==keyV x)
 | [],_=>rfl
 | a::l,h=>by
  rw [List.all_cons,Bool.and_eq_true] at h
  rw [List.any_cons,List.map_cons,List.any_cons,keyV_eq h.1 hx,any_keyV hx h.2]
theorem ded_keyV:∀ {xs l:List T},xs.all keyT=true→l.all keyT=true→(xs.foldl dedT l).length=((xs.map keyV).foldl step_dedup (l.map keyV)).length
 | [],l,_,_=>by simp
 | x::xs,l,h,hl=>by
  rw [List.all_cons,Bool.and_eq_true] at h
  have e:=any_keyV h.1 hl
  rw [List.foldl_cons,List.map_cons,List.foldl_cons]
  cases hc:(l.map keyV).any (·==keyV x) with
  | true =>
   have e1:dedT l x=l:=by unfold dedT;rw [e,hc];rfl
   have e2:step_dedup (l.map keyV) (keyV x)=l.map keyV:=by unfold step_dedup;rw [hc];rfl
   rw [e1,e2]
   exact ded_keyV h.2 hl
  | false =>
   have e1:dedT l x=l++[x]:=by unfold dedT;rw [e,hc];rfl
   have e2:step_dedup (l.map keyV) (keyV x)=(l++[x]).map keyV:=by unfold step_dedup;rw [hc,List.map_append];rfl
   rw [e1,e2]
   exact ded_keyV h.2 (by rw [List.all_append,hl];simp [h.1])
section
variable {X:Cx} {c:Tc} {a:Expr} {p p2 pos q2:Pos}
theorem rep_key {K:PySem.W.Frag} {F:Hp} {t:T} {v:V} {u:Value} (h:keyT t=true) (r:Rep K F t v) (ru:RelV v u):keyIs (keyV t) u=true:=by
 cases t with
 | str x=>cases r;obtain ⟨k,rfl⟩:=ru;exact keyIs_str x k
 | int i=>cases r;obtain ⟨k,rfl⟩:=ru;exact keyIs_int i k
 | _=>cases h
theorem reps_key {K:PySem.W.Frag} {F:Hp}:∀ {ts:List T} {vs:List V} {us:List Value},ts.all keyT=true→Reps K F ts vs→Vals vs us→us.length=(ts.map keyV).length∧∀ (i:Nat) (h:i<(ts.map keyV).length) v,us[i]?=some v→keyIs (ts.map keyV)[i] v=true
 | [],vs,us,_,r,rv=>by cases r;cases rv;exact ⟨rfl,fun i h=>by simp at h⟩
 | t::ts,vs,us,h,r,rv=>by
  rw [List.all_cons,Bool.and_eq_true] at h
  obtain ⟨v,vr,rfl,r1,r2⟩:=r
  cases rv with
  | cons a b =>
   obtain ⟨e1,e2⟩:=reps_key h.2 r2 b
   refine ⟨by simp [e1],fun i hi w hw=>?_⟩
   cases i with
   | zero=>simp at hw;subst hw;exact rep_key h.1 r1 a
   | succ i=>exact e2 i (by simpa using hi) w (by simpa using hw)
def SetE (P:Program) (w:World) (a:Addr) (n:Nat):HO:=.ext fun h=>∃ S:Key→Bool,h.SetOf (mixKind P w) a S n
theorem call_setK (hcalm:X.calm=true):CallR X (.type "set") (fun xs H Q=>∃ F t ts v,xs=[v]∧Same F H∧Rep X.K F t v∧seqOf t=some ts∧ts.all keyT=true∧ts.length≤1000∧∀ l,H l=none→Q (.ref l) (upd H l (SetE X.prog X.w l (dedK (ts.map keyV)).length))):=by
 intro pins s σ H xs us Q I r h
 obtain ⟨F,t,ts,v,rfl,fh,r1,hs,hk,hl,q⟩:=h
 obtain ⟨u,rfl,rx⟩:=vals1 r
 have hd:X.A.handled=none:=I.ok.hd hcalm
 have fin:∀ {g:Heap} {tk:Nat},g.SetOf (mixKind X.prog X.w) s.heap.objs.size (fun x=>(dedK (ts.map keyV)).any (·==x)) (dedK (ts.map keyV)).length→(∀ b o,b<s.heap.objs.size→s.heap.get? b=some o→g.get? b=some o)→EP X pins σ Q (.ref s.heap.objs.size) { s with heap:=g,toks:=tk }:=fun {g tk} y k=>by
  have hn:H s.heap.objs.size=none:=I.hok.fresh (Nat.le_refl _)
  have kk:∀ b o,s.heap.get? b=some o→g.get? b=some o:=fun b o e=>k b o (Heap.lt_size e) e
  refine ⟨.ref s.heap.objs.size,_,I.laid (t':=tk) kk (Nat.le_refl _) ?_,rfl,q _ hn⟩
  have y':=y
  obtain ⟨o,es,ep,tb,ho,re⟩:=y'
  refine ⟨⟨_,y⟩,⟨o,ho⟩,fun h1 h2 z st=>?_⟩
  obtain ⟨S,o,es,ep,tb,ho,re⟩:=z
  exact ⟨S,o,es,ep,tb,st o ho,re⟩
 have hb:(ts.map keyV).length+1<scanBound:=by rw [List.length_map];show _<4096;omega
 cases t with
 | tup ts' =>
  cases hs
  obtain ⟨l,vs,rfl,h1,h2⟩:=r1
  cases rx
  obtain ⟨its,rv,pl,hz⟩:=I.tuple (same_tup fh h1)
  obtain ⟨e1,e2⟩:=reps_key hk h2 rv
  exact call_setT hd (show s.heap.IsTuple l its.toArray from pl) (by rw [List.size_toArray];exact e1) (fun i h v hv=>e2 i h v (by simpa using hv)) hb fun g tk y k=>fin y k
 | lst ts' =>
  cases hs
  obtain ⟨l,vs,rfl,h1,h2⟩:=r1
  cases rx
  obtain ⟨its,rv,pl,hz⟩:=I.list (Ls.same fh h1).sq
  obtain ⟨e1,e2⟩:=reps_key hk h2 rv
  exact call_setL hd pl.isList (by rw [List.size_toArray];exact e1) (fun i h v hv=>e2 i h v (by simpa using hv)) hb fun g tk y k=>fin y k
 | _=>cases hs
theorem call_lenE:CallR X (.builtin "len") (fun xs H Q=>∃ l n,xs=[.ref l]∧H l=some (SetE X.prog X.w l n)∧Q (.int (n:Int)) H):=by
 intro pins s σ H xs us Q I r h
 obtain ⟨l,n,rfl,hl,q⟩:=h
 obtain ⟨u,rfl,rx⟩:=vals1 r
 cases rx
 obtain ⟨⟨S,o,es,ep,t,ho,hex,hd,_,_,hb,hf,hn⟩,_⟩:=I.hok l _ hl
 refine call_len_set ho hex hd hf (by have:es.size<4096:=hb;omega) ⟨.int (n:Int),H,I.tok _,⟨_,by rw [hn]⟩,q⟩
theorem ok_lenSet {G:Glo} {k:Nat} (gd:Gd X c G k) {f:Env→Option T} (hg:glB c.sc "len"=true) (hg2:glB c.sc "set"=true) (ha:Oke X c a f) (hs:starEach [a] X.env=[(false,eval a X.env)]) :
  Oke X c (.Call (.Name "len" p) [.Call (.Name "set" p2) [a] [] q2] [] pos) (fun r=>(f r).bind fun x=>bltT .lenSet x):=by
 have inner:=pe_callTy (pos:=q2) (p:=p2) (call_setK (X:=X) gd.calm) (gd.gl _ hg2) (gd.nob _ (by decide +kernel)) (show bootBuiltins "set"=some (.type "set") by decide +kernel) (one_arg ha hs) (by decide) (by decide) hs rfl
 have outer:=pe_callB (pos:=pos) (p:=p) call_lenE (gd.gl _ hg) (gd.nob _ (by decide +kernel)) PySem.boot_len (pa_cons inner pa_nil) (by decide) (by decide) rfl rfl
 refine pe_mono outer fun σ H Q q=>?_
 obtain ⟨r,F,t,e,ht,q⟩:=q
 obtain ⟨t1,e1,ht⟩:=obs ht
 obtain ⟨ts,hsq,hk,hl,rfl⟩:∃ ts,seqOf t1=some ts∧ts.all keyT=true∧ts.length≤1000∧t=.int (ts.foldl dedT []).length:=by
  cases t1 with
  | tup ts=>simp only [bltT,lenSetT] at ht;split at ht;· rename_i hc;rw [Bool.and_eq_true,decide_eq_true_eq] at hc;cases ht;exact ⟨ts,rfl,hc.1,hc.2,rfl⟩
            ·cases ht
  | lst ts=>simp only [bltT,lenSetT] at ht;split at ht;· rename_i hc;rw [Bool.and_eq_true,decide_eq_true_eq] at hc;cases ht;exact ⟨ts,rfl,hc.1,hc.2,rfl⟩
            ·cases ht
  | _=>cases ht
 refine ⟨r,F,[t1],e,Option.bind_eq_some_iff.mpr ⟨t1,e1,rfl⟩,fun vs F' H' s1 r1=>?_⟩
 obtain ⟨v,w,rfl,h1,h2⟩:=r1
 cases h2
 refine ⟨F',t1,ts,v,rfl,s1.fh,h1,hsq,hk,hl,fun l hn=>⟨l,_,rfl,upd_same,?_⟩⟩
 have st:=(Step.refl s1.fh).new (o:=SetE X.prog X.w l (dedK (ts.map keyV)).length) hn
 refine q _ _ _ (s1.trans st) ?_
 show V.int _=V.int _
 rw [ded_keyV hk (by rfl)]
 rfl
end
section
variable {G:Glo} {k n:Nat} {X:Cx} {c:Tc}
theorem folded_ok {e:Expr} {ki:Ik × List E} {m:Nat} (h:trI m c e=some ki) (env:PySem.Env):∀ x,foldedSetIterable e env x=pure x:=by
 intro x
 cases e with
 | Set es k p =>
  exfalso
  cases m with
  | zero=>cases h
  | succ m =>
   have h:((trV m c (.Set es k p)).bind fun x=>some (Ik.plain,[x]))=some ki:=h
   cases m with
   | zero=>cases h
   | succ m=>cases h
 | _=>rfl
structure CompParts (G:Glo) (n:Nat) (c:Tc) (elt tg iter:Expr) (ifs:List Expr) (scope:Scope) (e':E) (xs:List Str) (fi:Env→Option (List T)) (fc:Env→Option Bool) (fe:Env→Option T):Prop where
 htg:tgNames tg=some xs
 cs:CsB c.sc scope xs
 h2:isTupE tg=true→2≤xs.length
 ev:evE G e'=compF xs fi fc fe
theorem comp_el {r:Env} {fe:Env→Option T} {m:Nat}:(fun x=>(bnd m x r).bind fun r'=>((some none:Option (Option T))).bind fun c=>match c with
    | none=>(fe r').map some
    | some (.bl true)=>(fe r').map some
    | some (.bl false)=>some none
    | some _=>none)=elM m r (fun _=>some true) fe:=by
 funext x
 unfold elM
 cases bnd m x r<;>rfl
theorem comp_el1 {r:Env} {fe f1:Env→Option T} {m:Nat}:(fun x=>(bnd m x r).bind fun r'=>((f1 r').map some).bind fun c=>match c with
    | none=>(fe r').map some
    | some (.bl true)=>(fe r').map some
    | some (.bl false)=>some none
    | some _=>none)=elM m r (fun r'=>(f1 r').bind fun t=>match t with | .bl b=>some b | _=>none) fe:=by
 funext x
 unfold elM
 cases bnd m x r with
 | none=>rfl
 | some r' =>
  simp only [Option.bind_some]
  cases f1 r' with
  | none=>rfl
  | some t=>cases t<;>first | rfl | (rename_i b;cases b<;>rfl)
theorem comp_inv {n:Nat} {c:Tc} {elt:Expr} {gens:List Comprehension} {scope:Scope} {pos:Pos} {e':E} (h:trV (n+1) c (.ListComp elt gens scope pos)=some e') :
  ∃ tg iter ifs,gens=[⟨tg,iter,ifs,0⟩]∧∃ xs ki,tgNames tg=some xs∧trI n c iter=some ki∧(compScope c.sc scope xs&&(!ki.1.pair||isTupE tg)&&(!isTupE tg||decide (2≤xs.length)))=true ∧
   (match ifs with
   | []=>(trV n ⟨scope,xs++c.nm⟩ elt).bind fun x=>some (.comp x xs.length ki.1 ki.2 none)
   | [t]=>(trV n ⟨scope,xs++c.nm⟩ elt).bind fun x=>(trT n ⟨scope,xs++c.nm⟩ t).bind fun y=>some (.comp x xs.length ki.1 ki.2 (some y))
   | _=>none)=some e':=by
 match gens,h with
 | [⟨tg,iter,ifs,.ofNat 0⟩],h =>
  obtain ⟨xs,h0,h⟩:=obs (show ((tgNames tg).bind fun xs=>(trI n c iter).bind fun ki=>if compScope c.sc scope xs&&(!ki.1.pair||isTupE tg)&&(!isTupE tg||decide (2≤xs.length)) then
   (match ifs with
   | []=>(trV n ⟨scope,xs++c.nm⟩ elt).bind fun x=>some (.comp x xs.length ki.1 ki.2 none)
   | [t]=>(trV n ⟨scope,xs++c.nm⟩ elt).bind fun x=>(trT n ⟨scope,xs++c.nm⟩ t).bind fun y=>some (.comp x xs.length ki.1 ki.2 (some y))
   | _=>none) else none)=some e' from h)
  obtain ⟨ki,h1,h⟩:=obs h
  split at h
  ·rename_i hc
   exact ⟨tg,iter,ifs,rfl,xs,ki,h0,h1,hc,h⟩
  ·cases h
 | [⟨tg,iter,ifs,.ofNat (a+1)⟩],h=>cases h
 | [⟨tg,iter,ifs,.negSucc a⟩],h=>cases h
 | [],h=>cases h
 | g1::g2::gs,h =>
  obtain ⟨t1,i1,f1,a1⟩:=g1
  rcases a1 with (_ | _) | _<;>cases h
theorem snd_comp (S:Snd G k n) (gd:Gd X c G k) {elt:Expr} {gens:List Comprehension} {scope:Scope} {pos:Pos} {e':E} (h:trV (n+1) c (.ListComp elt gens scope pos)=some e') :
  Oke X c (.ListComp elt gens scope pos) (evE G e')∧∀ {y:Str} {py spos:Pos} {i:Nat},At X y i→PS X (.Assign [.Name y py] (.ListComp elt gens scope pos) spos) (spAsg X c i (evE G e')):=by
 obtain ⟨tg,iter,ifs,rfl,xs,ki,h0,h1,hcs,hr⟩:=comp_inv h
 simp only [Bool.and_eq_true,Bool.or_eq_true,Bool.not_eq_true',decide_eq_true_eq] at hcs
 have CS:=csB_of hcs.1.1
 have h2n:isTupE tg=true→2≤xs.length:=fun z=>hcs.2.elim (fun q=>by rw [q] at z;cases z) id
 have hen:ki.1.pair=true→isTupE tg=true:=fun z=>hcs.1.2.elim (fun q=>by rw [q] at z;cases z) id
 have hit:=S.i (tg:=tg) gd h1 hen
 have hfs:=folded_ok h1 X.env
 match ifs,hr with
 | [],hr =>
  obtain ⟨x,h3,hr⟩:=obs hr
  cases hr
  have he:∀ pins fp s₃ H₃,Gd (blk X pins scope xs fp s₃ H₃) ⟨scope,xs++c.nm⟩ G k→Oke (blk X pins scope xs fp s₃ H₃) ⟨scope,xs++c.nm⟩ elt (evE G x):=fun pins fp s₃ H₃ g=>S.v g h3
  have hi:∀ pins fp s₃ H₃,Gd (blk X pins scope xs fp s₃ H₃) ⟨scope,xs++c.nm⟩ G k→∀ (pn:List (Addr × Obj)) (s:Shared) (σ:L2.St) (H:Hp) (Q:Bool→Hp→Prop),L2.Inv (blk X pins scope xs fp s₃ H₃) pn σ H s→spC (blk X pins scope xs fp s₃ H₃) ⟨scope,xs++c.nm⟩ (fun _=>some true) σ H Q →
   wpAny (model X.prog X.w) X.A (forIn ([]:List Expr) true fun c r=>if r=true then do let ok ← isTrue c (blk X pins scope xs fp s₃ H₃).env (eval c (blk X pins scope xs fp s₃ H₃).env);pure (ForInStep.yield ok) else pure (ForInStep.yield r)) (TP (blk X pins scope xs fp s₃ H₃) pn σ Q) (fun _ _=>False) s:=fun pins fp s₃ H₃ g pn s σ H Q I q=>by
   obtain ⟨r,F,b,e,hb,q⟩:=q
   cases hb
   exact wpAny_tests_nil ⟨H,I,q F H (Step.refl e.fh)⟩
  have e:evE G (.comp x xs.length ki.1 ki.2 none)=compF xs (fun r=>(evEs G ki.2 r).bind fun xs=>items ki.1 xs) (fun _=>some true) (evE G x):=by
   funext r
   rw [evE]
   unfold compF itemsC
   rw [← comp_el]
   dsimp only
   cases evEs G ki.2 r with
   | none=>rfl
   | some ys=>simp only [Option.bind_some,evO]
  rw [e]
  exact ⟨ok_comp gd CS h0 h2n he hi hit hfs,fun {y py spos i} hy=>ok_setComp gd CS h0 h2n he hi hit hfs hy⟩
 | [t],hr =>
  obtain ⟨x,h3,hr⟩:=obs hr
  obtain ⟨y1,h4,hr⟩:=obs hr
  cases hr
  have he:∀ pins fp s₃ H₃,Gd (blk X pins scope xs fp s₃ H₃) ⟨scope,xs++c.nm⟩ G k→Oke (blk X pins scope xs fp s₃ H₃) ⟨scope,xs++c.nm⟩ elt (evE G x):=fun pins fp s₃ H₃ g=>S.v g h3
  have hi:∀ pins fp s₃ H₃,Gd (blk X pins scope xs fp s₃ H₃) ⟨scope,xs++c.nm⟩ G k→∀ (pn:List (Addr × Obj)) (s:Shared) (σ:L2.St) (H:Hp) (Q:Bool→Hp→Prop),L2.Inv (blk X pins scope xs fp s₃ H₃) pn σ H s→spC (blk X pins scope xs fp s₃ H₃) ⟨scope,xs++c.nm⟩ (fun r'=>(evE G y1 r').bind fun t=>match t with | .bl b=>some b | _=>none) σ H Q →
   wpAny (model X.prog X.w) X.A (forIn [t] true fun c r=>if r=true then do let ok ← isTrue c (blk X pins scope xs fp s₃ H₃).env (eval c (blk X pins scope xs fp s₃ H₃).env);pure (ForInStep.yield ok) else pure (ForInStep.yield r)) (TP (blk X pins scope xs fp s₃ H₃) pn σ Q) (fun _ _=>False) s:=fun pins fp s₃ H₃ g pn s σ H Q I q=>by
   obtain ⟨r,F,b,e,hb,q⟩:=q
   obtain ⟨tt,ht,hb⟩:=obs hb
   cases tt with
   | bl b' =>
    cases hb
    exact wpAny_tests_one ((S.t g h4).1 pn s σ H Q I ⟨r,F,b,e,ht,q⟩)
   | _=>cases hb
  have e:evE G (.comp x xs.length ki.1 ki.2 (some y1))=compF xs (fun r=>(evEs G ki.2 r).bind fun xs=>items ki.1 xs) (fun r'=>(evE G y1 r').bind fun t=>match t with | .bl b=>some b | _=>none) (evE G x):=by
   funext r
   rw [evE]
   unfold compF itemsC
   rw [← comp_el1]
   dsimp only
   cases evEs G ki.2 r with
   | none=>rfl
   | some ys=>simp only [Option.bind_some,evO];try rfl
  rw [e]
  exact ⟨ok_comp gd CS h0 h2n he hi hit hfs,fun {y py spos i} hy=>ok_setComp gd CS h0 h2n he hi hit hfs hy⟩
 | _::_::_,hr=>cases hr
theorem snd_call (S:Snd G k n) (gd:Gd X c G k) {f:Str} {a:Expr} {es:List Expr} {p pos:Pos} {xs:List E} (hg:glB c.sc f=true) (hp:plainName f=true) (h:mapO (trV n c) (a::es)=some xs):Oke X c (.Call (.Name f p) (a::es) [] pos) (evE G (.call f xs)):=by
 have e:evE G (.call f xs)=fun r=>(evEs G xs r).bind fun ys=>G.call f ys:=by funext r;rw [evE]
 rw [e]
 obtain ⟨x,h1,h'⟩:=obs h
 obtain ⟨ys,h2,_⟩:=obs h'
 exact ok_call gd hg hp (S.l gd h) (star_ok h1 es X.env) (star_any pos X.env h2)
theorem kStr_inv {a:Option Expr} {k:Str} (h:kStr a=some k):∃ u q,a=some (.Constant (.str k) u q):=by
 cases a with
 | none=>cases h
 | some a =>
  cases a with
  | Constant c u q =>
   cases c with
   | str x=>cases (show some x=some k from h);exact ⟨_,_,rfl⟩
   | _=>cases h
  | _=>cases h
theorem vInt_inv {a:Expr} {v:Int} (h:vInt a=some v):∃ u q,a=.Constant (.int v) u q:=by
 cases a with
 | Constant c u q =>
  cases c with
  | int x=>cases (show some x=some v from h);exact ⟨_,_,rfl⟩
  | _=>cases h
 | _=>cases h
theorem dictC_inv {ks:List (Option Expr)} {vs:List Expr} {kvs:List (Str × Int)} (h:dictC ks vs=some kvs):∃ k1 k2 k3 v1 v2 v3 u1 u2 u3 u4 u5 u6 q1 q2 q3 q4 q5 q6,
  ks=[some (.Constant (.str k1) u1 q1),some (.Constant (.str k2) u2 q2),some (.Constant (.str k3) u3 q3)]∧vs=[.Constant (.int v1) u4 q4,.Constant (.int v2) u5 q5,.Constant (.int v3) u6 q6]∧kvs=[(k1,v1),(k2,v2),(k3,v3)]∧(k1==k2)=false∧(k1==k3)=false∧(k2==k3)=false:=by
 match ks,vs,h with
 | [a,b,d],[x,y,z],h =>
  obtain ⟨k1,a1,g1⟩:=obs h
  obtain ⟨k2,a2,g2⟩:=obs g1
  obtain ⟨k3,a3,g3⟩:=obs g2
  obtain ⟨v1,b1,g4⟩:=obs g3
  obtain ⟨v2,b2,g5⟩:=obs g4
  obtain ⟨v3,b3,g6⟩:=obs g5
  obtain ⟨u1,q1,rfl⟩:=kStr_inv a1
  obtain ⟨u2,q2,rfl⟩:=kStr_inv a2
  obtain ⟨u3,q3,rfl⟩:=kStr_inv a3
  obtain ⟨u4,q4,rfl⟩:=vInt_inv b1
  obtain ⟨u5,q5,rfl⟩:=vInt_inv b2
  obtain ⟨u6,q6,rfl⟩:=vInt_inv b3
  by_cases hn:(k1==k2||k1==k3||k2==k3)=true
  ·rw [if_pos hn] at g6;cases g6
  ·rw [if_neg hn] at g6
   cases g6
   simp only [Bool.or_eq_true,not_or,Bool.not_eq_true] at hn
   exact ⟨_,_,_,_,_,_,_,_,_,_,_,_,_,_,_,_,_,_,rfl,rfl,rfl,hn.1.1,hn.1.2,hn.2⟩
 | [],_,h=>cases h
 | [_],_,h=>cases h
 | [_,_],_,h=>cases h
 | _::_::_::_::_,_,h=>cases h
 | [_,_,_],[],h=>cases h
 | [_,_,_],[_],h=>cases h
 | [_,_,_],[_,_],h=>cases h
 | [_,_,_],_::_::_::_::_,h=>cases h
theorem dgC_inv {o b:Expr} {p:List (Str × Int) × Int} (h:dgC o b=some p):∃ ks vs dp d u7 q7,o=.Dict ks vs dp∧b=.Constant (.int d) u7 q7∧((dictC ks vs).map fun kvs=>(kvs,d))=some p:=by
 unfold dgC at h
 split at h
 ·exact ⟨_,_,_,_,_,_,rfl,rfl,h⟩
 ·cases h
theorem revE_inv {st:Expr} (h:revE st=true):∃ kk q p,st=.UnaryOp .USub (.Constant (.int 1) kk q) p:=by
 unfold revE at h
 split at h
 ·have:=of_decide_eq_true h
  subst this
  exact ⟨_,_,_,rfl⟩
 ·cases h
theorem setArg_inv {k:Bn} {a b:Expr} (h:setArg k a=some b):k=.len∧∃ p q,a=.Call (.Name "set" p) [b] [] q:=by
 cases k with
 | len =>
  refine ⟨rfl,?_⟩
  cases a with
  | Call f es ks q =>
   cases f with
   | Name g p =>
    match es,ks,h with
    | [b'],[],h =>
     replace h:(if g==("set":Str) then some b' else none)=some b:=h
     split at h
     ·rename_i hg
      cases h
      exact ⟨_,_,by rw [eq_of_beq hg]⟩
     ·cases h
    | [],_,h=>cases h
    | [_],_::_,h=>cases h
    | _::_::_,_,h=>cases h
   | _=>cases h
  | _=>cases h
 | _=>cases h
theorem bn_len {f:Str} (h:bnOf f=some .len):f="len":=by
 unfold bnOf at h
 split at h
 ·rename_i e;exact eq_of_beq e
 ·repeat (first | (split at h;· cases h) | cases h)
theorem snd_v (S:Snd G k n) {e:Expr} {e':E} (gd:Gd X c G k) (h:trV (n+1) c e=some e'):Oke X c e (evE G e'):=by
 have cst:∀ {t:T} {v:V} {a:Expr},PE X a (tC v)→(∀ F,Rep X.K F t v)→Oke X c a (evE G (.cst t)):=fun {t v a} h1 h2=>by
  have e:evE G (.cst t)=fun _=>some t:=by funext r;rw [evE]
  rw [e];exact ok_cst h1 h2
 cases e with
 | Constant cs q pos =>
  cases cs with
  | none=>cases (show some (E.cst .non)=some e' from h);exact cst pe_non fun _=>rfl
  | bool b=>cases (show some (E.cst (.bl b))=some e' from h);exact cst pe_bl fun _=>rfl
  | int i=>cases (show some (E.cst (.int i))=some e' from h);exact cst pe_int fun _=>rfl
  | str x=>cases (show some (E.cst (.str x))=some e' from h);exact cst pe_str fun _=>rfl
  | _=>(cases h;done)
 | Name x pos =>
  replace h:(if plainName x then (if visB c.sc x then (nameIx c.nm x).map E.var else if glB c.sc x&&!bnames.contains x then some (.glb x) else none) else none)=some e':=h
  split at h
  ·rename_i hp
   split at h
   ·rename_i hv
    obtain ⟨i,hi,rfl⟩:=oms h
    have e:evE G (.var i)=fun r=>(r[i]?).join:=by funext r;rw [evE]
    rw [e];exact ok_var gd hp hv hi
   ·split at h
    ·rename_i hg
     cases h
     rw [Bool.and_eq_true] at hg
     have e:evE G (.glb x)=fun _=>G.con x:=by funext r;rw [evE]
     rw [e];exact ok_glb gd hp hg.1
    ·cases h
  ·cases h
 | BinOp a op b pos =>
  obtain ⟨o,h0,h⟩:=obs h
  obtain ⟨x,h1,h⟩:=obs h
  obtain ⟨y,h2,h⟩:=obs h
  cases h
  have e:evE G (.bin o x y)=fun r=>(evE G x r).bind fun s=>(evE G y r).bind fun t=>binT o s t:=by funext r;rw [evE]
  rw [e];exact ok_op (ops_bo h0) (S.v gd h1) (S.v gd h2)
 | UnaryOp op a pos =>
  cases op with
  | Not =>
   obtain ⟨x,h1,h⟩:=obs h
   cases h
   have e:evE G (.lnot x)=fun r=>(evE G x r).bind fun t=>match t with | .bl b=>some (.bl (!b)) | _=>none:=by funext r;rw [evE];try rfl
   rw [e];exact ok_not (S.v gd h1)
  | USub =>
   obtain ⟨x,h1,h⟩:=obs h
   cases h
   have e:evE G (.neg x)=fun r=>(evE G x r).bind fun t=>match t with | .int b=>some (.int (-b)) | _=>none:=by funext r;rw [evE];try rfl
   rw [e];exact ok_neg (S.v gd h1)
  | _=>(cases h;done)
 | BoolOp op vs pos =>
  cases vs with
  | nil=>cases op<;>(cases h;done)
  | cons a r =>
   cases r with
   | nil=>exact pe_one (S.v gd h)
   | cons b r =>
    cases op with
    | And =>
     obtain ⟨x,h1,h⟩:=obs h
     obtain ⟨y,h2,h⟩:=obs h
     cases h
     have e:evE G (.land x y)=fun r=>(evE G x r).bind fun t=>match t with | .bl true=>evE G y r | .bl false=>some (.bl false) | _=>none:=by funext r;rw [evE];try rfl
     rw [e];exact ok_and (S.v gd h1) (S.v gd h2)
    | Or =>
     obtain ⟨x,h1,h⟩:=obs h
     obtain ⟨y,h2,h⟩:=obs h
     cases h
     have e:evE G (.lor x y)=fun r=>(evE G x r).bind fun t=>match t with | .bl true=>some (.bl true) | .bl false=>evE G y r | _=>none:=by funext r;rw [evE];try rfl
     rw [e];exact ok_or (S.v gd h1) (S.v gd h2)
 | Compare a ops bs pos =>
  match ops,bs,h with
  | [op],[b],h =>
   obtain ⟨o,h0,h⟩:=obs h
   obtain ⟨x,h1,h⟩:=obs h
   obtain ⟨y,h2,h⟩:=obs h
   cases h
   obtain ⟨q1,q2⟩:=ops_co (X:=X) gd.hu h0
   have e:evE G (.cmp o x y)=fun r=>(evE G x r).bind fun s=>(evE G y r).bind fun t=>cmpT o s t:=by funext r;rw [evE]
   rw [e];exact ok_cmp q1 (S.v gd h1) (S.v gd h2) q2
  | [op,op'],[b,d],h =>
   obtain ⟨o,h0,h⟩:=obs h
   obtain ⟨o',h0',h⟩:=obs h
   obtain ⟨x,h1,h⟩:=obs h
   obtain ⟨y,h2,h⟩:=obs h
   obtain ⟨z,h3,h⟩:=obs h
   cases h
   have hm:lastMarks [op,op'] [b,d]=false:=by
    show behindInMarks op' d=false
    cases op'<;>first | exact nomark _ | cases h0'
   have e:evE G (.chn o o' x y z)=fun r=>(evE G x r).bind fun s=>(evE G y r).bind fun t=>(cmpT o s t).bind fun k=>match k with | .bl true=>(evE G z r).bind fun u=>cmpT o' t u | .bl false=>some (.bl false) | _=>none:=by funext r;rw [evE];try rfl
   rw [e];exact ok_chn (ops_cc gd.hu h0) (ops_cc gd.hu h0') (S.v gd h1) (S.v gd h2) (S.v gd h3) hm
  | [],_,h=>(cases h;done)
  | [_],[],h=>(cases h;done)
  | [_],_::_::_,h=>(cases h;done)
  | [_,_],[],h=>(cases h;done)
  | [_,_],[_],h=>(cases h;done)
  | [_,_],_::_::_::_,h=>(cases h;done)
  | _::_::_::_,_,h=>(cases h;done)
 | IfExp t a b pos =>
  obtain ⟨z,h0,h⟩:=obs h
  obtain ⟨x,h1,h⟩:=obs h
  obtain ⟨y,h2,h⟩:=obs h
  cases h
  have e:evE G (.ifx z x y)=fun r=>(evE G z r).bind fun t=>match t with | .bl true=>evE G x r | .bl false=>evE G y r | _=>none:=by funext r;rw [evE];try rfl
  rw [e];exact ok_ifx (S.t gd h0).1 (S.v gd h1) (S.v gd h2)
 | Tuple es q pos =>
  obtain ⟨xs,h1,h⟩:=obs h
  cases h
  have e:evE G (.tup xs)=fun r=>if xs.length≤1000 then (evEs G xs r).map .tup else none:=by funext r;rw [evE]
  rw [e];exact ok_tup (S.l gd h1) fun r ts q=>evEs_len q
 | List es pos =>
  obtain ⟨xs,h1,h⟩:=obs h
  cases h
  have e:evE G (.lst xs)=fun r=>if xs.length≤1000 then (evEs G xs r).map .lst else none:=by funext r;rw [evE]
  rw [e];exact ok_lst (S.l gd h1) fun r ts q=>evEs_len q
 | Subscript a b pos =>
  have idx:sliceE b=false→((trV n c a).bind fun x=>(trV n c b).bind fun y=>some (E.idx x y))=some e'→Oke X c (.Subscript a b pos) (evE G e'):=fun hs h=>by
   obtain ⟨x,h1,h⟩:=obs h
   obtain ⟨y,h2,h⟩:=obs h
   cases h
   have e:evE G (.idx x y)=fun r=>(evE G x r).bind fun s=>(evE G y r).bind fun t=>idxT s t:=by funext r;rw [evE]
   rw [e];exact ok_idx (S.v gd h1) (S.v gd h2) (plain_ix hs)
  cases b with
  | Slice lo hi st p2 =>
   cases st with
   | some st =>
    replace h:(if lo.isNone&&hi.isNone&&revE st then (trV n c a).bind fun x=>some (E.rev x) else none)=some e':=h
    split at h
    ·rename_i hz
     rw [Bool.and_eq_true,Bool.and_eq_true] at hz
     obtain ⟨kk,q3,p3,rfl⟩:=revE_inv hz.2
     cases lo with
     | some _=>cases hz.1.1
     | none =>
      cases hi with
      | some _=>cases hz.1.2
      | none =>
       obtain ⟨x,h1,h⟩:=obs h
       cases h
       have e:evE G (.rev x)=fun r=>(evE G x r).bind revT:=by funext r;rw [evE]
       rw [e]
       exact ok_rev (S.v gd h1) (ok_neg (ok_cst (t:=.int 1) pe_int fun _=>rfl)) fun r=>rfl
    ·cases h
   | none =>
    obtain ⟨x,h1,h⟩:=obs h
    obtain ⟨l,h2,h⟩:=obs h
    obtain ⟨u,h3,h⟩:=obs h
    cases h
    have e:evE G (.sli x l u)=fun r=>(evE G x r).bind fun s=>(evO G l r).bind fun l1=>(evO G u r).bind fun u1=>(asI l1).bind fun l2=>(asI u1).bind fun u2=>sliT s l2 u2:=by funext r;rw [evE]
    rw [e];exact ok_sli (S.v gd h1) (S.o gd h2) (S.o gd h3)
  | Tuple _ _ _=>cases h
  | Starred _ _=>cases h
  | _=>exact idx rfl h
 | Call f args kws pos =>
  cases f with
  | Name f p =>
   match args,kws,h with
   | [],kws,h=>(cases h;done)
   | [a],[],h =>
    replace h:(if glB c.sc f&&plainName f then (match bnOf f with
  | some k=>(match setArg k a with
   | some b=>if glB c.sc ("set":Str) then (trV n c b).bind fun x=>some (.blt .lenSet x) else none
   | none=>(trV n c a).bind fun x=>some (.blt k x))
  | none=>if bnames.contains f then none else (trV n c a).bind fun x=>some (.call f [x])) else none)=some e':=h
    split at h
    ·rename_i hg
     rw [Bool.and_eq_true] at hg
     split at h
     ·rename_i kb hk
      split at h
      ·rename_i b hb
       split at h
       ·rename_i hg2
        obtain ⟨x,h1,h⟩:=obs h
        cases h
        obtain ⟨rfl,p3,q3,rfl⟩:=setArg_inv hb
        have hf:=bn_len hk
        subst hf
        have e:evE G (.blt .lenSet x)=fun r=>(evE G x r).bind fun t=>bltT .lenSet t:=by funext r;rw [evE]
        rw [e];exact ok_lenSet gd hg.1 hg2 (S.v gd h1) (star_one h1 X.env)
       ·cases h
      ·obtain ⟨x,h1,h⟩:=obs h
       cases h
       have e:evE G (.blt kb x)=fun r=>(evE G x r).bind fun t=>bltT kb t:=by funext r;rw [evE]
       rw [e];exact ok_bn gd hk hg.1 (S.v gd h1) (star_one h1 X.env)
     ·split at h
      ·cases h
      ·obtain ⟨x,h1,h⟩:=obs h
       cases h
       exact snd_call S gd hg.1 hg.2 (by show (trV n c a).bind _=_;rw [h1];rfl)
    ·cases h
   | [a,b],[],h =>
    replace h:(if f==("isinstance":Str) then
   (match b with
   | .Name ty _=>if glB c.sc f&&glB c.sc ty then (tyOf ty).bind fun k=>(trV n c a).bind fun x=>some (.isi x k) else none
   | _=>none)
  else if glB c.sc f&&plainName f&&!bnames.contains f then (mapO (trV n c) [a,b]).bind fun xs=>some (.call f xs) else none)=some e':=h
    split at h
    ·rename_i hf
     have hf:=eq_of_beq hf
     subst hf
     cases b with
     | Name ty p2 =>
      simp only at h
      split at h
      ·rename_i hg
       rw [Bool.and_eq_true] at hg
       obtain ⟨kt,hk,h⟩:=obs h
       obtain ⟨x,h1,h⟩:=obs h
       cases h
       have e:evE G (.isi x kt)=fun r=>(evE G x r).bind fun t=>some (.bl (isiT t kt)):=by funext r;rw [evE]
       rw [e];exact ok_isi gd hk hg.1 hg.2 (S.v gd h1) (star_ok h1 _ X.env)
      ·cases h
     | _=>cases h
    ·split at h
     ·rename_i hg
      simp only [Bool.and_eq_true] at hg
      obtain ⟨xs,h1,h⟩:=obs h
      cases h
      exact snd_call S gd hg.1.1 hg.1.2 h1
     ·cases h
   | a::b::d::es,[],h =>
    replace h:(if glB c.sc f&&plainName f&&!bnames.contains f then (mapO (trV n c) (a::b::d::es)).bind fun xs=>some (.call f xs) else none)=some e':=h
    split at h
    ·rename_i hg
     simp only [Bool.and_eq_true] at hg
     obtain ⟨xs,h1,h⟩:=obs h
     cases h
     exact snd_call S gd hg.1.1 hg.1.2 h1
    ·cases h
   | _::bs,_::_,h=>rcases bs with _ | ⟨_,_ | ⟨_,_⟩⟩<;>cases h
  | Attribute o m apos =>
   match args,kws,h with
   | [a],[],h =>
    replace h:(if apos.endLine==pos.line then (mtOf m).bind fun k=>(trV n c o).bind fun x=>(trV n c a).bind fun y=>some (.mth k x y) else none)=some e':=h
    split at h
    ·rename_i hl
     obtain ⟨km,hm,h⟩:=obs h
     obtain ⟨x,h1,h⟩:=obs h
     obtain ⟨y,h2,h⟩:=obs h
     cases h
     unfold mtOf at hm
     split at hm
     ·rename_i hj
      have hj:=eq_of_beq hj
      subst hj
      cases hm
      have e:evE G (.mth .join x y)=fun r=>(evE G x r).bind fun s=>(evE G y r).bind fun t=>mthT .join s t:=by funext r;rw [evE]
      rw [e];exact ok_join (S.v gd h1) (S.v gd h2) (base_ok h1 _ _ _) (star_one h2 X.env) hl
     ·split at hm
      ·rename_i hj
       have hj:=eq_of_beq hj
       subst hj
       cases hm
       have e:evE G (.mth .index x y)=fun r=>(evE G x r).bind fun s=>(evE G y r).bind fun t=>mthT .index s t:=by funext r;rw [evE]
       rw [e];exact ok_index (S.v gd h1) (S.v gd h2) (base_ok h1 _ _ _) (star_one h2 X.env) hl
      ·cases hm
    ·cases h
   | [],_,h=>(cases h;done)
   | [_],_::_,h=>(cases h;done)
   | [a,b],[],h =>
    replace h:(if apos.endLine==pos.line&&m==("get":Str) then (dgC o b).bind fun p=>(trV n c a).bind fun x=>some (E.dget p.1 x p.2) else none)=some e':=h
    split at h
    ·rename_i hl
     rw [Bool.and_eq_true] at hl
     obtain ⟨p,h1,hh⟩:=obs h
     obtain ⟨x,h2,hh⟩:=obs hh
     cases hh
     have hm:=eq_of_beq hl.2
     subst hm
     obtain ⟨ks,vs,dp,d,u7,q7,rfl,rfl,h3⟩:=dgC_inv h1
     obtain ⟨kvs,h4,rfl⟩:=oms h3
     obtain ⟨k1,k2,k3,v1,v2,v3,u1,u2,u3,u4,u5,u6,q1,q2,q3,q4,q5,q6,rfl,rfl,rfl,n1,n2,n3⟩:=dictC_inv h4
     have e:evE G (.dget [(k1,v1),(k2,v2),(k3,v3)] x d)=fun r=>(evE G x r).bind (dgetT [(k1,v1),(k2,v2),(k3,v3)] d):=by funext r;rw [evE]
     show Oke X c _ (evE G (.dget [(k1,v1),(k2,v2),(k3,v3)] x d))
     rw [e]
     exact ok_dget (S.v gd h2) (fun es=>star_ok h2 es X.env) hl.1 n1 n2 n3
    ·cases h
   | [_,_],_::_,h=>cases h
   | _::_::_::_,_,h=>cases h
  | _=>(cases h;done)
 | ListComp elt gens scope pos=>exact (snd_comp S gd h).1
 | _=>(cases h;done)
end
theorem snd_all (G:Glo) (k:Nat):∀ n,Snd G k n
 | 0=>⟨fun _ h=>(by cases h),fun _ h=>(by cases h),fun _ h=>(by cases h),fun _ h=>(by cases h)⟩
 | n+1 =>
  have S:=snd_all G k n
  ⟨fun gd h=>snd_v S gd h,fun gd h=>snd_t S gd h,fun gd h ht=>snd_i S gd h ht,fun gd h=>snd_f S gd h⟩
structure EnvS (X:Cx) (F0 H0:Hp) (τ:List Sl) (σ:L2.St) (F H:Hp):Prop where
 st:Step F0 H0 F H
 t0:Tbk X.K F0 H0
 len:τ.length=σ.length
 val:∀ (i:Nat) (t:T),τ[i]?=some (.val t)→∃ v,σ[i]?=some (some v)∧Rep X.K F t v
 own:∀ (i:Nat) (ts:List T),τ[i]?=some (.own ts)→∃ a vs,σ[i]?=some (some (.ref a))∧H a=some (.lst vs)∧F a=none∧H0 a=none∧Reps X.K F ts vs
 dis:∀ (i j:Nat) (ts us:List T) (a:Addr),i≠j→τ[i]?=some (.own ts)→τ[j]?=some (.own us)→σ[i]?=some (some (.ref a))→σ[j]?≠some (some (.ref a))
section
variable {X:Cx} {c:Tc} {F0 H0:Hp} {τ:List Sl} {σ:L2.St} {F H F' H':Hp}
theorem EnvS.env (e:EnvS X F0 H0 τ σ F H) (hN:X.N=c.nm):EnvE X c (view τ) F σ H :=
 ⟨e.st.fh,e.t0.up e.st,fun x i t _ hi _ hr=>by
  unfold view at hr
  rw [List.getElem?_map] at hr
  obtain ⟨s,hs,hg⟩:=oms hr
  cases s with
  | val u =>
   cases hg
   obtain ⟨v,h1,h2⟩:=e.val i t hs
   exact ⟨i,v,by rw [hN];exact nameIx_get hi,h1,h2⟩
  | _=>cases hg⟩
theorem EnvS.step (e:EnvS X F0 H0 τ σ F H) (s:Step F H F' H'):EnvS X F0 H0 τ σ F' H':=by
 refine ⟨e.st.trans s,e.t0,e.len,fun i t h=>let ⟨v,h1,h2⟩:=e.val i t h;⟨v,h1,h2.mono s.ff⟩,fun i ts h=>?_,e.dis⟩
 obtain ⟨a,vs,h1,h2,h3,h4,h5⟩:=e.own i ts h
 refine ⟨a,vs,h1,s.hh.st a _ h2 rfl,?_,h4,h5.mono s.ff⟩
 cases q:F' a with
 | none=>rfl
 | some o =>
  rcases s.nw a (by rw [q];simp) with z | z
  ·exact absurd h3 z
  ·rw [h2] at z;cases z
theorem get_mod (τ:List Sl) (i j:Nat):(τ.modify i Sl.frz)[j]?=if i=j then (τ[j]?).map Sl.frz else τ[j]?:=by
 rw [List.getElem?_modify]
 by_cases h:i=j
 ·simp only [h,if_true]
  cases τ[j]?<;>rfl
 ·simp only [h,if_false]
  cases τ[j]?<;>rfl
theorem EnvS.frz1 (e:EnvS X F0 H0 τ σ F H) (i:Nat):∃ F',EnvS X F0 H0 (τ.modify i Sl.frz) σ F' H∧Same F F':=by
 by_cases ho:∃ ts,τ[i]?=some (.own ts)
 ·obtain ⟨ts,ho⟩:=ho
  obtain ⟨a,vs,h1,h2,h3,h4,h5⟩:=e.own i ts ho
  have hs:Same F (upd F a (.lst vs)):=same_new h3
  have get:∀ (j:Nat) (s:Sl),(τ.modify i Sl.frz)[j]?=some s→(j=i∧s=.val (.lst ts))∨(j≠i∧τ[j]?=some s):=fun j s h=>by
   rw [get_mod] at h
   by_cases hj:i=j
   ·subst hj
    rw [if_pos rfl,ho] at h
    cases h
    exact .inl ⟨rfl,rfl⟩
   ·rw [if_neg hj] at h
    exact .inr ⟨Ne.symm hj,h⟩
  refine ⟨upd F a (.lst vs),⟨⟨e.st.hh,e.st.ff.trans hs,fun b o q=>?_,fun b z=>?_⟩,e.t0,by rw [List.length_modify];exact e.len,fun j t h=>?_,fun j us h=>?_,fun j l us ws b hjl hj hl=>?_⟩,hs⟩
  ·by_cases hb:b=a
   ·subst hb;rw [upd_same] at q;cases q;exact h2
   ·rw [upd_ne hb] at q;exact e.st.fh b o q
  ·by_cases hb:b=a
   ·subst hb;exact .inr h4
   ·rw [upd_ne hb] at z;exact e.st.nw b z
  ·rcases get j _ h with ⟨rfl,q⟩ | ⟨_,q⟩
   ·cases q
    exact ⟨.ref a,h1,a,vs,rfl,Ls.of upd_same,h5.mono hs⟩
   ·obtain ⟨v,q1,q2⟩:=e.val j t q
    exact ⟨v,q1,q2.mono hs⟩
  ·rcases get j _ h with ⟨rfl,q⟩ | ⟨hj,q⟩
   ·cases q
   ·obtain ⟨b,ws,q1,q2,q3,q4,q5⟩:=e.own j us q
    have hne:b≠a:=fun z=>by subst z;exact e.dis i j ts us b (Ne.symm hj) ho q h1 q1
    exact ⟨b,ws,q1,q2,by rw [upd_ne hne];exact q3,q4,q5.mono hs⟩
  ·rcases get j _ hj with ⟨_,q⟩ | ⟨_,q⟩
   ·cases q
   ·rcases get l _ hl with ⟨_,q'⟩ | ⟨_,q'⟩
    ·cases q'
    ·exact e.dis j l us ws b hjl q q'
 ·refine ⟨F,?_,Same.refl F⟩
  have:τ.modify i Sl.frz=τ:=by
   apply List.ext_getElem?
   intro j
   rw [get_mod]
   by_cases hj:i=j
   ·subst hj
    rw [if_pos rfl]
    cases q:τ[i]? with
    | none=>rfl
    | some s =>
     cases s with
     | own ts=>exact absurd ⟨ts,q⟩ ho
     | _=>rfl
   ·rw [if_neg hj]
  rw [this]
  exact e
theorem EnvS.frz:∀ (is:List Nat) {τ:List Sl} {F:Hp},EnvS X F0 H0 τ σ F H→∃ F',EnvS X F0 H0 (frzAt is τ) σ F' H∧Same F F'
 | [],_,F,e=>⟨F,e,Same.refl F⟩
 | i::is,τ,F,e=>by
  obtain ⟨F1,e1,s1⟩:=e.frz1 i
  obtain ⟨F2,e2,s2⟩:=EnvS.frz is e1
  exact ⟨F2,e2,s1.trans s2⟩
theorem get_set {α:Type} {l:List α} {i j:Nat} {x y:α} (h:(l.set i x)[j]?=some y):(j=i∧y=x)∨(j≠i∧l[j]?=some y):=by
 rw [List.getElem?_set] at h
 split at h
 ·rename_i hj
  split at h
  ·cases h;exact .inl ⟨hj.symm,rfl⟩
  ·cases h
 ·rename_i hj
  exact .inr ⟨Ne.symm hj,h⟩
theorem EnvS.setV1 (e:EnvS X F0 H0 τ σ F H) (i:Nat) {t:T} {v:V} (r:Rep X.K F t v):EnvS X F0 H0 (τ.set i (.val t)) (σ.set i (some v)) F H:=by
 refine ⟨e.st,e.t0,by rw [List.length_set,List.length_set];exact e.len,fun j u h=>?_,fun j us h=>?_,fun j l us ws b hjl hj hl=>?_⟩
 ·rcases get_set h with ⟨rfl,q⟩ | ⟨hj,q⟩
  ·cases q
   refine ⟨v,?_,r⟩
   have hlt:j<(τ.set j (.val t)).length:=(List.getElem?_eq_some_iff.mp h).1
   rw [List.length_set,e.len] at hlt
   rw [List.getElem?_set_self hlt]
  ·obtain ⟨w,q1,q2⟩:=e.val j u q
   exact ⟨w,by rw [List.getElem?_set_ne (Ne.symm hj)];exact q1,q2⟩
 ·rcases get_set h with ⟨rfl,q⟩ | ⟨hj,q⟩
  ·cases q
  ·obtain ⟨a,vs,q1,q2⟩:=e.own j us q
   exact ⟨a,vs,by rw [List.getElem?_set_ne (Ne.symm hj)];exact q1,q2⟩
 ·rcases get_set hj with ⟨_,q⟩ | ⟨hji,q⟩
  ·cases q
  ·rcases get_set hl with ⟨_,q'⟩ | ⟨hli,q'⟩
   ·cases q'
   ·rw [List.getElem?_set_ne (Ne.symm hji),List.getElem?_set_ne (Ne.symm hli)]
    exact e.dis j l us ws b hjl q q'
theorem EnvS.setO (e:EnvS X F0 H0 τ σ F H) (i:Nat) {ts:List T} {p:Addr} {vs:List V} (hp:H p=none) (r:Reps X.K F ts vs):EnvS X F0 H0 (τ.set i (.own ts)) (σ.set i (some (.ref p))) F (upd H p (.lst vs)):=by
 have hs:Same H (upd H p (.lst vs)):=same_new hp
 have nop:∀ {j:Nat} {us:List T} {a:Addr},τ[j]?=some (.own us)→σ[j]?=some (some (.ref a))→a≠p:=fun {j us a} q q1=>by
  obtain ⟨a',ws,g1,g2,_⟩:=e.own j us q
  rw [q1] at g1;cases g1
  exact ne_of_none g2 hp
 refine ⟨e.st.newH hp,e.t0,by rw [List.length_set,List.length_set];exact e.len,fun j u h=>?_,fun j us h=>?_,fun j l us ws b hjl hj hl=>?_⟩
 ·rcases get_set h with ⟨_,q⟩ | ⟨hj,q⟩
  ·cases q
  ·obtain ⟨w,q1,q2⟩:=e.val j u q
   exact ⟨w,by rw [List.getElem?_set_ne (Ne.symm hj)];exact q1,q2⟩
 ·rcases get_set h with ⟨rfl,q⟩ | ⟨hj,q⟩
  ·cases q
   have hlt:j<(τ.set j (.own ts)).length:=(List.getElem?_eq_some_iff.mp h).1
   rw [List.length_set,e.len] at hlt
   exact ⟨p,vs,by rw [List.getElem?_set_self hlt],upd_same,e.st.fh.free hp,e.st.hh.free hp,r⟩
  ·obtain ⟨a,ws,q1,q2,q3⟩:=e.own j us q
   exact ⟨a,ws,by rw [List.getElem?_set_ne (Ne.symm hj)];exact q1,hs a _ q2,q3⟩
 ·intro hb hb'
  rcases get_set hj with ⟨rfl,q⟩ | ⟨hji,q⟩
  ·rcases get_set hl with ⟨rfl,q'⟩ | ⟨hli,q'⟩
   ·exact hjl rfl
   ·rw [List.getElem?_set_ne (Ne.symm hli)] at hb'
    have hlt:j<σ.length:=by have:=(List.getElem?_eq_some_iff.mp hj).1;rw [List.length_set,e.len] at this;exact this
    rw [List.getElem?_set_self hlt] at hb
    cases hb
    exact nop q' hb' rfl
  ·rw [List.getElem?_set_ne (Ne.symm hji)] at hb
   rcases get_set hl with ⟨rfl,q'⟩ | ⟨hli,q'⟩
   ·have hlt:l<σ.length:=by have:=(List.getElem?_eq_some_iff.mp hl).1;rw [List.length_set,e.len] at this;exact this
    rw [List.getElem?_set_self hlt] at hb'
    cases hb'
    exact nop q hb rfl
   ·rw [List.getElem?_set_ne (Ne.symm hli)] at hb'
    exact e.dis j l us ws b hjl q q' hb hb'
theorem EnvS.grow (e:EnvS X F0 H0 τ σ F H) {i:Nat} {ts us:List T} {a:Addr} {vs:List V} (ho:τ[i]?=some (.own ts)) (ha:σ[i]?=some (some (.ref a))) (h3:F a=none) (h4:H0 a=none) (r:Reps X.K F us vs):EnvS X F0 H0 (τ.set i (.own us)) σ F (upd H a (.lst vs)):=by
 refine ⟨⟨(by obtain ⟨a2,vs2,g1,g2,_⟩:=e.own i ts ho;rw [ha] at g1;cases g1;exact e.st.hh.upd h4 g2),e.st.ff,fun b o q=>by rw [upd_ne (ne_of_none q h3)];exact e.st.fh b o q,e.st.nw⟩,e.t0,by rw [List.length_set];exact e.len,fun j u h=>?_,fun j ws h=>?_,fun j l ws zs b hjl hj hl=>?_⟩
 ·rcases get_set h with ⟨_,q⟩ | ⟨hj,q⟩
  ·cases q
  ·exact e.val j u q
 ·rcases get_set h with ⟨rfl,q⟩ | ⟨hj,q⟩
  ·cases q
   exact ⟨a,vs,ha,upd_same,h3,h4,r⟩
  ·obtain ⟨b,zs,q1,q2,q3,q4,q5⟩:=e.own j ws q
   have hne:b≠a:=fun z=>by subst z;exact e.dis i j ts ws b (Ne.symm hj) ho q ha q1
   exact ⟨b,zs,q1,by rw [upd_ne hne];exact q2,q3,q4,q5⟩
 ·rcases get_set hj with ⟨rfl,q⟩ | ⟨hji,q⟩
  ·rcases get_set hl with ⟨rfl,q'⟩ | ⟨hli,q'⟩
   ·exact absurd rfl hjl
   ·exact e.dis j l ts zs b hjl ho q'
  ·rcases get_set hl with ⟨rfl,q'⟩ | ⟨hli,q'⟩
   ·exact e.dis j l ws ts b hjl q ho
   ·exact e.dis j l ws zs b hjl q q'
theorem EnvS.setAll (hN:X.N=c.nm):∀ {is:List Nat} {us:List T} {vs:List V} {τ τ':List Sl} {σ:L2.St},EnvS X F0 H0 τ σ F H→Reps X.K F us vs→setAll is us τ=some τ'→EnvS X F0 H0 τ' (setV is vs σ) F H∧vs.length=is.length
 | [],[],_,τ,τ',σ,e,r,h=>by cases r;cases h;exact ⟨e,rfl⟩
 | [],_::_,_,_,_,_,_,_,h=>by cases h
 | _::_,[],_,_,_,_,_,_,h=>by cases h
 | i::is,u::us,vs,τ,τ',σ,e,r,h=>by
  obtain ⟨v,ws,rfl,r1,r2⟩:=r
  obtain ⟨q1,q2⟩:=EnvS.setAll hN (is:=is) (e.setV1 i r1) r2 h
  exact ⟨q1,by simp [q2]⟩
end
def wantO (X:Cx) (F0 H0 F:Hp) (D:Ends):Out→Prop
 | .nx τ'=>∀ σ' F' H',EnvS X F0 H0 τ' σ' F' H'→Same F F'→D.nx σ' H'
 | .rt t=>∀ v F' H',Step F0 H0 F' H'→Rep X.K F' t v→D.rt v H'
 | .bk τ'=>∀ σ' F' H',EnvS X F0 H0 τ' σ' F' H'→Same F F'→D.bk σ' H'
 | .ct τ'=>∀ σ' F' H',EnvS X F0 H0 τ' σ' F' H'→Same F F'→D.ct σ' H'
def spS (X:Cx) (F0 H0:Hp) (f:List Sl→Option Out):TS:=fun D σ H=>∃ τ F o,EnvS X F0 H0 τ σ F H∧f τ=some o∧wantO X F0 H0 F D o
theorem wantO.up {X:Cx} {F0 H0 F F':Hp} {D:Ends} {o:Out} (s:Same F F') (h:wantO X F0 H0 F D o):wantO X F0 H0 F' D o:=by
 cases o with
 | nx τ=>exact fun σ' G' H' e s'=>h σ' G' H' e (s.trans s')
 | rt t=>exact h
 | bk τ=>exact fun σ' G' H' e s'=>h σ' G' H' e (s.trans s')
 | ct τ=>exact fun σ' G' H' e s'=>h σ' G' H' e (s.trans s')
structure Fx (X:Cx) (c:Tc):Prop where
 hN:X.N=c.nm
 loc:∀ x,(c.sc.names.lookup x=some .local∨c.sc.names.lookup x=some .cell)→Loc X.env.scope x
 fn:∀ x,X.fn x=true
 xe:X.xe=fun _ _=>False
section
variable {X:Cx} {c:Tc} {G:Glo} {k n:Nat} {F0 H0:Hp}
theorem Fx.at (fx:Fx X c) {x:Str} {i:Nat} (hl:c.sc.names.lookup x=some .local∨c.sc.names.lookup x=some .cell) (hi:nameIx c.nm x=some i):At X x i:=⟨by rw [fx.hN];exact nameIx_get hi,fx.loc x hl,.inl (fx.fn x)⟩
theorem Fx.ats (fx:Fx X c):∀ {xs:List Str} {is:List Nat},(xs.all fun x=>plainName x&&(c.sc.names.lookup x==some .local||c.sc.names.lookup x==some .cell))=true→mapO (nameIx c.nm) xs=some is→Ats X xs is
 | [],_,_,h=>by cases h;exact .nil
 | x::xs,is,hl,h=>by
  rw [List.all_cons,Bool.and_eq_true] at hl
  obtain ⟨i,h1,h⟩:=obs h
  obtain ⟨js,h2,h⟩:=obs h
  cases h
  have q:=hl.1
  simp only [Bool.and_eq_true,Bool.or_eq_true,beq_iff_eq] at q
  exact .cons (fx.at q.2 h1) (fx.ats hl.2 h2)
theorem swap_ok {e:Expr} {e':E} (h:trV n c e=some e') (hl:∀ a b s p,e≠.ListComp a b s p) (t:Option Expr) (l:Nat) (env:PySem.Env):swapsWith e t l env=pure false:=by
 cases n with
 | zero=>cases h
 | succ n =>
  cases e with
  | ListComp a b s p=>exact absurd rfl (hl a b s p)
  | SetComp _ _ _ _=>cases h
  | DictComp _ _ _ _ _=>cases h
  | _=>rfl
theorem mt_extend':MtM X "list.extend" (fun x vs H Q=>∃ l b xs zs,x=.ref l∧vs=[.ref b]∧H l=some (.lst xs)∧Ls X.K H b zs∧xs.length+zs.length≤sizeLine∧Q .non (upd H l (.lst (xs++zs)))):=by
 intro pins s σ H x vs v us Q I rx rv h
 obtain ⟨l,b,xs,zs,rfl,rfl,hH,hB,hz,q⟩:=h
 cases rx
 obtain ⟨u,rfl,ru⟩:=rv.one
 cases ru
 obtain ⟨z,its,n,r,hl,e⟩:=I.lstM hH
 obtain ⟨z2,its2,n2,r2,e2⟩:=hB.ok I
 have hl2:=r2.length
 have hsz:its.toArray.size+its2.toArray.size≤sizeLine:=by rw [List.size_toArray,List.size_toArray];omega
 have hlong:¬ (!its.toArray.isEmpty&&Builtin.List.listTooLong (its.toArray.size+its2.toArray.size))=true:=by
  rw [notLongL hsz,Bool.and_false]
  exact Bool.false_ne_true
 refine call_meets F.slot_list_extend ⟨_,e,rfl⟩ F.entry_list_extend (F.args_list_extend_2 _ _)
  (AutoSeq1.list_extend_list_list_0 l its.toArray n b its2.toArray n2 hlong (by rw [List.size_toArray];omega) (by omega)) ⟨e,e2,?_⟩
 refine ⟨.non,_,I.lset (its':=its++its2) hH e (by simp) (r.append r2) ?_,rfl,q⟩
 rw [List.length_append]
 omega
theorem ok_addN {a b:Expr} {pos:Pos} {f g:Env→Option T} (ha:Oke X c a f) (hb:Oke X c b g):PE X (.BinOp a .Add b pos) (spN X c (fun r=>(f r).bind fun x=>(g r).bind fun y=>addT x y)):=by
 refine pe_mono (pe_op op_cat' ha hb) fun σ H Q q=>?_
 obtain ⟨r,F,ts,e,ht,q⟩:=q
 obtain ⟨t1,e1,ht⟩:=obs ht
 obtain ⟨t2,e2,ht⟩:=obs ht
 refine ⟨r,F,t1,e,e1,fun v1 F1 H1 s1 r1=>⟨r,F1,t2,e.step s1,e2,fun v2 F2 H2 s2 r2=>?_⟩⟩
 have key:∃ us ws,t1=.lst us∧t2=.lst ws∧us.length+ws.length≤SZ∧ts=us++ws:=by
  cases t1 with
  | lst us =>
   cases t2 with
   | lst ws =>
    simp only [addT] at ht
    split at ht
    ·rename_i hz
     cases ht
     exact ⟨_,_,rfl,rfl,hz,rfl⟩
    ·cases ht
   | _=>simp [addT] at ht
  | _=>cases t2<;>simp only [addT] at ht<;>(try split at ht)<;>cases ht
 obtain ⟨us,ws,rfl,rfl,hz,rfl⟩:=key
 obtain ⟨l,vs,rfl,g1,g2⟩:=r1
 obtain ⟨l',vs',rfl,g3,g4⟩:=r2
 refine ⟨l,l',vs,vs',rfl,rfl,Ls.same (s2.ff.trans s2.fh) g1,Ls.same s2.fh g3,by rw [g2.length,g4.length,← sz_eq];exact hz,fun p hp=>?_⟩
 exact q p _ F2 H2 (s1.trans s2) hp ((g2.mono s2.ff).app g4)
theorem slot_val {y:E} {t:T} (h:fresh y=false∨∀ ts,t≠.lst ts):slotOf y t=.val t:=by
 unfold slotOf
 rcases h with h | h
 ·rw [h]
 ·cases fresh y with
  | false=>rfl
  | true=>cases t with
   | lst ts=>exact absurd rfl (h ts)
   | _=>rfl
theorem slot_own {y:E} {ts:List T} (h:fresh y=true):slotOf y (.lst ts)=.own ts:=by unfold slotOf;rw [h]
theorem snd_asg (gd:Gd X c G k) (fx:Fx X c) {x:Str} {e:Expr} {y:E} {py pos:Pos} {i:Nat} (hl:c.sc.names.lookup x=some .local∨c.sc.names.lookup x=some .cell) (hi:nameIx c.nm x=some i) (h:trV (n+1) c e=some y) (hfl:fresh y=true→litE e=true) :
  PS X (.Assign [.Name x py] e pos) (spS X F0 H0 (evS G (.asg i y))):=by
 have S:=snd_all G k n
 have at_:=fx.at hl hi
 intro pins s σ H D I q
 obtain ⟨τ,F,o,en,hf,hw⟩:=q
 rw [evS] at hf
 obtain ⟨F1,e1,s1⟩:=en.frz (vars y)
 obtain ⟨t,ht,hf⟩:=obs hf
 cases hf
 have val:slotOf y t=.val t→spAsg X c i (evE G y) D σ H:=fun hs=>⟨_,F1,t,e1.env fx.hN,ht,fun v F' H' st r=>hw _ F' H' (by rw [hs];exact (e1.step st).setV1 i r) (s1.trans st.ff)⟩
 have valN:slotOf y t=.val t→(∀ a b s p,e≠.ListComp a b s p)→wpAny (model X.prog X.w) X.A (exec (.Assign [.Name x py] e pos) X.env) (SP X pins D) X.xe s:=fun hs hne =>
  ps_set gd.nd at_.ix at_.loc (snd_v S gd h) (swap_ok h hne _ _ _) at_.fn pins s σ H D I (by
   obtain ⟨r,F2,t2,a1,a2,a3⟩:=val hs
   exact ⟨r,F2,t2,a1,a2,a3⟩)
 have own:∀ {ts:List T},t=.lst ts→fresh y=true→(∀ a b s p,e≠.ListComp a b s p)→PE X e (spN X c (evE G y))→wpAny (model X.prog X.w) X.A (exec (.Assign [.Name x py] e pos) X.env) (SP X pins D) X.xe s:=fun {ts} et hfr hne hp=>by
  subst et
  refine ps_set gd.nd at_.ix at_.loc hp (swap_ok h hne _ _ _) at_.fn pins s σ H D I ⟨_,F1,ts,e1.env fx.hN,ht,fun p vs F' H1 st hp r=>hw _ F' _ ?_ (s1.trans st.ff)⟩
  rw [slot_own hfr]
  exact (e1.step st).setO i hp r
 cases e with
 | ListComp a b sc p =>
  have hy:fresh y=false:=by
   obtain ⟨tg,iter,ifs,rfl,xs,ki,h0,h1,hcs,hr⟩:=comp_inv h
   match ifs,hr with
   | [],hr =>
    obtain ⟨z,h2,hr⟩:=obs hr
    cases hr;rfl
   | [t],hr =>
    obtain ⟨z,h2,hr⟩:=obs hr
    obtain ⟨w,h3,hr⟩:=obs hr
    cases hr;rfl
   | _::_::_,hr=>cases hr
  exact (snd_comp S gd h).2 at_ pins s σ H D I (val (slot_val (.inl hy)))
 | List es p =>
  have h':=h
  obtain ⟨zs,h1,h'⟩:=obs h'
  cases h'
  have ee:evE G (.lst zs)=fun r=>if zs.length≤1000 then (evEs G zs r).map .lst else none:=by funext r;rw [evE]
  have hlst:∃ ts,t=.lst ts:=by
   rw [ee] at ht
   dsimp only at ht
   split at ht
   ·obtain ⟨ts,_,rfl⟩:=oms ht
    exact ⟨ts,rfl⟩
   ·cases ht
  obtain ⟨ts,rfl⟩:=hlst
  exact own rfl rfl (fun _ _ _ _ z=>by cases z) (by rw [ee];exact ok_lstN (S.l gd h1) fun r ts q=>evEs_len q)
 | BinOp a op b p =>
  have h':=h
  obtain ⟨o,h0,h'⟩:=obs h'
  obtain ⟨x1,h1,h'⟩:=obs h'
  obtain ⟨y1,h2,h'⟩:=obs h'
  cases h'
  by_cases hadd:op=.Add
  ·subst hadd
   cases h0
   by_cases hlst:∃ ts,t=.lst ts
   ·obtain ⟨ts,rfl⟩:=hlst
    have ee:evE G (.bin .add x1 y1)=fun r=>(evE G x1 r).bind fun s=>(evE G y1 r).bind fun t=>addT s t:=by funext r;rw [evE];try rfl
    exact own rfl rfl (fun _ _ _ _ z=>by cases z) (by rw [ee];exact ok_addN (S.v gd h1) (S.v gd h2))
   ·exact valN (slot_val (.inr fun ts z=>hlst ⟨ts,z⟩)) (fun _ _ _ _ z=>by cases z)
  ·refine valN (slot_val (.inl ?_)) (fun _ _ _ _ z=>by cases z)
   cases op<;>first | exact absurd rfl hadd | (cases h0;done) | (cases h0;rfl)
 | _ =>
  refine valN (slot_val (.inl ?_)) (fun _ _ _ _ z=>by cases z)
  cases hfr:fresh y with
  | false=>rfl
  | true=>cases hfl hfr
end
section
variable {X:Cx} {c:Tc} {G:Glo} {k n:Nat} {F0 H0:Hp}
theorem plain_dbg {x:Str} (h:plainName x=true):(x==("__debug__":Str))=false∧(x==("__classdict__":Str))=false:=by
 unfold plainName at h
 simp only [Bool.and_eq_true,Bool.not_eq_true'] at h
 exact ⟨h.1.1.1,h.1.1.2⟩
theorem snd_app (gd:Gd X c G k) (fx:Fx X c) {x:Str} {a:Expr} {y:E} {px apos cpos pos:Pos} {i:Nat} (hv:visB c.sc x=true) (hp:plainName x=true) (hi:nameIx c.nm x=some i) (h:trV n c a=some y) (hl:(apos.endLine==cpos.line)=true) :
  PS X (.Expr (.Call (.Attribute (.Name x px) "append" apos) [a] [] cpos) pos) (spS X F0 H0 (evS G (.app i y))):=by
 have S:=snd_all G k n
 have hN:X.N[i]?=some x:=by rw [fx.hN];exact nameIx_get hi
 have hs:=star_one h X.env
 refine ps_mono (ps_expr (pe_bm F.plainAttrs_list F.slot_list_append F.type_list_append mt_append (pe_var hN (gd.vis x hv) (plain_dbg hp).1 (plain_dbg hp).2) (one_arg (S.v gd h) hs) rfl (by rw [hs];rfl) hl hs rfl) rfl) fun D σ H q=>?_
 obtain ⟨τ,F,o,en,hf,hw⟩:=q
 rw [evS] at hf
 obtain ⟨F1,e1,s1⟩:=en.frz (vars y)
 obtain ⟨t,ht,hf⟩:=obs hf
 split at hf
 ·rename_i ts ho
  split at hf
  ·rename_i hz
   cases hf
   obtain ⟨b,vs,q1,q2,q3,q4,q5⟩:=e1.own i ts ho
   refine ⟨.ref b,q1,.inl ⟨rfl,_,SqL.of q2⟩,_,F1,[t],e1.env fx.hN,Option.bind_eq_some_iff.mpr ⟨t,ht,rfl⟩,fun ws F' H' st r=>?_⟩
   obtain ⟨v,r',rfl,r1,r2⟩:=r
   cases r2
   have e2:=e1.step st
   obtain ⟨b',vs',p1,p2,p3,p4,p5⟩:=e2.own i ts ho
   rw [q1] at p1;cases p1
   refine ⟨b,vs',v,rfl,rfl,p2,by rw [p5.length,← sz_eq];exact hz,?_⟩
   exact hw σ F' _ (e2.grow ho q1 p3 p4 (p5.app (.cons r1 rfl))) (s1.trans st.ff)
  ·cases hf
 ·cases hf
theorem snd_ext (gd:Gd X c G k) (fx:Fx X c) {x:Str} {a:Expr} {y:E} {px apos cpos pos:Pos} {i:Nat} (hv:visB c.sc x=true) (hp:plainName x=true) (hi:nameIx c.nm x=some i) (h:trV n c a=some y) (hl:(apos.endLine==cpos.line)=true) :
  PS X (.Expr (.Call (.Attribute (.Name x px) "extend" apos) [a] [] cpos) pos) (spS X F0 H0 (evS G (.ext i y))):=by
 have S:=snd_all G k n
 have hN:X.N[i]?=some x:=by rw [fx.hN];exact nameIx_get hi
 have hs:=star_one h X.env
 refine ps_mono (ps_expr (pe_bm F.plainAttrs_list F.slot_list_extend F.type_list_extend mt_extend' (pe_var hN (gd.vis x hv) (plain_dbg hp).1 (plain_dbg hp).2) (one_arg (S.v gd h) hs) rfl (by rw [hs];rfl) hl hs rfl) rfl) fun D σ H q=>?_
 obtain ⟨τ,F,o,en,hf,hw⟩:=q
 rw [evS] at hf
 obtain ⟨F1,e1,s1⟩:=en.frz (vars y)
 obtain ⟨t,ht,hf⟩:=obs hf
 split at hf
 ·rename_i us ts ho
  split at hf
  ·rename_i hz
   cases hf
   obtain ⟨b,vs,q1,q2,q3,q4,q5⟩:=e1.own i ts ho
   refine ⟨.ref b,q1,.inl ⟨rfl,_,SqL.of q2⟩,_,F1,[.lst us],e1.env fx.hN,Option.bind_eq_some_iff.mpr ⟨_,ht,rfl⟩,fun ws F' H' st r=>?_⟩
   obtain ⟨v,r',rfl,r1,r2⟩:=r
   cases r2
   obtain ⟨l,zs,rfl,g1,g2⟩:=r1
   have e2:=e1.step st
   obtain ⟨b',vs',p1,p2,p3,p4,p5⟩:=e2.own i ts ho
   rw [q1] at p1;cases p1
   refine ⟨b,l,vs',zs,rfl,rfl,p2,Ls.same st.fh g1,by rw [p5.length,g2.length,← sz_eq];exact hz,?_⟩
   exact hw σ F' _ (e2.grow ho q1 p3 p4 (p5.app g2)) (s1.trans st.ff)
  ·cases hf
 ·cases hf
theorem snd_ret (gd:Gd X c G k) (fx:Fx X c) {a:Expr} {y:E} {pos:Pos} (h:trV n c a=some y):PS X (.Return (some a) pos) (spS X F0 H0 (evS G (.ret y))):=by
 have S:=snd_all G k n
 refine ps_mono (ps_ret (S.v gd h)) fun D σ H q=>?_
 obtain ⟨τ,F,o,en,hf,hw⟩:=q
 rw [evS] at hf
 obtain ⟨F1,e1,s1⟩:=en.frz (vars y)
 obtain ⟨t,ht,rfl⟩:=oms hf
 exact ⟨_,F1,t,e1.env fx.hN,ht,fun v F' H' st r=>hw v F' H' (e1.st.trans st) r⟩
theorem snd_retN {pos:Pos}:PS X (.Return none pos) (spS X F0 H0 (evS G .retN)):=by
 refine ps_mono ps_retN fun D σ H q=>?_
 obtain ⟨τ,F,o,en,hf,hw⟩:=q
 rw [evS] at hf
 cases hf
 exact hw _ F H en.st rfl
theorem snd_pass {pos:Pos}:PS X (.Pass pos) (spS X F0 H0 (evS G .pass)):=by
 refine ps_mono ps_pass fun D σ H q=>?_
 obtain ⟨τ,F,o,en,hf,hw⟩:=q
 rw [evS] at hf
 cases hf
 exact hw _ F H en (Same.refl F)
theorem snd_doc {x:Str} {j:Nat} {p pos:Pos}:PS X (.Expr (.Constant (.str x) j p) pos) (spS X F0 H0 (evS G .pass)):=by
 refine ps_mono ps_doc fun D σ H q=>?_
 obtain ⟨τ,F,o,en,hf,hw⟩:=q
 rw [evS] at hf
 cases hf
 exact hw _ F H en (Same.refl F)
theorem snd_brk {pos:Pos}:PS X (.Break pos) (spS X F0 H0 (evS G .brk)):=by
 refine ps_mono ps_break fun D σ H q=>?_
 obtain ⟨τ,F,o,en,hf,hw⟩:=q
 rw [evS] at hf
 cases hf
 exact hw _ F H en (Same.refl F)
theorem snd_cnt {pos:Pos}:PS X (.Continue pos) (spS X F0 H0 (evS G .cnt)):=by
 refine ps_mono ps_continue fun D σ H q=>?_
 obtain ⟨τ,F,o,en,hf,hw⟩:=q
 rw [evS] at hf
 cases hf
 exact hw _ F H en (Same.refl F)
theorem snd_if (gd:Gd X c G k) (fx:Fx X c) {t:Expr} {a b:List Stmt} {z:E} {x y:List S} {pos:Pos} (h:trT n c t=some z) (ha:PSs X a (spS X F0 H0 (evSs G x))) (hb:PSs X b (spS X F0 H0 (evSs G y))):PS X (.If t a b pos) (spS X F0 H0 (evS G (.ite z x y))):=by
 have S:=snd_all G k n
 refine ps_mono (ps_if (S.t gd h).1 ha hb) fun D σ H q=>?_
 obtain ⟨τ,F,o,en,hf,hw⟩:=q
 rw [evS] at hf
 obtain ⟨F1,e1,s1⟩:=en.frz (vars z)
 obtain ⟨t,ht,hf⟩:=obs hf
 cases t with
 | bl d =>
  refine ⟨_,F1,d,e1.env fx.hN,ht,fun F' H' st=>?_⟩
  cases d with
  | true=>exact ⟨_,F',o,e1.step st,hf,hw.up (s1.trans st.ff)⟩
  | false=>exact ⟨_,F',o,e1.step st,hf,hw.up (s1.trans st.ff)⟩
 | _=>cases hf
theorem snd_for (gd:Gd X c G k) (fx:Fx X c) {tg iter:Expr} {body:List Stmt} {xs:List Str} {is:List Nat} {ki:Ik × List E} {b:List S} {pos:Pos} (h1:tgNames tg=some xs) (h2:mapO (nameIx c.nm) xs=some is) (h3:trI n c iter=some ki)
  (ht:ki.1.pair=true→isTupE tg=true) (h2n:isTupE tg=true→2≤xs.length) (hat:Ats X xs is) (hb:PSs X body (spS X F0 H0 (evSs G b))):PS X (.For tg iter body [] pos) (spS X F0 H0 (evS G (.loop is ki.1 ki.2 b))):=by
 have S:=snd_all G k n
 refine ps_mono (ps_for (by rw [fx.xe];exact PassesOwn.never) gd.calm (S.i gd h3 ht) (tg_ok gd.nd gd.calm h1 hat) hb (folded_ok h3 X.env)) fun D σ H q=>?_
 obtain ⟨τ,F,o,en,hf,hw⟩:=q
 rw [evS] at hf
 obtain ⟨F1,e1,s1⟩:=en.frz (varsL ki.2)
 obtain ⟨us,hu,hf⟩:=obs hf
 obtain ⟨its,hi,hf⟩:=obs hf
 refine ⟨_,F1,its,e1.env fx.hN,Option.bind_eq_some_iff.mpr ⟨us,hu,hi⟩,fun J F2 H2 st wk=>?_⟩
 have e2:=e1.step st
 refine ⟨fun i m σ' H'=>i≤its.length∧m=its.length-i∧∃ τ' F',EnvS X F0 H0 τ' σ' F' H'∧Same F2 F'∧loopM (fun x τ=>(bndS is x τ).bind fun τ'=>evSs G b τ') (its.drop i) τ'=some o,⟨its.length,Nat.zero_le _,rfl,_,F2,e2,Same.refl F2,hf⟩,?_⟩
 rintro i m σ' H' ⟨hle,rfl,τ',F',e',s',hlo⟩
 have sm:Same F2 H':=s'.trans e'.st.fh
 have wup:wantO X F0 H0 F' D o:=hw.up (s1.trans (st.ff.trans s'))
 by_cases hlt:i<its.length
 ·refine .inr ⟨wk.go i H' hlt sm,?_⟩
  rw [List.drop_eq_getElem_cons hlt,loopM] at hlo
  obtain ⟨o1,ho1,hlo⟩:=obs hlo
  obtain ⟨τ1,hb1,ho1⟩:=obs ho1
  refine ⟨fun σ'' H''=>∃ τ'' F'',EnvS X F0 H0 τ'' σ'' F'' H''∧Same F2 F''∧loopM (fun x τ=>(bndS is x τ).bind fun τ'=>evSs G b τ') (its.drop (i+1)) τ''=some o,fun σ'' H'' hN=>⟨its.length-(i+1),by omega,hlt,rfl,hN⟩,fun x H5 hy=>?_⟩
  obtain ⟨F5,st5,r5⟩:=wk.yld i H' x H5 F' its[i] (by simp [hlt]) s' e'.st.fh hy
  have e5:=e'.step st5
  have fin:∀ σ6,EnvS X F0 H0 τ1 σ6 F5 H5→spS X F0 H0 (evSs G b) { D with nx:=fun σ'' H''=>∃ τ'' F'',EnvS X F0 H0 τ'' σ'' F'' H''∧Same F2 F''∧loopM (fun x τ=>(bndS is x τ).bind fun τ'=>evSs G b τ') (its.drop (i+1)) τ''=some o,ct:=fun σ'' H''=>∃ τ'' F'',EnvS X F0 H0 τ'' σ'' F'' H''∧Same F2 F''∧loopM (fun x τ=>(bndS is x τ).bind fun τ'=>evSs G b τ') (its.drop (i+1)) τ''=some o,bk:=D.nx } σ6 H5:=fun σ6 e6=>by
   refine ⟨τ1,F5,o1,e6,ho1,?_⟩
   cases o1 with
   | nx τ2=>exact fun σ7 F7 H7 e7 s7=>⟨τ2,F7,e7,s'.trans (st5.ff.trans s7),hlo⟩
   | ct τ2=>exact fun σ7 F7 H7 e7 s7=>⟨τ2,F7,e7,s'.trans (st5.ff.trans s7),hlo⟩
   | bk τ2 =>
    cases hlo
    exact fun σ7 F7 H7 e7 s7=>wup σ7 F7 H7 e7 (st5.ff.trans s7)
   | rt t =>
    cases hlo
    exact wup
  have hlen:=ats_len hat
  cases htup:isTupE tg with
  | false =>
   have one:∃ i0,is=[i0]:=by
    cases tg with
    | Name y p =>
     cases h1
     match is,hlen with
     | [i0],_=>exact ⟨i0,rfl⟩
    | Tuple _ _ _=>cases htup
    | _=>cases h1
   obtain ⟨i0,rfl⟩:=one
   cases hb1
   exact fin _ (e5.setV1 i0 r5)
  | true =>
   have h2n:=h2n htup
   have hb2:∃ ts,its[i]=.tup ts∧setAll is ts τ'=some τ1:=by
    match is,hlen,hb1 with
    | [],hl,_=>rw [hl] at h2n;simp at h2n
    | [_],hl,_=>rw [hl] at h2n;simp at h2n
    | i0::i1::ir,_,hb1 =>
     cases hq:its[i] with
     | tup ts=>rw [hq] at hb1;exact ⟨ts,rfl,hb1⟩
     | _=>rw [hq] at hb1;cases hb1
   obtain ⟨ts,et,hb2⟩:=hb2
   rw [et] at r5
   obtain ⟨a,vs,rfl,q1,q2⟩:=r5
   obtain ⟨e6,hl6⟩:=e5.setAll fx.hN q2 hb2
   exact ⟨a,vs,rfl,same_tup st5.fh q1,hl6,fin _ e6⟩
 ·have e:i=its.length:=by omega
  subst e
  rw [List.drop_length,loopM] at hlo
  cases hlo
  exact .inl ⟨wk.stop H' sm,wup σ' F' H' e' (Same.refl F')⟩
theorem snd_unp (gd:Gd X c G k) (fx:Fx X c) {es:List Expr} {kt:Nat} {tp pos:Pos} {e:Expr} {y:E} {xs:List Str} {is:List Nat} (h1:tgNames (.Tuple es kt tp)=some xs) (hat:Ats X xs is) (h:trV n c e=some y) (hc:isCompE e=true) :
  PS X (.Assign [.Tuple es kt tp] e pos) (spS X F0 H0 (evS G (.unp is y))):=by
 have S:=snd_all G k n
 cases e with
 | ListComp a b sc p =>
  refine ps_mono (ps_asg (S.v gd h) (tgL_ok gd.nd gd.calm h1 hat)) fun D σ H q=>?_
  obtain ⟨τ,F,o,en,hf,hw⟩:=q
  rw [evS] at hf
  obtain ⟨F1,e1,s1⟩:=en.frz (vars y)
  obtain ⟨t,ht,hf⟩:=obs hf
  refine ⟨_,F1,t,e1.env fx.hN,ht,fun v F' H' st r=>?_⟩
  cases t with
  | tup us =>
   obtain ⟨τ',e2,rfl⟩:=oms hf
   obtain ⟨a,vs,rfl,g1,g2⟩:=r
   obtain ⟨e3,hl⟩:=(e1.step st).setAll fx.hN g2 e2
   exact ⟨a,vs,rfl,.inr (same_tup st.fh g1),hl,hw _ F' H' e3 (s1.trans st.ff)⟩
  | lst us =>
   obtain ⟨τ',e2,rfl⟩:=oms hf
   obtain ⟨a,vs,rfl,g1,g2⟩:=r
   obtain ⟨e3,hl⟩:=(e1.step st).setAll fx.hN g2 e2
   exact ⟨a,vs,rfl,.inl (Ls.same st.fh g1),hl,hw _ F' H' e3 (s1.trans st.ff)⟩
  | _=>cases hf
 | _=>cases hc
end
section
variable {X:Cx} {c:Tc} {G:Glo} {k:Nat} {F0 H0:Hp}
theorem snd_nil:PSs X [] (spS X F0 H0 (evSs G [])):=by
 refine pss_mono pss_nil fun D σ H q=>?_
 obtain ⟨τ,F,o,en,hf,hw⟩:=q
 rw [evSs] at hf
 cases hf
 exact hw _ F H en (Same.refl F)
theorem snd_cons {st:Stmt} {rest:List Stmt} {s:S} {ss:List S} (h1:PS X st (spS X F0 H0 (evS G s))) (h2:PSs X rest (spS X F0 H0 (evSs G ss))):PSs X (st::rest) (spS X F0 H0 (evSs G (s::ss))):=by
 refine pss_mono (pss_cons h1 h2) fun D σ H q=>?_
 obtain ⟨τ,F,o,en,hf,hw⟩:=q
 rw [evSs] at hf
 obtain ⟨o1,ho1,hf⟩:=obs hf
 refine ⟨τ,F,o1,en,ho1,?_⟩
 cases o1 with
 | nx τ'=>exact fun σ' F' H' e s'=>⟨τ',F',o,e,hf,hw.up s'⟩
 | rt t=>cases hf;exact hw
 | bk τ'=>cases hf;exact hw
 | ct τ'=>cases hf;exact hw
theorem snd_stmts (gd:Gd X c G k) (fx:Fx X c):∀ n,(∀ st s,trS n c st=some s→PS X st (spS X F0 H0 (evS G s)))∧(∀ sts ss,trSs n c sts=some ss→PSs X sts (spS X F0 H0 (evSs G ss)))
 | 0=>⟨fun _ _ h=>(by (cases h;done)),fun _ _ h=>(by (cases h;done))⟩
 | n+1=>by
  obtain ⟨i1,i2⟩:=snd_stmts gd fx n
  refine ⟨fun st s h=>?_,fun sts ss h=>?_⟩
  ·cases st with
   | Assign tgs e pos =>
    match tgs,h with
    | [],h=>(cases h;done)
    | t::_::_,h=>cases t<;>(cases h;done)
    | [t],h =>
     cases t with
     | Name x px =>
      replace h:(if plainName x&&(c.sc.names.lookup x==some .local||c.sc.names.lookup x==some .cell) then (nameIx c.nm x).bind fun i=>(trV n c e).bind fun y=>if fresh y&&!litE e then none else some (S.asg i y) else none)=some s:=h
      split at h
      ·rename_i hc
       simp only [Bool.and_eq_true,Bool.or_eq_true,beq_iff_eq] at hc
       obtain ⟨i,h1,g1⟩:=obs h
       obtain ⟨y,h2,g2⟩:=obs g1
       clear g1 h
       by_cases hfl:(fresh y&&!litE e)=true
       ·rw [if_pos hfl] at g2;cases g2
       ·rw [if_neg hfl] at g2
        cases g2
        cases n with
        | zero=>cases h2
        | succ m =>
         exact snd_asg gd fx hc.2 h1 h2 fun hfr=>by
          rw [hfr,Bool.true_and] at hfl
          simpa using hfl
      ·cases h
     | Tuple es kt tp =>
      obtain ⟨xs,h1,h⟩:=obs h
      obtain ⟨is,h2,h⟩:=obs h
      obtain ⟨y,h3,h⟩:=obs h
      split at h
      ·rename_i hc
       simp only [Bool.and_eq_true] at hc
       cases h
       exact snd_unp gd fx h1 (fx.ats hc.2 h2) h3 hc.1.2
      ·cases h
     | _=>(cases h;done)
   | Expr e pos =>
    cases e with
    | Constant cst kk p =>
     cases cst with
     | str x=>cases (show some S.pass=some s from h);exact snd_doc
     | _=>(cases h;done)
    | Call f es ks cpos =>
     cases f with
     | Attribute o m apos =>
      cases o with
      | Name x px =>
       match es,ks,h with
       | [a],[],h =>
        replace h:(if apos.endLine==cpos.line&&visB c.sc x&&plainName x then (nameIx c.nm x).bind fun i=>(trV n c a).bind fun y=>(if m==("append":Str) then some (S.app i y) else if m==("extend":Str) then some (S.ext i y) else none) else none)=some s:=h
        split at h
        ·rename_i hc
         simp only [Bool.and_eq_true] at hc
         obtain ⟨i,h1,g1⟩:=obs h
         obtain ⟨y,h2,g2⟩:=obs g1
         clear g1 h
         by_cases hm:(m==("append":Str))=true
         ·rw [if_pos hm] at g2
          have hm:=eq_of_beq hm
          subst hm
          cases g2
          exact snd_app gd fx hc.1.2 hc.2 h1 h2 hc.1.1
         ·rw [if_neg hm] at g2
          by_cases hm:(m==("extend":Str))=true
          ·rw [if_pos hm] at g2
           have hm:=eq_of_beq hm
           subst hm
           cases g2
           exact snd_ext gd fx hc.1.2 hc.2 h1 h2 hc.1.1
          ·rw [if_neg hm] at g2;cases g2
        ·cases h
       | [],_,h=>(cases h;done)
       | [_],_::_,h=>(cases h;done)
       | _::_::_,_,h=>(cases h;done)
      | _=>(cases h;done)
     | _=>(cases h;done)
    | _=>(cases h;done)
   | Return e pos =>
    cases e with
    | none=>cases (show some S.retN=some s from h);exact snd_retN
    | some e =>
     obtain ⟨y,h2,g⟩:=obs h
     cases g
     exact snd_ret gd fx h2
   | If t a b pos =>
    obtain ⟨z,h1,g⟩:=obs h
    obtain ⟨x,h2,g⟩:=obs g
    obtain ⟨y,h3,g⟩:=obs g
    cases g
    exact snd_if gd fx h1 (i2 _ _ h2) (i2 _ _ h3)
   | For tg iter body els pos =>
    cases els with
    | cons _ _=>(cases h;done)
    | nil =>
     obtain ⟨xs,h1,g⟩:=obs h
     obtain ⟨is,h2,g⟩:=obs g
     obtain ⟨ki,h3,g⟩:=obs g
     obtain ⟨b,h4,g⟩:=obs g
     split at g
     ·rename_i hc
      simp only [Bool.and_eq_true] at hc
      obtain ⟨⟨⟨c1,c2⟩,c3⟩,c4⟩:=hc
      cases g
      refine snd_for gd fx h1 h2 h3 (fun e=>?_) (fun e=>?_) (fx.ats c4 h2) (i2 _ _ h4)
      ·rw [e] at c1
       simpa using c1
      ·rw [e] at c2
       simpa using c2
     ·cases g
   | Break pos=>cases (show some S.brk=some s from h);exact snd_brk
   | Continue pos=>cases (show some S.cnt=some s from h);exact snd_cnt
   | Pass pos=>cases (show some S.pass=some s from h);exact snd_pass
   | _=>(cases h;done)
  ·cases sts with
   | nil=>cases (show some ([]:List S)=some ss from h);exact snd_nil
   | cons st rest =>
    obtain ⟨x,h1,h⟩:=obs h
    obtain ⟨xs,h2,h⟩:=obs h
    cases h
    exact snd_cons (i1 _ _ h1) (i2 _ _ h2)
end
section
variable {P:Program} {w:World} {K:PySem.W.Frag} {mg:Str→Option Value} {base:Heap} {R:Pr}
structure FnD (K:PySem.W.Frag) (mg:Str→Option Value) (f:Str) (D:Fd) (st:Stmt) (a:Addr) (fd:FuncData) (ps:List Str):Prop where
 qu:∃ x qual,Fun K x qual st a fd
 sc:FnScope (fnNames (defScope st)) ps (defScope st)
 np:ps.length=D.np
 ns:(fnNames (defScope st)).length=D.ns
 tr:trSs 60 ⟨defScope st,fnNames (defScope st)⟩ (defBody st)=some D.body
 mg:mg f=some (.ref a)
 kp:PySem.W.keepIn K (.ref a)=true
 bi:Binds K fd ps []
theorem start_ok {X:Cx} {D:Fd} {N:List Str} {ts:List T} {vs:List V} {F H:Hp} (hN:N.length=D.ns) (fh:Same F H) (tb:Tbk X.K F H) (r:Reps X.K F ts vs):EnvS X F H (begin' D ts) (L2.start N vs) F H:=by
 have hl:=r.length
 have none:∀ i s,(begin' D ts)[i]?=some s→¬ i<ts.length→s=.no:=fun i s h hi=>by
  unfold begin' at h
  rw [List.getElem?_append_right (by simpa using hi)] at h
  rw [List.getElem?_replicate] at h
  split at h
  ·cases h;rfl
  ·cases h
 have some':∀ i s,(begin' D ts)[i]?=some s→i<ts.length→∃ t,ts[i]?=some t∧s=.val t:=fun i s h hi=>by
  unfold begin' at h
  rw [List.getElem?_append_left (by simpa using hi),List.getElem?_map] at h
  obtain ⟨t,h1,h2⟩:=oms h
  exact ⟨t,h1,h2.symm⟩
 have noown:∀ i us,(begin' D ts)[i]?≠some (Sl.own us):=fun i us h=>by
  by_cases hi:i<ts.length
  ·obtain ⟨t,_,e⟩:=some' i _ h hi
   cases e
  ·cases none i _ h hi
 refine ⟨Step.refl fh,tb,?_,fun i t h=>?_,fun i us h=>absurd h (noown i us),fun i j us _ a _ h=>absurd h (noown i us)⟩
 ·unfold begin' L2.start
  simp only [List.length_append,List.length_map,List.length_replicate]
  rw [hl,hN]
 ·by_cases hi:i<ts.length
  ·obtain ⟨u,h1,e⟩:=some' i _ h hi
   cases e
   obtain ⟨v,h2,h3⟩:=r.get h1
   refine ⟨v,?_,h3⟩
   unfold L2.start
   rw [List.getElem?_append_left (by rw [List.length_map,hl];exact hi),List.getElem?_map,h2]
   rfl
  ·cases none i _ h hi
def Kn (P:Program) (w:World) (K:PySem.W.Frag) (mg:Str→Option Value) (base:Heap) (R:Pr) (n:Nat) (f:Str):Prop :=
 ∃ (a:Addr) (fd:FuncData) (ps:List Str),FnOk P w K mg base CX0 n a fd ps (spT K (run R n f))∧mg f=some (.ref a)∧PySem.W.keepIn K (.ref a)=true∧Binds K fd ps []
abbrev KnAll (P:Program) (w:World) (K:PySem.W.Frag) (mg:Str→Option Value) (base:Heap) (R:Pr) (n:Nat):Prop:=∀ m,m≤n→∀ f D,plainF f=true→R.fn f=some D→Kn P w K mg base R m f
theorem fn_zero {a:Addr} {fd:FuncData} {ps:List Str} {f:Str}:FnOk P w K mg base CX0 0 a fd ps (spT K (run R 0 f)):=by
 have no:∀ vs H Q E,¬ spT K (run R 0 f) vs H Q E:=fun vs H Q E h=>by
  obtain ⟨F,ts,t,_,_,_,h,_⟩:=h
  cases h
 exact ⟨fun vs H Q E h=>absurd h (no vs H Q E),fun A outer s H args us vs Q E _ _ _ _ h=>absurd h (no vs H Q E)⟩
theorem gd_fn {n:Nat} (ih:KnAll P w K mg base R n) (nob:∀ x∈bnames,mg x=none) (con:∀ x t,R.con x=some t→∃ u v,mg x=some u∧RelV v u∧∀ F,Rep K F t v)
  {st:Stmt} {ps:List Str} (sc:FnScope (fnNames (defScope st)) ps (defScope st)) {qual:Str} {a:Addr} {cdv:Value} {A:Around} {outer:List PySem.Env} {s:Shared} {H:Hp} {E:XK} (hr:Room n (A.deeper (envOfC qual (defScope st) s.heap.objs.size a cdv))) :
  Gd (cxOf CX0 P w K mg base (fnNames (defScope st)) qual (defScope st) a cdv A outer s H E).nox ⟨defScope st,fnNames (defScope st)⟩ (glo R (run R n)) n:={
   room:=hr
   calm:=rfl
   nob:=nob
   call:=fun g ts t hp hg=>by
    have hD:∃ D',R.fn g=some D':=by
     cases n with
     | zero=>cases hg
     | succ m =>
      have hg:run R (m+1) g ts=some t:=hg
      rw [run] at hg
      obtain ⟨D',h1,_⟩:=obs hg
      exact ⟨D',h1⟩
    obtain ⟨D',hD⟩:=hD
    exact ih n (Nat.le_refl n) g D' hp hD
   con:=con
   vis:=fun x h=>by
    show (defScope st).names.lookup x=_∨(defScope st).names.lookup x=_∨(defScope st).names.lookup x=_
    have h:visB (defScope st) x=true:=h
    unfold visB at h
    cases e:(defScope st).names.lookup x with
    | none=>rw [e] at h;cases h
    | some q =>
     rw [e] at h
     cases q with
     | «local»=>exact .inl rfl
     | cell=>exact .inr (.inl rfl)
     | free=>exact .inr (.inr rfl)
     | _=>cases h
   gl:=fun x h=>by
    show (defScope st).names.lookup x=_
    simpa [glB] using h
   cap:=fun x h=>h
   nd:=sc.nd }
theorem fn_one {n:Nat} (ih:KnAll P w K mg base R n) (nob:∀ x∈bnames,mg x=none) (con:∀ x t,R.con x=some t→∃ u v,mg x=some u∧RelV v u∧∀ F,Rep K F t v)
  {f:Str} {D:Fd} {st:Stmt} {a:Addr} {fd:FuncData} {ps:List Str} (hf:R.fn f=some D) (d:FnD K mg f D st a fd ps):FnOk P w K mg base CX0 (n+1) a fd ps (spT K (run R (n+1) f)):=by
  obtain ⟨x,qual,FU⟩:=d.qu
  have inv:∀ {ts:List T} {t:T},run R (n+1) f ts=some t→ts.length=D.np∧resultOf (evSs (glo R (run R n)) D.body (begin' D ts))=some t:=fun {ts t} h=>by
   rw [run,hf] at h
   simp only [Option.bind_some] at h
   split at h
   ·rename_i e;exact ⟨e,h⟩
   ·cases h
  refine FU.ok d.sc (fun vs H Q E h=>?_) (fun cdv A outer s H vs Q E hr h=>?_)
  ·obtain ⟨F,ts,t,fh,tb,r,h,_⟩:=h
   rw [r.length,(inv h).1,d.np]
  obtain ⟨F,ts,t,fh,tb,r,h,q⟩:=h
  obtain ⟨hl,he⟩:=inv h
  have gd:=gd_fn (outer:=outer) (H:=H) (E:=E) ih nob con d.sc hr
  have fx:Fx (cxOf CX0 P w K mg base (fnNames (defScope st)) qual (defScope st) a cdv A outer s H E).nox ⟨defScope st,fnNames (defScope st)⟩:=⟨rfl,fun x h=>h,fun _=>rfl,rfl⟩
  refine ⟨_,(snd_stmts (F0:=F) (H0:=H) gd fx 60).2 _ _ d.tr,?_⟩
  cases ho:evSs (glo R (run R n)) D.body (begin' D ts) with
  | none=>rw [ho] at he;cases he
  | some o =>
   refine ⟨begin' D ts,F,o,start_ok d.ns fh tb r,ho,?_⟩
   rw [ho] at he
   cases o with
   | nx τ=>cases he;exact fun σ' F' H' e _=>q .non F' H' e.st rfl
   | rt t=>cases he;exact fun v F' H' s r=>q v F' H' s r
   | bk τ=>cases he
   | ct τ=>cases he
theorem fn_all (L:∀ f D,plainF f=true→R.fn f=some D→(∃ st a fd ps,FnD K mg f D st a fd ps) ∨
   ∃ (a:Addr) (fd:FuncData) (ps:List Str),mg f=some (.ref a)∧PySem.W.keepIn K (.ref a)=true∧Binds K fd ps []∧∀ n,KnAll P w K mg base R n→FnOk P w K mg base CX0 (n+1) a fd ps (spT K (run R (n+1) f)))
  (nob:∀ x∈bnames,mg x=none) (con:∀ x t,R.con x=some t→∃ u v,mg x=some u∧RelV v u∧∀ F,Rep K F t v):∀ n,KnAll P w K mg base R n
 | 0=>fun m hm f D hp hf=>by
  obtain rfl:m=0:=by omega
  rcases L f D hp hf with ⟨st,a,fd,ps,d⟩ | ⟨a,fd,ps,h1,h2,h3,_⟩
  ·exact ⟨a,fd,ps,fn_zero,d.mg,d.kp,d.bi⟩
  ·exact ⟨a,fd,ps,fn_zero,h1,h2,h3⟩
 | n+1=>fun m hm f D hp hf=>by
  have ih:=fn_all L nob con n
  by_cases hmn:m≤n
  ·exact ih m hmn f D hp hf
  ·obtain rfl:m=n+1:=by omega
   rcases L f D hp hf with ⟨st,a,fd,ps,d⟩ | ⟨a,fd,ps,h1,h2,h3,h4⟩
   ·exact ⟨a,fd,ps,fn_one ih nob con hf d,d.mg,d.kp,d.bi⟩
   ·exact ⟨a,fd,ps,h4 n ih,h1,h2,h3⟩
end
theorem zip_look:∀ (ps:List Str) (us:List Value),us.length=ps.length→∀ n∈ps,((ps.zip us).lookup n).isNone=false
 | p::ps,u::us,hl,n,hn=>by
  rw [List.zip_cons_cons,List.lookup_cons]
  cases e:n==p with
  | true=>rfl
  | false=>exact zip_look ps us (by simpa using hl) n ((List.mem_cons.mp hn).resolve_left fun z=>by subst z;simp at e)
theorem zip_fm:∀ (ps:List Str) (us:List Value),us.length=ps.length→ps.Nodup→ps.filterMap (fun n=>((ps.zip us).lookup n).map (n,·))=ps.zip us
 | [],us,_,_=>by cases us<;>rfl
 | p::ps,u::us,hl,hn=>by
  rw [List.nodup_cons] at hn
  rw [List.zip_cons_cons,List.filterMap_cons,List.lookup_cons,beq_self_eq_true]
  simp only [Option.map_some]
  congr 1
  refine Eq.trans (fm_congr fun n h=>?_) (zip_fm ps us (by simpa using hl) hn.2)
  rw [List.lookup_cons]
  cases e:n==p with
  | true=>rw [eq_of_beq e] at h;exact absurd h hn.1
  | false=>rfl
theorem bind_plain {fd:FuncData} {as:List Arg} {us:List Value} (h:fd.params=⟨[],as,none,[],[],none,[]⟩) (hd:fd.defaults=.none) (hn:(as.map (·.arg)).Nodup) (hl:us.length=(as.map (·.arg)).length):bindArgs fd ⟨us,[]⟩=pure ((as.map (·.arg)).zip us):=by
 have e1:((as.map (·.arg)).filter fun n=>(((as.map (·.arg)).zip us).lookup n).isNone)=[]:=List.filter_eq_nil_iff.mpr fun n hn=>by rw [zip_look _ us hl n hn];simp
 have e2:=zip_fm _ us hl hn
 have e3:seqItems? Value.none=(pure none:Sem _):=rfl
 unfold bindArgs
 rw [h,hd]
 dsimp only
 generalize as.map (·.arg)=ps at hn hl e1 e2 ⊢
 simp only [List.map_nil,List.nil_append,List.append_nil,List.forIn_nil,pure_bind,e3,Option.getD_none,List.length_nil,hl,gt_iff_lt,Nat.lt_irrefl,decide_false,Bool.false_and,Bool.false_eq_true,if_false,Nat.zero_sub,List.drop_zero,Nat.sub_zero,List.take_length,e1,List.isEmpty_nil,Bool.not_true,List.drop_length,List.zip_nil_left,e2]
 done
def del (H:Hp) (c:Addr):Hp:=fun b=>if b=c then none else H b
theorem del_same {H:Hp} {c:Addr}:del H c c=none:=by unfold del;rw [if_pos rfl]
theorem del_ne {H:Hp} {b c:Addr} (h:b≠c):del H c b=H b:=by unfold del;rw [if_neg h]
theorem of_del {H:Hp} {b c:Addr} {u:HO} (h:del H c b=some u):b≠c∧H b=some u:=by
 by_cases hb:b=c
 ·subst hb;rw [del_same] at h;cases h
 ·rw [del_ne hb] at h;exact ⟨hb,h⟩
abbrev lab (o:Obj):HO:=.frz o (.own 0)
section
variable {P:Program} {w:World} {H H' F F':Hp} {h h':Heap} {c:Addr} {o:Obj} {K:PySem.W.Frag}
theorem hok_del (x:HOk P w H h) (e:H c=some (lab o)):HOk P w (del H c) h:=fun a v q=>by
 obtain ⟨hne,q⟩:=of_del q
 exact (x a v q).stay (fun _ _ _ q=>q) (fun b q=>by rw [del_ne (ne_of q e (by intro z;cases z))];exact q) fun b xs q=>by rw [del_ne (ne_of q e (by intro z;cases z))];exact q
theorem hok_add (x:HOk P w H h) (e:H c=none) (ho:h.get? c=some o):HOk P w (upd H c (lab o)) h:=fun a v q=>by
 by_cases ha:a=c
 ·subst ha;rw [upd_same] at q;cases q;exact ⟨ho,o,ho⟩
 ·rw [upd_ne ha] at q
  exact (x a v q).stay (fun _ _ _ q=>q) (fun b q=>by rw [upd_ne (ne_of_none q e)];exact q) fun b xs q=>by rw [upd_ne (ne_of_none q e)];exact q
theorem un_out {fs:List Addr} (u:Un fs [] (upd H c (lab o)) H' h h') (k:HOk P w H' h') (hc:H c=none) (ho:h.get? c=some o) (hf:c∉fs):Un fs [] H (del H' c) h h':=by
 have hl:H' c=some (lab o):=u.frzs c _ _ upd_same
 have hg:h'.get? c=some o:=(k c _ hl).1
 have up:∀ {b},b≠c→H b=none→upd H c (lab o) b=none:=fun {b} hb n=>by rw [upd_ne hb];exact n
 refine ⟨fun b ob q n hb hx=>?_,fun b ob q n hb hx=>?_,fun b ob q n hx=>?_,fun b ob q hx=>u.there b ob q hx,fun b xs q=>?_,fun b ob v q=>?_,fun b ps q=>?_⟩
 ·by_cases hbc:b=c
  ·subst hbc;rw [ho] at q;cases q;exact hg
  ·exact u.keep b ob q (up hbc n) hb hx
 ·exact u.slot b ob q (up (fun z=>hf (z▸hb)) n) hb hx
 ·by_cases hbc:b=c
  ·subst hbc;exact del_same
  ·rw [del_ne hbc];exact u.free b ob q (up hbc n) hx
 ·have:=ne_of_none q hc
  rw [del_ne this];exact u.tups b xs (by rw [upd_ne this];exact q)
 ·have:=ne_of_none q hc
  rw [del_ne this];exact u.frzs b ob v (by rw [upd_ne this];exact q)
 ·have:=ne_of_none q hc
  rw [del_ne this];exact u.tbls b ps (by rw [upd_ne this];exact q)
theorem un_in {fs:List Addr} (u:Un fs [] (del H c) H' h h') (hc:H c=some (lab o)) (ho:h.get? c=some o) (hf:c∉fs):Un fs [] H (upd H' c (lab o)) h h':=by
 have dn:∀ {b},H b=none→b≠c:=fun {b} n z=>by subst z;rw [hc] at n;cases n
 refine ⟨fun b ob q n hb hx=>u.keep b ob q (by rw [del_ne (dn n)];exact n) hb hx,fun b ob q n hb hx=>u.slot b ob q (by rw [del_ne (dn n)];exact n) hb hx,fun b ob q n hx=>?_,fun b ob q hx=>u.there b ob q hx,fun b xs q=>?_,fun b ob v q=>?_,fun b ps q=>?_⟩
 ·rw [upd_ne (dn n)];exact u.free b ob q (by rw [del_ne (dn n)];exact n) hx
 ·have:=ne_of q hc (by intro z;cases z)
  rw [upd_ne this];exact u.tups b xs (by rw [del_ne this];exact q)
 ·by_cases hb:b=c
  ·subst hb;rw [hc] at q;cases q;exact upd_same
  ·rw [upd_ne hb];exact u.frzs b ob v (by rw [del_ne hb];exact q)
 ·have:=ne_of q hc (by intro z;cases z)
  rw [upd_ne this];exact u.tbls b ps (by rw [del_ne this];exact q)
theorem tb_del {b:Addr} {x:Option Value} (e:H c=some (lab o)) (hd:o.data=.cell x) (t:TbAt H b):TbAt (del H c) b:=by
 obtain ⟨ps,h1,h2,h3⟩:=t
 refine ⟨ps,by rw [del_ne (ne_of h1 e (by intro z;cases z))];exact h1,h2,fun pos cv q=>?_⟩
 obtain ⟨a,oc,vs,tt,g1,g2,g3,g4⟩:=h3 pos cv q
 exact ⟨a,oc,vs,tt,g1,by rw [del_ne (ne_of g2 e (by intro z;cases z;rw [hd] at g3;cases g3))];exact g2,g3,g4⟩
theorem step_in {F2 H2:Hp} {x:Option Value} (S:Step F (del H c) F2 H2) (hH:H c=some (lab o)) (hd:o.data=.cell x) (h2:H2 c=none):Step F H F2 (upd H2 c (lab o)):=by
 have hf2:F2 c=none:=S.fh.free h2
 refine ⟨⟨fun b u q n=>?_,fun b q=>?_,fun b q=>?_⟩,S.ff,fun b u q=>?_,fun a z=>?_⟩
 ·by_cases hb:b=c
  ·subst hb;rw [hH] at q;cases q;exact upd_same
  ·rw [upd_ne hb];exact S.hh.st b u (by rw [del_ne hb];exact q) n
 ·by_cases hb:b=c
  ·subst hb;rw [upd_same] at q;cases q
  ·rw [upd_ne hb] at q;have:=S.hh.fr b q;rw [del_ne hb] at this;exact this
 ·exact (S.hh.tb b (tb_del hH hd q)).up (fun a p u q=>by rw [upd_ne (ne_of_none q h2)];exact q) fun a ps q=>by rw [upd_ne (ne_of_none q h2)];exact q
 ·rw [upd_ne (ne_of_none q hf2)];exact S.fh b u q
 ·have ha:a≠c:=fun e=>by subst e;exact z hf2
  have:=S.nw a z
  rw [del_ne ha] at this
  exact this
theorem step_out {F2 H2:Hp} {x:Option Value} (S:Step F (upd H c (lab o)) F2 H2) (hF:F c=none) (hH:H c=none) (hd:o.data=.cell x):Step F H F2 (del H2 c):=by
 have h2:H2 c=some (lab o):=S.hh.st c _ upd_same rfl
 have hf2:F2 c=none:=by
  cases q:F2 c with
  | none=>rfl
  | some u =>
   rcases S.nw c (by rw [q];simp) with z | z
   ·exact absurd hF z
   ·rw [upd_same] at z;cases z
 refine ⟨⟨fun b u q n=>?_,fun b q=>?_,fun b q=>?_⟩,S.ff,fun b u q=>?_,fun a z=>?_⟩
 ·have hb:=ne_of_none q hH
  rw [del_ne hb];exact S.hh.st b u (by rw [upd_ne hb];exact q) n
 ·by_cases hb:b=c
  ·subst hb;exact hH
  ·rw [del_ne hb] at q;have:=S.hh.fr b q;rw [upd_ne hb] at this;exact this
 ·refine tb_del h2 hd (S.hh.tb b (q.up (fun a p u q=>?_) fun a ps q=>?_))
  ·rw [upd_ne (ne_of_none q hH)];exact q
  ·rw [upd_ne (ne_of_none q hH)];exact q
 ·rw [del_ne (ne_of_none q hf2)];exact S.fh b u q
 ·have ha:a≠c:=fun e=>by subst e;exact z hf2
  have:=S.nw a z
  rw [upd_ne ha] at this
  exact this
end
def lamPx:Str:="_law_bent_part"
def lamNx:Str:="_law_number"
def lamE:E:=.call "_law_otherwise" [.var 0,.bin .fdiv (.var 1) (.cst (.int 4096))]
def d_law_lam:Fd:=⟨2,2,[.ret lamE]⟩
structure LamS (lp:Arguments) (lb:Expr) (ls:Scope):Prop where
 kind:ls.kind=.function
 co:ls.isCoroutine=false
 gen:ls.isGenerator=false
 nocell:∀ x∈ls.names,x.2≠.cell
 free:∀ x∈ls.names,x.2=.free→x.1=lamNx
 px:ls.names.lookup lamPx=some .local
 nx:ls.names.lookup lamNx=some .free
 par:∃ a,lp=⟨[],[a],none,[],[],none,[]⟩∧a.arg=lamPx
 tr:trV 60 ⟨ls,[lamPx,lamNx]⟩ lb=some lamE
abbrev lamO (lp:Arguments) (lb:Expr) (ls:Scope) (c:Addr) (pm:Value) (cd:Addr) (ctv:Value):Obj:=PySem.W.kla_obj "<lambda>" lamQ lp lb ls [(lamNx,c)] pm cd ctv
structure LamAt (lp:Arguments) (lb:Expr) (ls:Scope) (F H:Hp) (f:Addr) (k:Int):Prop where
 ex:∃ (c cd:Addr) (pm ctv:Value) (oc cob:Obj) (vs:Array Value) (t:Nat) (u:Value),H f=some (lab (lamO lp lb ls c pm cd ctv))∧F c=none∧H c=some (lab cob)∧cob.data=.cell (some u)∧RelV (.int k) u ∧
  H cd=some (lab oc)∧oc.data=.fields vs∧vs[1]?=some (.str lamQ t)
theorem LamAt.up {lp:Arguments} {lb:Expr} {ls:Scope} {F H F' H':Hp} {f:Addr} {k:Int} (h:LamAt lp lb ls F H f k) (S:Step F H F' H'):LamAt lp lb ls F' H' f k:=by
 obtain ⟨c,cd,pm,ctv,oc,cob,vs,t,u,h1,h0,h2,h3,h4,h5,h6,h7⟩:=h.ex
 refine ⟨c,cd,pm,ctv,oc,cob,vs,t,u,S.hh.st _ _ h1 rfl,?_,S.hh.st _ _ h2 rfl,h3,h4,S.hh.st _ _ h5 rfl,h6,h7⟩
 cases q:F' c with
 | none=>rfl
 | some v =>
  rcases S.nw c (by rw [q];simp) with z | z
  ·exact absurd h0 z
  ·rw [h2] at z;cases z
def cxL (P:Program) (w:World) (K:PySem.W.Frag) (mg:Str→Option Value) (base:Heap) (ls:Scope) (f c:Addr) (cd:Value) (A:Around) (outer:List PySem.Env) (s:Shared) (H:Hp):Cx where
 prog:=P
 w:=w
 K:=K
 mg:=mg
 base:=base
 A:=A.deeper (PySem.W.envX lamQ ls s.heap.objs.size f cd [(lamNx,c)])
 N:=[lamPx,lamNx]
 s₀:=s
 H₀:=H
 env:=PySem.W.envX lamQ ls s.heap.objs.size f cd [(lamNx,c)]
 outer:=outer
 stack:=PySem.W.envX lamQ ls s.heap.objs.size f cd [(lamNx,c)]::outer
 ex:=[]
 calm:=true
 fn:=fun _=>false
 pn:=[]
 xe:=fun _ _=>False
theorem cell1 {x:Str} {c d:Addr} (h:List.lookup x [(lamNx,c)]=some d):x=lamNx∧d=c:=by
 rw [List.lookup_cons] at h
 split at h
 ·rename_i e
  cases h
  exact ⟨eq_of_beq e,rfl⟩
 ·cases h
section
variable {P:Program} {w:World} {K:PySem.W.Frag} {mg:Str→Option Value} {base:Heap} {R:Pr} {lp:Arguments} {lb:Expr} {ls:Scope}
theorem inv_lam {f c:Addr} {cd:Value} {A:Around} {outer:List PySem.Env} {s:Shared} {H:Hp} {v1:V} {u1 u:Value} {k:Int} {cob:Obj} {h':Heap} {tk:Tok} (L:LamS lp lb ls) (hd:A.handled=none) (e0:Env0 P w K mg base A outer s H)
  (hc:s.heap.get? c=some cob) (hcd:cob.data=.cell (some u)) (hn:H c=none) (ru:RelV (.int k) u) (r1:RelV v1 u1)
  (hns:h'.Ns s.heap.objs.size (fun x=>[(lamPx,u1)].reverse.lookup x)) (hk:∀ b o,s.heap.get? b=some o→h'.get? b=some o) :
  Inv (cxL P w K mg base ls f c cd A outer s H) [] [some v1,some (.int k)] H { s with heap:=h',toks:=tk }:=by
 have noA:∀ b:Addr,b∉(cxL P w K mg base ls f c cd A outer s H).ex:=fun b z=>absurd (show b∈([]:List Addr) from z) (by simp)
 have cl:∀ {x:Str} {d:Addr},(cxL P w K mg base ls f c cd A outer s H).env.cells.lookup x=some d→x=lamNx∧d=c:=fun {x d} h=>cell1 h
 have cn:List.lookup lamNx [(lamNx,c)]=some c:=by rw [List.lookup_cons,beq_self_eq_true]
 refine ⟨⟨e0.mod,L.kind,rfl,rfl,Nat.le_refl _,fun y z d h1 h2=>?_,fun y hy=>?_,fun y d z h=>?_,fun _=>hd,Around.frames_deeper e0.frames,.inr ⟨rfl,rfl⟩,fun b z=>absurd z (noA b),e0.bs,e0.bsz,fun b _ _=>noA b,fun b z=>absurd z (noA b),e0.funs,e0.frf⟩,
  rfl,e0.bare,Un.kept hk,⟨_,hns,fun i y v h1 h2 h3=>?_⟩,fun y d h=>?_,e0.hok.fresh (Nat.le_refl _),fun y d h=>?_,fun p hp=>absurd (show p∈([]:List (Addr × Obj)) from hp) (by simp),e0.hok.kept hk,rfl⟩
 ·rw [(cl h1).1,(cl h2).1]
 ·have hy:ls.names.lookup y=some .cell∨ls.names.lookup y=some .free:=hy
  rcases hy with hy | hy
  ·exact absurd rfl (L.nocell _ (PySem.mem_of_lookup hy))
  ·have:y=lamNx:=L.free _ (PySem.mem_of_lookup hy) rfl
   exact ⟨c,by rw [this];exact cn⟩
 ·cases z
 ·match i,h1,h2 with
  | 0,h1,h2 =>
   cases h1;cases h2
   exact ⟨u1,r1,.inl ⟨L.px,by show List.lookup lamPx [(lamPx,u1)]=some u1;rw [List.lookup_cons,beq_self_eq_true]⟩⟩
  | 1,h1,h2 =>
   cases h1;cases h2
   exact ⟨u,ru,.inr ⟨.inr L.nx,c,cn,cob,hk _ _ hc,hcd⟩⟩
  | _+2,h1,_=>cases h1
 ·rw [(cl h).2];exact ⟨_,cob,hk _ _ hc,hcd⟩
 ·rw [(cl h).2];exact hn
theorem gd_lam {n:Nat} (L:LamS lp lb ls) (ih:KnAll P w K mg base R n) (nob:∀ x∈bnames,mg x=none) (con:∀ x t,R.con x=some t→∃ u v,mg x=some u∧RelV v u∧∀ F,Rep K F t v)
  {f c:Addr} {cd:Value} {A:Around} {outer:List PySem.Env} {s:Shared} {H:Hp} (hr:Room (n+1) A):Gd (cxL P w K mg base ls f c cd A outer s H) ⟨ls,[lamPx,lamNx]⟩ (glo R (run R n)) n where
 room:=hr.deeper _
 calm:=rfl
 nob:=nob
 call:=fun g ts t hp hg=>by
  have hD:∃ D',R.fn g=some D':=by
   cases n with
   | zero=>cases hg
   | succ m =>
    have hg:run R (m+1) g ts=some t:=hg
    rw [run] at hg
    obtain ⟨D',h1,_⟩:=obs hg
    exact ⟨D',h1⟩
  obtain ⟨D',hD⟩:=hD
  exact ih n (Nat.le_refl n) g D' hp hD
 con:=con
 vis:=fun x h=>by
  show ls.names.lookup x=_∨ls.names.lookup x=_∨ls.names.lookup x=_
  have h:visB ls x=true:=h
  unfold visB at h
  cases e:ls.names.lookup x with
  | none=>rw [e] at h;cases h
  | some q =>
   rw [e] at h
   cases q with
   | «local»=>exact .inl rfl
   | cell=>exact .inr (.inl rfl)
   | free=>exact .inr (.inr rfl)
   | _=>cases h
 gl:=fun x h=>by
  show ls.names.lookup x=_
  simpa [glB] using h
 cap:=fun x h=>h
 nd:=by show [lamPx,lamNx].Nodup;decide +kernel
theorem lam_pure {n:Nat} {t1 t:T} {k:Int} (hl:R.fn ".lam"=some d_law_lam) (he:run R (n+1) ".lam" [t1,.int k]=some t):evE (glo R (run R n)) lamE [some t1,some (.int k)]=some t:=by
 rw [run,hl] at he
 have key:∀ o:Option T,resultOf ((o.map Out.rt).bind fun o=>match o with | .nx τ'=>evSs (glo R (run R n)) [] τ' | o=>some o)=some t→o=some t:=fun o h=>by
  cases o with
  | none=>cases h
  | some x=>cases h;rfl
 exact key _ he
theorem lam_call {n:Nat} (L:LamS lp lb ls) (hl:R.fn ".lam"=some d_law_lam) (ih:KnAll P w K mg base R n) (nob:∀ x∈bnames,mg x=none) (con:∀ x t,R.con x=some t→∃ u v,mg x=some u∧RelV v u∧∀ F,Rep K F t v)
  {A:Around} {outer:List PySem.Env} {s:Shared} {H F:Hp} {f:Addr} {k:Int} {t1 t:T} {v1:V} {u1:Value} {Q:VK} (hr:Room (n+1) A) (e0:Env0 P w K mg base A outer s H) (fh:Same F H) (tb:Tbk K F H) (la:LamAt lp lb ls F H f k)
  (r1:Rep K F t1 v1) (ru1:RelV v1 u1) (he:run R (n+1) ".lam" [t1,.int k]=some t) (q:∀ v F' H',Step F H F' H'→Rep K F' t v→Q v H'):codeAny (model P w) A (.call (.ref f) ⟨[u1],[]⟩) (CR CX0 outer P w H s Q E0) s:=by
 obtain ⟨c,cd,pm,ctv,oc,cob,vs,tt,u,h1,h0,hHc,h3,h4,h5,h6,h7⟩:=la.ex
 have hof:s.heap.get? f=some (lamO lp lb ls c pm cd ctv):=(e0.hok f _ h1).1
 have hoc:s.heap.get? c=some cob:=(e0.hok c _ hHc).1
 have hod:s.heap.get? cd=some oc:=(e0.hok cd _ h5).1
 have hcf:c∉frs outer:=fun z=>by have:=e0.frf c z;rw [hHc] at this;cases this
 have lim:s.heap.NoLimit:=e0.mod.nolimit.keeps fun b o e=>(e0.bs b o e).1
 have e1:Env0 P w K mg base A outer s (del H c):=⟨e0.frames,e0.mod,fun b o e=>⟨(e0.bs b o e).1,by
   have:=(e0.bs b o e).2
   rw [del_ne fun z=>by subst z;rw [hHc] at this;cases this];exact this⟩,e0.bsz,e0.funs,fun b z=>by
   have:=e0.frf b z
   rw [del_ne fun z=>by subst z;rw [hHc] at this;cases this];exact this,hok_del e0.hok hHc,e0.bare⟩
 refine PySem.W.kla_callFunE hr.depth hof rfl L.co L.gen rfl ⟨cd,oc,vs,tt,rfl,hod,h6,h7⟩ ?_
 obtain ⟨a,rfl,ha⟩:=L.par
 rw [show bindArgs (PySem.W.kla_fn "<lambda>" lamQ ⟨[],[a],none,[],[],none,[]⟩ lb ls [(lamNx,c)] pm (.ref cd) ctv) ⟨[u1],[]⟩=pure [(lamPx,u1)] by
  have:=bind_plain (fd:=PySem.W.kla_fn "<lambda>" lamQ ⟨[],[a],none,[],[],none,[]⟩ lb ls [(lamNx,c)] pm (.ref cd) ctv) (as:=[a]) (us:=[u1]) rfl rfl (by simp) rfl
  rw [this,← ha];rfl]
 refine wpAny_pure (wpAny_newFunctionEnv L.nocell (fun x hx=>by cases List.mem_singleton.mp hx;exact L.px) (fun h' hns hsb=>?_) L.kind)
 have hk:∀ b o,s.heap.get? b=some o→h'.get? b=some o:=fun b o e=>hsb.extBut b o (Nat.ne_of_lt (Heap.lt_size e)) (Heap.get?_push_of_some _ e)
 refine ⟨lim.keeps hk,?_⟩
 show codeAny _ _ (.expr lb (PySem.W.envX lamQ ls s.heap.objs.size f (.ref cd) [(lamNx,c)])) _ _
 refine PySem.W.kla_codeExpr ?_
 have I:=inv_lam (f:=f) (cd:=.ref cd) (tk:=s.toks+[(lamPx,u1)].length) L hr.hd e1 hoc h3 del_same h4 ru1 hns hk
 have pe:=(snd_all (glo R (run R n)) n 60).v (gd_lam (f:=f) (c:=c) (cd:=.ref cd) (outer:=outer) (s:=s) (H:=del H c) L ih nob con hr) L.tr
 refine wpAny_mono (pe [] _ _ _ (fun v H2=>∃ F2,Step F (del H c) F2 H2∧Rep K F2 t v) I ⟨[some t1,some (.int k)],F,t,⟨fun b u q=>by rw [del_ne (ne_of_none q h0)];exact fh b u q,fun p z=>⟨(tb p z).1,tb_del hHc h3 (tb p z).2⟩,fun x i t' _ hi _ hr'=>?_⟩,lam_pure hl he,fun v F' H' S r=>⟨F',S,r⟩⟩) (fun u' s' h=>?_) fun e s' h=>h.elim
 ·have hN:=nameIx_get hi
  match i,hr' with
  | 0,hr'=>cases hr';exact ⟨0,v1,hN,rfl,r1⟩
  | 1,hr'=>cases hr';exact ⟨1,.int k,hN,rfl,rfl⟩
  | _+2,hr'=>cases hr'
 ·obtain ⟨v,H',J,rv,F2,S,r⟩:=h
  have hn:H' c=none:=J.freeC lamNx c (by show List.lookup lamNx [(lamNx,c)]=some c;rw [List.lookup_cons,beq_self_eq_true])
  have hc':s'.heap.get? c=some cob:=J.base.keep c cob hoc del_same hcf (by simp [cxL])
  exact ⟨v,upd H' c (lab cob),J.os,J.bare,un_in J.base hHc hoc hcf,hok_add J.hok hn hc',rv,q v _ _ (step_in S hHc h3 hn) r⟩
end
theorem env_of {X:Cx} {c:Tc} {r:Env} {F H:Hp} {σ:L2.St} (hN:X.N=c.nm) (fh:Same F H) (tb:Tbk X.K F H) (h:∀ (i:Nat) (t:T),r[i]?=some (some t)→∃ v,σ[i]?=some (some v)∧Rep X.K F t v):EnvE X c r F σ H :=
 ⟨fh,tb,fun x i t _ hi _ hr=>by
  obtain ⟨v,h1,h2⟩:=h i t hr
  exact ⟨i,v,by rw [hN];exact nameIx_get hi,h1,h2⟩⟩
section
variable {R:Pr} {lp:Arguments} {lb:Expr} {ls:Scope} {X:Cx}
def spLam (lp:Arguments) (lb:Expr) (ls:Scope) (K:PySem.W.Frag) (R:Pr) (m i j:Nat):TE:=fun σ H Q=>∃ F t1 k t v1 f,σ[i]?=some (some (V.ref f))∧σ[j]?=some (some v1)∧Same F H∧Tbk K F H∧Rep K F t1 v1∧LamAt lp lb ls F H f k∧run R m ".lam" [t1,.int k]=some t ∧
 ∀ v F' H',Step F H F' H'→Rep K F' t v→Q v H'
theorem pe_lam {n:Nat} (L:LamS lp lb ls) (hl:R.fn ".lam"=some d_law_lam) (ih:KnAll X.prog X.w X.K X.mg X.base R n) (nob:∀ x∈bnames,X.mg x=none) (con:∀ x t,R.con x=some t→∃ u v,X.mg x=some u∧RelV v u∧∀ F,Rep X.K F t v)
  (hr:Room (n+1) X.A) {i j:Nat} {x y:Str} {p p2 pos:Pos} (hx:X.N[i]?=some x) (vx:Vis X.env.scope x) (dx:(x==("__debug__":Str))=false) (cx:(x==("__classdict__":Str))=false)
  (hy:X.N[j]?=some y) (vy:Vis X.env.scope y) (dy:(y==("__debug__":Str))=false) (cy:(y==("__classdict__":Str))=false):PE X (.Call (.Name x p) [.Name y p2] [] pos) (spLam lp lb ls X.K R (n+1) i j):=by
 intro pins s σ H Q I h
 obtain ⟨F,t1,k,t,v1,f,h1,h2,fh,tb,r1,la,he,q⟩:=h
 refine wpAny_Call_Name_kw (thn (pe_var hx vx dx cx pins s σ H (fun v H1=>v=V.ref f∧H1=H) I ⟨_,h1,rfl,rfl⟩) fun u s1 ⟨v,H1,I1,rv,e1,e2⟩=>?_)
 subst e1 e2
 obtain rfl:u=.ref f:=rv
 have pa:=pa_cons (pe_var (pos:=p2) hy vy dy cy) (pa_nil (X:=X)) rfl pos pins s1 σ H1 (fun vs H2=>vs=[v1]∧H2=H1) I1 ⟨v1,h2,rfl,rfl⟩
 obtain ⟨c,cd,pm,ctv,_,_,_,_,_,hF,_⟩:=la.ex
 refine PySem.W.callWith_of (P:=fun h=>h.get? f=some (lamO lp lb ls c pm cd ctv)) rfl (fun h e=>⟨.frame,.inl rfl,(PySem.W.Looks.ld (part:=none) e).andThen .now⟩) (Calls.evalArgs_plain (thn pa fun us s2 ⟨vs,H2,I2,rv2,e3,e4⟩=>?_))
 subst e3 e4
 have hf:s2.heap.get? f=some (lamO lp lb ls c pm cd ctv):=(I2.hok f _ hF).1
 refine ⟨hf,?_⟩
 cases rv2 with
 | cons ru1 rn =>
  cases rn
  refine wpAny_call (codeAny_mono (lam_call L hl ih nob con hr I2.env0 fh tb la r1 ru1 he q) fun r s' hq=>?_)
  cases r with
  | error e=>exact hq.elim
  | ok fl =>
   cases fl with
   | ret u=>exact I2.after hq
   | next=>exact False.elim hq
   | brk=>exact False.elim hq
   | cont=>exact False.elim hq
end
def putO:Str:="_law_bent_one"
def putW:Str:="_law_bent_way"
def putB:Str:="_law_bent_by"
def putA:Str:="_law_bent_at"
def putF:Str:="_law_put_at"
def putN:List Str:=[putO,putW,putB,putA,lamPx]
def putE0:E:=.cmp .eq (.var 1) (.tup [])
def putE1:E:=.idx (.var 1) (.cst (.int 0))
def putE2:E:=.idx (.var 0) (.var 3)
def putE3:E:=.sli (.var 1) (some (.cst (.int 1))) none
def putE4:E:=.bin .add (.bin .add (.sli (.var 0) none (some (.var 3))) (.tup [.var 4])) (.sli (.var 0) (some (.bin .add (.var 3) (.cst (.int 1)))) none)
def d_law_put_at:Fd:=⟨3,5,[.ite putE0 [.ret (.call ".lam" [.var 0,.var 2])] [],
  .asg 3 putE1,
  .asg 4 (.call ".put" [putE2,putE3,.var 2]),
  .ret putE4]⟩
abbrev putC (st:Stmt):Tc:=⟨defScope st,putN⟩
def noE:Expr:=.Name "" ⟨0,0,0,0⟩
def sAt (b:List Stmt) (i:Nat):Stmt:=b.getD i (.Pass ⟨0,0,0,0⟩)
def ifT:Stmt→Expr | .If t _ _ _=>t | _=>noE
def ifB:Stmt→List Stmt | .If _ a _ _=>a | _=>[]
def stE:Stmt→Expr | .Assign _ e _=>e | .Return (some e) _=>e | _=>noE
def stG:Stmt→Expr | .Assign [t] _ _=>t | _=>noE
def stP:Stmt→Pos | .If _ _ _ p=>p | .Assign _ _ p=>p | .Return _ p=>p | _=>⟨0,0,0,0⟩
def exA:Expr→Nat→Expr | .Call _ es _ _,i=>es.getD i noE | .Subscript o i _,n=>(if n=0 then o else i) | _,_=>noE
def exF:Expr→Expr | .Call f _ _ _=>f | _=>noE
def exP:Expr→Pos | .Name _ p=>p | .Call _ _ _ p=>p | .Subscript _ _ p=>p | _=>⟨0,0,0,0⟩
def putForm (b:List Stmt):List Stmt :=
 [.If (ifT (sAt b 0)) [.Return (some (.Call (.Name putB (exP (exF (stE (sAt (ifB (sAt b 0)) 0))))) [.Name putO (exP (exA (stE (sAt (ifB (sAt b 0)) 0)) 0))] [] (exP (stE (sAt (ifB (sAt b 0)) 0))))) (stP (sAt (ifB (sAt b 0)) 0))] [] (stP (sAt b 0)),
  .Assign [.Name putA (exP (stG (sAt b 1)))] (.Subscript (exA (stE (sAt b 1)) 0) (exA (stE (sAt b 1)) 1) (exP (stE (sAt b 1)))) (stP (sAt b 1)),
  .Assign [.Name lamPx (exP (stG (sAt b 2)))] (.Call (.Name putF (exP (exF (stE (sAt b 2))))) [exA (stE (sAt b 2)) 0,exA (stE (sAt b 2)) 1,.Name putB (exP (exA (stE (sAt b 2)) 2))] [] (exP (stE (sAt b 2)))) (stP (sAt b 2)),
  .Return (some (stE (sAt b 3))) (stP (sAt b 3))]
structure PutS (st:Stmt):Prop where
 nm:fnNames (defScope st)=putN
 sc:FnScope putN [putO,putW,putB] (defScope st)
 kd:([putA,lamPx,putF].map fun x=>(defScope st).names.lookup x)=[some .local,some .local,some .globalImplicit]
 bd:defBody st=putForm (defBody st)
 tr:(trT 60 (putC st) (ifT (sAt (defBody st) 0)),trV 60 (putC st) (.Subscript (exA (stE (sAt (defBody st) 1)) 0) (exA (stE (sAt (defBody st) 1)) 1) (exP (stE (sAt (defBody st) 1)))),trV 60 (putC st) (exA (stE (sAt (defBody st) 2)) 0),trV 60 (putC st) (exA (stE (sAt (defBody st) 2)) 1),trV 60 (putC st) (stE (sAt (defBody st) 3))) =
  (some putE0,some putE1,some putE2,some putE3,some putE4)
def spP (lp:Arguments) (lb:Expr) (ls:Scope) (K:PySem.W.Frag) (g:List T→Option T):Sp:=fun vs H Q _=>∃ F t1 t2 k t v1 v2 f,vs=[v1,v2,V.ref f]∧Same F H∧Tbk K F H∧Rep K F t1 v1∧Rep K F t2 v2∧LamAt lp lb ls F H f k∧g [t1,t2,.int k]=some t ∧
 ∀ v F' H',Step F H F' H'→Rep K F' t v→Q v H'
theorem put_pure {R:Pr} {n:Nat} {t1 t2 t:T} {k:Int} (hp:R.fn ".put"=some d_law_put_at) (h:run R (n+1) ".put" [t1,t2,.int k]=some t) :
  ∃ b,evE (glo R (run R n)) putE0 [some t1,some t2,none,none,none]=some (.bl b)∧(b=true→run R n ".lam" [t1,.int k]=some t) ∧
   (b=false→∃ a x y z,evE (glo R (run R n)) putE1 [some t1,some t2,none,none,none]=some a∧evE (glo R (run R n)) putE2 [some t1,some t2,none,some a,none]=some x∧evE (glo R (run R n)) putE3 [some t1,some t2,none,some a,none]=some y ∧
    run R n ".put" [x,y,.int k]=some z∧evE (glo R (run R n)) putE4 [some t1,some t2,none,some a,some z]=some t):=by
 rw [run,hp] at h
 have h:resultOf (evSs (glo R (run R n)) d_law_put_at.body [.val t1,.val t2,.val (.int k),.no,.no])=some t:=h
 cases o1:evS (glo R (run R n)) (.ite putE0 [.ret (.call ".lam" [.var 0,.var 2])] []) [.val t1,.val t2,.val (.int k),.no,.no] with
 | none=>rw [show d_law_put_at.body=_::_ from rfl,evSs,o1] at h;cases h
 | some o =>
  rw [show d_law_put_at.body=_::_ from rfl,evSs,o1] at h
  have o1:((evE (glo R (run R n)) putE0 [some t1,some t2,none,none,none]).bind fun x=>match x with
   | .bl true=>evSs (glo R (run R n)) [.ret (.call ".lam" [.var 0,.var 2])] [.val t1,.val t2,.val (.int k),.no,.no]
   | .bl false=>evSs (glo R (run R n)) [] [.val t1,.val t2,.val (.int k),.no,.no]
   | _=>none)=some o:=o1
  obtain ⟨x,hx,o1⟩:=obs o1
  cases x with
  | bl b =>
   refine ⟨b,hx,fun hb=>?_,fun hb=>?_⟩
   ·subst hb
    have o1:(((run R n ".lam" [t1,.int k]).map Out.rt).bind fun o=>match o with | .nx τ'=>evSs (glo R (run R n)) [] τ' | o=>some o)=some o:=o1
    cases hz:run R n ".lam" [t1,.int k] with
    | none=>rw [hz] at o1;cases o1
    | some z=>rw [hz] at o1;cases o1;cases h;rfl
   ·subst hb
    have o1:some (Out.nx [.val t1,.val t2,.val (.int k),.no,.no])=some o:=o1
    cases o1
    have h:resultOf (((evE (glo R (run R n)) putE1 [some t1,some t2,none,none,none]).bind fun a=>some (Out.nx [.val t1,.val t2,.val (.int k),.val a,.no])).bind fun o=>match o with
     | .nx τ'=>evSs (glo R (run R n)) [.asg 4 (.call ".put" [putE2,putE3,.var 2]),.ret putE4] τ'
     | o=>some o)=some t:=h
    cases ha:evE (glo R (run R n)) putE1 [some t1,some t2,none,none,none] with
    | none=>rw [ha] at h;cases h
    | some a =>
     rw [ha] at h
     have h:resultOf ((((evE (glo R (run R n)) putE2 [some t1,some t2,none,some a,none]).bind fun x=>((evE (glo R (run R n)) putE3 [some t1,some t2,none,some a,none]).bind fun y=>some [y,T.int k]).bind fun r=>some (x::r)).bind fun ys=>run R n ".put" ys).bind (fun z=>some (Out.nx [.val t1,.val t2,.val (.int k),.val a,.val z])) |>.bind fun o=>match o with
      | .nx τ'=>evSs (glo R (run R n)) [.ret putE4] τ'
      | o=>some o)=some t:=h
     cases hx2:evE (glo R (run R n)) putE2 [some t1,some t2,none,some a,none] with
     | none=>rw [hx2] at h;cases h
     | some x =>
      rw [hx2] at h
      cases hy:evE (glo R (run R n)) putE3 [some t1,some t2,none,some a,none] with
      | none=>rw [hy] at h;cases h
      | some y =>
       rw [hy] at h
       have h:resultOf ((run R n ".put" [x,y,.int k]).bind (fun z=>some (Out.nx [.val t1,.val t2,.val (.int k),.val a,.val z])) |>.bind fun o=>match o with
        | .nx τ'=>evSs (glo R (run R n)) [.ret putE4] τ'
        | o=>some o)=some t:=h
       cases hz:run R n ".put" [x,y,.int k] with
       | none=>rw [hz] at h;cases h
       | some z =>
        rw [hz] at h
        have h:resultOf (((evE (glo R (run R n)) putE4 [some t1,some t2,none,some a,some z]).map Out.rt).bind fun o=>match o with
         | .nx τ'=>evSs (glo R (run R n)) [] τ'
         | o=>some o)=some t:=h
        refine ⟨a,x,y,z,rfl,hx2,hy,hz,?_⟩
        cases hw:evE (glo R (run R n)) putE4 [some t1,some t2,none,some a,some z] with
        | none=>rw [hw] at h;cases h
        | some w=>rw [hw] at h;cases h;rfl
  | _=>cases o1
section
variable {P:Program} {w:World} {K:PySem.W.Frag} {mg:Str→Option Value} {base:Heap} {R:Pr} {lp:Arguments} {lb:Expr} {ls:Scope}
theorem put_fn {x qual:Str} {st:Stmt} {a:Addr} {fd:FuncData} (L:LamS lp lb ls) (hl:R.fn ".lam"=some d_law_lam) (hp:R.fn ".put"=some d_law_put_at) (FU:Fun K x qual st a fd) (S:PutS st) (hm:mg putF=some (.ref a)) (hk:PySem.W.keepIn K (.ref a)=true)
  (bi:Binds K fd [putO,putW,putB] []) (nob:∀ x∈bnames,mg x=none) (con:∀ x t,R.con x=some t→∃ u v,mg x=some u∧RelV v u∧∀ F,Rep K F t v) :
  ∀ n,KnAll P w K mg base R n→FnOk P w K mg base CX0 n a fd [putO,putW,putB] (spP lp lb ls K (run R n ".put"))
 | 0,_=>by
  have no:∀ vs H Q E,¬ spP lp lb ls K (run R 0 ".put") vs H Q E:=fun vs H Q E h=>by
   obtain ⟨F,t1,t2,k,t,v1,v2,f,_,_,_,_,_,_,h,_⟩:=h
   cases h
  exact ⟨fun vs H Q E h=>absurd h (no vs H Q E),fun A outer s H args us vs Q E _ _ _ _ h=>absurd h (no vs H Q E)⟩
 | n+1,ihA=>by
  have ih:KnAll P w K mg base R n:=fun m hm=>ihA m (by omega)
  have again:=put_fn L hl hp FU S hm hk bi nob con n ih
  have sc:=S.sc
  have hnm:=S.nm
  have hb:=S.bd
  have htr:=S.tr
  simp only [Prod.mk.injEq] at htr
  obtain ⟨g0,g1,g2,g3,g4⟩:=htr
  have hkd:=S.kd
  simp only [List.map_cons,List.map_nil,List.cons.injEq,and_true] at hkd
  obtain ⟨k1,k2,k3⟩:=hkd
  rw [← hnm] at sc
  refine FU.ok sc (fun vs H Q E h=>?_) (fun cdv A outer s H vs Q E hr h=>?_)
  ·obtain ⟨F,t1,t2,k,t,v1,v2,f,rfl,_⟩:=h
   rfl
  obtain ⟨F,t1,t2,k,t,v1,v2,f,rfl,fh,tb,r1,r2,la,h,q⟩:=h
  obtain ⟨b,hb0,hT,hF⟩:=put_pure hp h
  cases n with
  | zero =>
   cases b with
   | true=>cases hT rfl
   | false=>obtain ⟨_,_,_,_,_,_,_,z,_⟩:=hF rfl;cases z
  | succ m =>
   have gd:=gd_fn (outer:=outer) (H:=H) (E:=E) ih nob con sc hr
   rw [hnm] at gd ⊢
   have S':=snd_all (glo R (run R (m+1))) (m+1) 60
   have nd:(cxOf CX0 P w K mg base putN qual (defScope st) a cdv A outer s H E).nox.N.Nodup:=S.sc.nd
   have par:∀ x∈[putO,putW,putB],Vis (cxOf CX0 P w K mg base putN qual (defScope st) a cdv A outer s H E).nox.env.scope x:=fun x hx=>(S.sc.par x hx).imp id .inl
   have vO:=par putO (by simp)
   have vB:=par putB (by simp)
   have ihm:KnAll P w K mg base R m:=fun j hj=>ih j (by omega)
   rw [hb]
   unfold putForm
   generalize defBody st=bd at g0 g1 g2 g3 g4 ⊢
   refine ⟨_,pss_cons (ps_if (S'.t gd g0).1 (pss_one (ps_ret (pe_lam (i:=2) (j:=0) L hl ihm nob con hr rfl vB (by decide +kernel) (by decide +kernel) rfl vO (by decide +kernel) (by decide +kernel)))) pss_nil)
    (pss_cons (ps_set (i:=3) nd rfl (.inl k1) (S'.v gd g1) (swap_ok g1 (fun _ _ _ _ z=>nomatch z) _ _ _) (.inl rfl))
    (pss_cons (ps_set (i:=4) nd rfl (.inl k2) (pe_call again hr k3 hm hk bi .nil pass0 (pa_cons (S'.v gd g2) (pa_cons (S'.v gd g3) (pa_cons (pe_var (i:=2) rfl vB (by decide +kernel) (by decide +kernel)) pa_nil rfl) (star_ok g3 _ _)) (star_ok g2 _ _)) (by decide +kernel) (star_ok g2 _ _) (by rw [star_ok g3];rfl)) rfl (.inl rfl)) (pss_one (ps_ret (S'.v gd g4))))),?_⟩
   refine ⟨[some t1,some t2,none,none,none],F,b,env_of rfl fh tb fun i t' hi=>?_,hb0,fun F1 H1 S1=>?_⟩
   ·match i,hi with
    | 0,hi=>cases hi;exact ⟨v1,rfl,r1⟩
    | 1,hi=>cases hi;exact ⟨v2,rfl,r2⟩
    | 2,hi=>cases hi
    | 3,hi=>cases hi
    | 4,hi=>cases hi
    | _+5,hi=>cases hi
   cases b with
   | true =>
    rw [if_pos rfl]
    exact ⟨F1,t1,k,t,v1,f,rfl,rfl,S1.fh,tb.up S1,r1.mono S1.ff,la.up S1,hT rfl,fun v F' H' S2 r=>q v F' H' (S1.trans S2) r⟩
   | false =>
    rw [if_neg Bool.false_ne_true]
    obtain ⟨a',x',y',z',c1,c2,c3,c4,c5⟩:=hF rfl
    refine ⟨[some t1,some t2,none,none,none],F1,a',env_of rfl S1.fh (tb.up S1) fun i t' hi=>?_,c1,fun va F2 H2 S2 ra=>?_⟩
    ·match i,hi with
     | 0,hi=>cases hi;exact ⟨v1,rfl,r1.mono S1.ff⟩
     | 1,hi=>cases hi;exact ⟨v2,rfl,r2.mono S1.ff⟩
     | 2,hi=>cases hi
     | 3,hi=>cases hi
     | 4,hi=>cases hi
     | _+5,hi=>cases hi
    have S12:=S1.trans S2
    have env2:∀ {F3 H3:Hp},Step F2 H2 F3 H3→EnvE (cxOf CX0 P w K mg base putN qual (defScope st) a cdv A outer s H E).nox (putC st) [some t1,some t2,none,some a',none] F3 [some v1,some v2,some (.ref f),some va,none] H3:=fun {F3 H3} S3=>env_of rfl S3.fh (tb.up (S12.trans S3)) fun i t' hi=>by
     match i,hi with
     | 0,hi=>cases hi;exact ⟨v1,rfl,r1.mono (S12.trans S3).ff⟩
     | 1,hi=>cases hi;exact ⟨v2,rfl,r2.mono (S12.trans S3).ff⟩
     | 2,hi=>cases hi
     | 3,hi=>cases hi;exact ⟨va,rfl,ra.mono S3.ff⟩
     | 4,hi=>cases hi
     | _+5,hi=>cases hi
    refine ⟨_,F2,x',env2 (Step.refl S2.fh),c2,fun vx F3 H3 S3 rx=>?_⟩
    refine ⟨_,F3,y',env2 S3,c3,fun vy F4 H4 S4 ry=>?_⟩
    have S14:=S12.trans (S3.trans S4)
    refine ⟨.ref f,rfl,F4,x',y',k,z',vx,vy,f,rfl,S4.fh,tb.up S14,rx.mono S4.ff,ry,la.up S14,c4,fun vz F5 H5 S5 rz=>?_⟩
    have S15:=S14.trans S5
    refine ⟨[some t1,some t2,none,some a',some z'],F5,t,env_of rfl S5.fh (tb.up S15) fun i t' hi=>?_,c5,fun v F' H' S6 r=>q v F' H' (S15.trans S6) r⟩
    match i,hi with
    | 0,hi=>cases hi;exact ⟨v1,rfl,r1.mono S15.ff⟩
    | 1,hi=>cases hi;exact ⟨v2,rfl,r2.mono S15.ff⟩
    | 2,hi=>cases hi
    | 3,hi=>cases hi;exact ⟨va,rfl,ra.mono (S3.trans (S4.trans S5)).ff⟩
    | 4,hi=>cases hi;exact ⟨vz,rfl,rz⟩
    | _+5,hi=>cases hi
end
theorem among_snoc {pos:Pos} {i j:Int} {c cv:Value}:∀ (n:Nat) (l:List Value),l.length≤n→TriplesOk l→codeAmong pos (l++[rawInt i,rawInt j,c])=some cv→codeAmong pos l=some cv∨cv=c:=by
 intro n
 induction n with
 | zero =>
  intro l hl ht h
  obtain rfl:l=[]:=List.length_eq_zero_iff.mp (by omega)
  have h:(if (i==pos.line&&j==pos.col)=true then some c else codeAmong pos [])=some cv:=h
  split at h
  ·cases h;exact .inr rfl
  ·exact .inl h
 | succ n ih =>
  intro l hl ht h
  unfold TriplesOk at ht
  split at ht
  ·have h:(if (i==pos.line&&j==pos.col)=true then some c else codeAmong pos [])=some cv:=h
   split at h
   ·cases h;exact .inr rfl
   ·exact .inl h
  ·rename_i a s b t d rest
   have h:(if (a==pos.line&&b==pos.col)=true then some d else codeAmong pos (rest++[rawInt i,rawInt j,c]))=some cv:=h
   show (if (a==pos.line&&b==pos.col)=true then some d else codeAmong pos rest)=some cv∨cv=c
   split at h
   ·rename_i e;rw [if_pos e];exact .inl h
   ·rename_i e;rw [if_neg e];exact ih rest (by simp at hl;omega) ht h
  ·exact ht.elim
theorem trip_snoc {i j:Int} {c:Value}:∀ (n:Nat) (l:List Value),l.length≤n→TriplesOk l→TriplesOk (l++[rawInt i,rawInt j,c]):=by
 intro n
 induction n with
 | zero =>
  intro l hl ht
  obtain rfl:l=[]:=List.length_eq_zero_iff.mp (by omega)
  exact trivial
 | succ n ih =>
  intro l hl ht
  unfold TriplesOk at ht
  split at ht
  ·exact trivial
  ·rename_i a s b t d rest
   exact ih rest (by simp at hl;omega) ht
  ·exact ht.elim
structure TabK (K:PySem.W.Frag) (mg:Str→Option Value) (cc p:Addr):Prop where
 tab:tabOf K=some p
 hd:∀ h,K.In h→PySem.W.CodeHd h cc p
 bm:∀ h,K.In h→h.BuiltinsAt mg p
section
variable {lp:Arguments} {lb:Expr} {ls:Scope} {X:Cx} {cc p:Addr}
def spMk (lp:Arguments) (lb:Expr) (ls:Scope) (X:Cx) (c:Addr):TE:=fun σ H Q=>∃ F,Same F H∧Tbk X.K F H ∧
 ∀ (f cd:Addr) (pm ctv:Value) (oc:Obj) (vs:Array Value) (t:Nat) (H':Hp),Step F H F H'→H' f=some (lab (lamO lp lb ls c pm cd ctv))→H' cd=some (lab oc)→oc.data=.fields vs→vs[1]?=some (.str lamQ t)→Q (V.ref f) H'
theorem step_tab {F H:Hp} {ps:Array Value} {cd:Addr} {oc:Obj} {vs:Array Value} {t:Nat} {i j:Int} (fh:Same F H) (hF:F p=none) (hp:H p=some (.tbl ps)) (ht:TriplesOk ps.toList) (hps:∀ pos cv,codeAmong pos ps.toList=some cv→CdAt H cv)
  (hc:H cd=none) (hd:oc.data=.fields vs) (hv:vs[1]?=some (.str lamQ t)):Step F H F (upd (upd H p (.tbl (ps++#[rawInt i,rawInt j,.ref cd]))) cd (lab oc)):=by
 have hcp:p≠cd:=ne_of_none hp hc
 have frz:∀ a o u,H a=some (.frz o u)→upd (upd H p (.tbl (ps++#[rawInt i,rawInt j,.ref cd]))) cd (lab oc) a=some (.frz o u):=fun a o u e=>by
  rw [upd_ne (ne_of_none e hc),upd_ne (ne_of e hp (by intro z;cases z))];exact e
 refine ⟨⟨fun b u q n=>?_,fun b q=>?_,fun b q=>?_⟩,Same.refl F,fun b u q=>?_,fun a z=>.inl z⟩
 ·rw [upd_ne (ne_of_none q hc),upd_ne (ne_of q hp (by intro z;subst z;cases n))];exact q
 ·by_cases h1:b=cd
  ·subst h1;exact hc
  ·rw [upd_ne h1] at q
   by_cases h2:b=p
   ·subst h2;rw [upd_same] at q;cases q
   ·rw [upd_ne h2] at q;exact q
 ·by_cases hb:b=p
  ·subst hb
   refine ⟨_,by rw [upd_ne hcp];exact upd_same,?_,fun pos cv e=>?_⟩
   ·rw [Array.toList_append];exact trip_snoc _ _ (Nat.le_refl _) ht
   ·rw [Array.toList_append] at e
    rcases among_snoc _ _ (Nat.le_refl _) ht e with e | rfl
    ·exact (hps pos cv e).up frz
    ·exact ⟨cd,oc,vs,t,rfl,upd_same,hd,hv⟩
  ·obtain ⟨qs,g1,g2,g3⟩:=q
   exact ⟨qs,by rw [upd_ne (ne_of_none g1 hc),upd_ne hb];exact g1,g2,fun pos cv e=>(g3 pos cv e).up frz⟩
 ·have:=fh b u q
  rw [upd_ne (ne_of_none this hc),upd_ne (ne_of_none q hF)];exact this
theorem pe_mk {pos:Pos} {c:Addr} (L:LamS lp lb ls) (clo:closureFor ls X.env=pure [(lamNx,c)]) (hq:X.env.qual++"<lambda>"=lamQ) (hcode:X.env.code=.ref cc) (T:TabK X.K X.mg cc p):PE X (.Lambda lp lb ls pos) (spMk lp lb ls X c):=by
 intro pins s σ H Q I h
 obtain ⟨F,fh,tb,q⟩:=h
 obtain ⟨hF,ps,hp,ht,hps⟩:=tb p T.tab
 have hP:s.heap.get? p=some (PySem.W.tabObj ps):=I.hok p _ hp
 have hg:=I.mod.glob.keeps I.bk
 have hgP:mainGlobals≠p:=fun z=>by
  obtain ⟨o,es,ep,e,hd,_⟩:=hg
  rw [z,hP] at e;cases e;cases hd
 have hb:=T.bm _ I.kIn
 have hC:=T.hd _ I.kIn
 obtain ⟨a,hlp,_⟩:=L.par
 refine PySem.W.kla_eval (by rw [hlp];rfl) ?_
 rw [hq]
 cases hca:codeAmong pos ps.toList with
 | some cv =>
  obtain ⟨cd,oc,vs,t,rfl,g2,g3,g4⟩:=hps pos cv hca
  refine PySem.W.kla_makeFunctionHit clo I.ok.glob hg hcode hC hP ht hca hb fun ctv h' tk hk hsz=>?_
  show EP X pins σ Q (.ref h'.objs.size) { s with heap:=h'.push (lamO lp lb ls c ((X.mg "__name__").getD .none) cd ctv),toks:=tk }
  generalize hlo:lamO lp lb ls c ((X.mg "__name__").getD .none) cd ctv=lo
  have hk':∀ b o,s.heap.get? b=some o→(h'.push lo).get? b=some o:=fun b o e=>Heap.get?_push_of_some _ (hk b o e)
  have hn:H h'.objs.size=none:=I.hok.fresh hsz
  have hnew:(h'.push lo).get? h'.objs.size=some lo:=Heap.get?_push_size _ (by rw [← hlo];rfl)
  have un:Un (frs X.stack) [] H (upd H h'.objs.size (lab lo)) s.heap (h'.push lo):=Un.laid hk' hsz hn
  have ok:HOk X.prog X.w (upd H h'.objs.size (lab lo)) (h'.push lo):=I.hok.laid hk' hsz ⟨hnew,_,hnew⟩
  have J:=I.call (g':=s.gens) (d':=s.drawn) (t':=tk) un ok I.bare (fun b z=>absurd z (by simp))
  exact ⟨V.ref h'.objs.size,_,J,rfl,q h'.objs.size cd ((X.mg "__name__").getD .none) ctv oc vs t _ ((Step.refl fh).newH (o:=lab lo) hn) (by rw [hlo];exact upd_same) (by rw [upd_ne (ne_of_none g2 hn)];exact g2) g3 g4⟩
 | none =>
  refine PySem.W.kla_makeFunction clo I.ok.glob hg hcode hC hP ht hca hgP hb fun cd ctv h' tk hx hge hlt hrec htb=>?_
  obtain ⟨cd2,oc,vs,t,e2,hoc,hd,hv⟩:=hrec
  cases e2
  show EP X pins σ Q (.ref h'.objs.size) { s with heap:=h'.push (lamO lp lb ls c ((X.mg "__name__").getD .none) cd ctv),toks:=tk }
  generalize hlo:lamO lp lb ls c ((X.mg "__name__").getD .none) cd ctv=lo
  have hc0:H cd=none:=I.hok.fresh hge
  have S1:=step_tab (i:=pos.line) (j:=pos.col) fh hF hp ht hps hc0 hd hv
  have hsz:s.heap.objs.size≤h'.objs.size:=Nat.le_trans hge (Nat.le_of_lt hlt)
  have hn0:H h'.objs.size=none:=I.hok.fresh hsz
  have hpf:p≠h'.objs.size:=ne_of_none hp hn0
  have hcf:cd≠h'.objs.size:=Nat.ne_of_lt hlt
  have hcp:p≠cd:=ne_of_none hp hc0
  generalize hH1:upd (upd H p (.tbl (ps++#[rawInt pos.line,rawInt pos.col,.ref cd]))) cd (lab oc)=H1 at S1
  have e1:∀ b,b≠p→b≠cd→H1 b=H b:=fun b h1 h2=>by rw [← hH1,upd_ne h2,upd_ne h1]
  have e2:H1 p=some (.tbl (ps++#[rawInt pos.line,rawInt pos.col,.ref cd])):=by rw [← hH1,upd_ne hcp];exact upd_same
  have e3:H1 cd=some (lab oc):=by rw [← hH1];exact upd_same
  have hn:H1 h'.objs.size=none:=by rw [e1 _ (Ne.symm hpf) (Ne.symm hcf)];exact hn0
  have hnew:(h'.push lo).get? h'.objs.size=some lo:=Heap.get?_push_size _ (by rw [← hlo];rfl)
  have k1:∀ b o,b≠p→s.heap.get? b=some o→h'.get? b=some o:=fun b o hb e=>hx b o hb e
  have old:∀ {b:Addr} {u:HO},H b=some u→b≠p→H1 b=some u:=fun {b u} e hb=>by rw [e1 b hb (ne_of_none e hc0)];exact e
  have un1:Un (frs X.stack) [] H H1 s.heap h':=by
   refine ⟨fun b o e n _ _=>k1 b o (fun z=>by subst z;rw [hp] at n;cases n) e,fun b o e n _ _=>⟨o.slots,k1 b o (fun z=>by subst z;rw [hp] at n;cases n) e⟩,fun b o e n _=>?_,fun b o e _=>?_,fun b xs e=>old e (ne_of e hp (by intro z;cases z)),fun b o u e=>old e (ne_of e hp (by intro z;cases z)),fun b qs e=>?_⟩
   ·rw [e1 b (fun z=>by subst z;rw [hp] at n;cases n) (Nat.ne_of_lt (Nat.lt_of_lt_of_le (Heap.lt_size e) hge))];exact n
   ·by_cases hb:b=p
    ·subst hb;exact ⟨_,htb⟩
    ·exact ⟨o,k1 b o hb e⟩
   ·by_cases hb:b=p
    ·subst hb;rw [hp] at e;cases e;exact ⟨_,e2⟩
    ·exact ⟨#[],by rw [old e hb];simp⟩
  have ok1:HOk X.prog X.w H1 h':=fun b u e=>by
   by_cases hb:b=p
   ·subst hb;rw [e2] at e;cases e;exact htb
   ·by_cases hbc:b=cd
    ·subst hbc;rw [e3] at e;cases e;exact ⟨hoc,_,hoc⟩
    ·rw [e1 b hb hbc] at e
     exact (I.hok b u e).stay (fun b' o h1 h2=>k1 b' o (by
      rcases h1 with rfl | h1
      ·exact hb
      ·exact ne_of h1 hp (by intro z;cases z)) h2) (fun b' q=>old q (ne_of q hp (by intro z;cases z))) fun b' xs q=>old q (ne_of q hp (by intro z;cases z))
  have kp:∀ b o,h'.get? b=some o→(h'.push lo).get? b=some o:=fun b o e=>Heap.get?_push_of_some _ e
  have un:Un (frs X.stack) [] H (upd H1 h'.objs.size (lab lo)) s.heap (h'.push lo):=un1.trans (Un.laid kp (Nat.le_refl _) hn)
  have ok:HOk X.prog X.w (upd H1 h'.objs.size (lab lo)) (h'.push lo):=ok1.laid kp (Nat.le_refl _) ⟨hnew,_,hnew⟩
  have J:=I.call (g':=s.gens) (d':=s.drawn) (t':=tk) un ok I.bare (fun b z=>absurd z (by simp))
  exact ⟨V.ref h'.objs.size,_,J,rfl,q h'.objs.size cd ((X.mg "__name__").getD .none) ctv oc vs t _ (S1.newH (o:=lab lo) hn) (by rw [hlo];exact upd_same) (by rw [upd_ne hcf];exact e3) hd hv⟩
end
def spoF:Str:="_law_spoilt"
def spoT:Str:="_law_thing"
def spoD:Str:="_law_deep"
def spoW:Str:="_law_bent_ways"
def spoN:List Str:=[spoT,lamNx,spoD,spoW,putW]
def spoS1:S:=.asg 3 (.call "_law_places_in" [.var 0,.tup []])
def spoE2:E:=.idx (.var 3) (.bin .mod (.var 1) (.blt .len (.var 3)))
def d_law_bent:Fd:=⟨3,5,[spoS1,.asg 4 spoE2,.ret (.call ".put" [.var 0,.var 4,.var 1])]⟩
def lamOf (e:Expr):Arguments × Expr × Scope × Pos:=match e with
 | .Lambda a b s p=>(a,b,s,p)
 | _=>(⟨[],[],none,[],[],none,[]⟩,noE,defScope (.Pass ⟨0,0,0,0⟩),⟨0,0,0,0⟩)
abbrev spoL (st:Stmt):Arguments × Expr × Scope × Pos:=lamOf (exA (stE (sAt (defBody st) 2)) 2)
def spoForm (b:List Stmt):List Stmt :=
 [sAt b 0,sAt b 1,.Return (some (.Call (.Name putF (exP (exF (stE (sAt b 2))))) [.Name spoT (exP (exA (stE (sAt b 2)) 0)),.Name putW (exP (exA (stE (sAt b 2)) 1)),.Lambda (lamOf (exA (stE (sAt b 2)) 2)).1 (lamOf (exA (stE (sAt b 2)) 2)).2.1 (lamOf (exA (stE (sAt b 2)) 2)).2.2.1 (lamOf (exA (stE (sAt b 2)) 2)).2.2.2] [] (exP (stE (sAt b 2))))) (stP (sAt b 2))]
structure SpoS (st:Stmt):Prop where
 nm:fnNames (defScope st)=spoN
 sc:FnScope spoN [spoT,lamNx,spoD] (defScope st)
 kd:([spoT,putW,lamNx,putF].map fun x=>(defScope st).names.lookup x)=[some .local,some .local,some .cell,some .globalImplicit]
 bd:defBody st=spoForm (defBody st)
 tr:(trS 60 ⟨defScope st,spoN⟩ (sAt (defBody st) 0),trS 60 ⟨defScope st,spoN⟩ (sAt (defBody st) 1))=(some spoS1,some (.asg 4 spoE2))
 lam:LamS (spoL st).1 (spoL st).2.1 (spoL st).2.2.1
 clo:∀ (env:PySem.Env) (c:Addr),env.cells.lookup lamNx=some c→closureFor (spoL st).2.2.1 env=pure [(lamNx,c)]
theorem spo_pure {R:Pr} {n:Nat} {t1 t2 t3 t:T} (hs:R.fn spoF=some d_law_bent) (h:run R (n+1) spoF [t1,t2,t3]=some t) :
  ∃ W y k,t2=.int k∧evS (glo R (run R n)) spoS1 [.val t1,.val t2,.val t3,.no,.no]=some (.nx [.val t1,.val t2,.val t3,.val W,.no])∧evS (glo R (run R n)) (.asg 4 spoE2) [.val t1,.val t2,.val t3,.val W,.no]=some (.nx [.val t1,.val t2,.val t3,.val W,.val y]) ∧
   run R n ".put" [t1,y,.int k]=some t:=by
 rw [run,hs] at h
 have h:resultOf ((((run R n "_law_places_in" [t1,.tup []]).bind fun W=>some (Out.nx [.val t1,.val t2,.val t3,.val W,.no])).bind fun o=>match o with
  | .nx τ'=>evSs (glo R (run R n)) [.asg 4 spoE2,.ret (.call ".put" [.var 0,.var 4,.var 1])] τ'
  | o=>some o))=some t:=h
 have e1:evS (glo R (run R n)) spoS1 [.val t1,.val t2,.val t3,.no,.no]=(run R n "_law_places_in" [t1,.tup []]).bind fun W=>some (Out.nx [.val t1,.val t2,.val t3,.val W,.no]):=rfl
 cases hW:run R n "_law_places_in" [t1,.tup []] with
 | none=>rw [hW] at h;cases h
 | some W =>
  rw [hW] at h e1
  have h:resultOf (((evE (glo R (run R n)) spoE2 [some t1,some t2,some t3,some W,none]).bind fun y=>some (Out.nx [.val t1,.val t2,.val t3,.val W,.val y])).bind fun o=>match o with
   | .nx τ'=>evSs (glo R (run R n)) [.ret (.call ".put" [.var 0,.var 4,.var 1])] τ'
   | o=>some o)=some t:=h
  have e2:evS (glo R (run R n)) (.asg 4 spoE2) [.val t1,.val t2,.val t3,.val W,.no]=(evE (glo R (run R n)) spoE2 [some t1,some t2,some t3,some W,none]).bind fun y=>some (Out.nx [.val t1,.val t2,.val t3,.val W,.val y]):=rfl
  cases hy:evE (glo R (run R n)) spoE2 [some t1,some t2,some t3,some W,none] with
  | none=>rw [hy] at h;cases h
  | some y =>
   rw [hy] at h e2
   have hk:∃ k,t2=.int k:=by
    have hy:((some W).bind fun x=>((some t2).bind fun a=>(evE (glo R (run R n)) (.blt .len (.var 3)) [some t1,some t2,some t3,some W,none]).bind fun b=>modT a b).bind fun i=>idxT x i)=some y:=hy
    obtain ⟨_,_,hy⟩:=obs hy
    obtain ⟨_,hy,_⟩:=obs hy
    obtain ⟨a,ha,hy⟩:=obs hy
    cases ha
    obtain ⟨b,_,hy⟩:=obs hy
    cases t2 with
    | int k=>exact ⟨k,rfl⟩
    | _=>cases b<;>cases hy
   obtain ⟨k,rfl⟩:=hk
   have h:resultOf (((run R n ".put" [t1,y,.int k]).map Out.rt).bind fun o=>match o with
    | .nx τ'=>evSs (glo R (run R n)) [] τ'
    | o=>some o)=some t:=h
   refine ⟨W,y,k,rfl,e1,e2,?_⟩
   cases hz:run R n ".put" [t1,y,.int k] with
   | none=>rw [hz] at h;cases h
   | some z=>rw [hz] at h;cases h;rfl
section
variable {R:Pr} {lp:Arguments} {lb:Expr} {ls:Scope} {X:Cx} {cc p:Addr}
def spMp (K:PySem.W.Frag) (R:Pr) (n:Nat):TE:=fun σ H Q=>∃ F t1 t2 k t v1 v2,σ[0]?=some (some v1)∧σ[4]?=some (some v2)∧σ[1]?=some (some (V.int k))∧Same F H∧Tbk K F H∧Rep K F t1 v1∧Rep K F t2 v2∧run R n ".put" [t1,t2,.int k]=some t ∧
 ∀ v F' H',Step F H F' H'→Rep K F' t v→Q v H'
theorem pe_mp {n:Nat} {a c:Addr} {fd:FuncData} {p0 p1 p2 pl pos:Pos} (L:LamS lp lb ls) (FP:FnOk X.prog X.w X.K X.mg X.base CX0 n a fd [putO,putW,putB] (spP lp lb ls X.K (run R n ".put"))) (hr:Room n X.A) (hm:X.mg putF=some (.ref a)) (hk:PySem.W.keepIn X.K (.ref a)=true) (bi:Binds X.K fd [putO,putW,putB] [])
  (hN:X.N=spoN) (vT:Vis X.env.scope spoT) (vW:Vis X.env.scope putW) (kN:X.env.kindOf lamNx=some .cell) (gF:Gl X putF) (hc:X.env.cells.lookup lamNx=some c) (hfn:X.fn lamNx=true) (clo:closureFor ls X.env=pure [(lamNx,c)]) (hq:X.env.qual++"<lambda>"=lamQ) (hcode:X.env.code=.ref cc) (T:TabK X.K X.mg cc p) :
  PE X (.Call (.Name putF p0) [.Name spoT p1,.Name putW p2,.Lambda lp lb ls pl] [] pos) (spMp X.K R n):=by
 intro pins s σ H Q I h
 obtain ⟨F,t1,t2,k,t,v1,v2,s1,s2,s3,fh,tb,r1,r2,he,q⟩:=h
 have pa:=pa_cons (pe_var (X:=X) (i:=0) (pos:=p1) (by rw [hN];rfl) vT (by decide +kernel) (by decide +kernel)) (pa_cons (pe_var (i:=4) (pos:=p2) (by rw [hN];rfl) vW (by decide +kernel) (by decide +kernel)) (pa_cons (pe_mk (pos:=pl) L clo hq hcode T) pa_nil rfl) rfl) rfl
 refine wpAny_Call_Name_kw (ld_glob I gF hm ?_ (by decide +kernel))
 refine PySem.W.callWith_K (h₀:=X.base) I.ok.mod.kin hk (thn (pa pos pins s σ H (fun vs H1=>∃ (f cd:Addr) (pm ctv:Value) (oc:Obj) (ovs:Array Value) (tt:Nat),vs=[v1,v2,V.ref f]∧Step F H F H1∧H1 f=some (lab (lamO lp lb ls c pm cd ctv))∧H1 cd=some (lab oc)∧oc.data=.fields ovs∧ovs[1]?=some (.str lamQ tt)) I
  ⟨v1,s1,v2,s2,F,fh,tb,fun f cd pm ctv oc ovs tt H1 S g1 g2 g3 g4=>⟨f,cd,pm,ctv,oc,ovs,tt,rfl,S,g1,g2,g3,g4⟩⟩) fun us s4 ⟨vs,H1,I1,rv,f,cd,pm,ctv,oc,ovs,tt,hvs,S1,g1,g2,g3,g4⟩=>⟨I1.kIn,?_⟩) rfl rfl
 subst hvs
 obtain ⟨m,hn,hl⟩:=I1.loc
 obtain ⟨u,ru,hlk⟩:=hl 1 lamNx (.int k) (by rw [hN];rfl) s3 (.inr (.inl kN))
 have hcell:s4.heap.IsCell c (some u):=by
  rcases hlk with ⟨z,_⟩ | ⟨_,c',h1,h2⟩
  ·rw [kN] at z;cases z
  ·rw [hc] at h1;cases h1;exact h2
 obtain ⟨cob,hoc,hcd⟩:=hcell
 have hHc:H1 c=none:=I1.freeC lamNx c hc
 have hFc:F c=none:=S1.fh.free hHc
 have cab:=I1.ok.cab lamNx c hfn hc
 have hcs:c∉frs X.stack:=fun z=>by
  rcases List.mem_cons.mp (I1.stkSub c z) with e | hb
  ·exact I1.cne lamNx c hc e
  ·obtain ⟨_,o,ho,_⟩:=I1.ok.funs.mem hb
   exact absurd (Nat.lt_of_lt_of_le (Heap.lt_size ho) cab) (Nat.lt_irrefl _)
 have e0:=I1.env0
 have e1:Env0 X.prog X.w X.K X.mg X.base X.A X.stack s4 (upd H1 c (lab cob)):=⟨e0.frames,e0.mod,fun b o e=>⟨(e0.bs b o e).1,by
   rw [upd_ne fun z=>by
    subst z
    exact absurd (Nat.lt_of_lt_of_le (Nat.lt_of_lt_of_le (Heap.lt_size e) I1.ok.bsz) cab) (Nat.lt_irrefl _)];exact (e0.bs b o e).2⟩,e0.bsz,e0.funs,fun b z=>by
   have hbc:b≠c:=fun y=>by subst y;exact hcs z
   rw [upd_ne hbc];exact e0.frf b z,hok_add e0.hok hHc hoc,e0.bare⟩
 have sm:Same H1 (upd H1 c (lab cob)):=same_new hHc
 have la:LamAt lp lb ls F (upd H1 c (lab cob)) f k:=⟨c,cd,pm,ctv,oc,cob,ovs,tt,u,sm _ _ g1,hFc,upd_same,hcd,ru,sm _ _ g2,g3,g4⟩
 have r2':Vals ([v1,v2,V.ref f]++[]) (us++[]):=rv.append .nil
 have hl2:(us++[]).length=[putO,putW,putB].length:=by rw [← r2'.length];rfl
 show wpAny (model X.prog X.w) X.A (call (.ref a) us) (EP X pins σ Q) X.xe s4
 refine wpAny_call (codeAny_mono (FP.run X.A X.stack s4 (upd H1 c (lab cob)) ⟨us,[]⟩ (us++[]) ([v1,v2,V.ref f]++[]) (fun v H'=>∃ F',Step F (upd H1 c (lab cob)) F' H'∧Rep X.K F' t v) E0 hr e1 (bi s4 us I1.kIn hl2) r2'
  ⟨F,t1,t2,k,t,v1,v2,f,rfl,S1.fh.trans sm,fun p z=>⟨(tb.up S1 p z).1,(tb.up S1 p z).2.up (fun a o u e=>sm _ _ e) fun a ps e=>sm _ _ e⟩,r1,r2,la,he,fun v F' H' S r=>⟨F',S,r⟩⟩) fun r s' hq=>?_)
 cases r with
 | error e=>exact hq.elim
 | ok fl =>
  cases fl with
  | ret u' =>
   obtain ⟨v,H',os,bare,un,hok,rv',F',S,r⟩:=hq
   exact I1.after ⟨v,del H' c,os,bare,un_out un hok hHc hoc hcs,hok_del hok (un.frzs c _ _ upd_same),rv',q v F' _ (S1.trans (step_out S hFc hHc hcd)) r⟩
  | next=>exact False.elim hq
  | brk=>exact False.elim hq
  | cont=>exact False.elim hq
end
section
variable {P:Program} {w:World} {K:PySem.W.Frag} {mg:Str→Option Value} {base:Heap} {R:Pr} {cc p:Addr}
theorem spo_fn {st sp:Stmt} {x qual:Str} {a ap:Addr} {fd fp:FuncData} (hl:R.fn ".lam"=some d_law_lam) (hp:R.fn ".put"=some d_law_put_at) (hs:R.fn spoF=some d_law_bent) (S:SpoS st) (FU:Fun K spoF spoF st a fd) (hcc:fnCode (K.lookup a)=some cc) (TK:TabK K mg cc p)
  (SP:PutS sp) (FP:Fun K x qual sp ap fp) (hm:mg putF=some (.ref ap)) (hk:PySem.W.keepIn K (.ref ap)=true) (bi:Binds K fp [putO,putW,putB] []) (nob:∀ x∈bnames,mg x=none) (con:∀ x t,R.con x=some t→∃ u v,mg x=some u∧RelV v u∧∀ F,Rep K F t v)
  (n:Nat) (ih:KnAll P w K mg base R n):FnOk P w K mg base CX0 (n+1) a fd [spoT,lamNx,spoD] (spT K (run R (n+1) spoF)):=by
 have PF:=put_fn (P:=P) (w:=w) (base:=base) S.lam hl hp FP SP hm hk bi nob con n ih
 obtain ⟨oc,od,kV,doc,pm,an,cdv,ct,osl,rfl,lk,hcd⟩:=FU.ex
 have hcv:cdv=.ref cc:=by
  rw [lk] at hcc
  cases cdv with
  | ref c=>cases hcc;rfl
  | _=>cases hcc
 subst hcv
 have sc:=S.sc
 have hnm:=S.nm
 rw [← hnm] at sc
 have hkd:=S.kd
 simp only [List.map_cons,List.map_nil,List.cons.injEq,and_true] at hkd
 obtain ⟨k1,k2,k3,k4⟩:=hkd
 have htr:=S.tr
 simp only [Prod.mk.injEq] at htr
 obtain ⟨g1,g2⟩:=htr
 have inv:∀ {ts:List T} {t:T},run R (n+1) spoF ts=some t→ts.length=3:=fun {ts t} h=>by
  rw [run,hs] at h
  simp only [Option.bind_some] at h
  split at h
  ·rename_i e;exact e
  ·cases h
 refine fn_of lk hcd sc (fun vs H Q E h=>?_) fun A outer s H vs Q E hr h=>?_
 ·obtain ⟨F,ts,t,fh,tb,r,h,_⟩:=h
  rw [r.length,inv h];rfl
 obtain ⟨F,ts,t,fh,tb,r,h,q⟩:=h
 match ts,inv h,r,h with
 | [t1,t2,t3],_,r,h =>
  obtain ⟨W,y,k,rfl,e1,e2,e3⟩:=spo_pure hs h
  have gd:=gd_fn (outer:=outer) (H:=H) (E:=E) ih nob con sc hr
  have fx:Fx (cxOf CX0 P w K mg base (fnNames (defScope st)) spoF (defScope st) a (.ref cc) A outer s H E).nox ⟨defScope st,fnNames (defScope st)⟩:=⟨rfl,fun x h=>h,fun _=>rfl,rfl⟩
  rw [hnm] at gd fx ⊢
  obtain ⟨c,hc⟩:=cell_has (n:=s.heap.objs.size+1) k3
  have ps1:=(snd_stmts (F0:=F) (H0:=H) gd fx 60).1 _ _ g1
  have ps2:=(snd_stmts (F0:=F) (H0:=H) gd fx 60).1 _ _ g2
  have pe:=fun (p0 p1 p2 pl pos:Pos)=>pe_mp (X:=(cxOf CX0 P w K mg base spoN spoF (defScope st) a (.ref cc) A outer s H E).nox) (R:=R) (p0:=p0) (p1:=p1) (p2:=p2) (pl:=pl) (pos:=pos) S.lam PF hr hm hk bi rfl (.inl k1) (.inl k2) k3 k4 hc rfl (S.clo _ c hc) (by show (spoF++".<locals>.")++"<lambda>"=lamQ;decide +kernel) rfl TK
  rw [S.bd]
  unfold spoForm
  refine ⟨_,(pss_cons ps1 (pss_cons ps2 (pss_one (ps_ret (pe _ _ _ _ _))))).nox,?_⟩
  have en:EnvS (cxOf CX0 P w K mg base spoN spoF (defScope st) a (.ref cc) A outer s H E).nox F H (begin' d_law_bent [t1,.int k,t3]) (L2.start spoN vs) F H:=start_ok rfl fh tb r
  refine ⟨_,F,_,en,e1,fun σ1 F1 H1 en1 _=>⟨_,F1,_,en1,e2,fun σ2 F2 H2 en2 _=>?_⟩⟩
  obtain ⟨v1,q1,r1⟩:=en2.val 0 t1 rfl
  obtain ⟨v2,q2,r2⟩:=en2.val 4 y rfl
  obtain ⟨v3,q3,r3⟩:=en2.val 1 (.int k) rfl
  cases (show v3=.int k from r3)
  exact ⟨F2,t1,y,k,t,v1,v2,q1,q2,q3,en2.st.fh,tb.up en2.st,r1,r2,e3,fun v F' H' S' r'=>q v F' H' (en2.st.trans S') r'⟩
end
noncomputable def seeNs (h:Heap) (ns:Addr) (x:Str):Option (Option Value):=match h.get? ns with
 | some ⟨_,_,.dict es _,_⟩=>(match es.toList.find? (·.key.isStr x) with
   | some e=>some (some e.val)
   | none=>if es.toList.any (·.refKey) then none else some none)
 | _=>none
structure FnV where
 name:Str
 qual:Str
 params:Arguments
 body:FuncBody
 scope:Scope
 globals:Addr
 closure:List (Str × Addr)
 defaults:Value
 builtins:Addr
noncomputable def fnV (f:FuncData):FnV:=⟨f.name,f.qualname,f.params,f.body,f.scope,f.globals,f.closure,f.defaults,f.builtins⟩
noncomputable def fnVOf (x:Str) (st:Stmt):FnV:=fnV (PySem.W.fnOf x x (defArgs st) (defBody st) (defScope st) .none .none .none .none none .none .none)
noncomputable def seeCode (h:Heap) (cd:Value) (q:Str):Bool:=match cd with
 | .ref c=>(match h.get? c with
   | some ⟨_,_,.fields vs,_⟩=>(match vs.toList with | _::.str n _::_=>n==q | _=>false)
   | _=>false)
 | _=>false
noncomputable def seeFn (h:Heap) (x:Str):Option (FnV × Bool):=match seeNs h mainGlobals x with
 | some (some (.ref a))=>(match h.get? a with
   | some ⟨_,_,.func f,_⟩=>some (fnV f,seeCode h f.code x)
   | _=>none)
 | _=>none
noncomputable def seeT (h:Heap):Nat→Value→Option T
 | _,.none=>some .non
 | _,.bool b=>some (.bl b)
 | _,.int i _=>some (.int i)
 | _,.str x _=>some (.str x)
 | n+1,.ref a=>(match h.get? a with
   | some ⟨.type ty,_,.seq vs _,_⟩=>if ty=="tuple"&&decide (vs.size≤1000) then (mapO (seeT h n) vs.toList).map .tup else none
   | _=>none)
 | _,_=>none
noncomputable def seeC (h:Heap) (x:Str):Option T:=match seeNs h mainGlobals x with
 | some (some v)=>seeT h 4 v
 | _=>none
noncomputable def seeAll (fs bs cs:List Str) (h:Heap):List (Option (FnV × Bool)) × List (Option (Option Value)) × List (Option T):=(fs.map (seeFn h),bs.map (seeNs h mainGlobals),cs.map (seeC h))
noncomputable def dueAll (fs:List (Str × Stmt)) (bs:List Str) (cs:List (Str × T)):List (Option (FnV × Bool)) × List (Option (Option Value)) × List (Option T):=(fs.map fun p=>some (fnVOf p.1 p.2,true),bs.map fun _=>some none,cs.map fun p=>some p.2)
noncomputable def KH (h:Heap):PySem.W.Frag:=(List.range h.objs.size).filterMap fun a=>(h.get? a).map fun o=>(a,o)
theorem get_lt {h:Heap} {a:Addr} {o:Obj} (e:h.get? a=some o):a<h.objs.size:=by
 by_cases hl:a<h.objs.size
 ·exact hl
 ·have:h.objs[a]?=none:=Array.getElem?_eq_none (Nat.le_of_not_lt hl)
  unfold Heap.get? at e
  rw [this] at e
  cases e
theorem look_fm {f:Addr→Option Obj} {a:Addr}:∀ l:List Addr,((l.filterMap fun b=>(f b).map fun o=>(b,o)).lookup a)=if a∈l then f a else none
 | []=>rfl
 | b::l=>by
  have ih:=look_fm (f:=f) (a:=a) l
  rw [List.filterMap_cons]
  by_cases hab:a=b
  ·subst hab
   cases hf:f a with
   | none=>simp only [Option.map_none];rw [ih,hf];simp
   | some o=>simp only [Option.map_some];rw [List.lookup_cons];simp
  ·cases hf:f b with
   | none=>simp only [Option.map_none];rw [ih];simp [hab]
   | some o =>
    simp only [Option.map_some]
    rw [List.lookup_cons,show (a==b)=false by simpa using hab,ih]
    simp [hab]
theorem kh_look (h:Heap) (a:Addr):(KH h).lookup a=h.get? a:=by
 unfold KH
 rw [look_fm]
 split
 ·rfl
 ·rename_i hn
  cases e:h.get? a with
  | none=>rfl
  | some o=>exact absurd (List.mem_range.mpr (get_lt e)) hn
theorem kh_in {h h':Heap} (k:∀ b o,h.get? b=some o→h'.get? b=some o):(KH h).In h':=fun a o e=>k a o (by rw [← kh_look];exact e)
theorem kh_ns {h:Heap} {ns:Addr} {x:Str}:PySem.W.nsIn (KH h) ns x=seeNs h ns x:=by
 unfold PySem.W.nsIn seeNs
 rw [kh_look]
 rfl
theorem kh_code {h:Heap} {cd:Value} {q:Str}:PySem.W.codeIn (KH h) cd q=seeCode h cd q:=by
 unfold PySem.W.codeIn seeCode
 cases cd with
 | ref c=>simp only [kh_look];rfl
 | _=>rfl
theorem see_fun {h:Heap} {x:Str} {st:Stmt} (e:seeFn h x=some (fnVOf x st,true)):∃ f fd,PySem.W.nsIn (KH h) mainGlobals x=some (some (.ref f))∧Fun (KH h) x x st f fd:=by
 unfold seeFn at e
 split at e
 ·rename_i a ha
  split at e
  ·rename_i oc od f sl ho
   have e:=Option.some.inj e
   have e1:=congrArg Prod.fst e
   have e2:=congrArg Prod.snd e
   dsimp only at e1 e2
   obtain ⟨n,q,p,b,sc,g,cl,df,kd,doc,pm,an,cd,ct,bi⟩:=f
   unfold fnVOf fnV at e1
   dsimp only [PySem.W.fnOf] at e1
   obtain ⟨rfl,rfl,rfl,rfl,rfl,rfl,rfl,rfl,rfl⟩:=FnV.mk.inj e1
   have hl:(KH h).lookup a=some ⟨oc,od,.func (PySem.W.fnOf q q (defArgs st) (defBody st) (defScope st) .none kd doc pm an cd ct),sl⟩:=by rw [kh_look];exact ho
   refine ⟨a,_,by rw [kh_ns];exact ha,fun_mk hl (by rw [kh_code];exact e2) ?_⟩
   simp only [PySem.W.keepIn,hl]
  ·cases e
 ·cases e
theorem see_fn {fs:List (Str × Stmt)} {bs:List Str} {cs:List (Str × T)} {h:Heap} (e:seeAll (fs.map (·.1)) bs (cs.map (·.1)) h=dueAll fs bs cs) {p:Str × Stmt} (hp:p∈fs):seeFn h p.1=some (fnVOf p.1 p.2,true):=by
 have e1:=congrArg Prod.fst e
 unfold seeAll dueAll at e1
 dsimp only at e1
 rw [List.map_map] at e1
 exact List.map_inj_left.mp e1 p hp
theorem see_b {fs:List (Str × Stmt)} {bs:List Str} {cs:List (Str × T)} {h:Heap} (e:seeAll (fs.map (·.1)) bs (cs.map (·.1)) h=dueAll fs bs cs) {x:Str} (hx:x∈bs):seeNs h mainGlobals x=some none:=by
 have e1:=congrArg (fun p=>p.2.1) e
 unfold seeAll dueAll at e1
 dsimp only at e1
 exact List.map_inj_left.mp e1 x hx
theorem see_c {fs:List (Str × Stmt)} {bs:List Str} {cs:List (Str × T)} {h:Heap} (e:seeAll (fs.map (·.1)) bs (cs.map (·.1)) h=dueAll fs bs cs) {p:Str × T} (hp:p∈cs):seeC h p.1=some p.2:=by
 have e1:=congrArg (fun p=>p.2.2) e
 unfold seeAll dueAll at e1
 dsimp only at e1
 rw [List.map_map] at e1
 exact List.map_inj_left.mp e1 p hp
theorem see_rep {h:Heap}:∀ (n:Nat) (v:Value) (t:T),seeT h n v=some t→∃ x,RelV x v∧∀ F,Rep (KH h) F t x
 | n,.none,t,e=>by cases n<;>(cases e;exact ⟨.non,rfl,fun _=>rfl⟩)
 | n,.bool b,t,e=>by cases n<;>(cases e;exact ⟨.bl b,rfl,fun _=>rfl⟩)
 | n,.int i k,t,e=>by cases n<;>(cases e;exact ⟨.int i,⟨k,rfl⟩,fun _=>rfl⟩)
 | n,.str x k,t,e=>by cases n<;>(cases e;exact ⟨.str x,⟨k,rfl⟩,fun _=>rfl⟩)
 | n+1,.ref a,t,e=>by
  unfold seeT at e
  split at e
  ·rename_i ty dd vs en sl ho
   split at e
   ·rename_i hc
    rw [Bool.and_eq_true,decide_eq_true_eq,beq_iff_eq] at hc
    obtain ⟨ts,hm,rfl⟩:=oms e
    have all:∀ (us:List Value) (ts:List T),mapO (seeT h n) us=some ts→∃ xs,Vals xs us∧∀ F,Reps (KH h) F ts xs:=by
     intro us
     induction us with
     | nil=>intro ts h;cases h;exact ⟨[],.nil,fun _=>rfl⟩
     | cons u us ih =>
      intro ts h
      obtain ⟨t1,h1,h⟩:=obs h
      obtain ⟨tr,h2,h⟩:=obs h
      cases h
      obtain ⟨x,a1,a2⟩:=see_rep n u t1 h1
      obtain ⟨xs,b1,b2⟩:=ih tr h2
      exact ⟨x::xs,.cons a1 b1,fun F=>⟨_,_,rfl,a2 F,b2 F⟩⟩
    obtain ⟨xs,v1,v2⟩:=all _ _ hm
    obtain ⟨rfl,hsz⟩:=hc
    exact ⟨.ref a,rfl,fun F=>⟨a,xs,rfl,.inr ⟨_,vs,en,by rw [kh_look];exact ho,rfl,rfl,Nat.le_trans hsz (by decide),v1⟩,v2 F⟩⟩
   ·cases e
  ·cases e
 | 0,.ref a,t,e=>by cases e
 | n,.float ..,t,e=>by cases n<;>cases e
 | n,.ellipsis,t,e=>by cases n<;>cases e
 | n,.notImplemented,t,e=>by cases n<;>cases e
 | n,.bytes ..,t,e=>by cases n<;>cases e
 | n,.type ..,t,e=>by cases n<;>cases e
 | n,.builtin ..,t,e=>by cases n<;>cases e
theorem see_con {h0 h:Heap} {mg:Str→Option Value} {x:Str} {t:T} (KX:(KH h0).In h) (G:h.Ns mainGlobals mg) (e:seeC h0 x=some t):∃ u v,mg x=some u∧RelV v u∧∀ F,Rep (KH h0) F t v:=by
 unfold seeC at e
 split at e
 ·rename_i v hv
  obtain ⟨y,a,b⟩:=see_rep _ _ _ e
  exact ⟨v,y,PySem.W.mg_of KX G (by rw [kh_ns];exact hv),a,b⟩
 ·cases e
structure St (x:Str) (D:Fd) (st:Stmt) (ps:List Str):Prop where
 sc:FnScope (fnNames (defScope st)) ps (defScope st)
 np:ps.length=D.np
 ns:(fnNames (defScope st)).length=D.ns
 tr:trSs 60 ⟨defScope st,fnNames (defScope st)⟩ (defBody st)=some D.body
 bi:∀ (kV doc pm:Value) (an:Option Addr) (cdv ct:Value) (us:List Value),us.length=ps.length→bindArgs (PySem.W.fnOf x x (defArgs st) (defBody st) (defScope st) .none kV doc pm an cdv ct) ⟨us,[]⟩=pure (ps.zip us)
abbrev Tab:=List (Str × Fd × Stmt × List Str)
noncomputable def Tab.fns (t:Tab):List (Str × Fd):=t.map fun p=>(p.1,p.2.1)
noncomputable def Tab.sts (t:Tab):List (Str × Stmt):=t.map fun p=>(p.1,p.2.2.1)
noncomputable def Tab.pr (t:Tab) (cs:List (Str × T)):Pr:=⟨fun f=>t.fns.lookup f,fun x=>cs.lookup x⟩
theorem mem_look {α:Type}:∀ {l:List (Str × α)} {f:Str} {D:α},l.lookup f=some D→(f,D)∈l
 | [],_,_,h=>by cases h
 | (g,E)::l,f,D,h=>by
  rw [List.lookup_cons] at h
  split at h
  ·rename_i e
   cases h
   rw [eq_of_beq e]
   exact List.mem_cons_self
  ·exact List.mem_cons_of_mem _ (mem_look h)
noncomputable def stOk (D:Fd) (st:Stmt) (ps:List Str):Bool :=
 (defScope st).kind==.function&&!(defScope st).isCoroutine&&!(defScope st).isGenerator&&decide ((fnNames (defScope st)).Nodup)&&decide ((fnNames (defScope st)).take ps.length=ps) &&
 (ps.all fun x=>(defScope st).names.lookup x==some .local||(defScope st).names.lookup x==some .cell)&&((defScope st).names.all fun y=>!(y.2==.free)) &&
 decide (ps.length=D.np)&&decide ((fnNames (defScope st)).length=D.ns) &&
 (match defArgs st with | ⟨[],as,none,[],[],none,[]⟩=>decide (as.map (·.arg)=ps) | _=>false)
theorem st_of {x:Str} {D:Fd} {st:Stmt} {ps:List Str} (h:stOk D st ps=true) (tr:trSs 60 ⟨defScope st,fnNames (defScope st)⟩ (defBody st)=some D.body):St x D st ps:=by
 unfold stOk at h
 simp only [Bool.and_eq_true,Bool.not_eq_true',decide_eq_true_eq,beq_iff_eq] at h
 obtain ⟨⟨⟨⟨⟨⟨⟨⟨⟨h1,h2⟩,h3⟩,h4⟩,h5⟩,h6⟩,h7⟩,h8⟩,h9⟩,h10⟩:=h
 have hnd:ps.Nodup:=by rw [← h5];exact h4.sublist (List.take_sublist _ _)
 refine ⟨⟨h1,h2,h3,h4,h5,fun y hy=>by simpa using List.all_eq_true.mp h6 y hy,fun y hy=>by simpa using List.all_eq_true.mp h7 y hy⟩,h8,h9,tr,fun kV doc pm an cdv ct us hl=>?_⟩
 split at h10
 ·rename_i as ha
  rw [decide_eq_true_eq] at h10
  subst h10
  exact bind_plain ha rfl hnd hl
 ·cases h10
def codeH (h:Heap):Option Addr:=(nsRef (seeNs h mainGlobals "_law_spoilt")).bind fun f=>fnCode (h.get? f)
def tabH (h:Heap):Option Addr:=(codeH h).bind fun c=>fldAt 11 (h.get? c)
theorem kh_tab {h:Heap}:tabOf (KH h)=tabH h:=by
 unfold tabOf tabH codeH
 rw [kh_ns]
 cases nsRef (seeNs h mainGlobals "_law_spoilt") with
 | none=>rfl
 | some f =>
  simp only [Option.bind_some,kh_look]
def isStrV:Value→Bool | .str _ _=>true | _=>false
def isIntV:Value→Bool | .int _ _=>true | _=>false
def isBoolV:Value→Bool | .bool _=>true | _=>false
def isRefV (p:Addr):Value→Bool | .ref q=>q==p | _=>false
def codeOk (c p:Addr):Option Obj→Bool
 | some ⟨.type ty,_,.fields vs,_⟩=>ty=="code"&&decide (11<vs.size)&&isRefV p (vs.getD 11 .none)&&isStrV (vs.getD 18 .none)&&isIntV (vs.getD 7 .none)&&isBoolV (vs.getD 9 .none)&&isIntV (vs.getD 10 .none)&&!(c==p)
 | _=>false
def tab0:Option Obj→Bool
 | some ⟨.none,none,.fields vs,sl⟩=>vs.size==0&&sl.size==0
 | _=>false
def bltOk (p:Addr) (h:Heap):Bool:=match nsRef (seeNs h mainGlobals "__builtins__") with
 | some b=>!(b==builtinsNs)&&!(b==mainGlobals)&&!(b==p)&&(match h.get? b with
   | some ⟨.type ty,some d,.plain,_⟩=>ty=="module"&&d==builtinsNs
   | _=>false)
 | none=>false
def seeTab (fs bs cs:List Str) (h:Heap) (p:Addr):(List (Option (FnV × Bool)) × List (Option (Option Value)) × List (Option T)) × Bool :=
 (seeAll fs bs cs (h.hide p),tab0 (h.get? p)&&(tabH (h.hide p)==some p)&&(match codeH (h.hide p) with | some c=>codeOk c p ((h.hide p).get? c) | none=>false)&&bltOk p (h.hide p))
def seeL (fs bs cs:List Str) (h:Heap):Option ((List (Option (FnV × Bool)) × List (Option (Option Value)) × List (Option T)) × Bool):=(tabH h).map (seeTab fs bs cs h)
def seeHookL (fs:List (Str × Stmt)) (bs:List Str) (cs:List (Str × T)):PySem.W.Hook :=
 ⟨_,fun s=>seeL (fs.map (·.1)) bs (cs.map (·.1)) s.heap,fun _=>some (dueAll fs bs cs,true),fun _ h=>∃ h0:Heap,(∀ b o,h0.get? b=some o→h.get? b=some o)∧seeL (fs.map (·.1)) bs (cs.map (·.1)) h0=some (dueAll fs bs cs,true),
  fun _ s e=>⟨s.heap,fun _ _ e=>e,e⟩,fun _ _ _ ⟨h0,a,b⟩ k=>⟨h0,fun c o e=>k c o (a c o e),b⟩⟩
theorem codeOk_hd {h:Heap} {c p:Addr} (e:codeOk c p (h.get? c)=true):PySem.W.CodeHd h c p:=by
 cases q:h.get? c with
 | none=>rw [q] at e;cases e
 | some o =>
  rw [q] at e
  obtain ⟨cl,di,da,sl⟩:=o
  cases cl with
  | type ty =>
   cases da with
   | fields vs =>
    have e:(ty=="code"&&decide (11<vs.size)&&isRefV p (vs.getD 11 .none)&&isStrV (vs.getD 18 .none)&&isIntV (vs.getD 7 .none)&&isBoolV (vs.getD 9 .none)&&isIntV (vs.getD 10 .none)&&!(c==p))=true:=e
    simp only [Bool.and_eq_true,beq_iff_eq,decide_eq_true_eq,Bool.not_eq_true',beq_eq_false_iff_ne] at e
    obtain ⟨⟨⟨⟨⟨⟨⟨rfl,h11⟩,e2⟩,e3⟩,e4⟩,e5⟩,e6⟩,e7⟩:=e
    have g11:vs.getD 11 .none=.ref p:=by
     cases g:vs.getD 11 .none with
     | ref r=>rw [g] at e2;rw [eq_of_beq (show (r==p)=true from e2)]
     | _=>rw [g] at e2;cases e2
    have g18:∃ x t,vs.getD 18 .none=.str x t:=by
     cases g:vs.getD 18 .none with
     | str x t=>exact ⟨x,t,rfl⟩
     | _=>rw [g] at e3;cases e3
    have g7:∃ x t,vs.getD 7 .none=.int x t:=by
     cases g:vs.getD 7 .none with
     | int x t=>exact ⟨x,t,rfl⟩
     | _=>rw [g] at e4;cases e4
    have g9:∃ x,vs.getD 9 .none=.bool x:=by
     cases g:vs.getD 9 .none with
     | bool x=>exact ⟨x,rfl⟩
     | _=>rw [g] at e5;cases e5
    have g10:∃ x t,vs.getD 10 .none=.int x t:=by
     cases g:vs.getD 10 .none with
     | int x t=>exact ⟨x,t,rfl⟩
     | _=>rw [g] at e6;cases e6
    obtain ⟨x18,t18,g18⟩:=g18
    obtain ⟨x7,t7,g7⟩:=g7
    obtain ⟨x9,g9⟩:=g9
    obtain ⟨x10,t10,g10⟩:=g10
    refine ⟨_,vs,x18,t18,x7,t7,x9,x10,t10,q,rfl,rfl,?_,g11,g18,g7,g9,g10,e7⟩
    rw [Array.getElem?_eq_getElem h11]
    rw [Array.getD_eq_getD_getElem?,Array.getElem?_eq_getElem h11] at g11
    exact congrArg some g11
   | _=>cases e
  | _=>cases e
theorem blt_at {h h1:Heap} {mg:Str→Option Value} {p:Addr} (e:bltOk p h=true) (KX:(KH h).In h1) (G:h1.Ns mainGlobals mg):∀ h2,(KH h).In h2→h2.BuiltinsAt mg p:=fun h2 K2=>by
 unfold bltOk at e
 cases q:seeNs h mainGlobals "__builtins__" with
 | none=>rw [q] at e;cases e
 | some r =>
  cases r with
  | none=>rw [q] at e;cases e
  | some v =>
   cases v with
   | ref b =>
    rw [q] at e
    have e:(!(b==builtinsNs)&&!(b==mainGlobals)&&!(b==p)&&(match h.get? b with
     | some ⟨.type ty,some d,.plain,_⟩=>ty=="module"&&d==builtinsNs
     | _=>false))=true:=e
    simp only [Bool.and_eq_true,Bool.not_eq_true',beq_eq_false_iff_ne] at e
    obtain ⟨⟨⟨e1,e2⟩,e3⟩,e4⟩:=e
    split at e4
    ·rename_i ty d sl ho
     simp only [Bool.and_eq_true,beq_iff_eq] at e4
     obtain ⟨rfl,rfl⟩:=e4
     exact ⟨b,_,PySem.W.mg_of KX G (by rw [kh_ns];exact q),e1,e2,e3,K2 b _ (by rw [kh_look];exact ho),rfl,rfl,rfl⟩
    ·cases e4
   | _=>rw [q] at e;cases e
theorem law_callT {P:Program} {w:World} {K:PySem.W.Frag} {mg mb:Str→Option Value} {k:Nat} {fa a p cc:Addr} {fd:FuncData} {x:Str} {R:Pr} {s₁:Shared} {vs:List Value} {ns:List Int}
  (KX:K.In s₁.heap) (hns:s₁.heap.Ns mainGlobals mg) (hb:s₁.heap.Ns builtinsNs mb) (hbb:∀ x:Str,x≠"__name__"→mb x=bootBuiltins x) (hlim:s₁.heap.NoLimit) (hg:s₁.gens=#[])
  (ha:s₁.heap.get? a=some { cls:=.type "list",data:=.seq vs.toArray }) (hi:IntsAre vs ns) (hl:ns.length≤sizeLine) (hr:Room k callerA)
  (hp:s₁.heap.get? p=some (PySem.W.tabObj #[])) (hKp:K.lookup p=none) (htb:∀ q,tabOf K=some q→q=p) (hcd:PySem.W.CodeHd s₁.heap cc p)
  (F:∀ base:Heap,K.In base→base.Ns mainGlobals mg→FnOk P w K mg base CX0 k fa fd [x] (spT K (run R k "law"))) (hbind:∀ (s:Shared) (u:Value),BindsTo s fd ⟨[u],[]⟩ [(x,u)])
  (law:run R k "law" [.lst (ns.map .int)]=some (.bl true)) :
  codeAny (model P w) callerA (.call (.ref fa) ⟨[.ref a],[]⟩) (fun r s'=>r=.ok (.ret (.bool true))∧OldK s₁.heap s'.heap∧s'.os=s₁.os∧AllBare s'.gens) s₁:=by
 have rv:=vals_ints hi
 have lenV:=hi.length
 have hap:a≠p:=fun z=>by rw [z,hp] at ha;cases ha
 have ri:∀ (F:Hp) (ns:List Int),Reps K F (ns.map .int) (ns.map V.int):=fun F ns=>by
  induction ns with
  | nil=>exact rfl
  | cons i r ih=>exact ⟨_,_,rfl,rfl,ih⟩
 have core:∀ H:Hp,Ls K (del H p) a (ns.map V.int)→HOk P w H s₁.heap→(∀ b,H b≠none→b=a∨b=p)→(H a≠none→K.lookup a=none)→H p=some (.tbl #[])→(∀ b,b≠p→H b=none∨∃ ob xs,H b=some (.frz ob xs)) →
   codeAny (model P w) callerA (.call (.ref fa) ⟨[.ref a],[]⟩) (fun r s'=>r=.ok (.ret (.bool true))∧OldK s₁.heap s'.heap∧s'.os=s₁.os∧AllBare s'.gens) s₁:=by
  intro H hS hok hA hK hHp hO
  have base_of:∀ {b:Addr} {o:Obj},s₁.heap.get? b=some o→H b=none→(hidT s₁.heap H).get? b=some o:=fun e n=>hidT_get e n
  have noA:∀ {b:Addr} {o:Obj} {es:Array DictEntry} {ep:Nat},s₁.heap.get? b=some o→o.data=.dict es ep→H b=none:=fun {b o es ep} e d=>by
   cases q:H b with
   | none=>rfl
   | some u =>
    rcases hA b (by rw [q];simp) with rfl | rfl
    ·rw [ha] at e;cases e;cases (show Data.seq vs.toArray _=Data.dict es ep from d)
    ·rw [hp] at e;cases e;cases (show Data.fields #[]=Data.dict es ep from d)
  have nsK:∀ {b:Addr} {m:Str→Option Value},s₁.heap.Ns b m→(hidT s₁.heap H).Ns b m:=fun {b m} ⟨o,es,ep,e,d,r⟩=>⟨o,es,ep,base_of e (noA e d),d,r⟩
  have hKb:K.In (hidT s₁.heap H):=fun b o e=>base_of (KX b o e) (by
   cases q:H b with
   | none=>rfl
   | some u =>
    rcases hA b (by rw [q];simp) with rfl | rfl
    ·rw [hK (by rw [q];simp)] at e;cases e
    ·rw [hKp] at e;cases e)
  have hM:Mod K mg (hidT s₁.heap H):=⟨hKb,nsK hns,⟨mb,nsK hb,hbb⟩,let ⟨mc,h1,h2⟩:=hlim;⟨mc,nsK h1,h2⟩⟩
  have e0:Env0 P w K mg (hidT s₁.heap H) callerA [] s₁ H:=⟨rfl,hM,fun b o e=>of_hidT e,Nat.le_of_eq (hidT_size _ _),trivial,fun b hb=>absurd (show b∈([]:List Addr) from hb) (by simp),hok,.of_eq hg⟩
  have hsm:Same (del H p) H:=fun b u e=>(of_del e).2
  have hsp:spT K (run R k "law") [.ref a] H (fun v _=>v=.bl true) fun _ _ _=>False:=⟨del H p,[.lst (ns.map .int)],.bl true,hsm,fun q hq=>by
    rw [htb q hq]
    exact ⟨del_same,#[],hHp,trivial,fun _ _ z=>by cases z⟩,⟨_,_,rfl,⟨a,_,rfl,hS,ri _ ns⟩,rfl⟩,law,fun v F' H' _ r=>r⟩
  refine codeAny_mono ((F _ hKb (nsK hns)).run callerA [] s₁ H ⟨[.ref a],[]⟩ [.ref a] [.ref a] _ _ hr e0 (hbind s₁ (.ref a)) (.cons rfl .nil) hsp) fun r s' h=>?_
  cases r with
  | error e=>exact h.elim
  | ok fl =>
   cases fl with
   | next=>exact False.elim h
   | brk=>exact False.elim h
   | cont=>exact False.elim h
   | ret u =>
    obtain ⟨v,H',os,bare,un,hok',r',q⟩:=h
    have q':v=.bl true:=q
    subst q'
    obtain rfl:u=Value.bool true:=r'
    obtain ⟨more,hp'⟩:=un.tbls p #[] hHp
    have hp2:s'.heap.get? p=some { cls:=.none,data:=.fields (#[]++more) }:=hok' p _ hp'
    have kept:∀ b o,b≠p→s₁.heap.get? b=some o→s'.heap.get? b=some o:=fun b o hbp e=>by
     rcases hO b hbp with z | ⟨ob,xs,z⟩
     ·exact un.keep b o e z (by intro z;exact absurd (show b∈([]:List Addr) from z) (by simp)) (by simp)
     ·have z2:=un.frzs b ob _ z
      obtain ⟨e1,_⟩:=hok b _ z
      obtain ⟨e2,_⟩:=hok' b _ z2
      rw [e] at e1;cases e1
      exact e2
    refine ⟨rfl,⟨fun b o e=>?_,fun b o e=>?_⟩,os,bare⟩
    ·by_cases hbp:b=p
     ·subst hbp
      rw [hp] at e;cases e
      exact .inr (.inl ⟨(hcd.tab hp).isCodeTable,rfl,#[],more,rfl,hp2⟩)
     ·exact .inl (kept b o hbp e)
    ·by_cases hbp:b=p
     ·subst hbp;exact ⟨_,hp2⟩
     ·exact ⟨o,kept b o hbp e⟩
 cases hk:K.lookup a with
 | some o =>
  have e:=KX a o hk
  rw [ha] at e
  cases e
  refine core (upd (fun _=>none) p (.tbl #[])) (.inr ⟨vs.toArray,_,hk,by rw [List.size_toArray,lenV];exact hl,by simpa using rv⟩) (fun b u z=>?_) (fun b z=>?_) (fun z=>?_) upd_same fun b hb=>.inl (by rw [upd_ne hb])
  ·by_cases hb:b=p
   ·subst hb;rw [upd_same] at z;cases z;exact hp
   ·rw [upd_ne hb] at z;cases z
  ·by_cases hb:b=p
   ·exact .inr hb
   ·rw [upd_ne hb] at z;exact absurd rfl z
  ·rw [upd_ne hap] at z;exact absurd rfl z
 | none =>
  have hHa:upd (upd (fun _=>none) a (.frz { cls:=.type "list",data:=.seq vs.toArray } (.lst (ns.map V.int)))) p (.tbl #[]) a=some (.frz { cls:=.type "list",data:=.seq vs.toArray } (.lst (ns.map V.int))):=by rw [upd_ne hap];exact upd_same
  refine core (upd (upd (fun _=>none) a (.frz { cls:=.type "list",data:=.seq vs.toArray } (.lst (ns.map V.int)))) p (.tbl #[])) (.inl (.inr ⟨_,by rw [del_ne hap];exact hHa⟩)) (fun b u z=>?_) (fun b z=>?_) (fun _=>hk) upd_same fun b hb=>?_
  ·by_cases hb:b=p
   ·subst hb;rw [upd_same] at z;cases z;exact hp
   ·by_cases hba:b=a
    ·subst hba;rw [hHa] at z;cases z
     exact ⟨ha,by rw [List.length_map];exact hl,vs,_,rv,ha⟩
    ·rw [upd_ne hb,upd_ne hba] at z;cases z
  ·by_cases hb:b=p
   ·exact .inr hb
   ·by_cases hba:b=a
    ·exact .inl hba
    ·rw [upd_ne hb,upd_ne hba] at z;exact absurd rfl z
  ·by_cases hba:b=a
   ·subst hba;exact .inr ⟨_,_,hHa⟩
   ·exact .inl (by rw [upd_ne hb,upd_ne hba])
def Tab.prT (t:Tab) (cs:List (Str × T)):Pr:=⟨fun f=>(t.fns++[(spoF,d_law_bent),(".put",d_law_put_at),(".lam",d_law_lam)]).lookup f,fun x=>cs.lookup x⟩
abbrev Tab.stsT (t:Tab) (s p:Stmt):List (Str × Stmt):=t.sts++[(spoF,s),(putF,p)]
theorem all_seeT {P:Program} {w:World} {mg:Str→Option Value} {fa p cc:Addr} {h0 h:Heap} {tab:Tab} {cs:List (Str × T)} {x:Str} {D:Fd} {st ss sp:Stmt} {k:Nat} (hst:∀ p∈tab,St p.1 p.2.1 p.2.2.1 p.2.2.2) (S:SpoS ss) (SP:PutS sp) (KX:(KH h0).In h)
  (bs:∀ (kV doc pm:Value) (an:Option Addr) (cdv ct:Value) (us:List Value),us.length=3→bindArgs (PySem.W.fnOf spoF spoF (defArgs ss) (defBody ss) (defScope ss) .none kV doc pm an cdv ct) ⟨us,[]⟩=pure ([spoT,lamNx,spoD].zip us))
  (bp:∀ (kV doc pm:Value) (an:Option Addr) (cdv ct:Value) (us:List Value),us.length=3→bindArgs (PySem.W.fnOf putF putF (defArgs sp) (defBody sp) (defScope sp) .none kV doc pm an cdv ct) ⟨us,[]⟩=pure ([putO,putW,putB].zip us))
  (e0:seeAll ((tab.stsT ss sp).map (·.1)) bnames (cs.map (·.1)) h0=dueAll (tab.stsT ss sp) bnames cs) (G:h.Ns mainGlobals mg) (hfa:mg "law"=some (.ref fa)) (hl:(("law":Str),D,st,[x])∈tab) (hD:(tab.prT cs).fn ("law":Str)=some D)
  (h1:(tab.prT cs).fn ".lam"=some d_law_lam) (h2:(tab.prT cs).fn ".put"=some d_law_put_at) (h3:(tab.prT cs).fn spoF=some d_law_bent) (hcc:codeH h0=some cc) (TK:TabK (KH h0) mg cc p) :
  ∃ fd:FuncData,(∀ (s:Shared) (u:Value),BindsTo s fd ⟨[u],[]⟩ [(x,u)])∧∀ base:Heap,(KH h0).In base→base.Ns mainGlobals mg→FnOk P w (KH h0) mg base CX0 (k+1) fa fd [x] (spT (KH h0) (run (tab.prT cs) (k+1) "law")):=by
 have nob:∀ x∈bnames,mg x=none:=fun x hx=>PySem.W.mg_none_of KX G (by rw [kh_ns];exact see_b e0 hx)
 have C:∀ x t,(tab.prT cs).con x=some t→∃ u v,mg x=some u∧RelV v u∧∀ F,Rep (KH h0) F t v:=fun x t h=>see_con KX G (see_c (p:=(x,t)) e0 (mem_look h))
 have fn:∀ q∈tab.stsT ss sp,∃ f fd,PySem.W.nsIn (KH h0) mainGlobals q.1=some (some (.ref f))∧Fun (KH h0) q.1 q.1 q.2 f fd:=fun q hq=>see_fun (see_fn (p:=q) e0 hq)
 have one:∀ q∈tab,∃ a fd,FnD (KH h0) mg q.1 q.2.1 q.2.2.1 a fd q.2.2.2:=fun q hq=>by
  obtain ⟨f,fd,g1,FU⟩:=fn (q.1,q.2.2.1) (List.mem_append_left _ (List.mem_map.mpr ⟨q,hq,rfl⟩))
  have S:=hst q hq
  exact ⟨f,fd,⟨_,_,FU⟩,S.sc,S.np,S.ns,S.tr,PySem.W.mg_of KX G g1,FU.kp,FU.binds S.bi⟩
 obtain ⟨sa,sfd,sg1,SF⟩:=fn (spoF,ss) (List.mem_append_right _ (.head _))
 obtain ⟨pa,pfd,pg1,PF⟩:=fn (putF,sp) (List.mem_append_right _ (.tail _ (.head _)))
 have hcs:fnCode ((KH h0).lookup sa)=some cc:=by
  have g:seeNs h0 mainGlobals "_law_spoilt"=some (some (.ref sa)):=by rw [← kh_ns];exact sg1
  unfold codeH at hcc
  rw [g] at hcc
  rw [kh_look];exact hcc
 have L:∀ base:Heap,∀ f D,plainF f=true→(tab.prT cs).fn f=some D→(∃ st a fd ps,FnD (KH h0) mg f D st a fd ps) ∨
   ∃ (a:Addr) (fd:FuncData) (ps:List Str),mg f=some (.ref a)∧PySem.W.keepIn (KH h0) (.ref a)=true∧Binds (KH h0) fd ps []∧∀ n,KnAll P w (KH h0) mg base (tab.prT cs) n→FnOk P w (KH h0) mg base CX0 (n+1) a fd ps (spT (KH h0) (run (tab.prT cs) (n+1) f)):=fun base f D hp hf=>by
  rcases List.mem_append.mp (mem_look (show (tab.fns++[(spoF,d_law_bent),(".put",d_law_put_at),(".lam",d_law_lam)]).lookup f=some D from hf)) with hm | hm
  ·obtain ⟨q,hq,e⟩:=List.mem_map.mp hm
   cases e
   obtain ⟨a,fd,M⟩:=one q hq
   exact .inl ⟨_,_,_,_,M⟩
  ·simp only [List.mem_cons,List.not_mem_nil,or_false,Prod.mk.injEq] at hm
   rcases hm with ⟨rfl,rfl⟩ | ⟨rfl,_⟩ | ⟨rfl,_⟩
   ·exact .inr ⟨sa,sfd,[spoT,lamNx,spoD],PySem.W.mg_of KX G sg1,SF.kp,SF.binds (ps:=[spoT,lamNx,spoD]) bs,fun n ih=>spo_fn h1 h2 h3 S SF hcs TK SP PF (PySem.W.mg_of KX G pg1) PF.kp (PF.binds (ps:=[putO,putW,putB]) bp) nob C n ih⟩
   ·exact absurd hp (by decide +kernel)
   ·exact absurd hp (by decide +kernel)
 obtain ⟨f,fd,g1,FU⟩:=fn ("law",st) (List.mem_append_left _ (List.mem_map.mpr ⟨(("law":Str),D,st,[x]),hl,rfl⟩))
 have hm:=PySem.W.mg_of KX G g1
 rw [hfa] at hm
 cases hm
 have SL:=hst _ hl
 have M:FnD (KH h0) mg "law" D st fa fd [x]:=⟨⟨_,_,FU⟩,SL.sc,SL.np,SL.ns,SL.tr,hfa,FU.kp,FU.binds SL.bi⟩
 refine ⟨fd,fun s u=>?_,fun base _ _=>fn_one (fn_all (L base) nob C k) nob C hD M⟩
 obtain ⟨oc,od,kV,doc,pm,an,cdv,ct,osl,rfl,_,_⟩:=FU.ex
 exact .of_eq (SL.bi kV doc pm an cdv ct [u] rfl)
theorem tab0_of {o:Option Obj} (h:tab0 o=true):o=some (PySem.W.tabObj #[]):=by
 cases o with
 | none=>cases h
 | some o =>
  obtain ⟨cl,di,da,sl⟩:=o
  cases cl with
  | none =>
   cases di with
   | none =>
    cases da with
    | fields vs =>
     have h:(vs.size==0&&sl.size==0)=true:=h
     simp only [Bool.and_eq_true,beq_iff_eq] at h
     rw [Array.eq_empty_of_size_eq_zero h.1,Array.eq_empty_of_size_eq_zero h.2]
    | _=>cases h
   | some _=>cases h
  | _=>cases h
theorem walk_seeT {l:PySem.W.OpenLaw} {n k:Nat} {q:Program} {loose:List Str} {XP:(Str→Option Value)→Heap→Prop} {d:DefRec} {x:Str} {tab:Tab} {cs:List (Str × T)} {D:Fd} {st ss sp:Stmt}
  (hn:l.most=some n) (hn2:n≤sizeLine) (hdf:d.params.defaults=[]) (hr:Room (k+1) callerA) (hdn:d.name=("law":Str)) (hst:∀ p∈tab,St p.1 p.2.1 p.2.2.1 p.2.2.2) (S:SpoS ss) (SP:PutS sp)
  (bs:∀ (kV doc pm:Value) (an:Option Addr) (cdv ct:Value) (us:List Value),us.length=3→bindArgs (PySem.W.fnOf spoF spoF (defArgs ss) (defBody ss) (defScope ss) .none kV doc pm an cdv ct) ⟨us,[]⟩=pure ([spoT,lamNx,spoD].zip us))
  (bp:∀ (kV doc pm:Value) (an:Option Addr) (cdv ct:Value) (us:List Value),us.length=3→bindArgs (PySem.W.fnOf putF putF (defArgs sp) (defBody sp) (defScope sp) .none kV doc pm an cdv ct) ⟨us,[]⟩=pure ([putO,putW,putB].zip us))
  (hl:(("law":Str),D,st,[x])∈tab) (hD:(tab.prT cs).fn ("law":Str)=some D) (h1:(tab.prT cs).fn ".lam"=some d_law_lam) (h2:(tab.prT cs).fn ".put"=some d_law_put_at) (h3:(tab.prT cs).fn spoF=some d_law_bent)
  (law:∀ ns:List Int,ns.length≤n→run (tab.prT cs) (k+1) "law" [.lst (ns.map .int)]=some (.bl true)) :
  PySem.W.WalkO q loose XP (seeHookL (tab.stsT ss sp) bnames cs).says l.row.toRowW d [] (fun f vs=>PySem.call f vs):=by
 refine Att.attach_call hn hdf fun w s₀ s₁ mg mb fa o pm cd doc a vs ns G Y ho hd hcd hmg hobj hints hlen hg=>?_
 obtain ⟨h0,k0,e0⟩:=Y
 obtain ⟨p,hp,e⟩:=oms (show (tabH h0).map (seeTab _ _ _ h0)=some _ from e0)
 have eA:seeAll ((tab.stsT ss sp).map (·.1)) bnames (cs.map (·.1)) (h0.hide p)=dueAll (tab.stsT ss sp) bnames cs:=congrArg Prod.fst e
 have eB:(tab0 (h0.get? p)&&(tabH (h0.hide p)==some p)&&(match codeH (h0.hide p) with | some c=>codeOk c p ((h0.hide p).get? c) | none=>false)&&bltOk p (h0.hide p))=true:=congrArg Prod.snd e
 simp only [Bool.and_eq_true,beq_iff_eq] at eB
 obtain ⟨⟨⟨b1,b2⟩,b3⟩,b4⟩:=eB
 have KX:(KH (h0.hide p)).In s₁.heap:=kh_in fun b o e=>k0 b o (PySem.W.of_hideAll [p] e)
 cases hc:codeH (h0.hide p) with
 | none=>rw [hc] at b3;cases b3
 | some cc =>
  rw [hc] at b3
  have hcd0:PySem.W.CodeHd (h0.hide p) cc p:=codeOk_hd b3
  have TK:TabK (KH (h0.hide p)) mg cc p:=⟨by rw [kh_tab];exact b2,fun h K=>hcd0.keeps fun b o e=>K b o (by rw [kh_look];exact e),blt_at b4 KX G.T.g⟩
  obtain ⟨fd,hb,hF⟩:=all_seeT (P:=l.prog) (w:=w) (k:=k) hst S SP KX bs bp eA G.T.g (by rw [← hdn];exact hmg) hl hD h1 h2 h3 hc TK
  exact law_callT KX G.T.g G.T.b G.T.builtins G.T.nolimit hg hobj hints (Nat.le_trans hlen hn2) hr (k0 p _ (tab0_of b1)) (by rw [kh_look];exact PySem.W.hideAll_none [p] (.head _)) (fun q hq=>by rw [TK.tab] at hq;cases hq;rfl) (TK.hd _ KX) hF hb (law ns hlen)
theorem lamS_of {lp:Arguments} {lb:Expr} {ls:Scope} {a:Arg} (kind:ls.kind=.function) (co:ls.isCoroutine=false) (gen:ls.isGenerator=false) (nm:ls.names=[(lamPx,.local),(lamNx,.free),("_law_otherwise",.globalImplicit)]) (par:lp=⟨[],[a],none,[],[],none,[]⟩) (pa:a.arg=lamPx) (tr:trV 60 ⟨ls,[lamPx,lamNx]⟩ lb=some lamE):LamS lp lb ls:=by
 refine ⟨kind,co,gen,fun x hx=>?_,fun x hx h=>?_,by rw [nm];decide +kernel,by rw [nm];decide +kernel,⟨a,par,pa⟩,tr⟩
 ·rw [nm] at hx
  simp only [List.mem_cons,List.not_mem_nil,or_false] at hx
  rcases hx with rfl | rfl | rfl<;>(intro z;cases z)
 ·rw [nm] at hx
  simp only [List.mem_cons,List.not_mem_nil,or_false] at hx
  rcases hx with rfl | rfl | rfl
  ·cases h
  ·rfl
  ·cases h
theorem clo_of {ls:Scope} (nm:ls.names=[(lamPx,.local),(lamNx,.free),("_law_otherwise",.globalImplicit)]) (env:PySem.Env) (c:Addr) (h:env.cells.lookup lamNx=some c):closureFor ls env=pure [(lamNx,c)]:=by
 unfold closureFor
 rw [nm]
 simp only [List.forIn_cons,List.forIn_nil]
 have e:cellOf env lamNx=pure c:=by unfold cellOf;rw [h]
 simp [e]
def argOf (lp:Arguments):Arg:=lp.args.getD 0 ⟨"",none,⟨0,0,0,0⟩⟩
theorem bind_of {st:Stmt} {x:Str} {ps:List Str} (h:defArgs st=⟨[],(defArgs st).args,none,[],[],none,[]⟩) (hp:(defArgs st).args.map (·.arg)=ps) (nd:ps.Nodup) (kV doc pm:Value) (an:Option Addr) (cdv ct:Value) (us:List Value) (hl:us.length=ps.length) :
  bindArgs (PySem.W.fnOf x x (defArgs st) (defBody st) (defScope st) .none kV doc pm an cdv ct) ⟨us,[]⟩=pure (ps.zip us):=by
 subst hp
 exact bind_plain h rfl nd hl
end Ev
end
noncomputable section
namespace Ev.K04
open PySem
noncomputable def d_law_cell_at:Fd:=⟨2,2,[.ite (.cmp .lt (.var 1) (.blt .len (.var 0))) [.ret (.idx (.var 0) (.var 1))] [],
  .ret (.cst (.int 0))]⟩
noncomputable def d_law_mixed:Fd:=⟨2,3,[.asg 2 (.bin .mod (.bin .mul (.bin .add (.bin .add (.call "_law_cell_at" [.var 0,.var 1]) (.bin .mul (.cst (.int 7919)) (.var 1))) (.cst (.int 1))) (.cst (.int 48271))) (.cst (.int 2147483647))),
  .ret (.bin .mod (.bin .add (.bin .add (.bin .mul (.var 2) (.var 2)) (.bin .mul (.cst (.int 7)) (.var 2))) (.var 1)) (.cst (.int 2147483629)))]⟩
noncomputable def d_law_drawn:Fd:=⟨2,3,[.asg 2 (.bin .mod (.bin .mul (.bin .add (.bin .add (.var 0) (.bin .mul (.cst (.int 104729)) (.var 1))) (.cst (.int 17))) (.cst (.int 69621))) (.cst (.int 2147483647))),
  .ret (.bin .mod (.bin .add (.bin .add (.bin .mul (.var 2) (.var 2)) (.bin .mul (.cst (.int 3)) (.var 2))) (.var 1)) (.cst (.int 2147483629)))]⟩
noncomputable def d_law_names:Fd:=⟨1,1,[.ret (.comp (.idx (.var 0) (.cst (.int 0))) 1 .plain [.idx (.var 0) (.cst (.int 1))] none)]⟩
noncomputable def d_law_table:Fd:=⟨2,2,[.ret (.idx (.comp (.var 0) 1 .plain [.var 0] (some (.cmp .eq (.idx (.var 0) (.cst (.int 0))) (.var 2)))) (.cst (.int 0)))]⟩
noncomputable def d_law_key:Fd:=⟨2,2,[.ret (.blt .toTuple (.comp (.idx (.var 2) (.mth .index (.call "_law_names" [.var 1]) (.var 0))) 1 .plain [.idx (.var 0) (.cst (.int 2))] none))]⟩
noncomputable def d_law_test:Fd:=⟨3,9,[.asg 3 (.idx (.var 0) (.cst (.int 1))),
  .asg 4 (.idx (.var 3) (.bin .mod (.bin .fdiv (.var 1) (.cst (.int 8))) (.blt .len (.var 3)))),
  .asg 5 (.bin .mod (.var 1) (.cst (.int 8))),
  .ite (.land (.cmp .gt (.var 2) (.cst (.int 1))) (.cmp .gt (.var 5) (.cst (.int 4)))) [.asg 6 (.comp (.call "_law_test" [.var 1,.bin .fdiv (.call "_law_drawn" [.var 2,.var 0]) (.cst (.int 4)),.bin .sub (.var 3) (.cst (.int 1))]) 1 .plain [.tup [.cst (.int 1),.cst (.int 2)]] none),
  .ret (.idx (.lst [.tup [.cst (.str "not"),.idx (.var 6) (.cst (.int 0))],.tup [.cst (.str "and"),.idx (.var 6) (.cst (.int 0)),.idx (.var 6) (.cst (.int 1))],.tup [.cst (.str "or"),.idx (.var 6) (.cst (.int 0)),.idx (.var 6) (.cst (.int 1))]]) (.bin .sub (.var 5) (.cst (.int 5))))] [],
  .ite (.cmp .eq (.var 5) (.cst (.int 0))) [.ret (.tup [.cst (.str "empty"),.idx (.var 4) (.cst (.int 0))])] [],
  .asg 7 (.comp (.idx (.var 0) (.cst (.int 0))) 1 .plain [.var 3] (some (.cmp .eq (.idx (.var 0) (.cst (.int 1))) (.idx (.var 5) (.cst (.int 1)))))),
  .ite (.cmp .eq (.var 5) (.cst (.int 1))) [.ret (.tup [.cst (.str "below"),.idx (.var 4) (.cst (.int 0)),.idx (.var 7) (.bin .mod (.bin .fdiv (.var 1) (.cst (.int 64))) (.blt .len (.var 7)))])] [],
  .asg 8 (.idx (.lst [.tup [.cst (.int 0),.cst (.int 1),.cst (.int 2),.cst (.int 3),.neg (.cst (.int 5)),.cst (.int 999)],.tup [.cst (.str ""),.cst (.str "a"),.cst (.str "b"),.cst (.str "ab"),.cst (.str "x9"),.cst (.str "zzzzzz")]]) (.blt .toInt (.cmp .eq (.idx (.var 4) (.cst (.int 1))) (.cst (.str "text"))))),
  .ret (.tup [.cst (.str "is"),.idx (.var 4) (.cst (.int 0)),.idx (.var 8) (.bin .mod (.bin .fdiv (.var 1) (.cst (.int 64))) (.cst (.int 6)))])]⟩
noncomputable def d_law_bare:Fd:=⟨2,10,[.asg 2 (.tup [.cst (.str "whole"),.cst (.str "whole"),.cst (.str "text"),.cst (.str "whole"),.cst (.str "text"),.cst (.str "whole")]),
  .asg 3 (.lst [.tup [.cst (.str "id"),.idx (.var 2) (.bin .mod (.var 1) (.cst (.int 6))),.cst (.bl false)]]),
  .loop [4,5] .enum [.tup [.cst (.str "n"),.cst (.str "t"),.cst (.str "u")]] [.asg 6 (.bin .fdiv (.call "_law_drawn" [.var 1,.bin .add (.cst (.int 10)) (.var 4)]) (.cst (.int 4))),
  .ite (.cmp .gt (.bin .mod (.var 6) (.cst (.int 4))) (.cst (.int 0))) [.app 3 (.tup [.var 5,.idx (.var 2) (.bin .mod (.bin .fdiv (.var 6) (.cst (.int 4))) (.cst (.int 6))),.cmp .gt (.bin .mod (.bin .fdiv (.var 6) (.cst (.int 32))) (.cst (.int 3))) (.cst (.int 0))])] []],
  .asg 7 (.comp (.idx (.var 0) (.cst (.int 0))) 1 .plain [.var 3] (some (.lnot (.tru (.idx (.var 0) (.cst (.int 2))))))),
  .asg 8 (.tup [.cst (.str "id")]),
  .ite (.land (.cmp .eq (.bin .mod (.bin .fdiv (.var 1) (.cst (.int 8))) (.cst (.int 4))) (.cst (.int 0))) (.cmp .gt (.blt .len (.var 7)) (.cst (.int 1)))) [.asg 8 (.idx (.lst [.tup [.cst (.str "id"),.idx (.var 7) (.cst (.int 1))],.tup [.idx (.var 7) (.cst (.int 1)),.cst (.str "id")]]) (.bin .mod (.bin .fdiv (.var 1) (.cst (.int 32))) (.cst (.int 2))))] [],
  .asg 9 (.bin .mod (.bin .fdiv (.var 1) (.cst (.int 64))) (.blt .len (.var 3))),
  .ret (.tup [.var 0,.blt .toTuple (.bin .add (.sli (.var 3) (some (.var 9)) none) (.sli (.var 3) none (some (.var 9)))),.var 8,.tup []])]⟩
noncomputable def d_law_pairs:Fd:=⟨2,6,[.asg 2 (.lst [.tup []]),
  .loop [3] .plain [.var 1] [.asg 4 (.lst []),
  .loop [5] .plain [.var 2] [.asg 4 (.bin .add (.var 4) (.comp (.bin .add (.var 6) (.tup [.idx (.var 0) (.cst (.int 0))])) 1 .plain [.idx (.var 0) (.cst (.int 1))] (some (.land (.cmp .eq (.idx (.var 0) (.cst (.int 1))) (.var 4)) (.cmp .notin (.idx (.var 0) (.cst (.int 0))) (.var 6))))))],
  .asg 2 (.var 4)],
  .ret (.var 2)]⟩
noncomputable def d_law_rule:Fd:=⟨3,11,[.asg 3 (.idx (.var 0) (.bin .mod (.bin .fdiv (.var 2) (.cst (.int 8))) (.blt .len (.var 0)))),
  .asg 4 (.comp (.idx (.comp (.idx (.var 0) (.cst (.int 1))) 1 .plain [.idx (.var 4) (.cst (.int 1))] (some (.cmp .eq (.idx (.var 0) (.cst (.int 0))) (.var 1)))) (.cst (.int 0))) 1 .plain [.idx (.var 3) (.cst (.int 2))] none),
  .asg 5 (.call "_law_pairs" [.var 1,.var 4]),
  .ite (.land (.cmp .lt (.bin .mod (.var 2) (.cst (.int 8))) (.cst (.int 5))) (.cmp .ne (.var 5) (.lst []))) [.asg 6 (.idx (.var 5) (.bin .mod (.bin .fdiv (.var 2) (.cst (.int 64))) (.blt .len (.var 5)))),
  .asg 7 (.idx (.tup [.cst (.str "along"),.cst (.str "stop"),.cst (.str "late"),.cst (.str "gap"),.cst (.str "along"),.cst (.str "gap")]) (.bin .mod (.bin .fdiv (.var 2) (.cst (.int 1024))) (.cst (.int 6)))),
  .asg 8 (.comp (.var 0) 1 .plain [.idx (.var 1) (.cst (.int 1))] (some (.land (.cmp .isin (.idx (.var 0) (.cst (.int 0))) (.var 7)) (.lnot (.tru (.idx (.var 0) (.cst (.int 2)))))))),
  .ite (.land (.cmp .ne (.var 8) (.lst [])) (.cmp .eq (.var 7) (.cst (.str "gap")))) [.asg 7 (.cst (.str "late"))] [],
  .ret (.tup [.cst (.str "refers"),.var 6,.idx (.var 3) (.cst (.int 0)),.var 7])] [],
  .asg 9 (.comp (.idx (.var 0) (.cst (.int 0))) 1 .plain [.idx (.var 1) (.cst (.int 1))] none),
  .ite (.cmp .eq (.bin .mod (.var 2) (.cst (.int 8))) (.cst (.int 5))) [.asg 10 (.bin .mod (.bin .fdiv (.var 2) (.cst (.int 64))) (.blt .len (.var 9))),
  .ret (.tup [.cst (.str "unlike"),.sli (.bin .add (.sli (.var 9) (some (.var 10)) none) (.sli (.var 9) none (some (.var 10)))) none (some (.bin .add (.cst (.int 1)) (.bin .mod (.bin .fdiv (.var 2) (.cst (.int 1024))) (.cst (.int 2)))))])] [],
  .ret (.tup [.cst (.str "check"),.call "_law_test" [.var 1,.bin .fdiv (.var 2) (.cst (.int 64)),.bin .add (.cst (.int 1)) (.bin .mod (.bin .fdiv (.var 2) (.cst (.int 1024))) (.cst (.int 3)))]])]⟩
noncomputable def d_law_schema:Fd:=⟨1,11,[.asg 1 (.lst [.cst (.str "item"),.cst (.str "user"),.cst (.str "box"),.cst (.str "log")]),
  .asg 2 (.bin .mod (.var 0) (.cst (.int 4))),
  .asg 1 (.sli (.bin .add (.sli (.var 1) (some (.var 2)) none) (.sli (.var 1) none (some (.var 2)))) none (some (.idx (.tup [.cst (.int 2),.cst (.int 1),.cst (.int 3),.cst (.int 4),.cst (.int 2),.cst (.int 3)]) (.bin .mod (.bin .fdiv (.var 0) (.cst (.int 4))) (.cst (.int 6)))))),
  .asg 4 (.comp (.call "_law_bare" [.var 1,.bin .fdiv (.call "_law_drawn" [.var 2,.var 0]) (.cst (.int 4))]) 2 .enum [.var 1] none),
  .asg 5 (.tup []),
  .loop [3,6] .enum [.var 4] [.asg 7 (.bin .fdiv (.call "_law_drawn" [.var 0,.bin .add (.cst (.int 20)) (.var 3)]) (.cst (.int 4))),
  .asg 8 (.lst []),
  .loop [9] .range [.idx (.tup [.cst (.int 1),.cst (.int 2),.cst (.int 0),.cst (.int 1),.cst (.int 3)]) (.bin .mod (.var 7) (.cst (.int 5)))] [.app 8 (.call "_law_rule" [.var 4,.var 6,.bin .fdiv (.call "_law_drawn" [.var 7,.var 9]) (.cst (.int 4))])],
  .asg 10 (.blt .toTuple (.comp (.bin .add (.tup [.idx (.var 0) (.cst (.int 0)),.blt .toTuple (.idx (.var 0) (.cst (.int 1)))]) (.sli (.var 0) (some (.cst (.int 2))) none)) 1 .plain [.var 8] none)),
  .asg 5 (.bin .add (.var 5) (.tup [.bin .add (.sli (.var 6) none (some (.cst (.int 3)))) (.tup [.var 10])]))],
  .ret (.var 5)]⟩
noncomputable def d_law_worth:Fd:=⟨2,2,[.ite (.land (.tru (.idx (.var 0) (.cst (.int 2)))) (.cmp .eq (.bin .mod (.var 1) (.cst (.int 4))) (.cst (.int 0)))) [.ret (.cst .non)] [],
  .ite (.cmp .eq (.idx (.var 0) (.cst (.int 1))) (.cst (.str "text"))) [.ret (.idx (.lst [.cst (.str "a"),.cst (.str "b"),.cst (.str ""),.cst (.str "ab"),.cst (.str "a"),.cst (.str "x9")]) (.bin .mod (.bin .fdiv (.var 1) (.cst (.int 4))) (.cst (.int 6))))] [],
  .ret (.idx (.lst [.cst (.int 0),.cst (.int 1),.cst (.int 2),.cst (.int 3),.cst (.int 1),.cst (.int 2),.cst (.int 4),.neg (.cst (.int 5))]) (.bin .mod (.bin .fdiv (.var 1) (.cst (.int 4))) (.cst (.int 8))))]⟩
noncomputable def d_law_row:Fd:=⟨2,2,[.ret (.blt .toTuple (.comp (.call "_law_worth" [.var 1,.bin .fdiv (.call "_law_drawn" [.var 3,.var 0]) (.cst (.int 4))]) 2 .enum [.idx (.var 0) (.cst (.int 1))] none))]⟩
theorem run_succ {P:Pr} {n:Nat} {f:Str} {D:Fd} {ts:List T} (h:P.fn f=some D) (hl:ts.length=D.np):run P (n+1) f ts=resultOf (evSs (glo P (run P n)) D.body (begin' D ts)):=by
 rw [run,h]
 simp [hl]
noncomputable def drawnI (a k:Int):Int:=((a+104729*k+17)*69621%2147483647*((a+104729*k+17)*69621%2147483647)+3*((a+104729*k+17)*69621%2147483647)+k)%2147483629
noncomputable def mixedI (a k:Int):Int:=((a+7919*k+1)*48271%2147483647*((a+7919*k+1)*48271%2147483647)+7*((a+7919*k+1)*48271%2147483647)+k)%2147483629
theorem small_lit {a:Int} (h0:0≤a) (h1:a<2147483647):small a=true:=by
 unfold small
 rw [decide_eq_true (by omega),decide_eq_true (by omega)]
 rfl
theorem small_mod (a:Int):small (a%2147483647)=true:=small_lit (Int.emod_nonneg _ (by decide)) (Int.emod_lt_of_pos _ (by decide))
theorem drawn_run {P:Pr} (h:P.fn "_law_drawn"=some d_law_drawn) (n:Nat) (a k:Int):run P (n+1) "_law_drawn" [.int a,.int k]=some (.int (drawnI a k)):=by
 rw [run_succ h rfl]
 simp [d_law_drawn,evSs,evS,evE,begin',view,frzAt,vars,Sl.get,Sl.frz,binT,addT,mulT,modT,slotOf,fresh,resultOf,glo,SZ,small_mod,small_lit,drawnI]
noncomputable def cellI (ns:List Int) (k:Nat):Int:=ns.getD k 0
theorem getI_nat {xs:List T} {k:Nat} {t:T} (h:xs[k]?=some t):getI xs (k:Int)=some t:=by
 have hk:k<xs.length:=(List.getElem?_eq_some_iff.mp h).1
 unfold getI ixI
 rw [if_pos (by omega),if_pos (by omega)]
 simpa using h
theorem cell_run {P:Pr} (h:P.fn "_law_cell_at"=some d_law_cell_at) (n:Nat) (ns:List Int) (k:Nat):run P (n+1) "_law_cell_at" [.lst (ns.map .int),.int (k:Int)]=some (.int (cellI ns k)):=by
 rw [run_succ h rfl]
 by_cases hk:k<ns.length
 ·have e:getI (ns.map T.int) (k:Int)=some (.int (cellI ns k)):=getI_nat (by simp [cellI,hk])
  have hd:decide ((k:Int)<(ns.length:Int))=true:=decide_eq_true (by omega)
  simp [d_law_cell_at,evSs,evS,evE,begin',view,frzAt,vars,Sl.get,Sl.frz,resultOf,cmpT,idxT,bltT,glo,SZ,ltC,hk,e]
 ·have e:cellI ns k=0:=by simp [cellI,List.getD_eq_getElem?_getD,List.getElem?_eq_none (Nat.le_of_not_lt hk)]
  simp [d_law_cell_at,evSs,evS,evE,begin',view,frzAt,vars,Sl.get,Sl.frz,resultOf,cmpT,idxT,bltT,glo,SZ,ltC,hk,e]
theorem mixed_run {P:Pr} (hc:P.fn "_law_cell_at"=some d_law_cell_at) (h:P.fn "_law_mixed"=some d_law_mixed) (n:Nat) (ns:List Int) (k:Nat):run P (n+2) "_law_mixed" [.lst (ns.map .int),.int (k:Int)]=some (.int (mixedI (cellI ns k) k)):=by
 rw [run_succ h rfl]
 have e:=cell_run hc n ns k
 simp [d_law_mixed,evSs,evS,evE,evEs,begin',view,frzAt,vars,varsL,Sl.get,Sl.frz,binT,addT,mulT,modT,slotOf,fresh,resultOf,glo,SZ,small_mod,small_lit,mixedI,e]
structure Col where
 n:Str
 k:Str
 g:Bool
noncomputable def Col.t (c:Col):T:=.tup [.str c.n,.str c.k,.bl c.g]
noncomputable def kinds6:List Str:=["whole", "whole", "text", "whole", "text", "whole"]
noncomputable def kindAt (i:Int):Str:=kinds6.getD (i%6).toNat "whole"
theorem getI_mod {xs:List T} {m:Nat} (hm:xs.length=m) (h0:0<m) (i:Int):getI xs (i%(m:Int))=some (xs.getD (i%(m:Int)).toNat .non):=by
 have h1:0≤i%(m:Int):=Int.emod_nonneg _ (by omega)
 have h2:i%(m:Int)<(m:Int):=Int.emod_lt_of_pos _ (by omega)
 unfold getI ixI
 rw [if_pos h1,if_pos (by omega)]
 simp only [Option.bind_some,List.getD_eq_getElem?_getD]
 rw [List.getElem?_eq_getElem (by omega)]
 rfl
theorem getI_kinds (i:Int):getI [.str "whole",.str "whole",.str "text",.str "whole",.str "text",.str "whole"] (i%6)=some (.str (kindAt i)):=by
 have h1:0≤i%6:=Int.emod_nonneg _ (by decide)
 have h2:i%6<6:=Int.emod_lt_of_pos _ (by decide)
 have e:=getI_mod (xs:=[.str "whole",.str "whole",.str "text",.str "whole",.str "text",.str "whole"]) (m:=6) rfl (by decide) i
 have e':((6:Nat):Int)=6:=rfl
 rw [e'] at e
 rw [e,kindAt,kinds6]
 have:(i%6).toNat=0∨(i%6).toNat=1∨(i%6).toNat=2∨(i%6).toNat=3∨(i%6).toNat=4∨(i%6).toNat=5:=by omega
 rcases this with z | z | z | z | z | z<;>rw [z]<;>rfl
noncomputable def colAt (k j:Int) (nm:Str):List Col:=if 0<drawnI k (10+j)/4%4 then [⟨nm,kindAt (drawnI k (10+j)/4/4),decide (0<drawnI k (10+j)/4/32%3)⟩] else []
noncomputable def bareCols (k:Int):List Col:=[⟨"id",kindAt k,false⟩]++(colAt k 0 "n"++(colAt k 1 "t"++colAt k 2 "u"))
theorem nx_of {G:Glo} {s:S} {ss:List S} {τ τ':List Sl} (h:evS G s τ=some (.nx τ')):evSs G (s::ss) τ=evSs G ss τ':=by rw [evSs,h];rfl
theorem rt_of {G:Glo} {s:S} {ss:List S} {τ:List Sl} {t:T} (h:evS G s τ=some (.rt t)):evSs G (s::ss) τ=some (.rt t):=by rw [evSs,h];rfl
theorem asg_p {G:Glo} {i:Nat} {e:E} {ss:List S} {τ τ':List Sl} {t:T} (h0:frzAt (vars e) τ=τ) (h1:evE G e (view τ)=some t) (h2:τ.set i (slotOf e t)=τ'):evSs G (.asg i e::ss) τ=evSs G ss τ':=nx_of (by rw [evS,h0,h1,← h2];rfl)
theorem ret_p {G:Glo} {e:E} {ss:List S} {τ:List Sl} {t:T} (h0:frzAt (vars e) τ=τ) (h1:evE G e (view τ)=some t):evSs G (.ret e::ss) τ=some (.rt t):=rt_of (by rw [evS,h0,h1];rfl)
theorem ite_n {G:Glo} {c:E} {a:List S} {ss:List S} {τ:List Sl} (h0:frzAt (vars c) τ=τ) (h1:evE G c (view τ)=some (.bl false)):evSs G (.ite c a []::ss) τ=evSs G ss τ:=nx_of (by rw [evS,h0,h1];rfl)
theorem ite_g {G:Glo} {c:E} {a b ss:List S} {τ:List Sl} {t:T} (h0:frzAt (vars c) τ=τ) (h1:evE G c (view τ)=some (.bl true)) (h2:evSs G a τ=some (.rt t)):evSs G (.ite c a b::ss) τ=some (.rt t):=rt_of (by rw [evS,h0,h1];exact h2)
theorem compM_map {α:Type} {enc:α→T} {f:T→Option (Option T)} (g:α→Option T):∀ {l:List α},(∀ a∈l,f (enc a)=some (g a))→compM f (l.map enc)=some (l.filterMap g)
 | [],_=>rfl
 | a::l,h=>by
  rw [List.map_cons,compM,h a List.mem_cons_self,compM_map g fun b hb=>h b (List.mem_cons_of_mem _ hb),List.filterMap_cons]
  cases g a<;>rfl
noncomputable def plainOf (cs:List Col):List Str:=cs.filterMap fun c=>if c.g then none else some c.n
noncomputable def keyOf (k:Int) (cs:List Col):List Str:=if k/8%4=0∧1<(plainOf cs).length then (if k/32%2=0 then ["id",(plainOf cs).getD 1 "id"] else [(plainOf cs).getD 1 "id", "id"]) else ["id"]
noncomputable def rotC {α:Type} (cs:List α) (b:Nat):List α:=cs.drop b++cs.take b
theorem colAt_len (k j:Int) (nm:Str):(colAt k j nm).length≤1:=by unfold colAt;split<;>simp
theorem bareCols_len (k:Int):1≤(bareCols k).length∧(bareCols k).length≤4:=by
 have h1:=colAt_len k 0 "n"
 have h2:=colAt_len k 1 "t"
 have h3:=colAt_len k 2 "u"
 unfold bareCols
 simp only [List.length_append,List.length_cons,List.length_nil]
 omega
theorem cut_from (xs:List T) (b:Nat) (h:b≤xs.length):cut xs (some (b:Int)) none=xs.drop b:=by
 unfold cut clip
 have e:min ((b:Int)).toNat xs.length=b:=by omega
 simp only [show ¬ ((b:Int)<0) by omega,if_false,e]
 rw [List.take_of_length_le]
 simp
theorem cut_to (xs:List T) (b:Nat) (h:b≤xs.length):cut xs none (some (b:Int))=xs.take b:=by
 unfold cut clip
 have e:min ((b:Int)).toNat xs.length=b:=by omega
 simp only [show ¬ ((b:Int)<0) by omega,if_false,e]
 simp
noncomputable def bareT (nm:Str) (cs:List Col) (key:List Str) (rules:List T):T:=.tup [.str nm,.tup (cs.map Col.t),.tup (key.map .str),.tup rules]
theorem bare_loop {P:Pr} (hd:P.fn "_law_drawn"=some d_law_drawn) (n:Nat) (nm:T) (k:Int) :
  ∃ a b c,loopM (fun x τ=>(bndS [4,5] x τ).bind fun τ'=>evSs (glo P (run P (n+1))) [.asg 6 (.bin .fdiv (.call "_law_drawn" [.var 1,.bin .add (.cst (.int 10)) (.var 4)]) (.cst (.int 4))),
  .ite (.cmp .gt (.bin .mod (.var 6) (.cst (.int 4))) (.cst (.int 0))) [.app 3 (.tup [.var 5,.idx (.var 2) (.bin .mod (.bin .fdiv (.var 6) (.cst (.int 4))) (.cst (.int 6))),.cmp .gt (.bin .mod (.bin .fdiv (.var 6) (.cst (.int 32))) (.cst (.int 3))) (.cst (.int 0))])] []] τ')
   [.tup [.int 0,.str "n"],.tup [.int 1,.str "t"],.tup [.int 2,.str "u"]]
   [.val nm,.val (.int k),.val (.tup [.str "whole",.str "whole",.str "text",.str "whole",.str "text",.str "whole"]),.own [Col.t ⟨"id",kindAt k,false⟩],.no,.no,.no,.no,.no,.no] =
   some (.nx [.val nm,.val (.int k),.val (.tup [.str "whole",.str "whole",.str "text",.str "whole",.str "text",.str "whole"]),.own ((bareCols k).map Col.t),.val a,.val b,.val c,.no,.no,.no]):=by
 have e0:=drawn_run hd n k 10
 have e1:=drawn_run hd n k 11
 have e2:=drawn_run hd n k 12
 by_cases h0:0<drawnI k 10/4%4<;>by_cases h1:0<drawnI k 11/4%4<;>by_cases h2:0<drawnI k 12/4%4 <;>
  simp [evSs,evS,evE,evEs,view,frzAt,vars,varsL,Sl.get,Sl.frz,binT,addT,modT,fdivT,slotOf,fresh,cmpT,idxT,loopM,bndS,setAll,glo,SZ,e0,e1,e2,h0,h1,h2,getI_kinds,bareCols,colAt,Col.t]
theorem plain_map (cs:List Col):(cs.filterMap fun c=>if c.g then none else some (T.str c.n))=(plainOf cs).map T.str:=by
 unfold plainOf
 induction cs with
 | nil=>rfl
 | cons c cs ih=>simp only [List.filterMap_cons];cases c.g<;>simp [ih]
theorem getI0 (a:T) (r:List T):getI (a::r) 0=some a:=by simp [getI,ixI]
theorem getI1 (a b:T) (r:List T):getI (a::b::r) 1=some b:=by
 have:=getI_nat (xs:=a::b::r) (k:=1) (t:=b) rfl
 exact this
theorem getI2 (a b c:T) (r:List T):getI (a::b::c::r) 2=some c:=by
 have:=getI_nat (xs:=a::b::c::r) (k:=2) (t:=c) rfl
 exact this
theorem two_mod (i:Int):i%2=0∨i%2=1:=by omega
set_option maxHeartbeats 8000000 in
theorem bare_run {P:Pr} (hd:P.fn "_law_drawn"=some d_law_drawn) (hb:P.fn "_law_bare"=some d_law_bare) (n:Nat) (nm:Str) (k:Int) :
  run P (n+2) "_law_bare" [.str nm,.int k]=some (bareT nm (rotC (bareCols k) (k/64%((bareCols k).length:Int)).toNat) (keyOf k (bareCols k)) []):=by
 rw [run_succ hb rfl]
 obtain ⟨a,b,c,el⟩:=bare_loop hd n (.str nm) k
 have hlen:=bareCols_len k
 have hm0:0≤k/64%((bareCols k).length:Int):=Int.emod_nonneg _ (by omega)
 have hm1:k/64%((bareCols k).length:Int)<((bareCols k).length:Int):=Int.emod_lt_of_pos _ (by omega)
 generalize hby:(k/64%((bareCols k).length:Int)).toNat=by_ at *
 have hbi:k/64%((bareCols k).length:Int)=(by_:Int):=by omega
 have hbl:by_≤((bareCols k).map Col.t).length:=by rw [List.length_map];omega
 unfold d_law_bare
 dsimp only
 rw [nx_of (τ':=[.val (.str nm),.val (.int k),.val (.tup [.str "whole",.str "whole",.str "text",.str "whole",.str "text",.str "whole"]),.no,.no,.no,.no,.no,.no,.no]) (by simp [evS,evE,evEs,begin',frzAt,vars,varsL,slotOf,fresh])]
 rw [nx_of (τ':=[.val (.str nm),.val (.int k),.val (.tup [.str "whole",.str "whole",.str "text",.str "whole",.str "text",.str "whole"]),.own [Col.t ⟨"id",kindAt k,false⟩],.no,.no,.no,.no,.no,.no]) (by simp [evS,evE,evEs,view,frzAt,vars,varsL,Sl.get,Sl.frz,binT,modT,slotOf,fresh,idxT,getI_kinds,Col.t])]
 rw [nx_of (s:=.loop _ _ _ _) (τ':=_) (by
  rw [evS]
  simp only [varsL,vars,List.append_nil,frzAt,evEs,evE,List.length_cons,List.length_nil]
  simp only [Nat.reduceAdd,Nat.reduceLeDiff,if_true,Option.map_some,Option.bind_some,items,enumT]
  exact el)]
 rw [nx_of (τ':=[.val (.str nm),.val (.int k),.val (.tup [.str "whole",.str "whole",.str "text",.str "whole",.str "text",.str "whole"]),.val (.lst ((bareCols k).map Col.t)),.val a,.val b,.val c,.val (.lst ((plainOf (bareCols k)).map .str)),.no,.no]) (by
  have hz:((bareCols k).map Col.t).length≤16777216:=by rw [List.length_map];omega
  have hz':(bareCols k).length≤16777216:=by omega
  simp [evS,evE,evEs,evO,view,frzAt,vars,varsL,varsO,Sl.get,Sl.frz,slotOf,fresh,idxT,truT,items,itemsC,bnd,SZ,hz']
  rw [compM_map (enc:=Col.t) (fun c=>if c.g then none else some (T.str c.n)) (fun c _=>by cases hg:c.g<;>simp [Col.t,hg,getI0,getI2]),plain_map];rfl)]
 rw [nx_of (τ':=[.val (.str nm),.val (.int k),.val (.tup [.str "whole",.str "whole",.str "text",.str "whole",.str "text",.str "whole"]),.val (.lst ((bareCols k).map Col.t)),.val a,.val b,.val c,.val (.lst ((plainOf (bareCols k)).map .str)),.val (.tup [.str "id"]),.no]) (by simp [evS,evE,evEs,frzAt,vars,varsL,slotOf,fresh])]
 rw [nx_of (τ':=[.val (.str nm),.val (.int k),.val (.tup [.str "whole",.str "whole",.str "text",.str "whole",.str "text",.str "whole"]),.val (.lst ((bareCols k).map Col.t)),.val a,.val b,.val c,.val (.lst ((plainOf (bareCols k)).map .str)),.val (.tup ((keyOf k (bareCols k)).map .str)),.no]) (by
  unfold keyOf
  by_cases h1:k/8%4=0
  ·by_cases h2:1<(plainOf (bareCols k)).length
   ·have e1:getI ((plainOf (bareCols k)).map T.str) 1=some (.str ((plainOf (bareCols k)).getD 1 "id")):=by
     have:=getI_nat (xs:=(plainOf (bareCols k)).map T.str) (k:=1) (t:=.str ((plainOf (bareCols k)).getD 1 "id")) (by rw [List.getElem?_map,List.getElem?_eq_getElem h2,List.getD_eq_getElem?_getD,List.getElem?_eq_getElem h2];rfl)
     exact this
    have h2':decide ((1:Int)<((plainOf (bareCols k)).length:Int))=true:=decide_eq_true (by omega)
    rcases two_mod (k/32) with z | z<;>simp [evSs,evS,evE,evEs,view,frzAt,vars,varsL,Sl.get,Sl.frz,binT,modT,fdivT,slotOf,fresh,cmpT,idxT,bltT,SZ,eqC,dpP,eqT,h1,h2,h2',e1,z,getI0,getI1]
   ·have h2':decide ((1:Int)<((plainOf (bareCols k)).length:Int))=false:=decide_eq_false (by omega)
    simp [evSs,evS,evE,evEs,view,frzAt,vars,varsL,Sl.get,Sl.frz,binT,modT,fdivT,slotOf,fresh,cmpT,idxT,bltT,SZ,eqC,dpP,eqT,h1,h2,h2']
  ·have h1':(k/8%4==0)=false:=by simpa using h1
   simp [evSs,evS,evE,evEs,view,frzAt,vars,varsL,Sl.get,Sl.frz,binT,modT,fdivT,slotOf,fresh,cmpT,idxT,bltT,SZ,eqC,dpP,eqT,h1,h1'])]
 rw [nx_of (τ':=[.val (.str nm),.val (.int k),.val (.tup [.str "whole",.str "whole",.str "text",.str "whole",.str "text",.str "whole"]),.val (.lst ((bareCols k).map Col.t)),.val a,.val b,.val c,.val (.lst ((plainOf (bareCols k)).map .str)),.val (.tup ((keyOf k (bareCols k)).map .str)),.val (.int (by_:Int))]) (by
  have hp:0<((bareCols k).length:Int):=by omega
  have hp':0<(bareCols k).length:=by omega
  simp [evS,evE,view,frzAt,vars,Sl.get,Sl.frz,binT,modT,fdivT,slotOf,fresh,bltT,SZ,hbi,hp'])]
 have hz1:((bareCols k).length-by_)+min by_ (bareCols k).length≤16777216:=by omega
 simp [evSs,evS,evE,evEs,evO,view,frzAt,vars,varsL,varsO,Sl.get,Sl.frz,binT,addT,resultOf,bltT,asI,sliT,SZ,cut_from _ _ hbl,cut_to _ _ hbl,hz1,bareT,rotC]
theorem loopM_from {α:Type} {enc:α→T} {f:T→List Sl→Option Out} (I:List α→List Sl→Prop):∀ (l done:List α) (τ:List Sl),I done τ →
  (∀ l1 a l2,l=l1++a::l2→∀ τ,I (done++l1) τ→∃ τ',f (enc a) τ=some (.nx τ')∧I (done++l1++[a]) τ')→∃ τ',loopM f (l.map enc) τ=some (.nx τ')∧I (done++l) τ'
 | [],done,τ,h,_=>⟨τ,rfl,by rw [List.append_nil];exact h⟩
 | a::l,done,τ,h,hs=>by
  obtain ⟨τ1,e1,h1⟩:=hs [] a l rfl τ (by rw [List.append_nil];exact h)
  rw [List.append_nil] at h1
  obtain ⟨τ2,e2,h2⟩:=loopM_from I l (done++[a]) τ1 h1 fun l1 b l2 e τ hd=>by
   have:=hs (a::l1) b l2 (by rw [e];rfl) τ (by simpa using hd)
   simpa using this
  refine ⟨τ2,?_,by rw [List.append_assoc] at h2;exact h2⟩
  rw [List.map_cons,loopM,e1]
  exact e2
theorem loopM_inv {α:Type} {enc:α→T} {f:T→List Sl→Option Out} (I:List α→List Sl→Prop) (l:List α) (τ:List Sl) (h:I [] τ)
  (hs:∀ l1 a l2,l=l1++a::l2→∀ τ,I l1 τ→∃ τ',f (enc a) τ=some (.nx τ')∧I (l1++[a]) τ'):∃ τ',loopM f (l.map enc) τ=some (.nx τ')∧I l τ':=by
 have:=loopM_from I l [] τ h fun l1 a l2 e τ hd=>by
  have:=hs l1 a l2 e τ (by simpa using hd)
  simpa using this
 simpa using this
theorem getI_mem {α:Type} {enc:α→T} {cs:List α} (h:cs≠[]) (i:Int):∃ c∈cs,getI (cs.map enc) (i%(cs.length:Int))=some (enc c):=by
 have hl:0<cs.length:=by cases cs with | nil=>exact absurd rfl h | cons _ _=>simp
 have h1:0≤i%(cs.length:Int):=Int.emod_nonneg _ (by omega)
 have h2:i%(cs.length:Int)<(cs.length:Int):=Int.emod_lt_of_pos _ (by omega)
 obtain ⟨j,hj⟩:∃ j:Nat,i%(cs.length:Int)=(j:Int):=⟨(i%(cs.length:Int)).toNat,by omega⟩
 rw [hj] at h2 ⊢
 have hj':j<cs.length:=by omega
 refine ⟨cs[j],List.getElem_mem _,getI_nat ?_⟩
 rw [List.getElem?_map,List.getElem?_eq_getElem hj']
 rfl
inductive Tst where
 | emp (c:Str) | bel (a b:Str) | isI (c:Str) (i:Int) | isS (c x:Str) | neg (t:Tst) | cnj (a b:Tst) | dsj (a b:Tst)
noncomputable def Tst.t:Tst→T
 | .emp c=>.tup [.str "empty",.str c]
 | .bel a b=>.tup [.str "below",.str a,.str b]
 | .isI c i=>.tup [.str "is",.str c,.int i]
 | .isS c x=>.tup [.str "is",.str c,.str x]
 | .neg t=>.tup [.str "not",t.t]
 | .cnj a b=>.tup [.str "and",a.t,b.t]
 | .dsj a b=>.tup [.str "or",a.t,b.t]
noncomputable def worthI:List Int:=[0,1,2,3,-5,999]
noncomputable def Tst.ok:Nat→Tst→Prop
 | d,.emp c=>1≤d∧c.length≤6
 | d,.bel a b=>1≤d∧a.length≤6∧b.length≤6
 | d,.isI c i=>1≤d∧c.length≤6 ∧ -1000<i∧i<1000∧i∈worthI
 | d,.isS c x=>1≤d∧c.length≤6∧x.length≤6∧ascii x=true
 | d+1,.neg t=>t.ok d
 | d+1,.cnj a b=>a.ok d∧b.ok d
 | d+1,.dsj a b=>a.ok d∧b.ok d
 | 0,_=>False
noncomputable def Tst.inn (cs:List Col):Tst→Prop
 | .emp c=>∃ o∈cs,o.n=c
 | .bel a b=>∃ o∈cs,∃ p∈cs,o.n=a∧p.n=b∧o.k=p.k
 | .isI c _=>∃ o∈cs,o.n=c∧(o.k==("text":Str))=false
 | .isS c _=>∃ o∈cs,o.n=c∧(o.k==("text":Str))=true
 | .neg t=>t.inn cs
 | .cnj a b=>a.inn cs∧b.inn cs
 | .dsj a b=>a.inn cs∧b.inn cs
noncomputable def Sh (x:Str):Prop:=x.length≤6∧ascii x=true
noncomputable def ColsOk (cs:List Col):Prop:=cs≠[]∧cs.length≤4∧∀ c∈cs,Sh c.n∧c.k.length≤6
noncomputable def worthS:List Str:=["", "a", "b", "ab", "x9", "zzzzzz"]
theorem worthS_asc:∀ x∈worthS,ascii x=true:=by decide +kernel
theorem worthS_len:∀ x∈worthS,x.length≤6:=by decide +kernel
theorem worthI_mem:∀ i∈worthI,-1000<i∧i<1000:=by decide
theorem getI_worthI (k:Int):∃ i∈worthI,getI [.int 0,.int 1,.int 2,.int 3,.int (-5),.int 999] (k%6)=some (.int i):=by
 obtain ⟨c,hc,e⟩:=getI_mem (enc:=T.int) (cs:=worthI) (by simp [worthI]) k
 exact ⟨c,hc,e⟩
theorem getI_worthS (k:Int):∃ x∈worthS,getI [.str "",.str "a",.str "b",.str "ab",.str "x9",.str "zzzzzz"] (k%6)=some (.str x):=by
 obtain ⟨c,hc,e⟩:=getI_mem (enc:=T.str) (cs:=worthS) (by simp [worthS]) k
 exact ⟨c,hc,e⟩
noncomputable def alike (cs:List Col) (c:Col):List Str:=cs.filterMap fun o=>if o.k==c.k then some o.n else none
theorem alike_map (cs:List Col) (c:Col):(cs.filterMap fun o=>if o.k==c.k then some (T.str o.n) else none)=(alike cs c).map T.str:=by
 unfold alike
 induction cs with
 | nil=>rfl
 | cons o cs ih=>simp only [List.filterMap_cons];split<;>simp_all
theorem alike_mem {cs:List Col} {c:Col} {x:Str} (h:x∈alike cs c):∃ o∈cs,o.n=x∧o.k=c.k:=by
 unfold alike at h
 obtain ⟨o,ho,e⟩:=List.mem_filterMap.mp h
 split at e
 ·rename_i hk;cases e;exact ⟨o,ho,rfl,eq_of_beq hk⟩
 ·cases e
theorem alike_ne {cs:List Col} {c:Col} (h:c∈cs):alike cs c≠[]:=by
 intro e
 have:c.n∈alike cs c:=List.mem_filterMap.mpr ⟨c,h,by simp⟩
 rw [e] at this
 cases this
noncomputable def tabT (nm:T) (cs:List Col) (key rules:T):T:=.tup [nm,.tup (cs.map Col.t),key,rules]
noncomputable def teB:List S:=d_law_test.body.drop 3
noncomputable def teC:List S:=d_law_test.body.drop 4
theorem te_eq {G:Glo} {k j:Int} {s0 s1 s2 s3 s4 s6 s7 s8:Sl}:evE G (.cmp .eq (.var 5) (.cst (.int j))) (view [s0,s1,s2,s3,s4,.val (.int k),s6,s7,s8])=some (.bl (k==j)):=rfl
theorem te_nm {G:Glo} {c:Col} {s0 s1 s2 s3 s5 s6 s7 s8:Sl}:evE G (.idx (.var 4) (.cst (.int 0))) (view [s0,s1,s2,s3,.val c.t,s5,s6,s7,s8])=some (.str c.n):=by simp [evE,view,Sl.get,Col.t,idxT,getI0]
theorem test_tail {G:Glo} {cs:List Col} (hc:ColsOk cs) {c:Col} (hm:c∈cs) (TB:T) (k d:Int) :
  ∃ t:Tst,evSs G teC [.val TB,.val (.int k),.val (.int d),.val (.tup (cs.map Col.t)),.val c.t,.val (.int (k%8)),.no,.no,.no]=some (.rt t.t)∧(∀ n,t.ok (n+1))∧t.inn cs:=by
 have hl:cs.length≤16777216:=by have:=hc.2.1;omega
 have hcm:=hc.2.2 c hm
 by_cases h0:k%8=0
 ·exact ⟨.emp c.n,ite_g rfl (te_eq.trans (by rw [h0];rfl)) (ret_p rfl (by rw [evE,evEs,evEs,te_nm];rfl)),fun n=>⟨by omega,hcm.1.1⟩,c,hm,rfl⟩
 ·have e7:evE G (.comp (.idx (.var 0) (.cst (.int 0))) 1 .plain [.var 3] (some (.cmp .eq (.idx (.var 0) (.cst (.int 1))) (.idx (.var 5) (.cst (.int 1)))))) (view [.val TB,.val (.int k),.val (.int d),.val (.tup (cs.map Col.t)),.val c.t,.val (.int (k%8)),.no,.no,.no])=some (.lst ((alike cs c).map .str)):=by
   simp [evE,evEs,evO,view,Sl.get,cmpT,idxT,items,itemsC,bnd,SZ,hl]
   rw [compM_map (enc:=Col.t) (fun o=>if o.k==c.k then some (T.str o.n) else none) (fun o _=>by
    cases hk:(o.k==c.k)<;>simp [Col.t,getI0,getI1,eqC,dpP,eqT,hk]),alike_map]
  have pre:evSs G teC [.val TB,.val (.int k),.val (.int d),.val (.tup (cs.map Col.t)),.val c.t,.val (.int (k%8)),.no,.no,.no]=evSs G (teC.drop 2) [.val TB,.val (.int k),.val (.int d),.val (.tup (cs.map Col.t)),.val c.t,.val (.int (k%8)),.no,.val (.lst ((alike cs c).map .str)),.no] :=
   (ite_n rfl (te_eq.trans (by rw [show (k%8==0)=false by simpa using h0]))).trans (asg_p rfl e7 rfl)
  rw [pre]
  generalize T.tup (cs.map Col.t)=CT
  by_cases h1:k%8=1
  ·obtain ⟨x,hx,e⟩:=getI_mem (enc:=T.str) (alike_ne hm) (k/64)
   have hp:0<(alike cs c).length:=by
    have:=alike_ne hm
    cases q:alike cs c with
    | nil=>exact absurd q this
    | cons _ _=>simp
   obtain ⟨o,ho,rfl,hk⟩:=alike_mem hx
   refine ⟨.bel c.n o.n,ite_g rfl (te_eq.trans (by rw [h1];rfl)) (ret_p rfl ?_),fun n=>⟨by omega,hcm.1.1,(hc.2.2 o ho).1.1⟩,c,hm,o,ho,rfl,rfl,hk.symm⟩
   have e':evE G (.idx (.var 7) (.bin .mod (.bin .fdiv (.var 1) (.cst (.int 64))) (.blt .len (.var 7)))) (view [.val TB,.val (.int k),.val (.int d),.val CT,.val c.t,.val (.int (k%8)),.no,.val (.lst ((alike cs c).map .str)),.no])=some (.str o.n):=by
    simp [evE,view,Sl.get,bltT,binT,modT,fdivT,hp,idxT,e]
   rw [evE,evEs,evEs,evEs,te_nm,e']
   rfl
  ·have pre2:evSs G (teC.drop 2) [.val TB,.val (.int k),.val (.int d),.val CT,.val c.t,.val (.int (k%8)),.no,.val (.lst ((alike cs c).map .str)),.no]=evSs G (teC.drop 3) [.val TB,.val (.int k),.val (.int d),.val CT,.val c.t,.val (.int (k%8)),.no,.val (.lst ((alike cs c).map .str)),.no]:=ite_n rfl (te_eq.trans (by rw [show (k%8==1)=false by simpa using h1]))
   rw [pre2]
   generalize T.lst ((alike cs c).map T.str)=AL
   obtain ⟨i,hi,ei⟩:=getI_worthI (k/64)
   obtain ⟨x,hx,ex⟩:=getI_worthS (k/64)
   cases ht:(c.k==("text":Str)) with
   | true =>
    refine ⟨.isS c.n x,(asg_p (t:=.tup [.str "",.str "a",.str "b",.str "ab",.str "x9",.str "zzzzzz"]) (τ':=[.val TB,.val (.int k),.val (.int d),.val CT,.val c.t,.val (.int (k%8)),.no,.val AL,.val (.tup [.str "",.str "a",.str "b",.str "ab",.str "x9",.str "zzzzzz"])]) rfl (by simp [evE,evEs,view,Sl.get,Col.t,idxT,getI1,cmpT,eqC,dpP,eqT,ht,bltT]) rfl).trans (ret_p rfl ?_),fun n=>⟨by omega,hcm.1.1,worthS_len x hx,worthS_asc x hx⟩,c,hm,rfl,ht⟩
    rw [evE,evEs,evEs,evEs,te_nm]
    simp [evE,evEs,view,Sl.get,binT,modT,fdivT,idxT,ex,Tst.t]
   | false =>
    refine ⟨.isI c.n i,(asg_p (t:=.tup [.int 0,.int 1,.int 2,.int 3,.int (-5),.int 999]) (τ':=[.val TB,.val (.int k),.val (.int d),.val CT,.val c.t,.val (.int (k%8)),.no,.val AL,.val (.tup [.int 0,.int 1,.int 2,.int 3,.int (-5),.int 999])]) rfl (by simp [evE,evEs,view,Sl.get,Col.t,idxT,getI0,getI1,cmpT,eqC,dpP,eqT,ht,bltT]) rfl).trans (ret_p rfl ?_),fun n=>⟨by omega,hcm.1.1,(worthI_mem i hi).1,(worthI_mem i hi).2,hi⟩,c,hm,rfl,ht⟩
    rw [evE,evEs,evEs,evEs,te_nm]
    simp [evE,evEs,view,Sl.get,binT,modT,fdivT,idxT,ei,Tst.t]
theorem test_pre {G:Glo} {TB CT ct:T} {k D:Int} {l:Nat} (i1:idxT TB (.int 1)=some CT) (l1:bltT .len CT=some (.int (l:Int))) (hp:0<l) (i2:idxT CT (.int (k/8%(l:Int)))=some ct) :
  evSs G d_law_test.body [.val TB,.val (.int k),.val (.int D),.no,.no,.no,.no,.no,.no]=evSs G teB [.val TB,.val (.int k),.val (.int D),.val CT,.val ct,.val (.int (k%8)),.no,.no,.no] :=
 (asg_p (t:=CT) (τ':=[.val TB,.val (.int k),.val (.int D),.val CT,.no,.no,.no,.no,.no]) rfl (by simp [evE,view,Sl.get,i1]) rfl).trans ((asg_p (t:=ct) (τ':=[.val TB,.val (.int k),.val (.int D),.val CT,.val ct,.no,.no,.no,.no]) rfl (by simp [evE,view,Sl.get,l1,binT,modT,fdivT,hp,i2]) rfl).trans (asg_p (t:=.int (k%8)) rfl (by simp [evE,view,Sl.get,binT,modT]) rfl))
theorem te_two {G:Glo} {k D:Int} {s0 s3 s4 s6 s7 s8:Sl}:evE G (.land (.cmp .gt (.var 2) (.cst (.int 1))) (.cmp .gt (.var 5) (.cst (.int 4)))) (view [s0,.val (.int k),.val (.int D),s3,s4,.val (.int (k%8)),s6,s7,s8])=some (.bl (decide (1<D)&&decide (4<k%8))):=by
 cases h1:decide (1<D)<;>simp [evE,view,Sl.get,cmpT,h1]
theorem test_run {P:Pr} (hd:P.fn "_law_drawn"=some d_law_drawn) (ht:P.fn "_law_test"=some d_law_test) {cs:List Col} (hc:ColsOk cs) (nm key rules:T) :
  ∀ (d:Nat) (n:Nat) (k:Int),∃ t:Tst,run P (n+d+2) "_law_test" [tabT nm cs key rules,.int k,.int ((d+1:Nat):Int)]=some t.t∧t.ok (d+1)∧t.inn cs:=by
 have i1:idxT (tabT nm cs key rules) (.int 1)=some (.tup (cs.map Col.t)):=by simp [tabT,idxT,getI1]
 have l1:bltT .len (.tup (cs.map Col.t))=some (.int (cs.length:Int)):=by simp [bltT]
 have hp:0<cs.length:=by cases cs with | nil=>exact absurd rfl hc.1 | cons _ _=>simp
 have i2:∀ k:Int,∃ c∈cs,idxT (.tup (cs.map Col.t)) (.int (k/8%(cs.length:Int)))=some c.t:=fun k=>by
  obtain ⟨c,hm,ec⟩:=getI_mem (enc:=Col.t) hc.1 (k/8)
  exact ⟨c,hm,ec⟩
 intro d
 induction d with
 | zero =>
  intro n k
  rw [run_succ ht rfl]
  show ∃ t:Tst,resultOf (evSs (glo P (run P (n+1))) d_law_test.body [.val (tabT nm cs key rules),.val (.int k),.val (.int 1),.no,.no,.no,.no,.no,.no])=_∧_
  obtain ⟨c,hm,ec⟩:=i2 k
  obtain ⟨t,e,h,hin⟩:=test_tail (G:=glo P (run P (n+1))) hc hm (tabT nm cs key rules) k 1
  refine ⟨t,?_,h 0,hin⟩
  rw [test_pre i1 l1 hp ec]
  exact congrArg resultOf ((ite_n rfl (te_two.trans rfl)).trans e)
 | succ d ih =>
  intro n k
  rw [show n+(d+1)+2=(n+d+2)+1 by omega,run_succ ht rfl]
  obtain ⟨c,hm,ec⟩:=i2 k
  have e1:(glo P (run P (n+d+2))).call "_law_drawn" [.int k,.int 1]=_:=drawn_run hd (n+d+1) k 1
  have e2:(glo P (run P (n+d+2))).call "_law_drawn" [.int k,.int 2]=_:=drawn_run hd (n+d+1) k 2
  obtain ⟨t1,r1,o1,n1⟩:=ih n (drawnI k 1/4)
  obtain ⟨t2,r2,o2,n2⟩:=ih n (drawnI k 2/4)
  have hd1:((d+1+1:Nat):Int)-1=((d+1:Nat):Int):=by omega
  rw [← hd1] at r1 r2
  clear hd1 ih
  generalize hD:((d+1+1:Nat):Int)=D at *
  have hD1:decide (1<D)=true:=decide_eq_true (by omega)
  have r1:(glo P (run P (n+d+2))).call "_law_test" [tabT nm cs key rules,.int (drawnI k 1/4),.int (D-1)]=some t1.t:=r1
  have r2:(glo P (run P (n+d+2))).call "_law_test" [tabT nm cs key rules,.int (drawnI k 2/4),.int (D-1)]=some t2.t:=r2
  show ∃ t:Tst,resultOf (evSs (glo P (run P (n+d+2))) d_law_test.body [.val (tabT nm cs key rules),.val (.int k),.val (.int D),.no,.no,.no,.no,.no,.no])=_∧_
  rw [test_pre i1 l1 hp ec]
  obtain ⟨t,e,h,hin⟩:=test_tail (G:=glo P (run P (n+d+2))) hc hm (tabT nm cs key rules) k D
  generalize glo P (run P (n+d+2))=G at *
  generalize tabT nm cs key rules=TB at *
  generalize T.tup (cs.map Col.t)=CT at *
  generalize c.t=ct at *
  by_cases h4:4<k%8
  ·have h4':decide (4<k%8)=true:=decide_eq_true h4
   have e6:evE G (.comp (.call "_law_test" [.var 1,.bin .fdiv (.call "_law_drawn" [.var 2,.var 0]) (.cst (.int 4)),.bin .sub (.var 3) (.cst (.int 1))]) 1 .plain [.tup [.cst (.int 1),.cst (.int 2)]] none) (view [.val TB,.val (.int k),.val (.int D),.val CT,.val ct,.val (.int (k%8)),.no,.no,.no])=some (.lst [t1.t,t2.t]):=by
    simp [evE,evEs,evO,view,Sl.get,binT,subT,fdivT,items,itemsC,compM,bnd,SZ,e1,e2,r1,r2]
   have pre:∀ u:T,evE G (.idx (.lst [.tup [.cst (.str "not"),.idx (.var 6) (.cst (.int 0))],.tup [.cst (.str "and"),.idx (.var 6) (.cst (.int 0)),.idx (.var 6) (.cst (.int 1))],.tup [.cst (.str "or"),.idx (.var 6) (.cst (.int 0)),.idx (.var 6) (.cst (.int 1))]]) (.bin .sub (.var 5) (.cst (.int 5)))) (view [.val TB,.val (.int k),.val (.int D),.val CT,.val ct,.val (.int (k%8)),.val (.lst [t1.t,t2.t]),.no,.no])=some u→evSs G teB [.val TB,.val (.int k),.val (.int D),.val CT,.val ct,.val (.int (k%8)),.no,.no,.no]=some (.rt u):=fun u hu =>
    ite_g rfl (te_two.trans (by rw [hD1,h4'];rfl)) ((asg_p rfl e6 rfl).trans (ret_p rfl hu))
   have hk:k%8=5∨k%8=6∨k%8=7:=by omega
   have ev:evE G (.idx (.lst [.tup [.cst (.str "not"),.idx (.var 6) (.cst (.int 0))],.tup [.cst (.str "and"),.idx (.var 6) (.cst (.int 0)),.idx (.var 6) (.cst (.int 1))],.tup [.cst (.str "or"),.idx (.var 6) (.cst (.int 0)),.idx (.var 6) (.cst (.int 1))]]) (.bin .sub (.var 5) (.cst (.int 5)))) (view [.val TB,.val (.int k),.val (.int D),.val CT,.val ct,.val (.int (k%8)),.val (.lst [t1.t,t2.t]),.no,.no])=getI [.tup [.str "not",t1.t],.tup [.str "and",t1.t,t2.t],.tup [.str "or",t1.t,t2.t]] (k%8-5):=by
    simp [evE,evEs,view,Sl.get,idxT,getI0,getI1,binT,subT]
   rcases hk with hk | hk | hk
   ·exact ⟨.neg t1,congrArg resultOf (pre _ (ev.trans (by rw [hk];exact getI0 _ _))),o1,n1⟩
   ·exact ⟨.cnj t1 t2,congrArg resultOf (pre _ (ev.trans (by rw [hk];exact getI1 _ _ _))),⟨o1,o2⟩,n1,n2⟩
   ·exact ⟨.dsj t1 t2,congrArg resultOf (pre _ (ev.trans (by rw [hk];exact getI2 _ _ _ _))),⟨o1,o2⟩,n1,n2⟩
  ·refine ⟨t,congrArg resultOf ((ite_n rfl (te_two.trans (by rw [hD1,decide_eq_false h4];rfl))).trans e),h (d+1),hin⟩
noncomputable def strT (xs:List Str):T:=.tup (xs.map .str)
noncomputable def Short (xs:List Str):Prop:=∀ x∈xs,Sh x
theorem str_in {x:Str}:∀ (xs:List Str),(xs.map T.str).any (fun z=>eqT z (.str x))=xs.any fun y=>y==x
 | []=>rfl
 | y::ys=>by rw [List.map_cons,List.any_cons,List.any_cons,str_in ys,eqT]
theorem dp_str (t:T) (x:Str):dpP t (.str x)=0:=by cases t<;>rfl
theorem dpI_str (x:Str) (xs:List T):dpI (.str x) xs=true:=by
 unfold dpI
 rw [List.all_eq_true]
 intro z _
 rw [dp_str];rfl
theorem inC_str (x:Str) (xs:List Str):inC (.str x) (.tup (xs.map .str))=some (xs.any fun y=>y==x):=by
 simp only [inC,dpI_str,if_true,str_in]
noncomputable def more (cs:List Col) (kd:Str) (row:List Str):List (List Str):=cs.filterMap fun o=>if (o.k==kd)&&!(row.any fun y=>y==o.n) then some (row++[o.n]) else none
theorem more_map (cs:List Col) (kd:Str) (row:List Str):(cs.filterMap fun o=>if (o.k==kd)&&!(row.any fun y=>y==o.n) then some (strT (row++[o.n])) else none)=(more cs kd row).map strT:=by
 unfold more
 rw [List.map_filterMap]
 congr
 funext o
 split<;>rfl
theorem more_len (cs:List Col) (kd:Str) (row:List Str):(more cs kd row).length≤cs.length:=List.length_filterMap_le _ _
theorem more_short {cs:List Col} (hc:ColsOk cs) {kd:Str} {row r:List Str} (hr:Short row) (h:r∈more cs kd row):Short r∧r.length=row.length+1:=by
 unfold more at h
 obtain ⟨o,ho,e⟩:=List.mem_filterMap.mp h
 split at e
 ·cases e
  refine ⟨fun x hx=>?_,by simp⟩
  rcases List.mem_append.mp hx with q | q
  ·exact hr x q
  ·rw [List.mem_singleton.mp q];exact (hc.2.2 o ho).1
 ·cases e
noncomputable def Rows (j:Nat) (ps:List (List Str)):Prop:=ps.length≤4 ^ j∧∀ p∈ps,Short p∧p.length=j
theorem pairs_inner {G:Glo} {cs:List Col} (hc:ColsOk cs) (nm key rules kt s2:T) (kd:Str) (j:Nat) (hj:j≤1) (ps:List (List Str)) (hp:Rows j ps) (s3:Sl) :
  ∃ (qs:List (List Str)) (s5:Sl),loopM (fun x τ=>(bndS [5] x τ).bind fun τ'=>evSs G [.asg 4 (.bin .add (.var 4) (.comp (.bin .add (.var 6) (.tup [.idx (.var 0) (.cst (.int 0))])) 1 .plain [.idx (.var 0) (.cst (.int 1))] (some (.land (.cmp .eq (.idx (.var 0) (.cst (.int 1))) (.var 4)) (.cmp .notin (.idx (.var 0) (.cst (.int 0))) (.var 6))))))] τ')
   (ps.map strT) [.val (tabT nm cs key rules),.val kt,.val s2,.val (.str kd),.own [],s3] =
   some (.nx [.val (tabT nm cs key rules),.val kt,.val s2,.val (.str kd),.own (qs.map strT),s5])∧Rows (j+1) qs:=by
 have hl4:=hc.2.1
 have hl:cs.length≤16777216:=by omega
 have h4j:4 ^ j≤4:=by
  rcases (by omega:j=0∨j=1) with rfl | rfl<;>decide
 have hpl:ps.length≤4:=Nat.le_trans hp.1 h4j
 obtain ⟨τ',e,qs,s5,rfl,h1,h2⟩:=loopM_inv (enc:=strT) (f:=fun x τ=>(bndS [5] x τ).bind fun τ'=>evSs G [.asg 4 (.bin .add (.var 4) (.comp (.bin .add (.var 6) (.tup [.idx (.var 0) (.cst (.int 0))])) 1 .plain [.idx (.var 0) (.cst (.int 1))] (some (.land (.cmp .eq (.idx (.var 0) (.cst (.int 1))) (.var 4)) (.cmp .notin (.idx (.var 0) (.cst (.int 0))) (.var 6))))))] τ')
  (fun done τ=>∃ qs s5,τ=[.val (tabT nm cs key rules),.val kt,.val s2,.val (.str kd),.own (qs.map strT),s5]∧qs.length≤4*done.length∧∀ q∈qs,Short q∧q.length=j+1)
  ps [.val (tabT nm cs key rules),.val kt,.val s2,.val (.str kd),.own [],s3] ⟨[],s3,rfl,by simp,fun q hq=>by cases hq⟩ (by
   rintro done row rest hsp τ ⟨qs,s5,rfl,h1,h2⟩
   have hrow:row∈ps:=by rw [hsp];simp
   have hdl:done.length≤ps.length:=by rw [hsp];simp
   have hrs:=(hp.2 row hrow).1
   have hml:=more_len cs kd row
   have hz:qs.length+(more cs kd row).length≤16777216:=by omega
   have hrl:row.length+1≤16777216:=by rw [(hp.2 row hrow).2];omega
   refine ⟨[.val (tabT nm cs key rules),.val kt,.val s2,.val (.str kd),.own ((qs++more cs kd row).map strT),.val (strT row)],?_,qs++more cs kd row,_,rfl,?_,?_⟩
   ·simp [evSs,evS,evE,evEs,evO,view,frzAt,vars,varsL,varsO,Sl.get,Sl.frz,binT,addT,slotOf,fresh,cmpT,idxT,items,itemsC,bndS,bnd,SZ,tabT,getI1,hl]
    rw [compM_map (enc:=Col.t) (fun o=>if (o.k==kd)&&!(row.any fun y=>y==o.n) then some (strT (row++[o.n])) else none) (fun o _=>by
     cases hk:(o.k==kd) with
     | false=>simp [Col.t,getI0,getI1,eqC,dpP,eqT,hk]
     | true =>
      have hin:=inC_str o.n row
      cases ha:(row.any fun y=>y==o.n)<;>rw [ha] at hin<;>simp [Col.t,getI0,getI1,eqC,dpP,eqT,hk,strT,hin,hrl]),more_map]
    simp [hz]
   ·simp only [List.length_append,List.length_cons,List.length_nil];omega
   ·intro q hq
    rcases List.mem_append.mp hq with z | z
    ·exact h2 q z
    ·have:=more_short hc hrs z
     exact ⟨this.1,by rw [this.2,(hp.2 row hrow).2]⟩)
 refine ⟨qs,s5,e,?_,h2⟩
 have:=hp.1
 rw [Nat.pow_succ]
 omega
theorem pairs_run {P:Pr} (h:P.fn "_law_pairs"=some d_law_pairs) (n:Nat) {cs:List Col} (hc:ColsOk cs) (nm key rules:T) (ks:List Str) (hk:ks.length≤2) :
  ∃ ps,run P (n+1) "_law_pairs" [tabT nm cs key rules,.lst (ks.map .str)]=some (.lst (ps.map strT))∧Rows ks.length ps:=by
 rw [run_succ h rfl]
 unfold d_law_pairs
 dsimp only
 rw [nx_of (τ':=[.val (tabT nm cs key rules),.val (.lst (ks.map .str)),.own ([[]].map strT),.no,.no,.no]) (by simp [evS,evE,evEs,begin',frzAt,vars,varsL,slotOf,fresh,strT])]
 obtain ⟨τ',e,ps,s2,s3,s4,s5,rfl,h1,h2⟩:=loopM_inv (enc:=T.str) (f:=fun x τ=>(bndS [3] x τ).bind fun τ'=>evSs (glo P (run P n)) [.asg 4 (.lst []),
  .loop [5] .plain [.var 2] [.asg 4 (.bin .add (.var 4) (.comp (.bin .add (.var 6) (.tup [.idx (.var 0) (.cst (.int 0))])) 1 .plain [.idx (.var 0) (.cst (.int 1))] (some (.land (.cmp .eq (.idx (.var 0) (.cst (.int 1))) (.var 4)) (.cmp .notin (.idx (.var 0) (.cst (.int 0))) (.var 6))))))],
  .asg 2 (.var 4)] τ')
  (fun done τ=>∃ ps s2 s3 s4 s5,τ=[.val (tabT nm cs key rules),.val (.lst (ks.map .str)),s2,s3,s4,s5]∧(s2=.own (ps.map strT)∨s2=.val (.lst (ps.map strT)))∧Rows done.length ps)
  ks [.val (tabT nm cs key rules),.val (.lst (ks.map .str)),.own ([[]].map strT),.no,.no,.no] ⟨[[]],_,_,_,_,rfl,.inl rfl,by simp,fun p hp=>by rw [List.mem_singleton.mp hp];exact ⟨fun x hx=>(by cases hx),rfl⟩⟩ (by
   rintro done kd rest hsp τ ⟨ps,s2,s3,s4,s5,rfl,h1,h2⟩
   have hdl:done.length≤1:=by rw [hsp] at hk;simp at hk;omega
   have hfz:Sl.frz s2=.val (.lst (ps.map strT)):=by rcases h1 with rfl | rfl<;>rfl
   obtain ⟨qs,s5',el,hq⟩:=pairs_inner (G:=glo P (run P n)) hc nm key rules (.lst (ks.map .str)) (.lst (ps.map strT)) kd done.length hdl ps h2 s5
   refine ⟨[.val (tabT nm cs key rules),.val (.lst (ks.map .str)),.val (.lst (qs.map strT)),.val (.str kd),.val (.lst (qs.map strT)),s5'],?_,qs,_,_,_,_,rfl,.inr rfl,by rw [List.length_append];exact hq⟩
   simp only [bndS,Option.bind_some,List.set_cons_succ,List.set_cons_zero]
   rw [nx_of (τ':=[.val (tabT nm cs key rules),.val (.lst (ks.map .str)),s2,.val (.str kd),.own [],s5]) (by simp [evS,evE,evEs,frzAt,vars,varsL,slotOf,fresh])]
   rw [nx_of (s:=.loop _ _ _ _) (τ':=[.val (tabT nm cs key rules),.val (.lst (ks.map .str)),.val (.lst (ps.map strT)),.val (.str kd),.own (qs.map strT),s5']) (by
    rw [evS]
    simp only [varsL,vars,List.append_nil,frzAt,evEs,evE,view,List.modify_succ_cons,List.modify_zero_cons,hfz,List.map_cons,Sl.get,List.map_nil]
    simp only [List.getElem?_cons_succ,List.getElem?_cons_zero,Option.join_some,Option.bind_some,items]
    exact el)]
   simp [evSs,evS,evE,view,frzAt,vars,Sl.get,Sl.frz,slotOf,fresh])
 rw [nx_of (s:=.loop _ _ _ _) (τ':=[.val (tabT nm cs key rules),.val (.lst (ks.map .str)),s2,s3,s4,s5]) (by
  rw [evS]
  simp only [varsL,vars,List.append_nil,frzAt,evEs,evE,view,List.modify_succ_cons,List.modify_zero_cons,List.map_cons,Sl.get,Sl.frz,List.map_nil]
  simp only [List.getElem?_cons_succ,List.getElem?_cons_zero,Option.join_some,Option.bind_some,items]
  exact e)]
 refine ⟨ps,?_,h2⟩
 rcases h1 with rfl | rfl<;>simp [evSs,evS,evE,view,frzAt,vars,Sl.get,Sl.frz,resultOf]
structure Bt where
 nm:Str
 cs:List Col
 key:List Str
noncomputable def Bt.t (b:Bt):T:=bareT b.nm b.cs b.key []
noncomputable def cnames:List Str:=["id", "n", "t", "u"]
structure Bt.ok (b:Bt):Prop where
 nm:b.nm.length≤6
 cs:ColsOk b.cs
 k1:b.key.length≤2
 ks:Short b.key
 inn:∀ x∈b.key,∃ c∈b.cs,c.n=x
 kn:b.key≠[]
 nd:(b.cs.map (·.n)).Nodup
 kk:∀ c∈b.cs,c.k="whole"∨c.k="text"
 as:∀ c∈b.cs,c.n∈cnames
 na:ascii b.nm=true
theorem bareT_tab (nm:Str) (cs:List Col) (key:List Str) (rs:List T):bareT nm cs key rs=tabT (.str nm) cs (.tup (key.map .str)) (.tup rs):=rfl
inductive Rl where
 | ref (cs:List Str) (t w:Str) | unl (cs:List Str) | chk (t:Tst)
noncomputable def Rl.raw:Rl→T
 | .ref cs t w=>.tup [.str "refers",strT cs,.str t,.str w]
 | .unl cs=>.tup [.str "unlike",.lst (cs.map .str)]
 | .chk t=>.tup [.str "check",t.t]
noncomputable def Rl.t:Rl→T
 | .ref cs t w=>.tup [.str "refers",strT cs,.str t,.str w]
 | .unl cs=>.tup [.str "unlike",strT cs]
 | .chk t=>.tup [.str "check",t.t]
noncomputable def Rl.ok:Rl→Prop
 | .ref cs t w=>Short cs∧cs.length≤4∧t.length≤6∧w.length≤6
 | .unl cs=>Short cs∧cs.length≤4
 | .chk t=>t.ok 3
noncomputable def Rl.asc:Rl→Prop
 | .ref _ t w=>ascii t=true∧ascii w=true
 | .unl _=>True
 | .chk t=>∃ cs:List Col,(∀ c∈cs,c.n∈cnames)∧t.inn cs
noncomputable def kindFor (cs:List Col) (x:Str):List Str:=cs.filterMap fun c=>if c.n==x then some c.k else none
theorem kindFor_map (cs:List Col) (x:Str):(cs.filterMap fun c=>if c.n==x then some (T.str c.k) else none)=(kindFor cs x).map T.str:=by
 unfold kindFor
 rw [List.map_filterMap]
 congr
 funext o
 split<;>rfl
theorem kindFor_ne {cs:List Col} {x:Str} (h:∃ c∈cs,c.n=x):∃ y r,kindFor cs x=y::r:=by
 obtain ⟨c,hc,rfl⟩:=h
 have:c.k∈kindFor cs c.n:=List.mem_filterMap.mpr ⟨c,hc,by simp⟩
 cases q:kindFor cs c.n with
 | nil=>rw [q] at this;cases this
 | cons y r=>exact ⟨y,r,rfl⟩
noncomputable def ways6:List Str:=["along", "stop", "late", "gap", "along", "gap"]
theorem ways_asc:∀ x∈ways6,ascii x=true:=by decide +kernel
theorem late_asc:ascii "late"=true:=by decide +kernel
theorem ways_len:∀ x∈ways6,x.length≤6:=by decide +kernel
theorem late_len:("late":Str).length≤6:=by decide +kernel
theorem getI_ways (k:Int):∃ x∈ways6,getI [.str "along",.str "stop",.str "late",.str "gap",.str "along",.str "gap"] (k%6)=some (.str x):=by
 obtain ⟨c,hc,e⟩:=getI_mem (enc:=T.str) (cs:=ways6) (by simp [ways6]) k
 exact ⟨c,hc,e⟩
noncomputable def stiff (cs:List Col) (p:List Str):List Col:=cs.filterMap fun c=>if (p.any fun y=>y==c.n)&&!c.g then some c else none
theorem stiff_map (cs:List Col) (p:List Str):(cs.filterMap fun c=>if (p.any fun y=>y==c.n)&&!c.g then some c.t else none)=(stiff cs p).map Col.t:=by
 unfold stiff
 rw [List.map_filterMap]
 congr
 funext o
 split<;>rfl
theorem eqTs_map_nil {α:Type} (f:α→T) (l:List α):eqTs (l.map f) []=l.isEmpty:=by cases l<;>rfl
theorem colnames (cs:List Col):(cs.filterMap fun c=>some (T.str c.n))=(cs.map (·.n)).map T.str:=by
 induction cs with
 | nil=>rfl
 | cons c cs ih=>simp [ih]
theorem cut_to' (xs:List T) (j:Nat):cut xs none (some (j:Int))=xs.take j:=by
 unfold cut clip
 simp only [show ¬ ((j:Int)<0) by omega,if_false,Int.toNat_natCast,Nat.sub_zero,List.drop_zero]
 by_cases h:j≤xs.length
 ·rw [Nat.min_eq_left h]
 ·rw [Nat.min_eq_right (by omega),List.take_of_length_le (by omega),List.take_of_length_le (by omega)]
theorem Tst.up:∀ {d:Nat} {t:Tst},t.ok d→t.ok (d+1)
 | 0,_,h=>by cases ‹Tst›<;>simp [Tst.ok] at h
 | d+1,.emp c,h=>⟨by omega,h.2⟩
 | d+1,.bel a b,h=>⟨by omega,h.2⟩
 | d+1,.isI c i,h=>⟨by omega,h.2⟩
 | d+1,.isS c x,h=>⟨by omega,h.2⟩
 | d+1,.neg t,h=>Tst.up (d:=d) (t:=t) h
 | d+1,.cnj a b,h=>⟨Tst.up (d:=d) (t:=a) h.1,Tst.up (d:=d) (t:=b) h.2⟩
 | d+1,.dsj a b,h=>⟨Tst.up (d:=d) (t:=a) h.1,Tst.up (d:=d) (t:=b) h.2⟩
theorem ite_x {G:Glo} {c:E} {a b ss:List S} {τ τ':List Sl} (h0:frzAt (vars c) τ=τ) (h1:evE G c (view τ)=some (.bl true)) (h2:evSs G a τ=some (.nx τ')):evSs G (.ite c a b::ss) τ=evSs G ss τ':=nx_of (by rw [evS,h0,h1];exact h2)
section
variable {G:Glo} {BL bt gt KL PL NL ST pt:T} {k:Int} {s6 s7 s8 s9 s10:Sl}
noncomputable def ruD:List S:=d_law_rule.body.drop 3
noncomputable def ruE:List S:=d_law_rule.body.drop 4
theorem ru_lt:evE G (.cmp .lt (.bin .mod (.var 2) (.cst (.int 8))) (.cst (.int 5))) (view [.val BL,.val bt,.val (.int k),.val gt,.val KL,.val PL,s6,s7,s8,s9,s10])=some (.bl (decide (k%8<5))):=rfl
theorem ru_eq:evE G (.cmp .eq (.bin .mod (.var 2) (.cst (.int 8))) (.cst (.int 5))) (view [.val BL,.val bt,.val (.int k),.val gt,.val KL,.val PL,s6,s7,s8,s9,s10])=some (.bl (k%8==5)):=rfl
theorem ru_ref {w w' gn:Str} {cl:Nat} (hc:evE G (.land (.cmp .lt (.bin .mod (.var 2) (.cst (.int 8))) (.cst (.int 5))) (.cmp .ne (.var 5) (.lst []))) (view [.val BL,.val bt,.val (.int k),.val gt,.val KL,.val PL,.no,.no,.no,.no,.no])=some (.bl true))
  (l5:bltT .len PL=some (.int (cl:Int))) (hcl:0<cl) (i5:idxT PL (.int (k/64%(cl:Int)))=some pt) (iw:getI [.str "along",.str "stop",.str "late",.str "gap",.str "along",.str "gap"] (k/1024%6)=some (.str w))
  (e8:evE G (.comp (.var 0) 1 .plain [.idx (.var 1) (.cst (.int 1))] (some (.land (.cmp .isin (.idx (.var 0) (.cst (.int 0))) (.var 7)) (.lnot (.tru (.idx (.var 0) (.cst (.int 2))))))))  (view [.val BL,.val bt,.val (.int k),.val gt,.val KL,.val PL,.val pt,.val (.str w),.no,.no,.no])=some ST)
  (v:Bool) (hne:neC ST (.lst [])=some (.bl v)) (hw:w'=if v&&(w=="gap") then ("late":Str) else w) (ig:idxT gt (.int 0)=some (.str gn)) :
  evSs G ruD [.val BL,.val bt,.val (.int k),.val gt,.val KL,.val PL,.no,.no,.no,.no,.no]=some (.rt (.tup [.str "refers",pt,.str gn,.str w'])):=by
 refine ite_g rfl hc ?_
 refine (asg_p (t:=pt) (τ':=[.val BL,.val bt,.val (.int k),.val gt,.val KL,.val PL,.val pt,.no,.no,.no,.no]) rfl (by simp [evE,view,Sl.get,l5,binT,modT,fdivT,hcl,i5]) rfl).trans ?_
 refine (asg_p (t:=.str w) (τ':=[.val BL,.val bt,.val (.int k),.val gt,.val KL,.val PL,.val pt,.val (.str w),.no,.no,.no]) rfl (by simp [evE,evEs,view,Sl.get,binT,modT,fdivT,idxT,iw]) rfl).trans ?_
 refine (asg_p (t:=ST) (τ':=[.val BL,.val bt,.val (.int k),.val gt,.val KL,.val PL,.val pt,.val (.str w),.val ST,.no,.no]) rfl e8 rfl).trans ?_
 have hcd:evE G (.land (.cmp .ne (.var 8) (.lst [])) (.cmp .eq (.var 7) (.cst (.str "gap")))) (view [.val BL,.val bt,.val (.int k),.val gt,.val KL,.val PL,.val pt,.val (.str w),.val ST,.no,.no])=some (.bl (v&&(w=="gap"))):=by
  cases v<;>simp [evE,evEs,view,Sl.get,cmpT,hne,eqC,dpP,eqT]
 cases q:(v&&(w==("gap":Str))) with
 | true =>
  rw [q] at hw hcd
  subst hw
  exact (ite_x (τ':=[.val BL,.val bt,.val (.int k),.val gt,.val KL,.val PL,.val pt,.val (.str "late"),.val ST,.no,.no]) rfl hcd (asg_p (t:=.str "late") rfl rfl rfl)).trans (ret_p rfl (by simp [evE,evEs,view,Sl.get,ig]))
 | false =>
  rw [q] at hw hcd
  subst hw
  exact (ite_n rfl hcd).trans (ret_p rfl (by simp [evE,evEs,view,Sl.get,ig]))
end
theorem rule_run {P:Pr} (hd:P.fn "_law_drawn"=some d_law_drawn) (ht:P.fn "_law_test"=some d_law_test) (hp:P.fn "_law_pairs"=some d_law_pairs) (h:P.fn "_law_rule"=some d_law_rule) (n:Nat)
  {bs:List Bt} (hb:∀ b∈bs,b.ok) {b:Bt} (hm:b∈bs) (k:Int):∃ r:Rl,run P (n+6) "_law_rule" [.lst (bs.map Bt.t),b.t,.int k]=some r.raw∧r.ok∧r.asc:=by
 rw [run_succ h rfl]
 show ∃ r:Rl,resultOf (evSs (glo P (run P (n+5))) d_law_rule.body [.val (.lst (bs.map Bt.t)),.val b.t,.val (.int k),.no,.no,.no,.no,.no,.no,.no,.no])=_∧_
 have hne:bs≠[]:=by intro e;rw [e] at hm;cases hm
 obtain ⟨g,hg,eg⟩:=getI_mem (enc:=Bt.t) hne (k/8)
 have hbo:=hb b hm
 have hgo:=hb g hg
 have hbl:0<bs.length:=by cases bs with | nil=>exact absurd rfl hne | cons _ _=>simp
 have hgl:g.cs.length≤16777216:=by have:=hgo.cs.2.1;omega
 have hbcl:b.cs.length≤16777216:=by have:=hbo.cs.2.1;omega
 have hkl:g.key.length≤16777216:=by have:=hgo.k1;omega
 have hb0:0<b.cs.length:=by have:=hbo.cs.1;cases q:b.cs with | nil=>exact absurd q this | cons _ _=>simp
 obtain ⟨ps,ep,hps⟩:=pairs_run hp (n+4) hbo.cs (.str b.nm) (.tup (b.key.map .str)) (.tup []) (g.key.map fun x=>(kindFor g.cs x).headD "") (by rw [List.length_map];exact hgo.k1)
 have ep:(glo P (run P (n+5))).call "_law_pairs" [b.t,.lst ((g.key.map fun x=>(kindFor g.cs x).headD "").map .str)]=some (.lst (ps.map strT)):=ep
 have tests:∀ d:Nat,d≤2→∃ t:Tst,(glo P (run P (n+5))).call "_law_test" [b.t,.int (k/64),.int ((d+1:Nat):Int)]=some t.t∧t.ok 3∧t.inn b.cs:=fun d hd2=>by
  obtain ⟨t,e,o,hin⟩:=test_run hd ht hbo.cs (.str b.nm) (.tup (b.key.map .str)) (.tup []) d (n+3-d) (k/64)
  rw [show n+3-d+d+2=n+5 by omega] at e
  refine ⟨t,e,?_,hin⟩
  rcases (by omega:d=0∨d=1∨d=2) with rfl | rfl | rfl
  ·exact Tst.up (Tst.up o)
  ·exact Tst.up o
  ·exact o
 generalize glo P (run P (n+5))=G at *
 have lB:bltT .len (.lst (bs.map Bt.t))=some (.int (bs.length:Int)):=by simp [bltT]
 have iB:idxT (.lst (bs.map Bt.t)) (.int (k/8%(bs.length:Int)))=some g.t:=eg
 have ib1:idxT b.t (.int 1)=some (.tup (b.cs.map Col.t)):=by simp [Bt.t,bareT,idxT,getI1]
 have ig0:idxT g.t (.int 0)=some (.str g.nm):=by simp [Bt.t,bareT,idxT,getI0]
 have ig1:idxT g.t (.int 1)=some (.tup (g.cs.map Col.t)):=by simp [Bt.t,bareT,idxT,getI1]
 have ig2:idxT g.t (.int 2)=some (.tup (g.key.map .str)):=by simp [Bt.t,bareT,idxT,getI2]
 generalize T.lst (bs.map Bt.t)=BL at *
 generalize b.t=bt at *
 generalize g.t=gt at *
 have e4:evE G (.comp (.idx (.comp (.idx (.var 0) (.cst (.int 1))) 1 .plain [.idx (.var 4) (.cst (.int 1))] (some (.cmp .eq (.idx (.var 0) (.cst (.int 0))) (.var 1)))) (.cst (.int 0))) 1 .plain [.idx (.var 3) (.cst (.int 2))] none) (view [.val BL,.val bt,.val (.int k),.val gt,.no,.no,.no,.no,.no,.no,.no])=some (.lst ((g.key.map fun x=>(kindFor g.cs x).headD "").map .str)):=by
  simp [evE,evEs,evO,view,Sl.get,items,itemsC,bnd,SZ,cmpT,ig1,ig2,hkl]
  rw [compM_map (enc:=T.str) (fun x=>some (T.str ((kindFor g.cs x).headD ""))) (fun x hx=>by
   obtain ⟨y,r,ey⟩:=kindFor_ne (hgo.inn x hx)
   simp [hgl]
   rw [compM_map (enc:=Col.t) (fun c=>if c.n==x then some (T.str c.k) else none) (fun c _=>by
    cases hk:(c.n==x)<;>simp [Col.t,idxT,getI0,getI1,eqC,dpP,eqT,hk]),kindFor_map,ey]
   simp [idxT,getI0])]
  simp [List.filterMap_eq_map']
 generalize T.lst ((g.key.map fun x=>(kindFor g.cs x).headD "").map T.str)=KL at *
 have pre:∀ PL:T,G.call "_law_pairs" [bt,KL]=some PL→evSs G d_law_rule.body [.val BL,.val bt,.val (.int k),.no,.no,.no,.no,.no,.no,.no,.no]=evSs G ruD [.val BL,.val bt,.val (.int k),.val gt,.val KL,.val PL,.no,.no,.no,.no,.no]:=fun PL hPL =>
  (asg_p (t:=gt) (τ':=[.val BL,.val bt,.val (.int k),.val gt,.no,.no,.no,.no,.no,.no,.no]) rfl (by simp [evE,view,Sl.get,lB,binT,modT,fdivT,hbl,iB]) rfl).trans
   ((asg_p (t:=KL) (τ':=[.val BL,.val bt,.val (.int k),.val gt,.val KL,.no,.no,.no,.no,.no,.no]) rfl e4 rfl).trans (asg_p (t:=PL) rfl (by simp [evE,evEs,view,Sl.get,hPL]) rfl))
 rw [pre _ ep]
 have hcd:evE G (.land (.cmp .lt (.bin .mod (.var 2) (.cst (.int 8))) (.cst (.int 5))) (.cmp .ne (.var 5) (.lst []))) (view [.val BL,.val bt,.val (.int k),.val gt,.val KL,.val (.lst (ps.map strT)),.no,.no,.no,.no,.no])=some (.bl (decide (k%8<5)&&!ps.isEmpty)):=by
  rw [evE,ru_lt]
  cases decide (k%8<5) with
  | false=>rfl
  | true=>cases ps<;>simp [evE,evEs,view,Sl.get,cmpT,neC,dpP,dpPs,eqT,eqTs]
 cases hw:(decide (k%8<5)&&!ps.isEmpty) with
 | true =>
  rw [hw] at hcd
  rw [Bool.and_eq_true] at hw
  have hpn:ps≠[]:=by intro e;rw [e] at hw;simp at hw
  obtain ⟨p,hp',epi⟩:=getI_mem (enc:=strT) hpn (k/64)
  have hpl:0<ps.length:=by cases q:ps with | nil=>exact absurd q hpn | cons _ _=>simp
  obtain ⟨w,hwm,ew⟩:=getI_ways (k/1024)
  have hpo:=hps.2 p hp'
  have e8:evE G (.comp (.var 0) 1 .plain [.idx (.var 1) (.cst (.int 1))] (some (.land (.cmp .isin (.idx (.var 0) (.cst (.int 0))) (.var 7)) (.lnot (.tru (.idx (.var 0) (.cst (.int 2))))))))  (view [.val BL,.val bt,.val (.int k),.val gt,.val KL,.val (.lst (ps.map strT)),.val (strT p),.val (.str w),.no,.no,.no])=some (.lst ((stiff b.cs p).map Col.t)):=by
   simp [evE,evEs,evO,view,Sl.get,items,itemsC,bnd,SZ,cmpT,ib1,hbcl]
   rw [compM_map (enc:=Col.t) (fun c=>if (p.any fun y=>y==c.n)&&!c.g then some c.t else none) (fun c _=>by
    have hin:=inC_str c.n p
    cases ha:(p.any fun y=>y==c.n)<;>rw [ha] at hin<;>cases hgg:c.g<;>simp [Col.t,idxT,getI0,getI2,strT,hin,hgg,truT]),stiff_map]
  have hne2:neC (.lst ((stiff b.cs p).map Col.t)) (.lst [])=some (.bl (!(stiff b.cs p).isEmpty)):=by
   unfold neC
   rw [if_pos (by simp [dpP,dpPs]),eqT,eqTs_map_nil]
  have key:=ru_ref (G:=G) (w:=w) hcd (by simp [bltT]) hpl epi ew e8 _ hne2 rfl ig0
  refine ⟨.ref p g.nm (if (!(stiff b.cs p).isEmpty)&&(w=="gap") then ("late":Str) else w),congrArg resultOf key,⟨hpo.1,?_,hgo.nm,?_⟩,hgo.na,?_⟩
  ·rw [hpo.2,List.length_map];have:=hgo.k1;omega
  ·split
   ·exact late_len
   ·exact ways_len w hwm
  ·split
   ·exact late_asc
   ·exact ways_asc w hwm
 | false =>
  rw [hw] at hcd
  generalize T.lst (ps.map strT)=PL at *
  have e9:evE G (.comp (.idx (.var 0) (.cst (.int 0))) 1 .plain [.idx (.var 1) (.cst (.int 1))] none) (view [.val BL,.val bt,.val (.int k),.val gt,.val KL,.val PL,.no,.no,.no,.no,.no])=some (.lst ((b.cs.map (·.n)).map .str)):=by
   simp [evE,evEs,evO,view,Sl.get,items,itemsC,bnd,SZ,ib1,hbcl]
   rw [compM_map (enc:=Col.t) (fun c=>some (T.str c.n)) (fun c _=>by simp [Col.t,idxT,getI0]),colnames]
   simp
  have pre2:evSs G ruD [.val BL,.val bt,.val (.int k),.val gt,.val KL,.val PL,.no,.no,.no,.no,.no]=evSs G (ruE.drop 1) [.val BL,.val bt,.val (.int k),.val gt,.val KL,.val PL,.no,.no,.no,.val (.lst ((b.cs.map (·.n)).map .str)),.no] :=
   (ite_n rfl hcd).trans (asg_p rfl e9 rfl)
  rw [pre2]
  by_cases h5:k%8=5
  ·obtain ⟨j,hj⟩:∃ j:Nat,k/64%(b.cs.length:Int)=(j:Int):=⟨(k/64%(b.cs.length:Int)).toNat,by have:=Int.emod_nonneg (k/64) (show (b.cs.length:Int)≠0 by omega);omega⟩
   have hx1:k/64%(b.cs.length:Int)<(b.cs.length:Int):=Int.emod_lt_of_pos _ (by omega)
   obtain ⟨m,hm2⟩:∃ m:Nat,1+k/1024%2=(m:Int):=⟨(1+k/1024%2).toNat,by omega⟩
   have hjl:j≤((b.cs.map (·.n)).map T.str).length:=by simp;omega
   have hz:b.cs.length-j+min j b.cs.length≤16777216:=by omega
   have e10:evE G (.tup [.cst (.str "unlike"),.sli (.bin .add (.sli (.var 9) (some (.var 10)) none) (.sli (.var 9) none (some (.var 10)))) none (some (.bin .add (.cst (.int 1)) (.bin .mod (.bin .fdiv (.var 2) (.cst (.int 1024))) (.cst (.int 2)))))]) (view [.val BL,.val bt,.val (.int k),.val gt,.val KL,.val PL,.no,.no,.no,.val (.lst ((b.cs.map (·.n)).map .str)),.val (.int (j:Int))])=some (Rl.unl ((rotC (b.cs.map (·.n)) j).take m)).raw:=by
    have q1:=cut_from _ _ hjl
    have q2:=cut_to _ _ hjl
    simp only [List.map_map] at q1 q2
    simp [evE,evEs,evO,view,Sl.get,binT,addT,modT,fdivT,asI,sliT,hm2,q1,q2,SZ,hz,cut_to',Rl.raw,rotC]
   refine ⟨.unl ((rotC (b.cs.map (·.n)) j).take m),congrArg resultOf (ite_g rfl (ru_eq.trans (by rw [h5];rfl)) ((asg_p (t:=.int (j:Int)) (τ':=[.val BL,.val bt,.val (.int k),.val gt,.val KL,.val PL,.no,.no,.no,.val (.lst ((b.cs.map (·.n)).map .str)),.val (.int (j:Int))]) rfl (by simp [evE,view,Sl.get,bltT,binT,modT,fdivT,hb0,hj]) rfl).trans (ret_p rfl e10))),⟨fun x hx=>?_,?_⟩,trivial⟩
   ·have hx':=List.mem_of_mem_take hx
    unfold rotC at hx'
    have hx2:x∈b.cs.map (·.n):=by
     rcases List.mem_append.mp hx' with z | z
     ·exact List.mem_of_mem_drop z
     ·exact List.mem_of_mem_take z
    obtain ⟨c,hc,rfl⟩:=List.mem_map.mp hx2
    exact (hbo.cs.2.2 c hc).1
   ·unfold rotC
    simp only [List.length_take,List.length_append,List.length_drop,List.length_map]
    have:=hbo.cs.2.1
    omega
  ·obtain ⟨d,hd2,hdz⟩:∃ d:Nat,d≤2∧1+k/1024%3=((d+1:Nat):Int):=⟨(k/1024%3).toNat,by omega,by omega⟩
   obtain ⟨t,e,o,hin⟩:=tests d hd2
   exact ⟨.chk t,congrArg resultOf ((ite_n rfl (ru_eq.trans (by rw [show (k%8==5)=false by simpa using h5]))).trans (ret_p rfl (by
    simp only [Int.natCast_add,Int.cast_ofNat_Int] at e hdz
    simp [evE,evEs,view,Sl.get,binT,addT,modT,fdivT,hdz,e,Rl.raw]))),o,b.cs,hbo.as,hin⟩
structure Tb where
 nm:Str
 cs:List Col
 key:List Str
 rs:List Rl
noncomputable def Tb.t (b:Tb):T:=bareT b.nm b.cs b.key (b.rs.map Rl.t)
structure Tb.ok (b:Tb):Prop where
 nm:b.nm.length≤6
 cl:b.cs.length≤4
 cs:∀ c∈b.cs,Sh c.n∧c.k.length≤6
 k1:b.key.length≤2
 ks:Short b.key
 rl:b.rs.length≤3
 rs:∀ r∈b.rs,r.ok
 kn:b.key≠[]
 cn:b.cs≠[]
 nd:(b.cs.map (·.n)).Nodup
 kk:∀ c∈b.cs,c.k="whole"∨c.k="text"
 as:∀ c∈b.cs,c.n∈cnames
 na:ascii b.nm=true
 inn:∀ x∈b.key,∃ c∈b.cs,c.n=x
 ra:∀ r∈b.rs,r.asc
theorem kind_len (i:Int):(kindAt i).length≤6:=by
 have all:∀ x∈kinds6,x.length≤6:=by decide +kernel
 unfold kindAt
 rw [List.getD_eq_getElem?_getD]
 cases e:kinds6[(i%6).toNat]? with
 | none=>decide +kernel
 | some x=>exact all x (List.mem_of_getElem? e)
theorem cols_short (k:Int):∀ c∈bareCols k,c.n.length≤6∧c.k.length≤6:=by
 have hc:∀ (j:Int) (nm:Str),nm.length≤6→∀ c∈colAt k j nm,c.n.length≤6∧c.k.length≤6:=fun j nm hn c h=>by
  unfold colAt at h
  split at h
  ·rw [List.mem_singleton.mp h];exact ⟨hn,kind_len _⟩
  ·cases h
 intro c h
 unfold bareCols at h
 rcases List.mem_append.mp h with h | h
 ·rw [List.mem_singleton.mp h];exact ⟨(by decide +kernel:("id":Str).length≤6),kind_len _⟩
 ·rcases List.mem_append.mp h with h | h
  ·exact hc _ _ (by decide +kernel) c h
  ·rcases List.mem_append.mp h with h | h
   ·exact hc _ _ (by decide +kernel) c h
   ·exact hc _ _ (by decide +kernel) c h
theorem rotC_mem {α:Type} {l:List α} {b:Nat} {x:α}:x∈rotC l b↔x∈l:=by
 unfold rotC
 rw [List.mem_append]
 constructor
 ·rintro (h | h)
  ·exact List.mem_of_mem_drop h
  ·exact List.mem_of_mem_take h
 ·intro h
  rw [← List.take_append_drop b l,List.mem_append] at h
  exact h.symm
theorem rotC_len {α:Type} (l:List α) (b:Nat):(rotC l b).length=l.length:=by
 unfold rotC
 simp only [List.length_append,List.length_drop,List.length_take]
 omega
theorem plain_mem {cs:List Col} {x:Str} (h:x∈plainOf cs):∃ c∈cs,c.n=x:=by
 unfold plainOf at h
 obtain ⟨c,hc,e⟩:=List.mem_filterMap.mp h
 split at e
 ·cases e
 ·cases e;exact ⟨c,hc,rfl⟩
theorem id_mem (k:Int):∃ c∈bareCols k,c.n="id":=⟨⟨"id",kindAt k,false⟩,by unfold bareCols;simp,rfl⟩
noncomputable def mkB (nm:Str) (k:Int):Bt:=⟨nm,rotC (bareCols k) (k/64%((bareCols k).length:Int)).toNat,keyOf k (bareCols k)⟩
theorem key_inn (k:Int):∀ x∈keyOf k (bareCols k),∃ c∈bareCols k,c.n=x:=by
 intro x hx
 have hid:=id_mem k
 unfold keyOf at hx
 split at hx
 ·rename_i h
  have hg:∃ c∈bareCols k,c.n=(plainOf (bareCols k)).getD 1 "id":=by
   refine plain_mem ?_
   rw [List.getD_eq_getElem?_getD,List.getElem?_eq_getElem h.2]
   exact List.getElem_mem _
  split at hx<;>simp only [List.mem_cons,List.not_mem_nil,or_false] at hx<;>rcases hx with rfl | rfl<;>assumption
 ·rw [List.mem_singleton.mp hx];exact hid
theorem key_len (k:Int) (cs:List Col):(keyOf k cs).length≤2:=by unfold keyOf;split<;>(try split)<;>simp
theorem cols_nd (k:Int):((bareCols k).map (·.n)).Nodup:=by
 have e1:(("id":Str)=="n")=false∧(("id":Str)=="t")=false∧(("id":Str)=="u")=false∧(("n":Str)=="t")=false∧(("n":Str)=="u")=false∧(("t":Str)=="u")=false:=by decide +kernel
 obtain ⟨a1,a2,a3,a4,a5,a6⟩:=e1
 have b1:=ne_of_beq_false a1
 have b2:=ne_of_beq_false a2
 have b3:=ne_of_beq_false a3
 have b4:=ne_of_beq_false a4
 have b5:=ne_of_beq_false a5
 have b6:=ne_of_beq_false a6
 unfold bareCols colAt
 split<;>split<;>split<;>simp [b1,b2,b3,b4,b5,b6]
theorem kind_two (i:Int):kindAt i="whole"∨kindAt i="text":=by
 have all:∀ x∈kinds6,(x==("whole":Str))=true∨(x==("text":Str))=true:=by decide +kernel
 unfold kindAt
 rw [List.getD_eq_getElem?_getD]
 cases e:kinds6[(i%6).toNat]? with
 | none=>exact .inl rfl
 | some x =>
  rcases all x (List.mem_of_getElem? e) with h | h
  ·exact .inl (eq_of_beq h)
  ·exact .inr (eq_of_beq h)
theorem cols_two (k:Int):∀ c∈bareCols k,c.k="whole"∨c.k="text":=by
 have one:∀ (j:Int) (nm:Str),∀ c∈colAt k j nm,c.k="whole"∨c.k="text":=by
  intro j nm c hc
  unfold colAt at hc
  split at hc
  ·rw [List.mem_singleton.mp hc];exact kind_two _
  ·cases hc
 intro c hc
 unfold bareCols at hc
 rcases List.mem_append.mp hc with h | h
 ·rw [List.mem_singleton.mp h];exact kind_two _
 ·rcases List.mem_append.mp h with h | h
  ·exact one _ _ c h
  ·rcases List.mem_append.mp h with h | h
   ·exact one _ _ c h
   ·exact one _ _ c h
theorem cols_as (k:Int):∀ c∈bareCols k,c.n∈cnames:=by
 have one:∀ (j:Int) (nm:Str),nm∈cnames→∀ c∈colAt k j nm,c.n∈cnames:=by
  intro j nm hn c hc
  unfold colAt at hc
  split at hc
  ·rw [List.mem_singleton.mp hc];exact hn
  ·cases hc
 intro c hc
 unfold bareCols at hc
 rcases List.mem_append.mp hc with h | h
 ·rw [List.mem_singleton.mp h];simp [cnames]
 ·rcases List.mem_append.mp h with h | h
  ·exact one _ _ (by simp [cnames]) c h
  ·rcases List.mem_append.mp h with h | h
   ·exact one _ _ (by simp [cnames]) c h
   ·exact one _ _ (by simp [cnames]) c h
theorem cn_asc:∀ x∈cnames,ascii x=true:=by decide +kernel
theorem mkB_ok (nm:Str) (hn:nm.length≤6) (ha:ascii nm=true) (k:Int):(mkB nm k).ok where
 nm:=hn
 cs:=by
  have h:=bareCols_len k
  refine ⟨fun e=>?_,by show (rotC _ _).length≤4;rw [rotC_len];exact h.2,fun c hc=>⟨⟨(cols_short k c (rotC_mem.mp hc)).1,cn_asc _ (cols_as k c (rotC_mem.mp hc))⟩,(cols_short k c (rotC_mem.mp hc)).2⟩⟩
  have e':(rotC (bareCols k) (k/64%((bareCols k).length:Int)).toNat).length=([]:List Col).length:=congrArg List.length e
  rw [rotC_len] at e'
  simp at e'
  rw [e'] at h
  simp at h
 k1:=key_len k _
 ks:=fun x hx=>by
  obtain ⟨c,hc,rfl⟩:=key_inn k x hx
  exact ⟨(cols_short k c hc).1,cn_asc _ (cols_as k c hc)⟩
 inn:=fun x hx=>by
  obtain ⟨c,hc,e⟩:=key_inn k x hx
  exact ⟨c,rotC_mem.mpr hc,e⟩
 kn:=by
  show keyOf k (bareCols k)≠[]
  unfold keyOf
  split<;>(try split)<;>simp
 nd:=by
  show ((rotC (bareCols k) _).map (·.n)).Nodup
  have h:=cols_nd k
  unfold rotC
  rw [List.map_append]
  rw [← List.take_append_drop (k/64%((bareCols k).length:Int)).toNat (bareCols k),List.map_append] at h
  exact (List.perm_append_comm.nodup_iff).mp h
 kk:=fun c hc=>cols_two k c (rotC_mem.mp hc)
 as:=fun c hc=>cols_as k c (rotC_mem.mp hc)
 na:=ha
theorem enumT_map {α:Type} (enc:α→T):∀ (l:List α) (i:Nat),enumT (l.map enc) i=(l.zipIdx i).map fun p=>.tup [.int (p.2:Int),enc p.1]
 | [],_=>rfl
 | a::l,i=>by rw [List.map_cons,enumT,enumT_map enc l (i+1),List.zipIdx_cons,List.map_cons]
theorem enumT_len:∀ (l:List T) (i:Nat),(enumT l i).length=l.length
 | [],_=>rfl
 | a::l,i=>by rw [enumT,List.length_cons,List.length_cons,enumT_len l (i+1)]
theorem rule_form {G:Glo} (r:Rl) (e:Env):evE G (.bin .add (.tup [.idx (.var 0) (.cst (.int 0)),.blt .toTuple (.idx (.var 0) (.cst (.int 1)))]) (.sli (.var 0) (some (.cst (.int 2))) none)) (some r.raw::e)=some r.t:=by
 cases r with
 | ref cs t w=>simp [evE,evEs,evO,binT,addT,idxT,bltT,asI,sliT,SZ,Rl.raw,Rl.t,getI0,getI1,cut,clip,strT]
 | unl cs=>simp [evE,evEs,evO,binT,addT,idxT,bltT,asI,sliT,SZ,Rl.raw,Rl.t,getI0,getI1,cut,clip,strT]
 | chk t=>cases t<;>simp [evE,evEs,evO,binT,addT,idxT,bltT,asI,sliT,SZ,Rl.raw,Rl.t,Tst.t,getI0,getI1,cut,clip]
theorem rules_loop {P:Pr} (hd:P.fn "_law_drawn"=some d_law_drawn) (ht:P.fn "_law_test"=some d_law_test) (hp:P.fn "_law_pairs"=some d_law_pairs) (hr:P.fn "_law_rule"=some d_law_rule) (n:Nat)
  {bs:List Bt} (hb:∀ b∈bs,b.ok) {b:Bt} (hm:b∈bs) (k d c:Int) (s1 s2 s3 s5:T) (m:Nat) (hm3:m≤3) (s9 s10:Sl) :
  ∃ (rs:List Rl) (s9':Sl),loopM (fun x τ=>(bndS [9] x τ).bind fun τ'=>evSs (glo P (run P (n+6))) [.app 8 (.call "_law_rule" [.var 4,.var 6,.bin .fdiv (.call "_law_drawn" [.var 7,.var 9]) (.cst (.int 4))])] τ')
   ((List.range m).map fun (i:Nat)=>T.int (i:Int)) [.val (.int k),.val s1,.val s2,.val s3,.val (.lst (bs.map Bt.t)),.val s5,.val b.t,.val (.int d),.own [],s9,s10] =
   some (.nx [.val (.int k),.val s1,.val s2,.val s3,.val (.lst (bs.map Bt.t)),.val s5,.val b.t,.val (.int d),.own (rs.map Rl.raw),s9',s10])∧rs.length=m∧∀ r∈rs,r.ok∧r.asc:=by
 obtain ⟨τ',e,rs,s9',rfl,h1,h2⟩:=loopM_inv (enc:=fun (i:Nat)=>T.int (i:Int)) (f:=fun x τ=>(bndS [9] x τ).bind fun τ'=>evSs (glo P (run P (n+6))) [.app 8 (.call "_law_rule" [.var 4,.var 6,.bin .fdiv (.call "_law_drawn" [.var 7,.var 9]) (.cst (.int 4))])] τ')
  (fun done τ=>∃ rs s9',τ=[.val (.int k),.val s1,.val s2,.val s3,.val (.lst (bs.map Bt.t)),.val s5,.val b.t,.val (.int d),.own (rs.map Rl.raw),s9',s10]∧rs.length=done.length∧∀ r∈rs,r.ok∧r.asc)
  (List.range m) [.val (.int k),.val s1,.val s2,.val s3,.val (.lst (bs.map Bt.t)),.val s5,.val b.t,.val (.int d),.own [],s9,s10] ⟨[],s9,rfl,rfl,fun r h=>by cases h⟩ (by
   rintro done i rest hsp τ ⟨rs,s9',rfl,h1,h2⟩
   obtain ⟨r,er,hro⟩:=rule_run hd ht hp hr n hb hm (drawnI d i/4)
   have ed:=drawn_run hd (n+5) d i
   have hdl:done.length≤3:=by
    have:=congrArg List.length hsp
    simp at this
    omega
   have hz:rs.length<16777216:=by omega
   refine ⟨[.val (.int k),.val s1,.val s2,.val s3,.val (.lst (bs.map Bt.t)),.val s5,.val b.t,.val (.int d),.own ((rs++[r]).map Rl.raw),.val (.int i),s10],?_,rs++[r],_,rfl,by simp [h1],fun q hq=>?_⟩
   ·simp [evSs,evS,evE,evEs,view,frzAt,vars,varsL,Sl.get,Sl.frz,binT,fdivT,bndS,glo,SZ,ed,er,hz]
   ·rcases List.mem_append.mp hq with z | z
    ·exact h2 q z
    ·rw [List.mem_singleton.mp z];exact hro)
 exact ⟨rs,s9',e,by rw [h1];simp,h2⟩
noncomputable def names4:List Str:=["item", "user", "box", "log"]
theorem names4_len:∀ x∈names4,x.length≤6:=by decide +kernel
theorem names4_as:∀ x∈names4,ascii x=true:=by decide +kernel
noncomputable def cnt6:List Int:=[2,1,3,4,2,3]
noncomputable def cnt5:List Int:=[1,2,0,1,3]
theorem cnt6_mem:∀ c∈cnt6,1≤c∧c≤4:=by decide
theorem cnt5_mem:∀ c∈cnt5,0≤c∧c≤3:=by decide
theorem getI_cnt6 (k:Int):∃ i∈cnt6,getI [.int 2,.int 1,.int 3,.int 4,.int 2,.int 3] (k%6)=some (.int i):=by
 obtain ⟨c,hc,e⟩:=getI_mem (enc:=T.int) (cs:=cnt6) (by simp [cnt6]) k
 exact ⟨c,hc,e⟩
theorem getI_cnt5 (k:Int):∃ i∈cnt5,getI [.int 1,.int 2,.int 0,.int 1,.int 3] (k%5)=some (.int i):=by
 obtain ⟨c,hc,e⟩:=getI_mem (enc:=T.int) (cs:=cnt5) (by simp [cnt5]) k
 exact ⟨c,hc,e⟩
theorem some_map {α β:Type} (f:α→β) (l:List α):(l.filterMap fun a=>some (f a))=l.map f:=by
 induction l with
 | nil=>rfl
 | cons a l ih=>simp [ih]
theorem evE_comp (G:Glo) (elt:E) (n:Nat) (k:Ik) (src:List E) (cond:Option E) (r:Env):evE G (.comp elt n k src cond) r=(evEs G src r).bind fun xs=>(itemsC k xs).bind fun its =>
   (compM (fun x=>(bnd n x r).bind fun r'=>(evO G cond r').bind fun c=>match c with
    | none=>(evE G elt r').map some
    | some (.bl true)=>(evE G elt r').map some
    | some (.bl false)=>some none
    | some _=>none) its).map .lst:=by rw [evE];try rfl
theorem evE_var (G:Glo) (i:Nat) (r:Env):evE G (.var i) r=(r[i]?).join:=by rw [evE]
theorem evE_blt (G:Glo) (f:Bn) (a:E) (r:Env):evE G (.blt f a) r=(evE G a r).bind fun x=>bltT f x:=by rw [evE]
theorem items_range (q:Nat) (h:q≤3):items .range [.int (q:Int)]=some ((List.range q).map fun (i:Nat)=>T.int (i:Int)):=by
 simp only [items,rangeT,Int.toNat_natCast]
 rw [if_pos (by omega)]
theorem loop_of {G:Glo} {is:List Nat} {k:Ik} {src:List E} {body:List S} {τ τ0:List Sl} {xs its:List T} {o:Out} (h0:frzAt (varsL src) τ=τ0) (h1:evEs G src (view τ0)=some xs) (h2:items k xs=some its)
  (h3:loopM (fun x τ=>(bndS is x τ).bind fun τ'=>evSs G body τ') its τ0=some o):evS G (.loop is k src body) τ=some o:=by
 rw [evS,h0,h1,Option.bind_some,h2,Option.bind_some]
 exact h3
noncomputable def sbody:List S:=[.asg 7 (.bin .fdiv (.call "_law_drawn" [.var 0,.bin .add (.cst (.int 20)) (.var 3)]) (.cst (.int 4))),
  .asg 8 (.lst []),
  .loop [9] .range [.idx (.tup [.cst (.int 1),.cst (.int 2),.cst (.int 0),.cst (.int 1),.cst (.int 3)]) (.bin .mod (.var 7) (.cst (.int 5)))] [.app 8 (.call "_law_rule" [.var 4,.var 6,.bin .fdiv (.call "_law_drawn" [.var 7,.var 9]) (.cst (.int 4))])],
  .asg 10 (.blt .toTuple (.comp (.bin .add (.tup [.idx (.var 0) (.cst (.int 0)),.blt .toTuple (.idx (.var 0) (.cst (.int 1)))]) (.sli (.var 0) (some (.cst (.int 2))) none)) 1 .plain [.var 8] none)),
  .asg 5 (.bin .add (.var 5) (.tup [.bin .add (.sli (.var 6) none (some (.cst (.int 3)))) (.tup [.var 10])]))]
set_option maxRecDepth 1000000 in
theorem schema_step {P:Pr} (hd:P.fn "_law_drawn"=some d_law_drawn) (ht:P.fn "_law_test"=some d_law_test) (hp:P.fn "_law_pairs"=some d_law_pairs) (hr:P.fn "_law_rule"=some d_law_rule) (n:Nat)
  {bs:List Bt} (hbo:∀ b∈bs,b.ok) {b:Bt} (hbm:b∈bs) (k:Int) (s1:T) (s2:Int) (i:Nat) (S:List Tb) (hS:S.length≤4) (s7 s8 s9 s10:Sl) :
  ∃ (rs:List Rl) (s9':Sl),evSs (glo P (run P (n+6))) sbody [.val (.int k),.val s1,.val (.int s2),.val (.int (i:Int)),.val (.lst (bs.map Bt.t)),.val (.tup (S.map Tb.t)),.val b.t,s7,s8,s9,s10] =
   some (.nx [.val (.int k),.val s1,.val (.int s2),.val (.int (i:Int)),.val (.lst (bs.map Bt.t)),.val (.tup ((S++[(⟨b.nm,b.cs,b.key,rs⟩:Tb)]).map Tb.t)),.val b.t,.val (.int (drawnI k (20+i)/4)),.val (.lst (rs.map Rl.raw)),s9',.val (.tup (rs.map Rl.t))])∧rs.length≤3∧∀ r∈rs,r.ok∧r.asc:=by
 have e1:=drawn_run hd (n+5) k (20+i)
 obtain ⟨c,hc,ecn⟩:=getI_cnt5 (drawnI k (20+i)/4)
 have hcm:=cnt5_mem c hc
 obtain ⟨q,rfl⟩:∃ q:Nat,c=(q:Int):=⟨c.toNat,by omega⟩
 have hq3:q≤3:=by omega
 obtain ⟨rs,s9',el,hrl,hro⟩:=rules_loop hd ht hp hr n hbo hbm k (drawnI k (20+i)/4) 0 s1 (.int s2) (.int (i:Int)) (.tup (S.map Tb.t)) q hq3 s9 s10
 have hz1:rs.length≤16777216:=by omega
 have hz2:S.length+1≤16777216:=by omega
 refine ⟨rs,s9',?_,by omega,hro⟩
 unfold sbody
 rw [nx_of (τ':=[.val (.int k),.val s1,.val (.int s2),.val (.int (i:Int)),.val (.lst (bs.map Bt.t)),.val (.tup (S.map Tb.t)),.val b.t,.val (.int (drawnI k (20+i)/4)),s8,s9,s10]) (by simp [evS,evE,evEs,view,frzAt,vars,varsL,Sl.get,Sl.frz,binT,addT,fdivT,slotOf,fresh,glo,SZ,e1])]
 rw [nx_of (τ':=[.val (.int k),.val s1,.val (.int s2),.val (.int (i:Int)),.val (.lst (bs.map Bt.t)),.val (.tup (S.map Tb.t)),.val b.t,.val (.int (drawnI k (20+i)/4)),.own [],s9,s10]) (by simp [evS,evE,evEs,frzAt,vars,varsL,slotOf,fresh])]
 rw [nx_of (s:=.loop _ _ _ _) (τ':=[.val (.int k),.val s1,.val (.int s2),.val (.int (i:Int)),.val (.lst (bs.map Bt.t)),.val (.tup (S.map Tb.t)),.val b.t,.val (.int (drawnI k (20+i)/4)),.own (rs.map Rl.raw),s9',s10]) (by
  refine loop_of (its:=(List.range q).map fun (i:Nat)=>T.int (i:Int)) (xs:=[.int (q:Int)]) (τ0:=[.val (.int k),.val s1,.val (.int s2),.val (.int (i:Int)),.val (.lst (bs.map Bt.t)),.val (.tup (S.map Tb.t)),.val b.t,.val (.int (drawnI k (20+i)/4)),.own [],s9,s10]) (by simp [varsL,vars,frzAt,Sl.frz]) ?_ (items_range q hq3) el
  simp [evE,evEs,view,Sl.get,binT,modT,idxT,ecn])]
 rw [nx_of (τ':=[.val (.int k),.val s1,.val (.int s2),.val (.int (i:Int)),.val (.lst (bs.map Bt.t)),.val (.tup (S.map Tb.t)),.val b.t,.val (.int (drawnI k (20+i)/4)),.val (.lst (rs.map Rl.raw)),s9',.val (.tup (rs.map Rl.t))]) (by
  simp only [evS,view,frzAt,vars,varsL,varsO,List.append_nil,List.nil_append,List.cons_append,List.filterMap_cons,List.filterMap_nil,Nat.reduceLeDiff,if_false,List.modify_succ_cons,List.modify_zero_cons,Sl.frz,List.map_cons,List.map_nil,Sl.get]
  rw [evE_blt,evE_comp]
  simp only [evEs,evE_var,List.getElem?_cons_succ,List.getElem?_cons_zero,Option.join_some,Option.bind_some,itemsC,items,List.length_map,SZ,hz1,if_true]
  rw [compM_map (enc:=Rl.raw) (fun r=>some r.t) (fun r _=>by
   simp only [bnd,if_true,Option.bind_some,evO]
   rw [rule_form]
   rfl),some_map]
  simp [slotOf,fresh,bltT,SZ])]
 simp [evSs,evS,evE,evEs,evO,view,frzAt,vars,varsL,varsO,Sl.get,Sl.frz,binT,addT,slotOf,fresh,asI,sliT,SZ,Bt.t,bareT,cut,clip,hz2,Tb.t]
theorem schema_run {P:Pr} (hd:P.fn "_law_drawn"=some d_law_drawn) (ht:P.fn "_law_test"=some d_law_test) (hp:P.fn "_law_pairs"=some d_law_pairs) (hr:P.fn "_law_rule"=some d_law_rule)
  (hb:P.fn "_law_bare"=some d_law_bare) (h:P.fn "_law_schema"=some d_law_schema) (n:Nat) (k:Int) :
  ∃ S:List Tb,run P (n+7) "_law_schema" [.int k]=some (.tup (S.map Tb.t))∧S.length≤4∧(∀ b∈S,b.ok)∧0<S.length:=by
 rw [run_succ h rfl]
 obtain ⟨c,hc,ec⟩:=getI_cnt6 (k/4)
 have hc':=cnt6_mem c hc
 obtain ⟨m,rfl⟩:∃ m:Nat,c=(m:Int):=⟨c.toNat,by omega⟩
 have hk0:0≤k%4:=Int.emod_nonneg _ (by decide)
 have hk1:k%4<4:=Int.emod_lt_of_pos _ (by decide)
 obtain ⟨j,hj⟩:∃ j:Nat,k%4=(j:Int):=⟨(k%4).toNat,by omega⟩
 have hjl:j≤(names4.map T.str).length:=by simp [names4];omega
 generalize hN:(rotC names4 j).take m=N
 have hNl:N.length≤4:=by rw [← hN,List.length_take,rotC_len];simp [names4];omega
 have hNp:0<N.length:=by rw [← hN,List.length_take,rotC_len];simp [names4];omega
 have hNs:∀ x∈N,x.length≤6:=fun x hx=>by rw [← hN] at hx;exact names4_len x (rotC_mem.mp (List.mem_of_mem_take hx))
 have hNa:∀ x∈N,ascii x=true:=fun x hx=>by rw [← hN] at hx;exact names4_as x (rotC_mem.mp (List.mem_of_mem_take hx))
 unfold d_law_schema
 dsimp only
 rw [nx_of (τ':=[.val (.int k),.own (names4.map .str),.no,.no,.no,.no,.no,.no,.no,.no,.no]) (by simp [evS,evE,evEs,begin',frzAt,vars,varsL,slotOf,fresh,names4])]
 rw [nx_of (τ':=[.val (.int k),.own (names4.map .str),.val (.int (j:Int)),.no,.no,.no,.no,.no,.no,.no,.no]) (by simp [evS,evE,view,frzAt,vars,Sl.get,Sl.frz,binT,modT,slotOf,fresh,hj])]
 rw [nx_of (τ':=[.val (.int k),.val (.lst (N.map .str)),.val (.int (j:Int)),.no,.no,.no,.no,.no,.no,.no,.no]) (by
  have hz:(names4.map T.str).length-j+min j (names4.map T.str).length≤16777216:=by simp [names4];omega
  have hz':names4.length-j+min j names4.length≤16777216:=by simpa using hz
  simp only [evS,evE,evEs,evO,view,frzAt,vars,varsL,varsO,List.append_nil,List.nil_append,List.cons_append,List.modify_succ_cons,List.modify_zero_cons,Sl.frz,List.map_cons,List.map_nil,Sl.get,List.getElem?_cons_succ,List.getElem?_cons_zero,Option.join_some,Option.bind_some,Option.map_some,asI,sliT,cut_from _ _ hjl,cut_to _ _ hjl]
  simp [binT,addT,modT,fdivT,slotOf,fresh,idxT,SZ,hz',ec,cut_to',rotC,← hN])]
 generalize hB:(N.zipIdx 0).map (fun p=>mkB p.1 (drawnI k p.2/4))=bs
 have hbl:bs.length=N.length:=by rw [← hB];simp
 have hbo:∀ b∈bs,b.ok:=fun b hb'=>by
  rw [← hB] at hb'
  obtain ⟨p,hp',rfl⟩:=List.mem_map.mp hb'
  have hmm:p.1∈N:=by have:=List.mem_zipIdx' hp';rw [this.2];exact List.getElem_mem _
  exact mkB_ok _ (hNs _ hmm) (hNa _ hmm) _
 rw [nx_of (τ':=[.val (.int k),.val (.lst (N.map .str)),.val (.int (j:Int)),.no,.val (.lst (bs.map Bt.t)),.no,.no,.no,.no,.no,.no]) (by
  have hz:N.length≤16777216:=by omega
  simp only [evS,evE,evEs,evO,view,frzAt,vars,varsL,varsO,List.append_nil,List.nil_append,List.cons_append,List.filterMap_cons,List.filterMap_nil,Nat.reduceLeDiff,if_true,if_false,Nat.reduceSub,List.modify_succ_cons,List.modify_zero_cons,Sl.frz,List.map_cons,List.map_nil,Sl.get,List.getElem?_cons_succ,List.getElem?_cons_zero,Option.join_some,Option.bind_some,itemsC,items,enumT_len,List.length_map,SZ,hz]
  rw [enumT_map T.str N 0,compM_map (enc:=fun (p:Str × Nat)=>T.tup [.int (p.2:Int),.str p.1]) (fun p=>some (mkB p.1 (drawnI k p.2/4)).t) (fun p _=>by
   have e1:=drawn_run hd (n+5) k p.2
   have e2:=bare_run hd hb (n+4) p.1 (drawnI k p.2/4)
   simp [bnd,binT,fdivT,glo,e1,e2,mkB,Bt.t]),some_map]
  simp [slotOf,fresh,← hB])]
 rw [nx_of (τ':=[.val (.int k),.val (.lst (N.map .str)),.val (.int (j:Int)),.no,.val (.lst (bs.map Bt.t)),.val (.tup []),.no,.no,.no,.no,.no]) (by simp [evS,evE,evEs,frzAt,vars,varsL,slotOf,fresh])]
 obtain ⟨τ',e,S,s3,s6,s7,s8,s9,s10,rfl,h1,h2⟩:=loopM_inv (enc:=fun (p:Bt × Nat)=>T.tup [.int (p.2:Int),p.1.t]) (f:=fun x τ=>(bndS [3,6] x τ).bind fun τ'=>evSs (glo P (run P (n+6))) sbody τ')
  (fun done τ=>∃ S s3 s6 s7 s8 s9 s10,τ=[.val (.int k),.val (.lst (N.map .str)),.val (.int (j:Int)),s3,.val (.lst (bs.map Bt.t)),.val (.tup (S.map Tb.t)),s6,s7,s8,s9,s10]∧S.length=done.length∧∀ b∈S,b.ok)
  (bs.zipIdx 0) [.val (.int k),.val (.lst (N.map .str)),.val (.int (j:Int)),.no,.val (.lst (bs.map Bt.t)),.val (.tup []),.no,.no,.no,.no,.no] ⟨[],_,_,_,_,_,_,rfl,rfl,fun b hb'=>by cases hb'⟩ (by
   rintro done ⟨b,i⟩ rest hsp τ ⟨S,s3,s6,s7,s8,s9,s10,rfl,h1,h2⟩
   have hbm:b∈bs:=by
    have:(b,i)∈bs.zipIdx 0:=by rw [hsp];simp
    have:=List.mem_zipIdx' this
    rw [this.2];exact List.getElem_mem _
   have hdl:done.length≤4:=by
    have:=congrArg List.length hsp
    simp at this
    omega
   obtain ⟨rs,s9',est,hrl,hro⟩:=schema_step hd ht hp hr n hbo hbm k (.lst (N.map .str)) (j:Int) i S (by omega) s7 s8 s9 s10
   refine ⟨[.val (.int k),.val (.lst (N.map .str)),.val (.int (j:Int)),.val (.int (i:Int)),.val (.lst (bs.map Bt.t)),.val (.tup ((S++[(⟨b.nm,b.cs,b.key,rs⟩:Tb)]).map Tb.t)),.val b.t,.val (.int (drawnI k (20+i)/4)),.val (.lst (rs.map Rl.raw)),s9',.val (.tup (rs.map Rl.t))],?_,S++[(⟨b.nm,b.cs,b.key,rs⟩:Tb)],_,_,_,_,_,_,rfl,by simp [h1],fun x hx=>?_⟩
   ·simp only [bndS,setAll,Option.bind_some,List.set_cons_succ,List.set_cons_zero]
    exact est
   ·rcases List.mem_append.mp hx with z | z
    ·exact h2 x z
    ·rw [List.mem_singleton.mp z]
     have bo:=hbo b hbm
     exact ⟨bo.nm,bo.cs.2.1,bo.cs.2.2,bo.k1,bo.ks,by show rs.length≤3;omega,fun r hr=>(hro r hr).1,bo.kn,bo.cs.1,bo.nd,bo.kk,bo.as,bo.na,bo.inn,fun r hr=>(hro r hr).2⟩)
 rw [nx_of (s:=.loop _ _ _ _) (τ':=[.val (.int k),.val (.lst (N.map .str)),.val (.int (j:Int)),s3,.val (.lst (bs.map Bt.t)),.val (.tup (S.map Tb.t)),s6,s7,s8,s9,s10]) (by
  rw [evS]
  simp only [varsL,vars,List.append_nil,frzAt,evEs,evE,view,List.modify_succ_cons,List.modify_zero_cons,List.map_cons,Sl.get,Sl.frz,List.map_nil]
  simp only [List.getElem?_cons_succ,List.getElem?_cons_zero,Option.join_some,Option.bind_some,items,enumT_map]
  exact e)]
 refine ⟨S,by simp [evSs,evS,evE,view,frzAt,vars,Sl.get,Sl.frz,resultOf],by rw [h1];simp;omega,h2,by rw [h1];simp;omega⟩
noncomputable def d_is_tuple_of:Fd:=⟨3,3,[.ret (.land (.isi (.var 0) .ttup) (.chn .le .le (.var 1) (.blt .len (.var 0)) (.var 2)))]⟩
noncomputable def d_is_text_of:Fd:=⟨4,4,[.ite (.lor (.lnot (.tru (.isi (.var 0) .tstr))) (.lnot (.chn .le .le (.var 1) (.blt .len (.var 0)) (.var 2)))) [.ret (.cst (.bl false))] [],
  .ret (.blt .all (.comp (.cmp .isin (.var 0) (.var 4)) 1 .plain [.var 0] none))]⟩
noncomputable def d_is_worth:Fd:=⟨2,2,[.ite (.cmp .eq (.var 0) (.cst (.str "text"))) [.ret (.call "is_text_of" [.var 1,.cst (.int 0),.cst (.int 6),.bin .add (.glb "LETTERS") (.glb "FIGURES")])] [],
  .ite (.lor (.lnot (.tru (.isi (.var 1) .tint))) (.tru (.isi (.var 1) .tbool))) [.ret (.cst (.bl false))] [],
  .ret (.chn .le .le (.neg (.cst (.int 999))) (.var 1) (.cst (.int 999)))]⟩
noncomputable def d_column_of:Fd:=⟨2,3,[.loop [2] .plain [.idx (.var 0) (.cst (.int 1))] [.ite (.cmp .eq (.idx (.var 2) (.cst (.int 0))) (.var 1)) [.ret (.var 2)] []],
  .ret (.cst .non)]⟩
noncomputable def d_is_test:Fd:=⟨2,2,[.ret (.call "is_test_within" [.var 0,.var 1,.glb "DEEPEST_TEST"])]⟩
noncomputable def d_is_test_within:Fd:=⟨3,3,[.ite (.lor (.cmp .eq (.var 2) (.cst (.int 0))) (.lnot (.tru (.call "is_tuple_of" [.var 1,.cst (.int 2),.cst (.int 3)])))) [.ret (.cst (.bl false))] [],
  .ite (.cmp .eq (.idx (.var 1) (.cst (.int 0))) (.cst (.str "not"))) [.ret (.land (.cmp .eq (.blt .len (.var 1)) (.cst (.int 2))) (.call "is_test_within" [.var 0,.idx (.var 1) (.cst (.int 1)),.bin .sub (.var 2) (.cst (.int 1))]))] [],
  .ite (.lor (.cmp .eq (.idx (.var 1) (.cst (.int 0))) (.cst (.str "and"))) (.cmp .eq (.idx (.var 1) (.cst (.int 0))) (.cst (.str "or")))) [.ret (.land (.cmp .eq (.blt .len (.var 1)) (.cst (.int 3))) (.blt .all (.comp (.call "is_test_within" [.var 1,.var 0,.bin .sub (.var 3) (.cst (.int 1))]) 1 .plain [.sli (.var 1) (some (.cst (.int 1))) none] none)))] [],
  .ret (.call "is_plain_test" [.var 0,.var 1])]⟩
noncomputable def d_is_plain_test:Fd:=⟨2,4,[.asg 2 (.call "column_of" [.var 0,.idx (.var 1) (.cst (.int 1))]),
  .ite (.cmp .isN (.var 2) (.cst .non)) [.ret (.cst (.bl false))] [],
  .ite (.cmp .eq (.idx (.var 1) (.cst (.int 0))) (.cst (.str "empty"))) [.ret (.cmp .eq (.blt .len (.var 1)) (.cst (.int 2)))] [],
  .ite (.cmp .ne (.blt .len (.var 1)) (.cst (.int 3))) [.ret (.cst (.bl false))] [],
  .ite (.cmp .eq (.idx (.var 1) (.cst (.int 0))) (.cst (.str "is"))) [.ret (.call "is_worth" [.idx (.var 2) (.cst (.int 1)),.idx (.var 1) (.cst (.int 2))])] [],
  .ite (.cmp .eq (.idx (.var 1) (.cst (.int 0))) (.cst (.str "below"))) [.asg 3 (.call "column_of" [.var 0,.idx (.var 1) (.cst (.int 2))]),
  .ret (.land (.cmp .notN (.var 3) (.cst .non)) (.cmp .eq (.idx (.var 3) (.cst (.int 1))) (.idx (.var 2) (.cst (.int 1)))))] [],
  .ret (.cst (.bl false))]⟩
noncomputable def d_law_from:Fd:=⟨3,3,[.ret (.land (.isi (.var 0) .tint) (.land (.lnot (.isi (.var 0) .tbool)) (.chn .le .le (.var 1) (.var 0) (.var 2))))]⟩
noncomputable def d_law_in:Fd:=⟨2,2,[.ret (.land (.isi (.var 0) .tstr) (.cmp .isin (.var 0) (.var 1)))]⟩
noncomputable def d_law_is_worth:Fd:=⟨2,2,[.ite (.cmp .eq (.var 1) (.cst (.str "whole"))) [.ret (.call "_law_from" [.var 0,.neg (.cst (.int 999)),.cst (.int 999)])] [],
  .ite (.lor (.lnot (.tru (.isi (.var 0) .tstr))) (.cmp .gt (.blt .len (.var 0)) (.cst (.int 6)))) [.ret (.cst (.bl false))] [],
  .ret (.cmp .eq (.comp (.var 0) 1 .plain [.var 0] (some (.cmp .notin (.var 0) (.cst (.str "abcdefghijklmnopqrstuvwxyz0123456789"))))) (.lst []))]⟩
noncomputable def d_law_kind:Fd:=⟨2,2,[.ret (.idx (.comp (.idx (.var 0) (.cst (.int 1))) 1 .plain [.idx (.var 0) (.cst (.int 1))] (some (.cmp .eq (.idx (.var 0) (.cst (.int 0))) (.var 2)))) (.cst (.int 0)))]⟩
noncomputable def d_law_is_test:Fd:=⟨3,3,[.ite (.lor (.cmp .eq (.var 2) (.cst (.int 0))) (.lor (.lnot (.tru (.isi (.var 1) .ttup))) (.lor (.cmp .eq (.var 1) (.tup [])) (.lnot (.tru (.isi (.idx (.var 1) (.cst (.int 0))) .tstr)))))) [.ret (.cst (.bl false))] [],
  .ite (.cmp .isin (.idx (.var 1) (.cst (.int 0))) (.tup [.cst (.str "not"),.cst (.str "and"),.cst (.str "or")])) [.ite (.cmp .ne (.blt .len (.var 1)) (.bin .add (.cst (.int 2)) (.blt .toInt (.cmp .ne (.idx (.var 1) (.cst (.int 0))) (.cst (.str "not")))))) [.ret (.cst (.bl false))] [],
  .ret (.cmp .eq (.comp (.var 0) 1 .plain [.sli (.var 1) (some (.cst (.int 1))) none] (some (.lnot (.tru (.call "_law_is_test" [.var 1,.var 0,.bin .sub (.var 3) (.cst (.int 1))]))))) (.lst []))] [],
  .ite (.lor (.cmp .ne (.blt .len (.var 1)) (.dget [("empty",2),("is",3),("below",3)] (.idx (.var 1) (.cst (.int 0))) (0))) (.lnot (.tru (.call "_law_in" [.idx (.var 1) (.cst (.int 1)),.call "_law_names" [.var 0]])))) [.ret (.cst (.bl false))] [],
  .ite (.cmp .eq (.idx (.var 1) (.cst (.int 0))) (.cst (.str "is"))) [.ret (.call "_law_is_worth" [.idx (.var 1) (.cst (.int 2)),.call "_law_kind" [.var 0,.idx (.var 1) (.cst (.int 1))]])] [],
  .ite (.cmp .eq (.idx (.var 1) (.cst (.int 0))) (.cst (.str "empty"))) [.ret (.cst (.bl true))] [],
  .ret (.land (.call "_law_in" [.idx (.var 1) (.cst (.int 2)),.call "_law_names" [.var 0]]) (.cmp .eq (.call "_law_kind" [.var 0,.idx (.var 1) (.cst (.int 2))]) (.call "_law_kind" [.var 0,.idx (.var 1) (.cst (.int 1))])))]⟩
mutual
noncomputable def bd:T→Bool
 | .str x=>ascii x&&decide (x.length≤1000)
 | .tup xs=>decide (xs.length≤1000)&&bds xs
 | _=>true
noncomputable def bds:List T→Bool
 | []=>true
 | x::xs=>bd x&&bds xs
end
noncomputable def LT:Str:="abcdefghijklmnopqrstuvwxyz"
noncomputable def FG:Str:="0123456789"
noncomputable def SG:Str:="abcdefghijklmnopqrstuvwxyz0123456789"
theorem sg_eq:LT++FG=SG:=by decide +kernel
theorem sg_len:LT.length+FG.length≤16777216:=by decide +kernel
noncomputable def txtOk (x:Str):Bool:=decide (x.length≤6)&&x.cps.toList.all fun c=>occ ⟨#[c]⟩ SG
noncomputable def txtT:T→Bool
 | .str x=>txtOk x
 | _=>false
noncomputable def numT:T→Bool
 | .int i=>decide (-999≤i)&&decide (i≤999)
 | _=>false
noncomputable def worthT (k:Str) (t:T):Bool:=if k==("text":Str) then txtT t else numT t
theorem ret_of {G:Glo} {e:E} {τ τ0:List Sl} {t:T} (h0:frzAt (vars e) τ=τ0) (h1:evE G e (view τ0)=some t):evS G (.ret e) τ=some (.rt t):=by
 rw [evS,h0,h1];rfl
theorem asg_of {G:Glo} {i:Nat} {e:E} {τ τ0 τ':List Sl} {t:T} (h0:frzAt (vars e) τ=τ0) (h1:evE G e (view τ0)=some t) (h2:τ0.set i (slotOf e t)=τ'):evS G (.asg i e) τ=some (.nx τ'):=by
 rw [evS,h0,h1,← h2];rfl
theorem ite_no {G:Glo} {c:E} {a:List S} {ss:List S} {τ:List Sl} (h0:frzAt (vars c) τ=τ) (h1:evE G c (view τ)=some (.bl false)):evSs G (.ite c a []::ss) τ=evSs G ss τ :=
 nx_of (by rw [evS,h0,h1];simp [evSs])
theorem ite_yes {G:Glo} {c e:E} {ss b:List S} {τ:List Sl} {t:T} (h0:frzAt (vars c) τ=τ) (h1:evE G c (view τ)=some (.bl true)) (h2:frzAt (vars e) τ=τ) (h3:evE G e (view τ)=some t):evSs G (.ite c [.ret e] b::ss) τ=some (.rt t) :=
 rt_of (by rw [evS,h0,h1];show evSs G [.ret e] τ=_;exact rt_of (ret_of h2 h3))
theorem ret0 {G:Glo} {e:E} {ss:List S} {τ:List Sl} {t:T} (h0:frzAt (vars e) τ=τ) (h1:evE G e (view τ)=some t):evSs G (.ret e::ss) τ=some (.rt t):=rt_of (ret_of h0 h1)
theorem comp_all {G:Glo} {elt:E} {src:List E} {r:Env} {xs its:List T} {α:Type} {enc:α→T} {l:List α} (h1:evEs G src r=some xs) (h2:itemsC .plain xs=some its) (hl:its=l.map enc) (v:α→T)
  (hv:∀ a∈l,evE G elt (some (enc a)::r)=some (v a)):evE G (.comp elt 1 .plain src none) r=some (.lst (l.map v)):=by
 rw [evE_comp,h1,Option.bind_some,h2,Option.bind_some,hl,compM_map (fun a=>some (v a)) (fun a ha=>by simp [bnd,evO,hv a ha]),some_map]
 rfl
theorem comp_if {G:Glo} {elt cond:E} {src:List E} {r:Env} {xs its:List T} {α:Type} {enc:α→T} {l:List α} (h1:evEs G src r=some xs) (h2:itemsC .plain xs=some its) (hl:its=l.map enc) (b:α→Bool) (v:α→T)
  (hc:∀ a∈l,evE G cond (some (enc a)::r)=some (.bl (b a))) (hv:∀ a∈l,evE G elt (some (enc a)::r)=some (v a)):evE G (.comp elt 1 .plain src (some cond)) r=some (.lst (l.filterMap fun a=>if b a then some (v a) else none)):=by
 rw [evE_comp,h1,Option.bind_some,h2,Option.bind_some,hl,compM_map (fun a=>if b a then some (v a) else none) (fun a ha=>by
  simp only [bnd,if_true,Option.bind_some,evO,hc a ha,Option.map_some]
  cases b a<;>simp [hv a ha])]
 rfl
theorem boolsOf_map {α:Type} (g:α→Bool):∀ l:List α,boolsOf (l.map fun a=>T.bl (g a))=some (l.map g)
 | []=>rfl
 | a::l=>by rw [List.map_cons,boolsOf,boolsOf_map g l];rfl
theorem all_map {α:Type} (g:α→Bool) (l:List α):bltT .all (.lst (l.map fun a=>T.bl (g a)))=some (.bl (l.all g)):=by
 simp only [bltT,boolsOf_map,Option.map_some,List.all_map]
 rfl
theorem dps_nil (xs:List T):dpPs xs []=0:=by cases xs<;>rfl
theorem eqL0 {α:Type} (b:α→Bool) (v:α→T) (l:List α):eqC (.lst (l.filterMap fun a=>if b a then some (v a) else none)) (.lst [])=some (.bl (l.all fun a=>!b a)):=by
 have:∀ l:List α,eqTs (l.filterMap fun a=>if b a then some (v a) else none) []=l.all fun a=>!b a:=by
  intro l
  induction l with
  | nil=>rfl
  | cons a l ih =>
   rw [List.filterMap_cons,List.all_cons]
   cases b a with
   | true=>simp [eqTs]
   | false=>simpa using ih
 unfold eqC
 rw [if_pos (by rw [dpP,dps_nil];decide),eqT,this]
theorem eqAny (a:T) (x:Str):eqC a (.str x)=some (.bl (eqT a (.str x))):=by cases a<;>rfl
theorem eqAny' (x:Str) (a:T):eqC (.str x) a=some (.bl (eqT (.str x) a)):=by cases a<;>rfl
theorem chars_items {x:Str} (ha:ascii x=true) (hl:x.length≤6):itemsC .plain [.str x]=some (x.cps.toList.map fun c=>T.str ⟨#[c]⟩):=by
 have h2:(charsT x).length≤SZ:=by
  unfold charsT
  rw [List.length_map,Array.length_toList]
  have:x.cps.size≤6:=hl
  show x.cps.size≤16777216
  omega
 simp only [itemsC,items,ha,if_true,Option.bind_some,h2]
 rfl
theorem text_run {P:Pr} (h:P.fn "is_text_of"=some d_is_text_of) (n:Nat) {t:T} (hb:bd t=true):run P (n+1) "is_text_of" [t,.int 0,.int 6,.str SG]=some (.bl (txtT t)):=by
 rw [run_succ h rfl]
 cases t with
 | str x =>
  simp only [bd,Bool.and_eq_true,decide_eq_true_eq] at hb
  have hz:x.length≤16777216:=by omega
  by_cases h6:x.length≤6
  ·have hc:evE (glo P (run P n)) (.comp (.cmp .isin (.var 0) (.var 4)) 1 .plain [.var 0] none) (view [Sl.val (.str x),.val (.int 0),.val (.int 6),.val (.str SG)])=some (.lst (x.cps.toList.map fun c=>.bl (occ ⟨#[c]⟩ SG))) :=
    comp_all (enc:=fun c=>T.str ⟨#[c]⟩) (l:=x.cps.toList) (xs:=[.str x]) (by simp [evEs,evE,view,Sl.get]) (chars_items hb.1 h6) rfl (fun c=>.bl (occ ⟨#[c]⟩ SG)) (fun c _=>by
     simp [evE,view,Sl.get,cmpT,inC,inS])
   unfold d_is_text_of
   dsimp only
   rw [show begin' ⟨4,4,_⟩ [T.str x,.int 0,.int 6,.str SG]=[Sl.val (.str x),.val (.int 0),.val (.int 6),.val (.str SG)] from rfl]
   have h6':((x.length:Int)≤6):=by omega
   rw [ite_no rfl (by simp [evE,view,Sl.get,isiT,truT,bltT,hz,cmpT,leC,h6'])]
   rw [ret0 (t:=.bl (txtOk x)) rfl (by rw [evE_blt,hc,Option.bind_some,all_map];simp [txtOk,h6])]
   rfl
  ·have h6':¬ ((x.length:Int)≤6):=by omega
   simp [d_is_text_of,evSs,evS,evE,evEs,evO,begin',view,frzAt,vars,varsL,varsO,Sl.get,Sl.frz,resultOf,cmpT,bltT,truT,items,itemsC,bnd,isiT,glo,SZ,leC,hz,h6',txtT,txtOk,h6]
 | _=>simp [d_is_text_of,evSs,evS,evE,evEs,evO,begin',view,frzAt,vars,varsL,varsO,Sl.get,Sl.frz,resultOf,cmpT,bltT,truT,items,itemsC,bnd,isiT,glo,SZ,txtT]
theorem worth_run' {P:Pr} (h:P.fn "is_worth"=some d_is_worth) (ht:P.fn "is_text_of"=some d_is_text_of) (c1:P.con "LETTERS"=some (.str LT)) (c2:P.con "FIGURES"=some (.str FG)) (n:Nat) (k:Str) {t:T} (hb:bd t=true) :
  run P (n+2) "is_worth" [.str k,t]=some (.bl (worthT k t)):=by
 have e:=text_run ht n hb
 rw [run_succ h rfl]
 cases hk:(k==("text":Str)) with
 | true=>simp [d_is_worth,evSs,evS,evE,evEs,begin',view,frzAt,vars,varsL,Sl.get,Sl.frz,binT,addT,resultOf,cmpT,truT,isiT,glo,SZ,eqAny,eqT,hk,c1,c2,sg_len,sg_eq,e,worthT]
 | false =>
  cases t<;>simp [d_is_worth,evSs,evS,evE,evEs,begin',view,frzAt,vars,varsL,Sl.get,Sl.frz,binT,addT,resultOf,cmpT,truT,isiT,glo,SZ,eqAny,eqT,hk,worthT,numT,leC]
  rename_i i
  by_cases h1 : -999≤i<;>by_cases h2:i≤999<;>simp [h1,h2]
theorem eqI (a b:Int):eqC (.int a) (.int b)=some (.bl (a==b)):=rfl
theorem neI (a b:Int):neC (.int a) (.int b)=some (.bl (!(a==b))):=rfl
theorem eqTS (a b:Str):eqT (.str a) (.str b)=(a==b):=by rw [eqT]
noncomputable def colOf (cs:List Col):T→Option Col
 | .str x=>cs.find? fun c=>c.n==x
 | _=>none
noncomputable def colT:Option Col→T
 | none=>.non
 | some c=>c.t
theorem colOf_cons (c:Col) (cs:List Col) (t:T):colOf (c::cs) t=if eqT (.str c.n) t then some c else colOf cs t:=by
 cases t with
 | str x =>
  rw [eqTS]
  simp only [colOf,List.find?_cons]
  cases (c.n==x)<;>rfl
 | _=>simp [colOf,eqT]
theorem col_loop {G:Glo} (tb t:T):∀ (cs:List Col) (s2:Sl),∃ s2',loopM (fun x τ=>(bndS [2] x τ).bind fun τ'=>evSs G [.ite (.cmp .eq (.idx (.var 2) (.cst (.int 0))) (.var 1)) [.ret (.var 2)] []] τ') (cs.map Col.t) [.val tb,.val t,s2] =
  some (match colOf cs t with | some c=>.rt c.t | none=>.nx [.val tb,.val t,s2'])
 | [],s2=>⟨s2,by cases t<;>rfl⟩
 | c::cs,s2=>by
  obtain ⟨s2',ih⟩:=col_loop tb t cs (.val c.t)
  refine ⟨s2',?_⟩
  rw [List.map_cons,loopM,colOf_cons]
  cases he:eqT (.str c.n) t with
  | true=>simp [evSs,evS,evE,view,frzAt,vars,Sl.get,Sl.frz,cmpT,idxT,bndS,Col.t,getI0,eqAny',he]
  | false =>
   rw [show ((bndS [2] c.t [Sl.val tb,.val t,s2]).bind fun τ'=>evSs G [.ite (.cmp .eq (.idx (.var 2) (.cst (.int 0))) (.var 1)) [.ret (.var 2)] []] τ')=some (.nx [.val tb,.val t,.val c.t]) by simp [evSs,evS,evE,view,frzAt,vars,Sl.get,Sl.frz,cmpT,idxT,bndS,Col.t,getI0,eqAny',he]]
   exact ih
theorem column_run {P:Pr} (h:P.fn "column_of"=some d_column_of) (n:Nat) (nm key rules:T) (cs:List Col) (t:T):run P (n+1) "column_of" [tabT nm cs key rules,t]=some (colT (colOf cs t)):=by
 rw [run_succ h rfl]
 obtain ⟨s2',e⟩:=col_loop (G:=glo P (run P n)) (tabT nm cs key rules) t cs .no
 unfold d_column_of
 dsimp only
 rw [show begin' ⟨2,3,_⟩ [tabT nm cs key rules,t]=[Sl.val (tabT nm cs key rules),.val t,.no] from rfl]
 have hl:∀ o,loopM (fun x τ=>(bndS [2] x τ).bind fun τ'=>evSs (glo P (run P n)) [.ite (.cmp .eq (.idx (.var 2) (.cst (.int 0))) (.var 1)) [.ret (.var 2)] []] τ') (cs.map Col.t) [Sl.val (tabT nm cs key rules),.val t,.no]=some o →
   evS (glo P (run P n)) (.loop [2] .plain [.idx (.var 0) (.cst (.int 1))] [.ite (.cmp .eq (.idx (.var 2) (.cst (.int 0))) (.var 1)) [.ret (.var 2)] []]) [Sl.val (tabT nm cs key rules),.val t,.no]=some o:=fun o ho =>
  loop_of (τ0:=[Sl.val (tabT nm cs key rules),.val t,.no]) (xs:=[.tup (cs.map Col.t)]) rfl (by simp [evEs,evE,view,Sl.get,idxT,tabT,getI1]) (by simp only [items]) ho
 cases hc:colOf cs t with
 | some c =>
  rw [hc] at e
  rw [rt_of (hl _ e)]
  rfl
 | none =>
  rw [hc] at e
  rw [nx_of (hl _ e),ret0 (t:=.non) rfl (by simp [evE])]
  rfl
noncomputable def plain2 (cs:List Col) (a x:T):Bool:=match colOf cs x with
 | none=>false
 | some _=>eqT a (.str "empty")
noncomputable def plain3 (cs:List Col) (a x y:T):Bool:=match colOf cs x with
 | none=>false
 | some c=>if eqT a (.str "empty") then false else if eqT a (.str "is") then worthT c.k y else if eqT a (.str "below") then (match colOf cs y with | some o=>o.k==c.k | none=>false) else false
noncomputable def tst (cs:List Col):Nat→T→Bool
 | d+1,.tup [a,x]=>if eqT a (.str "not") then tst cs d x else if eqT a (.str "and") then false else if eqT a (.str "or") then false else plain2 cs a x
 | d+1,.tup [a,x,y]=>if eqT a (.str "not") then false else if eqT a (.str "and") then (tst cs d x&&tst cs d y) else if eqT a (.str "or") then (tst cs d x&&tst cs d y) else plain3 cs a x y
 | _,_=>false
noncomputable def nms (cs:List Col):List Str:=cs.map (·.n)
theorem lnames_run {P:Pr} (h:P.fn "_law_names"=some d_law_names) (n:Nat) (nm key rules:T) (cs:List Col) (hl:cs.length≤4):run P (n+1) "_law_names" [tabT nm cs key rules]=some (.lst ((nms cs).map .str)):=by
 have hl':cs.length≤16777216:=by omega
 rw [run_succ h rfl]
 have hc:evE (glo P (run P n)) (.comp (.idx (.var 0) (.cst (.int 0))) 1 .plain [.idx (.var 0) (.cst (.int 1))] none) (view [Sl.val (tabT nm cs key rules)])=some (.lst (cs.map fun c=>T.str c.n)) :=
  comp_all (enc:=Col.t) (l:=cs) (xs:=[.tup (cs.map Col.t)]) (by simp [evEs,evE,view,Sl.get,idxT,tabT,getI1]) (by simp [itemsC,items,hl']) rfl (fun c=>.str c.n) (fun c _=>by simp [evE,idxT,Col.t,getI0])
 unfold d_law_names
 dsimp only
 rw [show begin' ⟨1,1,_⟩ [tabT nm cs key rules]=[Sl.val (tabT nm cs key rules)] from rfl,ret0 rfl hc]
 simp [resultOf,nms]
theorem inL_str (x:Str) (xs:List Str):inC (.str x) (.lst (xs.map .str))=some (xs.any fun y=>y==x):=by
 simp only [inC,dpI_str,if_true,str_in]
theorem lin_run {P:Pr} (h:P.fn "_law_in"=some d_law_in) (n:Nat) (t:T) (cs:List Col):run P (n+1) "_law_in" [t,.lst ((nms cs).map .str)]=some (.bl (colOf cs t).isSome):=by
 rw [run_succ h rfl]
 cases t with
 | str x =>
  have e:((nms cs).any fun y=>y==x)=(colOf cs (.str x)).isSome:=by
   show ((nms cs).any fun y=>y==x)=(cs.find? fun c=>c.n==x).isSome
   unfold nms
   induction cs with
   | nil=>rfl
   | cons c cs ih =>
    rw [List.map_cons,List.any_cons,List.find?_cons,ih]
    cases (c.n==x)<;>rfl
  simp [d_law_in,evSs,evS,evE,begin',view,frzAt,vars,Sl.get,Sl.frz,resultOf,cmpT,isiT,glo,inL_str,e]
 | _=>simp [d_law_in,evSs,evS,evE,begin',view,frzAt,vars,Sl.get,Sl.frz,resultOf,cmpT,isiT,glo,colOf]
theorem kind_head {x:Str} {c:Col}:∀ (cs:List Col),cs.find? (fun c=>c.n==x)=some c→∃ r,(cs.filterMap fun c=>if c.n==x then some (T.str c.k) else none)=.str c.k::r:=by
 intro cs
 induction cs with
 | nil=>intro h;cases h
 | cons o cs ih =>
  intro h
  rw [List.find?_cons] at h
  cases hk:(o.n==x) with
  | true=>rw [hk] at h;cases h;exact ⟨_,by rw [List.filterMap_cons,hk];rfl⟩
  | false =>
   rw [hk] at h
   obtain ⟨r,e⟩:=ih h
   exact ⟨r,by rw [List.filterMap_cons,hk];exact e⟩
theorem lkind_run {P:Pr} (h:P.fn "_law_kind"=some d_law_kind) (n:Nat) (nm key rules:T) (cs:List Col) (hl:cs.length≤4) {x:Str} {c:Col} (hc:colOf cs (.str x)=some c):run P (n+1) "_law_kind" [tabT nm cs key rules,.str x]=some (.str c.k):=by
 have hl':cs.length≤16777216:=by omega
 rw [run_succ h rfl]
 have hcm:evE (glo P (run P n)) (.comp (.idx (.var 0) (.cst (.int 1))) 1 .plain [.idx (.var 0) (.cst (.int 1))] (some (.cmp .eq (.idx (.var 0) (.cst (.int 0))) (.var 2)))) (view [Sl.val (tabT nm cs key rules),.val (.str x)])=some (.lst (cs.filterMap fun c=>if c.n==x then some (T.str c.k) else none)) :=
  comp_if (enc:=Col.t) (l:=cs) (xs:=[.tup (cs.map Col.t)]) (by simp [evEs,evE,view,Sl.get,idxT,tabT,getI1]) (by simp [itemsC,items,hl']) rfl (fun c=>c.n==x) (fun c=>.str c.k) (fun c _=>by simp [evE,view,Sl.get,idxT,Col.t,getI0,cmpT,eqAny,eqTS]) (fun c _=>by simp [evE,idxT,Col.t,getI1])
 have hd:∃ r,(cs.filterMap fun c=>if c.n==x then some (T.str c.k) else none)=.str c.k::r:=by
  exact kind_head cs hc
 obtain ⟨r,er⟩:=hd
 rw [er] at hcm
 unfold d_law_kind
 dsimp only
 rw [show begin' ⟨2,2,_⟩ [tabT nm cs key rules,.str x]=[Sl.val (tabT nm cs key rules),.val (.str x)] from rfl,ret0 (t:=.str c.k) rfl (by
  rw [evE,hcm]
  simp [evE,idxT,getI0])]
 rfl
theorem lfrom_run {P:Pr} (h:P.fn "_law_from"=some d_law_from) (n:Nat) (t:T):run P (n+1) "_law_from" [t,.int (-999),.int 999]=some (.bl (numT t)):=by
 rw [run_succ h rfl]
 cases t<;>simp [d_law_from,evSs,evS,evE,begin',view,frzAt,vars,Sl.get,Sl.frz,resultOf,cmpT,isiT,glo,numT,leC]
 rename_i i
 by_cases h1 : -999≤i<;>by_cases h2:i≤999<;>simp [h1,h2]
theorem wh_tx:(("whole":Str)=="text")=false∧(("text":Str)=="whole")=false∧(("whole":Str)=="whole")=true∧(("text":Str)=="text")=true:=by decide +kernel
theorem lworth_run {P:Pr} (h:P.fn "_law_is_worth"=some d_law_is_worth) (hf:P.fn "_law_from"=some d_law_from) (n:Nat) {k:Str} (hk:k="whole"∨k="text") {t:T} (hb:bd t=true):run P (n+2) "_law_is_worth" [t,.str k]=some (.bl (worthT k t)):=by
 have e:=lfrom_run hf n t
 rw [run_succ h rfl]
 rcases hk with rfl | rfl
 ·simp [d_law_is_worth,evSs,evS,evE,evEs,evO,begin',view,frzAt,vars,varsL,varsO,Sl.get,Sl.frz,resultOf,cmpT,bltT,truT,items,itemsC,bnd,isiT,glo,SZ,eqAny,eqTS,wh_tx,e,worthT]
 ·cases t with
  | str x =>
   simp only [bd,Bool.and_eq_true,decide_eq_true_eq] at hb
   have hz:x.length≤16777216:=by omega
   by_cases h6:x.length≤6
   ·have h6':¬ ((6:Int)<(x.length:Int)):=by omega
    have hc:evE (glo P (run P (n+1))) (.comp (.var 0) 1 .plain [.var 0] (some (.cmp .notin (.var 0) (.cst (.str "abcdefghijklmnopqrstuvwxyz0123456789"))))) (view [Sl.val (.str x),.val (.str "text")])=some (.lst (x.cps.toList.filterMap fun c=>if !(occ ⟨#[c]⟩ SG) then some (T.str ⟨#[c]⟩) else none)) :=
     comp_if (enc:=fun c=>T.str ⟨#[c]⟩) (l:=x.cps.toList) (xs:=[.str x]) (by simp [evEs,evE,view,Sl.get]) (chars_items hb.1 h6) rfl (fun c=>!(occ ⟨#[c]⟩ SG)) (fun c=>.str ⟨#[c]⟩) (fun c _=>by simp [evE,view,Sl.get,cmpT,inC,inS,SG]) (fun c _=>by simp [evE])
    unfold d_law_is_worth
    dsimp only
    rw [show begin' ⟨2,2,_⟩ [T.str x,.str "text"]=[Sl.val (.str x),.val (.str "text")] from rfl]
    rw [ite_no rfl (by simp [evE,view,Sl.get,cmpT,eqAny,eqTS,wh_tx])]
    rw [ite_no rfl (by simp [evE,view,Sl.get,cmpT,isiT,truT,bltT,hz,h6'])]
    rw [ret0 (t:=.bl (txtOk x)) rfl (by
     rw [evE,hc,Option.bind_some]
     simp only [evE,evEs,List.length_nil,Option.map_some,Nat.zero_le,if_true,Option.bind_some,cmpT]
     rw [eqL0]
     simp [txtOk,h6])]
    simp [resultOf,worthT,txtT]
   ·have h6':(6:Int)<(x.length:Int):=by omega
    simp [d_law_is_worth,evSs,evS,evE,evEs,evO,begin',view,frzAt,vars,varsL,varsO,Sl.get,Sl.frz,resultOf,cmpT,bltT,truT,items,itemsC,bnd,isiT,glo,SZ,eqAny,eqTS,wh_tx,hz,h6',worthT,txtT,txtOk,h6]
  | _=>simp [d_law_is_worth,evSs,evS,evE,evEs,evO,begin',view,frzAt,vars,varsL,varsO,Sl.get,Sl.frz,resultOf,cmpT,bltT,truT,items,itemsC,bnd,isiT,glo,SZ,eqAny,eqTS,wh_tx,worthT,txtT]
theorem str_or (a:T):(∃ x,a=.str x)∨(isiT a .tstr=false∧∀ y,eqT a (.str y)=false):=by
 cases a with
 | str x=>exact .inl ⟨x,rfl⟩
 | _=>exact .inr ⟨rfl,fun y=>by simp [eqT]⟩
theorem tupE (a:T) (r:List T):eqC (.tup (a::r)) (.tup [])=some (.bl false):=by
 unfold eqC
 rw [if_pos (by simp [dpP,dpPs])]
 rfl
theorem tupE0:eqC (.tup []) (.tup [])=some (.bl true):=by
 unfold eqC
 rw [if_pos (by simp [dpP,dpPs])]
 rfl
theorem neS (a b:Str):neC (.str a) (.str b)=some (.bl (!(a==b))):=by unfold neC;rw [if_pos (by rw [dp_str];decide),eqTS]
theorem w7 (w:Str):((w==("not":Str))=true∧(w==("and":Str))=false∧(w==("or":Str))=false∧(w==("empty":Str))=false∧(w==("is":Str))=false∧(w==("below":Str))=false) ∨
  ((w==("not":Str))=false∧(w==("and":Str))=true∧(w==("or":Str))=false∧(w==("empty":Str))=false∧(w==("is":Str))=false∧(w==("below":Str))=false) ∨
  ((w==("not":Str))=false∧(w==("and":Str))=false∧(w==("or":Str))=true∧(w==("empty":Str))=false∧(w==("is":Str))=false∧(w==("below":Str))=false) ∨
  ((w==("not":Str))=false∧(w==("and":Str))=false∧(w==("or":Str))=false∧(w==("empty":Str))=true∧(w==("is":Str))=false∧(w==("below":Str))=false) ∨
  ((w==("not":Str))=false∧(w==("and":Str))=false∧(w==("or":Str))=false∧(w==("empty":Str))=false∧(w==("is":Str))=true∧(w==("below":Str))=false) ∨
  ((w==("not":Str))=false∧(w==("and":Str))=false∧(w==("or":Str))=false∧(w==("empty":Str))=false∧(w==("is":Str))=false∧(w==("below":Str))=true) ∨
  ((w==("not":Str))=false∧(w==("and":Str))=false∧(w==("or":Str))=false∧(w==("empty":Str))=false∧(w==("is":Str))=false∧(w==("below":Str))=false):=by
 by_cases h1:w="not"
 ·subst h1;exact .inl (by decide +kernel)
 by_cases h2:w="and"
 ·subst h2;exact .inr (.inl (by decide +kernel))
 by_cases h3:w="or"
 ·subst h3;exact .inr (.inr (.inl (by decide +kernel)))
 by_cases h4:w="empty"
 ·subst h4;exact .inr (.inr (.inr (.inl (by decide +kernel))))
 by_cases h5:w="is"
 ·subst h5;exact .inr (.inr (.inr (.inr (.inl (by decide +kernel)))))
 by_cases h6:w="below"
 ·subst h6;exact .inr (.inr (.inr (.inr (.inr (.inl (by decide +kernel))))))
 refine .inr (.inr (.inr (.inr (.inr (.inr ⟨?_,?_,?_,?_,?_,?_⟩)))))
 all_goals simpa using ‹_›
theorem bds_mem:∀ {xs:List T} {x:T},bds xs=true→x∈xs→bd x=true
 | y::xs,x,h,hx=>by
  rw [bds,Bool.and_eq_true] at h
  rcases List.mem_cons.mp hx with rfl | hx
  ·exact h.1
  ·exact bds_mem h.2 hx
theorem getI_any {xs:List T} (h:bds xs=true) (n:Nat) (hn:xs.length=n+1) (i:Int):∃ c,getI xs (i%((n+1:Nat):Int))=some c∧bd c=true:=by
 obtain ⟨c,hc,e⟩:=getI_mem (enc:=fun t:T=>t) (cs:=xs) (by intro z;rw [z] at hn;simp at hn) i
 rw [List.map_id',hn] at e
 exact ⟨c,e,bds_mem h hc⟩
theorem ite_go {G:Glo} {c:E} {a b ss:List S} {τ:List Sl} {t:T} (h0:frzAt (vars c) τ=τ) (h1:evE G c (view τ)=some (.bl true)) (h2:evSs G a τ=some (.rt t)):evSs G (.ite c a b::ss) τ=some (.rt t) :=
 rt_of (by rw [evS,h0,h1];exact h2)
theorem bds_of:∀ {xs:List T},(∀ x∈xs,bd x=true)→bds xs=true
 | [],_=>rfl
 | x::xs,h=>by rw [bds,h x List.mem_cons_self,bds_of fun y hy=>h y (List.mem_cons_of_mem _ hy)];rfl
noncomputable def rowS:List Str:=["a", "b", "", "ab", "a", "x9"]
noncomputable def rowI:List Int:=[0,1,2,3,1,2,4,-5]
theorem evE_comp0 (G:Glo) (elt:E) (n:Nat) (k:Ik) (src:List E) (r:Env):evE G (.comp elt n k src none) r=(evEs G src r).bind fun xs=>(itemsC k xs).bind fun its =>
   (compM (fun x=>(bnd n x r).bind fun r'=>(evE G elt r').map some) its).map .lst:=by
 rw [evE_comp]
 simp only [evO,Option.bind_some]
noncomputable def nmT (p:Col × T):T:=.str p.1.n
theorem place_of:∀ {ps:List (Col × T)} {p:Col × T},p∈ps→(ps.map (·.1.n)).Nodup→∃ i:Nat,placeOf (.str p.1.n) (ps.map nmT)=some i∧(ps.map (·.2))[i]?=some p.2
 | [],_,h,_=>by cases h
 | q::ps,p,h,hn=>by
  rw [List.map_cons,List.nodup_cons] at hn
  by_cases hq:q.1.n=p.1.n
  ·have:q=p:=by
    rcases List.mem_cons.mp h with e | hp
    ·exact e.symm
    ·exact absurd (List.mem_map.mpr ⟨p,hp,hq.symm⟩) hn.1
   subst this
   refine ⟨0,?_,rfl⟩
   simp [placeOf,nmT,eqT]
  ·rcases List.mem_cons.mp h with e | hp
   ·exact absurd (by rw [e]) hq
   ·obtain ⟨i,e1,e2⟩:=place_of hp hn.2
    refine ⟨i+1,?_,by simpa using e2⟩
    have hb:(q.1.n==p.1.n)=false:=by simpa using hq
    simp [placeOf,nmT,eqT,hb]
    simpa [nmT] using e1
theorem nm_flat:∀ ps:List (Col × T),(ps.map nmT).all flat=true
 | []=>rfl
 | p::ps=>by simp [nmT,flat]
theorem at_place {ps:List (Col × T)} {p:Col × T} (h:p∈ps) (hn:(ps.map (·.1.n)).Nodup):∃ i:Int,mthT .index (.lst (ps.map nmT)) (.str p.1.n)=some (.int i)∧getI (ps.map (·.2)) i=some p.2:=by
 obtain ⟨i,e1,e2⟩:=place_of h hn
 refine ⟨(i:Int),?_,getI_nat e2⟩
 simp only [mthT]
 rw [if_pos (by rw [nm_flat];rfl),e1]
 rfl
theorem compM_plain {α:Type} {enc:α→T} {f:T→Option (Option T)} (g:α→T) {l:List α} (h:∀ a∈l,f (enc a)=some (some (g a))):compM f (l.map enc)=some (l.map g):=by
 rw [compM_map (fun a=>some (g a)) h,some_map]
noncomputable def tabP (nm:T) (ps:List (Col × T)) (key rules:T):T:=tabT nm (ps.map (·.1)) key rules
theorem names_run {P:Pr} (h:P.fn "_law_names"=some d_law_names) (n:Nat) (ps:List (Col × T)) (hl:ps.length≤4) (nm key rules:T):run P (n+1) "_law_names" [tabP nm ps key rules]=some (.lst (ps.map nmT)):=by
 rw [run_succ h rfl]
 have hl':ps.length≤16777216:=by omega
 have e:=compM_plain (enc:=fun p:Col × T=>p.1.t) (f:=fun x=>(idxT x (.int 0)).map some) nmT (l:=ps) (fun p _=>by simp [Col.t,idxT,getI0,nmT])
 simp [d_law_names,evSs,evS,evE,evEs,evO,begin',view,frzAt,vars,varsL,varsO,Sl.get,Sl.frz,resultOf,idxT,items,itemsC,bnd,glo,SZ,tabP,tabT,getI1,hl',Function.comp_def] at e ⊢
 simp [e]
noncomputable def d_may_stand:Fd:=⟨2,2,[.ite (.cmp .isN (.var 1) (.cst .non)) [.ret (.idx (.var 0) (.cst (.int 2)))] [],
  .ret (.call "is_worth" [.idx (.var 0) (.cst (.int 1)),.var 1])]⟩
noncomputable def d_are_unlike:Fd:=⟨1,1,[.ret (.cmp .eq (.blt .lenSet (.var 0)) (.blt .len (.var 0)))]⟩
noncomputable def d_table_of:Fd:=⟨2,3,[.loop [2] .plain [.var 0] [.ite (.cmp .eq (.idx (.var 2) (.cst (.int 0))) (.var 1)) [.ret (.var 2)] []],
  .ret (.cst .non)]⟩
noncomputable def d_columns_of:Fd:=⟨2,2,[.ret (.comp (.call "column_of" [.var 1,.var 0]) 1 .plain [.var 1] none)]⟩
noncomputable def d_kinds_of:Fd:=⟨2,2,[.ret (.comp (.idx (.var 0) (.cst (.int 1))) 1 .plain [.call "columns_of" [.var 0,.var 1]] none)]⟩
noncomputable def d_is_row:Fd:=⟨2,3,[.asg 2 (.idx (.var 0) (.cst (.int 1))),
  .ite (.lor (.lnot (.tru (.isi (.var 1) .ttup))) (.cmp .ne (.blt .len (.var 1)) (.blt .len (.var 2)))) [.ret (.cst (.bl false))] [],
  .ret (.blt .all (.comp (.call "may_stand" [.var 0,.var 1]) 2 .zip [.var 2,.var 1] none))]⟩
noncomputable def d_is_deed:Fd:=⟨2,3,[.ite (.lnot (.tru (.call "is_tuple_of" [.var 1,.cst (.int 3),.cst (.int 4)]))) [.ret (.cst (.bl false))] [],
  .asg 2 (.call "table_of" [.var 0,.idx (.var 1) (.cst (.int 1))]),
  .ite (.cmp .isN (.var 2) (.cst .non)) [.ret (.cst (.bl false))] [],
  .ite (.cmp .eq (.idx (.var 1) (.cst (.int 0))) (.cst (.str "set"))) [.ret (.land (.cmp .eq (.blt .len (.var 1)) (.cst (.int 4))) (.land (.call "are_worths_of_key" [.var 2,.idx (.var 1) (.cst (.int 2))]) (.call "are_pairs" [.var 2,.idx (.var 1) (.cst (.int 3))])))] [],
  .ite (.cmp .ne (.blt .len (.var 1)) (.cst (.int 3))) [.ret (.cst (.bl false))] [],
  .ite (.cmp .eq (.idx (.var 1) (.cst (.int 0))) (.cst (.str "add"))) [.ret (.call "is_row" [.var 2,.idx (.var 1) (.cst (.int 2))])] [],
  .ret (.land (.cmp .eq (.idx (.var 1) (.cst (.int 0))) (.cst (.str "drop"))) (.call "are_worths_of_key" [.var 2,.idx (.var 1) (.cst (.int 2))]))]⟩
noncomputable def d_are_worths_of_key:Fd:=⟨2,3,[.asg 2 (.call "kinds_of" [.var 0,.idx (.var 0) (.cst (.int 2))]),
  .ite (.lnot (.tru (.call "is_tuple_of" [.var 1,.blt .len (.var 2),.blt .len (.var 2)]))) [.ret (.cst (.bl false))] [],
  .ret (.blt .all (.comp (.call "is_worth" [.var 0,.var 1]) 2 .zip [.var 2,.var 1] none))]⟩
noncomputable def d_are_pairs:Fd:=⟨2,2,[.ite (.lor (.lnot (.tru (.call "is_tuple_of" [.var 1,.cst (.int 1),.cst (.int 3)]))) (.lnot (.tru (.blt .all (.comp (.call "is_pair" [.var 1,.var 0]) 1 .plain [.var 1] none))))) [.ret (.cst (.bl false))] [],
  .ret (.call "are_unlike" [.comp (.idx (.var 0) (.cst (.int 0))) 1 .plain [.var 1] none])]⟩
noncomputable def d_is_pair:Fd:=⟨2,3,[.ite (.lor (.lnot (.tru (.call "is_tuple_of" [.var 1,.cst (.int 2),.cst (.int 2)]))) (.cmp .isin (.idx (.var 1) (.cst (.int 0))) (.idx (.var 0) (.cst (.int 2))))) [.ret (.cst (.bl false))] [],
  .asg 2 (.call "column_of" [.var 0,.idx (.var 1) (.cst (.int 0))]),
  .ret (.land (.cmp .notN (.var 2) (.cst .non)) (.call "may_stand" [.var 2,.idx (.var 1) (.cst (.int 1))]))]⟩
noncomputable def d_law_some_deed:Fd:=⟨2,6,[.asg 2 (.idx (.var 0) (.bin .mod (.var 1) (.blt .len (.var 0)))),
  .asg 3 (.call "_law_key" [.var 2,.call "_law_row" [.var 2,.bin .fdiv (.var 1) (.cst (.int 64))]]),
  .asg 4 (.comp (.var 0) 1 .plain [.idx (.var 2) (.cst (.int 1))] (some (.cmp .notin (.idx (.var 0) (.cst (.int 0))) (.idx (.var 3) (.cst (.int 2)))))),
  .ite (.lor (.cmp .eq (.bin .mod (.bin .fdiv (.var 1) (.cst (.int 4))) (.cst (.int 3))) (.cst (.int 0))) (.land (.cmp .eq (.var 4) (.lst [])) (.cmp .eq (.bin .mod (.bin .fdiv (.var 1) (.cst (.int 4))) (.cst (.int 3))) (.cst (.int 2))))) [.ret (.tup [.cst (.str "add"),.idx (.var 2) (.cst (.int 0)),.call "_law_row" [.var 2,.bin .fdiv (.call "_law_drawn" [.var 1,.cst (.int 7)]) (.cst (.int 4))]])] [],
  .ite (.cmp .eq (.bin .mod (.bin .fdiv (.var 1) (.cst (.int 4))) (.cst (.int 3))) (.cst (.int 1))) [.ret (.tup [.cst (.str "drop"),.idx (.var 2) (.cst (.int 0)),.var 3])] [],
  .asg 5 (.comp (.tup [.idx (.var 0) (.cst (.int 0)),.call "_law_worth" [.var 0,.bin .fdiv (.call "_law_drawn" [.var 2,.cst (.int 30)]) (.cst (.int 4))]]) 1 .plain [.sli (.var 4) none (some (.bin .add (.cst (.int 1)) (.bin .mod (.bin .fdiv (.var 1) (.cst (.int 16))) (.cst (.int 3)))))] none),
  .ret (.tup [.cst (.str "set"),.idx (.var 2) (.cst (.int 0)),.var 3,.blt .toTuple (.var 5)])]⟩
noncomputable def d_law_may:Fd:=⟨2,2,[.ret (.lor (.land (.cmp .isN (.var 1) (.cst .non)) (.idx (.var 0) (.cst (.int 2)))) (.land (.cmp .notN (.var 1) (.cst .non)) (.call "_law_is_worth" [.var 1,.idx (.var 0) (.cst (.int 1))])))]⟩
noncomputable def d_law_is_key:Fd:=⟨2,2,[.ite (.lor (.lnot (.tru (.isi (.var 1) .ttup))) (.cmp .ne (.blt .len (.var 1)) (.blt .len (.idx (.var 0) (.cst (.int 2)))))) [.ret (.cst (.bl false))] [],
  .ret (.cmp .eq (.comp (.cst (.int 0)) 2 .zip [.idx (.var 0) (.cst (.int 2)),.var 1] (some (.lnot (.tru (.call "_law_is_worth" [.var 1,.call "_law_kind" [.var 2,.var 0]]))))) (.lst []))]⟩
noncomputable def d_law_are_pairs:Fd:=⟨2,4,[.ite (.lor (.lnot (.tru (.isi (.var 1) .ttup))) (.lnot (.chn .le .le (.cst (.int 1)) (.blt .len (.var 1)) (.cst (.int 3))))) [.ret (.cst (.bl false))] [],
  .loop [2] .plain [.var 1] [.ite (.lor (.lnot (.tru (.isi (.var 2) .ttup))) (.lor (.cmp .ne (.blt .len (.var 2)) (.cst (.int 2))) (.lnot (.tru (.call "_law_in" [.idx (.var 2) (.cst (.int 0)),.call "_law_names" [.var 0]]))))) [.ret (.cst (.bl false))] [],
  .asg 3 (.idx (.comp (.var 0) 1 .plain [.idx (.var 0) (.cst (.int 1))] (some (.cmp .eq (.idx (.var 0) (.cst (.int 0))) (.idx (.var 3) (.cst (.int 0)))))) (.cst (.int 0))),
  .ite (.lor (.cmp .isin (.idx (.var 2) (.cst (.int 0))) (.idx (.var 0) (.cst (.int 2)))) (.lnot (.tru (.call "_law_may" [.var 3,.idx (.var 2) (.cst (.int 1))])))) [.ret (.cst (.bl false))] []],
  .ret (.cmp .eq (.blt .lenSet (.comp (.idx (.var 0) (.cst (.int 0))) 1 .plain [.var 1] none)) (.blt .len (.var 1)))]⟩
noncomputable def d_law_is_deed:Fd:=⟨2,4,[.ite (.lor (.lnot (.tru (.isi (.var 1) .ttup))) (.lor (.cmp .lt (.blt .len (.var 1)) (.cst (.int 3))) (.lnot (.tru (.isi (.idx (.var 1) (.cst (.int 0))) .tstr))))) [.ret (.cst (.bl false))] [],
  .ite (.lnot (.tru (.call "_law_in" [.idx (.var 1) (.cst (.int 1)),.comp (.idx (.var 0) (.cst (.int 0))) 1 .plain [.var 0] none]))) [.ret (.cst (.bl false))] [],
  .asg 2 (.call "_law_table" [.var 0,.idx (.var 1) (.cst (.int 1))]),
  .ite (.land (.cmp .eq (.idx (.var 1) (.cst (.int 0))) (.cst (.str "add"))) (.cmp .eq (.blt .len (.var 1)) (.cst (.int 3)))) [.asg 3 (.idx (.var 1) (.cst (.int 2))),
  .ite (.lor (.lnot (.tru (.isi (.var 3) .ttup))) (.cmp .ne (.blt .len (.var 3)) (.blt .len (.idx (.var 2) (.cst (.int 1)))))) [.ret (.cst (.bl false))] [],
  .ret (.cmp .eq (.comp (.var 0) 2 .zip [.idx (.var 2) (.cst (.int 1)),.var 3] (some (.lnot (.tru (.call "_law_may" [.var 0,.var 1]))))) (.lst []))] [],
  .ite (.land (.cmp .eq (.idx (.var 1) (.cst (.int 0))) (.cst (.str "drop"))) (.cmp .eq (.blt .len (.var 1)) (.cst (.int 3)))) [.ret (.call "_law_is_key" [.var 2,.idx (.var 1) (.cst (.int 2))])] [],
  .ite (.lor (.cmp .ne (.idx (.var 1) (.cst (.int 0))) (.cst (.str "set"))) (.cmp .ne (.blt .len (.var 1)) (.cst (.int 4)))) [.ret (.cst (.bl false))] [],
  .ret (.land (.call "_law_is_key" [.var 2,.idx (.var 1) (.cst (.int 2))]) (.call "_law_are_pairs" [.var 2,.idx (.var 1) (.cst (.int 3))]))]⟩
noncomputable def d_law30:Fd:=⟨1,9,[.asg 1 (.call "_law_schema" [.call "_law_mixed" [.var 0,.cst (.int 0)]]),
  .asg 2 (.call "_law_mixed" [.var 0,.cst (.int 1)]),
  .asg 3 (.call "_law_some_deed" [.var 1,.call "_law_mixed" [.var 0,.cst (.int 2)]]),
  .ite (.cmp .eq (.bin .mod (.var 2) (.cst (.int 2))) (.cst (.int 1))) [.asg 3 (.call "_law_spoilt" [.var 3,.call "_law_mixed" [.var 0,.cst (.int 3)],.bin .mod (.bin .fdiv (.var 2) (.cst (.int 2))) (.cst (.int 5))])] [],
  .ite (.cmp .eq (.bin .mod (.bin .fdiv (.var 2) (.cst (.int 64))) (.cst (.int 3))) (.cst (.int 1))) [.asg 4 (.idx (.var 1) (.bin .mod (.bin .fdiv (.var 2) (.cst (.int 256))) (.blt .len (.var 1)))),
  .asg 5 (.comp (.tup [.idx (.var 0) (.cst (.int 0)),.call "_law_worth" [.var 0,.bin .fdiv (.var 3) (.cst (.int 1024))]]) 1 .plain [.idx (.var 4) (.cst (.int 1))] none),
  .asg 6 (.comp (.var 0) 1 .plain [.var 5] (some (.cmp .notin (.idx (.var 0) (.cst (.int 0))) (.idx (.var 5) (.cst (.int 2)))))),
  .asg 7 (.call "_law_key" [.var 4,.call "_law_row" [.var 4,.bin .fdiv (.var 2) (.cst (.int 64))]]),
  .asg 3 (.tup [.cst (.str "set"),.idx (.var 4) (.cst (.int 0)),.var 7,.blt .toTuple (.idx (.lst [.var 6,.var 5,.bin .mul (.var 6) (.cst (.int 2)),.bin .add (.var 6) (.sli (.var 6) none (some (.cst (.int 1)))),.var 6]) (.bin .mod (.bin .fdiv (.var 2) (.cst (.int 16384))) (.cst (.int 5))))])] [],
  .asg 8 (.call "is_deed" [.var 1,.var 3]),
  .ret (.land (.isi (.var 8) .tbool) (.cmp .eq (.var 8) (.call "_law_is_deed" [.var 1,.var 3])))]⟩
noncomputable def nonB:T→Bool
 | .non=>true
 | _=>false
theorem isN_T (t:T):cmpT .isN t .non=some (.bl (nonB t)):=by cases t<;>rfl
theorem notN_T (t:T):cmpT .notN t .non=some (.bl (!nonB t)):=by cases t<;>rfl
noncomputable def mayB (c:Col) (t:T):Bool:=if nonB t then c.g else worthT c.k t
noncomputable def kd (cs:List Col) (x:Str):Str:=match colOf cs (.str x) with | some c=>c.k | none=>""
noncomputable def rowB (cs:List Col):T→Bool
 | .tup xs=>decide (xs.length=cs.length)&&(cs.zip xs).all fun p=>mayB p.1 p.2
 | _=>false
noncomputable def keyB (cs:List Col) (ks:List Str):T→Bool
 | .tup xs=>decide (xs.length=ks.length)&&(ks.zip xs).all fun p=>worthT (kd cs p.1) p.2
 | _=>false
noncomputable def isK (ks:List Str) (a:T):Bool:=ks.any fun k=>eqT (.str k) a
noncomputable def pairB (cs:List Col) (ks:List Str):T→Bool
 | .tup [a,b]=>!isK ks a&&(match colOf cs a with | some c=>mayB c b | none=>false)
 | _=>false
noncomputable def hdT:T→T
 | .tup (a::_)=>a
 | _=>.non
noncomputable def unl (xs:List T):Bool:=((xs.foldl dedT []).length:Int)==(xs.length:Int)
noncomputable def pairsB (cs:List Col) (ks:List Str):T→Bool
 | .tup xs=>decide (1≤xs.length)&&decide (xs.length≤3)&&xs.all (pairB cs ks)&&unl (xs.map hdT)
 | _=>false
noncomputable def tabO (S:List Tb) (t:T):Option Tb:=S.find? fun b=>eqT (.str b.nm) t
noncomputable def deedB (S:List Tb):T→Bool
 | .tup [a,x,y]=>match tabO S x with
  | none=>false
  | some b=>if eqT a (.str "set") then false else if eqT a (.str "add") then rowB b.cs y else eqT a (.str "drop")&&keyB b.cs b.key y
 | .tup [a,x,y,z]=>match tabO S x with
  | none=>false
  | some b=>eqT a (.str "set")&&(keyB b.cs b.key y&&pairsB b.cs b.key z)
 | _=>false
theorem zipT_map {α:Type} (f:α→T):∀ (l:List α) (xs:List T),zipT (l.map f) xs=(l.zip xs).map fun p=>.tup [f p.1,p.2]
 | [],xs=>by cases xs<;>rfl
 | a::l,[]=>rfl
 | a::l,x::xs=>by rw [List.map_cons,zipT,zipT_map f l xs];rfl
theorem items_zip {α:Type} (f:α→T) (l:List α) (xs:List T) (hl:l.length≤4) {s:T} (hs:seqOf s=some (l.map f)):itemsC .zip [s,.tup xs]=some ((l.zip xs).map fun p=>.tup [f p.1,p.2]):=by
 have h:(l.zip xs).length≤16777216:=by rw [List.length_zip];omega
 simp only [itemsC,items]
 rw [hs,show seqOf (.tup xs)=some xs from rfl]
 simp only [Option.bind_some,zipT_map,List.length_map]
 rw [if_pos (show _≤SZ from h)]
theorem comp_zip {G:Glo} {elt:E} {src:List E} {r:Env} {xs its:List T} {α:Type} {e1 e2:α→T} {l:List α} (h1:evEs G src r=some xs) (h2:itemsC .zip xs=some its) (hl:its=l.map fun a=>.tup [e1 a,e2 a]) (v:α→T)
  (hv:∀ a∈l,evE G elt (some (e1 a)::some (e2 a)::r)=some (v a)):evE G (.comp elt 2 .zip src none) r=some (.lst (l.map v)):=by
 rw [evE_comp,h1,Option.bind_some,h2,Option.bind_some,hl,compM_map (fun a=>some (v a)) (fun a ha=>by simp [bnd,evO,hv a ha]),some_map]
 rfl
theorem comp_zif {G:Glo} {elt cond:E} {src:List E} {r:Env} {xs its:List T} {α:Type} {e1 e2:α→T} {l:List α} (h1:evEs G src r=some xs) (h2:itemsC .zip xs=some its) (hl:its=l.map fun a=>.tup [e1 a,e2 a]) (b:α→Bool) (v:α→T)
  (hc:∀ a∈l,evE G cond (some (e1 a)::some (e2 a)::r)=some (.bl (b a))) (hv:∀ a∈l,evE G elt (some (e1 a)::some (e2 a)::r)=some (v a)):evE G (.comp elt 2 .zip src (some cond)) r=some (.lst (l.filterMap fun a=>if b a then some (v a) else none)):=by
 rw [evE_comp,h1,Option.bind_some,h2,Option.bind_some,hl,compM_map (fun a=>if b a then some (v a) else none) (fun a ha=>by
  have:bnd 2 (.tup [e1 a,e2 a]) r=some (some (e1 a)::some (e2 a)::r):=rfl
  simp only [this,Option.bind_some,evO,hc a ha,Option.map_some]
  cases b a<;>simp [hv a ha])]
 rfl
noncomputable def tupB (a b:Int):T→Bool
 | .tup xs=>decide (a≤(xs.length:Int))&&decide ((xs.length:Int)≤b)
 | _=>false
theorem tup_run {P:Pr} (h:P.fn "is_tuple_of"=some d_is_tuple_of) (n:Nat) (a b:Int) (t:T):run P (n+1) "is_tuple_of" [t,.int a,.int b]=some (.bl (tupB a b t)):=by
 rw [run_succ h rfl]
 cases t with
 | tup xs=>by_cases h1:a≤(xs.length:Int)<;>by_cases h2:(xs.length:Int)≤b<;>simp [d_is_tuple_of,evSs,evS,evE,begin',view,frzAt,vars,Sl.get,Sl.frz,resultOf,cmpT,bltT,isiT,glo,SZ,leC,tupB,h1,h2]
 | _=>simp [d_is_tuple_of,evSs,evS,evE,begin',view,frzAt,vars,Sl.get,Sl.frz,resultOf,cmpT,bltT,isiT,glo,SZ,tupB]
theorem isK_in (ks:List Str) (a:T):inC a (.tup (ks.map .str))=some (isK ks a):=by
 have h:dpI a (ks.map .str)=true:=by
  unfold dpI
  rw [List.all_eq_true]
  intro z hz
  obtain ⟨k,_,rfl⟩:=List.mem_map.mp hz
  cases a<;>rfl
 simp only [inC,h,if_true,isK,List.any_map]
 rfl
theorem bd_tup {xs:List T} (h:bd (.tup xs)=true):xs.length≤1000∧∀ x∈xs,bd x=true:=by
 rw [bd,Bool.and_eq_true,decide_eq_true_eq] at h
 exact ⟨h.1,fun x hx=>bds_mem h.2 hx⟩
theorem zip_snd {α:Type}:∀ {l:List α} {xs:List T} {p:α × T},p∈l.zip xs→p.1∈l∧p.2∈xs:=fun {l xs p} h=>List.of_mem_zip (a:=p.1) (b:=p.2) h
structure Prog (P:Pr):Prop where
 worth:P.fn "is_worth"=some d_is_worth
 text:P.fn "is_text_of"=some d_is_text_of
 c1:P.con "LETTERS"=some (.str LT)
 c2:P.con "FIGURES"=some (.str FG)
 tup:P.fn "is_tuple_of"=some d_is_tuple_of
 col:P.fn "column_of"=some d_column_of
 cols:P.fn "columns_of"=some d_columns_of
 kinds:P.fn "kinds_of"=some d_kinds_of
 may:P.fn "may_stand"=some d_may_stand
 unlike:P.fn "are_unlike"=some d_are_unlike
 tab:P.fn "table_of"=some d_table_of
 row:P.fn "is_row"=some d_is_row
 deed:P.fn "is_deed"=some d_is_deed
 key:P.fn "are_worths_of_key"=some d_are_worths_of_key
 pairs:P.fn "are_pairs"=some d_are_pairs
 pair:P.fn "is_pair"=some d_is_pair
theorem may_run {P:Pr} (h:Prog P) (n:Nat) (c:Col) {t:T} (hb:bd t=true):run P (n+3) "may_stand" [c.t,t]=some (.bl (mayB c t)):=by
 have e:=worth_run' h.worth h.text h.c1 h.c2 n c.k hb
 rw [run_succ h.may rfl]
 show resultOf (evSs (glo P (run P (n+2))) d_may_stand.body [.val c.t,.val t])=_
 unfold d_may_stand
 dsimp only
 cases hn:nonB t with
 | true =>
  rw [ite_yes (t:=.bl c.g) rfl (by simp [evE,view,Sl.get,isN_T,hn]) rfl (by simp [evE,view,Sl.get,idxT,Col.t,getI2])]
  simp [resultOf,mayB,hn]
 | false =>
  rw [ite_no rfl (by simp [evE,view,Sl.get,isN_T,hn]),ret0 (t:=.bl (worthT c.k t)) rfl (by simp [evE,evEs,view,Sl.get,idxT,Col.t,getI1,glo] at e ⊢;exact e)]
  simp [resultOf,mayB,hn]
theorem is_row_run {P:Pr} (h:Prog P) (n:Nat) (nm key rules:T) (cs:List Col) (hl:cs.length≤4) {t:T} (hb:bd t=true):run P (n+4) "is_row" [tabT nm cs key rules,t]=some (.bl (rowB cs t)):=by
 rw [run_succ h.row rfl]
 show resultOf (evSs (glo P (run P (n+3))) d_is_row.body [.val (tabT nm cs key rules),.val t,.no])=_
 unfold d_is_row
 dsimp only
 rw [nx_of (asg_of (τ0:=[.val (tabT nm cs key rules),.val t,.no]) (t:=.tup (cs.map Col.t)) (τ':=[.val (tabT nm cs key rules),.val t,.val (.tup (cs.map Col.t))]) rfl (by simp [evE,view,Sl.get,idxT,tabT,getI1]) rfl)]
 cases t with
 | tup xs =>
  have hb':=bd_tup hb
  by_cases hx:xs.length=cs.length
  ·have hc:evE (glo P (run P (n+3))) (.comp (.call "may_stand" [.var 0,.var 1]) 2 .zip [.var 2,.var 1] none) (view [.val (tabT nm cs key rules),.val (.tup xs),.val (.tup (cs.map Col.t))])=some (.lst ((cs.zip xs).map fun p=>.bl (mayB p.1 p.2))) :=
    comp_zip (e1:=fun p:Col × T=>p.1.t) (e2:=fun p=>p.2) (l:=cs.zip xs) (xs:=[.tup (cs.map Col.t),.tup xs]) (by simp [evEs,evE,view,Sl.get]) (items_zip Col.t cs xs hl rfl) rfl (fun p=>.bl (mayB p.1 p.2)) (fun p hp=>by
     have e:=may_run h n p.1 (hb'.2 _ (zip_snd hp).2)
     simp [evE,evEs,glo,e])
   rw [ite_no rfl (by simp [evE,view,Sl.get,isiT,truT,bltT,cmpT,neI,hx])]
   rw [ret0 (t:=.bl (rowB cs (.tup xs))) rfl (by rw [evE_blt,hc,Option.bind_some,all_map];simp [rowB,hx])]
   rfl
  ·have hx':((xs.length:Int)==(cs.length:Int))=false:=by simp;omega
   rw [ite_yes (t:=.bl false) rfl (by simp [evE,view,Sl.get,isiT,truT,bltT,cmpT,neI,hx']) rfl (by simp [evE])]
   simp [resultOf,rowB,hx]
 | _ =>
  rw [ite_yes (t:=.bl false) rfl (by simp [evE,view,Sl.get,isiT,truT]) rfl (by simp [evE])]
  rfl
theorem kinds_run {P:Pr} (h:Prog P) (n:Nat) (nm key rules:T) (cs:List Col) (ks:List Str) (hl:ks.length≤4) (hk:∀ k∈ks,∃ c,colOf cs (.str k)=some c):run P (n+3) "kinds_of" [tabT nm cs key rules,.tup (ks.map .str)]=some (.lst (ks.map fun k=>.str (kd cs k))):=by
 have hz:ks.length≤16777216:=by omega
 have e1:run P (n+2) "columns_of" [tabT nm cs key rules,.tup (ks.map .str)]=some (.lst (ks.map fun k=>colT (colOf cs (.str k)))):=by
  rw [run_succ h.cols rfl]
  show resultOf (evSs (glo P (run P (n+1))) d_columns_of.body [.val (tabT nm cs key rules),.val (.tup (ks.map .str))])=_
  unfold d_columns_of
  dsimp only
  rw [ret0 rfl (comp_all (enc:=T.str) (l:=ks) (xs:=[.tup (ks.map .str)]) (by simp [evEs,evE,view,Sl.get]) (by simp [itemsC,items,hz]) rfl (fun k=>colT (colOf cs (.str k))) (fun k _=>by
   have e:=column_run h.col n nm key rules cs (.str k)
   simp [evE,evEs,view,Sl.get,glo,e]))]
  rfl
 rw [run_succ h.kinds rfl]
 show resultOf (evSs (glo P (run P (n+2))) d_kinds_of.body [.val (tabT nm cs key rules),.val (.tup (ks.map .str))])=_
 unfold d_kinds_of
 dsimp only
 rw [ret0 rfl (comp_all (enc:=fun k=>colT (colOf cs (.str k))) (l:=ks) (xs:=[.lst (ks.map fun k=>colT (colOf cs (.str k)))]) (by simp [evEs,evE,view,Sl.get,glo,e1]) (by simp [itemsC,items,hz]) rfl (fun k=>.str (kd cs k)) (fun k hk'=>by
   obtain ⟨c,hc⟩:=hk k hk'
   simp [evE,view,Sl.get,hc,colT,kd,Col.t,idxT,getI1]))]
 rfl
theorem key_run {P:Pr} (h:Prog P) (n:Nat) (nm rules:T) (cs:List Col) (ks:List Str) (hl:ks.length≤4) (hk:∀ k∈ks,∃ c,colOf cs (.str k)=some c) {t:T} (hb:bd t=true):run P (n+4) "are_worths_of_key" [tabT nm cs (.tup (ks.map .str)) rules,t]=some (.bl (keyB cs ks t)):=by
 have e1:=kinds_run h n nm (.tup (ks.map .str)) rules cs ks hl hk
 have e2:=tup_run h.tup (n+2) (ks.length:Int) (ks.length:Int) t
 rw [run_succ h.key rfl]
 show resultOf (evSs (glo P (run P (n+3))) d_are_worths_of_key.body [.val (tabT nm cs (.tup (ks.map .str)) rules),.val t,.no])=_
 unfold d_are_worths_of_key
 dsimp only
 rw [nx_of (asg_of (τ0:=[.val (tabT nm cs (.tup (ks.map .str)) rules),.val t,.no]) (t:=.lst (ks.map fun k=>.str (kd cs k))) (τ':=[.val (tabT nm cs (.tup (ks.map .str)) rules),.val t,.val (.lst (ks.map fun k=>.str (kd cs k)))]) rfl (by
  have:idxT (tabT nm cs (.tup (ks.map .str)) rules) (.int 2)=some (.tup (ks.map .str)):=by simp [idxT,tabT,getI2]
  simp [evE,evEs,view,Sl.get,this,glo,e1]) rfl)]
 cases ht:tupB (ks.length:Int) (ks.length:Int) t with
 | true =>
  obtain ⟨xs,rfl⟩:∃ xs,t=.tup xs:=by cases t with | tup xs=>exact ⟨xs,rfl⟩ | _=>cases ht
  have hb':=bd_tup hb
  have hx:xs.length=ks.length:=by simp [tupB] at ht;omega
  have hc:evE (glo P (run P (n+3))) (.comp (.call "is_worth" [.var 0,.var 1]) 2 .zip [.var 2,.var 1] none) (view [.val (tabT nm cs (.tup (ks.map .str)) rules),.val (.tup xs),.val (.lst (ks.map fun k=>.str (kd cs k)))])=some (.lst ((ks.zip xs).map fun p=>.bl (worthT (kd cs p.1) p.2))) :=
   comp_zip (e1:=fun p:Str × T=>.str (kd cs p.1)) (e2:=fun p=>p.2) (l:=ks.zip xs) (xs:=[.lst (ks.map fun k=>.str (kd cs k)),.tup xs]) (by simp [evEs,evE,view,Sl.get]) (items_zip (fun k=>.str (kd cs k)) ks xs hl rfl) rfl (fun p=>.bl (worthT (kd cs p.1) p.2)) (fun p hp=>by
    have e:=worth_run' h.worth h.text h.c1 h.c2 (n+1) (kd cs p.1) (hb'.2 _ (zip_snd hp).2)
    simp [evE,evEs,glo,e])
  rw [ht] at e2
  rw [ite_no rfl (by simp [evE,evEs,view,Sl.get,glo,bltT,e2,truT])]
  rw [ret0 (t:=.bl (keyB cs ks (.tup xs))) rfl (by rw [evE_blt,hc,Option.bind_some,all_map];simp [keyB,hx])]
  rfl
 | false =>
  rw [ht] at e2
  rw [ite_yes (t:=.bl false) rfl (by simp [evE,evEs,view,Sl.get,glo,bltT,e2,truT]) rfl (by simp [evE])]
  have:keyB cs ks t=false:=by
   cases t with
   | tup xs =>
    have hx:xs.length≠ks.length:=by intro hx;simp [tupB,hx] at ht
    simp [keyB,hx]
   | _=>rfl
  rw [this];rfl
theorem is_pair_run {P:Pr} (h:Prog P) (n:Nat) (nm rules:T) (cs:List Col) (ks:List Str) {t:T} (hb:bd t=true):run P (n+4) "is_pair" [tabT nm cs (.tup (ks.map .str)) rules,t]=some (.bl (pairB cs ks t)):=by
 have e2:=tup_run h.tup (n+2) 2 2 t
 have hk:idxT (tabT nm cs (.tup (ks.map .str)) rules) (.int 2)=some (.tup (ks.map .str)):=by simp [idxT,tabT,getI2]
 rw [run_succ h.pair rfl]
 generalize hG:glo P (run P (n+3))=G
 have c1:G.call "is_tuple_of" [t,.int 2,.int 2]=some (.bl (tupB 2 2 t)):=by rw [← hG];exact e2
 have hno:tupB 2 2 t=false→resultOf (evSs G d_is_pair.body [.val (tabT nm cs (.tup (ks.map .str)) rules),.val t,.no])=some (.bl false):=fun ht=>by
  unfold d_is_pair
  dsimp only
  rw [ht] at c1
  rw [ite_yes (t:=.bl false) rfl (by simp [evE,evEs,view,Sl.get,c1,truT]) rfl (by simp [evE])]
  rfl
 match t,hb,c1,hno with
 | .non,_,_,hno=>exact hno rfl
 | .bl _,_,_,hno=>exact hno rfl
 | .int _,_,_,hno=>exact hno rfl
 | .str _,_,_,hno=>exact hno rfl
 | .lst _,_,_,hno=>exact hno rfl
 | .tup [],_,_,hno=>exact hno rfl
 | .tup [_],_,_,hno=>exact hno rfl
 | .tup (_::_::_::r),_,_,hno=>exact hno (by simp [tupB];omega)
 | .tup [a,b],hb,c1,_ =>
  have hb':=bd_tup hb
  have hbb:bd b=true:=hb'.2 b (by simp)
  have c2:G.call "column_of" [tabT nm cs (.tup (ks.map .str)) rules,a]=some (colT (colOf cs a)):=by rw [← hG];exact column_run h.col (n+2) nm (.tup (ks.map .str)) rules cs a
  have c1':G.call "is_tuple_of" [.tup [a,b],.int 2,.int 2]=some (.bl true):=c1
  show resultOf (evSs G d_is_pair.body [.val (tabT nm cs (.tup (ks.map .str)) rules),.val (.tup [a,b]),.no])=_
  unfold d_is_pair
  dsimp only
  generalize hT:tabT nm cs (.tup (ks.map .str)) rules=X at *
  have i0:idxT (.tup [a,b]) (.int 0)=some a:=by rw [idxT,getI0]
  have i1:idxT (.tup [a,b]) (.int 1)=some b:=by rw [idxT,getI1]
  cases hi:isK ks a with
  | true =>
   rw [ite_yes (t:=.bl false) rfl (by simp [evE,evEs,view,Sl.get,c1',truT,hk,i0,cmpT,isK_in,hi]) rfl (by simp [evE])]
   simp [resultOf,pairB,hi]
  | false =>
   rw [ite_no rfl (by simp [evE,evEs,view,Sl.get,c1',truT,hk,i0,cmpT,isK_in,hi])]
   rw [nx_of (asg_of (τ0:=[.val X,.val (.tup [a,b]),.no]) (t:=colT (colOf cs a)) (τ':=[.val X,.val (.tup [a,b]),.val (colT (colOf cs a))]) rfl (by simp [evE,evEs,view,Sl.get,i0,c2]) rfl)]
   cases ho:colOf cs a with
   | none =>
    rw [ret0 (t:=.bl false) rfl (by simp [evE,evEs,view,Sl.get,notN_T,colT,nonB])]
    simp [resultOf,pairB,ho]
   | some c =>
    have c3:G.call "may_stand" [c.t,b]=some (.bl (mayB c b)):=by rw [← hG];exact may_run h n c hbb
    have hnc:nonB c.t=false:=rfl
    rw [ret0 (t:=.bl (mayB c b)) rfl (by simp [evE,evEs,view,Sl.get,notN_T,colT,hnc,i1,c3])]
    simp [resultOf,pairB,ho,hi]
theorem pairB_hd {cs:List Col} {ks:List Str} {t:T} (h:pairB cs ks t=true):∃ x r,t=.tup (.str x::r):=by
 match t,h with
 | .tup [a,b],h =>
  rw [pairB,Bool.and_eq_true] at h
  cases a with
  | str x=>exact ⟨x,_,rfl⟩
  | _=>exact absurd h.2 (by simp [colOf])
theorem lenSet_run {cs:List Col} {ks:List Str} {xs:List T} (hl:xs.length≤3) (h:xs.all (pairB cs ks)=true):bltT .lenSet (.lst (xs.map hdT))=some (.int ((xs.map hdT).foldl dedT []).length):=by
 have hk:(xs.map hdT).all keyT=true:=by
  rw [List.all_eq_true]
  intro y hy
  obtain ⟨x,hx,rfl⟩:=List.mem_map.mp hy
  obtain ⟨z,r,rfl⟩:=pairB_hd (List.all_eq_true.mp h x hx)
  rfl
 show lenSetT _=_
 unfold lenSetT
 rw [if_pos (by rw [hk,Bool.true_and,decide_eq_true_eq,List.length_map];omega)]
theorem heads_ev {G:Glo} {cs:List Col} {ks:List Str} {xs:List T} {src:List E} {r:Env} (hl:xs.length≤3) (h:xs.all (pairB cs ks)=true) (hs:evEs G src r=some [.tup xs]):evE G (.comp (.idx (.var 0) (.cst (.int 0))) 1 .plain src none) r=some (.lst (xs.map hdT)):=by
 have hz:xs.length≤16777216:=by omega
 refine comp_all (enc:=fun t:T=>t) (l:=xs) (its:=xs) (xs:=[.tup xs]) hs (by simp [itemsC,items,hz]) (by simp) hdT (fun x hx=>?_)
 obtain ⟨z,q,rfl⟩:=pairB_hd (List.all_eq_true.mp h x hx)
 simp [evE,idxT,getI0,hdT]
theorem are_pairs_run {P:Pr} (h:Prog P) (n:Nat) (nm rules:T) (cs:List Col) (ks:List Str) {t:T} (hb:bd t=true):run P (n+5) "are_pairs" [tabT nm cs (.tup (ks.map .str)) rules,t]=some (.bl (pairsB cs ks t)):=by
 have e2:=tup_run h.tup (n+3) 1 3 t
 rw [run_succ h.pairs rfl]
 generalize hG:glo P (run P (n+4))=G
 have c1:G.call "is_tuple_of" [t,.int 1,.int 3]=some (.bl (tupB 1 3 t)):=by rw [← hG];exact e2
 show resultOf (evSs G d_are_pairs.body [.val (tabT nm cs (.tup (ks.map .str)) rules),.val t])=_
 unfold d_are_pairs
 dsimp only
 cases ht:tupB 1 3 t with
 | false =>
  rw [ht] at c1
  rw [ite_yes (t:=.bl false) rfl (by simp [evE,evEs,view,Sl.get,c1,truT]) rfl (by simp [evE])]
  have:pairsB cs ks t=false:=by
   cases t with
   | tup xs =>
    by_cases hx:1≤xs.length
    ·have hx3:¬ xs.length≤3:=by intro hx3;simp [tupB] at ht;omega
     simp [pairsB,hx3]
    ·simp [pairsB,hx]
   | _=>rfl
  rw [this];rfl
 | true =>
  obtain ⟨xs,rfl⟩:∃ xs,t=.tup xs:=by cases t with | tup xs=>exact ⟨xs,rfl⟩ | _=>cases ht
  have hb':=bd_tup hb
  have hx:1≤xs.length∧xs.length≤3:=by simp [tupB] at ht;omega
  have hz:xs.length≤16777216:=by omega
  rw [ht] at c1
  have hc:evE G (.comp (.call "is_pair" [.var 1,.var 0]) 1 .plain [.var 1] none) (view [.val (tabT nm cs (.tup (ks.map .str)) rules),.val (.tup xs)])=some (.lst (xs.map fun x=>.bl (pairB cs ks x))) :=
   comp_all (enc:=fun t:T=>t) (l:=xs) (its:=xs) (xs:=[.tup xs]) (by simp [evEs,evE,view,Sl.get]) (by simp [itemsC,items,hz]) (by simp) (fun x=>.bl (pairB cs ks x)) (fun x hx=>by
    have e:G.call "is_pair" [tabT nm cs (.tup (ks.map .str)) rules,x]=some (.bl (pairB cs ks x)):=by rw [← hG];exact is_pair_run h n nm rules cs ks (hb'.2 x hx)
    simp [evE,evEs,view,Sl.get,e])
  have ha:evE G (.blt .all (.comp (.call "is_pair" [.var 1,.var 0]) 1 .plain [.var 1] none)) (view [.val (tabT nm cs (.tup (ks.map .str)) rules),.val (.tup xs)])=some (.bl (xs.all (pairB cs ks))):=by
   rw [evE_blt,hc,Option.bind_some,all_map]
  have hcond:evE G (.lor (.lnot (.tru (.call "is_tuple_of" [.var 1,.cst (.int 1),.cst (.int 3)]))) (.lnot (.tru (.blt .all (.comp (.call "is_pair" [.var 1,.var 0]) 1 .plain [.var 1] none))))) (view [.val (tabT nm cs (.tup (ks.map .str)) rules),.val (.tup xs)])=some (.bl (!xs.all (pairB cs ks))):=by
   have h1:evE G (.lnot (.tru (.call "is_tuple_of" [.var 1,.cst (.int 1),.cst (.int 3)]))) (view [.val (tabT nm cs (.tup (ks.map .str)) rules),.val (.tup xs)])=some (.bl false):=by simp [evE,evEs,view,Sl.get,c1,truT]
   have h2:evE G (.lnot (.tru (.blt .all (.comp (.call "is_pair" [.var 1,.var 0]) 1 .plain [.var 1] none)))) (view [.val (tabT nm cs (.tup (ks.map .str)) rules),.val (.tup xs)])=some (.bl (!xs.all (pairB cs ks))):=by
    rw [evE,evE,ha]
    cases xs.all (pairB cs ks)<;>rfl
   rw [evE,h1,h2]
   rfl
  cases hal:xs.all (pairB cs ks) with
  | false =>
   rw [hal] at hcond
   rw [ite_yes (t:=.bl false) rfl hcond rfl (by simp [evE])]
   simp [resultOf,pairsB,hal]
  | true =>
   rw [hal] at hcond
   rw [ite_no rfl hcond]
   have hh:=heads_ev (G:=G) (src:=[.var 1]) (r:=view [.val (tabT nm cs (.tup (ks.map .str)) rules),.val (.tup xs)]) hx.2 hal (by simp [evEs,evE,view,Sl.get])
   have hs:=lenSet_run hx.2 hal
   have e3:G.call "are_unlike" [.lst (xs.map hdT)]=some (.bl (unl (xs.map hdT))):=by
    rw [← hG]
    show run P (n+4) _ _=_
    rw [run_succ h.unlike rfl]
    show resultOf (evSs _ d_are_unlike.body [.val (.lst (xs.map hdT))])=_
    unfold d_are_unlike
    dsimp only
    rw [ret0 (t:=.bl (unl (xs.map hdT))) rfl (by
     have hln:bltT .len (.lst (xs.map hdT))=some (.int ((xs.map hdT).length:Int)):=rfl
     simp only [evE,view,Sl.get,List.map_cons,List.map_nil,List.getElem?_cons_zero,Option.join_some,Option.bind_some,hs,hln,cmpT,eqI,unl])]
    rfl
   rw [ret0 (t:=.bl (unl (xs.map hdT))) rfl (by
    rw [evE,evEs,hh]
    simp only [evEs,Option.bind_some,e3])]
   simp [resultOf,pairsB,hal,hx]
theorem tabO_cons (c:Tb) (S:List Tb) (t:T):tabO (c::S) t=if eqT (.str c.nm) t then some c else tabO S t:=by
 unfold tabO
 rw [List.find?_cons]
 cases eqT (.str c.nm) t<;>rfl
theorem tab_loop {G:Glo} (tb t:T):∀ (S:List Tb) (s2:Sl),∃ s2',loopM (fun x τ=>(bndS [2] x τ).bind fun τ'=>evSs G [.ite (.cmp .eq (.idx (.var 2) (.cst (.int 0))) (.var 1)) [.ret (.var 2)] []] τ') (S.map Tb.t) [.val tb,.val t,s2] =
  some (match tabO S t with | some c=>.rt c.t | none=>.nx [.val tb,.val t,s2'])
 | [],s2=>⟨s2,rfl⟩
 | c::cs,s2=>by
  obtain ⟨s2',ih⟩:=tab_loop tb t cs (.val c.t)
  refine ⟨s2',?_⟩
  have hi:idxT c.t (.int 0)=some (.str c.nm):=by rw [Tb.t,bareT_tab,tabT,idxT,getI0]
  rw [List.map_cons,loopM,tabO_cons]
  cases he:eqT (.str c.nm) t with
  | true =>
   have:((bndS [2] c.t [Sl.val tb,.val t,s2]).bind fun τ'=>evSs G [.ite (.cmp .eq (.idx (.var 2) (.cst (.int 0))) (.var 1)) [.ret (.var 2)] []] τ')=some (.rt c.t):=ite_yes (τ:=[.val tb,.val t,.val c.t]) rfl (by simp [evE,view,Sl.get,hi,cmpT,eqAny',he]) rfl (by simp [evE,view,Sl.get])
   rw [this]
   rfl
  | false =>
   have:((bndS [2] c.t [Sl.val tb,.val t,s2]).bind fun τ'=>evSs G [.ite (.cmp .eq (.idx (.var 2) (.cst (.int 0))) (.var 1)) [.ret (.var 2)] []] τ')=some (.nx [.val tb,.val t,.val c.t]):=(ite_no (τ:=[.val tb,.val t,.val c.t]) rfl (by simp [evE,view,Sl.get,hi,cmpT,eqAny',he])).trans rfl
   rw [this]
   exact ih
noncomputable def tbT:Option Tb→T
 | none=>.non
 | some b=>b.t
theorem table_run {P:Pr} (h:Prog P) (n:Nat) (S:List Tb) (t:T):run P (n+1) "table_of" [.tup (S.map Tb.t),t]=some (tbT (tabO S t)):=by
 rw [run_succ h.tab rfl]
 obtain ⟨s2',e⟩:=tab_loop (G:=glo P (run P n)) (.tup (S.map Tb.t)) t S .no
 show resultOf (evSs (glo P (run P n)) d_table_of.body [.val (.tup (S.map Tb.t)),.val t,.no])=_
 unfold d_table_of
 dsimp only
 have hl:∀ o,loopM (fun x τ=>(bndS [2] x τ).bind fun τ'=>evSs (glo P (run P n)) [.ite (.cmp .eq (.idx (.var 2) (.cst (.int 0))) (.var 1)) [.ret (.var 2)] []] τ') (S.map Tb.t) [Sl.val (.tup (S.map Tb.t)),.val t,.no]=some o →
   evS (glo P (run P n)) (.loop [2] .plain [.var 0] [.ite (.cmp .eq (.idx (.var 2) (.cst (.int 0))) (.var 1)) [.ret (.var 2)] []]) [Sl.val (.tup (S.map Tb.t)),.val t,.no]=some o:=fun o ho =>
  loop_of (τ0:=[Sl.val (.tup (S.map Tb.t)),.val t,.no]) (xs:=[.tup (S.map Tb.t)]) rfl (by simp [evEs,evE,view,Sl.get]) (by simp only [items]) ho
 cases hc:tabO S t with
 | some c=>rw [hc] at e;rw [rt_of (hl _ e)];rfl
 | none=>rw [hc] at e;rw [nx_of (hl _ e),ret0 (t:=.non) rfl (by simp [evE])];rfl
theorem col_some {cs:List Col} {ks:List Str} (h:∀ x∈ks,∃ c∈cs,c.n=x):∀ k∈ks,∃ c,colOf cs (.str k)=some c:=fun k hk=>by
 obtain ⟨c,hc,e⟩:=h k hk
 show ∃ d,(cs.find? fun c=>c.n==k)=some d
 rw [← Option.isSome_iff_exists,List.find?_isSome]
 exact ⟨c,hc,by rw [e];simp⟩
theorem is_deed_run {P:Pr} (h:Prog P) (n:Nat) (S:List Tb) (hS:∀ b∈S,b.ok) {t:T} (hb:bd t=true):run P (n+6) "is_deed" [.tup (S.map Tb.t),t]=some (.bl (deedB S t)):=by
 have e2:=tup_run h.tup (n+4) 3 4 t
 rw [run_succ h.deed rfl]
 generalize hG:glo P (run P (n+5))=G
 generalize hX:T.tup (S.map Tb.t)=X
 have c1:G.call "is_tuple_of" [t,.int 3,.int 4]=some (.bl (tupB 3 4 t)):=by rw [← hG];exact e2
 have ct:∀ t,G.call "table_of" [X,t]=some (tbT (tabO S t)):=fun t=>by rw [← hG,← hX];exact table_run h (n+4) S t
 have cr:∀ b∈S,∀ y,bd y=true→G.call "is_row" [b.t,y]=some (.bl (rowB b.cs y)):=fun b hm y hy=>by rw [← hG];exact is_row_run h (n+1) (.str b.nm) (.tup (b.key.map .str)) (.tup (b.rs.map Rl.t)) b.cs (hS b hm).cl hy
 have ck:∀ b∈S,∀ y,bd y=true→G.call "are_worths_of_key" [b.t,y]=some (.bl (keyB b.cs b.key y)):=fun b hm y hy=>by rw [← hG];exact key_run h (n+1) (.str b.nm) (.tup (b.rs.map Rl.t)) b.cs b.key (by have:=(hS b hm).k1;omega) (col_some (hS b hm).inn) hy
 have cp:∀ b∈S,∀ y,bd y=true→G.call "are_pairs" [b.t,y]=some (.bl (pairsB b.cs b.key y)):=fun b hm y hy=>by rw [← hG];exact are_pairs_run h n (.str b.nm) (.tup (b.rs.map Rl.t)) b.cs b.key hy
 show resultOf (evSs G d_is_deed.body [.val X,.val t,.no])=_
 have hno:tupB 3 4 t=false→resultOf (evSs G d_is_deed.body [.val X,.val t,.no])=some (.bl false):=fun ht=>by
  unfold d_is_deed
  dsimp only
  rw [ht] at c1
  rw [ite_yes (t:=.bl false) rfl (by simp [evE,evEs,view,Sl.get,c1,truT]) rfl (by simp [evE])]
  rfl
 have hno':∀ {b:Tb},nonB b.t=false:=rfl
 match t,hb,c1,hno with
 | .non,_,_,hno=>exact hno rfl
 | .bl _,_,_,hno=>exact hno rfl
 | .int _,_,_,hno=>exact hno rfl
 | .str _,_,_,hno=>exact hno rfl
 | .lst _,_,_,hno=>exact hno rfl
 | .tup [],_,_,hno=>exact hno rfl
 | .tup [_],_,_,hno=>exact hno rfl
 | .tup [_,_],_,_,hno=>exact hno rfl
 | .tup (_::_::_::_::_::r),_,_,hno=>exact hno (by simp [tupB];omega)
 | .tup [a,x,y],hb,c1,_ =>
  have hb':=bd_tup hb
  have c1':G.call "is_tuple_of" [.tup [a,x,y],.int 3,.int 4]=some (.bl true):=c1
  have i0:idxT (.tup [a,x,y]) (.int 0)=some a:=by rw [idxT,getI0]
  have i1:idxT (.tup [a,x,y]) (.int 1)=some x:=by rw [idxT,getI1]
  have i2:idxT (.tup [a,x,y]) (.int 2)=some y:=by rw [idxT,getI2]
  have hl:bltT .len (.tup [a,x,y])=some (.int 3):=rfl
  unfold d_is_deed
  dsimp only
  rw [ite_no rfl (by simp [evE,evEs,view,Sl.get,c1',truT])]
  rw [nx_of (asg_of (τ0:=[.val X,.val (.tup [a,x,y]),.no]) (t:=tbT (tabO S x)) (τ':=[.val X,.val (.tup [a,x,y]),.val (tbT (tabO S x))]) rfl (by simp [evE,evEs,view,Sl.get,i1,ct]) rfl)]
  cases ho:tabO S x with
  | none =>
   rw [ite_yes (t:=.bl false) rfl (by simp [evE,view,Sl.get,isN_T,tbT,nonB]) rfl (by simp [evE])]
   simp [resultOf,deedB,ho]
  | some b =>
   have hm:b∈S:=List.mem_of_find?_eq_some ho
   have cr':=cr b hm y (hb'.2 y (by simp))
   have ck':=ck b hm y (hb'.2 y (by simp))
   rw [ite_no rfl (by simp [evE,view,Sl.get,isN_T,tbT,hno'])]
   cases h1:eqT a (.str "set") with
   | true =>
    rw [ite_yes (t:=.bl false) rfl (by simp [evE,view,Sl.get,i0,cmpT,eqAny,h1]) rfl (by simp [evE,view,Sl.get,hl,cmpT,eqI])]
    simp [resultOf,deedB,ho,h1]
   | false =>
    rw [ite_no rfl (by simp [evE,view,Sl.get,i0,cmpT,eqAny,h1]),ite_no rfl (by simp [evE,view,Sl.get,hl,cmpT,neI])]
    cases h2:eqT a (.str "add") with
    | true =>
     rw [ite_yes (t:=.bl (rowB b.cs y)) rfl (by simp [evE,view,Sl.get,i0,cmpT,eqAny,h2]) rfl (by simp [evE,evEs,view,Sl.get,i2,tbT,cr'])]
     simp [resultOf,deedB,ho,h1,h2]
    | false =>
     rw [ite_no rfl (by simp [evE,view,Sl.get,i0,cmpT,eqAny,h2])]
     rw [ret0 (t:=.bl (eqT a (.str "drop")&&keyB b.cs b.key y)) rfl (by
      cases h3:eqT a (.str "drop")<;>simp [evE,evEs,view,Sl.get,i0,i2,cmpT,eqAny,h3,tbT,ck'])]
     simp [resultOf,deedB,ho,h1,h2]
 | .tup [a,x,y,z],hb,c1,_ =>
  have hb':=bd_tup hb
  have c1':G.call "is_tuple_of" [.tup [a,x,y,z],.int 3,.int 4]=some (.bl true):=c1
  have i0:idxT (.tup [a,x,y,z]) (.int 0)=some a:=by rw [idxT,getI0]
  have i1:idxT (.tup [a,x,y,z]) (.int 1)=some x:=by rw [idxT,getI1]
  have i2:idxT (.tup [a,x,y,z]) (.int 2)=some y:=by rw [idxT,getI2]
  have i3:idxT (.tup [a,x,y,z]) (.int 3)=some z:=getI_nat (xs:=[a,x,y,z]) (k:=3) rfl
  have hl:bltT .len (.tup [a,x,y,z])=some (.int 4):=rfl
  unfold d_is_deed
  dsimp only
  rw [ite_no rfl (by simp [evE,evEs,view,Sl.get,c1',truT])]
  rw [nx_of (asg_of (τ0:=[.val X,.val (.tup [a,x,y,z]),.no]) (t:=tbT (tabO S x)) (τ':=[.val X,.val (.tup [a,x,y,z]),.val (tbT (tabO S x))]) rfl (by simp [evE,evEs,view,Sl.get,i1,ct]) rfl)]
  cases ho:tabO S x with
  | none =>
   rw [ite_yes (t:=.bl false) rfl (by simp [evE,view,Sl.get,isN_T,tbT,nonB]) rfl (by simp [evE])]
   simp [resultOf,deedB,ho]
  | some b =>
   have hm:b∈S:=List.mem_of_find?_eq_some ho
   have ck':=ck b hm y (hb'.2 y (by simp))
   have cp':=cp b hm z (hb'.2 z (by simp))
   rw [ite_no rfl (by simp [evE,view,Sl.get,isN_T,tbT,hno'])]
   cases h1:eqT a (.str "set") with
   | true =>
    rw [ite_yes (t:=.bl (keyB b.cs b.key y&&pairsB b.cs b.key z)) rfl (by simp [evE,view,Sl.get,i0,cmpT,eqAny,h1]) rfl (by
     cases hk:keyB b.cs b.key y<;>rw [hk] at ck'<;>simp [evE,evEs,view,Sl.get,hl,cmpT,eqI,i2,i3,tbT,ck',cp'])]
    simp [resultOf,deedB,ho,h1]
   | false =>
    rw [ite_no rfl (by simp [evE,view,Sl.get,i0,cmpT,eqAny,h1]),ite_yes (t:=.bl false) rfl (by simp [evE,view,Sl.get,hl,cmpT,neI]) rfl (by simp [evE])]
    simp [resultOf,deedB,ho,h1]
structure Lawg (P:Pr):Prop where
 names:P.fn "_law_names"=some d_law_names
 lin:P.fn "_law_in"=some d_law_in
 kind:P.fn "_law_kind"=some d_law_kind
 worth:P.fn "_law_is_worth"=some d_law_is_worth
 from':P.fn "_law_from"=some d_law_from
 table:P.fn "_law_table"=some d_law_table
 may:P.fn "_law_may"=some d_law_may
 key:P.fn "_law_is_key"=some d_law_is_key
 pairs:P.fn "_law_are_pairs"=some d_law_are_pairs
 deed:P.fn "_law_is_deed"=some d_law_is_deed
theorem lmay_run {P:Pr} (h:Lawg P) (n:Nat) {c:Col} (hk:c.k="whole"∨c.k="text") {t:T} (hb:bd t=true):run P (n+3) "_law_may" [c.t,t]=some (.bl (mayB c t)):=by
 have e:=lworth_run h.worth h.from' n hk hb
 rw [run_succ h.may rfl]
 generalize hG:glo P (run P (n+2))=G
 have c1:G.call "_law_is_worth" [t,.str c.k]=some (.bl (worthT c.k t)):=by rw [← hG];exact e
 have i1:idxT c.t (.int 1)=some (.str c.k):=by rw [Col.t,idxT,getI1]
 have i2:idxT c.t (.int 2)=some (.bl c.g):=by rw [Col.t,idxT,getI2]
 show resultOf (evSs G d_law_may.body [.val c.t,.val t])=_
 unfold d_law_may
 dsimp only
 rw [ret0 (t:=.bl (mayB c t)) rfl (by
  cases hn:nonB t<;>cases hg:c.g<;>simp [evE,evEs,view,Sl.get,isN_T,notN_T,hn,i1,i2,hg,c1,mayB])]
 rfl
theorem kd_some {cs:List Col} {x:Str} {c:Col} (h:colOf cs (.str x)=some c):kd cs x=c.k:=by unfold kd;rw [h]
theorem lkey_run {P:Pr} (h:Lawg P) (n:Nat) (nm rules:T) (cs:List Col) (hl:cs.length≤4) (hkk:∀ c∈cs,c.k="whole"∨c.k="text") (ks:List Str) (hkl:ks.length≤4) (hk:∀ k∈ks,∃ c,colOf cs (.str k)=some c) {t:T} (hb:bd t=true):run P (n+3) "_law_is_key" [tabT nm cs (.tup (ks.map .str)) rules,t]=some (.bl (keyB cs ks t)):=by
 rw [run_succ h.key rfl]
 generalize hG:glo P (run P (n+2))=G
 have i2:idxT (tabT nm cs (.tup (ks.map .str)) rules) (.int 2)=some (.tup (ks.map .str)):=by rw [tabT,idxT,getI2]
 show resultOf (evSs G d_law_is_key.body [.val (tabT nm cs (.tup (ks.map .str)) rules),.val t])=_
 unfold d_law_is_key
 dsimp only
 cases t with
 | tup xs =>
  have hb':=bd_tup hb
  by_cases hx:xs.length=ks.length
  ·have hc:evE G (.comp (.cst (.int 0)) 2 .zip [.idx (.var 0) (.cst (.int 2)),.var 1] (some (.lnot (.tru (.call "_law_is_worth" [.var 1,.call "_law_kind" [.var 2,.var 0]]))))) (view [.val (tabT nm cs (.tup (ks.map .str)) rules),.val (.tup xs)])=some (.lst ((ks.zip xs).filterMap fun p=>if !worthT (kd cs p.1) p.2 then some (.int 0) else none)) :=
    comp_zif (e1:=fun p:Str × T=>.str p.1) (e2:=fun p=>p.2) (l:=ks.zip xs) (xs:=[.tup (ks.map .str),.tup xs]) (by simp [evEs,evE,view,Sl.get,i2]) (items_zip T.str ks xs hkl rfl) rfl (fun p=>!worthT (kd cs p.1) p.2) (fun _=>.int 0) (fun p hp=>by
     obtain ⟨c,hc⟩:=hk p.1 (zip_snd hp).1
     have e1:G.call "_law_kind" [tabT nm cs (.tup (ks.map .str)) rules,.str p.1]=some (.str (kd cs p.1)):=by rw [← hG,kd_some hc];exact lkind_run h.kind (n+1) nm (.tup (ks.map .str)) rules cs hl hc
     have e2:G.call "_law_is_worth" [p.2,.str (kd cs p.1)]=some (.bl (worthT (kd cs p.1) p.2)):=by
      rw [← hG];exact lworth_run h.worth h.from' n (by rw [kd_some hc];exact hkk c (List.mem_of_find?_eq_some hc)) (hb'.2 _ (zip_snd hp).2)
     simp [evE,evEs,view,Sl.get,e1,e2,truT]) (fun p _=>by simp [evE])
   rw [ite_no rfl (by simp [evE,view,Sl.get,isiT,truT,bltT,cmpT,neI,hx,i2])]
   rw [ret0 (t:=.bl (keyB cs ks (.tup xs))) rfl (by
    rw [evE,hc,Option.bind_some]
    simp only [evE,evEs,List.length_nil,Option.map_some,Nat.zero_le,if_true,Option.bind_some,cmpT]
    rw [eqL0 (fun p:Str × T=>!worthT (kd cs p.1) p.2) (fun _=>T.int 0)]
    simp [keyB,hx])]
   rfl
  ·have hx':((xs.length:Int)==(ks.length:Int))=false:=by simp;omega
   rw [ite_yes (t:=.bl false) rfl (by simp [evE,view,Sl.get,isiT,truT,bltT,cmpT,neI,hx',i2]) rfl (by simp [evE])]
   simp [resultOf,keyB,hx]
 | _ =>
  rw [ite_yes (t:=.bl false) rfl (by simp [evE,view,Sl.get,isiT,truT]) rfl (by simp [evE])]
  rfl
theorem find_head {α:Type} (p:α→Bool) (v:α→T):∀ {l:List α} {a:α},l.find? p=some a→∃ r,(l.filterMap fun a=>if p a then some (v a) else none)=v a::r
 | [],_,h=>by cases h
 | b::l,a,h=>by
  rw [List.find?_cons] at h
  cases hp:p b with
  | true=>rw [hp] at h;cases h;exact ⟨_,by rw [List.filterMap_cons,hp];rfl⟩
  | false =>
   rw [hp] at h
   obtain ⟨r,e⟩:=find_head p v h
   exact ⟨r,by rw [List.filterMap_cons,hp];exact e⟩
noncomputable def pbody:List S:=[.ite (.lor (.lnot (.tru (.isi (.var 2) .ttup))) (.lor (.cmp .ne (.blt .len (.var 2)) (.cst (.int 2))) (.lnot (.tru (.call "_law_in" [.idx (.var 2) (.cst (.int 0)),.call "_law_names" [.var 0]]))))) [.ret (.cst (.bl false))] [],
  .asg 3 (.idx (.comp (.var 0) 1 .plain [.idx (.var 0) (.cst (.int 1))] (some (.cmp .eq (.idx (.var 0) (.cst (.int 0))) (.idx (.var 3) (.cst (.int 0)))))) (.cst (.int 0))),
  .ite (.lor (.cmp .isin (.idx (.var 2) (.cst (.int 0))) (.idx (.var 0) (.cst (.int 2)))) (.lnot (.tru (.call "_law_may" [.var 3,.idx (.var 2) (.cst (.int 1))])))) [.ret (.cst (.bl false))] []]
theorem pair_step {P:Pr} (h:Lawg P) (n:Nat) (nm rules:T) (cs:List Col) (hl:cs.length≤4) (hkk:∀ c∈cs,c.k="whole"∨c.k="text") (ks:List Str) (Y:T) {x:T} (hb:bd x=true) (s3:Sl) :
  ∃ s3',evSs (glo P (run P (n+3))) pbody [.val (tabT nm cs (.tup (ks.map .str)) rules),.val Y,.val x,s3]=some (if pairB cs ks x then .nx [.val (tabT nm cs (.tup (ks.map .str)) rules),.val Y,.val x,s3'] else .rt (.bl false)):=by
 have i2:idxT (tabT nm cs (.tup (ks.map .str)) rules) (.int 2)=some (.tup (ks.map .str)):=by rw [tabT,idxT,getI2]
 have i1:idxT (tabT nm cs (.tup (ks.map .str)) rules) (.int 1)=some (.tup (cs.map Col.t)):=by rw [tabT,idxT,getI1]
 generalize hG:glo P (run P (n+3))=G
 have cn:G.call "_law_names" [tabT nm cs (.tup (ks.map .str)) rules]=some (.lst ((nms cs).map .str)):=by rw [← hG];exact lnames_run h.names (n+2) nm (.tup (ks.map .str)) rules cs hl
 have ci:∀ a,G.call "_law_in" [a,.lst ((nms cs).map .str)]=some (.bl (colOf cs a).isSome):=fun a=>by rw [← hG];exact lin_run h.lin (n+2) a cs
 have cm:∀ c∈cs,∀ b,bd b=true→G.call "_law_may" [c.t,b]=some (.bl (mayB c b)):=fun c hc b hb=>by rw [← hG];exact lmay_run h n (hkk c hc) hb
 generalize hX:tabT nm cs (.tup (ks.map .str)) rules=X at *
 have no1:∀ t,isiT t .ttup=false→evSs G pbody [.val X,.val Y,.val t,s3]=some (.rt (.bl false)):=fun t ht=>by
  unfold pbody
  exact ite_yes rfl (by simp [evE,view,Sl.get,ht,truT]) rfl (by simp [evE])
 have no2:∀ xs:List T,((xs.length:Int)==2)=false→evSs G pbody [.val X,.val Y,.val (.tup xs),s3]=some (.rt (.bl false)):=fun xs ht=>by
  unfold pbody
  exact ite_yes rfl (by simp [evE,view,Sl.get,isiT,truT,bltT,cmpT,neI,ht]) rfl (by simp [evE])
 match x,hb with
 | .non,_=>exact ⟨.no,no1 _ rfl⟩
 | .bl _,_=>exact ⟨.no,no1 _ rfl⟩
 | .int _,_=>exact ⟨.no,no1 _ rfl⟩
 | .str _,_=>exact ⟨.no,no1 _ rfl⟩
 | .lst _,_=>exact ⟨.no,no1 _ rfl⟩
 | .tup [],_=>exact ⟨.no,no2 _ rfl⟩
 | .tup [_],_=>exact ⟨.no,no2 _ rfl⟩
 | .tup (_::_::_::r),_=>exact ⟨.no,no2 _ (by simp;omega)⟩
 | .tup [a,b],hb =>
  have hb':=bd_tup hb
  have j0:idxT (.tup [a,b]) (.int 0)=some a:=by rw [idxT,getI0]
  have j1:idxT (.tup [a,b]) (.int 1)=some b:=by rw [idxT,getI1]
  have hln:bltT .len (.tup [a,b])=some (.int 2):=rfl
  cases ho:colOf cs a with
  | none =>
   have ci':=ci a
   rw [ho] at ci'
   refine ⟨.no,?_⟩
   rw [show pairB cs ks (.tup [a,b])=false by simp [pairB,ho]]
   unfold pbody
   exact ite_yes rfl (by simp [evE,evEs,view,Sl.get,isiT,truT,hln,cmpT,neI,j0,cn,ci']) rfl (by simp [evE])
  | some c =>
   have ci':=ci a
   rw [ho] at ci'
   obtain ⟨z,rfl⟩:∃ z,a=.str z:=by cases a with | str z=>exact ⟨z,rfl⟩ | _=>cases ho
   have hcm:c∈cs:=List.mem_of_find?_eq_some ho
   have cm':=cm c hcm b (hb'.2 b (by simp))
   have hz:cs.length≤16777216:=by omega
   obtain ⟨r,er⟩:=find_head (fun c:Col=>c.n==z) Col.t (l:=cs) ho
   have hc:evE G (.comp (.var 0) 1 .plain [.idx (.var 0) (.cst (.int 1))] (some (.cmp .eq (.idx (.var 0) (.cst (.int 0))) (.idx (.var 3) (.cst (.int 0)))))) (view [.val X,.val Y,.val (.tup [.str z,b]),s3])=some (.lst (c.t::r)):=by
    rw [← er]
    exact comp_if (enc:=Col.t) (l:=cs) (xs:=[.tup (cs.map Col.t)]) (by simp [evEs,evE,view,Sl.get,i1]) (by simp [itemsC,items,hz]) rfl (fun c=>c.n==z) Col.t (fun c _=>by
     have:idxT c.t (.int 0)=some (.str c.n):=by rw [Col.t,idxT,getI0]
     simp [evE,view,Sl.get,this,j0,cmpT,eqAny,eqTS]) (fun c _=>by simp [evE])
   refine ⟨.val c.t,?_⟩
   unfold pbody
   rw [ite_no rfl (by simp [evE,evEs,view,Sl.get,isiT,truT,hln,cmpT,neI,j0,cn,ci'])]
   rw [nx_of (asg_of (τ0:=[.val X,.val Y,.val (.tup [.str z,b]),s3]) (t:=c.t) (τ':=[.val X,.val Y,.val (.tup [.str z,b]),.val c.t]) rfl (by
    rw [evE,hc,Option.bind_some]
    simp [evE,idxT,getI0]) rfl)]
   cases hi:isK ks (.str z) with
   | true =>
    rw [show pairB cs ks (.tup [.str z,b])=false by simp [pairB,hi]]
    exact ite_yes rfl (by simp [evE,evEs,view,Sl.get,j0,i2,cmpT,isK_in,hi]) rfl (by simp [evE])
   | false =>
    rw [show pairB cs ks (.tup [.str z,b])=mayB c b by simp [pairB,hi,ho]]
    cases hm:mayB c b with
    | true =>
     rw [hm] at cm'
     exact (ite_no rfl (by simp [evE,evEs,view,Sl.get,j0,j1,i2,cmpT,isK_in,hi,cm',truT])).trans rfl
    | false =>
     rw [hm] at cm'
     exact ite_yes rfl (by simp [evE,evEs,view,Sl.get,j0,j1,i2,cmpT,isK_in,hi,cm',truT]) rfl (by simp [evE])
theorem pair_loop {P:Pr} (h:Lawg P) (n:Nat) (nm rules:T) (cs:List Col) (hl:cs.length≤4) (hkk:∀ c∈cs,c.k="whole"∨c.k="text") (ks:List Str) (Y:T):∀ (xs:List T) (s2 s3:Sl),(∀ x∈xs,bd x=true) →
  ∃ s2' s3',loopM (fun x τ=>(bndS [2] x τ).bind fun τ'=>evSs (glo P (run P (n+3))) pbody τ') xs [.val (tabT nm cs (.tup (ks.map .str)) rules),.val Y,s2,s3]=some (if xs.all (pairB cs ks) then .nx [.val (tabT nm cs (.tup (ks.map .str)) rules),.val Y,s2',s3'] else .rt (.bl false))
 | [],s2,s3,_=>⟨s2,s3,rfl⟩
 | x::xs,s2,s3,hb=>by
  obtain ⟨t3,e⟩:=pair_step h n nm rules cs hl hkk ks Y (hb x List.mem_cons_self) s3
  obtain ⟨s2',s3',ih⟩:=pair_loop h n nm rules cs hl hkk ks Y xs (.val x) t3 fun y hy=>hb y (List.mem_cons_of_mem _ hy)
  refine ⟨s2',s3',?_⟩
  rw [loopM]
  have e':((bndS [2] x [.val (tabT nm cs (.tup (ks.map .str)) rules),.val Y,s2,s3]).bind fun τ'=>evSs (glo P (run P (n+3))) pbody τ')=_:=e
  rw [e',List.all_cons]
  cases pairB cs ks x with
  | true=>exact ih
  | false=>rfl
theorem lpairs_run {P:Pr} (h:Lawg P) (n:Nat) (nm rules:T) (cs:List Col) (hl:cs.length≤4) (hkk:∀ c∈cs,c.k="whole"∨c.k="text") (ks:List Str) {t:T} (hb:bd t=true):run P (n+4) "_law_are_pairs" [tabT nm cs (.tup (ks.map .str)) rules,t]=some (.bl (pairsB cs ks t)):=by
 rw [run_succ h.pairs rfl]
 show resultOf (evSs (glo P (run P (n+3))) d_law_are_pairs.body [.val (tabT nm cs (.tup (ks.map .str)) rules),.val t,.no,.no])=_
 have eb:d_law_are_pairs.body=[.ite (.lor (.lnot (.tru (.isi (.var 1) .ttup))) (.lnot (.chn .le .le (.cst (.int 1)) (.blt .len (.var 1)) (.cst (.int 3))))) [.ret (.cst (.bl false))] [],.loop [2] .plain [.var 1] pbody,.ret (.cmp .eq (.blt .lenSet (.comp (.idx (.var 0) (.cst (.int 0))) 1 .plain [.var 1] none)) (.blt .len (.var 1)))]:=rfl
 rw [eb]
 cases t with
 | tup xs =>
  have hb':=bd_tup hb
  by_cases h1:1≤xs.length
  ·have h1':(1:Int)≤(xs.length:Int):=by omega
   by_cases h3:xs.length≤3
   ·have h3':(xs.length:Int)≤3:=by omega
    rw [ite_no rfl (by simp [evE,view,Sl.get,isiT,truT,bltT,cmpT,leC,h1',h3'])]
    obtain ⟨s2',s3',e⟩:=pair_loop h n nm rules cs hl hkk ks (.tup xs) xs .no .no hb'.2
    have hlp:∀ o,loopM (fun x τ=>(bndS [2] x τ).bind fun τ'=>evSs (glo P (run P (n+3))) pbody τ') xs [.val (tabT nm cs (.tup (ks.map .str)) rules),.val (.tup xs),.no,.no]=some o→evS (glo P (run P (n+3))) (.loop [2] .plain [.var 1] pbody) [.val (tabT nm cs (.tup (ks.map .str)) rules),.val (.tup xs),.no,.no]=some o:=fun o ho =>
     loop_of (τ0:=[.val (tabT nm cs (.tup (ks.map .str)) rules),.val (.tup xs),.no,.no]) (xs:=[.tup xs]) rfl (by simp [evEs,evE,view,Sl.get]) (by simp only [items]) ho
    cases ha:xs.all (pairB cs ks) with
    | true =>
     rw [ha] at e
     rw [nx_of (hlp _ e)]
     have hh:=heads_ev (G:=glo P (run P (n+3))) (src:=[.var 1]) (r:=view [.val (tabT nm cs (.tup (ks.map .str)) rules),.val (.tup xs),s2',s3']) h3 ha (by simp [evEs,evE,view,Sl.get])
     have hs:=lenSet_run h3 ha
     rw [ret0 (t:=.bl (unl (xs.map hdT))) rfl (by
      rw [evE,evE_blt,hh,Option.bind_some,hs,Option.bind_some,evE_blt,evE_var]
      have hln:bltT .len (.tup xs)=some (.int ((xs.map hdT).length:Int)):=by rw [List.length_map];rfl
      simp only [view,Sl.get,List.map_cons,List.getElem?_cons_succ,List.getElem?_cons_zero,Option.join_some,Option.bind_some,hln,cmpT,eqI,unl])]
     simp [resultOf,pairsB,ha,h1,h3]
    | false =>
     rw [ha] at e
     rw [rt_of (hlp _ e)]
     simp [resultOf,pairsB,ha]
   ·have h3':¬ (xs.length:Int)≤3:=by omega
    rw [ite_yes (t:=.bl false) rfl (by simp [evE,view,Sl.get,isiT,truT,bltT,cmpT,leC,h1',h3']) rfl (by simp [evE])]
    simp [resultOf,pairsB,h3]
  ·have h1':¬ (1:Int)≤(xs.length:Int):=by omega
   rw [ite_yes (t:=.bl false) rfl (by simp [evE,view,Sl.get,isiT,truT,bltT,cmpT,leC,h1']) rfl (by simp [evE])]
   simp [resultOf,pairsB,h1]
 | _ =>
  rw [ite_yes (t:=.bl false) rfl (by simp [evE,view,Sl.get,isiT,truT]) rfl (by simp [evE])]
  rfl
theorem tin_run {P:Pr} (h:P.fn "_law_in"=some d_law_in) (n:Nat) (t:T) (S:List Tb):run P (n+1) "_law_in" [t,.lst ((S.map (·.nm)).map .str)]=some (.bl (tabO S t).isSome):=by
 rw [run_succ h rfl]
 cases t with
 | str x =>
  have e:((S.map (·.nm)).any fun y=>y==x)=(tabO S (.str x)).isSome:=by
   induction S with
   | nil=>rfl
   | cons c S ih =>
    rw [List.map_cons,List.any_cons,tabO_cons,ih,eqTS]
    cases (c.nm==x)<;>rfl
  have i:=inL_str x (S.map (·.nm))
  rw [e] at i
  show resultOf (evSs (glo P (run P n)) d_law_in.body [.val (.str x),.val (.lst ((S.map (·.nm)).map .str))])=_
  generalize T.lst ((S.map (·.nm)).map .str)=L at i ⊢
  unfold d_law_in
  dsimp only
  rw [ret0 (t:=.bl (tabO S (.str x)).isSome) rfl (by simp [evE,view,Sl.get,isiT,cmpT,i])]
  rfl
 | _ =>
  have e:∀ t:T,(∀ x,eqT (.str x) t=false)→tabO S t=none:=fun t ht=>by
   unfold tabO
   rw [List.find?_eq_none]
   intro b _
   rw [ht];simp
  rw [e _ (fun x=>by simp [eqT])]
  rfl
theorem ltab_run {P:Pr} (h:P.fn "_law_table"=some d_law_table) (n:Nat) (S:List Tb) (hS:S.length≤4) {t:T} {b:Tb} (ho:tabO S t=some b):run P (n+1) "_law_table" [.tup (S.map Tb.t),t]=some b.t:=by
 have hz:S.length≤16777216:=by omega
 rw [run_succ h rfl]
 obtain ⟨r,er⟩:=find_head (fun b:Tb=>eqT (.str b.nm) t) Tb.t (l:=S) ho
 show resultOf (evSs (glo P (run P n)) d_law_table.body [.val (.tup (S.map Tb.t)),.val t])=_
 unfold d_law_table
 dsimp only
 have hc:evE (glo P (run P n)) (.comp (.var 0) 1 .plain [.var 0] (some (.cmp .eq (.idx (.var 0) (.cst (.int 0))) (.var 2)))) (view [.val (.tup (S.map Tb.t)),.val t])=some (.lst (b.t::r)):=by
  rw [← er]
  exact comp_if (enc:=Tb.t) (l:=S) (xs:=[.tup (S.map Tb.t)]) (by simp [evEs,evE,view,Sl.get]) (by simp [itemsC,items,hz]) rfl (fun b=>eqT (.str b.nm) t) Tb.t (fun c _=>by
   have:idxT c.t (.int 0)=some (.str c.nm):=by rw [Tb.t,bareT_tab,tabT,idxT,getI0]
   simp [evE,view,Sl.get,this,cmpT,eqAny']) (fun c _=>by simp [evE])
 rw [ret0 (t:=b.t) rfl (by rw [evE,hc,Option.bind_some];simp [evE,idxT,getI0])]
 rfl
theorem w4 (w:Str):((w==("add":Str))=true∧(w==("drop":Str))=false∧(w==("set":Str))=false)∨((w==("add":Str))=false∧(w==("drop":Str))=true∧(w==("set":Str))=false) ∨
  ((w==("add":Str))=false∧(w==("drop":Str))=false∧(w==("set":Str))=true)∨((w==("add":Str))=false∧(w==("drop":Str))=false∧(w==("set":Str))=false):=by
 by_cases h1:w="add"
 ·subst h1;exact .inl (by decide +kernel)
 by_cases h2:w="drop"
 ·subst h2;exact .inr (.inl (by decide +kernel))
 by_cases h3:w="set"
 ·subst h3;exact .inr (.inr (.inl (by decide +kernel)))
 refine .inr (.inr (.inr ⟨?_,?_,?_⟩))
 all_goals simpa using ‹_›
theorem lis_deed_run {P:Pr} (h:Lawg P) (n:Nat) (S:List Tb) (hSl:S.length≤4) (hS:∀ b∈S,b.ok) {t:T} (hb:bd t=true):run P (n+5) "_law_is_deed" [.tup (S.map Tb.t),t]=some (.bl (deedB S t)):=by
 have hz:S.length≤16777216:=by omega
 rw [run_succ h.deed rfl]
 show resultOf (evSs (glo P (run P (n+4))) d_law_is_deed.body [.val (.tup (S.map Tb.t)),.val t,.no,.no])=_
 generalize hG:glo P (run P (n+4))=G
 have ci:∀ x,G.call "_law_in" [x,.lst ((S.map (·.nm)).map .str)]=some (.bl (tabO S x).isSome):=fun x=>by rw [← hG];exact tin_run h.lin (n+3) x S
 have ct:∀ x b,tabO S x=some b→G.call "_law_table" [.tup (S.map Tb.t),x]=some b.t:=fun x b ho=>by rw [← hG];exact ltab_run h.table (n+3) S hSl ho
 have ck:∀ b∈S,∀ y,bd y=true→G.call "_law_is_key" [b.t,y]=some (.bl (keyB b.cs b.key y)):=fun b hm y hy=>by rw [← hG];exact lkey_run h (n+1) (.str b.nm) (.tup (b.rs.map Rl.t)) b.cs (hS b hm).cl (hS b hm).kk b.key (by have:=(hS b hm).k1;omega) (col_some (hS b hm).inn) hy
 have cp:∀ b∈S,∀ y,bd y=true→G.call "_law_are_pairs" [b.t,y]=some (.bl (pairsB b.cs b.key y)):=fun b hm y hy=>by rw [← hG];exact lpairs_run h n (.str b.nm) (.tup (b.rs.map Rl.t)) b.cs (hS b hm).cl (hS b hm).kk b.key hy
 have cm:∀ b∈S,∀ c∈b.cs,∀ w,bd w=true→G.call "_law_may" [c.t,w]=some (.bl (mayB c w)):=fun b hm c hc w hw=>by rw [← hG];exact lmay_run h (n+1) ((hS b hm).kk c hc) hw
 have hcl:∀ r,evE G (.comp (.idx (.var 0) (.cst (.int 0))) 1 .plain [.var 0] none) (view (.val (.tup (S.map Tb.t))::r))=some (.lst ((S.map (·.nm)).map .str)):=fun r=>by
  rw [List.map_map]
  exact comp_all (enc:=Tb.t) (l:=S) (xs:=[.tup (S.map Tb.t)]) (by simp [evEs,evE,view,Sl.get]) (by simp [itemsC,items,hz]) rfl (fun b=>.str b.nm) (fun c _=>by
   have:idxT c.t (.int 0)=some (.str c.nm):=by rw [Tb.t,bareT_tab,tabT,idxT,getI0]
   simp [evE,this])
 generalize hX:T.tup (S.map Tb.t)=X at *
 have no1:∀ t,isiT t .ttup=false→evSs G d_law_is_deed.body [.val X,.val t,.no,.no]=some (.rt (.bl false)):=fun t ht=>by
  unfold d_law_is_deed
  exact ite_yes rfl (by simp [evE,view,Sl.get,ht,truT]) rfl (by simp [evE])
 have no2:∀ xs:List T,xs.length<3→evSs G d_law_is_deed.body [.val X,.val (.tup xs),.no,.no]=some (.rt (.bl false)):=fun xs ht=>by
  have ht':(xs.length:Int)<3:=by omega
  unfold d_law_is_deed
  exact ite_yes rfl (by simp [evE,view,Sl.get,isiT,truT,bltT,cmpT,ltC,ht']) rfl (by simp [evE])
 match t,hb with
 | .non,_=>rw [no1 _ rfl];rfl
 | .bl _,_=>rw [no1 _ rfl];rfl
 | .int _,_=>rw [no1 _ rfl];rfl
 | .str _,_=>rw [no1 _ rfl];rfl
 | .lst _,_=>rw [no1 _ rfl];rfl
 | .tup [],_=>rw [no2 _ (by simp)];rfl
 | .tup [_],_=>rw [no2 _ (by simp)];rfl
 | .tup [_,_],_=>rw [no2 _ (by simp)];rfl
 | .tup (a::x::y::r),hb =>
  have hb':=bd_tup hb
  have i0:idxT (.tup (a::x::y::r)) (.int 0)=some a:=by rw [idxT,getI0]
  have i1:idxT (.tup (a::x::y::r)) (.int 1)=some x:=by rw [idxT,getI1]
  have i2:idxT (.tup (a::x::y::r)) (.int 2)=some y:=by rw [idxT,getI2]
  have hln:bltT .len (.tup (a::x::y::r))=some (.int ((r.length:Int)+3)):=by
   show some (T.int (((a::x::y::r).length:Nat):Int))=_
   congr 2
  have hlt:¬ ((r.length:Int)+3<3):=by omega
  rcases str_or a with ⟨w,rfl⟩ | ⟨ha,ha'⟩
  ·generalize hY:T.tup (.str w::x::y::r)=Y at *
   have hYt:isiT Y .ttup=true:=by rw [← hY];rfl
   have e1:evE G (.lor (.lnot (.tru (.isi (.var 1) .ttup))) (.lor (.cmp .lt (.blt .len (.var 1)) (.cst (.int 3))) (.lnot (.tru (.isi (.idx (.var 1) (.cst (.int 0))) .tstr))))) (view [.val X,.val Y,.no,.no])=some (.bl false):=by
    have:isiT (.str w) .tstr=true:=rfl
    simp [evE,view,Sl.get,hYt,truT,hln,cmpT,ltC,hlt,i0,this]
   have e2:evE G (.lnot (.tru (.call "_law_in" [.idx (.var 1) (.cst (.int 1)),.comp (.idx (.var 0) (.cst (.int 0))) 1 .plain [.var 0] none]))) (view [.val X,.val Y,.no,.no])=some (.bl (!(tabO S x).isSome)):=by
    rw [evE,evE,evE,evEs,evEs,hcl]
    simp only [evE,evEs,view,Sl.get,List.map_cons,List.map_nil,List.getElem?_cons_succ,List.getElem?_cons_zero,Option.join_some,Option.bind_some,i1,ci,truT,Option.map_some]
   unfold d_law_is_deed
   dsimp only
   rw [ite_no rfl e1]
   cases ho:tabO S x with
   | none =>
    rw [ho] at e2
    rw [ite_yes (t:=.bl false) rfl e2 rfl (by simp [evE])]
    have:deedB S Y=false:=by
     rw [← hY]
     match r with
     | []=>simp [deedB,ho]
     | [z]=>simp [deedB,ho]
     | _::_::_=>rfl
    rw [this];rfl
   | some b =>
    rw [ho] at e2
    have hm:b∈S:=List.mem_of_find?_eq_some ho
    have bo:=hS b hm
    have hy:bd y=true:=hb'.2 y (by simp)
    have j1:idxT b.t (.int 1)=some (.tup (b.cs.map Col.t)):=by rw [Tb.t,bareT_tab,tabT,idxT,getI1]
    have ck':=ck b hm y hy
    rw [ite_no rfl e2]
    rw [nx_of (asg_of (τ0:=[.val X,.val Y,.no,.no]) (t:=b.t) (τ':=[.val X,.val Y,.val b.t,.no]) rfl (by simp [evE,evEs,view,Sl.get,i1,ct x b ho]) rfl)]
    have l3:r=[]∨((r.length:Int)+3==3)=false:=by
     cases r with
     | nil=>exact .inl rfl
     | cons _ _=>right;simp;omega
    have d3:deedB S (.tup [.str w,x,y])=if w=="set" then false else if w=="add" then rowB b.cs y else (w=="drop")&&keyB b.cs b.key y:=by simp only [deedB,ho,eqTS]
    have d4:∀ z,deedB S (.tup [.str w,x,y,z])=((w=="set")&&(keyB b.cs b.key y&&pairsB b.cs b.key z)):=fun z=>by simp only [deedB,ho,eqTS]
    have far:(w==("set":Str))=false∨((r.length:Int)+3==4)=false→evSs G [.ite (.lor (.cmp .ne (.idx (.var 1) (.cst (.int 0))) (.cst (.str "set"))) (.cmp .ne (.blt .len (.var 1)) (.cst (.int 4)))) [.ret (.cst (.bl false))] [],
  .ret (.land (.call "_law_is_key" [.var 2,.idx (.var 1) (.cst (.int 2))]) (.call "_law_are_pairs" [.var 2,.idx (.var 1) (.cst (.int 3))]))] [.val X,.val Y,.val b.t,.no]=some (.rt (.bl false)):=fun hq=>by
        refine ite_yes rfl ?_ rfl (by simp [evE])
        rcases hq with hq | hq
        ·simp [evE,view,Sl.get,i0,cmpT,neS,hq]
        ·cases hw:(w==("set":Str))<;>simp [evE,view,Sl.get,i0,cmpT,neS,hw,hln,neI,hq]
    have noadd:(w==("add":Str))=false∨((r.length:Int)+3==3)=false→∀ (u ss:List Ev.S),evSs G (.ite (.land (.cmp .eq (.idx (.var 1) (.cst (.int 0))) (.cst (.str "add"))) (.cmp .eq (.blt .len (.var 1)) (.cst (.int 3)))) u []::ss) [.val X,.val Y,.val b.t,.no]=evSs G ss [.val X,.val Y,.val b.t,.no]:=fun hq u ss=>by
     refine ite_no rfl ?_
     rcases hq with hq | hq
     ·simp [evE,view,Sl.get,i0,cmpT,eqAny,eqTS,hq]
     ·cases hw:(w==("add":Str))<;>simp [evE,view,Sl.get,i0,cmpT,eqAny,eqTS,hw,hln,eqI,hq]
    have nodrop:(w==("drop":Str))=false∨((r.length:Int)+3==3)=false→∀ (u ss:List Ev.S),evSs G (.ite (.land (.cmp .eq (.idx (.var 1) (.cst (.int 0))) (.cst (.str "drop"))) (.cmp .eq (.blt .len (.var 1)) (.cst (.int 3)))) u []::ss) [.val X,.val Y,.val b.t,.no]=evSs G ss [.val X,.val Y,.val b.t,.no]:=fun hq u ss=>by
     refine ite_no rfl ?_
     rcases hq with hq | hq
     ·simp [evE,view,Sl.get,i0,cmpT,eqAny,eqTS,hq]
     ·cases hw:(w==("drop":Str))<;>simp [evE,view,Sl.get,i0,cmpT,eqAny,eqTS,hw,hln,eqI,hq]
    rcases w4 w with ⟨q1,q2,q3⟩ | ⟨q1,q2,q3⟩ | ⟨q1,q2,q3⟩ | ⟨q1,q2,q3⟩
    ·rcases l3 with rfl | hr
     ·have hadd:evE G (.land (.cmp .eq (.idx (.var 1) (.cst (.int 0))) (.cst (.str "add"))) (.cmp .eq (.blt .len (.var 1)) (.cst (.int 3)))) (view [.val X,.val Y,.val b.t,.no])=some (.bl true):=by
       simp [evE,view,Sl.get,i0,cmpT,eqAny,eqTS,q1,hln,eqI]
      have hgo:evSs G [.asg 3 (.idx (.var 1) (.cst (.int 2))),
  .ite (.lor (.lnot (.tru (.isi (.var 3) .ttup))) (.cmp .ne (.blt .len (.var 3)) (.blt .len (.idx (.var 2) (.cst (.int 1)))))) [.ret (.cst (.bl false))] [],
  .ret (.cmp .eq (.comp (.var 0) 2 .zip [.idx (.var 2) (.cst (.int 1)),.var 3] (some (.lnot (.tru (.call "_law_may" [.var 0,.var 1]))))) (.lst []))] [.val X,.val Y,.val b.t,.no]=some (.rt (.bl (rowB b.cs y))):=by
       rw [nx_of (asg_of (τ0:=[.val X,.val Y,.val b.t,.no]) (t:=y) (τ':=[.val X,.val Y,.val b.t,.val y]) rfl (by simp [evE,view,Sl.get,i2]) rfl)]
       cases y with
       | tup xs =>
        have hyb:=bd_tup hy
        by_cases hx:xs.length=b.cs.length
        ·have hc:evE G (.comp (.var 0) 2 .zip [.idx (.var 2) (.cst (.int 1)),.var 3] (some (.lnot (.tru (.call "_law_may" [.var 0,.var 1]))))) (view [.val X,.val Y,.val b.t,.val (.tup xs)])=some (.lst ((b.cs.zip xs).filterMap fun p=>if !mayB p.1 p.2 then some p.1.t else none)) :=
          comp_zif (e1:=fun p:Col × T=>p.1.t) (e2:=fun p=>p.2) (l:=b.cs.zip xs) (xs:=[.tup (b.cs.map Col.t),.tup xs]) (by simp [evEs,evE,view,Sl.get,j1]) (items_zip Col.t b.cs xs bo.cl rfl) rfl (fun p=>!mayB p.1 p.2) (fun p=>p.1.t) (fun p hp=>by
           have e:=cm b hm p.1 (zip_snd hp).1 p.2 (hyb.2 _ (zip_snd hp).2)
           simp [evE,evEs,e,truT]) (fun p _=>by simp [evE])
         rw [ite_no rfl (by simp [evE,view,Sl.get,isiT,truT,bltT,cmpT,neI,hx,j1])]
         refine ret0 rfl ?_
         rw [evE,hc,Option.bind_some]
         simp only [evE,evEs,List.length_nil,Option.map_some,Nat.zero_le,if_true,Option.bind_some,cmpT]
         rw [eqL0 (fun p:Col × T=>!mayB p.1 p.2) (fun p=>p.1.t)]
         simp [rowB,hx]
        ·have hx':((xs.length:Int)==(b.cs.length:Int))=false:=by simp;omega
         rw [ite_yes (t:=.bl false) rfl (by simp [evE,view,Sl.get,isiT,truT,bltT,cmpT,neI,hx',j1]) rfl (by simp [evE])]
         simp [rowB,hx]
       | _=>exact ite_yes rfl (by simp [evE,view,Sl.get,isiT,truT]) rfl (by simp [evE,rowB])
      rw [ite_go rfl hadd hgo,← hY,d3,q1,q3]
      rfl
     ·rw [noadd (.inr hr),nodrop (.inr hr),far (.inl q3),← hY]
      match r,hr with
      | [z],_=>rw [d4,q3];rfl
      | _::_::_,_=>rfl
    ·rw [noadd (.inl q1)]
     rcases l3 with rfl | hr
     ·rw [ite_yes (t:=.bl (keyB b.cs b.key y)) rfl (by simp [evE,view,Sl.get,i0,cmpT,eqAny,eqTS,q2,hln,eqI]) rfl (by simp [evE,evEs,view,Sl.get,i2,ck']),← hY,d3,q1,q2,q3]
      rfl
     ·rw [nodrop (.inr hr),far (.inl q3),← hY]
      match r,hr with
      | [z],_=>rw [d4,q3];rfl
      | _::_::_,_=>rfl
    ·rw [noadd (.inl q1),nodrop (.inl q2)]
     match r,hY,hln,far with
     | [],hY,_,far=>rw [far (.inr rfl),← hY,d3,q3];rfl
     | [z],hY,hln,_ =>
      have i3:idxT Y (.int 3)=some z:=by rw [← hY];exact getI_nat (xs:=[.str w,x,y,z]) (k:=3) rfl
      have cp':=cp b hm z (hb'.2 z (by simp))
      have hln':bltT .len Y=some (.int 4):=hln
      rw [ite_no rfl (by simp [evE,view,Sl.get,i0,cmpT,neS,q3,hln',neI])]
      rw [ret0 (t:=.bl (keyB b.cs b.key y&&pairsB b.cs b.key z)) rfl (by
       cases hk:keyB b.cs b.key y<;>rw [hk] at ck'<;>simp [evE,evEs,view,Sl.get,i2,i3,ck',cp'])]
      rw [← hY,d4,q3];rfl
     | _::_::q,hY,_,far=>rw [far (.inr (by simp;omega)),← hY];rfl
    ·rw [noadd (.inl q1),nodrop (.inl q2),far (.inl q3),← hY]
     match r with
     | []=>rw [d3,q1,q2,q3];rfl
     | [z]=>rw [d4,q3];rfl
     | _::_::_=>rfl
  ·have hno:evSs G d_law_is_deed.body [.val X,.val (.tup (a::x::y::r)),.no,.no]=some (.rt (.bl false)):=by
    have hYt:isiT (.tup (a::x::y::r)) .ttup=true:=rfl
    generalize T.tup (a::x::y::r)=Y at *
    unfold d_law_is_deed
    exact ite_yes rfl (by simp [evE,view,Sl.get,hYt,truT,hln,cmpT,ltC,hlt,i0,ha]) rfl (by simp [evE])
   rw [hno]
   match r with
   | []=>simp only [deedB,ha'];cases tabO S x<;>rfl
   | [z]=>simp only [deedB,ha'];cases tabO S x<;>rfl
   | _::_::_=>rfl
theorem ite_nx {G:Glo} {c:E} {a b ss:List S} {τ τ':List Sl} (h0:frzAt (vars c) τ=τ) (h1:evE G c (view τ)=some (.bl true)) (h2:evSs G a τ=some (.nx τ')):evSs G (.ite c a b::ss) τ=evSs G ss τ' :=
 nx_of (by rw [evS,h0,h1];exact h2)
noncomputable def d_is_name:Fd:=⟨1,1,[.ret (.call "is_text_of" [.var 0,.cst (.int 1),.cst (.int 6),.glb "LETTERS"])]⟩
noncomputable def d_is_schema:Fd:=⟨1,1,[.ite (.lor (.lnot (.tru (.call "is_tuple_of" [.var 0,.cst (.int 1),.cst (.int 4)]))) (.lnot (.tru (.blt .all (.comp (.call "is_bare_table" [.var 0]) 1 .plain [.var 0] none))))) [.ret (.cst (.bl false))] [],
  .ite (.lnot (.tru (.call "are_unlike" [.comp (.idx (.var 0) (.cst (.int 0))) 1 .plain [.var 0] none]))) [.ret (.cst (.bl false))] [],
  .ret (.blt .all (.comp (.call "are_rules" [.var 1,.var 0]) 1 .plain [.var 0] none))]⟩
noncomputable def d_is_bare_table:Fd:=⟨1,1,[.ite (.lnot (.tru (.call "is_tuple_of" [.var 0,.cst (.int 4),.cst (.int 4)]))) [.ret (.cst (.bl false))] [],
  .ret (.land (.call "is_name" [.idx (.var 0) (.cst (.int 0))]) (.land (.call "are_columns" [.idx (.var 0) (.cst (.int 1))]) (.call "is_key" [.var 0,.idx (.var 0) (.cst (.int 2))])))]⟩
noncomputable def d_are_columns:Fd:=⟨1,1,[.ite (.lor (.lnot (.tru (.call "is_tuple_of" [.var 0,.cst (.int 1),.cst (.int 4)]))) (.lnot (.tru (.blt .all (.comp (.call "is_column" [.var 0]) 1 .plain [.var 0] none))))) [.ret (.cst (.bl false))] [],
  .ret (.call "are_unlike" [.comp (.idx (.var 0) (.cst (.int 0))) 1 .plain [.var 0] none])]⟩
noncomputable def d_is_column:Fd:=⟨1,1,[.ite (.lnot (.tru (.call "is_tuple_of" [.var 0,.cst (.int 3),.cst (.int 3)]))) [.ret (.cst (.bl false))] [],
  .ret (.land (.call "is_name" [.idx (.var 0) (.cst (.int 0))]) (.land (.cmp .isin (.idx (.var 0) (.cst (.int 1))) (.glb "KINDS")) (.isi (.idx (.var 0) (.cst (.int 2))) .tbool)))]⟩
noncomputable def d_is_key:Fd:=⟨2,2,[.ret (.land (.call "are_names_of_columns" [.var 0,.var 1]) (.lnot (.blt .any (.comp (.idx (.var 0) (.cst (.int 2))) 1 .plain [.call "columns_of" [.var 0,.var 1]] none))))]⟩
noncomputable def d_are_names_of_columns:Fd:=⟨2,2,[.ite (.lor (.lnot (.tru (.call "is_tuple_of" [.var 1,.cst (.int 1),.cst (.int 2)]))) (.cmp .isin (.cst .non) (.call "columns_of" [.var 0,.var 1]))) [.ret (.cst (.bl false))] [],
  .ret (.call "are_unlike" [.var 1])]⟩
noncomputable def d_are_rules:Fd:=⟨2,3,[.asg 2 (.idx (.var 1) (.cst (.int 3))),
  .ret (.land (.call "is_tuple_of" [.var 2,.cst (.int 0),.cst (.int 3)]) (.blt .all (.comp (.call "is_rule" [.var 1,.var 2,.var 0]) 1 .plain [.var 2] none)))]⟩
noncomputable def d_is_rule:Fd:=⟨3,3,[.ite (.tru (.call "is_tuple_of" [.var 2,.cst (.int 2),.cst (.int 2)])) [.ite (.cmp .eq (.idx (.var 2) (.cst (.int 0))) (.cst (.str "check"))) [.ret (.call "is_test" [.var 1,.idx (.var 2) (.cst (.int 1))])] [],
  .ret (.land (.cmp .eq (.idx (.var 2) (.cst (.int 0))) (.cst (.str "unlike"))) (.call "are_names_of_columns" [.var 1,.idx (.var 2) (.cst (.int 1))]))] [],
  .ret (.land (.call "is_tuple_of" [.var 2,.cst (.int 4),.cst (.int 4)]) (.land (.cmp .eq (.idx (.var 2) (.cst (.int 0))) (.cst (.str "refers"))) (.call "is_reference" [.var 0,.var 1,.var 2])))]⟩
noncomputable def d_is_reference:Fd:=⟨3,6,[.asg 3 (.idx (.var 2) (.cst (.int 1))),
  .asg 4 (.idx (.var 2) (.cst (.int 3))),
  .asg 5 (.call "table_of" [.var 0,.idx (.var 2) (.cst (.int 2))]),
  .ite (.lor (.cmp .isN (.var 5) (.cst .non)) (.lor (.cmp .notin (.var 4) (.glb "WAYS")) (.lnot (.tru (.call "are_names_of_columns" [.var 1,.var 3]))))) [.ret (.cst (.bl false))] [],
  .ite (.land (.cmp .eq (.var 4) (.cst (.str "gap"))) (.lnot (.tru (.blt .all (.comp (.idx (.var 0) (.cst (.int 2))) 1 .plain [.call "columns_of" [.var 1,.var 3]] none))))) [.ret (.cst (.bl false))] [],
  .ret (.cmp .eq (.call "kinds_of" [.var 1,.var 3]) (.call "kinds_of" [.var 5,.idx (.var 5) (.cst (.int 2))]))]⟩
noncomputable def d_law_is_name:Fd:=⟨1,1,[.ite (.lor (.lnot (.tru (.isi (.var 0) .tstr))) (.lnot (.chn .le .le (.cst (.int 1)) (.blt .len (.var 0)) (.cst (.int 6))))) [.ret (.cst (.bl false))] [],
  .ret (.cmp .eq (.comp (.var 0) 1 .plain [.var 0] (some (.lnot (.chn .le .le (.cst (.str "a")) (.var 0) (.cst (.str "z")))))) (.lst []))]⟩
noncomputable def d_law_are:Fd:=⟨2,2,[.ite (.lor (.lnot (.tru (.isi (.var 1) .ttup))) (.lnot (.chn .le .le (.cst (.int 1)) (.blt .len (.var 1)) (.cst (.int 2))))) [.ret (.cst (.bl false))] [],
  .ret (.land (.cmp .eq (.comp (.var 0) 1 .plain [.var 1] (some (.lnot (.tru (.call "_law_in" [.var 0,.call "_law_names" [.var 1]]))))) (.lst [])) (.cmp .eq (.blt .lenSet (.var 1)) (.blt .len (.var 1))))]⟩
noncomputable def d_law_is_bare:Fd:=⟨1,2,[.ite (.lor (.lnot (.tru (.isi (.var 0) .ttup))) (.lor (.cmp .ne (.blt .len (.var 0)) (.cst (.int 4))) (.lnot (.tru (.call "_law_is_name" [.idx (.var 0) (.cst (.int 0))]))))) [.ret (.cst (.bl false))] [],
  .ite (.lor (.lnot (.tru (.isi (.idx (.var 0) (.cst (.int 1))) .ttup))) (.lor (.lnot (.chn .le .le (.cst (.int 1)) (.blt .len (.idx (.var 0) (.cst (.int 1)))) (.cst (.int 4)))) (.lnot (.tru (.isi (.idx (.var 0) (.cst (.int 3))) .ttup))))) [.ret (.cst (.bl false))] [],
  .loop [1] .plain [.idx (.var 0) (.cst (.int 1))] [.ite (.lor (.lnot (.tru (.isi (.var 1) .ttup))) (.lor (.cmp .ne (.blt .len (.var 1)) (.cst (.int 3))) (.lnot (.tru (.call "_law_is_name" [.idx (.var 1) (.cst (.int 0))]))))) [.ret (.cst (.bl false))] [],
  .ite (.lor (.lnot (.tru (.call "_law_in" [.idx (.var 1) (.cst (.int 1)),.tup [.cst (.str "whole"),.cst (.str "text")]]))) (.lnot (.tru (.isi (.idx (.var 1) (.cst (.int 2))) .tbool)))) [.ret (.cst (.bl false))] []],
  .ite (.lor (.cmp .ne (.blt .lenSet (.call "_law_names" [.var 0])) (.blt .len (.idx (.var 0) (.cst (.int 1))))) (.lor (.lnot (.tru (.call "_law_are" [.var 0,.idx (.var 0) (.cst (.int 2))]))) (.cmp .gt (.blt .len (.idx (.var 0) (.cst (.int 3)))) (.cst (.int 3))))) [.ret (.cst (.bl false))] [],
  .ret (.cmp .eq (.comp (.var 0) 1 .plain [.idx (.var 0) (.cst (.int 1))] (some (.land (.cmp .isin (.idx (.var 0) (.cst (.int 0))) (.idx (.var 1) (.cst (.int 2)))) (.tru (.idx (.var 0) (.cst (.int 2))))))) (.lst []))]⟩
noncomputable def d_law_is_rule:Fd:=⟨3,5,[.ite (.lor (.lnot (.tru (.isi (.var 2) .ttup))) (.lor (.cmp .lt (.blt .len (.var 2)) (.cst (.int 2))) (.lnot (.tru (.isi (.idx (.var 2) (.cst (.int 0))) .tstr))))) [.ret (.cst (.bl false))] [],
  .ite (.cmp .isin (.idx (.var 2) (.cst (.int 0))) (.tup [.cst (.str "check"),.cst (.str "unlike")])) [.ite (.cmp .ne (.blt .len (.var 2)) (.cst (.int 2))) [.ret (.cst (.bl false))] [],
  .ite (.cmp .eq (.idx (.var 2) (.cst (.int 0))) (.cst (.str "check"))) [.ret (.call "_law_is_test" [.var 1,.idx (.var 2) (.cst (.int 1)),.cst (.int 4)])] [],
  .ret (.call "_law_are" [.var 1,.idx (.var 2) (.cst (.int 1))])] [],
  .ite (.lor (.cmp .ne (.idx (.var 2) (.cst (.int 0))) (.cst (.str "refers"))) (.lor (.cmp .ne (.blt .len (.var 2)) (.cst (.int 4))) (.lnot (.tru (.call "_law_are" [.var 1,.idx (.var 2) (.cst (.int 1))]))))) [.ret (.cst (.bl false))] [],
  .ite (.lor (.lnot (.tru (.call "_law_in" [.idx (.var 2) (.cst (.int 2)),.comp (.idx (.var 0) (.cst (.int 0))) 1 .plain [.var 0] none]))) (.lnot (.tru (.call "_law_in" [.idx (.var 2) (.cst (.int 3)),.tup [.cst (.str "stop"),.cst (.str "late"),.cst (.str "along"),.cst (.str "gap")]])))) [.ret (.cst (.bl false))] [],
  .asg 3 (.call "_law_table" [.var 0,.idx (.var 2) (.cst (.int 2))]),
  .ite (.cmp .ne (.comp (.call "_law_kind" [.var 2,.var 0]) 1 .plain [.idx (.var 2) (.cst (.int 1))] none) (.comp (.call "_law_kind" [.var 4,.var 0]) 1 .plain [.idx (.var 3) (.cst (.int 2))] none)) [.ret (.cst (.bl false))] [],
  .asg 4 (.comp (.var 0) 1 .plain [.idx (.var 1) (.cst (.int 1))] (some (.land (.cmp .isin (.idx (.var 0) (.cst (.int 0))) (.idx (.var 3) (.cst (.int 1)))) (.lnot (.tru (.idx (.var 0) (.cst (.int 2)))))))),
  .ret (.lor (.cmp .ne (.idx (.var 2) (.cst (.int 3))) (.cst (.str "gap"))) (.cmp .eq (.var 4) (.lst [])))]⟩
noncomputable def d_law_is_schema:Fd:=⟨1,2,[.ite (.lor (.lnot (.tru (.isi (.var 0) .ttup))) (.lnot (.chn .le .le (.cst (.int 1)) (.blt .len (.var 0)) (.cst (.int 4))))) [.ret (.cst (.bl false))] [],
  .ite (.cmp .ne (.comp (.var 0) 1 .plain [.var 0] (some (.lnot (.tru (.call "_law_is_bare" [.var 0]))))) (.lst [])) [.ret (.cst (.bl false))] [],
  .ite (.cmp .ne (.blt .lenSet (.comp (.idx (.var 0) (.cst (.int 0))) 1 .plain [.var 0] none)) (.blt .len (.var 0))) [.ret (.cst (.bl false))] [],
  .loop [1] .plain [.var 0] [.ite (.cmp .ne (.comp (.var 0) 1 .plain [.idx (.var 1) (.cst (.int 3))] (some (.lnot (.tru (.call "_law_is_rule" [.var 1,.var 2,.var 0]))))) (.lst [])) [.ret (.cst (.bl false))] []],
  .ret (.cst (.bl true))]⟩
theorem items_id {s:T} {xs:List T} (hs:s=.tup xs∨s=.lst xs) (hl:xs.length≤1000):itemsC .plain [s]=some xs:=by
 have hz:xs.length≤16777216:=by omega
 rcases hs with rfl | rfl<;>simp [itemsC,items,hz]
theorem any_map {α:Type} (g:α→Bool) (l:List α):bltT .any (.lst (l.map fun a=>T.bl (g a)))=some (.bl (l.any g)):=by
 simp only [bltT,boolsOf_map,Option.map_some,List.any_map]
 rfl
noncomputable def nameOk (x:Str):Bool:=decide (1≤x.length)&&(decide (x.length≤6)&&x.cps.toList.all fun c=>occ ⟨#[c]⟩ LT)
structure Pg2 (P:Pr):Prop where
 tup:P.fn "is_tuple_of"=some d_is_tuple_of
 text:P.fn "is_text_of"=some d_is_text_of
 worth:P.fn "is_worth"=some d_is_worth
 unlike:P.fn "are_unlike"=some d_are_unlike
 tab:P.fn "table_of"=some d_table_of
 col:P.fn "column_of"=some d_column_of
 cols:P.fn "columns_of"=some d_columns_of
 kinds:P.fn "kinds_of"=some d_kinds_of
 test:P.fn "is_test"=some d_is_test
 within:P.fn "is_test_within"=some d_is_test_within
 plain:P.fn "is_plain_test"=some d_is_plain_test
 name:P.fn "is_name"=some d_is_name
 schema:P.fn "is_schema"=some d_is_schema
 bare:P.fn "is_bare_table"=some d_is_bare_table
 columns:P.fn "are_columns"=some d_are_columns
 column:P.fn "is_column"=some d_is_column
 key:P.fn "is_key"=some d_is_key
 names:P.fn "are_names_of_columns"=some d_are_names_of_columns
 rules:P.fn "are_rules"=some d_are_rules
 rule:P.fn "is_rule"=some d_is_rule
 ref:P.fn "is_reference"=some d_is_reference
 c1:P.con "LETTERS"=some (.str LT)
 c2:P.con "FIGURES"=some (.str FG)
 c3:P.con "DEEPEST_TEST"=some (.int 4)
 c4:P.con "KINDS"=some (.tup [.str "whole",.str "text"])
 c5:P.con "WAYS"=some (.tup [.str "stop",.str "late",.str "along",.str "gap"])
structure Gc (c:Col):Prop where
 nm:nameOk c.n=true
 kk:c.k="whole"∨c.k="text"
section
variable {G:Glo} {e a b:E} {r:Env} {v:Bool}
theorem ev_ntru (h:evE G e r=some (.bl v)):evE G (.lnot (.tru e)) r=some (.bl (!v)):=by rw [evE,evE,h];rfl
end
theorem ded_le:∀ (l acc:List T),(l.foldl dedT acc).length≤acc.length+l.length
 | [],acc=>by simp
 | x::l,acc=>by
  have h1:=ded_le l (dedT acc x)
  have h2:(dedT acc x).length≤acc.length+1:=by unfold dedT;split<;>simp
  rw [List.foldl_cons,List.length_cons]
  omega
structure Bq where
 nm:Str
 cs:List Col
 key:List Str
 ru:T
noncomputable def Bq.t (b:Bq):T:=tabT (.str b.nm) b.cs (.tup (b.key.map .str)) b.ru
structure Bq.ok (b:Bq):Prop where
 nm:nameOk b.nm=true
 c1:1≤b.cs.length
 c4:b.cs.length≤4
 gc:∀ c∈b.cs,Gc c
 nd:(b.cs.map (·.n)).Nodup
 k1:1≤b.key.length
 k2:b.key.length≤2
 ki:∀ k∈b.key,∃ c,colOf b.cs (.str k)=some c
structure Lg2 (P:Pr):Prop where
 names:P.fn "_law_names"=some d_law_names
 table:P.fn "_law_table"=some d_law_table
 from':P.fn "_law_from"=some d_law_from
 inn:P.fn "_law_in"=some d_law_in
 name:P.fn "_law_is_name"=some d_law_is_name
 worth:P.fn "_law_is_worth"=some d_law_is_worth
 kind:P.fn "_law_kind"=some d_law_kind
 are:P.fn "_law_are"=some d_law_are
 test:P.fn "_law_is_test"=some d_law_is_test
 bare:P.fn "_law_is_bare"=some d_law_is_bare
 rule:P.fn "_law_is_rule"=some d_law_is_rule
 schema:P.fn "_law_is_schema"=some d_law_is_schema
theorem isi_tup (x:T):isiT x .ttup=true∧(∃ xs,x=.tup xs)∨isiT x .ttup=false∧(∀ a b,tupB a b x=false):=by
 cases x with
 | tup xs=>exact .inl ⟨rfl,xs,rfl⟩
 | _=>exact .inr ⟨rfl,fun _ _=>rfl⟩
mutual
noncomputable def wh:T→Bool
 | .str x=>ascii x&&decide (x.length≤1000)
 | .int i=>decide (i∈worthI)
 | .bl _=>true
 | .tup xs=>decide (xs.length≤4)&&whs xs
 | _=>false
noncomputable def whs:List T→Bool
 | []=>true
 | x::xs=>wh x&&whs xs
end
mutual
noncomputable def dep:T→Nat
 | .tup xs=>depS xs+1
 | .lst xs=>depS xs+1
 | _=>0
noncomputable def depS:List T→Nat
 | []=>0
 | x::xs=>max (dep x) (depS xs)
end
noncomputable def d_law_places_in:Fd:=⟨2,5,[.asg 2 (.lst [.var 1]),
  .ite (.tru (.isi (.var 0) .ttup)) [.loop [3,4] .enum [.var 0] [.asg 2 (.bin .add (.var 2) (.call "_law_places_in" [.var 4,.bin .add (.var 1) (.tup [.var 3])]))]] [],
  .ret (.var 2)]⟩
noncomputable def d_law_otherwise:Fd:=⟨2,3,[.ite (.tru (.isi (.var 0) .ttup)) [.asg 2 (.lst [.blt .toList (.var 0),.blt .toList (.var 0),.bin .add (.var 0) (.sli (.var 0) none (some (.cst (.int 1))))]),
  .ret (.idx (.bin .add (.var 2) (.lst [.sli (.var 0) (some (.cst (.int 1))) none,.lst [.var 0]])) (.bin .mod (.var 1) (.cst (.int 5))))] [],
  .ite (.tru (.isi (.var 0) .tbool)) [.ret (.idx (.lst [.blt .toInt (.var 0),.cst .non,.blt .toStr (.var 0)]) (.bin .mod (.var 1) (.cst (.int 3))))] [],
  .ite (.tru (.isi (.var 0) .tint)) [.asg 2 (.lst [.cst (.bl true),.cst .non,.blt .toStr (.var 0),.tup [.var 0]]),
  .ret (.idx (.bin .add (.var 2) (.lst [.bin .sub (.neg (.cst (.int 1))) (.var 0)])) (.bin .mod (.var 1) (.cst (.int 5))))] [],
  .ret (.idx (.lst [.cst .non,.tup [.var 0],.lst [.var 0],.cst (.str ""),.cst (.int 0)]) (.bin .mod (.var 1) (.cst (.int 5))))]⟩
noncomputable def d_law_lam:Fd:=⟨2,2,[.ret (.call "_law_otherwise" [.var 0,.bin .fdiv (.var 1) (.cst (.int 4096))])]⟩
noncomputable def d_law_put_at:Fd:=⟨3,5,[.ite (.cmp .eq (.var 1) (.tup [])) [.ret (.call ".lam" [.var 0,.var 2])] [],
  .asg 3 (.idx (.var 1) (.cst (.int 0))),
  .asg 4 (.call ".put" [.idx (.var 0) (.var 3),.sli (.var 1) (some (.cst (.int 1))) none,.var 2]),
  .ret (.bin .add (.bin .add (.sli (.var 0) none (some (.var 3))) (.tup [.var 4])) (.sli (.var 0) (some (.bin .add (.var 3) (.cst (.int 1)))) none))]⟩
noncomputable def d_law_bent:Fd:=⟨3,5,[.asg 3 (.call "_law_places_in" [.var 0,.tup []]),
  .asg 4 (.idx (.var 3) (.bin .mod (.var 1) (.blt .len (.var 3)))),
  .ret (.call ".put" [.var 0,.var 4,.var 1])]⟩
structure Bent (P:Pr):Prop where
 places:P.fn "_law_places_in"=some d_law_places_in
 other:P.fn "_law_otherwise"=some d_law_otherwise
 lam:P.fn ".lam"=some d_law_lam
 put:P.fn ".put"=some d_law_put_at
 spoilt:P.fn "_law_spoilt"=some d_law_bent
mutual
noncomputable def paths:T→List (List Nat)
 | .tup xs=>[]::pathsL xs 0
 | _=>[[]]
noncomputable def pathsL:List T→Nat→List (List Nat)
 | [],_=>[]
 | x::xs,i=>(paths x).map (i::·)++pathsL xs (i+1)
end
mutual
noncomputable def sz4:T→Bool
 | .tup xs=>decide (xs.length≤4)&&sz4s xs
 | _=>true
noncomputable def sz4s:List T→Bool
 | []=>true
 | x::xs=>sz4 x&&sz4s xs
end
theorem sz4_mem:∀ {xs:List T} {x:T},sz4s xs=true→x∈xs→sz4 x=true
 | y::xs,x,h,hx=>by
  rw [sz4s,Bool.and_eq_true] at h
  rcases List.mem_cons.mp hx with rfl | hx
  ·exact h.1
  ·exact sz4_mem h.2 hx
theorem dep_mem:∀ {xs:List T} {x:T},x∈xs→dep x≤depS xs
 | y::xs,x,hx=>by
  rw [depS]
  rcases List.mem_cons.mp hx with rfl | hx
  ·omega
  ·have:=dep_mem hx;omega
noncomputable def wy (w:List Nat):T:=.tup (w.map fun (i:Nat)=>T.int (i:Int))
theorem paths_no {t:T} (h:isiT t .ttup=false):paths t=[[]]:=by
 cases t with
 | tup xs=>cases h
 | _=>rfl
mutual
theorem paths_len:∀ (d:Nat) (t:T),dep t≤d→sz4 t=true→(paths t).length≤5 ^ d
 | 0,.tup xs,h,_=>by rw [dep] at h;omega
 | d+1,.tup xs,h,hz=>by
  rw [dep] at h
  rw [sz4,Bool.and_eq_true,decide_eq_true_eq] at hz
  have:=pathsL_len d xs 0 (by omega) hz.2
  rw [paths,List.length_cons,Nat.pow_succ]
  have h1:xs.length*5 ^ d≤4*5 ^ d:=Nat.mul_le_mul_right _ hz.1
  have h2:0<5 ^ d:=Nat.pow_pos (by decide)
  omega
 | d,.non,_,_=>Nat.pow_pos (by decide)
 | d,.bl _,_,_=>Nat.pow_pos (by decide)
 | d,.int _,_,_=>Nat.pow_pos (by decide)
 | d,.str _,_,_=>Nat.pow_pos (by decide)
 | d,.lst _,_,_=>Nat.pow_pos (by decide)
theorem pathsL_len:∀ (d:Nat) (xs:List T) (i:Nat),depS xs≤d→sz4s xs=true→(pathsL xs i).length≤xs.length*5 ^ d
 | d,[],i,_,_=>by rw [pathsL];simp
 | d,x::xs,i,h,hz=>by
  rw [depS] at h
  rw [sz4s,Bool.and_eq_true] at hz
  have h1:=paths_len d x (by omega) hz.1
  have h2:=pathsL_len d xs (i+1) (by omega) hz.2
  rw [pathsL,List.length_append,List.length_map,List.length_cons,Nat.succ_mul]
  omega
end
noncomputable def pbd:List S:=[.asg 2 (.bin .add (.var 2) (.call "_law_places_in" [.var 4,.bin .add (.var 1) (.tup [.var 3])]))]
theorem wy_add (w:List Nat) (i:Nat) (h:w.length≤1000):addT (wy w) (.tup [.int (i:Int)])=some (wy (w++[i])):=by
 unfold wy
 have hz:w.length+1≤16777216:=by omega
 simp [addT,SZ,hz]
theorem addL {a b:List T} (h:a.length+b.length≤16777216):addT (.lst a) (.lst b)=some (.lst (a++b)):=by
 rw [addT,if_pos (show _≤SZ from h)]
theorem pl_loop {G:Glo} (t:T) (w:List Nat) (hw:w.length≤1000):∀ (xs:List T) (i:Nat) (acc:List T) (s3 s4:Sl),(∀ x∈xs,∀ j:Nat,G.call "_law_places_in" [x,wy (w++[j])]=some (.lst ((paths x).map fun p=>wy (w++[j]++p))))→acc.length+(pathsL xs i).length≤16777216 →
  ∃ s3' s4',loopM (fun x τ=>(bndS [3,4] x τ).bind fun τ'=>evSs G pbd τ') (enumT xs i) [.val t,.val (wy w),.own acc,s3,s4]=some (.nx [.val t,.val (wy w),.own (acc++(pathsL xs i).map fun p=>wy (w++p)),s3',s4'])
 | [],i,acc,s3,s4,_,_=>⟨s3,s4,by rw [enumT,loopM,pathsL];simp⟩
 | x::xs,i,acc,s3,s4,hc,hz=>by
  rw [pathsL,List.length_append,List.length_map] at hz
  obtain ⟨s3',s4',ih⟩:=pl_loop t w hw xs (i+1) (acc++(paths x).map fun p=>wy (w++[i]++p)) (.val (.int (i:Int))) (.val x) (fun y hy=>hc y (List.mem_cons_of_mem _ hy)) (by rw [List.length_append,List.length_map];omega)
  refine ⟨s3',s4',?_⟩
  have e:=hc x List.mem_cons_self i
  have ea:=wy_add w i hw
  have hz':acc.length+((paths x).map fun p=>wy (w++[i]++p)).length≤16777216:=by rw [List.length_map];omega
  have el:=addL hz'
  rw [enumT,loopM,show ((bndS [3,4] (T.tup [.int (i:Int),x]) [Sl.val t,.val (wy w),.own acc,s3,s4]).bind fun τ'=>evSs G pbd τ')=evSs G pbd [.val t,.val (wy w),.own acc,.val (.int (i:Int)),.val x] from rfl]
  unfold pbd
  rw [nx_of (asg_of (τ0:=[.val t,.val (wy w),.val (.lst acc),.val (.int (i:Int)),.val x]) (t:=.lst (acc++(paths x).map fun p=>wy (w++[i]++p))) (τ':=[.val t,.val (wy w),.own (acc++(paths x).map fun p=>wy (w++[i]++p)),.val (.int (i:Int)),.val x]) rfl (by
   simp only [evE,evEs,view,Sl.get,List.map_cons,List.map_nil,List.getElem?_cons_succ,List.getElem?_cons_zero,Option.join_some,Option.bind_some,List.length_cons,List.length_nil,Nat.zero_add,Nat.reduceLeDiff,if_true,Option.map_some,binT,ea,e,el]) rfl)]
  rw [show evSs G [] _=some (.nx _) from rfl]
  have e2:acc++(pathsL (x::xs) i).map (fun p=>wy (w++p))=(acc++(paths x).map fun p=>wy (w++[i]++p))++(pathsL xs (i+1)).map fun p=>wy (w++p):=by
   rw [pathsL,List.map_append,List.map_map,List.append_assoc]
   have:((fun p=>wy (w++p))∘fun p=>i::p)=fun p=>wy (w++[i]++p):=by
    funext p
    show wy (w++i::p)=wy (w++[i]++p)
    rw [List.append_assoc]
    rfl
   rw [this]
  rw [e2]
  unfold pbd at ih
  exact ih
theorem places_run {P:Pr} (h:Bent P):∀ (d n:Nat) (t:T) (w:List Nat),dep t≤d→d≤10→sz4 t=true→w.length+d≤1000→run P (n+d+1) "_law_places_in" [t,wy w]=some (.lst ((paths t).map fun p=>wy (w++p))):=by
 intro d
 induction d with
 | zero =>
  intro n t w hd _ hz hw
  rw [run_succ h.places rfl]
  show resultOf (evSs (glo P (run P (n+0))) d_law_places_in.body [.val t,.val (wy w),.no,.no,.no])=_
  have ht:isiT t .ttup=false:=by
   cases t with
   | tup xs=>rw [dep] at hd;omega
   | _=>rfl
  generalize glo P (run P (n+0))=G
  unfold d_law_places_in
  dsimp only
  rw [nx_of (asg_of (τ0:=[.val t,.val (wy w),.no,.no,.no]) (t:=.lst [wy w]) (τ':=[.val t,.val (wy w),.own [wy w],.no,.no]) rfl (by simp [evE,evEs,view,Sl.get]) rfl)]
  rw [ite_no rfl (by simp [evE,view,Sl.get,ht,truT])]
  rw [rt_of (ret_of (τ0:=[.val t,.val (wy w),.val (.lst [wy w]),.no,.no]) (t:=.lst [wy w]) rfl (by simp [evE,view,Sl.get])),paths_no ht]
  simp [resultOf]
 | succ d ih =>
  intro n t w hd h10 hz hw
  rw [show n+(d+1)+1=(n+d+1)+1 by omega,run_succ h.places rfl]
  show resultOf (evSs (glo P (run P (n+d+1))) d_law_places_in.body [.val t,.val (wy w),.no,.no,.no])=_
  generalize hG:glo P (run P (n+d+1))=G
  unfold d_law_places_in
  dsimp only
  rw [nx_of (asg_of (τ0:=[.val t,.val (wy w),.no,.no,.no]) (t:=.lst [wy w]) (τ':=[.val t,.val (wy w),.own [wy w],.no,.no]) rfl (by simp [evE,evEs,view,Sl.get]) rfl)]
  rcases isi_tup t with ⟨ht,xs,rfl⟩ | ⟨ht,_⟩
  ·rw [dep] at hd
   have hz0:=hz
   rw [sz4,Bool.and_eq_true,decide_eq_true_eq] at hz
   obtain ⟨s3',s4',eL⟩:=pl_loop (G:=G) (.tup xs) w (by omega) xs 0 [wy w] .no .no (fun x hx j=>by
    rw [← hG]
    exact ih n x (w++[j]) (by have:=dep_mem hx;omega) (by omega) (sz4_mem hz.2 hx) (by rw [List.length_append,List.length_singleton];omega)) (by
    have h1:=pathsL_len d xs 0 (by omega) hz.2
    have h2:xs.length*5 ^ d≤4*5 ^ 9:=Nat.mul_le_mul hz.1 (Nat.pow_le_pow_right (by decide) (by omega))
    have h3:4*5 ^ 9=7812500:=by decide
    rw [List.length_singleton]
    omega)
   have eL':evS G (.loop [3,4] .enum [.var 0] pbd) [.val (.tup xs),.val (wy w),.own [wy w],.no,.no]=some (.nx [.val (.tup xs),.val (wy w),.own ([wy w]++(pathsL xs 0).map fun p=>wy (w++p)),s3',s4']) :=
    loop_of (τ0:=[.val (.tup xs),.val (wy w),.own [wy w],.no,.no]) (xs:=[.tup xs]) rfl (by simp [evEs,evE,view,Sl.get]) (by simp only [items]) eL
   unfold pbd at eL'
   rw [ite_nx (τ':=[.val (.tup xs),.val (wy w),.own ([wy w]++(pathsL xs 0).map fun p=>wy (w++p)),s3',s4']) rfl (by simp [evE,view,Sl.get,isiT,truT]) (by rw [nx_of eL'];rfl)]
   rw [rt_of (ret_of (τ0:=[.val (.tup xs),.val (wy w),.val (.lst ([wy w]++(pathsL xs 0).map fun p=>wy (w++p))),s3',s4']) (t:=.lst ([wy w]++(pathsL xs 0).map fun p=>wy (w++p))) rfl (by simp [evE,view,Sl.get]))]
   rw [paths,List.map_cons,List.append_nil]
   rfl
  ·rw [ite_no rfl (by simp [evE,view,Sl.get,ht,truT])]
   rw [rt_of (ret_of (τ0:=[.val t,.val (wy w),.val (.lst [wy w]),.no,.no]) (t:=.lst [wy w]) rfl (by simp [evE,view,Sl.get])),paths_no ht]
   simp [resultOf]
mutual
noncomputable def wn:T→Bool
 | .str x=>ascii x&&decide (x.length≤1000)
 | .int i=>decide (i∈worthI++rowI)
 | .non=>true
 | .tup xs=>decide (xs.length≤4)&&wns xs
 | _=>false
noncomputable def wns:List T→Bool
 | []=>true
 | x::xs=>wn x&&wns xs
end
theorem wns_mem:∀ {xs:List T} {x:T},wns xs=true→x∈xs→wn x=true
 | y::xs,x,h,hx=>by
  rw [wns,Bool.and_eq_true] at h
  rcases List.mem_cons.mp hx with rfl | hx
  ·exact h.1
  ·exact wns_mem h.2 hx
mutual
theorem wn_bd:∀ {t:T},wn t=true→bd t=true
 | .str x,h=>h
 | .int i,_=>rfl
 | .tup xs,h=>by
  rw [wn,Bool.and_eq_true,decide_eq_true_eq] at h
  rw [bd,wns_bds h.2,decide_eq_true (by omega)];rfl
 | .non,h=>rfl
 | .bl _,h=>by cases h
 | .lst _,h=>by cases h
theorem wns_bds:∀ {xs:List T},wns xs=true→bds xs=true
 | [],_=>rfl
 | x::xs,h=>by
  rw [wns,Bool.and_eq_true] at h
  rw [bds,wn_bd h.1,wns_bds h.2];rfl
end
mutual
theorem wn_sz:∀ {t:T},wn t=true→sz4 t=true
 | .str x,h=>rfl
 | .int i,_=>rfl
 | .tup xs,h=>by
  rw [wn,Bool.and_eq_true,decide_eq_true_eq] at h
  rw [sz4,wns_sz h.2,decide_eq_true h.1];rfl
 | .non,h=>rfl
 | .bl _,h=>rfl
 | .lst _,h=>rfl
theorem wns_sz:∀ {xs:List T},wns xs=true→sz4s xs=true
 | [],_=>rfl
 | x::xs,h=>by
  rw [wns,Bool.and_eq_true] at h
  rw [sz4s,wn_sz h.1,wns_sz h.2];rfl
end
theorem nums_str:∀ i∈worthI++rowI,(decide (i.natAbs.log2<1920)&&bd (T.str (toString i:String)))=true:=by decide +kernel
theorem bdq {xs:List T} (hl:xs.length≤1000) (h:∀ x∈xs,bd x=true):bd (.tup xs)=true:=by
 rw [bd,decide_eq_true hl,bds_of h]
 rfl
theorem cut_sub (xs:List T) (lo hi:Option Int):(∀ x∈cut xs lo hi,x∈xs)∧(cut xs lo hi).length≤xs.length:=by
 unfold cut
 exact ⟨fun x hx=>List.mem_of_mem_drop (List.mem_of_mem_take hx),by rw [List.length_take,List.length_drop];omega⟩
theorem other_run {P:Pr} (h:Bent P) (n:Nat) {t:T} (hw:wn t=true) (k:Int):∃ r,run P (n+1) "_law_otherwise" [t,.int k]=some r∧bd r=true:=by
 rw [run_succ h.other rfl]
 generalize glo P (run P n)=G
 show ∃ r,resultOf (evSs G d_law_otherwise.body [.val t,.val (.int k),.no])=some r∧_
 unfold d_law_otherwise
 dsimp only
 match t,hw with
 | .tup xs,hw =>
  have hb:=bd_tup (wn_bd hw)
  rw [wn,Bool.and_eq_true,decide_eq_true_eq] at hw
  obtain ⟨m1,l1⟩:=cut_sub xs none (some 1)
  obtain ⟨m2,l2⟩:=cut_sub xs (some 1) none
  have hz:xs.length+(cut xs none (some 1)).length≤16777216:=by omega
  generalize hA:cut xs none (some 1)=A at *
  generalize hB:cut xs (some 1) none=B at *
  obtain ⟨r,e,hr⟩:=getI_any (xs:=[.lst xs,.lst xs,.tup (xs++A),.tup B,.lst [.tup xs]]) (bds_of (by
   intro x hx
   simp only [List.mem_cons,List.not_mem_nil,or_false] at hx
   rcases hx with rfl | rfl | rfl | rfl | rfl
   ·rfl
   ·rfl
   ·refine bdq (by rw [List.length_append];omega) fun y hy=>?_
    rcases List.mem_append.mp hy with hy | hy
    ·exact hb.2 y hy
    ·exact hb.2 y (m1 y hy)
   ·exact bdq (by omega) fun y hy=>hb.2 y (m2 y hy)
   ·rfl)) 4 rfl k
  have e':getI [.lst xs,.lst xs,.tup (xs++A),.tup B,.lst [.tup xs]] (k%5)=some r:=e
  refine ⟨r,?_,hr⟩
  have v1:evE G (.lst [.blt .toList (.var 0),.blt .toList (.var 0),.bin .add (.var 0) (.sli (.var 0) none (some (.cst (.int 1))))]) (view [.val (.tup xs),.val (.int k),.no])=some (.lst [.lst xs,.lst xs,.tup (xs++A)]):=by
   simp [evE,evEs,evO,view,Sl.get,bltT,asI,sliT,hA,binT,addT,SZ,hz]
  have v2:evE G (.idx (.bin .add (.var 2) (.lst [.sli (.var 0) (some (.cst (.int 1))) none,.lst [.var 0]])) (.bin .mod (.var 1) (.cst (.int 5)))) (view [.val (.tup xs),.val (.int k),.val (.lst [.lst xs,.lst xs,.tup (xs++A)])])=some r:=by
   simp [evE,evEs,evO,view,Sl.get,asI,sliT,hB,binT,addT,modT,SZ,idxT,e']
  rw [ite_go (t:=r) rfl (by simp [evE,view,Sl.get,isiT,truT]) (by
   rw [nx_of (asg_of (τ0:=[.val (.tup xs),.val (.int k),.no]) (t:=.lst [.lst xs,.lst xs,.tup (xs++A)]) (τ':=[.val (.tup xs),.val (.int k),.own [.lst xs,.lst xs,.tup (xs++A)]]) rfl v1 rfl)]
   exact rt_of (ret_of (τ0:=[.val (.tup xs),.val (.int k),.val (.lst [.lst xs,.lst xs,.tup (xs++A)])]) rfl v2))]
  rfl
 | .int i,hw =>
  have hi:=nums_str i (of_decide_eq_true hw)
  rw [Bool.and_eq_true,decide_eq_true_eq] at hi
  obtain ⟨r,e,hr⟩:=getI_any (xs:=[.bl true,.non,.str (toString i:String),.tup [.int i],.int (-1-i)]) (by simp only [bds,hi.2];rfl) 4 rfl k
  have e':getI [.bl true,.non,.str (toString i:String),.tup [.int i],.int (-1-i)] (k%5)=some r:=e
  refine ⟨r,?_,hr⟩
  have v1:evE G (.lst [.cst (.bl true),.cst .non,.blt .toStr (.var 0),.tup [.var 0]]) (view [.val (.int i),.val (.int k),.no])=some (.lst [.bl true,.non,.str (toString i:String),.tup [.int i]]):=by
   simp [evE,evEs,view,Sl.get,bltT,hi.1]
  have v2:evE G (.idx (.bin .add (.var 2) (.lst [.bin .sub (.neg (.cst (.int 1))) (.var 0)])) (.bin .mod (.var 1) (.cst (.int 5)))) (view [.val (.int i),.val (.int k),.val (.lst [.bl true,.non,.str (toString i:String),.tup [.int i]])])=some r:=by
   refine Eq.trans ?_ e'
   simp [evE,evEs,view,Sl.get,binT,addT,subT,modT,SZ,idxT]
  rw [ite_no rfl (by simp [evE,view,Sl.get,isiT,truT]),ite_no rfl (by simp [evE,view,Sl.get,isiT,truT])]
  rw [ite_go (t:=r) rfl (by simp [evE,view,Sl.get,isiT,truT]) (by
   rw [nx_of (asg_of (τ0:=[.val (.int i),.val (.int k),.no]) (t:=.lst [.bl true,.non,.str (toString i:String),.tup [.int i]]) (τ':=[.val (.int i),.val (.int k),.own [.bl true,.non,.str (toString i:String),.tup [.int i]]]) rfl v1 rfl)]
   exact rt_of (ret_of (τ0:=[.val (.int i),.val (.int k),.val (.lst [.bl true,.non,.str (toString i:String),.tup [.int i]])]) rfl v2))]
  rfl
 | .str x,hw =>
  obtain ⟨r,e,hr⟩:=getI_any (xs:=[.non,.tup [.str x],.lst [.str x],.str "",.int 0]) (by
   have h1:bd (.str x)=true:=hw
   have h2:bd (.str "")=true:=by decide +kernel
   simp only [bds,bdq (xs:=[.str x]) (by simp) (by simpa using h1),h2];rfl) 4 rfl k
  have e':getI [.non,.tup [.str x],.lst [.str x],.str "",.int 0] (k%5)=some r:=e
  refine ⟨r,?_,hr⟩
  rw [ite_no rfl (by simp [evE,view,Sl.get,isiT,truT]),ite_no rfl (by simp [evE,view,Sl.get,isiT,truT]),ite_no rfl (by simp [evE,view,Sl.get,isiT,truT]),ret0 (t:=r) rfl (by simp [evE,evEs,view,Sl.get,binT,modT,idxT,e'])]
  rfl
 | .non,hw =>
  obtain ⟨r,e,hr⟩:=getI_any (xs:=[.non,.tup [.non],.lst [.non],.str "",.int 0]) (by decide +kernel) 4 rfl k
  have e':getI [.non,.tup [.non],.lst [.non],.str "",.int 0] (k%5)=some r:=e
  refine ⟨r,?_,hr⟩
  rw [ite_no rfl (by simp [evE,view,Sl.get,isiT,truT]),ite_no rfl (by simp [evE,view,Sl.get,isiT,truT]),ite_no rfl (by simp [evE,view,Sl.get,isiT,truT]),ret0 (t:=r) rfl (by simp [evE,evEs,view,Sl.get,binT,modT,idxT,e'])]
  rfl
theorem lam_run {P:Pr} (h:Bent P) (n:Nat) {t:T} (hw:wn t=true) (k:Int):∃ r,run P (n+2) ".lam" [t,.int k]=some r∧bd r=true:=by
 obtain ⟨r,e,hr⟩:=other_run h n hw (k/4096)
 refine ⟨r,?_,hr⟩
 rw [run_succ h.lam rfl]
 show resultOf (evSs (glo P (run P (n+1))) d_law_lam.body [.val t,.val (.int k)])=_
 unfold d_law_lam
 dsimp only
 rw [ret0 (t:=r) rfl (by simp [evE,evEs,view,Sl.get,glo,binT,fdivT,e])]
 rfl
theorem pathsL_mem:∀ {xs:List T} {j i:Nat} {q:List Nat},i::q∈pathsL xs j→∃ x,j≤i∧xs[i-j]?=some x∧q∈paths x
 | [],j,i,q,h=>by rw [pathsL] at h;cases h
 | x::xs,j,i,q,h=>by
  rw [pathsL] at h
  rcases List.mem_append.mp h with h | h
  ·obtain ⟨p,hp,e⟩:=List.mem_map.mp h
   cases e
   exact ⟨x,Nat.le_refl _,by simp,hp⟩
  ·obtain ⟨y,h1,h2,h3⟩:=pathsL_mem h
   refine ⟨y,by omega,?_,h3⟩
   rw [show i-j=(i-(j+1))+1 by omega,List.getElem?_cons_succ]
   exact h2
theorem put_run {P:Pr} (h:Bent P) (k:Int):∀ (p:List Nat) (n:Nat) (t:T),p∈paths t→wn t=true→∃ r,run P (n+p.length+3) ".put" [t,wy p,.int k]=some r∧bd r=true:=by
 intro p
 induction p with
 | nil =>
  intro n t _ hw
  obtain ⟨r,e,hr⟩:=lam_run h n hw k
  refine ⟨r,?_,hr⟩
  rw [run_succ h.put rfl]
  show resultOf (evSs (glo P (run P (n+0+2))) d_law_put_at.body [.val t,.val (wy []),.val (.int k),.no,.no])=_
  unfold d_law_put_at
  dsimp only
  have e':(glo P (run P (n+0+2))).call ".lam" [t,.int k]=some r:=e
  rw [ite_yes (t:=r) rfl (by
   have:eqC (wy []) (.tup [])=some (.bl true):=tupE0
   simp [evE,evEs,view,Sl.get,cmpT,this]) rfl (by simp [evE,evEs,view,Sl.get,e'])]
  rfl
 | cons i q ih =>
  intro n t hp hw
  obtain ⟨xs,rfl⟩:∃ xs,t=.tup xs:=by
   cases t with
   | tup xs=>exact ⟨xs,rfl⟩
   | _=>simp [paths] at hp
  have hb:=bd_tup (wn_bd hw)
  rw [wn,Bool.and_eq_true,decide_eq_true_eq] at hw
  rw [paths] at hp
  obtain ⟨x,_,hx,hq⟩:=pathsL_mem (List.mem_cons.mp hp |>.resolve_left (by simp))
  rw [Nat.sub_zero] at hx
  have hil:i<xs.length:=(List.getElem?_eq_some_iff.mp hx).1
  obtain ⟨r,e,hr⟩:=ih n x hq (wns_mem hw.2 (List.mem_of_getElem? hx))
  refine ⟨.tup (xs.take i++[r]++xs.drop (i+1)),?_,bdq (by rw [List.length_append,List.length_append,List.length_take,List.length_drop];simp only [List.length_singleton];omega) fun y hy=>?_⟩
  ·rw [show n+(i::q).length+3=(n+q.length+3)+1 by simp only [List.length_cons];omega,run_succ h.put rfl]
   show resultOf (evSs (glo P (run P (n+q.length+3))) d_law_put_at.body [.val (.tup xs),.val (wy (i::q)),.val (.int k),.no,.no])=_
   have e':(glo P (run P (n+q.length+3))).call ".put" [x,wy q,.int k]=some r:=e
   generalize glo P (run P (n+q.length+3))=G at *
   have c0:eqC (wy (i::q)) (.tup [])=some (.bl false):=tupE _ _
   have c1:idxT (wy (i::q)) (.int 0)=some (.int (i:Int)):=by
    unfold wy
    rw [List.map_cons,idxT,getI0]
   have c2:sliT (wy (i::q)) (some 1) none=some (wy q):=by
    unfold wy
    rw [sliT,show (1:Int)=((1:Nat):Int) from rfl,cut_from _ 1 (by simp)]
    simp
   have c3:idxT (.tup xs) (.int (i:Int))=some x:=by rw [idxT,getI_nat hx]
   have c4:sliT (.tup xs) none (some (i:Int))=some (.tup (xs.take i)):=by rw [sliT,cut_to']
   have c5:sliT (.tup xs) (some ((i:Int)+1)) none=some (.tup (xs.drop (i+1))):=by rw [sliT,show (i:Int)+1=((i+1:Nat):Int) by omega,cut_from _ (i+1) (by omega)]
   generalize wy (i::q)=W at *
   generalize hX:T.tup xs=X at *
   unfold d_law_put_at
   dsimp only
   rw [ite_no rfl (by simp [evE,evEs,view,Sl.get,cmpT,c0])]
   rw [nx_of (asg_of (τ0:=[.val X,.val W,.val (.int k),.no,.no]) (t:=.int (i:Int)) (τ':=[.val X,.val W,.val (.int k),.val (.int (i:Int)),.no]) rfl (by simp [evE,view,Sl.get,c1]) rfl)]
   rw [nx_of (asg_of (τ0:=[.val X,.val W,.val (.int k),.val (.int (i:Int)),.no]) (t:=r) (τ':=[.val X,.val W,.val (.int k),.val (.int (i:Int)),.val r]) rfl (by simp [evE,evEs,evO,view,Sl.get,c3,asI,c2,e']) rfl)]
   have hz1:min i xs.length+1≤16777216:=by omega
   have hz2:min i xs.length+1+(xs.length-(i+1))≤16777216:=by omega
   rw [ret0 (t:=.tup (xs.take i++[r]++xs.drop (i+1))) rfl (by simp [evE,evEs,evO,view,Sl.get,asI,c4,c5,binT,addT,SZ,hz1,hz2])]
   rfl
  ·rcases List.mem_append.mp hy with hy | hy
   ·rcases List.mem_append.mp hy with hy | hy
    ·exact hb.2 y (List.mem_of_mem_take hy)
    ·rw [List.mem_singleton.mp hy];exact hr
   ·exact hb.2 y (List.mem_of_mem_drop hy)
mutual
theorem path_len:∀ {t:T} {p:List Nat},p∈paths t→p.length≤dep t
 | .tup xs,p,h=>by
  rw [paths] at h
  rw [dep]
  rcases List.mem_cons.mp h with rfl | h
  ·simp
  ·exact pathL_len h
 | .non,p,h=>by rw [List.mem_singleton.mp h];exact Nat.zero_le _
 | .bl _,p,h=>by rw [List.mem_singleton.mp h];exact Nat.zero_le _
 | .int _,p,h=>by rw [List.mem_singleton.mp h];exact Nat.zero_le _
 | .str _,p,h=>by rw [List.mem_singleton.mp h];exact Nat.zero_le _
 | .lst _,p,h=>by rw [List.mem_singleton.mp h];exact Nat.zero_le _
theorem pathL_len:∀ {xs:List T} {j:Nat} {p:List Nat},p∈pathsL xs j→p.length≤depS xs+1
 | [],j,p,h=>by rw [pathsL] at h;cases h
 | x::xs,j,p,h=>by
  rw [pathsL] at h
  rw [depS]
  rcases List.mem_append.mp h with h | h
  ·obtain ⟨q,hq,rfl⟩:=List.mem_map.mp h
   have:=path_len hq
   rw [List.length_cons]
   omega
  ·have:=pathL_len h
   omega
end
theorem paths_ne (t:T):paths t≠[]:=by
 cases t with
 | tup xs=>rw [paths];simp
 | _=>simp [paths]
theorem bent_run {P:Pr} (h:Bent P) {d:Nat} (hd:d≤10) (n:Nat) {t:T} (ht:dep t≤d) (hw:wn t=true) (k:Int) (D:T):∃ r,run P (n+d+5) "_law_spoilt" [t,.int k,D]=some r∧bd r=true:=by
 have e1:=places_run h d (n+3) t [] ht hd (wn_sz hw) (by simp;omega)
 have e1':run P (n+d+4) "_law_places_in" [t,.tup []]=some (.lst ((paths t).map wy)):=by
  rw [show n+d+4=n+3+d+1 by omega]
  exact e1
 obtain ⟨p,hp,ep⟩:=getI_mem (enc:=wy) (paths_ne t) k
 have hpl:=path_len hp
 obtain ⟨r,e2,hr⟩:=put_run h k p (n+d+1-p.length) t hp hw
 rw [show n+d+1-p.length+p.length+3=n+d+4 by omega] at e2
 refine ⟨r,?_,hr⟩
 have hpos:0<(paths t).length:=by have:=paths_ne t;cases q:paths t with | nil=>exact absurd q this | cons _ _=>simp
 rw [run_succ h.spoilt rfl]
 show resultOf (evSs (glo P (run P (n+d+4))) d_law_bent.body [.val t,.val (.int k),.val D,.no,.no])=_
 have g1:(glo P (run P (n+d+4))).call "_law_places_in" [t,.tup []]=some (.lst ((paths t).map wy)):=e1'
 have g2:(glo P (run P (n+d+4))).call ".put" [t,wy p,.int k]=some r:=e2
 generalize glo P (run P (n+d+4))=G at *
 have l1:bltT .len (.lst ((paths t).map wy))=some (.int ((paths t).length:Int)):=by rw [← List.length_map (f:=wy) (as:=paths t)];rfl
 have l2:idxT (.lst ((paths t).map wy)) (.int (k%((paths t).length:Int)))=some (wy p):=ep
 generalize T.lst ((paths t).map wy)=L at *
 unfold d_law_bent
 dsimp only
 rw [nx_of (asg_of (τ0:=[.val t,.val (.int k),.val D,.no,.no]) (t:=L) (τ':=[.val t,.val (.int k),.val D,.val L,.no]) rfl (by simp [evE,evEs,view,Sl.get,g1]) rfl)]
 rw [nx_of (asg_of (τ0:=[.val t,.val (.int k),.val D,.val L,.no]) (t:=wy p) (τ':=[.val t,.val (.int k),.val D,.val L,.val (wy p)]) rfl (by simp [evE,view,Sl.get,l1,binT,modT,hpos,l2]) rfl)]
 rw [ret0 (t:=r) rfl (by simp [evE,evEs,view,Sl.get,g2])]
 rfl
noncomputable def d_law09:Fd:=⟨1,2,[.loop [1] .range [.cst (.int 8)] [.ite (.lnot (.tru (.call "_law_once" [.bin .add (.comp (.bin .add (.var 0) (.bin .mul (.cst (.int 104729)) (.var 2))) 1 .plain [.var 0] none) (.lst [.var 1])]))) [.ret (.cst (.bl false))] []],
  .ret (.cst (.bl true))]⟩
theorem turns_run {P:Pr} (hl:P.fn "law"=some d_law09) (ho:∀ ns:List Int,run P 19 "_law_once" [.lst (ns.map .int)]=some (.bl true)) (ns:List Int) (hn:ns.length≤63):run P 20 "law" [.lst (ns.map .int)]=some (.bl true):=by
 rw [run_succ hl rfl]
 have go:∀ ns:List Int,(glo P (run P 19)).call "_law_once" [.lst (ns.map .int)]=some (.bl true):=ho
 generalize glo P (run P 19)=G at *
 show resultOf (evSs G d_law09.body [.val (.lst (ns.map .int)),.no])=_
 have step:∀ (i:Nat) (s1:Sl),((bndS [1] (T.int (i:Int)) [.val (.lst (ns.map .int)),s1]).bind fun τ'=>evSs G [.ite (.lnot (.tru (.call "_law_once" [.bin .add (.comp (.bin .add (.var 0) (.bin .mul (.cst (.int 104729)) (.var 2))) 1 .plain [.var 0] none) (.lst [.var 1])]))) [.ret (.cst (.bl false))] []] τ')=some (.nx [.val (.lst (ns.map .int)),.val (.int (i:Int))]):=fun i s1=>by
  show evSs G _ [.val (.lst (ns.map .int)),.val (.int (i:Int))]=_
  have sm:small 104729=true:=by decide
  have k1:evE G (.comp (.bin .add (.var 0) (.bin .mul (.cst (.int 104729)) (.var 2))) 1 .plain [.var 0] none) (view [.val (.lst (ns.map .int)),.val (.int (i:Int))])=some (.lst (ns.map fun x=>.int (x+104729*(i:Int)))) :=
   comp_all (enc:=T.int) (l:=ns) (its:=ns.map .int) (xs:=[.lst (ns.map .int)]) (by simp [evEs,evE,view,Sl.get]) (items_id (.inr rfl) (by rw [List.length_map];omega)) rfl (fun x=>.int (x+104729*(i:Int))) (fun x _=>by simp [evE,view,Sl.get,binT,addT,mulT,sm])
  have k2:evE G (.bin .add (.comp (.bin .add (.var 0) (.bin .mul (.cst (.int 104729)) (.var 2))) 1 .plain [.var 0] none) (.lst [.var 1])) (view [.val (.lst (ns.map .int)),.val (.int (i:Int))])=some (.lst ((ns.map (fun x=>x+104729*(i:Int))++[(i:Int)]).map .int)):=by
   have hz:(ns.map fun x=>T.int (x+104729*(i:Int))).length+([T.int (i:Int)]:List T).length≤16777216:=by rw [List.length_map,List.length_singleton];omega
   rw [evE,k1,Option.bind_some,show evE G (.lst [.var 1]) (view [.val (.lst (ns.map .int)),.val (.int (i:Int))])=some (.lst [.int (i:Int)]) from rfl,Option.bind_some,binT,addL hz,List.map_append,List.map_map]
   rfl
  have k3:evE G (.call "_law_once" [.bin .add (.comp (.bin .add (.var 0) (.bin .mul (.cst (.int 104729)) (.var 2))) 1 .plain [.var 0] none) (.lst [.var 1])]) (view [.val (.lst (ns.map .int)),.val (.int (i:Int))])=some (.bl true):=by
   rw [evE,evEs,k2]
   simp only [evEs,Option.bind_some,go]
  rw [show evSs G [S.ite (.lnot (.tru (.call "_law_once" [.bin .add (.comp (.bin .add (.var 0) (.bin .mul (.cst (.int 104729)) (.var 2))) 1 .plain [.var 0] none) (.lst [.var 1])]))) [.ret (.cst (.bl false))] []] [.val (.lst (ns.map .int)),.val (.int (i:Int))]=evSs G [] [.val (.lst (ns.map .int)),.val (.int (i:Int))] from ite_no rfl (ev_ntru k3)]
  rfl
 have lp:∀ (l:List Nat) (s1:Sl),∃ s1',loopM (fun x τ=>(bndS [1] x τ).bind fun τ'=>evSs G [.ite (.lnot (.tru (.call "_law_once" [.bin .add (.comp (.bin .add (.var 0) (.bin .mul (.cst (.int 104729)) (.var 2))) 1 .plain [.var 0] none) (.lst [.var 1])]))) [.ret (.cst (.bl false))] []] τ') (l.map fun (i:Nat)=>T.int (i:Int)) [.val (.lst (ns.map .int)),s1]=some (.nx [.val (.lst (ns.map .int)),s1']):=fun l=>by
  induction l with
  | nil=>exact fun s1=>⟨s1,rfl⟩
  | cons i l ih =>
   intro s1
   obtain ⟨s1',e⟩:=ih (.val (.int (i:Int)))
   exact ⟨s1',by rw [List.map_cons,loopM,step];exact e⟩
 obtain ⟨s1',e⟩:=lp (List.range 8) .no
 unfold d_law09
 dsimp only
 rw [nx_of (loop_of (τ0:=[.val (.lst (ns.map .int)),.no]) (xs:=[.int 8]) (its:=(List.range 8).map fun (i:Nat)=>T.int (i:Int)) rfl (by simp [evEs,evE]) rfl e)]
 rw [ret0 (t:=.bl true) rfl (by simp [evE])]
 rfl
mutual
noncomputable def wg:Nat→T→Bool
 | _,.str x=>ascii x&&decide (x.length≤1000)
 | _,.int i=>decide (i∈rowI)
 | _,.non=>true
 | d+1,.tup xs=>decide (xs.length≤4)&&wgs d xs
 | _,_=>false
noncomputable def wgs:Nat→List T→Bool
 | _,[]=>true
 | d,x::xs=>wg d x&&wgs d xs
end
mutual
theorem wg_wn:∀ {d:Nat} {t:T},wg d t=true→wn t=true∧dep t≤d
 | 0,.str x,h=>⟨h,Nat.le_refl _⟩
 | _+1,.str x,h=>⟨h,Nat.zero_le _⟩
 | 0,.int i,h=>⟨decide_eq_true (List.mem_append_right _ (of_decide_eq_true h)),Nat.le_refl _⟩
 | _+1,.int i,h=>⟨decide_eq_true (List.mem_append_right _ (of_decide_eq_true h)),Nat.zero_le _⟩
 | 0,.non,h=>⟨rfl,Nat.le_refl _⟩
 | _+1,.non,h=>⟨rfl,Nat.zero_le _⟩
 | d+1,.tup xs,h=>by
  rw [wg,Bool.and_eq_true] at h
  obtain ⟨h1,h2⟩:=wgs_wns h.2
  refine ⟨by rw [wn,h.1,h1];rfl,?_⟩
  rw [dep];omega
 | 0,.tup _,h=>by cases h
 | 0,.bl _,h=>by cases h
 | _+1,.bl _,h=>by cases h
 | 0,.lst _,h=>by cases h
 | _+1,.lst _,h=>by cases h
theorem wgs_wns:∀ {d:Nat} {xs:List T},wgs d xs=true→wns xs=true∧depS xs≤d
 | d,[],_=>⟨rfl,Nat.zero_le _⟩
 | d,x::xs,h=>by
  rw [wgs,Bool.and_eq_true] at h
  obtain ⟨h1,h2⟩:=wg_wn h.1
  obtain ⟨h3,h4⟩:=wgs_wns h.2
  refine ⟨by rw [wns,h1,h3];rfl,?_⟩
  rw [depS];omega
end
theorem wg_bd {d:Nat} {t:T} (h:wg d t=true):bd t=true:=wn_bd (wg_wn h).1
mutual
theorem wg_up:∀ {d:Nat} {t:T},wg d t=true→wg (d+1) t=true
 | 0,.str x,h=>h
 | _+1,.str x,h=>h
 | 0,.int i,h=>h
 | _+1,.int i,h=>h
 | 0,.non,h=>rfl
 | _+1,.non,h=>rfl
 | d+1,.tup xs,h=>by
  rw [wg,Bool.and_eq_true] at h
  rw [wg,h.1,wgs_up h.2];rfl
 | 0,.tup _,h=>by cases h
 | 0,.bl _,h=>by cases h
 | _+1,.bl _,h=>by cases h
 | 0,.lst _,h=>by cases h
 | _+1,.lst _,h=>by cases h
theorem wgs_up:∀ {d:Nat} {xs:List T},wgs d xs=true→wgs (d+1) xs=true
 | d,[],_=>by rw [wgs]
 | d,x::xs,h=>by
  rw [wgs,Bool.and_eq_true] at h
  rw [wgs,wg_up h.1,wgs_up h.2];rfl
end
theorem wgs_of {d:Nat}:∀ {xs:List T},(∀ x∈xs,wg d x=true)→wgs d xs=true
 | [],_=>by rw [wgs]
 | x::xs,h=>by rw [wgs,h x List.mem_cons_self,wgs_of fun y hy=>h y (List.mem_cons_of_mem _ hy)];rfl
theorem wg_tup {d:Nat} {xs:List T} (hl:xs.length≤4) (h:∀ x∈xs,wg d x=true):wg (d+1) (.tup xs)=true:=by rw [wg,wgs_of h,decide_eq_true hl];rfl
theorem getI_rowS' (k:Int):∃ x∈rowS,getI [.str "a",.str "b",.str "",.str "ab",.str "a",.str "x9"] (k%6)=some (.str x):=by
 obtain ⟨c,hc,e⟩:=getI_mem (enc:=T.str) (cs:=rowS) (by simp [rowS]) k
 exact ⟨c,hc,e⟩
theorem getI_rowI' (k:Int):∃ x∈rowI,getI [.int 0,.int 1,.int 2,.int 3,.int 1,.int 2,.int 4,.int (-5)] (k%8)=some (.int x):=by
 obtain ⟨c,hc,e⟩:=getI_mem (enc:=T.int) (cs:=rowI) (by simp [rowI]) k
 exact ⟨c,hc,e⟩
theorem rowS_wg:∀ x∈rowS,wg 0 (.str x)=true:=by decide +kernel
theorem cn_wg:∀ x∈cnames,wg 0 (.str x)=true:=by decide +kernel
theorem worth_wg {P:Pr} (h:P.fn "_law_worth"=some d_law_worth) (n:Nat) (c:Col) (k:Int):∃ w,run P (n+1) "_law_worth" [c.t,.int k]=some w∧wg 0 w=true:=by
 rw [run_succ h rfl]
 obtain ⟨x,hx,ex⟩:=getI_rowS' (k/4)
 obtain ⟨i,hi,ei⟩:=getI_rowI' (k/4)
 have wx:=rowS_wg x hx
 have wi:wg 0 (.int i)=true:=decide_eq_true hi
 have h4:c.g=true∧(k%4==0)=true∨(c.g&&(k%4==0))=false:=by
  cases c.g<;>cases (k%4==0)<;>simp
 have i1:idxT c.t (.int 1)=some (.str c.k):=by rw [Col.t,idxT,getI1]
 have i2:idxT c.t (.int 2)=some (.bl c.g):=by rw [Col.t,idxT,getI2]
 show ∃ w,resultOf (evSs (glo P (run P n)) d_law_worth.body [.val c.t,.val (.int k)])=some w∧_
 unfold d_law_worth
 dsimp only
 rcases h4 with ⟨hg,hk⟩ | h4
 ·refine ⟨.non,?_,rfl⟩
  rw [ite_yes (t:=.non) rfl (by simp [evE,view,Sl.get,i2,truT,hg,binT,modT,cmpT,eqI,hk]) rfl (by simp [evE])]
  rfl
 ·rw [ite_no rfl (by
   cases hg:c.g with
   | false=>simp [evE,view,Sl.get,i2,truT,hg]
   | true =>
    rw [hg,Bool.true_and] at h4
    simp [evE,view,Sl.get,i2,truT,hg,binT,modT,cmpT,eqI,h4])]
  cases ht:(c.k==("text":Str)) with
  | true =>
   refine ⟨.str x,?_,wx⟩
   rw [ite_yes (t:=.str x) rfl (by simp [evE,view,Sl.get,i1,cmpT,eqAny,eqTS,ht]) rfl (by simp [evE,evEs,view,Sl.get,binT,modT,fdivT,idxT,ex])]
   rfl
  | false =>
   refine ⟨.int i,?_,wi⟩
   rw [ite_no rfl (by simp [evE,view,Sl.get,i1,cmpT,eqAny,eqTS,ht]),ret0 (t:=.int i) rfl (by simp [evE,evEs,view,Sl.get,binT,modT,fdivT,idxT,ei])]
   rfl
theorem compM_roq {Q:T→Prop} {f:T→Option (Option T)}:∀ (cs:List Col) (i:Nat),(∀ c∈cs,∀ j:Nat,∃ w,f (.tup [.int (j:Int),c.t])=some (some w)∧Q w) →
  ∃ ps:List (Col × T),ps.map (·.1)=cs∧compM f (enumT (cs.map Col.t) i)=some (ps.map (·.2))∧∀ p∈ps,Q p.2
 | [],_,_=>⟨[],rfl,rfl,fun p h=>by cases h⟩
 | c::cs,i,h=>by
  obtain ⟨w,e,hw⟩:=h c List.mem_cons_self i
  obtain ⟨ps,e1,e2,h2⟩:=compM_roq cs (i+1) fun c hc=>h c (List.mem_cons_of_mem _ hc)
  refine ⟨(c,w)::ps,by simp [e1],?_,fun p hp=>?_⟩
  ·simp only [List.map_cons,enumT,compM,e,e2,Option.bind_some]
  ·rcases List.mem_cons.mp hp with rfl | hp
   ·exact hw
   ·exact h2 p hp
theorem compM_ex {α:Type} {enc:α→T} {Q:α→T→Prop} {f:T→Option (Option T)}:∀ (l:List α),(∀ a∈l,∃ w,f (enc a)=some (some w)∧Q a w)→∃ ps:List (α × T),ps.map (·.1)=l∧compM f (l.map enc)=some (ps.map (·.2))∧∀ p∈ps,Q p.1 p.2
 | [],_=>⟨[],rfl,rfl,fun p h=>by cases h⟩
 | a::l,h=>by
  obtain ⟨w,e,hw⟩:=h a List.mem_cons_self
  obtain ⟨ps,e1,e2,h2⟩:=compM_ex (Q:=Q) l fun c hc=>h c (List.mem_cons_of_mem _ hc)
  refine ⟨(a,w)::ps,by simp [e1],?_,fun p hp=>?_⟩
  ·simp only [List.map_cons,compM,e,e2,Option.bind_some]
  ·rcases List.mem_cons.mp hp with rfl | hp
   ·exact hw
   ·exact h2 p hp
theorem row_wg {P:Pr} (hd:P.fn "_law_drawn"=some d_law_drawn) (hw:P.fn "_law_worth"=some d_law_worth) (h:P.fn "_law_row"=some d_law_row) (n:Nat) {cs:List Col} (hc:cs.length≤4) (nm key rules:T) (k:Int) :
  ∃ ps:List (Col × T),ps.map (·.1)=cs∧run P (n+2) "_law_row" [tabT nm cs key rules,.int k]=some (.tup (ps.map (·.2)))∧∀ p∈ps,wg 0 p.2=true:=by
 rw [run_succ h rfl]
 have hl:cs.length≤16777216:=by omega
 obtain ⟨ps,e1,e2,h2⟩:=compM_roq (Q:=fun w=>wg 0 w=true) (f:=fun x=>(bnd 2 x (view [Sl.val (tabT nm cs key rules),Sl.val (.int k)])).bind fun r'=>(evE (glo P (run P (n+1))) (.call "_law_worth" [.var 1,.bin .fdiv (.call "_law_drawn" [.var 3,.var 0]) (.cst (.int 4))]) r').map some) cs 0 (fun c _ j=>by
  have e1:=drawn_run hd n k (j:Int)
  obtain ⟨w,e2,hw'⟩:=worth_wg hw n c (drawnI k (j:Int)/4)
  refine ⟨w,?_,hw'⟩
  simp [bnd,evE,evEs,view,Sl.get,glo,e1,e2,binT,fdivT])
 refine ⟨ps,e1,?_,h2⟩
 show resultOf (evSs (glo P (run P (n+1))) [.ret (.blt .toTuple (.comp (.call "_law_worth" [.var 1,.bin .fdiv (.call "_law_drawn" [.var 3,.var 0]) (.cst (.int 4))]) 2 .enum [.idx (.var 0) (.cst (.int 1))] none))] [Sl.val (tabT nm cs key rules),Sl.val (.int k)])=_
 rw [ret0 (t:=.tup (ps.map (·.2))) rfl (by
  rw [evE_blt,evE_comp0]
  have s1:evEs (glo P (run P (n+1))) [.idx (.var 0) (.cst (.int 1))] (view [Sl.val (tabT nm cs key rules),Sl.val (.int k)])=some [.tup (cs.map Col.t)]:=by
   simp [evEs,evE,view,Sl.get,idxT,tabT,getI1]
  have s2:itemsC .enum [.tup (cs.map Col.t)]=some (enumT (cs.map Col.t) 0):=by
   simp [itemsC,items,enumT_len,hl]
  rw [s1,Option.bind_some,s2,Option.bind_some,e2]
  rfl)]
 rfl
theorem key_pick {ps:List (Col × T)}:∀ {ks:List Str},(∀ k∈ks,∃ p∈ps,p.1.n=k)→∃ qs:List (Col × T),qs.map nmT=ks.map .str∧(∀ q∈qs,q∈ps)∧qs.length=ks.length
 | [],_=>⟨[],rfl,fun q h=>absurd h (by simp),rfl⟩
 | k::ks,h=>by
  obtain ⟨p,hp,e⟩:=h k List.mem_cons_self
  obtain ⟨qs,e1,e2,e3⟩:=key_pick fun k hk=>h k (List.mem_cons_of_mem _ hk)
  refine ⟨p::qs,by simp [nmT,e,e1],fun q hq=>?_,by simp [e3]⟩
  rcases List.mem_cons.mp hq with rfl | hq
  ·exact hp
  ·exact e2 q hq
theorem lkeyof_run {P:Pr} (hn:P.fn "_law_names"=some d_law_names) (h:P.fn "_law_key"=some d_law_key) (n:Nat) {ps:List (Col × T)} (hl:ps.length≤4) (hnd:(ps.map (·.1.n)).Nodup) (nm rules:T) {qs:List (Col × T)} (hq:∀ q∈qs,q∈ps) (hql:qs.length≤4) :
  run P (n+2) "_law_key" [tabP nm ps (.tup (qs.map nmT)) rules,.tup (ps.map (·.2))]=some (.tup (qs.map (·.2))):=by
 have hz:qs.length≤16777216:=by omega
 rw [run_succ h rfl]
 show resultOf (evSs (glo P (run P (n+1))) d_law_key.body [.val (tabP nm ps (.tup (qs.map nmT)) rules),.val (.tup (ps.map (·.2)))])=_
 have i2:idxT (tabP nm ps (.tup (qs.map nmT)) rules) (.int 2)=some (.tup (qs.map nmT)):=by rw [tabP,tabT,idxT,getI2]
 have cn:(glo P (run P (n+1))).call "_law_names" [tabP nm ps (.tup (qs.map nmT)) rules]=some (.lst (ps.map nmT)):=names_run hn n ps hl nm (.tup (qs.map nmT)) rules
 generalize tabP nm ps (.tup (qs.map nmT)) rules=X at *
 unfold d_law_key
 dsimp only
 have hc:=comp_all (G:=glo P (run P (n+1))) (elt:=(.idx (.var 2) (.mth .index (.call "_law_names" [.var 1]) (.var 0)))) (src:=[.idx (.var 0) (.cst (.int 2))]) (r:=view [.val X,.val (.tup (ps.map (·.2)))]) (enc:=nmT) (l:=qs) (its:=qs.map nmT) (xs:=[.tup (qs.map nmT)]) (by simp [evEs,evE,view,Sl.get,i2]) (by simp [itemsC,items,hz]) rfl (fun q=>q.2) (fun q hq'=>by
  obtain ⟨i,e1,e2⟩:=at_place (hq q hq') hnd
  simp only [evE,evEs,view,Sl.get,List.map_cons,List.map_nil,List.getElem?_cons_succ,List.getElem?_cons_zero,Option.join_some,Option.bind_some,cn]
  rw [show nmT q=.str q.1.n from rfl,e1]
  simp only [Option.bind_some,idxT,e2])
 rw [ret0 (t:=.tup (qs.map (·.2))) rfl (by rw [evE_blt,hc];rfl)]
 rfl
structure Mk (P:Pr):Prop where
 drawn:P.fn "_law_drawn"=some d_law_drawn
 worth:P.fn "_law_worth"=some d_law_worth
 row:P.fn "_law_row"=some d_law_row
 names:P.fn "_law_names"=some d_law_names
 key:P.fn "_law_key"=some d_law_key
 deed:P.fn "_law_some_deed"=some d_law_some_deed
theorem row_key {P:Pr} (h:Mk P) (n:Nat) {b:Tb} (bo:b.ok) (k:Int):∃ rw kw:T,run P (n+2) "_law_row" [b.t,.int k]=some rw∧wg 1 rw=true∧run P (n+2) "_law_key" [b.t,rw]=some kw∧wg 1 kw=true:=by
 obtain ⟨ps,e1,e2,h2⟩:=row_wg h.drawn h.worth h.row n bo.cl (.str b.nm) (.tup (b.key.map .str)) (.tup (b.rs.map Rl.t)) k
 have hpl:ps.length≤4:=by have:=bo.cl;rw [← e1,List.length_map] at this;exact this
 have hnd:(ps.map (·.1.n)).Nodup:=by have:=bo.nd;rw [← e1,List.map_map] at this;exact this
 obtain ⟨qs,f1,f2,f3⟩:=key_pick (ps:=ps) (ks:=b.key) (fun k hk=>by
  obtain ⟨c,hc,e⟩:=bo.inn k hk
  rw [← e1] at hc
  obtain ⟨p,hp,rfl⟩:=List.mem_map.mp hc
  exact ⟨p,hp,e⟩)
 have hk2:=bo.k1
 have e3:=lkeyof_run h.names h.key n hpl hnd (.str b.nm) (.tup (b.rs.map Rl.t)) f2 (by omega)
 rw [f1,tabP,e1] at e3
 refine ⟨.tup (ps.map fun p:Col × T=>p.2),.tup (qs.map fun p:Col × T=>p.2),e2,wg_tup (by rw [List.length_map];exact hpl) (fun x hx=>?_),e3,wg_tup (by rw [List.length_map];omega) (fun x hx=>?_)⟩
 ·obtain ⟨p,hp,rfl⟩:=List.mem_map.mp hx
  exact h2 p hp
 ·obtain ⟨q,hq,rfl⟩:=List.mem_map.mp hx
  exact h2 q (f2 q hq)
theorem wds_wg:wg 2 (.str "add")=true∧wg 2 (.str "drop")=true∧wg 2 (.str "set")=true:=by decide +kernel
noncomputable def plainC (b:Tb):List Col:=b.cs.filter fun c=>!isK b.key (.str c.n)
theorem plainC_map (b:Tb):(b.cs.filterMap fun c=>if !isK b.key (.str c.n) then some c.t else none)=(plainC b).map Col.t:=by
 unfold plainC
 induction b.cs with
 | nil=>rfl
 | cons c cs ih =>
  rw [List.filterMap_cons,List.filter_cons]
  cases hi:!isK b.key (.str c.n) with
  | true=>simpa using ih
  | false=>simpa using ih
theorem plainC_mem {b:Tb} {c:Col} (h:c∈plainC b):c∈b.cs:=(List.mem_filter.mp h).1
theorem pairs_ev {P:Pr} (h:Mk P) (n:Nat) {b:Tb} (bo:b.ok) {l:List Col} (hl:∀ c∈l,c∈b.cs) (hl4:l.length≤4) {src:List E} {r:Env} {ke:E} (k:Int) (hs:evEs (glo P (run P (n+2))) src r=some [.lst (l.map Col.t)]) (hk:∀ c:Col,evE (glo P (run P (n+2))) ke (some c.t::r)=some (.int k)) :
  ∃ ps:List (Col × T),ps.map (·.1)=l∧evE (glo P (run P (n+2))) (.comp (.tup [.idx (.var 0) (.cst (.int 0)),.call "_law_worth" [.var 0,ke]]) 1 .plain src none) r=some (.lst (ps.map (·.2)))∧∀ p∈ps,p.2=.tup [.str p.1.n,(hdT (.tup (match p.2 with | .tup xs=>xs.drop 1 | _=>[])))]∧wg 1 p.2=true:=by
 have hz:l.length≤16777216:=by omega
 obtain ⟨ps,e1,e2,h2⟩:=compM_ex (enc:=Col.t) (Q:=fun c w=>w=.tup [.str c.n,(hdT (.tup (match w with | .tup xs=>xs.drop 1 | _=>[])))]∧wg 1 w=true) (f:=fun x=>(bnd 1 x r).bind fun r'=>(evE (glo P (run P (n+2))) (.tup [.idx (.var 0) (.cst (.int 0)),.call "_law_worth" [.var 0,ke]]) r').map some) l (fun c hc=>by
  obtain ⟨w,e,hw⟩:=worth_wg h.worth (n+1) c k
  have e':(glo P (run P (n+2))).call "_law_worth" [c.t,.int k]=some w:=e
  have i0:idxT c.t (.int 0)=some (.str c.n):=by rw [Col.t,idxT,getI0]
  refine ⟨.tup [.str c.n,w],by simp [bnd,evE,evEs,i0,hk,e'],rfl,wg_tup (by simp) (fun x hx=>?_)⟩
  rcases List.mem_cons.mp hx with rfl | hx
  ·exact cn_wg _ (bo.as c (hl c hc))
  ·rw [List.mem_singleton.mp hx];exact hw)
 refine ⟨ps,e1,?_,h2⟩
 rw [evE_comp0,hs,Option.bind_some]
 have:itemsC .plain [.lst (l.map Col.t)]=some (l.map Col.t):=by simp [itemsC,items,hz]
 rw [this,Option.bind_some,e2]
 rfl
theorem eqNil (xs:List T):eqC (.lst xs) (.lst [])=some (.bl (eqT (.lst xs) (.lst []))):=by
 unfold eqC
 rw [if_pos (by rw [dpP,dps_nil];decide)]
theorem some_deed_run {P:Pr} (h:Mk P) (n:Nat) {S:List Tb} (hS:∀ b∈S,b.ok) (hSp:0<S.length) (k:Int):∃ t,run P (n+3) "_law_some_deed" [.tup (S.map Tb.t),.int k]=some t∧wg 3 t=true:=by
 obtain ⟨b,hbm,eb⟩:=getI_mem (enc:=Tb.t) (cs:=S) (by intro e;rw [e] at hSp;cases hSp) k
 have bo:=hS b hbm
 obtain ⟨rw1,kw,er1,wr1,ek,wk⟩:=row_key h n bo (k/64)
 obtain ⟨rw2,_,er2,wr2,_,_⟩:=row_key h n bo (drawnI k 7/4)
 have ed7:=drawn_run h.drawn (n+1) k 7
 have ed30:=drawn_run h.drawn (n+1) k 30
 have wnm:wg 2 (.str b.nm)=true:=by rw [wg,bo.na,decide_eq_true (by have:=bo.nm;omega)];rfl
 have hz:b.cs.length≤16777216:=by have:=bo.cl;omega
 have hSL:bltT .len (.tup (S.map Tb.t))=some (.int (S.length:Int)):=by simp [bltT]
 have hSI:idxT (.tup (S.map Tb.t)) (.int (k%(S.length:Int)))=some b.t:=eb
 have i0:idxT b.t (.int 0)=some (.str b.nm):=by rw [Tb.t,bareT_tab,tabT,idxT,getI0]
 have i1:idxT b.t (.int 1)=some (.tup (b.cs.map Col.t)):=by rw [Tb.t,bareT_tab,tabT,idxT,getI1]
 have i2:idxT b.t (.int 2)=some (.tup (b.key.map .str)):=by rw [Tb.t,bareT_tab,tabT,idxT,getI2]
 rw [run_succ h.deed rfl]
 show ∃ t,resultOf (evSs (glo P (run P (n+2))) d_law_some_deed.body [.val (.tup (S.map Tb.t)),.val (.int k),.no,.no,.no,.no])=some t∧_
 have cr1:(glo P (run P (n+2))).call "_law_row" [b.t,.int (k/64)]=some rw1:=er1
 have cr2:(glo P (run P (n+2))).call "_law_row" [b.t,.int (drawnI k 7/4)]=some rw2:=er2
 have ck:(glo P (run P (n+2))).call "_law_key" [b.t,rw1]=some kw:=ek
 have c7:(glo P (run P (n+2))).call "_law_drawn" [.int k,.int 7]=some (.int (drawnI k 7)):=ed7
 have c30:(glo P (run P (n+2))).call "_law_drawn" [.int k,.int 30]=some (.int (drawnI k 30)):=ed30
 unfold d_law_some_deed
 dsimp only
 generalize hX:T.tup (S.map Tb.t)=X at *
 rw [nx_of (asg_of (τ0:=[.val X,.val (.int k),.no,.no,.no,.no]) (t:=b.t) (τ':=[.val X,.val (.int k),.val b.t,.no,.no,.no]) rfl (by simp [evE,view,Sl.get,hSL,binT,modT,hSp,hSI]) rfl)]
 rw [nx_of (asg_of (τ0:=[.val X,.val (.int k),.val b.t,.no,.no,.no]) (t:=kw) (τ':=[.val X,.val (.int k),.val b.t,.val kw,.no,.no]) rfl (by simp [evE,evEs,view,Sl.get,binT,fdivT,cr1,ck]) rfl)]
 have hc:evE (glo P (run P (n+2))) (.comp (.var 0) 1 .plain [.idx (.var 2) (.cst (.int 1))] (some (.cmp .notin (.idx (.var 0) (.cst (.int 0))) (.idx (.var 3) (.cst (.int 2)))))) (view [.val X,.val (.int k),.val b.t,.val kw,.no,.no])=some (.lst ((plainC b).map Col.t)):=by
  rw [← plainC_map]
  exact comp_if (enc:=Col.t) (l:=b.cs) (xs:=[.tup (b.cs.map Col.t)]) (by simp [evEs,evE,view,Sl.get,i1]) (by simp [itemsC,items,hz]) rfl (fun c=>!isK b.key (.str c.n)) Col.t (fun c _=>by
   have:idxT c.t (.int 0)=some (.str c.n):=by rw [Col.t,idxT,getI0]
   simp [evE,view,Sl.get,this,i2,cmpT,isK_in]) (fun c _=>by simp [evE])
 rw [nx_of (asg_of (τ0:=[.val X,.val (.int k),.val b.t,.val kw,.no,.no]) (t:=.lst ((plainC b).map Col.t)) (τ':=[.val X,.val (.int k),.val b.t,.val kw,.val (.lst ((plainC b).map Col.t)),.no]) rfl hc rfl)]
 have hP:∃ p,eqC (.lst ((plainC b).map Col.t)) (.lst [])=some (.bl p):=⟨_,eqNil _⟩
 obtain ⟨p,ep⟩:=hP
 obtain ⟨m,hm4,hmm⟩:∃ m:Nat,m≤3∧1+k/16%3=(m:Int):=⟨(1+k/16%3).toNat,by omega,by omega⟩
 have hcut:sliT (.lst ((plainC b).map Col.t)) none (some (m:Int))=some (.lst (((plainC b).take m).map Col.t)):=by
  show some (T.lst (cut _ none (some (m:Int))))=_
  rw [cut_to',List.map_take]
 generalize hL:T.lst ((plainC b).map Col.t)=L at *
 have hcond:∃ v,evE (glo P (run P (n+2))) (.lor (.cmp .eq (.bin .mod (.bin .fdiv (.var 1) (.cst (.int 4))) (.cst (.int 3))) (.cst (.int 0))) (.land (.cmp .eq (.var 4) (.lst [])) (.cmp .eq (.bin .mod (.bin .fdiv (.var 1) (.cst (.int 4))) (.cst (.int 3))) (.cst (.int 2))))) (view [.val X,.val (.int k),.val b.t,.val kw,.val L,.no])=some (.bl v):=by
  cases h1:(k/4%3==0) with
  | true=>exact ⟨true,by simp [evE,view,Sl.get,binT,modT,fdivT,cmpT,eqI,h1]⟩
  | false =>
   cases p with
   | false=>exact ⟨false,by simp [evE,evEs,view,Sl.get,binT,modT,fdivT,cmpT,eqI,h1,ep]⟩
   | true=>exact ⟨k/4%3==2,by simp [evE,evEs,view,Sl.get,binT,modT,fdivT,cmpT,eqI,h1,ep]⟩
 obtain ⟨v,ev⟩:=hcond
 cases v with
 | true =>
  refine ⟨.tup [.str "add",.str b.nm,rw2],?_,wg_tup (by simp) (fun x hx=>?_)⟩
  ·rw [ite_yes (t:=.tup [.str "add",.str b.nm,rw2]) rfl ev rfl (by simp [evE,evEs,view,Sl.get,i0,binT,fdivT,c7,cr2])]
   rfl
  ·simp only [List.mem_cons,List.not_mem_nil,or_false] at hx
   rcases hx with rfl | rfl | rfl
   ·exact wds_wg.1
   ·exact wnm
   ·exact wg_up wr2
 | false =>
  rw [ite_no rfl ev]
  cases h1:(k/4%3==1) with
  | true =>
   refine ⟨.tup [.str "drop",.str b.nm,kw],?_,wg_tup (by simp) (fun x hx=>?_)⟩
   ·rw [ite_yes (t:=.tup [.str "drop",.str b.nm,kw]) rfl (by simp [evE,view,Sl.get,binT,modT,fdivT,cmpT,eqI,h1]) rfl (by simp [evE,evEs,view,Sl.get,i0])]
    rfl
   ·simp only [List.mem_cons,List.not_mem_nil,or_false] at hx
    rcases hx with rfl | rfl | rfl
    ·exact wds_wg.2.1
    ·exact wnm
    ·exact wg_up wk
  | false =>
   rw [ite_no rfl (by simp [evE,view,Sl.get,binT,modT,fdivT,cmpT,eqI,h1])]
   obtain ⟨ps,e1,e2,h2⟩:=pairs_ev h n bo (l:=(plainC b).take m) (fun c hc=>plainC_mem (List.mem_of_mem_take hc)) (by rw [List.length_take];omega) (src:=[.sli (.var 4) none (some (.bin .add (.cst (.int 1)) (.bin .mod (.bin .fdiv (.var 1) (.cst (.int 16))) (.cst (.int 3)))))]) (r:=view [.val X,.val (.int k),.val b.t,.val kw,.val L,.no]) (ke:=(.bin .fdiv (.call "_law_drawn" [.var 2,.cst (.int 30)]) (.cst (.int 4)))) (drawnI k 30/4) (by
    simp [evEs,evE,evO,view,Sl.get,binT,addT,modT,fdivT,asI,hmm,hcut]) (fun c=>by simp [evE,evEs,view,Sl.get,c30,binT,fdivT])
   rw [nx_of (asg_of (τ0:=[.val X,.val (.int k),.val b.t,.val kw,.val L,.no]) (t:=.lst (ps.map (·.2))) (τ':=[.val X,.val (.int k),.val b.t,.val kw,.val L,.val (.lst (ps.map (·.2)))]) rfl e2 rfl)]
   have hpl:ps.length≤4:=by
    have:=congrArg List.length e1
    rw [List.length_map,List.length_take] at this
    omega
   refine ⟨.tup [.str "set",.str b.nm,kw,.tup (ps.map (·.2))],?_,wg_tup (by simp) (fun x hx=>?_)⟩
   ·rw [ret0 (t:=.tup [.str "set",.str b.nm,kw,.tup (ps.map (·.2))]) rfl (by simp [evE,evEs,view,Sl.get,i0,bltT])]
    rfl
   ·simp only [List.mem_cons,List.not_mem_nil,or_false] at hx
    rcases hx with rfl | rfl | rfl | rfl
    ·exact wds_wg.2.2
    ·exact wnm
    ·exact wg_up wk
    ·refine wg_tup (by rw [List.length_map];exact hpl) (fun x hx=>?_)
     obtain ⟨q,hq,rfl⟩:=List.mem_map.mp hx
     exact (h2 q hq).2
theorem bd4 {a b c:T} {xs:List T} (ha:bd a=true) (hb:bd b=true) (hc:bd c=true) (hl:xs.length≤1000) (hx:∀ x∈xs,bd x=true):bd (.tup [a,b,c,.tup xs])=true:=by
 have:bd (.tup xs)=true:=by rw [bd,bds_of hx,decide_eq_true hl];rfl
 simp [bd.eq_2,bds,ha,hb,hc,this]
theorem third {P:Pr} (h:Mk P) (n:Nat) {S:List Tb} (hS:∀ b∈S,b.ok) (hSp:0<S.length) (N:Int) (A r5:T):∃ r s4 s5 s6 s7,bd r=true ∧
  evSs (glo P (run P (n+2))) [.asg 4 (.idx (.var 1) (.bin .mod (.bin .fdiv (.var 2) (.cst (.int 256))) (.blt .len (.var 1)))),
  .asg 5 (.comp (.tup [.idx (.var 0) (.cst (.int 0)),.call "_law_worth" [.var 0,.bin .fdiv (.var 3) (.cst (.int 1024))]]) 1 .plain [.idx (.var 4) (.cst (.int 1))] none),
  .asg 6 (.comp (.var 0) 1 .plain [.var 5] (some (.cmp .notin (.idx (.var 0) (.cst (.int 0))) (.idx (.var 5) (.cst (.int 2)))))),
  .asg 7 (.call "_law_key" [.var 4,.call "_law_row" [.var 4,.bin .fdiv (.var 2) (.cst (.int 64))]]),
  .asg 3 (.tup [.cst (.str "set"),.idx (.var 4) (.cst (.int 0)),.var 7,.blt .toTuple (.idx (.lst [.var 6,.var 5,.bin .mul (.var 6) (.cst (.int 2)),.bin .add (.var 6) (.sli (.var 6) none (some (.cst (.int 1)))),.var 6]) (.bin .mod (.bin .fdiv (.var 2) (.cst (.int 16384))) (.cst (.int 5))))])] [.val A,.val (.tup (S.map Tb.t)),.val (.int N),.val r5,.no,.no,.no,.no,.no] =
   some (.nx [.val A,.val (.tup (S.map Tb.t)),.val (.int N),.val r,.val s4,.val s5,.val s6,.val s7,.no]):=by
 obtain ⟨b,hbm,eb⟩:=getI_mem (enc:=Tb.t) (cs:=S) (by intro e;rw [e] at hSp;cases hSp) (N/256)
 have bo:=hS b hbm
 obtain ⟨rw1,kw,er1,wr1,ek,wk⟩:=row_key h n bo (N/64)
 have wnm:wg 2 (.str b.nm)=true:=by rw [wg,bo.na,decide_eq_true (by have:=bo.nm;omega)];rfl
 have hSL:bltT .len (.tup (S.map Tb.t))=some (.int (S.length:Int)):=by simp [bltT]
 have hSI:idxT (.tup (S.map Tb.t)) (.int (N/256%(S.length:Int)))=some b.t:=eb
 have i0:idxT b.t (.int 0)=some (.str b.nm):=by rw [Tb.t,bareT_tab,tabT,idxT,getI0]
 have i1:idxT b.t (.int 1)=some (.tup (b.cs.map Col.t)):=by rw [Tb.t,bareT_tab,tabT,idxT,getI1]
 have i2:idxT b.t (.int 2)=some (.tup (b.key.map .str)):=by rw [Tb.t,bareT_tab,tabT,idxT,getI2]
 have cr1:(glo P (run P (n+2))).call "_law_row" [b.t,.int (N/64)]=some rw1:=er1
 have ck:(glo P (run P (n+2))).call "_law_key" [b.t,rw1]=some kw:=ek
 generalize hX:T.tup (S.map Tb.t)=X at *
 rw [nx_of (asg_of (τ0:=[.val A,.val X,.val (.int N),.val r5,.no,.no,.no,.no,.no]) (t:=b.t) (τ':=[.val A,.val X,.val (.int N),.val r5,.val b.t,.no,.no,.no,.no]) rfl (by simp [evE,view,Sl.get,hSL,binT,modT,fdivT,hSp,hSI]) rfl)]
 have hz:b.cs.length≤16777216:=by have:=bo.cl;omega
 obtain ⟨ps,e1,e2,h2⟩:=compM_ex (enc:=Col.t) (Q:=fun c w=>∃ v,w=.tup [.str c.n,v]∧wg 1 w=true) (f:=fun x=>(bnd 1 x (view [.val A,.val X,.val (.int N),.val r5,.val b.t,.no,.no,.no,.no])).bind fun r'=>(evE (glo P (run P (n+2))) (.tup [.idx (.var 0) (.cst (.int 0)),.call "_law_worth" [.var 0,.bin .fdiv (.var 3) (.cst (.int 1024))]]) r').map some) b.cs (fun c hc=>by
  obtain ⟨w,e,hw⟩:=worth_wg h.worth (n+1) c (N/1024)
  have e':(glo P (run P (n+2))).call "_law_worth" [c.t,.int (N/1024)]=some w:=e
  have j0:idxT c.t (.int 0)=some (.str c.n):=by rw [Col.t,idxT,getI0]
  refine ⟨.tup [.str c.n,w],by simp [bnd,evE,evEs,view,Sl.get,j0,binT,fdivT,e'],w,rfl,wg_tup (by simp) (fun x hx=>?_)⟩
  rcases List.mem_cons.mp hx with rfl | hx
  ·exact cn_wg _ (bo.as c hc)
  ·rw [List.mem_singleton.mp hx];exact hw)
 have hpl:ps.length≤4:=by have:=bo.cl;rw [← e1,List.length_map] at this;exact this
 have hc5:evE (glo P (run P (n+2))) (.comp (.tup [.idx (.var 0) (.cst (.int 0)),.call "_law_worth" [.var 0,.bin .fdiv (.var 3) (.cst (.int 1024))]]) 1 .plain [.idx (.var 4) (.cst (.int 1))] none) (view [.val A,.val X,.val (.int N),.val r5,.val b.t,.no,.no,.no,.no])=some (.lst (ps.map fun p:Col × T=>p.2)):=by
  rw [evE_comp0]
  have s1:evEs (glo P (run P (n+2))) [.idx (.var 4) (.cst (.int 1))] (view [.val A,.val X,.val (.int N),.val r5,.val b.t,.no,.no,.no,.no])=some [.tup (b.cs.map Col.t)]:=by simp [evEs,evE,view,Sl.get,i1]
  have s2:itemsC .plain [.tup (b.cs.map Col.t)]=some (b.cs.map Col.t):=by simp [itemsC,items,hz]
  rw [s1,Option.bind_some,s2,Option.bind_some,e2]
  rfl
 rw [nx_of (asg_of (τ0:=[.val A,.val X,.val (.int N),.val r5,.val b.t,.no,.no,.no,.no]) (t:=.lst (ps.map fun p:Col × T=>p.2)) (τ':=[.val A,.val X,.val (.int N),.val r5,.val b.t,.val (.lst (ps.map fun p:Col × T=>p.2)),.no,.no,.no]) rfl hc5 rfl)]
 generalize hF:(ps.map fun p:Col × T=>p.2)=F at *
 have hFl:F.length≤4:=by rw [← hF,List.length_map];exact hpl
 have hFw:∀ x∈F,∃ z v,x=.tup [.str z,v]∧wg 1 x=true:=fun x hx=>by
  rw [← hF] at hx
  obtain ⟨p,hp,rfl⟩:=List.mem_map.mp hx
  obtain ⟨v,e,w⟩:=h2 p hp
  exact ⟨_,v,e,w⟩
 have hzF:F.length≤16777216:=by omega
 have hc6:evE (glo P (run P (n+2))) (.comp (.var 0) 1 .plain [.var 5] (some (.cmp .notin (.idx (.var 0) (.cst (.int 0))) (.idx (.var 5) (.cst (.int 2)))))) (view [.val A,.val X,.val (.int N),.val r5,.val b.t,.val (.lst F),.no,.no,.no])=some (.lst (F.filterMap fun x=>if !isK b.key (hdT x) then some x else none)) :=
  comp_if (enc:=fun t:T=>t) (l:=F) (its:=F) (xs:=[.lst F]) (by simp [evEs,evE,view,Sl.get]) (by simp [itemsC,items,hzF]) (by simp) (fun x=>!isK b.key (hdT x)) (fun x=>x) (fun x hx=>by
   obtain ⟨z,v,rfl,_⟩:=hFw x hx
   have j0:idxT (.tup [.str z,v]) (.int 0)=some (.str z):=by rw [idxT,getI0]
   simp [evE,view,Sl.get,j0,i2,cmpT,isK_in,hdT]) (fun x _=>by simp [evE])
 rw [nx_of (asg_of (τ0:=[.val A,.val X,.val (.int N),.val r5,.val b.t,.val (.lst F),.no,.no,.no]) (τ':=[.val A,.val X,.val (.int N),.val r5,.val b.t,.val (.lst F),.val (.lst (F.filterMap fun x=>if !isK b.key (hdT x) then some x else none)),.no,.no]) rfl hc6 rfl)]
 generalize hQ:(F.filterMap fun x=>if !isK b.key (hdT x) then some x else none)=Q at *
 have hQm:∀ x∈Q,x∈F:=fun x hx=>by
  rw [← hQ] at hx
  obtain ⟨y,hy,e⟩:=List.mem_filterMap.mp hx
  cases hb:isK b.key (hdT y) with
  | true=>rw [hb] at e;cases e
  | false=>rw [hb] at e;cases e;exact hy
 have hQl:Q.length≤4:=by rw [← hQ];exact Nat.le_trans (List.length_filterMap_le _ _) hFl
 rw [nx_of (asg_of (τ0:=[.val A,.val X,.val (.int N),.val r5,.val b.t,.val (.lst F),.val (.lst Q),.no,.no]) (t:=kw) (τ':=[.val A,.val X,.val (.int N),.val r5,.val b.t,.val (.lst F),.val (.lst Q),.val kw,.no]) rfl (by simp [evE,evEs,view,Sl.get,binT,fdivT,cr1,ck]) rfl)]
 have hmul:mulT (.lst Q) (.int 2)=some (.lst (Q++Q)):=by
  have:(List.replicate (Int.toNat 2) Q).flatten=Q++Q:=by simp [List.replicate]
  simp only [mulT]
  rw [if_pos (by omega),this]
 have hadd:(sliT (.lst Q) none (some 1)).bind (fun y=>addT (.lst Q) y)=some (.lst (Q++Q.take 1)):=by
  have h1:sliT (.lst Q) none (some 1)=some (.lst (Q.take 1)):=by
   show some (T.lst (cut Q none (some ((1:Nat):Int))))=_
   rw [cut_to']
  have h3:Q.length+(Q.take 1).length≤16777216:=by rw [List.length_take];omega
  rw [h1,Option.bind_some,addT,if_pos (show _≤SZ from h3)]
 obtain ⟨g,hg,eg⟩:=getI_mem (enc:=T.lst) (cs:=[Q,F,Q++Q,Q++Q.take 1,Q]) (by simp) (N/16384)
 have hgl:g.length≤1000∧∀ x∈g,x∈F:=by
  simp only [List.mem_cons,List.not_mem_nil,or_false] at hg
  rcases hg with rfl | rfl | rfl | rfl | rfl
  ·exact ⟨by omega,hQm⟩
  ·exact ⟨by omega,fun x hx=>hx⟩
  ·exact ⟨by rw [List.length_append];omega,fun x hx=>(List.mem_append.mp hx).elim (hQm x) (hQm x)⟩
  ·exact ⟨by rw [List.length_append,List.length_take];omega,fun x hx=>(List.mem_append.mp hx).elim (hQm x) fun z=>hQm x (List.mem_of_mem_take z)⟩
  ·exact ⟨by omega,hQm⟩
 refine ⟨.tup [.str "set",.str b.nm,kw,.tup g],b.t,.lst F,.lst Q,kw,bd4 (wg_bd wds_wg.2.2) (wg_bd wnm) (wg_bd wk) hgl.1 (fun x hx=>by
  obtain ⟨_,_,_,w⟩:=hFw x (hgl.2 x hx)
  exact wg_bd w),?_⟩
 rw [nx_of (asg_of (τ0:=[.val A,.val X,.val (.int N),.val r5,.val b.t,.val (.lst F),.val (.lst Q),.val kw,.no]) (t:=.tup [.str "set",.str b.nm,kw,.tup g]) (τ':=[.val A,.val X,.val (.int N),.val (.tup [.str "set",.str b.nm,kw,.tup g]),.val b.t,.val (.lst F),.val (.lst Q),.val kw,.no]) rfl (by
  have eg':getI [.lst Q,.lst F,.lst (Q++Q),.lst (Q++Q.take 1),.lst Q] (N/16384%5)=some (.lst g):=eg
  simp [evE,evEs,evO,view,Sl.get,i0,binT,modT,fdivT,hmul,asI] at hadd ⊢
  simp [hadd,idxT,eg',bltT]) rfl)]
 rfl
theorem once39_run {P:Pr} (hc:P.fn "_law_cell_at"=some d_law_cell_at) (hm:P.fn "_law_mixed"=some d_law_mixed) (hd:P.fn "_law_drawn"=some d_law_drawn) (ht:P.fn "_law_test"=some d_law_test) (hp:P.fn "_law_pairs"=some d_law_pairs) (hr:P.fn "_law_rule"=some d_law_rule)
  (hb:P.fn "_law_bare"=some d_law_bare) (hs:P.fn "_law_schema"=some d_law_schema) (hbt:Bent P)
  (a1:P.fn "_law_worth"=some d_law_worth) (a2:P.fn "_law_row"=some d_law_row) (a3:P.fn "_law_names"=some d_law_names) (a4:P.fn "_law_key"=some d_law_key) (a5:P.fn "_law_some_deed"=some d_law_some_deed)
  (b2:P.fn "_law_in"=some d_law_in) (b3:P.fn "_law_kind"=some d_law_kind) (b4:P.fn "_law_is_worth"=some d_law_is_worth) (b5:P.fn "_law_from"=some d_law_from) (b6:P.fn "_law_table"=some d_law_table) (b7:P.fn "_law_may"=some d_law_may) (b8:P.fn "_law_is_key"=some d_law_is_key) (b9:P.fn "_law_are_pairs"=some d_law_are_pairs) (b10:P.fn "_law_is_deed"=some d_law_is_deed)
  (i1:P.fn "is_worth"=some d_is_worth) (i2:P.fn "is_text_of"=some d_is_text_of) (c1:P.con "LETTERS"=some (.str LT)) (c2:P.con "FIGURES"=some (.str FG)) (i3:P.fn "is_tuple_of"=some d_is_tuple_of) (i4:P.fn "column_of"=some d_column_of) (i5:P.fn "columns_of"=some d_columns_of) (i6:P.fn "kinds_of"=some d_kinds_of) (i7:P.fn "may_stand"=some d_may_stand) (i8:P.fn "are_unlike"=some d_are_unlike)
  (i9:P.fn "table_of"=some d_table_of) (i10:P.fn "is_row"=some d_is_row) (i11:P.fn "is_deed"=some d_is_deed) (i12:P.fn "are_worths_of_key"=some d_are_worths_of_key) (i13:P.fn "are_pairs"=some d_are_pairs) (i14:P.fn "is_pair"=some d_is_pair) (hl:P.fn "_law_once"=some d_law30) (ns:List Int) :
  run P 19 "_law_once" [.lst (ns.map .int)]=some (.bl true):=by
 have pg:Prog P:=⟨i1,i2,c1,c2,i3,i4,i5,i6,i7,i8,i9,i10,i11,i12,i13,i14⟩
 have lg:Lawg P:=⟨a3,b2,b3,b4,b5,b6,b7,b8,b9,b10⟩
 have mk:Mk P:=⟨hd,a1,a2,a3,a4,a5⟩
 obtain ⟨S,es,hSl,hSo,hSp⟩:=schema_run hd ht hp hr hb hs 11 (mixedI (cellI ns 0) 0)
 have em0:run P 18 "_law_mixed" [.lst (ns.map .int),.int 0]=some (.int (mixedI (cellI ns 0) 0)):=mixed_run hc hm 16 ns 0
 have em1:run P 18 "_law_mixed" [.lst (ns.map .int),.int 1]=some (.int (mixedI (cellI ns 1) 1)):=mixed_run hc hm 16 ns 1
 have em2:run P 18 "_law_mixed" [.lst (ns.map .int),.int 2]=some (.int (mixedI (cellI ns 2) 2)):=mixed_run hc hm 16 ns 2
 have em3:run P 18 "_law_mixed" [.lst (ns.map .int),.int 3]=some (.int (mixedI (cellI ns 3) 3)):=mixed_run hc hm 16 ns 3
 have es':run P 18 "_law_schema" [.int (mixedI (cellI ns 0) 0)]=some (.tup (S.map Tb.t)):=es
 generalize hN:mixedI (cellI ns 1) 1=N at em1
 generalize hM:mixedI (cellI ns 3) 3=M at em3
 generalize hK:mixedI (cellI ns 2) 2=K at em2
 obtain ⟨t,et,htw⟩:=some_deed_run mk 15 hSo hSp K
 have et':run P 18 "_law_some_deed" [.tup (S.map Tb.t),.int K]=some t:=et
 obtain ⟨r,er0,hrb⟩:=bent_run hbt (d:=3) (by omega) 10 (wg_wn htw).2 (wg_wn htw).1 M (.int (N/2%5))
 have er:run P 18 "_law_spoilt" [t,.int M,.int (N/2%5)]=some r:=er0
 rw [run_succ hl rfl]
 generalize hA:T.lst (ns.map T.int)=A at *
 show resultOf (evSs (glo P (run P 18)) d_law30.body [.val A,.no,.no,.no,.no,.no,.no,.no,.no])=_
 unfold d_law30
 dsimp only
 rw [nx_of (asg_of (τ0:=[.val A,.no,.no,.no,.no,.no,.no,.no,.no]) (t:=.tup (S.map Tb.t)) (τ':=[.val A,.val (.tup (S.map Tb.t)),.no,.no,.no,.no,.no,.no,.no]) rfl (by simp [evE,evEs,view,Sl.get,glo,em0,es']) rfl)]
 rw [nx_of (asg_of (τ0:=[.val A,.val (.tup (S.map Tb.t)),.no,.no,.no,.no,.no,.no,.no]) (t:=.int N) (τ':=[.val A,.val (.tup (S.map Tb.t)),.val (.int N),.no,.no,.no,.no,.no,.no]) rfl (by simp [evE,evEs,view,Sl.get,glo,em1]) rfl)]
 rw [nx_of (asg_of (τ0:=[.val A,.val (.tup (S.map Tb.t)),.val (.int N),.no,.no,.no,.no,.no,.no]) (t:=t) (τ':=[.val A,.val (.tup (S.map Tb.t)),.val (.int N),.val t,.no,.no,.no,.no,.no]) rfl (by simp [evE,evEs,view,Sl.get,glo,em2,et']) rfl)]
 have h5:∃ r,bd r=true∧∀ ss,evSs (glo P (run P 18)) (.ite (.cmp .eq (.bin .mod (.var 2) (.cst (.int 2))) (.cst (.int 1))) [.asg 3 (.call "_law_spoilt" [.var 3,.call "_law_mixed" [.var 0,.cst (.int 3)],.bin .mod (.bin .fdiv (.var 2) (.cst (.int 2))) (.cst (.int 5))])] []::ss) [.val A,.val (.tup (S.map Tb.t)),.val (.int N),.val t,.no,.no,.no,.no,.no]=evSs (glo P (run P 18)) ss [.val A,.val (.tup (S.map Tb.t)),.val (.int N),.val r,.no,.no,.no,.no,.no]:=by
  by_cases h:N%2=1
  ·refine ⟨r,hrb,fun ss=>ite_nx rfl (by simp [evE,view,Sl.get,cmpT,binT,modT,eqI,h]) ?_⟩
   rw [nx_of (asg_of (τ0:=[.val A,.val (.tup (S.map Tb.t)),.val (.int N),.val t,.no,.no,.no,.no,.no]) (t:=r) (τ':=[.val A,.val (.tup (S.map Tb.t)),.val (.int N),.val r,.no,.no,.no,.no,.no]) rfl (by
    simp [evE,evEs,view,Sl.get,glo,em3,binT,modT,fdivT,er]) rfl)]
   rfl
  ·exact ⟨t,wg_bd htw,fun ss=>ite_no rfl (by simp [evE,view,Sl.get,cmpT,binT,modT,eqI,h])⟩
 obtain ⟨r5,hb5,e5⟩:=h5
 rw [e5]
 obtain ⟨u,s4,s5,s6,s7,hub,eu⟩:=third mk 16 hSo hSp N A r5
 have h6:∃ r q4 q5 q6 q7,bd r=true∧∀ ss,evSs (glo P (run P 18)) (.ite (.cmp .eq (.bin .mod (.bin .fdiv (.var 2) (.cst (.int 64))) (.cst (.int 3))) (.cst (.int 1))) [.asg 4 (.idx (.var 1) (.bin .mod (.bin .fdiv (.var 2) (.cst (.int 256))) (.blt .len (.var 1)))),
  .asg 5 (.comp (.tup [.idx (.var 0) (.cst (.int 0)),.call "_law_worth" [.var 0,.bin .fdiv (.var 3) (.cst (.int 1024))]]) 1 .plain [.idx (.var 4) (.cst (.int 1))] none),
  .asg 6 (.comp (.var 0) 1 .plain [.var 5] (some (.cmp .notin (.idx (.var 0) (.cst (.int 0))) (.idx (.var 5) (.cst (.int 2)))))),
  .asg 7 (.call "_law_key" [.var 4,.call "_law_row" [.var 4,.bin .fdiv (.var 2) (.cst (.int 64))]]),
  .asg 3 (.tup [.cst (.str "set"),.idx (.var 4) (.cst (.int 0)),.var 7,.blt .toTuple (.idx (.lst [.var 6,.var 5,.bin .mul (.var 6) (.cst (.int 2)),.bin .add (.var 6) (.sli (.var 6) none (some (.cst (.int 1)))),.var 6]) (.bin .mod (.bin .fdiv (.var 2) (.cst (.int 16384))) (.cst (.int 5))))])] []::ss) [.val A,.val (.tup (S.map Tb.t)),.val (.int N),.val r5,.no,.no,.no,.no,.no]=evSs (glo P (run P 18)) ss [.val A,.val (.tup (S.map Tb.t)),.val (.int N),.val r,q4,q5,q6,q7,.no]:=by
  by_cases h:N/64%3=1
  ·exact ⟨u,.val s4,.val s5,.val s6,.val s7,hub,fun ss=>ite_nx rfl (by simp [evE,view,Sl.get,cmpT,binT,modT,fdivT,eqI,h]) eu⟩
  ·exact ⟨r5,.no,.no,.no,.no,hb5,fun ss=>ite_no rfl (by simp [evE,view,Sl.get,cmpT,binT,modT,fdivT,eqI,h])⟩
 obtain ⟨r6,q4,q5,q6,q7,hb6,e6⟩:=h6
 rw [e6]
 have f1:run P 18 "is_deed" [.tup (S.map Tb.t),r6]=some (.bl (deedB S r6)):=is_deed_run pg 12 S hSo hb6
 have f2:run P 18 "_law_is_deed" [.tup (S.map Tb.t),r6]=some (.bl (deedB S r6)):=lis_deed_run lg 13 S hSl hSo hb6
 rw [nx_of (asg_of (τ0:=[.val A,.val (.tup (S.map Tb.t)),.val (.int N),.val r6,q4,q5,q6,q7,.no]) (t:=.bl (deedB S r6)) (τ':=[.val A,.val (.tup (S.map Tb.t)),.val (.int N),.val r6,q4,q5,q6,q7,.val (.bl (deedB S r6))]) rfl (by simp [evE,evEs,view,Sl.get,glo,f1]) rfl)]
 rw [rt_of (ret_of (τ0:=[.val A,.val (.tup (S.map Tb.t)),.val (.int N),.val r6,q4,q5,q6,q7,.val (.bl (deedB S r6))]) (t:=.bl true) rfl (by
  simp [evE,evEs,view,Sl.get,glo,f2,isiT,cmpT,eqC,dpP,eqT]))]
 rfl
end Ev.K04
end
noncomputable section
lay_quick PySem.Challenge.pw_dealtables_k39_lists_anywhere_in_deeds
namespace Ev
open PySem PySem.Spec PyProof.Rows L2
noncomputable def pT:Program:=PySem.W.Fast.tw15447828015344515988
theorem pT_eq:PySem.Challenge.pw_dealtables_k39_lists_anywhere_in_deeds=pT:=PySem.W.Fast.te15447828015344515988
noncomputable def top (i:Nat):Stmt:=pT.main.body.getD i (.Pass ⟨0,0,0,0⟩)
noncomputable def tab:Tab:=("is_tuple_of",K04.d_is_tuple_of,top 3,["thing", "fewest", "most"])::("is_text_of",K04.d_is_text_of,top 4,["thing", "fewest", "most", "signs"])::("is_worth",K04.d_is_worth,top 5,["kind", "thing"])::("may_stand",K04.d_may_stand,top 6,["column", "thing"])::("are_unlike",K04.d_are_unlike,top 7,["names"])::("table_of",K04.d_table_of,top 8,["schema", "name"])::("column_of",K04.d_column_of,top 9,["table", "name"])::("columns_of",K04.d_columns_of,top 10,["table", "names"])::("kinds_of",K04.d_kinds_of,top 11,["table", "names"])::("is_row",K04.d_is_row,top 12,["table", "thing"])::("is_deed",K04.d_is_deed,top 14,["schema", "thing"])::("are_worths_of_key",K04.d_are_worths_of_key,top 15,["table", "thing"])::("are_pairs",K04.d_are_pairs,top 16,["table", "thing"])::("is_pair",K04.d_is_pair,top 17,["table", "thing"])::("_law_cell_at",K04.d_law_cell_at,top 19,["_law_script", "_law_k"])::("_law_mixed",K04.d_law_mixed,top 20,["_law_script", "_law_k"])::("_law_drawn",K04.d_law_drawn,top 21,["_law_number", "_law_k"])::("_law_names",K04.d_law_names,top 22,["_law_table_here"])::("_law_table",K04.d_law_table,top 23,["_law_schema_here", "_law_name"])::("_law_key",K04.d_law_key,top 24,["_law_table_here", "_law_row_here"])::("_law_test",K04.d_law_test,top 25,["_law_table_here", "_law_number", "_law_deep"])::("_law_bare",K04.d_law_bare,top 26,["_law_name", "_law_number"])::("_law_pairs",K04.d_law_pairs,top 27,["_law_table_here", "_law_kinds"])::("_law_rule",K04.d_law_rule,top 28,["_law_bare_here", "_law_table_here", "_law_number"])::("_law_schema",K04.d_law_schema,top 29,["_law_number"])::("_law_worth",K04.d_law_worth,top 30,["_law_column", "_law_number"])::("_law_row",K04.d_law_row,top 31,["_law_table_here", "_law_number"])::("_law_from",K04.d_law_from,top 32,["_law_thing", "_law_low", "_law_high"])::("_law_in",K04.d_law_in,top 33,["_law_thing", "_law_words"])::("_law_is_worth",K04.d_law_is_worth,top 34,["_law_thing", "_law_kind_here"])::("_law_kind",K04.d_law_kind,top 35,["_law_table_here", "_law_name"])::("_law_some_deed",K04.d_law_some_deed,top 36,["_law_schema_here", "_law_number"])::("_law_may",K04.d_law_may,top 37,["_law_column", "_law_worth_here"])::("_law_is_key",K04.d_law_is_key,top 38,["_law_table_here", "_law_thing"])::("_law_are_pairs",K04.d_law_are_pairs,top 39,["_law_table_here", "_law_thing"])::("_law_is_deed",K04.d_law_is_deed,top 40,["_law_schema_here", "_law_thing"])::("_law_places_in",K04.d_law_places_in,top 41,["_law_bent_one", "_law_bent_way"])::("_law_otherwise",K04.d_law_otherwise,top 43,["_law_bent_one", "_law_bent_number"])::("_law_once",K04.d_law30,top 45,["_law_script"])::("law",K04.d_law09,top 46,["_law_script"])::[]
noncomputable def cons:List (Str × T):=[("FIGURES",.str K04.FG),("LETTERS",.str K04.LT)]
theorem stAll:(tab.all fun p=>stOk p.2.1 p.2.2.1 p.2.2.2)=true:=by kernel_rfl
theorem trAll:(tab.map fun p=>trSs 60 ⟨defScope p.2.2.1,fnNames (defScope p.2.2.1)⟩ (defBody p.2.2.1))=tab.map fun p=>some p.2.1.body:=by kernel_rfl
theorem tab_st:∀ p∈tab,St p.1 p.2.1 p.2.2.1 p.2.2.2:=fun p hp=>st_of (List.all_eq_true.mp stAll p hp) (List.map_inj_left.mp trAll p hp)
theorem law_mem:(("law":Str),K04.d_law09,top 46,[("_law_script":Str)])∈tab:=(.tail _ (.tail _ (.tail _ (.tail _ (.tail _ (.tail _ (.tail _ (.tail _ (.tail _ (.tail _ (.tail _ (.tail _ (.tail _ (.tail _ (.tail _ (.tail _ (.tail _ (.tail _ (.tail _ (.tail _ (.tail _ (.tail _ (.tail _ (.tail _ (.tail _ (.tail _ (.tail _ (.tail _ (.tail _ (.tail _ (.tail _ (.tail _ (.tail _ (.tail _ (.tail _ (.tail _ (.tail _ (.tail _ (.tail _ (.head _))))))))))))))))))))))))))))))))))))))))
theorem put_st:PutS (top 42):=⟨by kernel_rfl,⟨by kernel_rfl,by kernel_rfl,by kernel_rfl,by decide +kernel,by decide +kernel,by decide +kernel,by decide +kernel⟩,by kernel_rfl,by kernel_rfl,by kernel_rfl⟩
theorem lam_nm:(spoL (top 44)).2.2.1.names=[(lamPx,.local),(lamNx,.free),("_law_otherwise",.globalImplicit)]:=by kernel_rfl
theorem spo_st:SpoS (top 44):=⟨by kernel_rfl,⟨by kernel_rfl,by kernel_rfl,by kernel_rfl,by decide +kernel,by decide +kernel,by decide +kernel,by decide +kernel⟩,by kernel_rfl,by kernel_rfl,by kernel_rfl,lamS_of (a:=argOf (spoL (top 44)).1) (by kernel_rfl) (by kernel_rfl) (by kernel_rfl) lam_nm (by kernel_rfl) (by kernel_rfl) (by kernel_rfl),clo_of lam_nm⟩
theorem law_pure:∀ ns:List Int,ns.length≤63→run (tab.prT cons) 20 "law" [.lst (ns.map .int)]=some (.bl true):=fun ns hn=>K04.turns_run rfl (K04.once39_run rfl rfl rfl rfl rfl rfl rfl rfl ⟨rfl,rfl,rfl,rfl,rfl⟩ rfl rfl rfl rfl rfl rfl rfl rfl rfl rfl rfl rfl rfl rfl rfl rfl rfl rfl rfl rfl rfl rfl rfl rfl rfl rfl rfl rfl rfl rfl rfl) ns hn
end Ev
end
noncomputable section
namespace Ev
open PySem PySem.Spec PySem.W PyProof.Rows L2
noncomputable def qT:Program:=PySem.W.view pT [1,2,3,4,5,6,7,8,9,10,11,12,14,15,16,17,19,20,21,22,23,24,25,26,27,28,29,30,31,32,33,34,35,36,37,38,39,40,41,42,43,44,45,46]
noncomputable def xT (s:Shared):Bool:=xlAt qT [] s&&recOk [] s
noncomputable def sts:List (Str × Stmt):=tab.stsT (top 44) (top 42)
noncomputable def hkT:Hook:=seeHookL sts bnames cons
noncomputable def hdL (w:World):=(openEnds treeTable pT w 2588).map fun s=>(openSeen qT [] (importedModules pT.main.body) xT true s,seeL (sts.map (·.1)) bnames (cons.map (·.1)) s.heap)
noncomputable def hdR (w:World):=some (openGood qT [],some (dueAll sts bnames cons,true))
lay_quick Ev.hdL Ev.hdR
theorem hd_left:∀ w,PySem.W.Fast.tw16613198539260469538 w=PySem.W.Fast.tw4742246816059606431 w:=fun w=>by kernel_rfl
theorem hd_left':LeftO PySem.Challenge.pw_dealtables_k39_lists_anywhere_in_deeds qT [] xT hkT.obs hkT.val 2588:=by
 rw [pT_eq]
 exact fun w=>((congrFun PySem.W.Fast.te16613198539260469538 w).trans (hd_left w)).trans (congrFun PySem.W.Fast.te4742246816059606431 w).symm
theorem nm_law:("law":Str)=⟨#[108,97,119]⟩:=by decide +kernel
noncomputable def dL:DefRec:=⟨⟨#[108,97,119]⟩,defArgs (top 46),defBody (top 46),defScope (top 46),(match top 46 with | .FunctionDef _ _ _ _ _ _ _ _ _ p=>p | _=>⟨0,0,0,0⟩)⟩
theorem hd_def:defOf qT ("law":Str)=some (dL,[]):=by rw [nm_law];kernel_rfl
theorem hd_the:Program.theDef PySem.Challenge.pw_dealtables_k39_lists_anywhere_in_deeds ("law":Str)=some (dL.params,dL.body,dL.scope):=by rw [pT_eq,nm_law];kernel_rfl
end Ev
open PySem PySem.W PyProof.Rows
set_option maxRecDepth 100000 in
set_option maxHeartbeats 0 in
theorem PySem.Challenge.cw_dealtables_k39_lists_anywhere_in_deeds_holds : PySem.Challenge.rw_dealtables_k39_lists_anywhere_in_deeds.Holds := by
 w_on;o_law
 refine PySem.W.holds_open (q:=Ev.qT) (loose:=[]) (Xt:=Ev.xT) (XP:=XL Ev.qT []) (Yf:=Ev.hkT.obs) (Ya:=Ev.hkT.val) (YP:=Ev.hkT.says) (N:=2588) Ev.hd_left' Ev.hkT.of Ev.hkT.keeps (fun s e=>xl_of s (Bool.and_eq_true_iff.mp e).1) XL.keeps Ev.hd_def Ev.hd_the rfl (fun s e=>recFacts_of (Bool.and_eq_true_iff.mp e).2) rfl (by assumption) (by first | k_qdec | decide +kernel) ⟨rfl,rfl,rfl,rfl,rfl,by decide +kernel⟩ ?hw ?hc
 case hw=>w_witness2
 case hc=>exact Ev.walk_seeT (l:=PySem.Challenge.rw_dealtables_k39_lists_anywhere_in_deeds) (n:=63) (k:=19) (x:="_law_script") (tab:=Ev.tab) (cs:=Ev.cons) rfl (by decide) rfl ⟨rfl,by decide,by decide⟩ Ev.nm_law.symm Ev.tab_st Ev.spo_st Ev.put_st (Ev.bind_of (ps:=[Ev.spoT,Ev.lamNx,Ev.spoD]) (by kernel_rfl) (by kernel_rfl) (by decide +kernel)) (Ev.bind_of (ps:=[Ev.putO,Ev.putW,Ev.putB]) (by kernel_rfl) (by kernel_rfl) (by decide +kernel)) Ev.law_mem rfl rfl rfl rfl Ev.law_pure
end
